import PyProof.Rows.All
import Wide.All
import OpenK.AllK
import Wide.FinOn
import Lean
import PyProof.EqAt
import PyProof.EqKinds
import PyProof.TupleCall
import PyProof.NeKinds
import PyProof.StrLawsIn
import KE.KRevSl
import PyProof.ZipIter
import PyProof.ListRange
import PyProof.Rows.SortStr
import KE.KRevIter
import KE.KDictSum
import PyProof.EnumMake
import PyProof.EnumFor
import PySem.Challenge.RW_pastways_k21_whole_past
set_option Elab.async false
set_option linter.all false
set_option maxRecDepth 100000
namespace L2
open PySem PySem.Spec PyProof.Rows
abbrev Key:=Sum Int Str
noncomputable def m5:Key→Value→Bool
 | .inl k,v=>Value.isInt k v
 | .inr x,v=>Value.isStrOf x v
noncomputable def WA (w:World):Key→Int
 | .inl k=>hashInt k
 | .inr x=>hashStr w x
theorem dc:∀ {k:Key}{v:Value},m5 k v=true→(∃ i t,k=Sum.inl i∧v=Value.int i t)∨(∃ x t,k=Sum.inr x∧v=Value.str x t)
 | .inl i,v,h=>by
  obtain ⟨t,e⟩:=Value.isInt_shape (k:=i) (v:=v) h
  exact .inl ⟨i,t,rfl,e⟩
 | .inr x,v,h=>by
  obtain ⟨t,e⟩:=Value.isStrOf_shape (x:=x) (v:=v) h
  exact .inr ⟨x,t,rfl,e⟩
theorem zC (i:Int) (t:Tok):m5 (.inl i) (.int i t)=true:=by simp [m5,Value.isInt]
theorem zD (x:Str) (t:Tok):m5 (.inr x) (.str x t)=true:=by simp [m5,Value.isStrOf]
theorem Ku (a b:Int):decide ((Sum.inl a:Key)=Sum.inl b)=(a==b):=by
 by_cases e:a=b
 ·subst e;simp
 ·have h:¬ (Sum.inl a:Key)=Sum.inl b:=fun q=>e (Sum.inl.inj q)
  rw [decide_eq_false h]
  exact (beq_eq_false_iff_ne.mpr e).symm
theorem Kv (a b:Str):decide ((Sum.inr a:Key)=Sum.inr b)=decide (a=b):=by
 by_cases e:a=b
 ·subst e;simp
 ·have h:¬ (Sum.inr a:Key)=Sum.inr b:=fun q=>e (Sum.inr.inj q)
  rw [decide_eq_false h,decide_eq_false e]
theorem Kw (a:Int) (b:Str):decide ((Sum.inl a:Key)=Sum.inr b)=false:=decide_eq_false (fun q=>nomatch q)
theorem Ky (a:Str) (b:Int):decide ((Sum.inr a:Key)=Sum.inl b)=false:=decide_eq_false (fun q=>nomatch q)
noncomputable def cE (prog:Program) (w:World):PySem.KeyKind prog w Key where
 is:=m5
 hash:=WA w
 inj:=fun v a b ha hb=>by
  rcases dc ha with ⟨i,t,rfl,rfl⟩ | ⟨x,t,rfl,rfl⟩
  ·rcases dc hb with ⟨j,u,rfl,e⟩ | ⟨y,u,rfl,e⟩
   ·injection e with e1 _;rw [e1]
   ·exact nomatch e
  ·rcases dc hb with ⟨j,u,rfl,e⟩ | ⟨y,u,rfl,e⟩
   ·exact nomatch e
   ·injection e with e1 _;rw [e1]
 byValue:=fun k v h=>by
  rcases dc h with ⟨i,t,rfl,rfl⟩ | ⟨x,t,rfl,rfl⟩ <;> rfl
 pyHash:=fun hv h=>by
  rcases dc hv with ⟨i,t,rfl,rfl⟩ | ⟨x,t,rfl,rfl⟩
  ·exact wpAny_pyHash_int h
  ·exact wpAny_pyHash_str h
 eqBool:=fun hu hv h=>by
  rcases dc hu with ⟨i,t,rfl,rfl⟩ | ⟨x,t,rfl,rfl⟩
  ·rcases dc hv with ⟨j,u,rfl,rfl⟩ | ⟨y,u,rfl,rfl⟩
   ·rw [Ku] at h;exact wpAny_eqBool_int h
   ·rw [Kw] at h;exact SeqAt.EqAt.int_str i t y u _ _ _ _ h
  ·rcases dc hv with ⟨j,u,rfl,rfl⟩ | ⟨y,u,rfl,rfl⟩
   ·rw [Ky] at h;exact SeqAt.EqAt.str_int x t j u _ _ _ _ h
   ·rw [Kv] at h;exact wpAny_eqBool_str h
 «strs»:=fun k x t v h=>by
  rcases dc h with ⟨i,u,rfl,e⟩ | ⟨y,u,rfl,e⟩
  ·exact nomatch e
  ·injection e with e1 _
   subst e1
   cases v <;> rfl
theorem vJ (prog:Program) (w:World) (i:Int) (t:Tok):(cE prog w).is (.inl i) (.int i t)=true:=zC i t
theorem vK (prog:Program) (w:World) (x:Str) (t:Tok):(cE prog w).is (.inr x) (.str x t)=true:=zD x t
end L2
namespace L2
open PySem PySem.Spec PyProof.Rows
inductive V where
 | bD | bl (b:Bool) | int (i:Int) | str (x:Str) | zE (b:Array UInt8) | zF (b:UInt64) | ref (a:Addr) | ty (n:String)
 deriving DecidableEq
noncomputable def RelV:V→Value→Prop
 | .bD,u=>u=Value.none
 | .bl b,u=>u=Value.bool b
 | .int i,u=>∃ t,u=Value.int i t
 | .str x,u=>∃ t,u=Value.str x t
 | .zE b,u=>∃ t,u=Value.bytes b t
 | .zF b,u=>∃ t,u=Value.float b t
 | .ref a,u=>u=Value.ref a
 | .ty n,u=>u=Value.type n
abbrev Vals:List V→List Value→Prop:=Paired RelV
theorem Vals.length {xs:List V}{us:List Value}(r:Vals xs us):xs.length=us.length:=Paired.length r
theorem Vals.get:∀ {xs:List V}{us:List Value}{i:Nat}{x:V},Vals xs us→xs[i]?=some x→∃ u,us[i]?=some u∧RelV x u
 | _,_,_,_,.nil,e=>by simp at e
 | _,_,0,_,.cons r _,e=>by simp at e;subst e;exact ⟨_,rfl,r⟩
 | _,_,i+1,x,.cons _ t,e=>by
  obtain ⟨u,h1,h2⟩:=Vals.get (i:=i) (x:=x) t (by simpa using e)
  exact ⟨u,by simpa using h1,h2⟩
theorem Vals.append:∀ {xs ys:List V}{us ws:List Value},Vals xs us→Vals ys ws→Vals (xs++ys) (us++ws)
 | _,_,_,_,.nil,s=>s
 | _,_,_,_,.cons r t,s=>.cons r (Vals.append t s)
theorem Vals.take:∀ {xs:List V}{us:List Value}(n:Nat),Vals xs us→Vals (xs.take n) (us.take n)
 | _,_,0,_=>.nil
 | _,_,_+1,.nil=>.nil
 | _,_,n+1,.cons r t=>.cons r (Vals.take n t)
theorem Vals.drop:∀ {xs:List V}{us:List Value}(n:Nat),Vals xs us→Vals (xs.drop n) (us.drop n)
 | _,_,0,r=>r
 | _,_,_+1,.nil=>.nil
 | _,_,n+1,.cons _ t=>Vals.drop n t
noncomputable def iT:Option V→Option Value→Prop
 | some v,some u=>RelV v u
 | none,none=>True
 | _,_=>False
noncomputable def KV {κ:Type}:List (κ×V)→List (κ×Value)→Prop:=Paired fun (p:κ×V) (q:κ×Value)=>p.1=q.1∧RelV p.2 q.2
noncomputable def kV:Key→V
 | .inl i=>.int i
 | .inr x=>.str x
inductive HO where
 | lst (xs:List V)
 | tup (xs:List V)
 | dK (kvs:List (Key×V)) | dT (kvs:List (List Key×V))
 | set (S:Int→Bool) (n:Nat)
 | ins (C dx:Addr) (fs:List (Str×V))
 | own (x:Addr)
 | xd (fs:List (Str×V))
 | met (f x:Addr)
 | gy (lo hi:Int)
 | bU (o:Obj) (u:HO)
 | tB (ps:Array Value)
 | ext (φ:Heap→Prop)
abbrev Hp:=Addr→Option HO
noncomputable def upd (H:Hp) (a:Addr) (o:HO):Hp:=fun b=>if b=a then some o else H b
theorem eL {H:Hp}{a:Addr}{o:HO}:upd H a o a=some o:=by unfold upd;rw [if_pos rfl]
theorem aU {H:Hp}{a b:Addr}{o:HO}(h:b≠a):upd H a o b=H b:=by unfold upd;rw [if_neg h]
theorem gS {H:Hp}{a b:Addr}{o u:HO}(h:H a=some o) (h':H b=some u) (d:o≠u):a≠b:=by
 intro e;subst e;rw [h] at h';exact d (Option.some.inj h')
theorem bC {H:Hp}{a b:Addr}{o:HO}(h:H a=some o) (h':H b=none):a≠b:=by
 intro e;subst e;rw [h] at h';cases h'
section
variable (P:Program)(w:World)
noncomputable def dg (H:Hp) (h:Heap) (a:Addr):HO→Prop
 | .lst xs=>xs.length≤sizeLine∧∃ (its:List Value) (n:Nat),Vals xs its∧h.get? a=some { cls:=.type "list",data:=.seq its.toArray n }
 | .tup xs=>xs.length≤sizeLine∧∃ its:List Value,Vals xs its∧IsTup h a its.toArray
 | .dK kvs=>kvs.length≤sizeLine∧(a==sysModules)=false∧∃ vs,KV kvs vs∧h.DictOf (cE P w) a vs
 | .dT kvs=>kvs.length≤sizeLine∧(a==sysModules)=false∧∃ xs:List (List Key×Addr×Value),
   Paired (fun (p:List Key×V) (q:List Key×Addr×Value)=>p.1=q.1∧H q.2.1=some (.tup (p.1.map kV))∧RelV p.2 q.2.2) kvs xs∧
   ∃ o es ep,h.get? a=some o∧o.ExactDict∧o.data=.dict es ep∧es.toList=xs.map (entryOfKey (tupleKind (cE P w)))∧(xs.map (·.1)).Nodup
 | .set S n=>h.SetOf (intKind P w) a S n
 | .ins C dx fs=>H dx=some (.own a)∧fs.length≤1000∧dx≠a∧h.get? a=some (PySem.W.instObj C dx)∧
   ∃ mA,h.Ns1 dx mA∧(∀ f,iT (fs.lookup f) (mA f))∧PySem.Within mA (fs.map (·.1))
 | .own _=>∃ o,h.get? a=some o
 | .xd fs=>∃ mA,h.Ns1 a mA∧∀ f,iT (fs.lookup f) (mA f)
 | .gy lo hi=>∃ t u v,h.get? a=some { cls:=.type "range",data:=.fields #[.int lo t,.int hi u,.int 1 v]}
 | .bU o u=>h.get? a=some o∧dg H h a u
 | .tB ps=>h.get? a=some { cls:=.none,data:=.fields ps }
 | .met f x=>h.get? a=some (PySem.W.methodObj (.ref f) (.ref x))
 | .ext φ=>φ h∧(∃ o,h.get? a=some o)∧∀ h1 h2:Heap,φ h1→(∀ o,h1.get? a=some o→h2.get? a=some o)→φ h2
noncomputable def ek (H:Hp) (h:Heap):Prop:=∀ a o,H a=some o→dg P w H h a o
end
section
variable {P:Program}{w:World}{H H':Hp}{h h':Heap}{a:Addr}{o:HO}
theorem dg.lt (x:dg P w H h a o):a<h.objs.size:=by
 cases o with
 | lst xs=>obtain ⟨_,_,_,_,e⟩:=x;exact Heap.lt_size e
 | tup xs=>obtain ⟨_,_,_,p⟩:=x;exact p.lt
 | dK kvs=>obtain ⟨_,_,_,_,o,_,_,e,_⟩:=x;exact Heap.lt_size e
 | dT kvs=>obtain ⟨_,_,_,_,o,_,_,e,_⟩:=x;exact Heap.lt_size e
 | set S n=>obtain ⟨o,_,_,_,e,_⟩:=x;exact Heap.lt_size e
 | ins C dx fs=>obtain ⟨_,_,_,e,_⟩:=x;exact Heap.lt_size e
 | own y=>obtain ⟨_,e⟩:=x;exact Heap.lt_size e
 | xd fs=>obtain ⟨_,⟨_,_,_,e,_⟩,_⟩:=x;exact Heap.lt_size e
 | gy lo hi=>obtain ⟨_,_,_,e⟩:=x;exact Heap.lt_size e
 | bU ob u=>obtain ⟨e,_⟩:=x;exact Heap.lt_size e
 | tB ps=>exact Heap.lt_size (show h.get? a=some _ from x)
 | met f y=>exact Heap.lt_size (show h.get? a=some _ from x)
 | ext φ=>obtain ⟨_,⟨_,e⟩,_⟩:=x;exact Heap.lt_size e
theorem Paired.Ci {α β:Type}{F G:α→β→Prop}:∀ {l₁:List α}{l₂:List β},Paired F l₁ l₂→(∀ a b,F a b→G a b)→Paired G l₁ l₂
 | _,_,.nil,_=>.nil
 | _,_,.cons r t,f=>.cons (f _ _ r) (Paired.Ci t f)
theorem dg.stay (x:dg P w H h a o) (k:∀ b u,(b=a∨H b=some (.own a))→h.get? b=some u→h'.get? b=some u)
  (ho:∀ b,H b=some (.own a)→H' b=some (.own a)) (ht:∀ b xs,H b=some (.tup xs)→H' b=some (.tup xs)):dg P w H' h' a o:=by
 induction o with
 | lst xs=>obtain ⟨z,its,n,r,e⟩:=x;exact ⟨z,its,n,r,k _ _ (.inl rfl) e⟩
 | tup xs=>obtain ⟨z,its,r,ob,e,c⟩:=x;exact ⟨z,its,r,ob,k _ _ (.inl rfl) e,c⟩
 | dK kvs=>obtain ⟨z,y,vs,r,ob,es,ep,e,c⟩:=x;exact ⟨z,y,vs,r,ob,es,ep,k _ _ (.inl rfl) e,c⟩
 | dT kvs=>
  obtain ⟨z,y,xs,r,ob,es,ep,e,c⟩:=x
  exact ⟨z,y,xs,Paired.Ci r fun p q z=>⟨z.1,ht _ _ z.2.1,z.2.2⟩,ob,es,ep,k _ _ (.inl rfl) e,c⟩
 | set S n=>obtain ⟨ob,es,ep,t,e,c⟩:=x;exact ⟨ob,es,ep,t,k _ _ (.inl rfl) e,c⟩
 | ins C dx fs=>
  obtain ⟨d,z,ne,e,mA,⟨od,es,ep,e2,c⟩,r⟩:=x
  exact ⟨ho _ d,z,ne,k _ _ (.inl rfl) e,mA,⟨od,es,ep,k _ _ (.inr d) e2,c⟩,r⟩
 | own y=>obtain ⟨ob,e⟩:=x;exact ⟨ob,k _ _ (.inl rfl) e⟩
 | xd fs=>obtain ⟨mA,⟨od,es,ep,e,c⟩,r⟩:=x;exact ⟨mA,⟨od,es,ep,k _ _ (.inl rfl) e,c⟩,r⟩
 | gy lo hi=>obtain ⟨t,u,v,e⟩:=x;exact ⟨t,u,v,k _ _ (.inl rfl) e⟩
 | bU ob u ih=>obtain ⟨e,q⟩:=x;exact ⟨k _ _ (.inl rfl) e,ih q⟩
 | tB ps=>
  have e:h.get? a=some { cls:=.none,data:=.fields ps }:=x
  show h'.get? a=some { cls:=.none,data:=.fields ps }
  exact k a _ (.inl rfl) e
 | met f y=>
  have e:h.get? a=some (PySem.W.methodObj (.ref f) (.ref y)):=x
  show h'.get? a=some (PySem.W.methodObj (.ref f) (.ref y))
  exact k a _ (.inl rfl) e
 | ext φ=>obtain ⟨p,⟨o,e⟩,st⟩:=x;exact ⟨st _ _ p fun o q=>k _ _ (.inl rfl) q,⟨o,k _ _ (.inl rfl) e⟩,st⟩
theorem ek.lt (x:ek P w H h) (e:H a=some o):a<h.objs.size:=(x a o e).lt
theorem ek.fresh (x:ek P w H h) (e:h.objs.size≤a):H a=none:=by
 cases q:H a with
 | none=>rfl
 | some u=>exact absurd (Nat.lt_of_lt_of_le (x.lt q) e) (Nat.lt_irrefl _)
theorem ek.kept (x:ek P w H h) (k:∀ b u,h.get? b=some u→h'.get? b=some u):ek P w H h':=fun a o e=>
 (x a o e).stay (fun b u _ q=>k b u q) (fun _ q=>q) fun _ _ q=>q
theorem ek.laid (x:ek P w H h) (k:∀ b u,h.get? b=some u→h'.get? b=some u) (hp:h.objs.size≤a) (new:dg P w (upd H a o) h' a o):ek P w (upd H a o) h':=fun b u e=>by
 have hn:=x.fresh hp
 by_cases hb:b=a
 ·subst hb;rw [eL] at e;cases e;exact new
 ·rw [aU hb] at e
  exact (x b u e).stay (fun c v _ q=>k c v q) (fun c q=>by rw [aU (bC q hn)];exact q) fun c xs q=>by rw [aU (bC q hn)];exact q
end
noncomputable def Rd (H:Hp) (a:Addr) (u:HO):Prop:=H a=some u∨∃ o,H a=some (.bU o u)
theorem Rd.ok {P:Program}{w:World}{H:Hp}{h:Heap}{a:Addr}{u:HO}(r:Rd H a u) (x:ek P w H h):dg P w H h a u:=by
 rcases r with r | ⟨o,r⟩
 ·exact x a u r
 ·obtain ⟨_,q⟩:=x a _ r
  exact q
noncomputable def zG:Option HO→Prop
 | some (.lst _)=>True
 | some (.dK _)=>True
 | some (.dT _)=>True
 | some (.set _ _)=>True
 | some (.ins _ _ _)=>True
 | some (.ext _)=>True
 | _=>False
section
variable {P:Program}{w:World}{H:Hp}{h h':Heap}{x e:Addr}{o':HO}
theorem ek.write (ok:ek P w H h) (mu:zG (H x)) (he:e=x∨H e=some (.own x)) (k:∀ b u,b≠e→h.get? b=some u→h'.get? b=some u) (vV:∃ u,h'.get? e=some u)
  (new:dg P w (upd H x o') h' x o'):ek P w (upd H x o') h':=fun b u q=>by
 have Kz:∀ c y,H c=some (.own y)→c≠x:=fun c y r z=>by subst z;rw [r] at mu;exact mu
 have WB:∀ c xs,H c=some (.tup xs)→c≠x:=fun c xs r z=>by subst z;rw [r] at mu;exact mu
 by_cases hb:b=x
 ·subst hb;rw [eL] at q;cases q;exact new
 ·rw [aU hb] at q
  by_cases tD:b=e
  ·have q':H b=some (.own x):=by
    rcases he with z | z
    ·exact absurd (tD.trans z) hb
    ·rw [tD];exact z
   rw [q] at q';cases q'
   obtain ⟨v,hv⟩:=vV
   exact ⟨v,by rw [tD];exact hv⟩
  ·refine (ok b u q).stay (fun c v hc r=>k c v ?_ r) (fun c r=>by rw [aU (Kz c b r)];exact r) fun c xs r=>by rw [aU (WB c xs r)];exact r
   rcases hc with rfl | hc
   ·exact tD
   ·rintro rfl
    rcases he with z | z
    ·exact Kz c b hc z
    ·rw [hc] at z;cases z;exact hb rfl
end
structure Un (fs ex:List Addr) (H H':Hp) (h h':Heap):Prop where
 keep:∀ b o,h.get? b=some o→H b=none→b∉fs→b∉ex→h'.get? b=some o
 slot:∀ b o,h.get? b=some o→H b=none→b∈fs→b∉ex→∃ sl,h'.get? b=some { o with slots:=sl }
 free:∀ b o,h.get? b=some o→H b=none→b∉ex→H' b=none
 there:∀ b o,h.get? b=some o→b∉ex→∃ o',h'.get? b=some o'
 tups:∀ b xs,H b=some (.tup xs)→H' b=some (.tup xs)
 kJ:∀ b o u,H b=some (.bU o u)→H' b=some (.bU o u)
 lU:∀ b ps,H b=some (.tB ps)→∃ more,H' b=some (.tB (ps++more))
section
variable {fs fs' ex ex':List Addr}{H H1 H2:Hp}{h h1 h2 h':Heap}{a x e:Addr}{o:HO}
theorem Un.any (u:Un fs ex H H1 h h1) {b:Addr}{ob:Obj}(q:h.get? b=some ob) (n:H b=none) (hx:b∉ex):∃ sl,h1.get? b=some { ob with slots:=sl }:=by
 by_cases hb:b∈fs
 ·exact u.slot b ob q n hb hx
 ·exact ⟨ob.slots,u.keep b ob q n hb hx⟩
theorem Un.kept (k:∀ b u,h.get? b=some u→h'.get? b=some u):Un fs ex H H h h':=
 ⟨fun b ob q _ _ _=>k b ob q,fun b ob q _ _ _=>⟨ob.slots,k b ob q⟩,fun _ _ _ n _=>n,fun b ob q _=>⟨ob,k b ob q⟩,fun _ _ q=>q,fun _ _ _ q=>q,fun _ ps q=>⟨#[],by rw [q];simp⟩⟩
theorem Un.refl:Un fs ex H H h h:=Un.kept fun _ _ q=>q
theorem Un.laid (k:∀ b u,h.get? b=some u→h'.get? b=some u) (hp:h.objs.size≤a) (hn:H a=none):Un fs ex H (upd H a o) h h' where
 keep:=fun b u q _ _ _=>k b u q
 slot:=fun b u q _ _ _=>⟨u.slots,k b u q⟩
 free:=fun b u q n _=>by rw [aU (Nat.ne_of_lt (Nat.lt_of_lt_of_le (Heap.lt_size q) hp))];exact n
 there:=fun b u q _=>⟨u,k b u q⟩
 tups:=fun b xs q=>by rw [aU (bC q hn)];exact q
 kJ:=fun b u xs q=>by rw [aU (bC q hn)];exact q
 lU:=fun b ps q=>⟨#[],by rw [aU (bC q hn),q];simp⟩
theorem Un.write (mu:zG (H x)) (he:e=x∨H e=some (.own x)) (k:∀ b u,b≠e→h.get? b=some u→h'.get? b=some u) (vV:∃ u,h'.get? e=some u):Un fs ex H (upd H x o) h h':=by
 have hx:∀ b,H b=none→b≠x:=fun b n z=>by subst z;rw [n] at mu;exact mu
 have hb:∀ b,H b=none→b≠e:=fun b n z=>by
  subst z
  rcases he with r | r
  ·exact hx b n r
  ·rw [n] at r;cases r
 have hm:∀ b u,H b=some u→¬ zG (some u)→b≠x:=fun b u q nm z=>by subst z;rw [q] at mu;exact nm mu
 refine ⟨fun b u q n _ _=>k b u (hb b n) q,fun b u q n _ _=>⟨u.slots,k b u (hb b n) q⟩,fun b u q n _=>by rw [aU (hx b n)];exact n,fun b u q _=>?_,
  fun b xs q=>by rw [aU (hm b _ q fun z=>z)];exact q,fun b u xs q=>by rw [aU (hm b _ q fun z=>z)];exact q,fun b ps q=>⟨#[],by rw [aU (hm b _ q fun z=>z),q];simp⟩⟩
 by_cases tD:b=e
 ·subst tD;exact vV
 ·exact ⟨u,k b u tD q⟩
end
noncomputable def E2 (h:Heap) (H:Hp):List Addr:=(List.range h.objs.size).filter fun a=>(H a).isSome
noncomputable def kK (h:Heap) (H:Hp):Heap:=PySem.W.hideAll h (E2 h H)
theorem zH (h:Heap) (H:Hp):(kK h H).objs.size=h.objs.size:=PySem.W.hideAll_size _ _
theorem Cj {h:Heap}{H:Hp}{b:Addr}{o:Obj}(e:h.get? b=some o) (n:H b=none):(kK h H).get? b=some o:=
 PySem.W.hideAll_get _ e fun hm=>by
  have q:(H b).isSome=true:=(List.mem_filter.mp hm).2
  rw [n] at q;simp at q
theorem HJ {h:Heap}{H:Hp}{b:Addr}{o:Obj}(e:(kK h H).get? b=some o):h.get? b=some o∧H b=none:=by
 have e':h.get? b=some o:=PySem.W.of_hideAll (E2 h H) e
 refine ⟨e',?_⟩
 cases q:H b with
 | none=>rfl
 | some x=>
  have hm:b∈E2 h H:=List.mem_filter.mpr ⟨List.mem_range.mpr (Heap.lt_size e'),by simp [q]⟩
  have z:(kK h H).get? b=none:=PySem.W.hideAll_none (E2 h H) hm
  rw [z] at e;cases e
noncomputable def HK (g h:Heap) (L:Addr):List (Addr×Obj):=(List.range h.objs.size).filterMap fun a=>if a=L∨(g.get? a).isSome=true then none else (h.get? a).map fun o=>(a,o)
noncomputable def rest (g h:Heap) (L d:Addr):List (Addr×Obj):=(HK g h L).filter fun p=>decide (p.1≠d)
end L2
namespace L2
open PySem PySem.Spec PyProof.Rows
structure Mod (K:PySem.W.Frag) (mg:Str→Option Value) (base:Heap):Prop where
 E3:K.In base
 glob:base.Ns mainGlobals mg
 blt:∃ mb,base.Ns builtinsNs mb∧∀ x:Str,x≠"__name__" →mb x=bootBuiltins x
 nolimit:base.NoLimit
structure Cx where
 prog:Program
 w:World
 K:PySem.W.Frag
 mg:Str→Option Value
 base:Heap
 A:Around
 N:List Str
 s₀:Shared
 H₀:Hp
 env:Env
 outer:List Env
 stack:List Env
 ex:List Addr
 fn:Str→Bool
 calm:Bool
 pn:List (Addr×Obj)
 xe:Value→Shared→Prop
noncomputable def frs (l:List Env):List Addr:=l.filterMap (·.frame)
noncomputable abbrev Cx.fs (X:Cx):List Addr:=frs X.outer
noncomputable def zI (sc:Scope) (x:Str):Prop:=sc.names.lookup x=some .local∨sc.names.lookup x=some .cell∨sc.names.lookup x=some .free
noncomputable def Loc (sc:Scope) (x:Str):Prop:=sc.names.lookup x=some .local∨sc.names.lookup x=some .cell
noncomputable def Look (env:Env) (h:Heap) (m:Str→Option Value) (x:Str) (u:Value):Prop:=
 (env.kindOf x=some .local∧m x=some u)∨((env.kindOf x=some .cell∨env.kindOf x=some .free)∧∃ c,env.cells.lookup x=some c∧h.IsCell c (some u))
structure Cx.Ok (X:Cx):Prop where
 mod:Mod X.K X.mg X.base
 kind:X.env.scope.kind=.function
 glob:X.env.globals=mainGlobals
 blt:X.env.builtins=builtinsNs
 above:X.s₀.heap.objs.size≤X.env.locals
 inj:∀ x y c,X.env.cells.lookup x=some c→X.env.cells.lookup y=some c→x=y
 has:∀ x,(X.env.kindOf x=some .cell∨X.env.kindOf x=some .free)→∃ c,X.env.cells.lookup x=some c
 vW:∀ x c,X.fn x=true→X.env.cells.lookup x=some c→X.s₀.heap.objs.size≤c
 hd:X.calm=true→X.A.handled=none
 frames:X.A.frames=some X.stack
 stk:X.stack=X.outer∨(X.stack=X.env :: X.outer∧X.env.frame=some X.env.locals)
 E4:∀ b∈X.ex,b≠X.env.locals∧∀ x c,X.env.cells.lookup x=some c→c≠b
 bs:∀ b o,X.base.get? b=some o→X.s₀.heap.get? b=some o∧X.H₀ b=none
 qZ:X.base.objs.size≤X.s₀.heap.objs.size
 qx:∀ b o,X.base.get? b=some o→b∉X.ex
 qy:∀ b∈X.ex,b∉X.fs
 iU:X.s₀.heap.FunFrames X.base X.outer
 tE:∀ b∈X.fs,X.H₀ b=none
structure Inv (X:Cx) (pins:List (Addr×Obj)) (σ:List (Option V)) (H:Hp) (s:Shared):Prop where
 ok:X.Ok
 os:s.os=X.s₀.os
 bare:AllBare s.gens
 base:Un X.fs X.ex X.H₀ H X.s₀.heap s.heap
 loc:∃ m,s.heap.Ns X.env.locals m∧∀ (i:Nat) (x:Str) (v:V),X.N[i]?=some x→σ[i]?=some (some v)→zI X.env.scope x→∃ u,RelV v u∧Look X.env s.heap m x u
 cell:∀ x c,X.env.cells.lookup x=some c→∃ v,s.heap.IsCell c v
 free:H X.env.locals=none
 iJ:∀ x c,X.env.cells.lookup x=some c→H c=none
 pin:∀ p∈X.pn++pins,s.heap.get? p.1=some p.2∧H p.1=none∧p.1≠X.env.locals∧p.1∉X.fs∧∀ v,p.2.data≠.cell v
 hok:ek X.prog X.w H s.heap
 len:σ.length=X.N.length
section
variable {X:Cx}{pins:List (Addr×Obj)}{σ:List (Option V)}{H H':Hp}{s:Shared}{h':Heap}
theorem Cx.Ok.WC (ok:X.Ok) {b:Addr}{o:Obj}(e:X.base.get? b=some o):b∉X.fs:=fun hb=>by
 have:=(ok.iU.mem hb).1
 rw [e] at this;cases this
theorem Inv.bs (I:Inv X pins σ H s):∀ b o,X.base.get? b=some o→s.heap.get? b=some o∧H b=none:=fun b o e=>
 ⟨I.base.keep b o (I.ok.bs b o e).1 (I.ok.bs b o e).2 (I.ok.WC e) (I.ok.qx b o e),I.base.free b o (I.ok.bs b o e).1 (I.ok.bs b o e).2 (I.ok.qx b o e)⟩
theorem Inv.bk (I:Inv X pins σ H s):∀ b o,X.base.get? b=some o→s.heap.get? b=some o:=fun b o e=>(I.bs b o e).1
theorem Inv.mod (I:Inv X pins σ H s):Mod X.K X.mg X.base:=I.ok.mod
theorem Inv.q8 (I:Inv X pins σ H s):X.K.In s.heap:=I.ok.mod.E3.keeps I.bk
theorem Inv.lt (I:Inv X pins σ H s):X.env.locals<s.heap.objs.size:=let ⟨_,hn,_⟩:=I.loc;hn.lt
theorem Inv.sz (I:Inv X pins σ H s):X.s₀.heap.objs.size≤s.heap.objs.size:=Nat.le_trans I.ok.above (Nat.le_of_lt I.lt)
theorem Inv.WD (I:Inv X pins σ H s) {a:Addr}(h:s.heap.objs.size≤a):a∉X.fs:=fun hb=>by
 obtain ⟨_,o,ho,_⟩:=I.ok.iU.mem hb
 exact absurd (Nat.lt_of_lt_of_le (Heap.lt_size ho) (Nat.le_trans I.sz h)) (Nat.lt_irrefl _)
theorem Inv.tF (I:Inv X pins σ H s):∀ x c,X.env.cells.lookup x=some c→c≠X.env.locals:=fun x c e z=>by
 obtain ⟨v,o,ho,hd⟩:=I.cell x c e
 obtain ⟨m,⟨o',es,ep,ho',hd',_⟩,_⟩:=I.loc
 rw [z,ho'] at ho;cases ho;rw [hd'] at hd;cases hd
theorem Inv.iU (I:Inv X pins σ H s):s.heap.FunFrames X.base X.outer:=by
 have all:∀ (l:List Env),(∀ b∈frs l,b∈X.fs)→X.s₀.heap.FunFrames X.base l→s.heap.FunFrames X.base l:=by
  intro l
  induction l with
  | nil=>intro _ _;trivial
  | cons env r ih=>
   intro hs hl
   obtain ⟨hk,⟨L,o,hf,hn,ho,hd⟩,hr⟩:=hl
   have hL:L∈X.fs:=hs L (by unfold frs;rw [List.filterMap_cons,hf];exact List.mem_cons_self)
   obtain ⟨sl,e⟩:=I.base.slot L o ho (I.ok.tE L hL) hL fun z=>I.ok.qy L z hL
   exact ⟨hk,⟨L,_,hf,hn,e,hd⟩,ih (fun b hb=>hs b (by unfold frs;rw [List.filterMap_cons,hf];exact List.mem_cons_of_mem _ hb)) hr⟩
 exact all X.outer (fun _ hb=>hb) I.ok.iU
theorem Inv.stack (I:Inv X pins σ H s):s.heap.FunFrames X.base X.stack:=by
 rcases I.ok.stk with e | ⟨e,hf⟩
 ·rw [e];exact I.iU
 ·rw [e]
  obtain ⟨m,hn,_⟩:=I.loc
  refine .cons (by rw [I.ok.kind];decide) hf hn ?_ I.iU
  exact Heap.get?_none_of_le (Nat.le_trans I.ok.qZ I.ok.above)
theorem Inv.tG (I:Inv X pins σ H s):∀ b∈frs X.stack,b∈X.env.locals :: X.fs:=fun b hb=>by
 rcases I.ok.stk with e | ⟨e,hf⟩
 ·rw [e] at hb;exact List.mem_cons_of_mem _ hb
 ·rw [e] at hb
  unfold frs at hb
  rw [List.filterMap_cons,hf] at hb
  exact hb
theorem Inv.vX (I:Inv X pins σ H s):∀ b∈frs X.stack,H b=none:=fun b hb=>by
 rcases List.mem_cons.mp (I.tG b hb) with e | hb
 ·rw [e];exact I.free
 ·obtain ⟨_,o,ho,_⟩:=I.ok.iU.mem hb
  exact I.base.free b o ho (I.ok.tE b hb) fun z=>I.ok.qy b z hb
theorem Inv.step {g':Array GenState}{t':Nat}{d':Drawn}{ch:List Addr}(I:Inv X pins σ H s)
  (hch:∀ b∈ch,(b∈X.ex∨X.s₀.heap.objs.size≤b)∧b≠X.env.locals∧(∀ x c,X.env.cells.lookup x=some c→c≠b)∧∀ p∈X.pn++pins,p.1≠b)
  (keep:∀ b o,b≠X.env.locals→b∉X.fs→b∉ch→s.heap.get? b=some o→H b=none→h'.get? b=some o)
  (slot:∀ b o,b≠X.env.locals→b∈X.fs→b∉ch→s.heap.get? b=some o→H b=none→∃ sl,h'.get? b=some { o with slots:=sl }) (free:∀ b o,b∉ch→s.heap.get? b=some o→H b=none→H' b=none)
  (there:∀ b o,b∉ch→s.heap.get? b=some o→∃ o',h'.get? b=some o')
  (tups:∀ b xs,H b=some (.tup xs)→H' b=some (.tup xs)) (kJ:∀ b o u,H b=some (.bU o u)→H' b=some (.bU o u)) (lU:∀ b ps,H b=some (.tB ps)→∃ more,H' b=some (.tB (ps++more)))
  (ns:∀ m,s.heap.Ns X.env.locals m→h'.Ns X.env.locals m) (hok:ek X.prog X.w H' h') (hg:AllBare g') :
  Inv X pins σ H' { s with heap:=h',gens:=g',drawn:=d',toks:=t' }:=by
 have Uk:∀ b o,X.s₀.heap.get? b=some o→b≠X.env.locals:=fun b o e=>Nat.ne_of_lt (Nat.lt_of_lt_of_le (Heap.lt_size e) I.ok.above)
 have E5:∀ b o,X.s₀.heap.get? b=some o→b∉X.ex→b∉ch:=fun b o e hx hb=>by
  rcases (hch b hb).1 with z | z
  ·exact hx z
  ·exact absurd (Nat.lt_of_lt_of_le (Heap.lt_size e) z) (Nat.lt_irrefl _)
 have cellK:∀ x c,X.env.cells.lookup x=some c→∀ v,s.heap.IsCell c v→h'.IsCell c v:=fun x c e v ⟨o,ho,hd⟩=>by
  have zJ:c∉ch:=fun z=>(hch c z).2.2.1 x c e rfl
  by_cases hc:c∈X.fs
  ·obtain ⟨sl,q⟩:=slot c o (I.tF x c e) hc zJ ho (I.iJ x c e)
   exact ⟨_,q,hd⟩
  ·exact ⟨o,keep c o (I.tF x c e) hc zJ ho (I.iJ x c e),hd⟩
 refine ⟨I.ok,I.os,hg,⟨fun b o e n hb hx=>?_,fun b o e n hb hx=>?_,fun b o e n hx=>?_,fun b o e hx=>?_,fun b xs e=>tups b xs (I.base.tups b xs e),fun b o xs e=>kJ b o xs (I.base.kJ b o xs e),fun b ps e=>?_⟩,?_,fun x c e=>?_,?_,fun x c e=>?_,fun p hp=>?_,hok,I.len⟩
 ·exact keep b o (Uk b o e) hb (E5 b o e hx) (I.base.keep b o e n hb hx) (I.base.free b o e n hx)
 ·obtain ⟨sl,e1⟩:=I.base.slot b o e n hb hx
  obtain ⟨Zd,e2⟩:=slot b _ (Uk b o e) hb (E5 b o e hx) e1 (I.base.free b o e n hx)
  exact ⟨Zd,e2⟩
 ·obtain ⟨o',e1⟩:=I.base.there b o e hx
  exact free b o' (E5 b o e hx) e1 (I.base.free b o e n hx)
 ·obtain ⟨o',e1⟩:=I.base.there b o e hx
  exact there b o' (E5 b o e hx) e1
 ·obtain ⟨m1,e1⟩:=I.base.lU b ps e
  obtain ⟨m2,e2⟩:=lU b _ e1
  exact ⟨m1++m2,by rw [e2,Array.append_assoc]⟩
 ·obtain ⟨m,hn,hl⟩:=I.loc
  refine ⟨m,ns m hn,fun i x v e1 e2 e3=>?_⟩
  obtain ⟨u,r,l⟩:=hl i x v e1 e2 e3
  refine ⟨u,r,?_⟩
  rcases l with l | ⟨k,c,e,z⟩
  ·exact .inl l
  ·exact .inr ⟨k,c,e,cellK x c e _ z⟩
 ·obtain ⟨v,z⟩:=I.cell x c e
  exact ⟨v,cellK x c e v z⟩
 ·obtain ⟨m,⟨o,_,_,ho,_⟩,_⟩:=I.loc
  exact free _ o (fun z=>(hch _ z).2.1 rfl) ho I.free
 ·obtain ⟨v,o,ho,hd⟩:=I.cell x c e
  exact free c o (fun z=>(hch c z).2.2.1 x c e rfl) ho (I.iJ x c e)
 ·obtain ⟨e,n,ne,nf,d⟩:=I.pin p hp
  have zJ:p.1∉ch:=fun z=>(hch p.1 z).2.2.2 p hp rfl
  exact ⟨keep p.1 p.2 ne nf zJ e n,free p.1 p.2 zJ e n,ne,nf,d⟩
theorem Inv.un {t':Nat}(I:Inv X pins σ H s) (u:Un X.fs [] H H' s.heap h') (hok:ek X.prog X.w H' h'):Inv X pins σ H' { s with heap:=h',toks:=t' }:=by
 obtain ⟨m,⟨o,es,ep,ho,r⟩,_⟩:=id I.loc
 obtain ⟨sl,hL⟩:=u.any ho I.free (by simp)
 exact I.step (g':=s.gens) (d':=s.drawn) (ch:=[]) (fun _ z=>nomatch z) (fun b o _ hb _ e n=>u.keep b o e n hb (by simp)) (fun b o _ hb _ e n=>u.slot b o e n hb (by simp)) (fun b o _ e n=>u.free b o e n (by simp)) (fun b o _ e=>u.there b o e (by simp)) u.tups u.kJ u.lU (fun m' hm=>by
  obtain ⟨o',es',KA,ho',r'⟩:=hm
  rw [ho] at ho';cases ho'
  exact ⟨_,es',KA,hL,r'⟩) hok I.bare
theorem Inv.call {g':Array GenState}{t':Nat}{d':Drawn}{ch:List Addr}(I:Inv X pins σ H s) (u:Un (frs X.stack) ch H H' s.heap h') (hok:ek X.prog X.w H' h') (hg:AllBare g')
  (hch:∀ b∈ch,(b∈X.ex∨X.s₀.heap.objs.size≤b)∧b≠X.env.locals∧(∀ x c,X.env.cells.lookup x=some c→c≠b)∧∀ p∈X.pn++pins,p.1≠b) :
  Inv X pins σ H' { s with heap:=h',gens:=g',drawn:=d',toks:=t' }:=by
 obtain ⟨m,⟨o,es,ep,ho,r⟩,_⟩:=id I.loc
 obtain ⟨sl,hL⟩:=u.any ho I.free fun z=>(hch _ z).2.1 rfl
 exact I.step (ch:=ch) hch (fun b o hL hb hc e n=>u.keep b o e n (fun z=>(List.mem_cons.mp (I.tG b z)).elim hL hb) hc) (fun b o _ _ hc e n=>u.any e n hc) (fun b o hc e n=>u.free b o e n hc) (fun b o hc e=>u.there b o e hc) u.tups u.kJ u.lU (fun m' hm=>by
  obtain ⟨o',es',KA,ho',r'⟩:=hm
  rw [ho] at ho';cases ho'
  exact ⟨_,es',KA,hL,r'⟩) hok hg
theorem Inv.turned {t':Nat}{it:Addr}(I:Inv X pins σ H s)(k:∀ b o,b≠it→s.heap.get? b=some o→h'.get? b=some o)(hn:H it=none)(hL:it≠X.env.locals)
  (h1:it∈X.ex∨X.s₀.heap.objs.size≤it) (h2:∀ x c,X.env.cells.lookup x=some c→c≠it) (h3:∀ p∈X.pn++pins,p.1≠it):Inv X pins σ H { s with heap:=h',toks:=t' }:=by
 have zK:∀ b u,H b=some u→b≠it:=fun b u e z=>by rw [z,hn] at e;cases e
 refine I.step (g':=s.gens) (d':=s.drawn) (ch:=[it]) (fun b hb=>?_) (fun b o _ _ hc e _=>k b o (fun z=>hc (by simp [z])) e) (fun b o _ _ hc e _=>⟨o.slots,k b o (fun z=>hc (by simp [z])) e⟩) (fun _ _ _ _ n=>n)
  (fun b o hc e=>⟨o,k b o (fun z=>hc (by simp [z])) e⟩) (fun _ _ e=>e) (fun _ _ _ e=>e) (fun b ps e=>⟨#[],by rw [e];simp⟩) (fun m hm=>?_) (fun b u e=>?_) I.bare
 ·have e:b=it:=by simpa using hb
  subst e
  exact ⟨h1,hL,h2,h3⟩
 ·obtain ⟨o,es,ep,ho,r⟩:=hm
  exact ⟨o,es,ep,k _ o (Ne.symm hL) ho,r⟩
 ·refine (I.hok b u e).stay (fun c v hc q=>k c v ?_ q) (fun _ q=>q) fun _ _ q=>q
  rcases hc with z | z
  ·rw [z];exact zK b u e
  ·exact zK c _ z
theorem Inv.tok (I:Inv X pins σ H s) (t:Nat):Inv X pins σ H { s with toks:=t }:=I.un (h':=s.heap) (t':=t) Un.refl I.hok
theorem Inv.kept {t':Nat}(I:Inv X pins σ H s) (k:∀ b u,s.heap.get? b=some u→h'.get? b=some u):Inv X pins σ H { s with heap:=h',toks:=t' }:=I.un (Un.kept k) (I.hok.kept k)
theorem Inv.laid {a:Addr}{o:HO}{t':Nat}(I:Inv X pins σ H s) (k:∀ b u,s.heap.get? b=some u→h'.get? b=some u) (hp:s.heap.objs.size≤a) (new:dg X.prog X.w (upd H a o) h' a o) :
  Inv X pins σ (upd H a o) { s with heap:=h',toks:=t' }:=I.un (Un.laid k hp (I.hok.fresh hp)) (I.hok.laid k hp new)
theorem Inv.write {x e:Addr}{o:HO}{t':Nat}(I:Inv X pins σ H s) (mu:zG (H x)) (he:e=x∨H e=some (.own x)) (k:∀ b u,b≠e→s.heap.get? b=some u→h'.get? b=some u) (vV:∃ u,h'.get? e=some u)
  (new:dg X.prog X.w (upd H x o) h' x o):Inv X pins σ (upd H x o) { s with heap:=h',toks:=t' }:=I.un (Un.write mu he k vV) (I.hok.write mu he k vV new)
theorem Inv.vY {E6:List (Addr×Obj)}(I:Inv X pins σ H s) (h:∀ p∈E6,s.heap.get? p.1=some p.2∧H p.1=none∧p.1≠X.env.locals∧p.1∉X.fs∧∀ v,p.2.data≠.cell v):Inv X E6 σ H s:=
 ⟨I.ok,I.os,I.bare,I.base,I.loc,I.cell,I.free,I.iJ,fun p hp=>(List.mem_append.mp hp).elim (fun z=>I.pin p (List.mem_append_left _ z)) (h p),I.hok,I.len⟩
theorem tH {N:List Str}(hN:N.Nodup) {i j:Nat}{x:Str}(a:N[i]?=some x) (b:N[j]?=some x):i=j:=by
 obtain ⟨h1,e1⟩:=List.getElem?_eq_some_iff.mp a
 obtain ⟨h2,e2⟩:=List.getElem?_eq_some_iff.mp b
 exact (List.getElem_inj hN).mp (e1.trans e2.symm)
theorem q9 {M:Model}{A:Around}{E:Value→Shared→Prop}{i:Nat}{x:Str}{v:V}{u:Value}{Q:Unit→Shared→Prop}(I:Inv X pins σ H s) (hN:X.N.Nodup) (hi:X.N[i]?=some x) (hx:Loc X.env.scope x) (r:RelV v u)
  (h:∀ s',Inv X pins (σ.set i (some v)) H s'→(∃ a,Heap.SameBut a s.heap s'.heap∧(a=X.env.locals∨X.env.cells.lookup x=some a))→Q () s') (hf:X.fn x=true∨X.env.scope.names.lookup x=some .local:=by first | exact .inl rfl | exact .inr rfl | assumption):wpAny M A (storeName X.env x u) Q E s:=by
 obtain ⟨m,hn,hl⟩:=id I.loc
 have hcls:(X.env.scope.kind==.class || (X.env.scope.kind==.module&&X.env.locals != X.env.globals))=false:=by rw [I.ok.kind];rfl
 have KC:i<σ.length:=by rw [I.len];exact (List.getElem?_eq_some_iff.mp hi).1
 have tF:=I.tF
 have tracked:∀ {a:Addr} {h':Heap},(∃ o,s.heap.get? a=some o∧H a=none)→Heap.SameBut a s.heap h'→ek X.prog X.w H h':=fun {a h'} ha hs b ob e=>by
  obtain ⟨_,_,hfree⟩:=ha
  refine (I.hok b ob e).stay (fun c w' hc q=>(hs.2 c ?_).trans q) (fun _ q=>q) fun _ _ q=>q
  rintro rfl
  rcases hc with rfl | hc
  ·rw [hfree] at e;cases e
  ·rw [hfree] at hc;cases hc
 rcases hx with hk | hk
 ·refine wpAny_storeName_local hk hn (fun h' hn' hs=>?_) hcls
  obtain ⟨oL,_,_,zL,_⟩:=id hn
  refine h _ ⟨I.ok,I.os,I.bare,⟨fun b o e n hb hx=>?_,fun b o e n hb hx=>?_,I.base.free,fun b o e hx=>?_,I.base.tups,I.base.kJ,I.base.lU⟩,⟨_,hn',fun j y v' e1 e2 e3=>?_⟩,fun y c e=>?_,I.free,I.iJ,fun p hp=>?_,tracked ⟨oL,zL,I.free⟩ hs,by simpa using I.len⟩ ⟨_,hs,.inl rfl⟩
  ·exact (hs.2 b (Nat.ne_of_lt (Nat.lt_of_lt_of_le (Heap.lt_size e) I.ok.above))).trans (I.base.keep b o e n hb hx)
  ·obtain ⟨sl,e1⟩:=I.base.slot b o e n hb hx
   exact ⟨sl,(hs.2 b (Nat.ne_of_lt (Nat.lt_of_lt_of_le (Heap.lt_size e) I.ok.above))).trans e1⟩
  ·obtain ⟨o',e1⟩:=I.base.there b o e hx
   exact ⟨o',(hs.2 b (Nat.ne_of_lt (Nat.lt_of_lt_of_le (Heap.lt_size e) I.ok.above))).trans e1⟩
  ·by_cases hj:j=i
   ·subst hj
    rw [hi] at e1;cases e1
    rw [List.getElem?_set_self KC] at e2
    cases e2
    exact ⟨u,r,.inl ⟨hk,by simp⟩⟩
   ·rw [List.getElem?_set_ne (Ne.symm hj)] at e2
    obtain ⟨u',r',q⟩:=hl j y v' e1 e2 e3
    refine ⟨u',r',?_⟩
    rcases q with ⟨k,e⟩ | ⟨k,c,e,z⟩
    ·refine .inl ⟨k,?_⟩
     have:y≠x:=fun e=>hj (tH hN e1 (e▸hi))
     simp [this,e]
    ·exact .inr ⟨k,c,e,z.sameBut hs (tF y c e)⟩
  ·obtain ⟨w',z⟩:=I.cell y c e
   exact ⟨w',z.sameBut hs (tF y c e)⟩
  ·obtain ⟨e,n,ne,nf,d⟩:=I.pin p hp
   exact ⟨(hs.2 p.1 ne).trans e,n,ne,nf,d⟩
 ·have hfn:X.fn x=true:=by
   rcases hf with z | z
   ·exact z
   ·rw [z] at hk;cases hk
  obtain ⟨c,hc⟩:=I.ok.has x (.inl hk)
  obtain ⟨w',z⟩:=I.cell x c hc
  refine wpAny_storeName_cell I.ok.kind hk hc z (fun h' hc' hs=>?_)
  obtain ⟨oc,hoc,WE⟩:=id z
  refine h { s with heap:=h' } ⟨I.ok,I.os,I.bare,⟨fun b o e n hb hx=>?_,fun b o e n hb hx=>?_,I.base.free,fun b o e hx=>?_,I.base.tups,I.base.kJ,I.base.lU⟩,⟨m,hn.sameBut hs (Ne.symm (tF x c hc)),fun j y v' e1 e2 e3=>?_⟩,fun y c' e=>?_,I.free,I.iJ,fun p hp=>?_,tracked ⟨oc,hoc,I.iJ x c hc⟩ hs,by simpa using I.len⟩ ⟨c,hs,.inr hc⟩
  ·exact (hs.2 b (Nat.ne_of_lt (Nat.lt_of_lt_of_le (Heap.lt_size e) (I.ok.vW x c hfn hc)))).trans (I.base.keep b o e n hb hx)
  ·obtain ⟨sl,e1⟩:=I.base.slot b o e n hb hx
   exact ⟨sl,(hs.2 b (Nat.ne_of_lt (Nat.lt_of_lt_of_le (Heap.lt_size e) (I.ok.vW x c hfn hc)))).trans e1⟩
  ·obtain ⟨o',e1⟩:=I.base.there b o e hx
   exact ⟨o',(hs.2 b (Nat.ne_of_lt (Nat.lt_of_lt_of_le (Heap.lt_size e) (I.ok.vW x c hfn hc)))).trans e1⟩
  ·by_cases hj:j=i
   ·subst hj
    rw [hi] at e1;cases e1
    rw [List.getElem?_set_self KC] at e2
    cases e2
    exact ⟨u,r,.inr ⟨.inl hk,c,hc,hc'⟩⟩
   ·rw [List.getElem?_set_ne (Ne.symm hj)] at e2
    obtain ⟨u',r',q⟩:=hl j y v' e1 e2 e3
    refine ⟨u',r',?_⟩
    rcases q with q | ⟨k,c',e,z'⟩
    ·exact .inl q
    ·refine .inr ⟨k,c',e,z'.sameBut hs ?_⟩
     rintro rfl
     exact hj (tH hN e1 (I.ok.inj _ _ _ e hc▸hi))
  ·by_cases hcc:c'=c
   ·subst hcc;exact ⟨_,hc'⟩
   ·obtain ⟨w2,z2⟩:=I.cell y c' e
    exact ⟨w2,z2.sameBut hs hcc⟩
  ·obtain ⟨e,n,ne,nf,d⟩:=I.pin p hp
   refine ⟨(hs.2 p.1 ?_).trans e,n,ne,nf,d⟩
   intro q
   rw [q,hoc] at e
   have q':oc=p.2:=Option.some.inj e
   exact d w' (by rw [←q'];exact WE)
theorem tK {M:Model}{A:Around}{E:Value→Shared→Prop}{i:Nat}{x:Str}{v:V}{u:Value}{Q:Unit→Shared→Prop}(I:Inv X pins σ H s) (hN:X.N.Nodup) (hi:X.N[i]?=some x) (hx:Loc X.env.scope x) (r:RelV v u)
  (h:∀ s',Inv X pins (σ.set i (some v)) H s'→Q () s') (hf:X.fn x=true∨X.env.scope.names.lookup x=some .local:=by first | exact .inl rfl | exact .inr rfl | assumption):wpAny M A (storeName X.env x u) Q E s:=
 q9 I hN hi hx r (fun s' I' _=>h s' I') hf
theorem Inv.Ra {s':Shared}{ch:List Addr}(I:Inv X pins σ H s) (ho:s'.os=s.os) (u:Un (frs X.stack) ch H H' s.heap s'.heap) (hok:ek X.prog X.w H' s'.heap) (hg:AllBare s'.gens)
  (hch:∀ b∈ch,(b∈X.ex∨X.s₀.heap.objs.size≤b)∧b≠X.env.locals∧(∀ x c,X.env.cells.lookup x=some c→c≠b)∧∀ p∈X.pn++pins,p.1≠b):Inv X pins σ H' s':=by
 obtain ⟨h',g',d',t',o'⟩:=s'
 have e:o'=s.os:=ho
 subst e
 exact I.call (g':=g') (t':=t') (d':=d') u hok hg hch
end
abbrev XK:=Value→Option Addr→Hp→Prop
abbrev St:=List (Option V)
abbrev VK:=V→Hp→Prop
abbrev TE:=St→Hp→VK→Prop
abbrev TT:=St→Hp→(Bool→Hp→Prop)→Prop
abbrev TA:=St→Hp→(List V→Hp→Prop)→Prop
structure Ends where
 nx:St→Hp→Prop
 rt:VK
 bk:St→Hp→Prop:=fun _ _=>False
 ct:St→Hp→Prop:=fun _ _=>False
abbrev TS:=Ends→St→Hp→Prop
noncomputable def EP (X:Cx) (pins:List (Addr×Obj)) (σ:St) (Q:VK) (u:Value) (s':Shared):Prop:=∃ v H',Inv X pins σ H' s'∧RelV v u∧Q v H'
noncomputable def TP (X:Cx) (pins:List (Addr×Obj)) (σ:St) (Q:Bool→Hp→Prop) (b:Bool) (s':Shared):Prop:=∃ H',Inv X pins σ H' s'∧Q b H'
noncomputable def AP (X:Cx) (pins:List (Addr×Obj)) (σ:St) (Q:List V→Hp→Prop) (us:List Value) (s':Shared):Prop:=∃ vs H',Inv X pins σ H' s'∧Vals vs us∧Q vs H'
noncomputable def SP (X:Cx) (pins:List (Addr×Obj)) (D:Ends) (f:Flow) (s':Shared):Prop:=
 match f with
 | .next=>∃ σ' H',Inv X pins σ' H' s'∧D.nx σ' H'
 | .brk=>∃ σ' H',Inv X pins σ' H' s'∧D.bk σ' H'
 | .cont=>∃ σ' H',Inv X pins σ' H' s'∧D.ct σ' H'
 | .ret u=>∃ v σ' H',Inv X pins σ' H' s'∧RelV v u∧D.rt v H'
noncomputable def PE (X:Cx) (e:Expr) (t:TE):Prop:=
 ∀ (pins:List (Addr×Obj)) (s:Shared) (σ:St) (H:Hp) (Q:VK),Inv X pins σ H s→t σ H Q→wpAny (model X.prog X.w) X.A (eval e X.env) (EP X pins σ Q) X.xe s
noncomputable def PT (X:Cx) (e:Expr) (t:TT):Prop:=
 ∀ (pins:List (Addr×Obj)) (s:Shared) (σ:St) (H:Hp) (Q:Bool→Hp→Prop),Inv X pins σ H s→t σ H Q→wpAny (model X.prog X.w) X.A (isTrue e X.env (eval e X.env)) (TP X pins σ Q) X.xe s
noncomputable def PW (X:Cx) (e:Expr) (t:TT):Prop:=
 ∀ (whole:Sem Value) (pins:List (Addr×Obj)) (s:Shared) (σ:St) (H:Hp) (Q:Bool→Hp→Prop),Inv X pins σ H s→t σ H Q→wpAny (model X.prog X.w) X.A (isTrue e X.env whole) (TP X pins σ Q) X.xe s
theorem PW.pt {X:Cx}{e:Expr}{t:TT}(h:PW X e t):PT X e t:=h _
noncomputable def PA (X:Cx) (es:List Expr) (t:TA):Prop:=
 ∀ (pos:Pos) (pins:List (Addr×Obj)) (s:Shared) (σ:St) (H:Hp) (Q:List V→Hp→Prop),Inv X pins σ H s→t σ H Q→wpAny (model X.prog X.w) X.A (spliced (backTo pos (starEach es X.env))) (AP X pins σ Q) X.xe s
noncomputable def PS (X:Cx) (st:Stmt) (t:TS):Prop:=
 ∀ (pins:List (Addr×Obj)) (s:Shared) (σ:St) (H:Hp) (D:Ends),Inv X pins σ H s→t D σ H→wpAny (model X.prog X.w) X.A (exec st X.env) (SP X pins D) X.xe s
noncomputable def iu (X:Cx) (st:List Stmt) (t:TS):Prop:=
 ∀ (pins:List (Addr×Obj)) (s:Shared) (σ:St) (H:Hp) (D:Ends),Inv X pins σ H s→t D σ H→wpAny (model X.prog X.w) X.A (execs st X.env) (SP X pins D) X.xe s
theorem bB {α:Type}{t:Sem α}{Q Q':α→Shared→Prop}{M:Model}{A:Around}{E:Value→Shared→Prop}{s:Shared}(h:wpAny M A t Q E s) (hQ:∀ a s,Q a s→Q' a s):wpAny M A t Q' E s:=wpAny_mono h hQ fun _ _ x=>x
end L2
namespace L2
open PySem PySem.Spec PyProof.Rows
section
variable {X:Cx}
theorem bin {a b:Expr}{ta tb:TE}(ha:PE X a ta) (hb:PE X b tb) {pins:List (Addr×Obj)}{s:Shared}{σ:St}{H:Hp}{R:V→V→Hp→Prop}(I:Inv X pins σ H s) (h:ta σ H fun x H1=>tb σ H1 fun y H2=>R x y H2)
  {α:Type} {Q:α→Shared→Prop} {f:Value→Value→Sem α}
  (hf:∀ v u s2 x y H2,Inv X pins σ H2 s2→RelV x v→RelV y u→R x y H2→wpAny (model X.prog X.w) X.A (f v u) Q X.xe s2) :
  wpAny (model X.prog X.w) X.A (eval a X.env) (fun v s₁=>wpAny (model X.prog X.w) X.A (eval b X.env) (fun u s₂=>wpAny (model X.prog X.w) X.A (f v u) Q X.xe s₂) X.xe s₁) X.xe s:=by
 refine bB (ha pins s σ H _ I h) fun v s1 ⟨x,H1,I1,r1,q1⟩=>?_
 refine bB (hb pins s1 σ H1 _ I1 q1) fun u s2 ⟨y,H2,I2,r2,q2⟩=>?_
 exact hf v u s2 x y H2 I2 r1 r2 q2
noncomputable def KD (i:Nat):TE:=fun σ H Q=>∃ v,σ[i]?=some (some v)∧Q v H
noncomputable def tC (v:V):TE:=fun _ H Q=>Q v H
theorem zM {i:Nat}{x:Str}{pos:Pos}(hN:X.N[i]?=some x) (hv:zI X.env.scope x) (hd:(x==("__debug__" : Str))=false:=by decide) (hcd:(x==("__classdict__" : Str))=false:=by decide):PE X (.Name x pos) (KD i):=by
 intro pins s σ H Q I h
 obtain ⟨v,e,h⟩:=h
 obtain ⟨m,hn,hl⟩:=I.loc
 obtain ⟨u,r,l⟩:=hl i x v hN e hv
 have fin:EP X pins σ Q u s:=⟨v,H,I,r,h⟩
 rcases l with ⟨hk,hm⟩ | ⟨hk,c,hc,hcell⟩
 ·exact wpAny_Name (wpAny_loadName_local I.ok.kind hk hn hm fin) hd
 ·rcases hk with hk | hk
  ·exact wpAny_Name (wpAny_loadName_cell I.ok.kind hk hc hcell fin) hd
  ·exact wpAny_Name (wpAny_loadName_free I.ok.kind hk hc hcell fin hcd) hd
theorem KG {i j pos}:PE X (.Constant (.int i) j pos) (tC (.int i)):=fun _ _ _ H _ I h=>wpAny_Constant_int ⟨.int i,H,I.tok _,⟨_,rfl⟩,h⟩
theorem Rb {b j pos}:PE X (.Constant (.bool b) j pos) (tC (.bl b)):=fun _ _ _ H _ I h=>Constant_bool ⟨.bl b,H,I,rfl,h⟩
theorem KH {x j pos}:PE X (.Constant (.str x) j pos) (tC (.str x)):=fun _ _ _ H _ I h=>Calls.Constant_str ⟨.str x,H,I.tok _,⟨_,rfl⟩,h⟩
noncomputable def Gl (X:Cx) (x:Str):Prop:=X.env.kindOf x=some .globalImplicit
theorem vZ {E:Value→Shared→Prop}{pins:List (Addr×Obj)}{s:Shared}{σ:St}{H:Hp}{x:Str}{u:Value}{pos:Pos}{Q:Value→Shared→Prop}(I:Inv X pins σ H s) (hg:Gl X x) (hm:X.mg x=some u) (h:Q u s)
  (hd:(x==("__debug__" : Str))=false:=by decide):wpAny (model X.prog X.w) X.A (eval (.Name x pos) X.env) Q E s:=
 Calls.Name_function_global I.ok.kind hg (Calls.loadGlobal_global (by rw [I.ok.glob];exact I.mod.glob.keeps I.bk) hm h) hd
theorem iO {E:Value→Shared→Prop}{pins:List (Addr×Obj)}{s:Shared}{σ:St}{H:Hp}{x:Str}{u:Value}{pos:Pos}{Q:Value→Shared→Prop}(I:Inv X pins σ H s) (hg:Gl X x) (hm:X.mg x=none) (hv:bootBuiltins x=some u) (h:Q u s)
  (hn:x≠"__name__" :=by decide) (hd:(x==("__debug__" : Str))=false:=by decide):wpAny (model X.prog X.w) X.A (eval (.Name x pos) X.env) Q E s:=by
 obtain ⟨mb,h1,h2⟩:=I.mod.blt
 exact Calls.Name_function_global I.ok.kind hg (Calls.loadGlobal_builtin (by rw [I.ok.glob];exact I.mod.glob.keeps I.bk) hm (by rw [I.ok.blt];exact h1.keeps I.bk) ((h2 x hn).trans hv) h) hd
theorem HL {x:Str}{v:V}{u:Value}{pos:Pos}(hg:Gl X x) (hm:X.mg x=some u) (r:RelV v u) (hd:(x==("__debug__" : Str))=false:=by decide):PE X (.Name x pos) (tC v):=
 fun _ _ _ H _ I h=>vZ I hg hm ⟨v,H,I,r,h⟩ hd
variable {a b:Expr}{ta tb:TE}{pos:Pos}
variable {tA E7:TT}{rest:List Expr}
noncomputable def WG (t u:TT):TT:=fun σ H Q=>t σ H fun c H1=>if c=true then u σ H1 Q else Q false H1
noncomputable def Ze (t u:TT):TT:=fun σ H Q=>t σ H fun c H1=>if c=true then Q true H1 else u σ H1 Q
noncomputable def WH (t:TT):TT:=fun σ H Q=>t σ H fun c H1=>Q (!c) H1
theorem HM (ha:PT X a tA):PW X (.BoolOp .And [a] pos) tA:=by
 intro wh pins s σ H Q I h
 refine isTrue_and (bB (ha pins s σ H Q I h) fun c s1 e=>?_)
 cases c with
 | true=>exact isTrue_and_nil e
 | false=>exact e
theorem KJ (ha:PT X a tA):PW X (.BoolOp .Or [a] pos) tA:=by
 intro wh pins s σ H Q I h
 refine isTrue_or (bB (ha pins s σ H Q I h) fun c s1 e=>?_)
 cases c with
 | false=>exact isTrue_or_nil e
 | true=>exact e
theorem KL (ha:PT X a tA) (hb:PW X (.BoolOp .And (b :: rest) pos) E7):PW X (.BoolOp .And (a :: b :: rest) pos) (WG tA E7):=by
 intro wh pins s σ H Q I h
 refine isTrue_and (bB (ha pins s σ H _ I h) fun c s1 ⟨H1,I1,q1⟩=>?_)
 cases c with
 | true=>exact hb wh pins s1 σ H1 Q I1 q1
 | false=>exact ⟨H1,I1,q1⟩
theorem Rc (ha:PT X a tA) (hb:PW X (.BoolOp .Or (b :: rest) pos) E7):PW X (.BoolOp .Or (a :: b :: rest) pos) (Ze tA E7):=by
 intro wh pins s σ H Q I h
 refine isTrue_or (bB (ha pins s σ H _ I h) fun c s1 ⟨H1,I1,q1⟩=>?_)
 cases c with
 | true=>exact ⟨H1,I1,q1⟩
 | false=>exact hb wh pins s1 σ H1 Q I1 q1
theorem KN (ha:PT X a tA):PT X (.UnaryOp .Not a pos) (WH tA):=by
 intro pins s σ H Q I h
 exact isTrue_not (ha pins s σ H (fun c H1=>Q (!c) H1) I h)
noncomputable def Rf (ta tb:TE):TE:=fun σ H Q=>ta σ H fun x H1=>∃ c,x=.bl c∧if c=true then tb σ H1 Q else Q (.bl false) H1
noncomputable def Rg (ta:TE):TE:=fun σ H Q=>ta σ H fun x H1=>∃ c,x=.bl c∧Q (.bl (!c)) H1
theorem KO {op}{t:TE}(h:PE X a t):PE X (.BoolOp op [a] pos) t:=fun pins s σ H Q I hw=>BoolOp_one (h pins s σ H Q I hw)
theorem KP (ha:PE X a ta) (hb:PE X (.BoolOp .And (b :: rest) pos) tb):PE X (.BoolOp .And (a :: b :: rest) pos) (Rf ta tb):=by
 intro pins s σ H Q I h
 refine BoolOp_and (bB (ha pins s σ H _ I h) fun v s1 ⟨x,H1,I1,r1,q1⟩=>?_)
 obtain ⟨c,rfl,q1⟩:=q1
 cases r1
 refine wpAny_truthy_bool ?_
 cases c with
 | true=>exact hb pins s1 σ H1 Q I1 q1
 | false=>exact ⟨.bl false,H1,I1,rfl,q1⟩
theorem KQ (ha:PE X a ta):PE X (.UnaryOp .Not a pos) (Rg ta):=by
 intro pins s σ H Q I h
 refine UnaryOp_ (bB (ha pins s σ H _ I h) fun v s1 ⟨x,H1,I1,r1,q1⟩=>?_)
 obtain ⟨c,rfl,q1⟩:=q1
 cases r1
 exact not_of (wpAny_truthy_bool ⟨.bl (!c),H1,I1,rfl,q1⟩)
noncomputable def Zg (t:TT) (ta tb:TE):TE:=fun σ H Q=>t σ H fun c H1=>if c=true then ta σ H1 Q else tb σ H1 Q
theorem Ck {c:Expr}(hc:PT X c tA) (ha:PE X a ta) (hb:PE X b tb):PE X (.IfExp c a b pos) (Zg tA ta tb):=by
 intro pins s σ H Q I h
 refine wpAny_IfExp (bB (hc pins s σ H _ I h) fun d s1 ⟨H1,I1,q1⟩=>?_)
 cases d with
 | true=>exact ha pins s1 σ H1 Q I1 q1
 | false=>exact hb pins s1 σ H1 Q I1 q1
end
end L2
namespace L2
open PySem PySem.Spec PyProof.Rows
noncomputable def dJ (K:PySem.W.Frag) (H:Hp) (a:Addr) (xs:List V):Prop:=
 Rd H a (.lst xs)∨
  ∃ (o:Obj) (its:Array Value) (n:Nat),K.lookup a=some o∧o.cls=.type "list" ∧o.dict=none∧o.data=.seq its n∧its.size≤sizeLine∧Vals xs its.toList
noncomputable def di (K:PySem.W.Frag) (H:Hp) (a:Addr) (xs:List V):Prop:=
 Rd H a (.tup xs)∨
  ∃ (o:Obj) (its:Array Value) (n:Nat),K.lookup a=some o∧o.cls=.type "tuple" ∧o.data=.seq its n∧its.size≤sizeLine∧Vals xs its.toList
noncomputable def WI:Value→Option V
 | .none=>some .bD
 | .bool b=>some (.bl b)
 | .int i _=>some (.int i)
 | .str x _=>some (.str x)
 | .bytes b _=>some (.zE b)
 | .float b _=>some (.zF b)
 | .ref a=>some (.ref a)
 | .type n=>some (.ty n)
 | _=>none
theorem RelV.abs {x:V}{u:Value}(r:RelV x u):WI u=some x:=by
 cases x with
 | bD=>cases r;rfl
 | bl _=>cases r;rfl
 | int _=>obtain ⟨t,rfl⟩:=r;rfl
 | str _=>obtain ⟨t,rfl⟩:=r;rfl
 | zE _=>obtain ⟨t,rfl⟩:=r;rfl
 | zF _=>obtain ⟨t,rfl⟩:=r;rfl
 | ref _=>cases r;rfl
 | ty _=>cases r;rfl
theorem RelV.inj {x y:V}{u:Value}(r:RelV x u) (q:RelV y u):x=y:=Option.some.inj (r.abs.symm.trans q.abs)
theorem Vals.inj:∀ {xs ys:List V}{us:List Value},Vals xs us→Vals ys us→xs=ys
 | _,_,_,.nil,.nil=>rfl
 | _,_,_,.cons r t,.cons r' t'=>by rw [r.inj r',Vals.inj t t']
section
variable {X:Cx}{pins:List (Addr×Obj)}{σ:St}{H:Hp}{s:Shared}{a:Addr}{xs ys:List V}
theorem dJ.of {K:PySem.W.Frag}(h:H a=some (.lst xs)):dJ K H a xs:=.inl (.inl h)
theorem di.of {K:PySem.W.Frag}(h:H a=some (.tup xs)):di K H a xs:=.inl (.inl h)
theorem Inv.list (I:Inv X pins σ H s) (h:dJ X.K H a xs):∃ its:List Value,Vals xs its∧PlainL s.heap a its.toArray∧xs.length≤sizeLine:=by
 rcases h with h | ⟨o,its,n,hk,hc,hd,hs,hz,r⟩
 ·obtain ⟨z,its,n,r,e⟩:=h.ok I.hok
  exact ⟨its,r,⟨_,n,e,rfl,rfl,rfl⟩,z⟩
 ·refine ⟨its.toList,r,⟨o,n,I.q8 a o hk,hc,hd,by simpa using hs⟩,?_⟩
  have e:=r.length
  simp only [Array.length_toList] at e
  omega
theorem Inv.tuple (I:Inv X pins σ H s) (h:di X.K H a xs):∃ its:List Value,Vals xs its∧IsTup s.heap a its.toArray∧xs.length≤sizeLine:=by
 rcases h with h | ⟨o,its,n,hk,hc,hs,hz,r⟩
 ·obtain ⟨z,its,r,p⟩:=h.ok I.hok
  exact ⟨its,r,p,z⟩
 ·refine ⟨its.toList,r,⟨o,I.q8 a o hk,hc,n,by simpa using hs⟩,?_⟩
  have e:=r.length
  simp only [Array.length_toList] at e
  omega
theorem Inv.oz (I:Inv X pins σ H s) (h:dJ X.K H a xs) (h':dJ X.K H a ys):xs=ys:=by
 obtain ⟨its,r,⟨o,n,e,_,_,d⟩,_⟩:=I.list h
 obtain ⟨its',r',⟨o',n',e',_,_,d'⟩,_⟩:=I.list h'
 rw [e] at e';cases e'
 rw [d] at d'
 injection d' with d1 _
 have:its=its':=by simpa using congrArg Array.toList d1
 subst this
 exact r.inj r'
theorem Inv.lV (I:Inv X pins σ H s) (h:di X.K H a xs) (h':di X.K H a ys):xs=ys:=by
 obtain ⟨its,r,⟨o,e,_,n,d⟩,_⟩:=I.tuple h
 obtain ⟨its',r',⟨o',e',_,n',d'⟩,_⟩:=I.tuple h'
 rw [e] at e';cases e'
 rw [d] at d'
 injection d' with d1 _
 have:its=its':=by simpa using congrArg Array.toList d1
 subst this
 exact r.inj r'
end
abbrev Cx.jX (X:Cx) (E:Value→Shared→Prop):Cx:={ X with xe:=E }
abbrev Cx.ri (X:Cx):Cx:=X.jX fun _ _=>False
theorem Cx.Ok.jX {X:Cx}(ok:X.Ok) (E:Value→Shared→Prop):(X.jX E).Ok:=
 ⟨ok.mod,ok.kind,ok.glob,ok.blt,ok.above,ok.inj,ok.has,ok.vW,ok.hd,ok.frames,ok.stk,ok.E4,ok.bs,ok.qZ,ok.qx,ok.qy,ok.iU,ok.tE⟩
theorem Cx.Ok.iP {X:Cx}{E:Value→Shared→Prop}(ok:(X.jX E).Ok):X.Ok:=
 ⟨ok.mod,ok.kind,ok.glob,ok.blt,ok.above,ok.inj,ok.has,ok.vW,ok.hd,ok.frames,ok.stk,ok.E4,ok.bs,ok.qZ,ok.qx,ok.qy,ok.iU,ok.tE⟩
section
variable {X:Cx}{pins:List (Addr×Obj)}{σ:St}{H:Hp}{s:Shared}{E:Value→Shared→Prop}
theorem Inv.jX (I:Inv X pins σ H s) (E:Value→Shared→Prop):Inv (X.jX E) pins σ H s:=⟨I.ok.jX E,I.os,I.bare,I.base,I.loc,I.cell,I.free,I.iJ,I.pin,I.hok,I.len⟩
theorem Inv.iP (I:Inv (X.jX E) pins σ H s):Inv X pins σ H s:=⟨I.ok.iP,I.os,I.bare,I.base,I.loc,I.cell,I.free,I.iJ,I.pin,I.hok,I.len⟩
theorem SP.iP {D:Ends}{f:Flow}{s':Shared}(h:SP (X.jX E) pins D f s'):SP X pins D f s':=by
 cases f with
 | next=>obtain ⟨σ',H',I,q⟩:=h;exact ⟨σ',H',I.iP,q⟩
 | brk=>obtain ⟨σ',H',I,q⟩:=h;exact ⟨σ',H',I.iP,q⟩
 | cont=>obtain ⟨σ',H',I,q⟩:=h;exact ⟨σ',H',I.iP,q⟩
 | ret u=>obtain ⟨v,σ',H',I,r,q⟩:=h;exact ⟨v,σ',H',I.iP,r,q⟩
theorem iu.ri {st:List Stmt}{t:TS}(h:iu X.ri st t):iu X st t:=fun pins s σ H D I hw=>
 wpAny_mono (h pins s σ H D (I.jX _) hw) (fun _ _ q=>q.iP) fun _ _ z=>False.elim z
end
section
variable {X:Cx}{st:Stmt}{rest:List Stmt}{t u:TS}{e:Expr}{te:TE}{pos:Pos}
noncomputable def Rh:TS:=fun D σ H=>D.nx σ H
noncomputable def WJ (t u:TS):TS:=fun D σ H=>t { D with nx:=u D } σ H
theorem HN:iu X [] Rh:=fun _ _ σ H _ I h=>wpAny_execs_nil ⟨σ,H,I,h⟩
theorem Cm (h1:PS X st t) (h2:iu X rest u):iu X (st :: rest) (WJ t u):=by
 intro pins s σ H D I h
 refine wpAny_execs_cons (bB (h1 pins s σ H { D with nx:=u D } I h) fun f s1 q=>?_)
 cases f with
 | next=>
  obtain ⟨σ',H',I',q⟩:=q
  exact h2 pins s1 σ' H' D I' q
 | ret v=>exact q
 | brk=>exact q
 | cont=>exact q
theorem Inv.quiet {pins:List (Addr×Obj)}{σ:St}{H:Hp}{s:Shared}(I:Inv X pins σ H s):interactive X.env=false:=by simp [interactive,I.ok.kind]
noncomputable def Ri (te:TE):TS:=fun D σ H=>te σ H fun _ H1=>D.nx σ H1
theorem HQ (he:PE X e te) (hs:swapsWith e none pos.line X.env=pure false:=by rfl):PS X (.Expr e pos) (Ri te):=by
 intro pins s σ H D I h
 exact wpAny_Expr_any (bB (he pins s σ H _ I h) fun v s1 ⟨x,H1,I1,r1,q1⟩=>⟨σ,H1,I1,q1⟩) I.quiet hs
noncomputable def WK (te:TE):TS:=fun D σ H=>te σ H D.rt
theorem KR (he:PE X e te):PS X (.Return (some e) pos) (WK te):=by
 intro pins s σ H D I h
 exact wpAny_Return_some (bB (he pins s σ H _ I h) fun v s1 ⟨x,H1,I1,r1,q1⟩=>⟨x,σ,H1,I1,r1,q1⟩)
noncomputable def WL (c:TT) (t u:TS):TS:=fun D σ H=>c σ H fun b H1=>if b=true then t D σ H1 else u D σ H1
theorem Rj {c:Expr}{a b:List Stmt}{tc:TT}(hc:PT X c tc) (ha:iu X a t) (hb:iu X b u):PS X (.If c a b pos) (WL tc t u):=by
 intro pins s σ H D I h
 refine wpAny_If (bB (hc pins s σ H _ I h) fun d s1 ⟨H1,I1,q1⟩=>?_)
 cases d with
 | true=>exact ha pins s1 σ H1 D I1 q1
 | false=>exact hb pins s1 σ H1 D I1 q1
noncomputable def KS:TS:=fun _ _ _=>False
theorem Cn:PS X st KS:=fun _ _ _ _ _ _ h=>h.elim
end
abbrev TG:=V→St→Hp→(St→Hp→Prop)→Prop
abbrev rj:=List V→St→Hp→(St→Hp→Prop)→Prop
noncomputable def PG (X:Cx) (target:Expr) (t:TG):Prop:=
 ∀ (pins:List (Addr×Obj)) (s:Shared) (σ:St) (H:Hp) (v:V) (u:Value) (Q:St→Hp→Prop),Inv X pins σ H s→RelV v u→t v σ H Q→
  wpAny (model X.prog X.w) X.A (assign target X.env u) (fun _ s'=>∃ σ' H',Inv X pins σ' H' s'∧Q σ' H') X.xe s
noncomputable def nL (X:Cx) (ts:List Expr) (t:rj):Prop:=
 ∀ (pins:List (Addr×Obj)) (s:Shared) (σ:St) (H:Hp) (vs:List V) (us:List Value) (Q:St→Hp→Prop),Inv X pins σ H s→Vals vs us→t vs σ H Q→
  wpAny (model X.prog X.w) X.A (assignInOrder ((assignEach ts X.env).map (·.2)) us) (fun _ s'=>∃ σ' H',Inv X pins σ' H' s'∧Q σ' H') X.xe s
section
variable {X:Cx}{pos:Pos}
noncomputable def E8 (i:Nat):TG:=fun v σ H Q=>Q (σ.set i (some v)) H
theorem wc {i:Nat}{x:Str}(hN:X.N.Nodup) (hi:X.N[i]?=some x) (hx:Loc X.env.scope x) (hf:X.fn x=true∨X.env.scope.names.lookup x=some .local:=by first | exact .inl rfl | exact .inr rfl | assumption):PG X (.Name x pos) (E8 i):=by
 intro pins s σ H v u Q I r h
 exact wpAny_assign_Name (tK I hN hi hx r (fun s' I'=>⟨_,H,I',h⟩) hf)
noncomputable def WM:rj:=fun vs σ H Q=>vs=[]∧Q σ H
noncomputable def Rk (t:TG) (u:rj):rj:=fun vs σ H Q=>∃ v r,vs=v :: r∧t v σ H fun σ' H'=>u r σ' H' Q
theorem HS:nL X [] WM:=by
 intro pins s σ H vs us Q I r h
 obtain ⟨e,h⟩:=h
 subst e
 cases r
 exact assignInOrder_nil ⟨σ,H,I,h⟩
theorem Co {e:Expr}{es:List Expr}{t:TG}{u:rj}(h1:PG X e t)(h2:nL X es u)
  (hs:(assignEach (e :: es) X.env).map (·.2)=assign e X.env :: (assignEach es X.env).map (·.2):=by rfl):nL X (e :: es) (Rk t u):=by
 intro pins s σ H vs us Q I r h
 obtain ⟨v,vr,e1,h⟩:=h
 subst e1
 cases r with
 | cons r rr=>
  rw [hs]
  refine assignInOrder_cons (bB (h1 pins s σ H _ _ _ I r h) fun _ s1 ⟨σ1,H1,I1,q1⟩=>?_)
  exact h2 pins s1 σ1 H1 _ _ Q I1 rr q1
noncomputable def WN (K:PySem.W.Frag) (n:Nat) (t:rj):TG:=fun v σ H Q=>∃ a xs,v=.ref a∧di K H a xs∧xs.length=n∧t xs σ H Q
theorem KU {es:List Expr}{k:Nat}{t:rj}{n:Nat}(hc:X.calm=true)(h:nL X es t)
  (hn:(assignEach es X.env).length=n:=by rfl) (hst:(assignEach es X.env).findIdx? (·.1)=none:=by rfl):PG X (.Tuple es k pos) (WN X.K n t):=by
 intro pins s σ H v u Q I r hw
 obtain ⟨a,xs,e1,hq,hl,hw⟩:=hw
 subst e1
 cases r
 obtain ⟨its,rv,ht,hz⟩:=I.tuple hq
 refine assign_Tuple_tuple (I.ok.hd hc) ht (by simp [hn,←hl,rv.length]) hst fun h' hx=>?_
 have I1:Inv X pins σ H { s with heap:=h' }:=I.kept (t':=s.toks) fun b o e=>hx b o (Nat.ne_of_lt (Heap.lt_size e)) e
 exact h pins _ σ H xs _ Q I1 (by simpa using rv) hw
noncomputable def WO (te:TE) (g:TG):TS:=fun D σ H=>te σ H fun x H1=>g x σ H1 D.nx
theorem zN {i:Nat}{x:Str}{e:Expr}{te:TE}{pos':Pos}(hN:X.N.Nodup) (hi:X.N[i]?=some x) (hx:Loc X.env.scope x) (he:PE X e te) (hs:swapsWith e (some (.Name x pos')) pos.line X.env=pure false:=by rfl) (hf:X.fn x=true∨X.env.scope.names.lookup x=some .local:=by first | exact .inl rfl | exact .inr rfl | assumption) :
  PS X (.Assign [.Name x pos'] e pos) (WO te (E8 i)):=by
 intro pins s σ H D I h
 refine wpAny_Assign_Name (bB (he pins s σ H _ I h) fun v s1 ⟨y,H1,I1,r1,q1⟩=>?_) hs
 exact tK I1 hN hi hx r1 (fun s2 I2=>⟨_,H1,I2,q1⟩) hf
end
section
variable {X:Cx}{pos:Pos}
noncomputable def KW (c:TT) (tb:TS):TS:=fun D σ H=>∃ W:Nat→St→Hp→Prop,(∃ m,W m σ H)∧∀ m σ H,W m σ H→
 c σ H fun b H1=>if b=true then ∃ N:St→Hp→Prop,(∀ σ' H',N σ' H'→∃ m',m'<m∧W m' σ' H')∧tb { D with nx:=N,ct:=N,bk:=D.nx } σ H1 else D.nx σ H1
theorem Cp {c:Expr}{body:List Stmt}{tc:TT}{tb:TS}(hp:PassesOwn (model X.prog X.w) X.A X.env X.xe) (hc:PT X c tc) (hb:iu X body tb):PS X (.While c body [] pos) (KW tc tb):=by
 intro pins s σ H D I h
 obtain ⟨W,⟨m0,w0⟩,turn⟩:=h
 refine wpAny_While (codeAny_whileLoop (fun n s'=>∃ σ' H',Inv X pins σ' H' s'∧W n σ' H') ?_ m0 ⟨σ,H,I,w0⟩)
 rintro n s1 ⟨σ1,H1,I1,w1⟩
 refine wpAny_passesOwn hp (bB (hc pins s1 σ1 H1 _ I1 (turn n σ1 H1 w1)) fun b s2 ⟨H2,I2,q2⟩=>?_)
 cases b with
 | true=>
  obtain ⟨N,hN,q2⟩:=q2
  rw [if_pos rfl]
  refine wpAny_passesOwn hp (bB (hb pins s2 σ1 H2 _ I2 q2) fun f s3 q3=>?_)
  cases f with
  | next=>
   obtain ⟨σ3,H3,I3,n3⟩:=q3
   obtain ⟨m',hm,w3⟩:=hN σ3 H3 n3
   exact ⟨m',hm,σ3,H3,I3,w3⟩
  | cont=>
   obtain ⟨σ3,H3,I3,n3⟩:=q3
   obtain ⟨m',hm,w3⟩:=hN σ3 H3 n3
   exact ⟨m',hm,σ3,H3,I3,w3⟩
  | brk=>exact q3
  | ret v=>exact q3
 | false=>
  rw [if_neg Bool.false_ne_true]
  exact wpAny_execs_nil ⟨σ1,H2,I2,q2⟩
end
structure It where
 go:Nat→Hp→Prop
 E9:Nat→Hp→V→Hp→Prop
 stop:Nat→Hp→Prop
noncomputable def gw (X:Cx) (pins:List (Addr×Obj)) (H:Hp) (b:Addr):Prop:=
 H b=none∧b≠X.env.locals∧b∉X.fs∧(b∈X.ex∨X.s₀.heap.objs.size≤b)∧(∀ x c,X.env.cells.lookup x=some c→c≠b)∧∀ p∈X.pn++pins,p.1≠b
theorem Inv.xU {X:Cx}{pins:List (Addr×Obj)}{σ:St}{H H':Hp}{s:Shared}{b:Addr}(I:Inv X pins σ H s) (hb:s.heap.objs.size≤b) (hn:H' b=none):gw X pins H' b:=by
 refine ⟨hn,Nat.ne_of_gt (Nat.lt_of_lt_of_le I.lt hb),I.WD hb,.inr (Nat.le_trans I.sz hb),fun x c e z=>?_,fun p hp z=>?_⟩
 ·obtain ⟨v,q⟩:=I.cell x c e
  exact absurd (Nat.lt_of_lt_of_le q.lt (by rw [z];exact hb)) (Nat.lt_irrefl _)
 ·exact absurd (Nat.lt_of_lt_of_le (Heap.lt_size (I.pin p hp).1) (by rw [z];exact hb)) (Nat.lt_irrefl _)
structure Turn (P:Program) (w:World) (K:PySem.W.Frag) (tg:Expr) (J:It) (fp:List Addr) (it:Addr) (tn:Nat→Heap→Prop):Prop where
 mem:it∈fp
 obj:∀ i h,tn i h→∀ b∈fp,∃ o,h.get? b=some o∧∀ v,o.data≠.cell v
 keep:∀ i h h',tn i h→(∀ b∈fp,∀ o,h.get? b=some o→h'.get? b=some o)→tn i h'
 item:∀ (X:Cx),X.prog=P→X.w=w→X.K=K→X.calm=true→∀ (i:Nat) (pins:List (Addr×Obj)) (s:Shared) (σ:St) (H:Hp) (E:Value→Shared→Prop),Inv X pins σ H s→(∀ b∈fp,gw X pins H b)→tn i s.heap→J.go i H→
  wpAny (model P w) X.A (pyNext (.ref it)) (fun r s1=>∃ u,r=some u∧
   wpAny (model P w) X.A (letOwnedTupleGo tg (.ref it) u) (fun _ s2=>∃ x H',Inv X pins σ H' s2∧RelV x u∧J.E9 i H x H'∧tn (i+1) s2.heap∧∀ b∈fp,H' b=none) E s1) E s
 done:∀ (X:Cx),X.prog=P→X.w=w→X.K=K→X.calm=true→∀ (i:Nat) (pins:List (Addr×Obj)) (s:Shared) (σ:St) (H:Hp) (E:Value→Shared→Prop),Inv X pins σ H s→(∀ b∈fp,gw X pins H b)→tn i s.heap→J.stop i H→
  wpAny (model P w) X.A (pyNext (.ref it)) (fun r s1=>r=none∧Inv X pins σ H s1) E s
 self:∀ (A:Around) (i:Nat) (s:Shared) (Q:Value→Shared→Prop) (E:Value→Shared→Prop),tn i s.heap→Q (.ref it) s→wpAny (model P w) A (pyIter (.ref it)) Q E s
abbrev TI:=St→Hp→(It→Hp→Prop)→Prop
noncomputable def Ul (X:Cx) (pins:List (Addr×Obj)) (σ:St) (tg:Expr) (R:It→Hp→Prop) (itv:Value) (s2:Shared):Prop:=
 ∃ (it:Addr) (fp:List Addr) (tn:Nat→Heap→Prop) (J:It) (H':Hp),itv=.ref it∧Inv X pins σ H' s2∧Turn X.prog X.w X.K tg J fp it tn∧tn 0 s2.heap∧(∀ b∈fp,gw X pins H' b)∧R J H'
noncomputable def PI (X:Cx) (tg iter:Expr) (wi:TI):Prop:=
 ∀ (pins:List (Addr×Obj)) (s:Shared) (σ:St) (H:Hp) (R:It→Hp→Prop),Inv X pins σ H s→wi σ H R→
  wpAny (model X.prog X.w) X.A (eval iter X.env) (fun v s1=>wpAny (model X.prog X.w) X.A (pyIter v) (Ul X pins σ tg R) X.xe s1) X.xe s
theorem xV {M:Model}{A:Around}{E:Value→Shared→Prop}{s:Shared}{tg:Expr}{it:Addr}{u:Value}{o:Obj}{n:String}{vs:Array Value}{Q:Unit→Shared→Prop}(ho:s.heap.get? it=some o)(hc:o.cls=.type n)(hd:o.data=.fields vs)
    (hn:["enumerate","zip","dict_itemiterator","dict_reverseitemiterator","odict_iterator","itertools.zip_longest","itertools.pairwise"].contains n=false) (hQ:Q () s):wpAny M A (letOwnedTupleGo tg (.ref it) u) Q E s:=by
  unfold letOwnedTupleGo
  cases tg <;> first
    | exact wpAny_pure hQ
    | (cases u <;> first
        | exact wpAny_pure hQ
        | (refine wpAny_bind (wpAny_load ho ?_)
           rw [hc,hd]
           show wpAny M A (if (["enumerate","zip","dict_itemiterator","dict_reverseitemiterator","odict_iterator","itertools.zip_longest","itertools.pairwise"].contains n&&vs[0]?==some (rawInt _))=true then _ else _) Q E s
           rw [if_neg (by intro h;rw [hn,Bool.false_and] at h;cases h)]
           exact wpAny_pure hQ))
noncomputable def Um (K:PySem.W.Frag) (a:Addr):It:=
 ⟨fun i H=>∃ xs x,dJ K H a xs∧xs[i]?=some x,fun i H x H'=>H'=H∧∀ xs,dJ K H a xs→xs[i]?=some x,fun i H=>∃ xs,dJ K H a xs∧xs.length≤i⟩
noncomputable def Uo (K:PySem.W.Frag) (a:Addr):It:=
 ⟨fun i H=>∃ xs x,di K H a xs∧xs[i]?=some x,fun i H x H'=>H'=H∧∀ xs,di K H a xs→xs[i]?=some x,fun i H=>∃ xs,di K H a xs∧xs.length≤i⟩
noncomputable def Fb (lo:Int) (n:Nat):It:=⟨fun i _=>i<n,fun i H x H'=>H'=H∧x=.int (lo+i),fun i _=>n≤i⟩
theorem zO {P:Program}{w:World}{K:PySem.W.Frag}{tg:Expr}(a it:Addr):Turn P w K tg (Um K a) [it] it (fun i h=>h.IsListIter it a i) where
 mem:=by simp
 obj:=fun i h st b hb=>by
  have e:b=it:=by simpa using hb
  subst e
  obtain ⟨o,e,c,d⟩:=st
  exact ⟨o,e,fun v z=>by rw [d] at z;cases z⟩
 keep:=fun i h h' st k=>st.at fun o e=>k it (by simp) o e
 item:=by
  intro X hP hw hK hc i pins s σ H E I hf st hg
  subst hP hw hK
  obtain ⟨xs,x,hq,hx⟩:=hg
  obtain ⟨its,rv,p,hz⟩:=I.list hq
  obtain ⟨u,hu,ru⟩:=rv.get hx
  obtain ⟨f0,f1,f2,f3,f4,f5⟩:=hf it (by simp)
  refine wpAny_pyNext_list_item st p.isList (x:=u) (by simpa using hu) fun h' st' sb=>?_
  have I1:Inv X pins σ H { s with heap:=h' }:=I.turned (t':=s.toks) (fun b o hb e=>(sb.2 b hb).trans e) f0 f1 f3 f4 f5
  obtain ⟨o,e,c,d⟩:=id st'
  exact ⟨u,rfl,xV (s:={ s with heap:=h' }) e c d (by decide) ⟨x,H,I1,ru,⟨rfl,fun ys hy=>by rw [I.oz hy hq];exact hx⟩,st',fun b hb=>(hf b hb).1⟩⟩
 done:=by
  intro X hP hw hK hc i pins s σ H E I hf st hg
  subst hP hw hK
  obtain ⟨xs,hq,hx⟩:=hg
  obtain ⟨its,rv,p,hz⟩:=I.list hq
  obtain ⟨f0,f1,f2,f3,f4,f5⟩:=hf it (by simp)
  have hl:=rv.length
  exact wpAny_pyNext_list_end (I.ok.hd hc) st p.isList (by simp;omega) fun h' eb=>⟨rfl,I.turned (t':=s.toks) (fun b o hb e=>eb b o hb e) f0 f1 f3 f4 f5⟩
 self:=fun _ _ _ _ _ st h=>wpAny_pyIter_listiter st h
theorem xW {P:Program}{w:World}{K:PySem.W.Frag}{tg:Expr}(a it:Addr):Turn P w K tg (Uo K a) [it] it (fun i h=>h.IsTupleIter it a i) where
 mem:=by simp
 obj:=fun i h st b hb=>by
  have e:b=it:=by simpa using hb
  subst e
  obtain ⟨o,e,c,d⟩:=st
  exact ⟨o,e,fun v z=>by rw [d] at z;cases z⟩
 keep:=fun i h h' st k=>st.at fun o e=>k it (by simp) o e
 item:=by
  intro X hP hw hK hc i pins s σ H E I hf st hg
  subst hP hw hK
  obtain ⟨xs,x,hq,hx⟩:=hg
  obtain ⟨its,rv,p,hz⟩:=I.tuple hq
  obtain ⟨u,hu,ru⟩:=rv.get hx
  obtain ⟨f0,f1,f2,f3,f4,f5⟩:=hf it (by simp)
  refine wpAny_pyNext_tuple_item st (show s.heap.IsTuple a its.toArray from p) (x:=u) (by simpa using hu) fun h' st' sb=>?_
  have I1:Inv X pins σ H { s with heap:=h' }:=I.turned (t':=s.toks) (fun b o hb e=>(sb.2 b hb).trans e) f0 f1 f3 f4 f5
  obtain ⟨o,e,c,d⟩:=id st'
  exact ⟨u,rfl,xV (s:={ s with heap:=h' }) e c d (by decide) ⟨x,H,I1,ru,⟨rfl,fun ys hy=>by rw [I.lV hy hq];exact hx⟩,st',fun b hb=>(hf b hb).1⟩⟩
 done:=by
  intro X hP hw hK hc i pins s σ H E I hf st hg
  subst hP hw hK
  obtain ⟨xs,hq,hx⟩:=hg
  obtain ⟨its,rv,p,hz⟩:=I.tuple hq
  obtain ⟨f0,f1,f2,f3,f4,f5⟩:=hf it (by simp)
  have hl:=rv.length
  exact wpAny_pyNext_tuple_end (I.ok.hd hc) st (show s.heap.IsTuple a its.toArray from p) (by simp;omega) fun h' eb=>⟨rfl,I.turned (t':=s.toks) (fun b o hb e=>eb b o hb e) f0 f1 f3 f4 f5⟩
 self:=fun _ _ _ _ _ st h=>wpAny_pyIter_tupleiter st h
theorem xX {P:Program}{w:World}{K:PySem.W.Frag}{tg:Expr}(it:Addr) (lo:Int) (n:Nat):Turn P w K tg (Fb lo n) [it] it (fun i h=>IsRangeIter h it (lo+(i:Nat)*1) ((n:Int) - (i:Nat)) 1) where
 mem:=by simp
 obj:=fun i h st b hb=>by
  have e:b=it:=by simpa using hb
  subst e
  exact ⟨_,st,fun v z=>by
   have z':Data.fields _=Data.cell v:=z
   cases z'⟩
 keep:=fun i h h' st k=>k it (by simp) _ st
 item:=by
  intro X hP hw hK hc i pins s σ H E I hf st hg
  subst hP hw hK
  obtain ⟨f0,f1,f2,f3,f4,f5⟩:=hf it (by simp)
  have W:=Walks.range (prog:=X.prog) (w:=X.w) (I.ok.hd hc) it lo 1 n
  refine W.item i s _ _ hg st fun v h' tk hv st' kk=>?_
  obtain ⟨t,rfl⟩:=hv
  have I1:Inv X pins σ H { s with heap:=h',toks:=tk }:=I.turned (fun b o hb e=>kk b o (by simpa using hb) e) f0 f1 f3 f4 f5
  refine ⟨_,rfl,xV (s:={ s with heap:=h',toks:=tk }) (n:="range_iterator") st' rfl rfl (by decide) ⟨.int (lo+i),H,I1,⟨t,?_⟩,⟨rfl,rfl⟩,st',fun b hb=>(hf b hb).1⟩⟩
  rw [Int.mul_one]
 done:=by
  intro X hP hw hK hc i pins s σ H E I hf st hg
  subst hP hw hK
  obtain ⟨f0,f1,f2,f3,f4,f5⟩:=hf it (by simp)
  exact wpAny_pyNext_range_end (I.ok.hd hc) st (by have:n≤i:=hg;omega) fun h' eb=>⟨rfl,I.turned (t':=s.toks) (fun b o hb e=>eb b o hb e) f0 f1 f3 f4 f5⟩
 self:=fun _ _ _ _ _ st h=>wpAny_pyIter_rangeiter st h
end L2
namespace L2
open PySem PySem.Spec PyProof.Rows
section
variable {X:Cx}{tg:Expr}
theorem Cq {pins:List (Addr×Obj)}{σ:St}{H:Hp}{s:Shared}{R:It→Hp→Prop}{E:Value→Shared→Prop}{lo hi:Int}{t u v:Tok}{tk:Nat}(I:Inv X pins σ H s) (h1:-(2 ^ 62)≤lo) (h2:lo<2 ^ 62) (h3:-(2 ^ 62)≤hi) (h4:hi<2 ^ 62)
  (q:R (Fb lo (hi - lo).toNat) H):wpAny (model X.prog X.w) X.A (pyIter (.ref s.heap.objs.size)) (Ul X pins σ tg R) E { s with heap:=s.heap.push { cls:=.type "range",data:=.fields #[.int lo t,.int hi u,.int 1 v]},toks:=tk }:=by
 refine wpAny_pyIter_range (IsRange.new ..) (small_one h1 h2 h3 h4) ?_
 have I1:Inv X pins σ H { s with heap:=s.heap.push { cls:=.type "range",data:=.fields #[.int lo t,.int hi u,.int 1 v]},toks:=tk }:=I.kept fun b o e=>Heap.get?_push_of_some _ e
 refine ⟨(s.heap.push { cls:=.type "range",data:=.fields #[.int lo t,.int hi u,.int 1 v]}).objs.size,[(s.heap.push { cls:=.type "range",data:=.fields #[.int lo t,.int hi u,.int 1 v]}).objs.size],_,_,H,rfl,
  I1.kept (t':=tk) fun b o e=>Heap.get?_push_of_some _ e,xX _ lo (hi - lo).toNat,?_,fun b hb=>?_,q⟩
 ·have e1:lo+((0:Nat):Int)*1=lo:=by simp
  have e2:(((hi - lo).toNat:Nat):Int) - ((0:Nat):Int)=Builtin.Range.rangeSize lo hi 1:=by rw [rangeSize_one];split <;> omega
  show IsRangeIter _ _ (lo+((0:Nat):Int)*1) ((((hi - lo).toNat:Nat):Int) - ((0:Nat):Int)) 1
  rw [e1,e2]
  exact Heap.get?_push_size _ rfl
 ·have e:b=(s.heap.push { cls:=.type "range",data:=.fields #[.int lo t,.int hi u,.int 1 v]}).objs.size:=by simpa using hb
  subst e
  exact I1.xU (Nat.le_refl _) (I1.hok.fresh (Nat.le_refl _))
noncomputable def Rl (ta:TA):TI:=fun σ H R=>ta σ H fun vs H1=>∃ j:Int,vs=[.int j]∧-(2 ^ 62)≤j∧j<2 ^ 62∧R (Fb 0 j.toNat) H1
theorem zP {a:Expr}{ta:TA}{p pos:Pos}(hg:Gl X "range") (hm:X.mg "range" = none) (ha:PA X [a] ta) (hs:starEach [a] X.env=[(false,eval a X.env)]:=by rfl):PI X tg (.Call (.Name "range" p) [a] [] pos) (Rl ta):=by
 intro pins s σ H R I h
 refine Call_ (iO I hg hm boot_range (PyProof.Rows.callWith_type1 (bB (ha pos pins s σ H _ I h) fun us s1 ⟨vs,H1,I1,r1,q1⟩=>?_) hs rfl))
 obtain ⟨j,e,q1,q2,q⟩:=q1
 subst e
 cases r1 with
 | cons r rr=>
  cases rr
  obtain ⟨t,rfl⟩:=r
  exact call_range_1 (Cq I1 (by omega) (by omega) q1 q2 (by simpa using q))
noncomputable def WQ (wi:TI) (g:TG) (tb:TS):TS:=fun D σ H=>wi σ H fun J H1=>∃ W:Nat→Nat→St→Hp→Prop,(∃ m,W 0 m σ H1)∧∀ i m σ H,W i m σ H→
 (J.stop i H∧D.nx σ H)∨(J.go i H∧∃ N:St→Hp→Prop,(∀ σ' H',N σ' H'→∃ m',m'<m∧W (i+1) m' σ' H')∧∀ x H',J.E9 i H x H'→g x σ H' fun σ2 H2=>tb { D with nx:=N,ct:=N,bk:=D.nx } σ2 H2)
noncomputable def lW (fp:List Addr) (h:Heap):List (Addr×Obj):=fp.filterMap fun b=>(h.get? b).map fun o=>(b,o)
theorem jb {fp:List Addr}{h:Heap}{b:Addr}{o:Obj}(hb:b∈fp) (e:h.get? b=some o):(b,o)∈lW fp h:=List.mem_filterMap.mpr ⟨b,hb,by rw [e];rfl⟩
theorem zQ {fp:List Addr}{h:Heap}{p:Addr×Obj}(hp:p∈lW fp h):p.1∈fp∧h.get? p.1=some p.2:=by
 obtain ⟨b,hb,e⟩:=List.mem_filterMap.mp hp
 cases q:h.get? b with
 | none=>rw [q] at e;cases e
 | some o=>
  rw [q] at e
  have e':(b,o)=p:=Option.some.inj e
  subst e'
  exact ⟨hb,q⟩
theorem Inv.pinned {pins:List (Addr×Obj)}{σ:St}{H:Hp}{s:Shared}{fp:List Addr}(I:Inv X pins σ H s) (hf:∀ b∈fp,gw X pins H b) (ho:∀ b∈fp,∃ o,s.heap.get? b=some o∧∀ v,o.data≠.cell v):Inv X (pins++lW fp s.heap) σ H s:=
 I.vY fun p hp=>(List.mem_append.mp hp).elim (fun z=>I.pin p (List.mem_append_right _ z)) fun z=>by
  obtain ⟨hb,e⟩:=zQ z
  obtain ⟨f0,f1,f2,_⟩:=hf p.1 hb
  obtain ⟨o,e',d⟩:=ho p.1 hb
  rw [e] at e';cases e'
  exact ⟨e,f0,f1,f2,d⟩
theorem Inv.kL {pins pl:List (Addr×Obj)}{σ:St}{H:Hp}{s:Shared}(I:Inv X (pins++pl) σ H s):Inv X pins σ H s:=I.vY fun p hp=>I.pin p (List.mem_append_right _ (List.mem_append_left _ hp))
theorem KY {iter:Expr}{body:List Stmt}{wi:TI}{g:TG}{tb:TS}{pos:Pos}(hp:PassesOwn (model X.prog X.w) X.A X.env X.xe) (hc:X.calm=true) (hi:PI X tg iter wi) (hg:PG X tg g) (hb:iu X body tb)
  (hs:∀ x,foldedSetIterable iter X.env x=pure x:=by intro _;rfl):PS X (.For tg iter body [] pos) (WQ wi g tb):=by
 intro pins s σ H D I h
 refine wpAny_For (bB (hi pins s σ H _ I h) fun v s1 h1=>bB h1 fun itv s2 h2=>?_) hs
 obtain ⟨it,fp,tn,J,H2,e,I2,T,st2,f2,W,⟨m0,w0⟩,turn⟩:=h2
 subst e
 have kM:∀ {H':Hp},(∀ b∈fp,H' b=none)→∀ b∈fp,gw X pins H' b:=fun hn b hb=>⟨hn b hb,(f2 b hb).2⟩
 refine codeAny_forLoop_any (fun n s'=>∃ i σ' H',Inv X pins σ' H' s'∧tn i s'.heap∧(∀ b∈fp,H' b=none)∧W i n σ' H') ?_ m0 ⟨0,σ,H2,I2,st2,fun b hb=>(f2 b hb).1,w0⟩
 rintro n s3 ⟨i,σ3,H3,I3,st3,bY,w3⟩
 rcases turn i n σ3 H3 w3 with ⟨stop,qn⟩ | ⟨go,N,hN,step⟩
 ·refine wpAny_passesOwn hp (bB (T.done X rfl rfl rfl hc i pins s3 σ3 H3 X.xe I3 (kM bY) st3 stop) fun r s4 ⟨hr,I4⟩=>?_)
  subst hr
  exact wpAny_execs_nil ⟨σ3,H3,I4,qn⟩
 ·refine wpAny_passesOwn hp (bB (T.item X rfl rfl rfl hc i pins s3 σ3 H3 X.xe I3 (kM bY) st3 go) fun r s4 ⟨u,hr,h4⟩=>?_)
  subst hr
  refine wpAny_passesOwn hp (bB h4 fun _ s5 ⟨x,H5,I5,r5,y5,we,rm⟩=>?_)
  have Zh:=I5.pinned (kM rm) (T.obj _ _ we)
  refine wpAny_passesOwn hp (bB (hg _ s5 σ3 H5 x u _ Zh r5 (step x H5 y5)) fun _ s6 ⟨Zi,H6,I6,q6⟩=>?_)
  refine wpAny_passesOwn hp (bB (hb _ s6 Zi H6 _ I6 q6) fun f s7 q7=>?_)
  have again:∀ {lX:St} {H7:Hp},Inv X (pins++lW fp s5.heap) lX H7 s7→N lX H7→∃ m,m<n∧∃ i σ' H',Inv X pins σ' H' s7∧tn i s7.heap∧(∀ b∈fp,H' b=none)∧W i m σ' H':=fun {lX H7} I7 n7=>by
   obtain ⟨m',hm,w7⟩:=hN lX H7 n7
   refine ⟨m',hm,i+1,lX,H7,I7.kL,T.keep _ _ _ we fun b hb o e=>(I7.pin (b,o) (List.mem_append_right _ (List.mem_append_right _ (jb hb e)))).1,fun b hb=>?_,w7⟩
   obtain ⟨o,e,d⟩:=T.obj _ _ we b hb
   exact (I7.pin (b,o) (List.mem_append_right _ (List.mem_append_right _ (jb hb e)))).2.1
  cases f with
  | next=>obtain ⟨lX,H7,I7,n7⟩:=q7;exact again I7 n7
  | cont=>obtain ⟨lX,H7,I7,n7⟩:=q7;exact again I7 n7
  | brk=>obtain ⟨lX,H7,I7,q7⟩:=q7;exact ⟨lX,H7,I7.kL,q7⟩
  | ret v=>obtain ⟨x7,lX,H7,I7,r7,q7⟩:=q7;exact ⟨x7,lX,H7,I7.kL,r7,q7⟩
end
end L2
namespace L2
open PySem PySem.Spec PyProof.Rows
abbrev R2:=V→V→Hp→VK→Prop
noncomputable def dR (X:Cx) (f:Value→Value→Sem Value) (r:R2):Prop:=
 ∀ (pins:List (Addr×Obj)) (s:Shared) (σ:St) (H:Hp) (x y:V) (v u:Value) (Q:VK),Inv X pins σ H s→RelV x v→RelV y u→r x y H Q→
  wpAny (model X.prog X.w) X.A (f v u) (EP X pins σ Q) X.xe s
noncomputable def KZ (X:Cx) (f:Value→Sem Value) (r:V→Hp→VK→Prop):Prop:=
 ∀ (pins:List (Addr×Obj)) (s:Shared) (σ:St) (H:Hp) (x:V) (v:Value) (Q:VK),Inv X pins σ H s→RelV x v→r x H Q→
  wpAny (model X.prog X.w) X.A (f v) (EP X pins σ Q) X.xe s
noncomputable def fR (X:Cx) (f:Value) (r:List V→Hp→VK→Prop):Prop:=
 ∀ (pins:List (Addr×Obj)) (s:Shared) (σ:St) (H:Hp) (xs:List V) (us:List Value) (Q:VK),Inv X pins σ H s→Vals xs us→r xs H Q→
  wpAny (model X.prog X.w) X.A (call f us) (EP X pins σ Q) X.xe s
noncomputable def WR (X:Cx) (r:V→Hp→(Bool→Hp→Prop)→Prop):Prop:=
 ∀ (pins:List (Addr×Obj)) (s:Shared) (σ:St) (H:Hp) (x:V) (v:Value) (Q:Bool→Hp→Prop),Inv X pins σ H s→RelV x v→r x H Q→
  wpAny (model X.prog X.w) X.A (truthy v) (TP X pins σ Q) X.xe s
noncomputable def zR (r:R2) (ta tb:TE):TE:=fun σ H Q=>ta σ H fun x H1=>tb σ H1 fun y H2=>r x y H2 Q
noncomputable def Zj (r:V→Hp→VK→Prop) (ta:TE):TE:=fun σ H Q=>ta σ H fun x H1=>r x H1 Q
noncomputable def rI (C:Int→Int→Prop) (g:Int→Int→V):R2:=fun x y H Q=>∃ i j,x=.int i∧y=.int j∧C i j∧Q (g i j) H
noncomputable def tL (g:Int→Int→V):R2:=fun x y H Q=>∃ i j,x=.int i∧y=.int j∧Q (g i j) H
noncomputable def rU (g:Int→V):V→Hp→VK→Prop:=fun x H Q=>∃ i,x=.int i∧Q (g i) H
section
variable {X:Cx}{a b c:Expr}{ta tb tc:TE}{pos:Pos}
theorem xY (ha:PE X a ta) (hb:PE X b tb) {pins:List (Addr×Obj)}{s:Shared}{σ:St}{H:Hp}{R:V→V→Hp→Prop}(I:Inv X pins σ H s)
  (h:ta σ H fun x H1=>tb σ H1 fun y H2=>R x y H2) {Q:Value→Shared→Prop} {f:Value→Value→Sem Value}
  (hf:∀ v u s2 x y H2,Inv X pins σ H2 s2→RelV x v→RelV y u→R x y H2→wpAny (model X.prog X.w) X.A (f v u) Q X.xe s2) :
  wpAny (model X.prog X.w) X.A (eval a X.env) (fun v s₁=>wpAny (model X.prog X.w) X.A (eval b X.env) (fun u s₂=>wpAny (model X.prog X.w) X.A (f v u) Q X.xe s₂) X.xe s₁) X.xe s:=by
 refine bB (ha pins s σ H _ I h) fun v s1 ⟨x,H1,I1,r1,q1⟩=>?_
 refine bB (hb pins s1 σ H1 _ I1 q1) fun u s2 ⟨y,H2,I2,r2,q2⟩=>?_
 exact hf v u s2 x y H2 I2 r1 r2 q2
theorem Rm {op:Operator}{r:R2}(ho:dR X (binaryOp op) r) (ha:PE X a ta) (hb:PE X b tb):PE X (.BinOp a op b pos) (zR r ta tb):=by
 intro pins s σ H Q I h
 exact wpAny_BinOp (xY ha hb I h fun v u s2 x y H2 I2 rx ry q=>ho pins s2 σ H2 x y v u Q I2 rx ry q)
theorem Rn {op:UnaryOp}{r:V→Hp→VK→Prop}(ho:KZ X (unaryOp op) r) (ha:PE X a ta):PE X (.UnaryOp op a pos) (Zj r ta):=by
 intro pins s σ H Q I h
 exact UnaryOp_ (bB (ha pins s σ H _ I h) fun v s1 ⟨x,H1,I1,r1,q1⟩=>ho pins s1 σ H1 x v Q I1 r1 q1)
theorem K0 {f:Value→Value→Sem Value}{C:Int→Int→Prop}{g:Int→Int→Int}
  (rule:∀ (i j:Int) (t u:Tok) (s:Shared) (Q:Value→Shared→Prop) (E:Value→Shared→Prop),C i j→Q (.int (g i j) s.toks) { s with toks:=s.toks+1 }→wpAny (model X.prog X.w) X.A (f (.int i t) (.int j u)) Q E s) :
  dR X f (rI C fun i j=>.int (g i j)):=by
 intro pins s σ H x y v u Q I rx ry h
 obtain ⟨i,j,rfl,rfl,hc,q⟩:=h
 obtain ⟨t,rfl⟩:=rx
 obtain ⟨t',rfl⟩:=ry
 exact rule i j t t' s _ _ hc ⟨.int (g i j),H,I.tok _,⟨_,rfl⟩,q⟩
theorem K3 {f:Value→Value→Sem Value}{g:Int→Int→Int}
  (rule:∀ (i j:Int) (t u:Tok) (s:Shared) (Q:Value→Shared→Prop) (E:Value→Shared→Prop),Q (.int (g i j) s.toks) { s with toks:=s.toks+1 }→wpAny (model X.prog X.w) X.A (f (.int i t) (.int j u)) Q E s) :
  dR X f (tL fun i j=>.int (g i j)):=by
 intro pins s σ H x y v u Q I rx ry h
 obtain ⟨i,j,rfl,rfl,q⟩:=h
 obtain ⟨t,rfl⟩:=rx
 obtain ⟨t',rfl⟩:=ry
 exact rule i j t t' s _ _ ⟨.int (g i j),H,I.tok _,⟨_,rfl⟩,q⟩
theorem K4 {f:Value→Value→Sem Value}{g:Int→Int→Bool}
  (rule:∀ (i j:Int) (t u:Tok) (s:Shared) (Q:Value→Shared→Prop) (E:Value→Shared→Prop),Q (.bool (g i j)) s→wpAny (model X.prog X.w) X.A (f (.int i t) (.int j u)) Q E s) :
  dR X f (tL fun i j=>.bl (g i j)):=by
 intro pins s σ H x y v u Q I rx ry h
 obtain ⟨i,j,rfl,rfl,q⟩:=h
 obtain ⟨t,rfl⟩:=rx
 obtain ⟨t',rfl⟩:=ry
 exact rule i j t t' s _ _ ⟨.bl (g i j),H,I,rfl,q⟩
noncomputable def WS (i j:Int):Prop:=0<j∧j<1073741824
noncomputable def Cr (i j:Int):Prop:=(-(2 ^ 64)<i∧i<2 ^ 64)∨(-(2 ^ 64)<j∧j<2 ^ 64)
theorem Cr.ok {i j:Int}(h:Cr i j):IntMulOk i j:=by
 rcases h with ⟨h1,h2⟩ | ⟨h1,h2⟩
 ·exact .of_left (intBits_le_64 h1 h2)
 ·exact .of_right (intBits_le_64 h1 h2)
theorem K5:dR X (binaryOp .Add) (tL fun i j=>.int (i+j)):=K3 fun _ _ _ _ _ _ _ q=>add_int q
theorem K6:dR X (binaryOp .Sub) (tL fun i j=>.int (i - j)):=K3 fun _ _ _ _ _ _ _ q=>sub_int q
theorem K7:dR X (binaryOp .Mult) (rI Cr fun i j=>.int (i*j)):=K0 fun _ _ _ _ _ _ _ hc q=>mul_int q hc.ok
theorem HU:dR X (binaryOp .FloorDiv) (rI WS fun i j=>.int (i / j)):=K0 fun i j _ _ _ _ _ hc q=>by
 have h1:(0:Int)<j:=hc.1
 have h2:j<1073741824:=hc.2
 exact floordiv_int (by omega) (by rw [Int.fdiv_eq_ediv_of_nonneg i (by omega)];exact q) (.inl (PyProof.noPylong_small (by omega)))
theorem K8:dR X (binaryOp .Mod) (rI (fun _ j=>0<j) fun i j=>.int (i % j)):=K0 fun i j _ _ _ _ _ hc q=>by
 have h1:(0:Int)<j:=hc
 exact mod_int' (by omega) (by rw [Int.fmod_eq_emod_of_nonneg i (by omega)];exact q)
theorem Zk {f:Value→Sem Value}{g:Int→Int}
  (rule:∀ (i:Int) (t:Tok) (s:Shared) (Q:Value→Shared→Prop) (E:Value→Shared→Prop),Q (.int (g i) s.toks) { s with toks:=s.toks+1 }→wpAny (model X.prog X.w) X.A (f (.int i t)) Q E s) :
  KZ X f (rU fun i=>.int (g i)):=by
 intro pins s σ H x v Q I rx h
 obtain ⟨i,rfl,q⟩:=h
 obtain ⟨t,rfl⟩:=rx
 exact rule i t s _ _ ⟨.int (g i),H,I.tok _,⟨_,rfl⟩,q⟩
theorem K9:KZ X (unaryOp .USub) (rU fun i=>.int (-i)):=Zk fun _ _ _ _ _ q=>neg_int q
end
section
variable {X:Cx}{a b c:Expr}{ta tb tc:TE}{pos:Pos}
theorem Ro:dR X (compareOp .Lt) (tL fun i j=>.bl (decide (i<j))):=K4 fun _ _ _ _ _ _ _ q=>lt_int q
theorem Rp:dR X (compareOp .Gt) (tL fun i j=>.bl (decide (j<i))):=K4 fun _ _ _ _ _ _ _ q=>gt_int q
theorem j8 (b:Expr) {op:CmpOp}(h:op≠.In:=by decide) (h2:op≠.NotIn:=by decide):behindInMarks op b=false:=by
 have e1:(op==CmpOp.In)=false:=by cases op <;> first | rfl | exact absurd rfl h
 have e2:(op==CmpOp.NotIn)=false:=by cases op <;> first | rfl | exact absurd rfl h2
 cases b <;> simp [behindInMarks,e1,e2]
theorem HV {op:CmpOp}{r:R2}(ho:dR X (compareOp op) r) (ha:PE X a ta) (hb:PE X b tb) (hm:behindInMarks op b=false):PE X (.Compare a [op] [b] pos) (zR r ta tb):=by
 intro pins s σ H Q I h
 exact wpAny_Compare1 (xY ha hb I h fun v u s2 x y H2 I2 rx ry q=>ho pins s2 σ H2 x y v u Q I2 rx ry q) hm
noncomputable def Rq (t:TE):TT:=fun σ H Q=>t σ H fun x H'=>∃ k,x=.bl k∧Q k H'
theorem HW {op:CmpOp}{r:R2}(ho:dR X (compareOp op) r) (ha:PE X a ta) (hb:PE X b tb) (hm:behindInMarks op b=false):PT X (.Compare a [op] [b] pos) (Rq (zR r ta tb)):=by
 intro pins s σ H Q I h
 refine wpAny_isTrue_Compare1 (bB (ha pins s σ H _ I h) fun v s1 ⟨x,H1,I1,r1,q1⟩=>bB (hb pins s1 σ H1 _ I1 q1) fun u s2 ⟨y,H2,I2,r2,q2⟩=>
  bB (ho pins s2 σ H2 x y v u _ I2 r1 r2 q2) fun c s3 ⟨z,H3,I3,r3,k,e,q3⟩=>?_) hm
 subst e
 cases r3
 exact wpAny_truthy_bool ⟨H3,I3,q3⟩
noncomputable def Cs (K:PySem.W.Frag) (x:V) (H:Hp) (k:Bool):Prop:=
 match x with
 | .bD=>k=false
 | .bl b=>k=b
 | .int i=>k=(i != 0)
 | .str y=>y.length≤sizeLine∧k=((y.length:Int) != 0)
 | .zE y=>y.size≤sizeLine∧k=((y.size:Int) != 0)
 | .ref p=>(∃ xs,dJ K H p xs∧k = !xs.isEmpty)∨(∃ xs,di K H p xs∧k = !xs.isEmpty)∨∃ kvs,H p=some (.dK kvs)∧k = !kvs.isEmpty
 | _=>False
theorem xZ {κ:Type}{kvs:List (κ×V)}{vs:List (κ×Value)}(r:KV kvs vs):(!vs.isEmpty) = !kvs.isEmpty:=by
 cases r <;> rfl
theorem o5 {xs:List V}{its:List Value}(r:Vals xs its):(!its.toArray.isEmpty) = !xs.isEmpty:=by
 cases r <;> simp
theorem j9:(sizeLine:Nat)<2 ^ 63:=by rw [sizeLine_eq];decide
theorem La:WR X (fun x H Q=>∃ k,Cs X.K x H k∧Q k H):=by
 intro pins s σ H x v Q I rx h
 obtain ⟨k,e,q⟩:=h
 have hl:=j9
 have hs:sizeLine=16777216:=sizeLine_eq
 cases x with
 | bD=>
  cases rx
  have e':k=false:=e
  subst e'
  exact truthy_none ⟨H,I,q⟩
 | bl b=>
  cases rx
  have e':k=b:=e
  subst e'
  exact wpAny_truthy_bool ⟨H,I,q⟩
 | int i=>
  obtain ⟨t,rfl⟩:=rx
  have e':k=(i != 0):=e
  subst e'
  exact PySem.P.truthy_int ⟨H,I,q⟩
 | str y=>
  obtain ⟨t,rfl⟩:=rx
  obtain ⟨hy,e'⟩:y.length≤sizeLine∧k=((y.length:Int) != 0):=e
  subst e'
  exact PySem.P.truthy_str (by omega) ⟨H,I.tok _,q⟩
 | zE y=>
  obtain ⟨t,rfl⟩:=rx
  obtain ⟨hy,e'⟩:y.size≤sizeLine∧k=((y.size:Int) != 0):=e
  subst e'
  exact PySem.W.truthy_bytes (by omega) ⟨H,I.tok _,q⟩
 | ref p=>
  cases rx
  have e':(∃ xs,dJ X.K H p xs∧k = !xs.isEmpty)∨(∃ xs,di X.K H p xs∧k = !xs.isEmpty)∨∃ kvs,H p=some (.dK kvs)∧k = !kvs.isEmpty:=e
  rcases e' with ⟨xs,hx,e'⟩ | ⟨xs,hx,e'⟩ | ⟨kvs,hx,e'⟩
  ·subst e'
   obtain ⟨its,r,pl,hz⟩:=I.list hx
   have hlen:=r.length
   exact wpAny_truthy_list pl.isList (by simp only [List.size_toArray];omega) ⟨H,I.tok _,by rw [o5 r];exact q⟩
  ·subst e'
   obtain ⟨its,r,pl,hz⟩:=I.tuple hx
   have hlen:=r.length
   exact truthy_tuple pl (by simp only [List.size_toArray];omega) ⟨H,I.tok _,by rw [o5 r];exact q⟩
  ·subst e'
   obtain ⟨hz,hS,vs,r,m⟩:kvs.length≤sizeLine∧(p==sysModules)=false∧∃ vs,KV kvs vs∧s.heap.DictOf (cE X.prog X.w) p vs:=I.hok p _ hx
   have hlen:kvs.length=vs.length:=Paired.length r
   exact wpAny_truthy_dict hS m (by omega) ⟨H,I.tok _,by rw [xZ r];exact q⟩
 | _=>exact (show False from e).elim
theorem Ct (ha:PE X a ta) (he:∀ whole,isTrue a X.env whole=(do let v ←whole;standAt a.pos;holding [v] (truthy v))) :
  PT X a (fun σ H Q=>ta σ H fun x H'=>∃ k,Cs X.K x H' k∧Q k H'):=by
 intro pins s σ H Q I h
 exact isTrue_plain (bB (ha pins s σ H _ I h) fun v s1 ⟨x,H1,I1,r1,q1⟩=>La pins s1 σ H1 x v Q I1 r1 q1) (he _)
theorem x6:dR X (binaryOp .Add) (fun x y H Q=>∃ i j,x=.str i∧y=.str j∧i.length+j.length≤sizeLine∧Q (.str (i++j)) H):=by
 intro pins s σ H x y v u Q I rx ry h
 obtain ⟨i,j,rfl,rfl,hz,q⟩:=h
 obtain ⟨t,rfl⟩:=rx
 obtain ⟨t',rfl⟩:=ry
 exact add_str (fun t' tk=>⟨.str (i++j),H,I.tok _,⟨_,rfl⟩,q⟩) hz
theorem vals1 {x:V}{us:List Value}(r:Vals [x] us):∃ u,us=[u]∧RelV x u:=by
 cases r with
 | cons r1 r2=>cases r2;exact ⟨_,rfl,r1⟩
theorem vals2 {x y:V}{us:List Value}(r:Vals [x,y] us):∃ u w',us=[u,w']∧RelV x u∧RelV y w':=by
 cases r with
 | cons r1 r2=>
  cases r2 with
  | cons r3 r4=>cases r4;exact ⟨_,_,rfl,r1,r3⟩
theorem zS (hc:X.calm=true):fR X (.builtin "min") (fun xs H Q=>∃ i j,xs=[.int i,.int j]∧Q (.int (if j<i then j else i)) H):=by
 intro pins s σ H xs us Q I r h
 obtain ⟨i,j,rfl,q⟩:=h
 obtain ⟨u,w',rfl,⟨t,rfl⟩,⟨t',rfl⟩⟩:=vals2 r
 refine min_two_ints (I.ok.hd hc) fun h' tk k=>⟨_,H,I.kept k,?_,q⟩
 by_cases hj:j<i
 ·rw [if_pos hj,if_pos hj];exact ⟨_,rfl⟩
 ·rw [if_neg hj,if_neg hj];exact ⟨_,rfl⟩
end
end L2
namespace L2
open PySem PySem.Spec PyProof.Rows
structure aaa (h:Heap) (x dx C:Addr) (mA:Str→Option Value):Prop where
 obj:h.get? x=some (PySem.W.instObj C dx)
 ns:h.Ns1 dx mA
 ne:dx≠x
section
variable {prog:Program}{w:World}{A:Around}{E:Value→Shared→Prop}{s:Shared}{K:PySem.W.Frag}{x dx C f:Addr}{mA:Str→Option Value}{name:Str}{v:Value}
end
theorem iT.some_of {v:V}{o:Option Value}(r:iT (some v) o):∃ u,o=some u∧RelV v u:=by
 cases o with
 | none=>exact (show False from r).elim
 | some u=>exact ⟨u,rfl,r⟩
section
variable {P:Program}{w:World}{H H':Hp}{h h':Heap}{a C dx:Addr}{fs fs':List (Str×V)}
end
structure Zl (K:PySem.W.Frag) (C:Addr):Prop where
 pg:PySem.W.plainGet K C Str.empty=true
 hd:PySem.W.hasDictIn K C=true
 po:PySem.W.plainOver K C=true
 sa:PySem.W.findIn K (.ref C) "__setattr__" = some (some (.builtin "object.__setattr__"))
structure Con (K:PySem.W.Frag) (C:Addr) (f:Str) (v:V) (u:Value):Prop where
 at_:PySem.W.findIn K (.ref C) f=some (some u)
 rel:RelV v u
 get:PySem.W.specialIn K u "__get__" = some none
 cp:PySem.W.copiedNames.contains f=false
structure Meth (K:PySem.W.Frag) (C:Addr) (m:Str) (f:Addr):Prop where
 at_:PySem.W.findIn K (.ref C) m=some (some (.ref f))
 fn:PySem.W.isFn K (.ref f)=true
 kp:PySem.W.keepIn K (.ref f)=true
section
variable {X:Cx}{pins:List (Addr×Obj)}{σ:St}{H:Hp}{s:Shared}{a C dx:Addr}{fs:List (Str×V)}{f:Str}{v:V}{A:Around}{E:Value→Shared→Prop}
end
section
variable {X:Cx}{o e value:Expr}{f:Str}{pos pos' tpos:Pos}{ta tv:TE}
end
section
variable {X:Cx}{pins:List (Addr×Obj)}{σ:St}{H:Hp}{s:Shared}{A:Around}{E:Value→Shared→Prop}{Q:Value→Shared→Prop}{c:Value}{b:Bool}
inductive jt (K:PySem.W.Frag) (H:Hp):V→Value→Prop where
 | bD:jt K H .bD (.type "NoneType")
 | bl (x:Bool):jt K H (.bl x) (.type "bool")
 | int (i:Int):jt K H (.int i) (.type "int")
 | str (x:Str):jt K H (.str x) (.type "str")
 | zF (x:UInt64):jt K H (.zF x) (.type "float")
 | lst {a:Addr} {xs:List V} (e:H a=some (.lst xs)):jt K H (.ref a) (.type "list")
 | bU {a:Addr} {o:Obj} {xs:List V} (e:H a=some (.bU o (.lst xs))):jt K H (.ref a) (.type "list")
 | tup {a:Addr} {xs:List V} (e:H a=some (.tup xs)):jt K H (.ref a) (.type "tuple")
 | dK {a:Addr} {kvs:List (Key×V)} (e:H a=some (.dK kvs)):jt K H (.ref a) (.type "dict")
 | dT {a:Addr} {kvs:List (List Key×V)} (e:H a=some (.dT kvs)):jt K H (.ref a) (.type "dict")
 | ins {a C dx:Addr} {fs:List (Str×V)} (e:H a=some (.ins C dx fs)) (cl:Zl K C) (ha:PySem.W.findIn K (.ref C) "__class__" = some (some (.builtin "object.__class__")))
   (hn:PySem.W.specialIn K (.builtin "object.__class__") "__get__" = some (some (.builtin "getset_descriptor.__get__"))) (htk:PySem.W.takesIn K (.builtin "object.__class__")=some true)
   (hm:PySem.W.mroIn K C (.type "object")=some true):jt K H (.ref a) (.ref C)
end
end L2
namespace L2
open PySem PySem.Spec PyProof.Rows
structure fN (k:Nat) (A:Around):Prop where
 hd:A.handled=none
 dp:A.depth+3*k+5<recursionLimit
 un:A.units+16*k+200<cLine
theorem fN.deeper {k:Nat}{A:Around}(r:fN (k+1) A) (env:Env):fN k (A.deeper env):=
 ⟨r.hd,by have:=r.dp;show A.depth+1+3*k+5<_;omega,by have:=r.un;show A.units+3+16*k+200<_;omega⟩
theorem fN.depth {k:Nat}{A:Around}(r:fN k A):A.depth<recursionLimit:=by have:=r.dp;omega
theorem fN.units {k:Nat}{A:Around}(r:fN k A):A.units+64<cLine:=by have:=r.un;omega
noncomputable def WT:TA:=fun _ H Q=>Q [] H
noncomputable def Rt (ta:TE) (tr:TA):TA:=fun σ H Q=>ta σ H fun x H1=>tr σ H1 fun xs H2=>Q (x :: xs) H2
section
variable {X:Cx}{e:Expr}{es:List Expr}{te:TE}{t:TA}{pos:Pos}
theorem lY:PA X [] WT:=fun _ _ _ _ H Q I h=>Calls.spliced_nil ⟨[],H,I,.nil,h⟩
theorem jk (ha:PE X e te) (hr:PA X es t) (hs:starEach (e :: es) X.env=(false,eval e X.env) :: starEach es X.env:=by rfl):PA X (e :: es) (Rt te t):=by
 intro pos pins s σ H Q I h
 rw [hs]
 show wpAny _ _ (spliced ((false,eval e X.env) :: backTo pos (starEach es X.env))) _ _ s
 refine Calls.spliced_cons (bB (ha pins s σ H _ I h) fun u s1 ⟨x,H1,I1,r1,q1⟩=>?_)
 exact bB (hr pos pins s1 σ H1 _ I1 q1) fun us s2 ⟨xs,H2,I2,r2,q2⟩=>⟨x :: xs,H2,I2,.cons r1 r2,q2⟩
noncomputable def WU (t:TA):TE:=fun σ H Q=>t σ H fun xs H1=>xs.length≤sizeLine∧∀ p,H1 p=none→Q (.ref p) (upd H1 p (.tup xs))
noncomputable def WV (t:TA):TE:=fun σ H Q=>t σ H fun xs H1=>xs.length≤sizeLine∧∀ p,H1 p=none→Q (.ref p) (upd H1 p (.lst xs))
theorem Lb {x1}(h:PA X es t):PE X (.Tuple es x1 pos) (WU t):=by
 intro pins s σ H Q I hq
 refine wpAny_Tuple_spliced (bB (h pos pins s σ H _ I hq) fun us s1 ⟨xs,H1,I1,r,z,q⟩=>⟨by rw [←r.length];exact z,?_⟩)
 have hf:H1 s1.heap.objs.size=none:=I1.hok.fresh (Nat.le_refl _)
 refine ⟨.ref s1.heap.objs.size,upd H1 s1.heap.objs.size (.tup xs),I1.laid (t':=s1.toks) (fun b u e=>Heap.get?_push_of_some _ e) (Nat.le_refl _) ?_,rfl,q _ hf⟩
 exact ⟨z,us,r,⟨_,Heap.get?_push_size _ rfl,rfl,_,rfl⟩⟩
theorem Lc (h:PA X es t):PE X (.List es pos) (WV t):=by
 intro pins s σ H Q I hq
 refine wpAny_List_spliced (bB (h pos pins s σ H _ I hq) fun us s1 ⟨xs,H1,I1,r,z,q⟩=>⟨by rw [←r.length];exact z,?_⟩)
 have hf:H1 s1.heap.objs.size=none:=I1.hok.fresh (Nat.le_refl _)
 refine ⟨.ref s1.heap.objs.size,upd H1 s1.heap.objs.size (.lst xs),I1.laid (t':=s1.toks) (fun b u e=>Heap.get?_push_of_some _ e) (Nat.le_refl _) ?_,rfl,q _ hf⟩
 exact ⟨z,us,0,r,Heap.get?_push_size _ rfl⟩
end
abbrev Sp:=List V→Hp→VK→XK→Prop
abbrev lM:=List Env→Hp→Shared→XK→Value→Shared→Prop
structure x8 (P:Program) (w:World) (K:PySem.W.Frag) (mg:Str→Option Value) (base:Heap) (A:Around) (outer:List Env) (s:Shared) (H:Hp):Prop where
 frames:A.frames=some outer
 mod:Mod K mg base
 bs:∀ b o,base.get? b=some o→s.heap.get? b=some o∧H b=none
 qZ:base.objs.size≤s.heap.objs.size
 iU:s.heap.FunFrames base outer
 tE:∀ b∈frs outer,H b=none
 hok:ek P w H s.heap
 bare:AllBare s.gens
noncomputable def CE (outer:List Env) (P:Program) (w:World) (H:Hp) (s:Shared) (Q:VK) (u:Value) (s':Shared):Prop:=
 ∃ v H',s'.os=s.os∧AllBare s'.gens∧Un (frs outer) [] H H' s.heap s'.heap∧ek P w H' s'.heap∧RelV v u∧Q v H'
noncomputable def CR (CX:lM) (outer:List Env) (P:Program) (w:World) (H:Hp) (s:Shared) (Q:VK) (E:XK) (r:Result) (s':Shared):Prop:=
 match r with
 | .ok (.ret u)=>CE outer P w H s Q u s'
 | .ok _=>False
 | .error e=>CX outer H s E e s'
structure iB (P:Program) (w:World) (K:PySem.W.Frag) (mg:Str→Option Value) (base:Heap) (CX:lM) (k:Nat) (f:Addr) (fd:FuncData) (ps:List Str) (sp:Sp):Prop where
 len:∀ vs H Q E,sp vs H Q E→vs.length=ps.length
 run:∀ (A:Around) (outer:List Env) (s:Shared) (H:Hp) (args:Args) (us:List Value) (vs:List V) (Q:VK) (E:XK),fN k A→x8 P w K mg base A outer s H→BindsTo s fd args (ps.zip us)→Vals vs us→sp vs H Q E→
  codeAny (model P w) A (.call (.ref f) args) (CR CX outer P w H s Q E) s
section
variable {X:Cx}{pins:List (Addr×Obj)}{σ:St}{H:Hp}{s s':Shared}
theorem Inv.WX (I:Inv X pins σ H s):x8 X.prog X.w X.K X.mg X.base X.A X.stack s H:=
 ⟨I.ok.frames,I.ok.mod,I.bs,Nat.le_trans I.ok.qZ I.sz,I.stack,I.vX,I.hok,I.bare⟩
theorem Inv.after {Q:VK}{u:Value}(I:Inv X pins σ H s) (h:CE X.stack X.prog X.w H s Q u s'):EP X pins σ Q u s':=by
 obtain ⟨v,H',os,bare,un,hok,r,q⟩:=h
 obtain ⟨hh,g,d,t,os'⟩:=s'
 obtain rfl:os'=s.os:=os
 exact ⟨v,H',I.call (h':=hh) (g':=g) (d':=d) (t':=t) (ch:=[]) un hok bare (fun b z=>absurd z (by simp)),r,q⟩
end
noncomputable def Ru (sp:Sp) (ju:List V) (E:XK) (t:TA):TE:=fun σ H Q=>t σ H fun vs H1=>sp (vs++ju) H1 Q E
noncomputable def Binds (K:PySem.W.Frag) (fd:FuncData) (ps:List Str) (ds:List Value):Prop:=
 ∀ (s:Shared) (us:List Value),K.In s.heap→(us++ds).length=ps.length→BindsTo s fd ⟨us,[]⟩ (ps.zip (us++ds))
theorem Binds.all {K:PySem.W.Frag}{fd:FuncData}{ps:List Str}(h:∀ us:List Value,us.length=ps.length→bindArgs fd ⟨us,[]⟩=pure (ps.zip us)):Binds K fd ps []:=fun s us _ hl=>by
 rw [List.append_nil] at hl ⊢
 exact .of_eq (h us hl)
noncomputable def Passes (CX:lM) (X:Cx) (E:XK):Prop:=∀ (pins:List (Addr×Obj)) (σ:St) (H:Hp) (s:Shared) (e:Value) (s':Shared),Inv X pins σ H s→CX X.stack H s E e s'→X.xe e s'
section
variable {X:Cx}{CX:lM}{k:Nat}{f C:Addr}{fd:FuncData}{ps:List Str}{sp:Sp}{ju:List V}{ds:List Value}{E:XK}{x m:Str}{p pos apos:Pos}{e o:Expr}{es:List Expr}{ta:TE}{t:TA}
theorem Ld {pins:List (Addr×Obj)}{σ:St}{H:Hp}{s:Shared}{Q:VK}{us:List Value}{vs:List V}(F:iB X.prog X.w X.K X.mg X.base CX k f fd ps sp) (hr:fN k X.A) (hb:Binds X.K fd ps ds) (hd:Vals ju ds) (hx:Passes CX X E)
  (I:Inv X pins σ H s) (r:Vals vs us) (h:sp (vs++ju) H Q E):wpAny (model X.prog X.w) X.A (call (.ref f) us) (EP X pins σ Q) X.xe s:=by
 have r2:Vals (vs++ju) (us++ds):=r.append hd
 have hl:(us++ds).length=ps.length:=by rw [←r2.length];exact F.len _ _ _ _ h
 refine wpAny_call (codeAny_mono (F.run X.A X.stack s H ⟨us,[]⟩ (us++ds) (vs++ju) Q E hr I.WX (hb s us I.q8 hl) r2 h) fun r s' hq=>?_)
 cases r with
 | error e=>exact hx pins σ H s e s' I hq
 | ok fl=>
  cases fl with
  | ret u=>exact I.after hq
  | next=>exact False.elim hq
  | brk=>exact False.elim hq
  | cont=>exact False.elim hq
theorem HX (F:iB X.prog X.w X.K X.mg X.base CX k f fd ps sp) (hr:fN k X.A) (hg:Gl X x) (hm:X.mg x=some (.ref f)) (hk:PySem.W.keepIn X.K (.ref f)=true) (hb:Binds X.K fd ps ds) (hd:Vals ju ds) (hx:Passes CX X E)
  (ha:PA X (e :: es) t) (hdb:(x==("__debug__" : Str))=false:=by decide) (he:starEach (e :: es) X.env=(false,eval e X.env) :: starEach es X.env:=by rfl) (hpl:(backTo pos (starEach es X.env)).any (·.1)=false:=by rfl) :
  PE X (.Call (.Name x p) (e :: es) [] pos) (Ru sp ju E t):=by
 intro pins s σ H Q I h
 refine wpAny_Call_Name_kw (vZ I hg hm ?_ hdb)
 refine PySem.W.callWith_K (h₀:=X.base) I.ok.mod.E3 hk (bB (ha pos pins s σ H _ I h) fun us s1 ⟨vs,H1,I1,r,q⟩=>⟨I1.q8,?_⟩) he hpl
 exact Ld F hr hb hd hx I1 r q
structure Mk (K:PySem.W.Frag) (C f:Addr):Prop where
 makes:PySem.W.makesIn K C=true
 init:PySem.W.findIn K (.ref C) "__init__" = some (some (.ref f))
 fn:PySem.W.isFn K (.ref f)=true
 kp:PySem.W.keepIn K (.ref C)=true
end
section
variable {X:Cx}{CX:lM}{k:Nat}{f C:Addr}{fd:FuncData}{ps ks:List Str}{sp:Sp}{E:XK}{x m:Str}{p pos apos kpos:Pos}{e o:Expr}{es:List Expr}{kws:List Keyword}{te ta:TE}{t tk:TA}{nm:Option Str}
structure Zm (K:PySem.W.Frag) (fd:FuncData) (ps ks:List Str) (g:List Value→List Value→List Value) (gV:List V→List V→List V):Prop where
 to:∀ (s:Shared) (us ws:List Value),K.In s.heap→(g us ws).length=ps.length→BindsTo s fd ⟨us,ks.zip ws⟩ (ps.zip (g us ws))
 rel:∀ {vs:List V} {us:List Value} {zs:List V} {ws:List Value},Vals vs us→Vals zs ws→Vals (gV vs zs) (g us ws)
variable {g:List Value→List Value→List Value}{gV:List V→List V→List V}
end
structure bG (N P:List Str) (sc:Scope):Prop where
 kind:sc.kind=.function
 co:sc.isCoroutine=false
 gen:sc.isGenerator=false
 nd:N.Nodup
 pre:N.take P.length=P
 par:∀ x∈P,sc.names.lookup x=some .local∨sc.names.lookup x=some .cell
 Le:∀ y∈sc.names,y.2≠.free
theorem rq {kindOf:Str→Option NameKind}{x:Str}:∀ {binds:List (Str×Value)}{m:Str→Option Value},(∀ v,(x,v)∉binds)→bindL kindOf binds m x=m x
 | [],_,_=>rfl
 | (n,v) :: r,m,h=>by
  unfold bindL
  rw [rq fun w hw=>h w (List.mem_cons_of_mem _ hw)]
  split
  ·have:x≠n:=by rintro rfl;exact h v List.mem_cons_self
   simp [this]
  ·rfl
theorem rA {kindOf:Str→Option NameKind}{x:Str}:∀ {binds:List (Str×Value)}{m:Str→Option Value},(∀ v,(x,v)∉binds)→bindC kindOf binds m x=m x
 | [],_,_=>rfl
 | (n,v) :: r,m,h=>by
  unfold bindC
  rw [rA fun w hw=>h w (List.mem_cons_of_mem _ hw)]
  split
  ·rfl
  ·have:x≠n:=by rintro rfl;exact h v List.mem_cons_self
   simp [this]
theorem rB {kindOf:Str→Option NameKind}{x:Str}{v:Value}:∀ {P:List Str}{vs:List Value}{i:Nat}{m:Str→Option Value},P.Nodup→P[i]?=some x→vs[i]?=some v→kindOf x=some .local→
  bindL kindOf (P.zip vs) m x=some v
 | [],_,_,_,_,h,_,_=>by simp at h
 | _ :: _,[],_,_,_,_,h,_=>by simp at h
 | p :: P,w :: vs,0,m,nd,h1,h2,hk=>by
  simp at h1 h2;subst h1;subst h2
  show bindL kindOf ((p,w) :: P.zip vs) m p=_
  unfold bindL
  rw [rq fun v hv=>(List.nodup_cons.mp nd).1 (List.of_mem_zip hv).1,if_pos hk]
  simp
 | p :: P,w :: vs,i+1,m,nd,h1,h2,hk=>by
  show bindL kindOf ((p,w) :: P.zip vs) m x=_
  unfold bindL
  exact rB (i:=i) (List.nodup_cons.mp nd).2 (by simpa using h1) (by simpa using h2) hk
theorem rC {kindOf:Str→Option NameKind}{x:Str}{v:Value}:∀ {P:List Str}{vs:List Value}{i:Nat}{m:Str→Option Value},P.Nodup→P[i]?=some x→vs[i]?=some v→kindOf x≠some .local→
  bindC kindOf (P.zip vs) m x=some v
 | [],_,_,_,_,h,_,_=>by simp at h
 | _ :: _,[],_,_,_,_,h,_=>by simp at h
 | p :: P,w :: vs,0,m,nd,h1,h2,hk=>by
  simp at h1 h2;subst h1;subst h2
  show bindC kindOf ((p,w) :: P.zip vs) m p=_
  unfold bindC
  rw [rA fun v hv=>(List.nodup_cons.mp nd).1 (List.of_mem_zip hv).1,if_neg hk]
  simp
 | p :: P,w :: vs,i+1,m,nd,h1,h2,hk=>by
  show bindC kindOf ((p,w) :: P.zip vs) m x=_
  unfold bindC
  exact rC (i:=i) (List.nodup_cons.mp nd).2 (by simpa using h1) (by simpa using h2) hk
noncomputable def start (N:List Str) (vs:List V):St:=vs.map some++List.replicate (N.length - vs.length) none
noncomputable def oA (CX:lM) (P:Program) (w:World) (K:PySem.W.Frag) (mg:Str→Option Value) (base:Heap) (N:List Str) (qual:Str) (scope:Scope) (f:Addr) (cd:Value) (A:Around) (outer:List Env) (s:Shared) (H:Hp) (E:XK):Cx where
 prog:=P
 w:=w
 K:=K
 mg:=mg
 base:=base
 A:=A.deeper (envOfC qual scope s.heap.objs.size f cd)
 N:=N
 s₀:=s
 H₀:=H
 env:=envOfC qual scope s.heap.objs.size f cd
 outer:=outer
 stack:=envOfC qual scope s.heap.objs.size f cd :: outer
 ex:=[]
 calm:=true
 fn:=fun _=>true
 pn:=[]
 xe:=fun e s'=>wpAny (model P w) (A.deeper (envOfC qual scope s.heap.objs.size f cd)) (leaving (envOfC qual scope s.heap.objs.size f cd) e) (fun _ s''=>CX outer H s E e s'') (fun e' s''=>CX outer H s E e' s'') s'
theorem tM {sc:Scope}{n:Nat}{x:Str}(h:sc.names.lookup x=some .cell):∃ c,(cellsFrom n sc.names []).lookup x=some c:=by
 have q:=PySem.W.cellsFrom_some sc.names n [] (.inl h)
 exact Option.isSome_iff_exists.mp q
theorem zU {CX:lM}{P:Program}{w:World}{K:PySem.W.Frag}{mg:Str→Option Value}{base:Heap}{N ps:List Str}{qual:Str}{scope:Scope}{f:Addr}{cd:Value}{A:Around}{outer:List Env}{s s1:Shared}{H:Hp}{E:XK}{us:List Value}{vs:List V}
  (S:bG N ps scope) (hd:A.handled=none) (e0:x8 P w K mg base A outer s H) (hl:vs.length=ps.length) (r:Vals vs us)
  (x:InCallC s s.heap.objs.size (bindL (envOfC qual scope s.heap.objs.size f cd).kindOf (ps.zip us) fun _=>none) (cellsFrom (s.heap.objs.size+1) scope.names []) (bindC (envOfC qual scope s.heap.objs.size f cd).kindOf (ps.zip us) fun _=>none) s1) :
  Inv (oA CX P w K mg base N qual scope f cd A outer s H E) [] (start N vs) H s1:=by
 have hpl:ps.length≤N.length:=by have:=congrArg List.length S.pre;rw [List.length_take] at this;omega
 obtain ⟨h1,tk,rfl,hk⟩:=x.done
 have zV:∀ b:Addr,b∉(oA CX P w K mg base N qual scope f cd A outer s H E).ex:=fun b z=>absurd (show b∈([]:List Addr) from z) (by simp)
 refine ⟨⟨e0.mod,S.kind,rfl,rfl,Nat.le_refl _,fun y z c h1 h2=>?_,fun y hy=>?_,fun y c _ h=>?_,fun _=>hd,Around.frames_deeper e0.frames,.inr ⟨rfl,rfl⟩,fun b z=>absurd z (zV b),e0.bs,e0.qZ,fun b _ _=>zV b,fun b z=>absurd z (zV b),e0.iU,e0.tE⟩,
  rfl,e0.bare,Un.kept hk,⟨_,x.toInCall.ns,fun i y v h1 h2 h3=>?_⟩,fun y c h=>⟨_,x.cell y c h⟩,e0.hok.fresh (Nat.le_refl _),fun y c h=>?_,fun p hp=>absurd (show p∈([]:List (Addr×Obj)) from hp) (by simp),e0.hok.kept hk,?_⟩
 ·exact name_of_addr x.apart (PySem.mem_of_lookup h1) (PySem.mem_of_lookup h2)
 ·have hy:scope.names.lookup y=some .cell∨scope.names.lookup y=some .free:=hy
  rcases hy with hy | hy
  ·exact tM hy
  ·exact absurd rfl (S.Le _ (PySem.mem_of_lookup hy))
 ·exact Nat.le_of_lt (x.above y c (PySem.mem_of_lookup h))
 ·have hi:i<vs.length:=by
   unfold start at h2
   by_cases hi:i<vs.length
   ·exact hi
   ·rw [List.getElem?_append_right (by simpa using hi)] at h2
    rw [List.getElem?_replicate] at h2
    split at h2 <;> cases h2
  have ha:vs[i]?=some v:=by
   unfold start at h2
   rw [List.getElem?_append_left (by simpa using hi),List.getElem?_map] at h2
   cases e:vs[i]? with
   | none=>rw [e] at h2;cases h2
   | some a=>rw [e] at h2;cases h2;rfl
  obtain ⟨u,hu,rv⟩:=r.get ha
  have hp:ps[i]?=some y:=by
   rw [←S.pre,List.getElem?_take_of_lt (by omega)];exact h1
  have Up:ps.Nodup:=by rw [←S.pre];exact S.nd.sublist (List.take_sublist _ _)
  refine ⟨u,rv,?_⟩
  rcases S.par y (List.mem_of_getElem? hp) with k | k
  ·exact .inl ⟨k,rB Up hp hu k⟩
  ·obtain ⟨c,e⟩:=tM (n:=s.heap.objs.size+1) k
   refine .inr ⟨.inl k,c,e,?_⟩
   have q:=x.cell y c e
   rw [rC Up hp hu (by show scope.names.lookup y≠_;rw [k];decide)] at q
   exact q
 ·exact e0.hok.fresh (Nat.le_of_lt (x.above y c (PySem.mem_of_lookup h)))
 ·unfold start
  show _=N.length
  rw [List.length_append,List.length_map,List.length_replicate]
  omega
theorem Rw {CX:lM}{P:Program}{w:World}{K:PySem.W.Frag}{mg:Str→Option Value}{base:Heap}{k:Nat}{f:Addr}{name qual:Str}{params:Arguments}{body:List Stmt}{scope:Scope}{dV kV doc pm cdv ct oc:Value}{an od:Option Addr}
  {osl:Array (Option Value)} {N ps:List Str} {sp:Sp} (lk:K.lookup f=some ⟨oc,od,.func (PySem.W.fnOf name qual params body scope dV kV doc pm an cdv ct),osl⟩) (hcd:PySem.W.codeIn K cdv qual=true) (S:bG N ps scope)
  (len:∀ vs H Q E,sp vs H Q E→vs.length=ps.length)
  (hbody:∀ (A:Around) (outer:List Env) (s:Shared) (H:Hp) (vs:List V) (Q:VK) (E:XK),fN k (A.deeper (envOfC qual scope s.heap.objs.size f cdv))→sp vs H Q E→
   ∃ t,iu (oA CX P w K mg base N qual scope f cdv A outer s H E) body t∧t { nx:=fun _ H'=>Q .bD H',rt:=Q } (start N vs) H) :
  iB P w K mg base CX (k+1) f (PySem.W.fnOf name qual params body scope dV kV doc pm an cdv ct) ps sp:=by
 refine ⟨len,fun A outer s H args us vs Q E hr e0 hb r kc=>?_⟩
 have hl:=len _ _ _ _ kc
 have KX:K.In s.heap:=e0.mod.E3.keeps fun b o e=>(e0.bs b o e).1
 have lim:s.heap.NoLimit:=e0.mod.nolimit.keeps fun b o e=>(e0.bs b o e).1
 have hkind:∀ y∈ps.zip us,scope.names.lookup y.1=some .local∨(scope.names.lookup y.1=some .cell∧((cellsFrom (s.heap.objs.size+1) scope.names []).lookup y.1).isSome=true):=fun ⟨n,v⟩ hy=>by
  rcases S.par n (List.of_mem_zip hy).1 with q | q
  ·exact .inl q
  ·exact .inr ⟨q,PySem.W.cellsFrom_some _ _ _ (.inl q)⟩
 refine codeAny_call_function hr.depth (KX _ _ lk) rfl S.co S.gen rfl (PySem.W.codeRec_of KX hcd) (hb _ _ _ _ ?_)
 refine wpAny_newFunctionEnv_cells S.kind hkind fun env he s1 x=>?_
 subst he
 refine ⟨lim.keeps x.toInCall.keep,codeAny_func ?_⟩
 obtain ⟨t,ht,hq⟩:=hbody A outer s H vs Q E (hr.deeper _) kc
 have I:Inv (oA CX P w K mg base N qual scope f cdv A outer s H E) [] (start N vs) H s1:=zU S hr.hd e0 hl r x
 refine wpAny_mono (ht [] s1 (start N vs) H _ I hq) (fun fl s' hs=>?_) fun e s' hs=>hs
 have fin:∀ {σ':St} {H':Hp} {v:V} {u:Value},Inv (oA CX P w K mg base N qual scope f cdv A outer s H E) [] σ' H' s'→RelV v u→Q v H'→CE outer P w H s Q u s':=
  fun {σ' H' v u} J rv q=>⟨v,H',J.os,J.bare,J.base,J.hok,rv,q⟩
 cases fl with
 | ret u=>
  obtain ⟨v,σ',H',J,rv,q⟩:=hs
  exact fin J rv q
 | next=>
  obtain ⟨σ',H',J,q⟩:=hs
  exact fin (v:=V.bD) (u:=Value.none) J rfl q
 | brk=>
  obtain ⟨_,_,_,q⟩:=hs
  exact False.elim q
 | cont=>
  obtain ⟨_,_,_,q⟩:=hs
  exact False.elim q
end L2
namespace L2
open PySem PySem.Spec PyProof.Rows
section
variable {X:Cx}{x:Str}{p pos:Pos}{e:Expr}{es:List Expr}{t:TA}{id T:String}{r:List V→Hp→VK→Prop}
noncomputable def Lf (r:List V→Hp→VK→Prop) (t:TA):TE:=fun σ H Q=>t σ H fun vs H1=>r vs H1 Q
theorem Cu (hc:fR X (.builtin id) r) (hg:Gl X x) (hm:X.mg x=none) (hv:bootBuiltins x=some (.builtin id)) (ha:PA X (e :: es) t) (hn:x≠"__name__" :=by decide) (hdb:(x==("__debug__" : Str))=false:=by decide)
  (he:starEach (e :: es) X.env=(false,eval e X.env) :: starEach es X.env:=by rfl) (hpl:(backTo pos (starEach es X.env)).any (·.1)=false:=by rfl):PE X (.Call (.Name x p) (e :: es) [] pos) (Lf r t):=by
 intro pins s σ H Q I h
 refine wpAny_Call_Name_kw (iO I hg hm hv ?_ hn hdb)
 exact PyProof.Rows.callWith_builtin1 (bB (ha pos pins s σ H _ I h) fun us s1 ⟨vs,H1,I1,r1,q1⟩=>hc pins s1 σ H1 vs us Q I1 r1 q1) he hpl
theorem rD (hc:fR X (.type T) r) (hg:Gl X x) (hm:X.mg x=none) (hv:bootBuiltins x=some (.type T)) (ha:PA X (e :: es) t) (hn:x≠"__name__" :=by decide) (hdb:(x==("__debug__" : Str))=false:=by decide)
  (he:starEach (e :: es) X.env=(false,eval e X.env) :: starEach es X.env:=by rfl) (hpl:(backTo pos (starEach es X.env)).any (·.1)=false:=by rfl):PE X (.Call (.Name x p) (e :: es) [] pos) (Lf r t):=by
 intro pins s σ H Q I h
 refine wpAny_Call_Name_kw (iO I hg hm hv ?_ hn hdb)
 exact PyProof.Rows.callWith_type1 (bB (ha pos pins s σ H _ I h) fun us s1 ⟨vs,H1,I1,r1,q1⟩=>hc pins s1 σ H1 vs us Q I1 r1 q1) he hpl
end
end L2
namespace HT
open PySem PyProof.Rows
section
open PySem.SeqAt
open PySem.AutoSeq1 (wpAny_loadPart')
open PySem.MeetsSeq PySem.MeetsSeq2 PySem.MeetsSeq3
end
section
variable {prog:Program}{w:World}{A:Around}{E:Value→Shared→Prop}{s:Shared}
theorem HY {t b:Addr}{vs ws:List Value}{Q:Value→Shared→Prop}(ht:IsTup s.heap t vs.toArray) (hb:IsTup s.heap b ws.toArray) (hv:vs≠[])
  (h1:ws=[]→Q (.ref t) s) (h2:ws≠[]→Q (.ref s.heap.objs.size) { s with heap:=s.heap.push { cls:=.type "tuple",data:=.seq (vs++ws).toArray }})
  (hsz:vs.length+ws.length≤sizeLine):wpAny (model prog w) A (binaryOp .Add (.ref t) (.ref b)) Q E s:=by
 obtain ⟨⟨cls,dd,data,sl⟩,ho,hc,n,hd⟩:=id ht
 obtain ⟨⟨WY,dd2,data2,sl2⟩,ho2,hc2,n2,hd2⟩:=id hb
 simp only at hc hd hc2 hd2
 subst hc hd hc2 hd2
 have e:vs.toArray++ws.toArray=(vs++ws).toArray:=by simp
 by_cases hw:ws=[]
 ·exact concat_meets ⟨_,ho,rfl⟩ ⟨_,ho2,rfl⟩ noFill_tuple_add seq_tuple_add PySem.F.slot_tuple_add PySem.F.entry_tuple_add (PySem.F.args_tuple_add_2 _ _)
   (tuple_addW1 t b vs.toArray ws.toArray n n2 dd dd2 sl sl2 (by simpa using hv) (by simp [hw])) ⟨ho,ho2,h1 hw⟩
 ·refine concat_meets ⟨_,ho,rfl⟩ ⟨_,ho2,rfl⟩ noFill_tuple_add seq_tuple_add PySem.F.slot_tuple_add PySem.F.entry_tuple_add (PySem.F.args_tuple_add_2 _ _)
   (tuple_addW2 t b vs.toArray ws.toArray n n2 dd dd2 sl sl2 (by simpa using hv) (by simpa using hw) (by rw [List.size_toArray,List.size_toArray];exact hsz)) ⟨ho,ho2,?_⟩
  rw [e]
  exact h2 hw
noncomputable def aR (n d:Nat):Option Int→Nat
 | none=>d
 | some v=>if v<0 then (v+(n:Int)).toNat else min v.toNat n
theorem tN (n d:Nat) (hd:d≤n) (o:Option Int):aR n d o≤n:=by
 cases o with
 | none=>exact hd
 | some v=>
  show (if v<0 then (v+(n:Int)).toNat else min v.toNat n)≤n
  by_cases hv:v<0
  ·rw [if_pos hv];omega
  ·rw [if_neg hv];exact Nat.min_le_right _ _
theorem wg (v:Int) (n d:Nat):(if v<0 then max (v+(n:Int)) 0 else min v (n:Int))=((aR n d (some v):Nat):Int):=by
 show (if v<0 then max (v+(n:Int)) 0 else min v (n:Int))=(((if v<0 then (v+(n:Int)).toNat else min v.toNat n):Nat):Int)
 by_cases hv:v<0
 ·simp only [if_pos hv];omega
 ·simp only [if_neg hv];omega
theorem x9 (lo hi:Option Int) (n:Nat):Builtin.Slice.sliceAdjust lo hi 1 (n:Int)=(((aR n 0 lo:Nat):Int),((aR n n hi:Nat):Int)):=by
 have h1:¬ ((1:Int)<0):=by omega
 unfold Builtin.Slice.sliceAdjust
 simp only [h1,if_false]
 refine Prod.ext ?_ ?_
 ·cases lo with
  | none=>rfl
  | some v=>exact wg v n 0
 ·cases hi with
  | none=>rfl
  | some v=>exact wg v n n
theorem yc (i j:Nat):Builtin.Slice.slicePlaces (i:Int) (j:Int) 1=j - i:=by
 unfold Builtin.Slice.slicePlaces
 have h1:(1:Int) > 0:=by omega
 simp only [h1,if_true,Int.ediv_one]
 split <;> omega
theorem o6 {v:Value}{o:Option Int}{Q:Option Int→Shared→Prop}(p:IsPart v o) (h:Q o s):wpAny (model prog w) A (Builtin.Slice.slicePartIndex v) Q E s:=by
 cases p with
 | none=>exact slicePart_none h
 | int i t=>exact slicePart_int h
theorem jw {sl:Addr}{vl vu:Value}{lo hi:Option Int}{n:Nat}{Q:Int×Int×Nat→Shared→Prop}(hs:s.heap.IsSliceOf sl vl vu .none)(pl:IsPart vl lo)(pu:IsPart vu hi)
  (h:Q (((aR n 0 lo:Nat):Int),1,aR n n hi - aR n 0 lo) s):wpAny (model prog w) A (Builtin.Slice.sliceApplied (.ref sl) (pure (n:Int))) Q E s:=by
 obtain ⟨os,hos,hcs,hds⟩:=id hs
 unfold Builtin.Slice.sliceApplied Builtin.Slice.sliceFields
 refine wpAny_bind (wpAny_bind (wpAny_field hos hds (x:=vl) rfl (wpAny_bind (wpAny_field hos hds (x:=vu) rfl (wpAny_bind (wpAny_field hos hds (x:=.none) rfl (wpAny_pure ?_)))))))
 refine wpAny_bind (slicePart_none ?_)
 show wpAny _ _ (if ((1:Int)==0)=true then _ else _) _ _ s
 rw [if_neg (by decide)]
 refine wpAny_bind (o6 pl (wpAny_bind (o6 pu (wpAny_bind (wpAny_pure ?_)))))
 show wpAny _ _ (match Builtin.Slice.sliceAdjust lo hi 1 (n:Int) with | (lo,hi)=>pure (lo,(1:Int),Builtin.Slice.slicePlaces lo hi 1)) _ _ s
 rw [x9 lo hi n]
 show wpAny _ _ (pure (((aR n 0 lo:Nat):Int),(1:Int),Builtin.Slice.slicePlaces ((aR n 0 lo:Nat):Int) ((aR n n hi:Nat):Int) 1)) _ _ s
 rw [yc]
 exact wpAny_pure h
theorem Cv (xs:Array Value) (i k:Nat):((List.range k).filterMap fun (m:Nat)=>xs[((i:Int)+(m:Int)*1).toNat]?).toArray=((xs.toList.drop i).take k).toArray:=by
 have e:(fun (m:Nat)=>xs[((i:Int)+(m:Int)*1).toNat]?)=fun m=>xs[i+m]?:=by
  funext m
  have:((i:Int)+(m:Int)*1).toNat=i+m:=by omega
  rw [this]
 rw [e]
 have:=pick_run xs i k
 rw [List.filterMap_map] at this
 have e2:((fun x=>xs[x]?) ∘ fun x=>i+x)=fun m=>xs[i+m]?:=rfl
 rw [e2] at this
 rw [this]
theorem nK {t sl:Addr}{items:Array Value}{vl vu:Value}{lo hi:Option Int}{Q:Value→Shared→Prop}(ht:IsTup s.heap t items)(hs:s.heap.IsSliceOf sl vl vu .none)(pl:IsPart vl lo)(pu:IsPart vu hi)
  (hw:¬ (aR items.size 0 lo=0∧aR items.size items.size hi=items.size))
  (h:Q (.ref s.heap.objs.size) { s with heap:=s.heap.push { cls:=.type "tuple",data:=.seq ((items.toList.drop (aR items.size 0 lo)).take (aR items.size items.size hi - aR items.size 0 lo)).toArray }})
  (hsz:items.size≤sizeLine):wpAny (model prog w) A (getItem (.ref t) (.ref sl)) Q E s:=by
 have sD:sizeOk (.seq ((items.toList.drop (aR items.size 0 lo)).take (aR items.size items.size hi - aR items.size 0 lo)).toArray):=by
  show ((items.toList.drop (aR items.size 0 lo)).take (aR items.size items.size hi - aR items.size 0 lo)).toArray.size≤sizeLine
  rw [List.size_toArray,List.length_take,List.length_drop,Array.length_toList]
  omega
 have hj:aR items.size items.size hi≤items.size:=tN _ _ (Nat.le_refl _) hi
 obtain ⟨os,hos,hcs,hds⟩:=id hs
 have Lh:s.TypeIs (.ref sl) "slice" :=⟨os,hos,hcs⟩
 unfold getItem
 try with_reducible refine wpAny_holding ?_
 first | refine wpAny_bind (wpAny_pure ?_) | skip
 refine wpAny_bind (wpAny_sequenceKey ht.typeIs (by decide) ?_)
 refine wpAny_bind (wpAny_callSpecial?_slot (name:=Str.ofString "__getitem__") ht.typeIs PyProof.Rows.slot_tuple_getitem
  (wpAny_call_entry PyProof.Rows.slot_tuple_getitem ht.typeIs entry_tuple_getitem ?_ (args_tuple_getitem _ _)))
 show wpAny _ _ (Builtin.Tuple.tupleItemsOf (.ref t) >>= _) _ _ s
 refine wpAny_bind (tupleItemsOf_ ht ?_)
 refine wpAny_bind (wpAny_typeOf Lh ?_)
 rw [if_pos (by decide)]
 refine wpAny_bind (jw hs pl pu ?_)
 have hno:¬ ((((aR items.size 0 lo:Nat):Int)==0&&(1:Int)==1&&(aR items.size items.size hi - aR items.size 0 lo)==items.size)=true):=by
  intro q
  rw [Bool.and_eq_true,Bool.and_eq_true] at q
  have q1:((aR items.size 0 lo:Nat):Int)=0:=eq_of_beq q.1.1
  have q2:aR items.size items.size hi - aR items.size 0 lo=items.size:=eq_of_beq q.2
  exact hw ⟨by omega,by omega⟩
 show wpAny _ _ (if (((aR items.size 0 lo:Nat):Int)==0&&(1:Int)==1&&(aR items.size items.size hi - aR items.size 0 lo)==items.size)=true then _ else _) _ _ s
 rw [if_neg hno,Cv]
 first
  | exact wpAny_bind (m:=Builtin.Tuple.tupleExact _) (wpAny_newObj_type (wpAny_pure ⟨_,rfl,wpAny_pure h⟩) sD)
  | exact wpAny_bind (m:=Builtin.Tuple.tupleExact _) (wpAny_newObj_type (wpAny_bind (wpAny_pure (wpAny_pure ⟨_,rfl,wpAny_pure h⟩))) sD)
  | exact wpAny_bind (wpAny_bind (m:=Builtin.Tuple.tupleExact _) (wpAny_newObj_type (wpAny_pure (wpAny_pure ⟨_,rfl,wpAny_pure h⟩)) sD))
  | exact wpAny_bind (wpAny_bind (m:=Builtin.Tuple.tupleExact _) (wpAny_newObj_type (wpAny_pure ⟨_,rfl,wpAny_pure h⟩) sD))
end
end HT
namespace L2
open PySem PySem.Spec PyProof.Rows
abbrev TO:=St→Hp→(Option Int→Hp→Prop)→Prop
noncomputable def PO (X:Cx) (e:Option Expr) (t:TO):Prop:=
 ∀ (pins:List (Addr×Obj)) (s:Shared) (σ:St) (H:Hp) (Q:Option Int→Hp→Prop),Inv X pins σ H s→t σ H Q→
  wpAny (model X.prog X.w) X.A (evalPart e X.env) (fun u s'=>∃ o H',Inv X pins σ H' s'∧IsPart u o∧Q o H') X.xe s
noncomputable def HZ:TO:=fun _ H Q=>Q none H
noncomputable def Rx (t:TE):TO:=fun σ H Q=>t σ H fun x H1=>∃ i,x=.int i∧Q (some i) H1
section
variable {X:Cx}{e:Expr}{te:TE}{lo hi:Option Expr}{tl th:TO}{pos p2:Pos}
theorem Ia:PO X none HZ:=by
 intro pins s σ H Q I h
 rw [evalPart_none]
 exact wpAny_pure ⟨none,H,I,.none,h⟩
theorem Ib (h:PE X e te):PO X (some e) (Rx te):=by
 intro pins s σ H Q I hw
 rw [evalPart_some]
 refine bB (h pins s σ H _ I hw) fun u s1 ⟨x,H1,I1,r1,q1⟩=>?_
 obtain ⟨i,rfl,q⟩:=q1
 obtain ⟨t,rfl⟩:=r1
 exact ⟨some i,H1,I1,.int i t,q⟩
noncomputable def kg (X:Cx) (r:V→Option Int→Option Int→Hp→VK→Prop):Prop:=
 ∀ (pins:List (Addr×Obj)) (s:Shared) (σ:St) (H:Hp) (x:V) (v vl vu:Value) (lo hi:Option Int) (sl:Addr) (Q:VK),Inv X pins σ H s→RelV x v→s.heap.IsSliceOf sl vl vu .none→IsPart vl lo→IsPart vu hi→r x lo hi H Q→
  ∃ T id,typeLookup (.type T) "__getitem__" = pure (some (.builtin id))∧s.TypeIs v T∧wpAny (model X.prog X.w) X.A (getItem v (.ref sl)) (EP X pins σ Q) X.xe s
noncomputable def Zn (r:V→Option Int→Option Int→Hp→VK→Prop) (te:TE) (tl th:TO):TE:=fun σ H Q=>te σ H fun x H1=>tl σ H1 fun l H2=>th σ H2 fun u H3=>r x l u H3 Q
theorem Cw {r:V→Option Int→Option Int→Hp→VK→Prop}(hr:kg X r) (he:PE X e te) (hl:PO X lo tl) (hu:PO X hi th):PE X (.Subscript e (.Slice lo hi none p2) pos) (Zn r te tl th):=by
 intro pins s σ H Q I h
 refine Subscript_ (bB (he pins s σ H _ I h) fun v s1 ⟨x,H1,I1,r1,q1⟩=>?_)
 refine wpAny_Slice (bB (hl pins s1 σ H1 _ I1 q1) fun vl s2 ⟨l,H2,I2,pl,q2⟩=>bB (hu pins s2 σ H2 _ I2 q2) fun vu s3 ⟨u,H3,I3,pu,q3⟩=>?_)
 rw [evalPart_none]
 refine wpAny_pure ?_
 have I4:Inv X pins σ H3 { s3 with heap:=s3.heap.push { cls:=.type "slice",data:=.fields #[vl,vu,.none]}}:=I3.kept (t':=s3.toks) fun b ob q=>Heap.get?_push_of_some _ q
 obtain ⟨T,id,hT,ht,hg⟩:=hr pins { s3 with heap:=s3.heap.push { cls:=.type "slice",data:=.fields #[vl,vu,.none]}} σ H3 x v vl vu l u s3.heap.objs.size Q I4 r1 (Heap.IsSliceOf.new ..) pl pu q3
 show wpAny (model X.prog X.w) X.A (subscriptTail e (.Slice lo hi none p2) v (.ref s3.heap.objs.size)) (EP X pins σ Q) X.xe { s3 with heap:=s3.heap.push { cls:=.type "slice",data:=.fields #[vl,vu,.none]}}
 exact tail_any (ops:=[.ref s3.heap.objs.size,v]) ht hT hg (by with_unfolding_all rfl)
noncomputable def lZ (xs:List V) (lo hi:Option Int):List V:=(xs.drop (HT.aR xs.length 0 lo)).take (HT.aR xs.length xs.length hi - HT.aR xs.length 0 lo)
theorem nM (xs:List V) (lo hi:Option Int):(lZ xs lo hi).length≤xs.length:=by
 unfold lZ
 rw [List.length_take,List.length_drop]
 omega
noncomputable def WZ (K:PySem.W.Frag):V→Option Int→Option Int→Hp→VK→Prop:=fun x lo hi H Q=>∃ a xs,x=.ref a∧di K H a xs∧
 ¬ (HT.aR xs.length 0 lo=0∧HT.aR xs.length xs.length hi=xs.length)∧∀ p,H p=none→Q (.ref p) (upd H p (.tup (lZ xs lo hi)))
theorem Li:kg X (WZ X.K):=by
 intro pins s σ H x v vl vu lo hi sl Q I rx hs pl pu h
 obtain ⟨a,xs,rfl,hx,hw,q⟩:=h
 cases rx
 obtain ⟨its,r,ht,hz⟩:=I.tuple hx
 have hlen:its.toArray.size=xs.length:=by rw [List.size_toArray];exact r.length.symm
 refine ⟨"tuple",_,PyProof.Rows.slot_tuple_getitem.lookup,ht.typeIs,?_⟩
 refine HT.nK ht hs pl pu (by rw [hlen];exact hw) ?_ (by rw [hlen];exact hz)
 rw [hlen]
 refine ⟨.ref s.heap.objs.size,_,I.laid (t':=s.toks) (o:=.tup (lZ xs lo hi)) (fun b ob q=>Heap.get?_push_of_some _ q) (Nat.le_refl _) ?_,rfl,q _ (I.hok.fresh (Nat.le_refl _))⟩
 exact ⟨Nat.le_trans (nM xs lo hi) hz,_,(r.drop (HT.aR xs.length 0 lo)).take (HT.aR xs.length xs.length hi - HT.aR xs.length 0 lo),IsTup.new _ _⟩
noncomputable def Ry (K:PySem.W.Frag):R2:=fun x y H Q=>∃ a b xs ys,x=.ref a∧y=.ref b∧di K H a xs∧di K H b ys∧xs≠[]∧xs.length+ys.length≤sizeLine∧
 (ys=[]→Q (.ref a) H)∧(ys≠[]→∀ p,H p=none→Q (.ref p) (upd H p (.tup (xs++ys))))
theorem Vals.qz {xs:List V}{us:List Value}(r:Vals xs us):us=[]↔xs=[]:=by
 cases r with
 | nil=>simp
 | cons _ _=>simp
theorem Ic:dR X (binaryOp .Add) (Ry X.K):=by
 intro pins s σ H x y v u Q I rx ry h
 obtain ⟨a,b,xs,ys,rfl,rfl,ha,hb,hx,hz,q1,q2⟩:=h
 cases rx
 cases ry
 obtain ⟨its,r1,p1,_⟩:=I.tuple ha
 obtain ⟨its2,r2,p2,_⟩:=I.tuple hb
 refine HT.HY p1 p2 (fun z=>hx (r1.qz.mp z)) (fun z=>⟨.ref a,H,I,rfl,q1 (r2.qz.mp z)⟩) (fun z=>?_) (by rw [←r1.length,←r2.length];exact hz)
 refine ⟨.ref s.heap.objs.size,_,I.laid (t':=s.toks) (o:=.tup (xs++ys)) (fun b ob q=>Heap.get?_push_of_some _ q) (Nat.le_refl _) ?_,rfl,q2 (fun w=>z (r2.qz.mpr w)) _ (I.hok.fresh (Nat.le_refl _))⟩
 exact ⟨by rw [List.length_append];exact hz,_,r1.append r2,IsTup.new _ _⟩
end
end L2
namespace L2
open PySem PySem.Spec PyProof.Rows
noncomputable def dM (n:Nat) (i:Int):Option Nat:=if 0≤i then (if i<n then some i.toNat else none) else if -(n:Int)≤i then some (i+n).toNat else none
noncomputable def bL {α:Type}(xs:List α) (i:Int):Option α:=(dM xs.length i).bind fun j=>xs[j]?
theorem Ie {n:Nat}{i:Int}{j:Nat}(h:dM n i=some j):seqIndex? i n=some j∧j<n∧-(n:Int)≤i∧i<n:=by
 unfold dM at h
 by_cases h0:0≤i
 ·rw [if_pos h0] at h
  by_cases h1:i<n
  ·rw [if_pos h1] at h
   have e:i.toNat=j:=Option.some.inj h
   exact ⟨by rw [seqIndex_of h0 h1,e],by omega,by omega,h1⟩
  ·rw [if_neg h1] at h;cases h
 ·rw [if_neg h0] at h
  by_cases h1:-(n:Int)≤i
  ·rw [if_pos h1] at h
   have e:(i+n).toNat=j:=Option.some.inj h
   exact ⟨by rw [seqIndex_neg (by omega) h1,e],by omega,h1,by omega⟩
  ·rw [if_neg h1] at h;cases h
theorem qA {α:Type}{xs:List α}{i:Int}{v:α}(h:bL xs i=some v):∃ j,seqIndex? i xs.length=some j∧xs[j]?=some v∧j<xs.length∧-(xs.length:Int)≤i∧i<xs.length:=by
 unfold bL at h
 cases e:dM xs.length i with
 | none=>rw [e] at h;cases h
 | some j=>
  rw [e] at h
  obtain ⟨h1,h2,h3,h4⟩:=Ie e
  exact ⟨j,h1,h,h2,h3,h4⟩
theorem wj {α:Type}{xs:List α}{j:Nat}{v:α}(h:xs[j]?=some v):bL xs (j:Int)=some v:=by
 have hj:j<xs.length:=(List.getElem?_eq_some_iff.mp h).1
 have e:dM xs.length (j:Int)=some j:=by
  unfold dM
  rw [if_pos (by omega),if_pos (by omega)];simp
 unfold bL;rw [e];exact h
noncomputable def qB (b:Expr):Prop:=∀ o i,subscripted b false o i=operate [o,i] (getItem o i)
noncomputable def wk (X:Cx) (r:R2):Prop:=
 ∀ (value slice:Expr) (pins:List (Addr×Obj)) (s:Shared) (σ:St) (H:Hp) (x y:V) (v u:Value) (Q:VK),Inv X pins σ H s→RelV x v→RelV y u→r x y H Q→
  subscripted slice false v u=operate [v,u] (getItem v u)→wpAny (model X.prog X.w) X.A (subscriptTail value slice v u) (EP X pins σ Q) X.xe s
noncomputable def rE (X:Cx) (id:String) (r:V→List V→Hp→VK→Prop):Prop:=
 ∀ (pins:List (Addr×Obj)) (s:Shared) (σ:St) (H:Hp) (x:V) (xs:List V) (v:Value) (us:List Value) (Q:VK),Inv X pins σ H s→RelV x v→Vals xs us→r x xs H Q→
  wpAny (model X.prog X.w) X.A (call (.builtin id) (v :: us)) (EP X pins σ Q) X.xe s
section
variable {X:Cx}{a b:Expr}{ta tb:TE}{pos:Pos}
theorem Rz {r:R2}(hr:wk X r) (ha:PE X a ta) (hb:PE X b tb) (hs:qB b):PE X (.Subscript a b pos) (zR r ta tb):=by
 intro pins s σ H Q I h
 exact Subscript_ (xY ha hb I h fun v u s2 x y H2 I2 rx ry q=>hr a b pins s2 σ H2 x y v u Q I2 rx ry q (hs _ _))
noncomputable def W0 (K:PySem.W.Frag):R2:=fun x y H Q=>∃ p xs i v,x=.ref p∧y=.int i∧dJ K H p xs∧bL xs i=some v∧Q v H
noncomputable def W2 (K:PySem.W.Frag):R2:=fun x y H Q=>∃ p xs i v,x=.ref p∧y=.int i∧di K H p xs∧bL xs i=some v∧Q v H
noncomputable def W3:R2:=fun x y H Q=>∃ z i c,x=.str z∧y=.int i∧z.length≤sizeLine∧bL z.cps.toList i=some c∧Q (.str ⟨#[c]⟩) H
theorem Ig:wk X (W0 X.K):=by
 intro value slice pins s σ H x y v u Q I rx ry h hs
 obtain ⟨p,xs,i,z,rfl,rfl,hq,he,q⟩:=h
 cases rx
 obtain ⟨t,rfl⟩:=ry
 obtain ⟨its,r,pl,hz⟩:=I.list hq
 obtain ⟨j,h1,h2,h3,h4,h5⟩:=qA he
 obtain ⟨w,ew,rw'⟩:=r.get h2
 have hl:=r.length
 have hn:=j9
 have fin:EP X pins σ Q w s:=⟨z,H,I,rw',q⟩
 by_cases h0:0≤i
 ·have hj:i.toNat=j:=by
   rw [seqIndex_of h0 h5] at h1
   exact Option.some.inj h1
  exact item_listR pl.isList h0 (by omega) (by rw [hj];simpa using ew) fin hs
 ·have hj:(i+(its.toArray.size:Int)).toNat=j:=by
   rw [seqIndex_neg (by omega) h4] at h1
   rw [List.size_toArray,←hl]
   exact Option.some.inj h1
  exact subscriptTail_builtinR (x:=w) pl.isList.typeIs slot_list_getitem.lookup
   (wpAny_getItem_list_neg (Q:=fun r s'=>r=w∧EP X pins σ Q r s') pl.isList (by omega) (by rw [List.size_toArray] <;> omega) (by omega) (by rw [hj];simpa using ew) ⟨rfl,fin⟩) hs
theorem Lj:wk X (W2 X.K):=by
 intro value slice pins s σ H x y v u Q I rx ry h hs
 obtain ⟨p,xs,i,z,rfl,rfl,hq,he,q⟩:=h
 cases rx
 obtain ⟨t,rfl⟩:=ry
 obtain ⟨its,r,pl,hz⟩:=I.tuple hq
 obtain ⟨j,h1,h2,h3,h4,h5⟩:=qA he
 obtain ⟨w,ew,rw'⟩:=r.get h2
 have hl:=r.length
 have hn:=j9
 have fin:EP X pins σ Q w s:=⟨z,H,I,rw',q⟩
 exact subscriptTail_builtinR (x:=w) pl.typeIs slot_tuple_getitem.lookup
  (getItem_tuple (j:=j) (Q:=fun r s'=>r=w∧EP X pins σ Q r s') pl (by omega) (by omega) (by rw [List.size_toArray,←hl];exact h1) (by simpa using ew) ⟨rfl,fin⟩) hs
theorem Lk:wk X W3:=by
 intro value slice pins s σ H x y v u Q I rx ry h hs
 obtain ⟨z,i,c,rfl,rfl,hz,he,q⟩:=h
 obtain ⟨t,rfl⟩:=rx
 obtain ⟨t',rfl⟩:=ry
 obtain ⟨j,h1,h2,h3,h4,h5⟩:=qA he
 have hl:z.cps.toList.length=z.length:=by simp [Str.length]
 rw [hl] at h1 h4 h5
 have hn:=j9
 exact tail_any (typeIs_str s z t) slot_str_getitem.lookup (getItem_str (c:=c) (by
  have e1:decide (i < -(2 ^ 63:Int))=false:=decide_eq_false (by omega)
  have e2:decide (i≥2 ^ 63)=false:=decide_eq_false (by omega)
  rw [e1,e2,Bool.or_false]) (by rw [h1];simpa using h2) ⟨.str ⟨#[c]⟩,H,I.tok _,⟨_,rfl⟩,q⟩) hs
theorem tO (lo hi:Option Int) (n:Nat):(sliceBounds lo hi none n).1=((HT.aR n 0 lo:Nat):Int)∧(sliceBounds lo hi none n).2.1=((HT.aR n n hi:Nat):Int)∧(sliceBounds lo hi none n).2.2=1:=by
 refine ⟨?_,?_,rfl⟩
 ·cases lo with
  | none=>simp [sliceBounds,HT.aR]
  | some i=>
   simp only [sliceBounds,HT.aR,Option.getD_none,show (1:Int) > 0 by decide,if_true]
   by_cases h:i<0
   ·simp only [h,if_true] <;> omega
   ·simp only [h,if_false] <;> omega
 ·cases hi with
  | none=>simp [sliceBounds,HT.aR]
  | some i=>
   simp only [sliceBounds,HT.aR,Option.getD_none,show (1:Int) > 0 by decide,if_true]
   by_cases h:i<0
   ·simp only [h,if_true] <;> omega
   ·simp only [h,if_false] <;> omega
theorem su (its:List Value) (lo hi:Option Int):slicePick its.toArray lo hi none=((its.drop (HT.aR its.length 0 lo)).take (HT.aR its.length its.length hi - HT.aR its.length 0 lo)).toArray:=by
 obtain ⟨h1,h2,h3⟩:=tO lo hi its.toArray.size
 unfold slicePick
 rw [h1,h2,h3]
 simp only [sliceRange_one,pick_run,List.size_toArray] <;> rfl
noncomputable def W4 (K:PySem.W.Frag):V→Option Int→Option Int→Hp→VK→Prop:=fun x lo hi H Q=>∃ a xs,x=.ref a∧dJ K H a xs∧∀ p,H p=none→Q (.ref p) (upd H p (.lst (lZ xs lo hi)))
theorem Ih:kg X (W4 X.K):=by
 intro pins s σ H x v vl vu lo hi sl Q I rx hs pl pu h
 obtain ⟨a,xs,rfl,hx,q⟩:=h
 cases rx
 obtain ⟨its,r,ht,hz⟩:=I.list hx
 have hlen:=r.length
 refine ⟨"list",_,slot_list_getitem.lookup,ht.isList.typeIs,?_⟩
 refine wpAny_getItem_list_slice ht.isList hs pl pu .none (by simp) ?_ (by rw [List.size_toArray] <;> omega)
 rw [su,←hlen]
 refine ⟨.ref s.heap.objs.size,_,I.laid (t':=s.toks) (o:=.lst (lZ xs lo hi)) (fun b ob q=>Heap.get?_push_of_some _ q) (Nat.le_refl _) ?_,rfl,q _ (I.hok.fresh (Nat.le_refl _))⟩
 exact ⟨Nat.le_trans (nM xs lo hi) hz,_,0,(r.drop (HT.aR xs.length 0 lo)).take (HT.aR xs.length xs.length hi - HT.aR xs.length 0 lo),Heap.get?_push_size _ rfl⟩
noncomputable def sE:V→Bool
 | .bD=>true
 | .bl _=>true
 | .int _=>true
 | .str _=>true
 | _=>false
theorem mh:fR X (.builtin "len") (fun xs H Q=>∃ p ys,xs=[.ref p]∧(dJ X.K H p ys∨di X.K H p ys)∧Q (.int ys.length) H):=by
 intro pins s σ H xs us Q I r h
 obtain ⟨p,ys,rfl,hq,q⟩:=h
 obtain ⟨u,rfl,rx⟩:=vals1 r
 cases rx
 have hn:=j9
 rcases hq with hq | hq
 ·obtain ⟨its,r',pl,hz⟩:=I.list hq
  have hlen:=r'.length
  exact Calls.call_len_list pl.isList (by simp only [List.size_toArray] <;> omega) ⟨.int ys.length,H,I.tok _,⟨s.toks+1,by rw [List.size_toArray,hlen]⟩,q⟩
 ·obtain ⟨its,r',pl,hz⟩:=I.tuple hq
  have hlen:=r'.length
  exact len_tuple pl (by simp only [List.size_toArray] <;> omega) ⟨.int ys.length,H,I.tok _,⟨s.toks+1,by rw [List.size_toArray,hlen]⟩,q⟩
theorem tP:fR X (.builtin "len") (fun xs H Q=>∃ z,xs=[.str z]∧z.length≤sizeLine∧Q (.int z.length) H):=by
 intro pins s σ H xs us Q I r h
 obtain ⟨z,rfl,hz,q⟩:=h
 obtain ⟨u,rfl,t,rfl⟩:=vals1 r
 have hn:=j9
 exact len_str (by omega) ⟨.int z.length,H,I.tok _,⟨_,rfl⟩,q⟩
theorem mj:fR X (.type "list") (fun xs H Q=>∃ p ys,xs=[.ref p]∧(dJ X.K H p ys∨di X.K H p ys)∧∀ l,H l=none→Q (.ref l) (upd H l (.lst ys))):=by
 intro pins s σ H xs us Q I r h
 obtain ⟨p,ys,rfl,hq,q⟩:=h
 obtain ⟨u,rfl,rx⟩:=vals1 r
 cases rx
 have fin:∀ (its:List Value),Vals ys its→ys.length≤sizeLine→∀ (h':Heap) (c':Nat),(∀ b o',s.heap.get? b=some o'→h'.get? b=some o')→
   h'.get? s.heap.objs.size=some { cls:=.type "list",dict:=none,data:=.seq its.toArray c',slots:=#[]}→EP X pins σ Q (.ref s.heap.objs.size) { s with heap:=h' }:=fun its r' hz h' c' kp e=>
  ⟨.ref s.heap.objs.size,_,I.laid (t':=s.toks) kp (Nat.le_refl _) (show dg X.prog X.w _ h' _ (.lst ys) from ⟨hz,its,c',r',e⟩),rfl,q _ (I.hok.fresh (Nat.le_refl _))⟩
 rcases hq with hq | hq
 ·obtain ⟨its,r',pl,hz⟩:=I.list hq
  have hlen:=r'.length
  obtain ⟨o,ho,hc,n,hd⟩:=pl.isList
  exact call_list_seq p (.inl rfl) ho hc hd (fun h' c' kp e=>fin its r' hz h' c' kp e) (by simp only [List.size_toArray] <;> omega)
 ·obtain ⟨its,r',pl,hz⟩:=I.tuple hq
  have hlen:=r'.length
  obtain ⟨o,ho,hc,n,hd⟩:=pl
  exact call_list_seq p (.inr rfl) ho hc hd (fun h' c' kp e=>fin its r' hz h' c' kp e) (by simp only [List.size_toArray] <;> omega)
theorem lN:fR X (.type "tuple") (fun xs H Q=>∃ p ys,xs=[.ref p]∧((dJ X.K H p ys∧∀ l,H l=none→Q (.ref l) (upd H l (.tup ys)))∨(di X.K H p ys∧Q (.ref p) H))):=by
 intro pins s σ H xs us Q I r h
 obtain ⟨p,ys,rfl,h⟩:=h
 obtain ⟨u,rfl,rx⟩:=vals1 r
 cases rx
 rcases h with ⟨hq,q⟩ | ⟨hq,q⟩
 ·obtain ⟨its,r',pl,hz⟩:=I.list hq
  have hlen:=r'.length
  refine call_tuple_list pl.isList (fun h' kp=>?_) (by simp only [List.size_toArray] <;> omega)
  have I1:Inv X pins σ H { s with heap:=h' }:=I.kept (t':=s.toks) kp
  have I2:Inv X pins σ (upd H h'.objs.size (.tup ys)) { s with heap:=h'.push { cls:=.type "tuple",data:=.seq its.toArray }}:=
   I1.laid (t':=s.toks) (fun b o e=>Heap.get?_push_of_some _ e) (Nat.le_refl _) (show dg X.prog X.w _ _ _ (.tup ys) from ⟨hz,its,r',IsTup.new _ _⟩)
  exact ⟨.ref h'.objs.size,_,I2,rfl,q _ (I1.hok.fresh (Nat.le_refl _))⟩
 ·obtain ⟨its,r',pl,hz⟩:=I.tuple hq
  exact call_tuple_same pl ⟨.ref p,H,I,rfl,q⟩
noncomputable def zW (K:PySem.W.Frag) (T:String) (x:V) (H:Hp):Prop:=match x with
 | .str _=>T = "str"
 | .int _=>T = "int"
 | .ref p=>(T = "list" ∧∃ xs,dJ K H p xs)∨(T = "tuple" ∧∃ o,K.lookup p=some o∧o.cls=.type "tuple" ∧o.dict=none)∨
   (T = "dict" ∧((∃ kvs,H p=some (.dK kvs))∨∃ kvs,H p=some (.dT kvs)))∨(T = "set" ∧∃ S n,H p=some (.set S n))
 | _=>False
theorem zX {pins:List (Addr×Obj)}{σ:St}{H:Hp}{s:Shared}{T:String}{x:V}{v:Value}(I:Inv X pins σ H s) (r:RelV x v) (ty:zW X.K T x H) :
  s.TypeIs v T∧∀ a,v=.ref a→∃ ob,s.heap.get? a=some ob∧ob.dict=none:=by
 cases x with
 | str z=>
  obtain ⟨t,rfl⟩:=r
  cases (show T = "str" from ty)
  exact ⟨typeIs_str s z t,fun _ e=>nomatch e⟩
 | int i=>
  obtain ⟨t,rfl⟩:=r
  cases (show T = "int" from ty)
  exact ⟨typeIs_int s i t,fun _ e=>nomatch e⟩
 | ref p=>
  cases r
  rcases ty with ⟨rfl,xs,hq⟩ | ⟨rfl,o,hk,hc,hd⟩ | ⟨rfl,hk⟩ | ⟨rfl,S,n,hk⟩
  ·obtain ⟨its,_,pl,_⟩:=I.list hq
   refine ⟨pl.isList.typeIs,fun a e=>?_⟩
   cases e
   obtain ⟨o,n,e,c,hd,_⟩:=pl
   exact ⟨o,e,hd⟩
  ·refine ⟨⟨o,I.q8 p o hk,hc⟩,fun a e=>?_⟩
   cases e
   exact ⟨o,I.q8 _ o hk,hd⟩
  ·have z:∃ o,s.heap.get? p=some o∧o.ExactDict:=by
    rcases hk with ⟨kvs,hk⟩ | ⟨kvs,hk⟩
    ·obtain ⟨_,_,_,_,o,_,_,e,ex,_⟩:=I.hok p _ hk
     exact ⟨o,e,ex⟩
    ·obtain ⟨_,_,_,_,o,_,_,e,ex,_⟩:=I.hok p _ hk
     exact ⟨o,e,ex⟩
   obtain ⟨o,e,ex⟩:=z
   refine ⟨⟨o,e,ex.1⟩,fun a e2=>?_⟩
   cases e2
   exact ⟨o,e,ex.2.1⟩
  ·obtain ⟨o,_,_,_,e,ex,_⟩:=I.hok p _ hk
   refine ⟨⟨o,e,ex.1⟩,fun a e2=>?_⟩
   cases e2
   exact ⟨o,e,ex.2.1⟩
 | _=>exact False.elim ty
noncomputable def W5 (K:PySem.W.Frag) (T:String) (r:V→List V→Hp→VK→Prop) (to:TE):TE:=fun σ H Q=>to σ H fun x H1=>zW K T x H1∧r x [] H1 Q
noncomputable def Zp (K:PySem.W.Frag) (T:String) (r:V→List V→Hp→VK→Prop) (to:TE) (t:TA):TE:=fun σ H Q=>to σ H fun x H1=>zW K T x H1∧t σ H1 fun xs H2=>r x xs H2 Q
variable {o e:Expr}{es:List Expr}{to:TE}{t:TA}{name:Str}{apos cpos:Pos}{T id:String}{r:V→List V→Hp→VK→Prop}
theorem Ll (pa:PlainAttrs T) (slot:Slot T name id) (hty:typeOf (.builtin id)=pure (.type "method_descriptor")) (hm:rE X id r) (ho:PE X o to)
  (hbase:attributeBase o name X.env (eval o X.env)=eval o X.env:=by rfl) (hline:(apos.endLine==cpos.line)=true:=by rfl):PE X (.Call (.Attribute o name apos) [] [] cpos) (W5 X.K T r to):=by
 intro pins s σ H Q I h
 refine wpAny_Call_method0_late hbase hline (bB (ho pins s σ H _ I h) fun v s1 ⟨x,H1,I1,r1,ty,q1⟩=>?_)
 obtain ⟨h1,h2⟩:=zX I1 r1 ty
 exact ⟨T,id,pa,slot,hty,h1,h2,Calls.callWith_builtin rfl (PySem.evalArgs_none (hm pins s1 σ H1 x [] v [] Q I1 r1 .nil q1))⟩
theorem RA (pa:PlainAttrs T) (slot:Slot T name id) (hty:typeOf (.builtin id)=pure (.type "method_descriptor")) (hm:rE X id r) (ho:PE X o to) (ha:PA X (e :: es) t)
  (hbase:attributeBase o name X.env (eval o X.env)=eval o X.env:=by rfl)
  (hfew:((backTo cpos (starEach (e :: es) X.env)).all (fun x=>!x.1)&&(backToKw cpos (keywordEach [] X.env)).all (fun x=>x.1.isSome)
   &&decide ((e :: es).length+([]:List Keyword).length+(if ([]:List Keyword).isEmpty then 0 else 1)<30))=true:=by rfl)
  (hline:(apos.endLine==cpos.line)=true:=by rfl) (hs:starEach (e :: es) X.env=(false,eval e X.env) :: starEach es X.env:=by rfl) (hplain:(backTo cpos (starEach es X.env)).any (·.1)=false:=by rfl) :
  PE X (.Call (.Attribute o name apos) (e :: es) [] cpos) (Zp X.K T r to t):=by
 intro pins s σ H Q I h
 refine wpAny_Call_method_late hbase hfew hline rfl (bB (ho pins s σ H _ I h) fun v s1 ⟨x,H1,I1,r1,ty,q1⟩=>?_)
 obtain ⟨h1,h2⟩:=zX I1 r1 ty
 refine ⟨T,id,pa,slot,hty,h1,h2,?_⟩
 have hA:=ha cpos pins s1 σ H1 _ I1 q1
 rw [hs] at hA ⊢
 refine Calls.callWith_builtin (by show (false || (backTo cpos (starEach es X.env)).any (·.1))=false;rw [hplain] <;> rfl) (Calls.evalArgs_plain ?_)
 exact bB hA fun us s2 ⟨vs,H2,I2,r2,q2⟩=>hm pins s2 σ H2 x vs v us Q I2 r1 r2 q2
end
end L2
namespace L2
open PySem PySem.Spec PyProof.Rows
noncomputable def Lm (X:Cx) (id:String) (r:V→List V→Hp→VK→Prop):Prop:=
 ∀ (pins:List (Addr×Obj)) (s:Shared) (σ:St) (H:Hp) (x:V) (xs:List V) (v:Value) (us:List Value) (Q:VK),Inv X pins σ H s→RelV x v→Vals xs us→r x xs H Q→
  wpAny (model X.prog X.w) X.A (call (.builtin id) (v :: us)) (EP X pins σ Q) X.xe s
theorem Vals.one:∀ {x:V}{us:List Value},Vals [x] us→∃ u,us=[u]∧RelV x u
 | _,_,.cons r .nil=>⟨_,rfl,r⟩
theorem Vals.zero:∀ {us:List Value},Vals [] us→us=[]
 | _,.nil=>rfl
theorem Vals.dropLast {xs:List V}{us:List Value}(h:Vals xs us):Vals xs.dropLast us.dropLast:=by
 induction h with
 | nil=>exact .nil
 | cons r t ih=>
  cases t with
  | nil=>exact .nil
  | cons q t'=>exact .cons r ih
theorem Vals.reverse {xs:List V}{us:List Value}(h:Vals xs us):Vals xs.reverse us.reverse:=by
 induction h with
 | nil=>exact .nil
 | cons r t ih=>rw [List.reverse_cons,List.reverse_cons];exact Vals.append ih (.cons r .nil)
theorem Vals.rep {xs:List V}{us:List Value}(h:Vals xs us):∀ k:Nat,Vals (List.replicate k xs).flatten (List.replicate k us).flatten
 | 0=>.nil
 | k+1=>by
  rw [List.replicate_succ,List.replicate_succ,List.flatten_cons,List.flatten_cons]
  exact Vals.append h (Vals.rep h k)
theorem yd {α:Type}(l:List α):l.eraseIdx (l.length - 1)=l.dropLast:=by
 induction l with
 | nil=>rfl
 | cons a r ih=>
  cases r with
  | nil=>rfl
  | cons b r=>
   have e:(a :: b :: r).length - 1=((b :: r).length - 1)+1:=by
    have h1:(a :: b :: r).length=r.length+2:=rfl
    have h2:(b :: r).length=r.length+1:=rfl
    omega
   rw [e,List.eraseIdx_cons_succ,ih]
   all_goals rfl
theorem foldl_rep (its:List Value):∀ (k:Nat) (acc:List Value),
  List.foldl (fun x1 x2=>x1++x2) acc.toArray (List.replicate k its.toArray)=(acc++(List.replicate k its).flatten).toArray
 | 0,acc=>by simp
 | k+1,acc=>by
  have e:acc.toArray++its.toArray=(acc++its).toArray:=by simp
  have e2:(acc++its)++(List.replicate k its).flatten=acc++(List.replicate (k+1) its).flatten:=by
   rw [List.replicate_succ,List.flatten_cons,List.append_assoc]
  rw [←e2,←foldl_rep its k (acc++its),←e,List.replicate_succ,List.foldl_cons]
section
variable {X:Cx}{pins:List (Addr×Obj)}{σ:St}{H:Hp}{s:Shared}{l b:Addr}{xs ys zs:List V}
theorem Inv.Cy {its its':List Value}{n:Nat}{f:Array Value→Array Value}{t':Nat}(I:Inv X pins σ H s) (hH:H l=some (.lst xs))
  (e:s.heap.get? l=some { cls:=.type "list",data:=.seq its.toArray n }) (hf:f its.toArray=its'.toArray) (hv:Vals ys its') (hz:ys.length≤sizeLine) :
  Inv X pins σ (upd H l (.lst ys)) { s with heap:=s.heap.update l (Obj.mapSeq f),toks:=t' }:=by
 have q:=PySem.IsL.update e f
 rw [hf] at q
 refine I.write (x:=l) (e:=l) (by rw [hH];exact trivial) (.inl rfl) (fun b' u hb hu=>(Heap.get?_update_other s.heap (Obj.mapSeq f) (Ne.symm hb)).trans hu) ⟨_,q⟩ ?_
 exact ⟨hz,its',_,hv,q⟩
theorem Inv.Cz {its:List Value}{t':Nat}(I:Inv X pins σ H s) (hv:Vals ys its) (hz:ys.length≤sizeLine) :
  Inv X pins σ (upd H s.heap.objs.size (.lst ys)) { s with heap:=s.heap.push { cls:=.type "list",data:=.seq its.toArray },toks:=t' }:=
 I.laid (fun _ _ q=>Heap.get?_push_of_some _ q) (Nat.le_refl _) ⟨hz,its,0,hv,Heap.get?_push_size _ rfl⟩
theorem Inv.fresh (I:Inv X pins σ H s):H s.heap.objs.size=none:=I.hok.fresh (Nat.le_refl _)
theorem Inv.oB (I:Inv X pins σ H s) (hH:H l=some (.lst xs)):xs.length≤sizeLine∧∃ (its:List Value) (n:Nat),Vals xs its∧xs.length=its.length∧s.heap.get? l=some { cls:=.type "list",data:=.seq its.toArray n }:=by
 obtain ⟨z,its,n,r,e⟩:=I.hok l _ hH
 exact ⟨z,its,n,r,r.length,e⟩
theorem tQ {n:Nat}(h:n≤sizeLine):Builtin.List.listTooLong n=false:=by
 unfold Builtin.List.listTooLong
 exact decide_eq_false (by omega)
end
section
variable {X:Cx}
noncomputable def Ii:V→List V→Hp→VK→Prop:=fun x vs H Q=>∃ l xs y,x=.ref l∧vs=[y]∧H l=some (.lst xs)∧xs.length<sizeLine∧Q .bD (upd H l (.lst (xs++[y])))
theorem rF:Lm X "list.append" Ii:=by
 intro pins s σ H x vs v us Q I rx rv h
 obtain ⟨l,xs,y,rfl,rfl,hH,hz,q⟩:=h
 cases rx
 obtain ⟨u,rfl,ru⟩:=rv.one
 obtain ⟨z,its,n,r,hl,e⟩:=I.oB hH
 refine call_meets F.slot_list_append ⟨_,e,rfl⟩ F.entry_list_append (F.args_list_append_2 _ _) (PySem.list_append l its.toArray n u (by rw [List.size_toArray];omega)) ⟨e,?_⟩
 refine ⟨.bD,_,I.Cy (its':=its++[u]) hH e (by simp) (r.append (.cons ru .nil)) ?_,rfl,q⟩
 rw [List.length_append,List.length_singleton]
 omega
noncomputable def Ij:V→List V→Hp→VK→Prop:=fun x vs H Q=>∃ l b xs zs,x=.ref l∧vs=[.ref b]∧H l=some (.lst xs)∧H b=some (.lst zs)∧xs.length+zs.length≤sizeLine∧Q .bD (upd H l (.lst (xs++zs)))
theorem zY:Lm X "list.extend" Ij:=by
 intro pins s σ H x vs v us Q I rx rv h
 obtain ⟨l,b,xs,zs,rfl,rfl,hH,hB,hz,q⟩:=h
 cases rx
 obtain ⟨u,rfl,ru⟩:=rv.one
 cases ru
 obtain ⟨z,its,n,r,hl,e⟩:=I.oB hH
 obtain ⟨z2,its2,n2,r2,hl2,e2⟩:=I.oB hB
 have hsz:its.toArray.size+its2.toArray.size≤sizeLine:=by rw [List.size_toArray,List.size_toArray];omega
 have ye:¬ (!its.toArray.isEmpty&&Builtin.List.listTooLong (its.toArray.size+its2.toArray.size))=true:=by
  rw [tQ hsz,Bool.and_false]
  exact Bool.false_ne_true
 refine call_meets F.slot_list_extend ⟨_,e,rfl⟩ F.entry_list_extend (F.args_list_extend_2 _ _)
  (AutoSeq1.list_extend_list_list_0 l its.toArray n b its2.toArray n2 ye (by rw [List.size_toArray];omega) (by omega)) ⟨e,e2,?_⟩
 refine ⟨.bD,_,I.Cy (its':=its++its2) hH e (by simp) (r.append r2) ?_,rfl,q⟩
 rw [List.length_append]
 omega
noncomputable def W6:V→List V→Hp→VK→Prop:=fun x vs H Q=>∃ l xs y,x=.ref l∧vs=[]∧H l=some (.lst xs)∧xs[xs.length - 1]?=some y∧Q y (upd H l (.lst xs.dropLast))
theorem Ln:Lm X "list.pop" W6:=by
 intro pins s σ H x vs v us Q I rx rv h
 obtain ⟨l,xs,y,rfl,rfl,hH,hy,q⟩:=h
 cases rx
 have Zq:=rv.zero
 subst Zq
 obtain ⟨z,its,n,r,hl,e⟩:=I.oB hH
 obtain ⟨u,hu,ru⟩:=r.get hy
 have hy':its.toArray[its.toArray.size - 1]?=some u:=by
  show its.toArray[its.length - 1]?=some u
  rw [←Array.getElem?_toList,←hl]
  exact hu
 refine call_meets F.slot_list_pop ⟨_,e,rfl⟩ F.entry_list_pop (F.args_list_pop_1 _) (MeetsSeq.list_pop_last l its.toArray n u hy' (by rw [List.size_toArray];omega)) ⟨e,?_⟩
 refine ⟨y,_,I.Cy (its':=its.dropLast) hH e ?_ r.dropLast ?_,ru,q⟩
 ·show its.toArray.eraseIdxIfInBounds (its.toArray.size - 1)=its.dropLast.toArray
  rw [List.size_toArray,List.eraseIdxIfInBounds_toArray,yd]
 ·rw [List.length_dropLast]
  omega
noncomputable def W7:R2:=fun x y H Q=>∃ l b xs zs,x=.ref l∧y=.ref b∧H l=some (.lst xs)∧H b=some (.lst zs)∧xs.length+zs.length≤sizeLine∧∀ p,H p=none→Q (.ref p) (upd H p (.lst (xs++zs)))
theorem Lo:dR X (binaryOp .Add) W7:=by
 intro pins s σ H x y v u Q I rx ry h
 obtain ⟨l,b,xs,zs,rfl,rfl,hH,hB,hz,q⟩:=h
 cases rx
 cases ry
 obtain ⟨z,its,n,r,hl,e⟩:=I.oB hH
 obtain ⟨z2,its2,n2,r2,hl2,e2⟩:=I.oB hB
 refine PySem.P.add_list e e2 ?_ (by rw [List.size_toArray,List.size_toArray];omega)
 have ea:its.toArray++its2.toArray=(its++its2).toArray:=by simp
 rw [ea]
 exact ⟨.ref _,_,I.Cz (t':=s.toks) (r.append r2) (by rw [List.length_append];omega),rfl,q _ I.fresh⟩
noncomputable def W8:R2:=fun x y H Q=>∃ l k xs,x=.ref l∧y=.int k∧H l=some (.lst xs)∧-(2 ^ 63)≤k∧k<2 ^ 63∧xs.length*k.toNat≤sizeLine∧
 ∀ p,H p=none→Q (.ref p) (upd H p (.lst (List.replicate k.toNat xs).flatten))
theorem len_rep {α:Type}(xs:List α) (k:Nat):(List.replicate k xs).flatten.length=k*xs.length:=by
 induction k with
 | zero=>simp
 | succ k ih=>rw [List.replicate_succ,List.flatten_cons,List.length_append,ih,Nat.succ_mul,Nat.add_comm]
theorem Lp:dR X (binaryOp .Mult) W8:=by
 intro pins s σ H x y v u Q I rx ry h
 obtain ⟨l,k,xs,rfl,rfl,hH,h1,h2,hz,q⟩:=h
 cases rx
 obtain ⟨t,rfl⟩:=ry
 obtain ⟨z,its,n,r,hl,e⟩:=I.oB hH
 have hlen:its.toArray.size*k.toNat≤sizeLine:=by rw [List.size_toArray,←hl];exact hz
 have hcap:¬ its.toArray.size*k.toNat > (2 ^ 63 - 1) / 8:=by
  have:(sizeLine:Nat)≤(2 ^ 63 - 1) / 8:=by decide
  omega
 have hfit:¬ (!Builtin.List.listFitsIndex k)=true:=by
  rw [fitsIndex_both h1 h2]
  exact Bool.false_ne_true
 have ye:¬ Builtin.List.listTooLong (its.toArray.size*k.toNat)=true:=by
  rw [tQ hlen]
  exact Bool.false_ne_true
 have hnew:List.foldl (fun x1 x2=>x1++x2) #[] (List.replicate (if its.toArray.isEmpty=true then 0 else k.toNat) its.toArray)=(List.replicate k.toNat its).flatten.toArray:=by
  have f0:∀ m:Nat,List.foldl (fun x1 x2=>x1++x2) #[] (List.replicate m its.toArray)=(List.replicate m its).flatten.toArray:=fun m=>by
   have:=foldl_rep its m []
   rw [List.nil_append] at this
   exact this
  rw [f0]
  cases its with
  | nil=>simp
  | cons a r'=>rw [if_neg (by simp)]
 refine wpAny_binaryOp_repeat_ref (T:="list") (U:="int") (by decide) ⟨_,e,rfl⟩ (fun s'=>typeIs_int s' k t) noFill_list_mul F.fills_int_mul F.slot_int_rmul repeat_list F.slot_int_index.lookup
  (call_meets F.slot_int_rmul (typeIs_int s k t) F.entry_int_rmul (F.args_int_rmul_2 _ _) (int___rmul___int_list k t l its.toArray n)
   ⟨e,rfl,⟨_,e,rfl⟩,call_meets F.slot_list_mul ⟨_,e,rfl⟩ F.entry_list_mul (F.args_list_mul_2 _ _) (AutoListH.list___mul___list_int_3 l its.toArray n k t hfit hcap ye) ⟨e,?_⟩⟩)
 rw [hnew]
 exact ⟨.ref _,_,I.Cz (t':=s.toks) (r.rep k.toNat) (by rw [len_rep,Nat.mul_comm];exact hz),rfl,q _ I.fresh⟩
end
section
variable {prog:Program}{w:World}{A:Around}{E:Value→Shared→Prop}{s:Shared}
end
section
variable {X:Cx}
end
end L2
namespace Uq
open PySem PySem.W PySem.Calls PyProof.Rows
theorem o7 {P:Params}{h:Heap}:∀ (ns:List Int) (vs:List Value),WellAll P h vs (ns.map WData.int)→IntsAre vs ns:=by
 intro ns
 induction ns with
 | nil=>
  intro vs w
  rw [List.map_nil] at w
  cases w
  exact .nil
 | cons n ns ih=>
  intro vs w
  rw [List.map_cons] at w
  cases w with
  | cons a b=>
   cases a
   exact .cons _ _ (ih _ b)
theorem zZ {l:OpenLaw}{n:Nat}(hn:l.most=some n){P:Params}{h:Heap}{args:List WData}{vals:List Value}
  (hpre:l.row.toRowW.claim.pre args=true) (hwl:WellAll P h vals args) :
  ∃ a vs ns,vals=[Value.ref a]∧args=[WData.list (ns.map WData.int)]∧h.get? a=some { cls:=.type "list",data:=.seq vs.toArray }∧IntsAre vs ns∧ns.length≤n:=by
 have hsh:WShape.hasAll [] args [.list .int]=true:=(pre_splitW hpre).1
 have hc:l.pre.holds [] { args:=args }=true:=(pre_splitW hpre).2
 obtain ⟨d,r,rfl,h1,h2⟩:=hasAllW_cons hsh
 obtain rfl:=hasAllW_nil h2
 obtain ⟨xs,rfl,h3⟩:=hasW_list h1
 obtain ⟨ns,rfl⟩:=items_int h3
 have hlen:ns.length≤n:=by
  unfold OpenLaw.pre at hc
  have h4:(WTm.not (.lt (.lit (.int (n:Int))) (.len (.arg 0)))).holds [] { args:=[.list (ns.map .int)]}=true:=by
   have h4:=(holds_andW hc).1
   rw [hn] at h4
   exact h4
  have h5:=condW_of h4 (w_not (w_lt w_lit (w_len_list (w_arg rfl))))
  rw [List.length_map] at h5
  refine Nat.le_of_not_lt fun q=>?_
  have q':(n:Int)<((ns.length:Nat):Int):=by omega
  first
   | (rw [decide_eq_true q'] at h5;exact absurd h5 (by decide))
   | (simp at h5;omega)
 cases hwl with
 | cons w1 w2=>
  cases w2
  cases w1 with
  | list ho hall=>exact ⟨_,_,ns,rfl,rfl,ho,o7 ns _ hall,hlen⟩
theorem Aa (l:OpenLaw) (args:List WData):l.row.toRowW.claim.post args (.bool true) args=true:=
 postW_of (r:=l.row.toRowW) (X:=(true==true))
  (show WShape.has [] (.bool true) .bool=true by first | rfl | decide | simp [WShape.has,WShape.arms,WShape.armsAll])
  (show (WTm.eq .res (.lit (.bool true))).value [] { args:=args,res:=some (.bool true),after:=args }=some (.bool (true==true)) from w_eq_bool (w_res rfl) w_lit) rfl
theorem vL {l:OpenLaw}{n:Nat}{q:Program}{loose:List Str}{XP:(Str→Option Value)→Heap→Prop}{YP:World→Heap→Prop}{d:DefRec}
  (hn:l.most=some n) (hdf:d.params.defaults=[])
  (call:∀ (w:World) (s₀ s₁:Shared) (mg mb:Str→Option Value) (fa:Addr) (o:Obj) (pm cd doc:Value) (a:Addr) (vs:List Value) (ns:List Int),
   Ground q loose [] XP w s₀ mg mb s₁.heap→YP w s₁.heap→
   s₁.heap.get? fa=some o→o.data=.func (docDef d.name d.params d.body d.scope pm cd doc)→s₁.heap.CodeRec cd d.name→mg d.name=some (.ref fa)→
   s₁.heap.get? a=some { cls:=.type "list",data:=.seq vs.toArray }→IntsAre vs ns→ns.length≤n→s₁.gens = #[]→
   codeAny (model l.prog w) callerA (.call (.ref fa) ⟨[.ref a],[]⟩) (fun r s'=>r=.ok (.ret (.bool true))∧OldK s₁.heap s'.heap∧s'.os=s₁.os∧AllBare s'.gens) s₁) :
  WalkO q loose XP YP l.row.toRowW d [] (fun f vs=>PySem.call f vs):=by
 intro w s₀ s₁ mg mb G Y fa o pm cd doc dV kV ho hd hcd hD hmg hg args vals as hpre hlay hrd hwl hlo
 obtain rfl:dV=.none:=Dflts.none hD hdf
 obtain rfl:kV=.none:=Dflts.noKw hD
 obtain ⟨a,vs,ns,rfl,rfl,hobj,hints,hlen⟩:=zZ hn hpre hwl
 refine enter_call (codeAny_mono (call w s₀ s₁ mg mb fa o pm cd doc a vs ns G Y ho (fd_plain hd) hcd hmg hobj hints hlen hg) fun r s' hq=>?_)
 obtain ⟨rfl,h2,h3,h4⟩:=hq
 exact ⟨.inl ⟨.bool true,.bool true,[],rfl,fun _=>rfl,.bool true,Aa l _,fun _=>⟨List.Pairwise.nil,fun _ hm=>(nomatch hm)⟩⟩,h2,h3,h4⟩
section
variable {prog:Program}{w:World}{A:Around}{E:Value→Shared→Prop}{s:Shared}{K:Frag}
end
end Uq
namespace L2
open PySem PySem.Spec PyProof.Rows
theorem rG:∀ {vs:List Value}{ns:List Int},IntsAre vs ns→Vals (ns.map V.int) vs
 | _,_,.nil=>.nil
 | _,_,.cons n t h=>.cons ⟨t,rfl⟩ (rG h)
noncomputable def qC (H:Hp):Prop:=∀ b,H b=none∨∃ o xs,H b=some (.bU o (.lst xs))
theorem CB {P:Program}{w:World}{K:PySem.W.Frag}{mg mb:Str→Option Value}{CX:lM}{k:Nat}{fa a:Addr}{fd:FuncData}{x:Str}{sp:Sp}{s₁:Shared}{vs:List Value}{ns:List Int}
  (KX:K.In s₁.heap) (hns:s₁.heap.Ns mainGlobals mg) (hb:s₁.heap.Ns builtinsNs mb) (Lq:∀ x:Str,x≠"__name__" →mb x=bootBuiltins x) (hlim:s₁.heap.NoLimit) (hg:s₁.gens = #[])
  (ha:s₁.heap.get? a=some { cls:=.type "list",data:=.seq vs.toArray }) (hi:IntsAre vs ns) (hl:ns.length≤sizeLine) (hr:fN k callerA)
  (F:∀ base:Heap,K.In base→base.Ns mainGlobals mg→iB P w K mg base CX k fa fd [x] sp) (hbind:∀ (s:Shared) (u:Value),BindsTo s fd ⟨[u],[]⟩ [(x,u)])
  (kc:∀ H:Hp,qC H→dJ K H a (ns.map V.int)→sp [.ref a] H (fun v _=>v=.bl true) fun _ _ _=>False)
  (Ab:∀ H e s',CX [] H s₁ (fun _ _ _=>False) e s'→False) :
  codeAny (model P w) callerA (.call (.ref fa) ⟨[.ref a],[]⟩) (fun r s'=>r=.ok (.ret (.bool true))∧OldK s₁.heap s'.heap∧s'.os=s₁.os∧AllBare s'.gens) s₁:=by
 have rv:=rG hi
 have W9:=hi.length
 have core:∀ H:Hp,qC H→dJ K H a (ns.map V.int)→ek P w H s₁.heap→(∀ b,H b≠none→b=a)→(H a≠none→K.lookup a=none)→
   codeAny (model P w) callerA (.call (.ref fa) ⟨[.ref a],[]⟩) (fun r s'=>r=.ok (.ret (.bool true))∧OldK s₁.heap s'.heap∧s'.os=s₁.os∧AllBare s'.gens) s₁:=by
  intro H hO hS hok hA hK
  have wm:∀ {b:Addr} {o:Obj},s₁.heap.get? b=some o→H b=none→(kK s₁.heap H).get? b=some o:=fun e n=>Cj e n
  have zV:∀ {b:Addr} {o:Obj} {es:Array DictEntry} {ep:Nat},s₁.heap.get? b=some o→o.data=.dict es ep→H b=none:=fun {b o es ep} e d=>by
   cases q:H b with
   | none=>rfl
   | some u=>
    have e':b=a:=hA b (by rw [q];simp)
    subst e'
    rw [ha] at e;cases e
    have d':Data.seq vs.toArray _=Data.dict es ep:=d
    cases d'
  have Fc:∀ {b:Addr} {m:Str→Option Value},s₁.heap.Ns b m→(kK s₁.heap H).Ns b m:=fun {b m} ⟨o,es,ep,e,d,r⟩=>⟨o,es,ep,wm e (zV e d),d,r⟩
  have Ur:K.In (kK s₁.heap H):=fun b o e=>wm (KX b o e) (by
   cases q:H b with
   | none=>rfl
   | some u=>
    have e':b=a:=hA b (by rw [q];simp)
    subst e'
    rw [hK (by rw [q];simp)] at e;cases e)
  have hM:Mod K mg (kK s₁.heap H):=⟨Ur,Fc hns,⟨mb,Fc hb,Lq⟩,let ⟨mc,h1,h2⟩:=hlim;⟨mc,Fc h1,h2⟩⟩
  have e0:x8 P w K mg (kK s₁.heap H) callerA [] s₁ H:=⟨rfl,hM,fun b o e=>HJ e,Nat.le_of_eq (zH _ _),trivial,fun b hb=>absurd (show b∈([]:List Addr) from hb) (by simp),hok,.of_eq hg⟩
  refine codeAny_mono ((F _ Ur (Fc hns)).run callerA [] s₁ H ⟨[.ref a],[]⟩ [.ref a] [.ref a] _ _ hr e0 (hbind s₁ (.ref a)) (.cons rfl .nil) (kc H hO hS)) fun r s' h=>?_
  cases r with
  | error e=>exact (Ab H e s' h).elim
  | ok fl=>
   cases fl with
   | next=>exact False.elim h
   | brk=>exact False.elim h
   | cont=>exact False.elim h
   | ret u=>
    obtain ⟨v,H',os,bare,un,Xa,r',q⟩:=h
    have q':v=.bl true:=q
    subst q'
    obtain rfl:u=Value.bool true:=r'
    refine ⟨rfl,OldK.of_keep fun b o e=>?_,os,bare⟩
    cases q:H b with
    | none=>exact un.keep b o e q (by intro z;exact absurd (show b∈([]:List Addr) from z) (by simp)) (by simp)
    | some u=>
     rcases hO b with z | ⟨ob,xs,z⟩
     ·rw [q] at z;cases z
     ·have z2:=un.kJ b ob _ z
      obtain ⟨e1,_⟩:=hok b _ z
      obtain ⟨e2,_⟩:=Xa b _ z2
      rw [e] at e1;cases e1
      exact e2
 cases hk:K.lookup a with
 | some o=>
  have e:=KX a o hk
  rw [ha] at e
  cases e
  refine core (fun _=>none) (fun _=>.inl rfl) (.inr ⟨_,vs.toArray,_,hk,rfl,rfl,rfl,by rw [List.size_toArray,W9];exact hl,by simpa using rv⟩) (fun b u z=>by have z':(none:Option HO)=some u:=z;cases z') (fun b z=>absurd rfl z) fun z=>absurd rfl z
 | none=>
  refine core (fun b=>if b=a then some (.bU { cls:=.type "list",data:=.seq vs.toArray } (.lst (ns.map V.int))) else none) (fun b=>?_) (.inl (.inr ⟨{ cls:=.type "list",data:=.seq vs.toArray },if_pos rfl⟩)) (fun b u z=>?_) (fun b z=>?_) fun _=>hk
  ·by_cases hb:b=a
   ·exact .inr ⟨_,_,if_pos hb⟩
   ·exact .inl (if_neg hb)
  ·by_cases hb:b=a
   ·have z':=(if_pos hb).symm.trans z
    cases z'
    subst hb
    exact ⟨ha,by rw [List.length_map];exact hl,vs,_,rv,ha⟩
   ·have z':=(if_neg hb).symm.trans z
    cases z'
  ·by_cases hb:b=a
   ·exact hb
   ·exact absurd (if_neg hb) z
end L2
namespace L2
open PySem PySem.Spec PyProof.Rows
theorem Ik {l:PySem.W.OpenLaw}{n k:Nat}{q:Program}{loose:List Str}{XP:(Str→Option Value)→Heap→Prop}{YP:World→Heap→Prop}{d:DefRec}{K:Params→PySem.W.Frag}{CX:World→lM}{sp:World→Sp}{x:Str}
  (hn:l.most=some n) (hn2:n≤sizeLine) (hdf:d.params.defaults=[]) (hr:fN k callerA)
  (hY:∀ (w:World) (h:Heap),YP w h→(K w.params).In h)
  (F:∀ (w:World) (mg:Str→Option Value) (fa:Addr) (h:Heap),(K w.params).In h→h.Ns mainGlobals mg→mg d.name=some (.ref fa)→
   ∃ fd:FuncData,(∀ (s:Shared) (u:Value),BindsTo s fd ⟨[u],[]⟩ [(x,u)])∧
    ∀ base:Heap,(K w.params).In base→base.Ns mainGlobals mg→iB l.prog w (K w.params) mg base (CX w) k fa fd [x] (sp w))
  (kc:∀ (w:World) (H:Hp) (a:Addr) (ns:List Int),ns.length≤n→qC H→dJ (K w.params) H a (ns.map V.int)→sp w [.ref a] H (fun v _=>v=.bl true) fun _ _ _=>False)
  (Ab:∀ (w:World) (H:Hp) (s:Shared) (e:Value) (s':Shared),CX w [] H s (fun _ _ _=>False) e s'→False) :
  PySem.W.WalkO q loose XP YP l.row.toRowW d [] (fun f vs=>PySem.call f vs):=by
 refine Uq.vL hn hdf fun w s₀ s₁ mg mb fa o pm cd doc a vs ns G Y ho hd hcd hmg hobj hints hlen hg=>?_
 have KX:=hY w _ Y
 obtain ⟨fd,hb,hF⟩:=F w mg fa _ KX G.T.g hmg
 exact CB KX G.T.g G.T.b G.T.builtins G.T.nolimit hg hobj hints (Nat.le_trans hlen hn2) hr hF hb (fun H hO hS=>kc w H a ns hlen hO hS) fun H e s'=>Ab w H s₁ e s'
theorem CC {l:PySem.W.OpenLaw}{n k:Nat}{q:Program}{loose:List Str}{XP:(Str→Option Value)→Heap→Prop}{YP:World→Heap→Prop}{d:DefRec}{K:Params→PySem.W.Frag}{CX:lM}{sp:PySem.W.Frag→Sp}{x:Str}
  (hn:l.most=some n) (hn2:n≤sizeLine) (hdf:d.params.defaults=[]) (hr:fN k callerA)
  (hY:∀ (w:World) (h:Heap),YP w h→(K w.params).In h)
  (F:∀ (w:World) (mg:Str→Option Value) (fa:Addr) (h:Heap),(K w.params).In h→h.Ns mainGlobals mg→mg d.name=some (.ref fa)→
   ∃ fd:FuncData,(∀ (s:Shared) (u:Value),BindsTo s fd ⟨[u],[]⟩ [(x,u)])∧
    ∀ base:Heap,(K w.params).In base→base.Ns mainGlobals mg→iB l.prog w (K w.params) mg base CX k fa fd [x] (sp (K w.params)))
  (kc:∀ (K:PySem.W.Frag) (H:Hp) (a:Addr) (ns:List Int),ns.length≤n→qC H→dJ K H a (ns.map V.int)→sp K [.ref a] H (fun v _=>v=.bl true) fun _ _ _=>False)
  (Ab:∀ (H:Hp) (s:Shared) (e:Value) (s':Shared),CX [] H s (fun _ _ _=>False) e s'→False) :
  PySem.W.WalkO q loose XP YP l.row.toRowW d [] (fun f vs=>PySem.call f vs):=
 Ik (K:=K) (CX:=fun _=>CX) (sp:=fun w=>sp (K w.params)) hn hn2 hdf hr hY F (fun w H a ns h1 h2 h3=>kc (K w.params) H a ns h1 h2 h3) fun _ H s e s'=>Ab H s e s'
end L2
namespace L2
open PySem PySem.Spec PyProof.Rows
noncomputable def aI (s:Stmt):Arguments:=match s with
 | .FunctionDef _ a _ _ _ _ _ _ _ _=>a
 | _=>{ posonlyargs:=[],args:=[],vararg:=none,kwonlyargs:=[],kw_defaults:=[],kwarg:=none,defaults:=[]}
noncomputable def aF (s:Stmt):List Stmt:=match s with
 | .FunctionDef _ _ b _ _ _ _ _ _ _=>b
 | _=>[]
noncomputable def aq (s:Stmt):Scope:=match s with
 | .FunctionDef _ _ _ _ _ _ sc _ _ _=>sc
 | _=>{ kind:=.function,names:=[],isGenerator:=false,isCoroutine:=false }
abbrev mq:lM:=fun _ _ _ _ _ _=>False
abbrev E0:XK:=fun _ _ _=>False
theorem RB {X:Cx}:Passes mq X E0:=fun _ _ _ _ _ _ _ h=>h.elim
structure tR (K:PySem.W.Frag) (x qual:Str) (st:Stmt) (f:Addr) (fd:FuncData):Prop where
 ex:∃ (oc:Value) (od:Option Addr) (kV doc pm:Value) (an:Option Addr) (cdv ct:Value) (osl:Array (Option Value)),
  fd=PySem.W.fnOf x qual (aI st) (aF st) (aq st) .none kV doc pm an cdv ct∧K.lookup f=some ⟨oc,od,.func fd,osl⟩∧PySem.W.codeIn K cdv qual=true
 kp:PySem.W.keepIn K (.ref f)=true
section
variable {P:Program}{w:World}{K:PySem.W.Frag}{mg:Str→Option Value}{base:Heap}
theorem tR.ok {x qual:Str}{st:Stmt}{f:Addr}{fd:FuncData}{N ps:List Str}{k:Nat}{sp:Sp}(F:tR K x qual st f fd) (S:bG N ps (aq st)) (len:∀ vs H Q E,sp vs H Q E→vs.length=ps.length)
  (hbody:∀ (cdv:Value) (A:Around) (outer:List Env) (s:Shared) (H:Hp) (vs:List V) (Q:VK) (E:XK),fN k (A.deeper (envOfC qual (aq st) s.heap.objs.size f cdv))→sp vs H Q E→
   ∃ t,iu (oA mq P w K mg base N qual (aq st) f cdv A outer s H E).ri (aF st) t∧t { nx:=fun _ H'=>Q .bD H',rt:=Q } (start N vs) H):iB P w K mg base mq (k+1) f fd ps sp:=by
 obtain ⟨oc,od,kV,doc,pm,an,cdv,ct,osl,rfl,lk,hcd⟩:=F.ex
 refine Rw lk hcd S len fun A outer s H vs Q E hr kc=>?_
 obtain ⟨t,h,q⟩:=hbody cdv A outer s H vs Q E hr kc
 exact ⟨t,h.ri,q⟩
theorem tR.binds {x qual:Str}{st:Stmt}{f:Addr}{fd:FuncData}{ps:List Str}(F:tR K x qual st f fd)
  (h:∀ (kV doc pm:Value) (an:Option Addr) (cdv ct:Value) (us:List Value),us.length=ps.length→bindArgs (PySem.W.fnOf x qual (aI st) (aF st) (aq st) .none kV doc pm an cdv ct) ⟨us,[]⟩=pure (ps.zip us)):Binds K fd ps []:=by
 obtain ⟨oc,od,kV,doc,pm,an,cdv,ct,osl,rfl,lk,hcd⟩:=F.ex
 exact .all (h kV doc pm an cdv ct)
theorem cj {x qual:Str}{st:Stmt}{f:Addr}{oc:Value}{od an:Option Addr}{osl:Array (Option Value)}{kV doc pm cdv ct:Value}(l:K.lookup f=some ⟨oc,od,.func (PySem.W.fnOf x qual (aI st) (aF st) (aq st) .none kV doc pm an cdv ct),osl⟩)
  (c:PySem.W.codeIn K cdv qual=true) (k:PySem.W.keepIn K (.ref f)=true):tR K x qual st f (PySem.W.fnOf x qual (aI st) (aF st) (aq st) .none kV doc pm an cdv ct):=⟨⟨oc,od,kV,doc,pm,an,cdv,ct,osl,rfl,l,c⟩,k⟩
end
theorem yf {A:Around}{k:Nat}(hr:fN k A):A.units+1<cLine:=Nat.lt_of_le_of_lt (Nat.add_le_add_left (by decide:1≤64) _) hr.units
section
variable {X:Cx}
theorem pv (i:Nat) {x:Str}{pos:Pos}(hN:X.N[i]?=some x:=by rfl) (hv:zI X.env.scope x:=by first | exact Or.inl rfl | exact Or.inr (Or.inl rfl) | exact Or.inr (Or.inr rfl)) (hd:(x==("__debug__" : Str))=false:=by decide)
  (hcd:(x==("__classdict__" : Str))=false:=by decide):PE X (.Name x pos) (KD i):=zM hN hv hd hcd
end
end L2
set_option maxRecDepth 100000
namespace L2
open PySem PySem.Spec PyProof.Rows
section
variable {κ:Type} [DecidableEq κ]
noncomputable def iC (kvs:List (κ×V)) (k:κ):Option V:=(kvs.find? fun kv=>decide (kv.1=k)).map (·.2)
noncomputable def putK (kvs:List (κ×V)) (k:κ) (v:V):List (κ×V):=
 if (kvs.any fun kv=>decide (kv.1=k))=true then kvs.map (fun kv=>if kv.1=k then (kv.1,v) else kv) else kvs++[(k,v)]
theorem oE {p:κ×V}{r:List (κ×V)}{k:κ}(e:p.1=k):iC (p :: r) k=some p.2:=by simp [iC,List.find?_cons,e]
theorem oF {p:κ×V}{r:List (κ×V)}{k:κ}(e:¬ p.1=k):iC (p :: r) k=iC r k:=by simp [iC,List.find?_cons,e]
theorem tS (k:κ):∀ kvs:List (κ×V),(kvs.any fun kv=>decide (kv.1=k))=(iC kvs k).isSome
 | []=>rfl
 | p :: r=>by
  rw [List.any_cons]
  by_cases e:p.1=k
  ·simp only [oE e,decide_eq_true e,Bool.true_or,Option.isSome_some]
  ·rw [oF e,decide_eq_false e,Bool.false_or];exact tS k r
theorem nO (kvs:List (κ×V)) (k:κ) (v:V):(putK kvs k v).length≤kvs.length+1:=by
 unfold putK
 split
 ·rw [List.length_map];omega
 ·rw [List.length_append,List.length_cons,List.length_nil];omega
theorem iT.Ac {o:Option V}{u:Option Value}(r:iT o u):o.isSome=u.isSome:=by
 cases o with
 | none=>cases u with
  | none=>rfl
  | some _=>exact (show False from r).elim
 | some _=>cases u with
  | none=>exact (show False from r).elim
  | some _=>rfl
theorem iT.getD {o:Option V}{u:Option Value}{d:V}{d':Value}(r:iT o u) (rd:RelV d d'):RelV (o.getD d) (u.getD d'):=by
 cases o with
 | none=>cases u with
  | none=>exact rd
  | some _=>exact (show False from r).elim
 | some _=>cases u with
  | none=>exact (show False from r).elim
  | some _=>exact r
theorem KV.val {kvs:List (κ×V)}{vs:List (κ×Value)}(r:KV kvs vs) (k:κ):iT (iC kvs k) (valueAt vs k):=by
 unfold KV at r
 induction r with
 | nil=>exact True.intro
 | @cons p q ps qs h t ih=>
  obtain ⟨h1,h2⟩:=h
  by_cases e:p.1=k
  ·have e':q.1=k:=h1.symm.trans e
   have b:valueAt (q :: qs) k=some q.2:=by simp [valueAt,List.find?_cons,e']
   rw [oE e,b];exact h2
  ·have e':¬ q.1=k:=fun z=>e (h1.trans z)
   have b:valueAt (q :: qs) k=valueAt qs k:=by simp [valueAt,List.find?_cons,e']
   rw [oF e,b];exact ih
theorem KV.any {kvs:List (κ×V)}{vs:List (κ×Value)}(r:KV kvs vs) (k:κ):(kvs.any fun kv=>decide (kv.1=k))=vs.any fun kv=>decide (kv.1=k):=by
 unfold KV at r
 induction r with
 | nil=>rfl
 | cons h t ih=>rw [List.any_cons,List.any_cons,ih,h.1]
theorem KV.repl {kvs:List (κ×V)}{vs:List (κ×Value)}(r:KV kvs vs) (k:κ) {y:V}{u:Value}(ry:RelV y u) :
  KV (kvs.map fun kv=>if kv.1=k then (kv.1,y) else kv) (vs.map fun kv=>if kv.1=k then (kv.1,u) else kv):=by
 unfold KV at r ⊢
 induction r with
 | nil=>exact .nil
 | @cons p q ps qs h t ih=>
  rw [List.map_cons,List.map_cons]
  refine .cons ?_ ih
  obtain ⟨h1,h2⟩:=h
  by_cases e:p.1=k
  ·rw [if_pos e,if_pos (h1.symm.trans e)];exact ⟨h1,ry⟩
  ·rw [if_neg e,if_neg (fun z=>e (h1.trans z))];exact ⟨h1,h2⟩
theorem KV.put {kvs:List (κ×V)}{vs:List (κ×Value)}(r:KV kvs vs) (k:κ) {y:V}{u:Value}(ry:RelV y u):KV (putK kvs k y) (stored vs k u):=by
 unfold putK stored
 rw [r.any k]
 by_cases e:(vs.any fun kv=>decide (kv.1=k))=true
 ·rw [if_pos e,if_pos e];exact r.repl k ry
 ·rw [if_neg e,if_neg e];exact Paired.snoc r ⟨rfl,ry⟩
theorem KV.length {kvs:List (κ×V)}{vs:List (κ×Value)}(r:KV kvs vs):kvs.length=vs.length:=Paired.length r
end
theorem sF {P:Program}{w:World}{k:Key}{u:Value}(r:RelV (kV k) u):(cE P w).is k u=true:=by
 cases k with
 | inl i=>obtain ⟨t,e⟩:=(show ∃ t,u=Value.int i t from r);subst e;exact vJ P w i t
 | inr x=>obtain ⟨t,e⟩:=(show ∃ t,u=Value.str x t from r);subst e;exact vK P w x t
theorem rH {P:Program}{w:World}:∀ {ks:List Key}{us:List Value},Vals (ks.map kV) us→ItemsAre (cE P w) ks us
 | [],_,r=>by rw [List.map_nil] at r;cases r;exact .nil
 | k :: ks,_,r=>by
  rw [List.map_cons] at r
  cases r with
  | cons h t=>exact .cons (sF h) (rH t)
abbrev KT (H:Hp):List (List Key×V)→List (List Key×Addr×Value)→Prop:=Paired fun p q=>p.1=q.1∧H q.2.1=some (.tup (p.1.map kV))∧RelV p.2 q.2.2
theorem KT.val {H:Hp}{kvs:List (List Key×V)}{xs:List (List Key×Addr×Value)}(r:KT H kvs xs) (k:List Key):iT (iC kvs k) ((atKey xs k).map (·.2)):=by
 induction r with
 | nil=>exact True.intro
 | @cons p q ps qs h t ih=>
  obtain ⟨h1,_,h2⟩:=h
  by_cases e:p.1=k
  ·have e':q.1=k:=h1.symm.trans e
   have b:atKey (q :: qs) k=some q.2:=by simp [atKey,List.find?_cons,e']
   rw [oE e,b];exact h2
  ·have e':¬ q.1=k:=fun z=>e (h1.trans z)
   have b:atKey (q :: qs) k=atKey qs k:=by simp [atKey,List.find?_cons,e']
   rw [oF e,b];exact ih
theorem KT.repl {H:Hp}{kvs:List (List Key×V)}{xs:List (List Key×Addr×Value)}(r:KT H kvs xs) (k:List Key) {y:V}{u:Value}(ry:RelV y u) :
  KT H (kvs.map fun kv=>if kv.1=k then (kv.1,y) else kv) (xs.map (putAt k u)):=by
 induction r with
 | nil=>exact .nil
 | @cons p q ps qs h t ih=>
  rw [List.map_cons,List.map_cons]
  refine .cons ?_ ih
  obtain ⟨h1,h2,h3⟩:=h
  unfold putAt
  by_cases e:p.1=k
  ·rw [if_pos e,if_pos (h1.symm.trans e)];exact ⟨h1,h2,ry⟩
  ·rw [if_neg e,if_neg (fun z=>e (h1.trans z))];exact ⟨h1,h2,h3⟩
theorem KT.put {H:Hp}{kvs:List (List Key×V)}{xs:List (List Key×Addr×Value)}(r:KT H kvs xs) (k:List Key) {b:Addr}{y:V}{u:Value}(hb:H b=some (.tup (k.map kV))) (ry:RelV y u) :
  KT H (putK kvs k y) (storedH xs k b u):=by
 have e:(kvs.any fun kv=>decide (kv.1=k))=(atKey xs k).isSome:=by
  rw [tS,(r.val k).Ac,Option.isSome_map]
 unfold putK storedH
 rw [e]
 by_cases q:(atKey xs k).isSome=true
 ·rw [if_pos q,if_pos q];exact r.repl k ry
 ·rw [if_neg q,if_neg q];exact Paired.snoc r ⟨rfl,hb,ry⟩
theorem KT.keeps {H H':Hp}{kvs:List (List Key×V)}{xs:List (List Key×Addr×Value)}(r:KT H kvs xs) (ht:∀ b ys,H b=some (.tup ys)→H' b=some (.tup ys)):KT H' kvs xs:=
 Paired.Ci r fun _ _ z=>⟨z.1,ht _ _ z.2.1,z.2.2⟩
section
variable {P:Program}{w:World}{H:Hp}{h:Heap}{a:Addr}
theorem Fd {u:HO}(ok:ek P w H h) (e:Rd H a u):dg P w H h a u:=e.ok ok
theorem o8 {kvs:List (Key×V)}(ok:ek P w H h) (e:Rd H a (.dK kvs)):kvs.length≤sizeLine∧(a==sysModules)=false∧∃ vs,KV kvs vs∧h.DictOf (cE P w) a vs:=
 show dg P w H h a (.dK kvs) from Fd ok e
theorem Fe {kvs:List (Key×V)}(ok:ek P w H h) (e:H a=some (.dK kvs)):kvs.length≤sizeLine∧(a==sysModules)=false∧∃ vs,KV kvs vs∧h.DictOf (cE P w) a vs:=o8 ok (.inl e)
theorem o9 {ks:List Key}(ok:ek P w H h) (e:H a=some (.tup (ks.map kV))):(tupleKind (cE P w)).is h ks a:=by
 obtain ⟨_,its,r,o,h1,h2,n,h3⟩:=(show dg P w H h a (.tup (ks.map kV)) from ok a _ e)
 exact ⟨o,its.toArray,n,h1,h2,h3,by simpa using rH r⟩
theorem pq {kvs:List (List Key×V)}(ok:ek P w H h) (e:Rd H a (.dT kvs)):kvs.length≤sizeLine∧(a==sysModules)=false∧
  ∃ xs,KT H kvs xs∧h.DictOfH (tupleKind (cE P w)) a xs:=by
 obtain ⟨z,y,xs,r,o,es,ep,h1,h2,h3,h4,h5⟩:=(show dg P w H h a (.dT kvs) from Fd ok e)
 refine ⟨z,y,xs,r,o,es,ep,h1,h2,h3,h4,fun x hx=>?_,h5⟩
 have all:∀ {l:List (List Key×V)} {m:List (List Key×Addr×Value)},KT H l m→∀ x∈m,(tupleKind (cE P w)).is h x.1 x.2.1:=by
  intro l m q
  induction q with
  | nil=>intro x hx;exact nomatch hx
  | @cons p q ps qs hq t ih=>
   intro x hx
   rcases List.mem_cons.mp hx with e | hx
   ·subst e
    exact o9 ok (by rw [←hq.1];exact hq.2.1)
   ·exact ih x hx
 exact all r x hx
theorem RC {kvs:List (List Key×V)}(ok:ek P w H h) (e:H a=some (.dT kvs)):kvs.length≤sizeLine∧(a==sysModules)=false∧
  ∃ xs,KT H kvs xs∧h.DictOfH (tupleKind (cE P w)) a xs:=pq ok (.inl e)
end
noncomputable def kN (H:Hp) (a:Addr) (y:V) (r:Option V):Prop:=
 (∃ kvs k,Rd H a (.dK kvs)∧y=kV k∧r=iC kvs k)∨∃ kvs k b,Rd H a (.dT kvs)∧y=.ref b∧H b=some (.tup (k.map kV))∧r=iC kvs k
noncomputable def tT (H:Hp) (a:Addr) (y v:V) (H':Hp):Prop:=
 (∃ kvs k,H a=some (.dK kvs)∧y=kV k∧kvs.length<sizeLine∧H'=upd H a (.dK (putK kvs k v)))∨
 ∃ kvs k b,H a=some (.dT kvs)∧y=.ref b∧H b=some (.tup (k.map kV))∧kvs.length<sizeLine∧H'=upd H a (.dT (putK kvs k v))
theorem kN.k {H:Hp}{a:Addr}{kvs:List (Key×V)}{k:Key}(e:H a=some (.dK kvs)):kN H a (kV k) (iC kvs k):=.inl ⟨kvs,k,.inl e,rfl,rfl⟩
theorem tT.k {H:Hp}{a:Addr}{kvs:List (Key×V)}{k:Key}{v:V}(e:H a=some (.dK kvs)) (hl:kvs.length<sizeLine):tT H a (kV k) v (upd H a (.dK (putK kvs k v))):=.inl ⟨kvs,k,e,rfl,hl,rfl⟩
section
variable {X:Cx}{pins:List (Addr×Obj)}{σ:St}{H:Hp}{s:Shared}{a:Addr}{y v:V}{u r:Value}{o:Option V}{A:Around}{E:Value→Shared→Prop}
theorem Inv.big (I:Inv X pins σ H s):sysModules<s.heap.objs.size:=by
 have h:mainGlobals<s.heap.objs.size:=(I.mod.glob.keeps I.bk).lt
 exact Nat.lt_trans (by decide) h
theorem Ad {Q:Value→Shared→Prop}(hu:A.units+1<cLine) (I:Inv X pins σ H s) (g:kN H a y (some v)) (ry:RelV y u) (h:∀ w' s',Inv X pins σ H s'→RelV v w'→Q w' s') :
  wpAny (model X.prog X.w) A (getItem (.ref a) u) Q E s:=by
 rcases g with ⟨kvs,k,e,ey,l⟩ | ⟨kvs,k,b,e,ey,eb,l⟩
 ·subst ey
  obtain ⟨z,hd,vs,rel,dd⟩:=o8 I.hok e
  obtain ⟨w',hw,rw'⟩:=iT.some_of (v:=v) (o:=valueAt vs k) (by rw [l];exact rel.val k)
  exact wpAny_getItem_of (sF ry) dd.mapOf hw (h w' _ (I.tok _) rw')
 ·subst ey
  cases (show u=Value.ref b from ry)
  obtain ⟨z,hd,xs,rel,dd⟩:=pq I.hok e
  obtain ⟨w',hw,rw'⟩:=iT.some_of (v:=v) (o:=(atKey xs k).map (·.2)) (by rw [l];exact rel.val k)
  obtain ⟨p,hp,hp2⟩:=Option.map_eq_some_iff.mp hw
  refine wpAny_getItem_heap (tupleKind_room_in1 hu) (o9 I.hok eb) dd hp ?_
  rw [hp2]
  exact h w' _ (I.tok _) rw'
theorem wo {h':Heap}{t':Nat}{ob:HO}(I:Inv X pins σ H s) (mu:zG (H a)) (hs:Heap.SameBut a s.heap h') (he:∃ q,h'.get? a=some q) (new:dg X.prog X.w (upd H a ob) h' a ob) :
  Inv X pins σ (upd H a ob) { s with heap:=h',toks:=t' }:=
 I.write (x:=a) (e:=a) mu (.inl rfl) (fun b q hb z=>(hs.2 b hb).trans z) he new
theorem Lr {P:Program}{w:World}{H':Hp}{h':Heap}{kvs:List (Key×V)}{vs:List (Key×Value)}(z:kvs.length≤sizeLine) (hd:(a==sysModules)=false) (rel:KV kvs vs) (dd:h'.DictOf (cE P w) a vs) :
  dg P w H' h' a (.dK kvs):=⟨z,hd,vs,rel,dd⟩
theorem Ae {H':Hp}{Q:Unit→Shared→Prop}(hu:A.units+1<cLine) (I:Inv X pins σ H s) (g:tT H a y v H') (ry:RelV y u) (rv:RelV v r) (h:∀ s',Inv X pins σ H' s'→Q () s') :
  wpAny (model X.prog X.w) A (setItem (.ref a) u r) Q E s:=by
 rcases g with ⟨kvs,k,e,ey,l,eH⟩ | ⟨kvs,k,b,e,ey,eb,l,eH⟩
 ·subst ey eH
  obtain ⟨z,hd,vs,rel,dd⟩:=Fe I.hok e
  have hz:vs.length≤sizeLine:=by rw [←rel.length];exact z
  have hl:(putK kvs k v).length≤sizeLine:=by have:=nO kvs k v;omega
  refine wpAny_setItem_pairs (hsz:=hz) (sF ry) dd fun h' Ff hs=>h _ ?_
  have he:∃ q,h'.get? a=some q:=let ⟨q,_,_,hq,_⟩:=Ff;⟨q,hq⟩
  exact wo I (by rw [e];exact True.intro) hs he (Lr hl hd (rel.put k rv) Ff)
 ·subst ey eH
  cases (show u=Value.ref b from ry)
  obtain ⟨z,hd,xs,rel,dd⟩:=RC I.hok e
  have hz:xs.length≤sizeLine:=by rw [←Paired.length rel];exact z
  have hl:(putK kvs k v).length≤sizeLine:=by have:=nO kvs k v;omega
  refine wpAny_setItem_heap (hsz:=hz) (tupleKind_room_in1 hu) (o9 I.hok eb) dd fun h' Ff hs=>h _ ?_
  obtain ⟨q,es,ep,hq,h2,h3,h4,_,h5⟩:=Ff
  refine wo I (by rw [e];exact True.intro) hs ⟨q,hq⟩ ⟨hl,hd,_,(rel.put k eb rv).keeps fun c ys ec=>?_,q,es,ep,hq,h2,h3,h4,h5⟩
  rw [aU (gS ec e (fun z=>nomatch z))]
  exact ec
end
section
variable {X:Cx}{pins:List (Addr×Obj)}{σ:St}{H:Hp}{s:Shared}{a:Addr}{kvs:List (Key×V)}{k:Key}{u:Value}{A:Around}{E:Value→Shared→Prop}
end
noncomputable def CD (i:Expr):Prop:=∀ ov iv,subscripted i false ov iv=operate [ov,iv] (getItem ov iv)
theorem Il {prog:Program}{w:World}{A:Around}{E:Value→Shared→Prop}{s:Shared}{env:Env}{value slice:Expr}{pos:Pos}{T id:String}{Q:Value→Shared→Prop}
  (hl:typeLookup (.type T) "__getitem__" = pure (some (.builtin id))) (hs:CD slice)
  (h:wpAny (model prog w) A (eval value env) (fun o s₁=>wpAny (model prog w) A (eval slice env) (fun i s₂=>s₂.TypeIs o T∧wpAny (model prog w) A (getItem o i) Q E s₂) E s₁) E s) :
  wpAny (model prog w) A (eval (.Subscript value slice pos) env) Q E s:=by
 refine Subscript_ (wpAny_mono h (fun o s₁ h₁=>wpAny_mono h₁ (fun i s₂ h₂=>?_) fun _ _ x=>x) fun _ _ x=>x)
 obtain ⟨hT,h₂⟩:=h₂
 unfold subscriptTail
 refine wpAny_bind ?_
 rw [getitemInPython_of_ne hT.not_modules]
 refine wpAny_bind (wpAny_specialOf hT hl ?_)
 have fin:wpAny (model prog w) A (subscripted slice false o i) (fun r s₃=>wpAny (model prog w) A (letTemporaryGo value o r >>= fun _=>pure r) Q E s₃) E s₂:=by
  rw [hs o i]
  exact wpAny_operating (wpAny_mono h₂ (fun r s₃ h₃=>wpAny_bind (wpAny_letTemporaryGo (wpAny_pure h₃))) fun _ _ x=>x)
 first
  | exact wpAny_pure (wpAny_bind fin)
  | exact wpAny_bind (wpAny_pure (wpAny_bind fin))
  | exact wpAny_bind fin
theorem vM {X:Cx}{pins:List (Addr×Obj)}{σ:St}{H:Hp}{s:Shared}{a:Addr}{y:V}{o:Option V}(I:Inv X pins σ H s) (g:kN H a y o):s.TypeIs (.ref a) "dict" :=by
 rcases g with ⟨kvs,k,e,_,_⟩ | ⟨kvs,k,b,e,_,_,_⟩
 ·obtain ⟨_,_,vs,_,dd⟩:=o8 I.hok e
  exact dd.typeIs
 ·obtain ⟨_,_,xs,_,dd⟩:=pq I.hok e
  exact dd.typeIs
noncomputable def RD (td ty:TE):TE:=fun σ H Q=>td σ H fun x H1=>ty σ H1 fun y H2=>∃ a v,x=.ref a∧kN H2 a y (some v)∧Q v H2
noncomputable def RE (td ty tv:TE):TS:=fun D σ H=>tv σ H fun v H1=>td σ H1 fun x H2=>ty σ H2 fun y H3=>∃ a H4,x=.ref a∧tT H3 a y v H4∧D.nx σ H4
section
variable {X:Cx}{o i e value:Expr}{pos pos' tpos:Pos}{td ty tv:TE}
theorem Im (hu:X.A.units+1<cLine) (ho:PE X o td) (hi:PE X i ty) (hs:CD i):PE X (.Subscript o i pos) (RD td ty):=by
 intro pins s σ H Q I h
 refine Il PySem.F.slot_dict_getitem.lookup hs (bB (ho pins s σ H _ I h) fun u s1 ⟨x,H1,I1,rx,q1⟩=>bB (hi pins s1 σ H1 _ I1 q1) fun iv s2 ⟨y,H2,I2,ry,a,v,ex,g,q2⟩=>?_)
 subst ex
 obtain rfl:u=Value.ref a:=rx
 exact ⟨vM I2 g,Ad hu I2 g ry fun w' s3 I3 rw'=>⟨v,H2,I3,rw',q2⟩⟩
theorem Io (hu:X.A.units+1<cLine) (ho:PE X o td) (hi:PE X i ty) (hv:PE X value tv) (hs:swapsWith value (some (.Subscript o i pos')) pos.line X.env=pure false) :
  PS X (.Assign [.Subscript o i pos'] value pos) (RE td ty tv):=by
 intro pins s σ H D I h
 refine wpAny_Assign_Subscript (bB (hv pins s σ H _ I h) fun r s1 ⟨v,H1,I1,rv,q1⟩=>bB (ho pins s1 σ H1 _ I1 q1) fun u s2 ⟨x,H2,I2,rx,q2⟩=>bB (hi pins s2 σ H2 _ I2 q2) fun iv s3 ⟨y,H3,I3,ry,a,H4,ex,g,q3⟩=>?_) hs
 subst ex
 obtain rfl:u=Value.ref a:=rx
 exact Ae hu I3 g ry rv fun s4 I4=>⟨σ,H4,I4,q3⟩
end
theorem CF {P:Program}{w:World}{H:Hp}(h:Heap) (hb:sysModules<h.objs.size):dg P w H (h.push { cls:=.type "dict",data:=.dict #[]}) h.objs.size (.dK []):=
 ⟨Nat.zero_le _,beq_eq_false_iff_ne.mpr (Ne.symm (Nat.ne_of_lt hb)),[],.nil,Heap.DictOf.new h⟩
noncomputable def Ls:TE:=fun _ H Q=>∀ p,H p=none→Q (.ref p) (upd H p (.dK []))
section
variable {X:Cx}{pos:Pos}
theorem CG:PE X (.Dict [] [] pos) Ls:=fun pins s σ H Q I h=>
 wpAny_Dict_empty ⟨.ref s.heap.objs.size,_,I.laid (a:=s.heap.objs.size) (o:=.dK []) (t':=s.toks) (fun _ _ q=>Heap.get?_push_of_some _ q) (Nat.le_refl _) (CF s.heap I.big),rfl,h _ (I.hok.fresh (Nat.le_refl _))⟩
end
structure M1 (X:Cx) (o:Expr) (m:Str) (apos:Pos) (e:Expr) (cpos:Pos):Prop where
 base:attributeBase o m X.env (eval o X.env)=eval o X.env
 few:((backTo cpos (starEach [e] X.env)).all (fun x=>!x.1)&&(backToKw cpos (keywordEach [] X.env)).all (fun x=>x.1.isSome)
  &&decide (([e]:List Expr).length+([]:List Keyword).length+(if ([]:List Keyword).isEmpty then 0 else 1)<30))=true
 line:(apos.endLine==cpos.line)=true
 trees:backTo cpos (starEach [e] X.env)=[(false,eval e X.env)]
structure M2 (X:Cx) (o:Expr) (m:Str) (apos:Pos) (e f:Expr) (cpos:Pos):Prop where
 base:attributeBase o m X.env (eval o X.env)=eval o X.env
 few:((backTo cpos (starEach [e,f] X.env)).all (fun x=>!x.1)&&(backToKw cpos (keywordEach [] X.env)).all (fun x=>x.1.isSome)
  &&decide (([e,f]:List Expr).length+([]:List Keyword).length+(if ([]:List Keyword).isEmpty then 0 else 1)<30))=true
 line:(apos.endLine==cpos.line)=true
 trees:backTo cpos (starEach [e,f] X.env)=[(false,eval e X.env),(false,eval f X.env)]
noncomputable def Us (H:Hp) (a:Addr):Prop:=(∃ kvs,Rd H a (.dK kvs))∨∃ kvs,Rd H a (.dT kvs)
theorem Lu {X:Cx}{pins:List (Addr×Obj)}{σ:St}{H:Hp}{s:Shared}{a:Addr}(I:Inv X pins σ H s) (d:Us H a) :
  s.TypeIs (.ref a) "dict" ∧(∀ b,Value.ref a=.ref b→∃ ob,s.heap.get? b=some ob∧ob.dict=none)∧(a==sysModules)=false:=by
 rcases d with ⟨kvs,e⟩ | ⟨kvs,e⟩
 ·obtain ⟨_,hd,vs,_,dd⟩:=o8 I.hok e
  refine ⟨dd.typeIs,fun b q=>?_,hd⟩
  cases q
  obtain ⟨ob,_,_,h1,h2,_⟩:=dd
  exact ⟨ob,h1,h2.2.1⟩
 ·obtain ⟨_,hd,xs,_,dd⟩:=pq I.hok e
  refine ⟨dd.typeIs,fun b q=>?_,hd⟩
  cases q
  obtain ⟨ob,_,_,h1,h2,_⟩:=dd
  exact ⟨ob,h1,h2.2.1⟩
section
variable {X:Cx}{pins:List (Addr×Obj)}{σ:St}{H:Hp}{s:Shared}{a:Addr}{y d:V}{u r:Value}{o:Option V}{A:Around}{E:Value→Shared→Prop}
theorem Lv {Q:Value→Shared→Prop}(hu:A.units+1<cLine) (I:Inv X pins σ H s) (g:kN H a y o) (ry:RelV y u) (rd:RelV d r) (h:∀ w' s',Inv X pins σ H s'→RelV (o.getD d) w'→Q w' s') :
  wpAny (model X.prog X.w) A (call (.builtin "dict.get") [.ref a,u,r]) Q E s:=by
 rcases g with ⟨kvs,k,e,ey,l⟩ | ⟨kvs,k,b,e,ey,eb,l⟩
 ·subst ey
  obtain ⟨z,hd,vs,rel,dd⟩:=o8 I.hok e
  refine call_meetsIn PySem.F.slot_dict_get dd.typeIs PySem.F.entry_dict_get (PySem.F.args_dict_get_3 _ _ _) (meets_dict_get_default (cE X.prog X.w) a (sF ry) hd r) ⟨_,dd.mapOf,h _ _ (I.tok _) ?_⟩
  rw [l]
  exact (rel.val k).getD rd
 ·subst ey
  cases (show u=Value.ref b from ry)
  obtain ⟨z,hd,xs,rel,dd⟩:=pq I.hok e
  refine call_meetsIn PySem.F.slot_dict_get dd.typeIs PySem.F.entry_dict_get (PySem.F.args_dict_get_3 _ _ _) (meetsH_dict_get_default (tupleKind (cE X.prog X.w)) a b hd r) ⟨tupleKind_room_in1 hu,k,xs,o9 I.hok eb,dd,h _ _ (I.tok _) ?_⟩
  rw [l]
  exact (rel.val k).getD rd
end
noncomputable def Lx (td ty tx:TE):TE:=fun σ H Q=>td σ H fun x H1=>∃ a,x=.ref a∧Us H1 a∧ty σ H1 fun y H2=>tx σ H2 fun z H3=>∃ o,kN H3 a y o∧Q (o.getD z) H3
section
variable {X:Cx}{o e f:Expr}{apos cpos:Pos}{td ty tx:TE}
theorem CH (hu:X.A.units+1<cLine) (ho:PE X o td) (he:PE X e ty) (hf:PE X f tx) (m:M2 X o "get" apos e f cpos):PE X (.Call (.Attribute o "get" apos) [e,f] [] cpos) (Lx td ty tx):=by
 intro pins s σ H Q I h
 refine wpAny_Call_method m.base m.few m.line PySem.F.plainAttrs_dict PySem.F.slot_dict_get PySem.F.type_dict_get (bB (ho pins s σ H _ I h) fun u s1 ⟨x,H1,I1,rx,a,ex,d,q1⟩=>?_)
 subst ex
 obtain rfl:u=Value.ref a:=rx
 obtain ⟨t1,t2,_⟩:=Lu I1 d
 refine ⟨t1,t2,?_⟩
 rw [m.trees]
 refine Calls.callWith_builtin rfl (Calls.evalArgs_plain (Calls.spliced_cons (bB (he pins s1 σ H1 _ I1 q1) fun iv s2 ⟨y,H2,I2,ry,q2⟩=>
  Calls.spliced_cons (bB (hf pins s2 σ H2 _ I2 q2) fun fv s3 ⟨z,H3,I3,rz,ov,g,q3⟩=>Calls.spliced_nil ?_))))
 exact Lv hu I3 g ry rz fun w' s4 I4 rw'=>⟨_,H3,I4,rw',q3⟩
end
end L2
namespace Ev
inductive D where
 | bD | bl (b:Bool) | int (i:Int) | str (s:List Nat) | tup (ds:List D) | ref (n:Nat)
inductive O where
 | lst (ds:List D) | bU (ds:List D)
 | dct (kvs:List (Int×List Nat))
abbrev Hh:=List O
abbrev Fr:=List (Option D)
inductive R (α:Type) where
 | ok (a:α) (h:Hh)
 | bad
noncomputable def R.bind {α β:Type}(r:R α) (f:α→Hh→R β):R β:=
 match r with
 | .ok a h=>f a h
 | .bad=>.bad
@[simp] theorem ak {α β:Type} (a:α) (h:Hh) (f:α→Hh→R β):(R.ok a h).bind f=f a h:=rfl
@[simp] theorem CJ {α β:Type} (f:α→Hh→R β):(R.bad:R α).bind f=.bad:=rfl
theorem ah {α β:Type}{r:R α}{f:α→Hh→R β}{b:β}{h:Hh}(e:r.bind f=.ok b h):∃ a h1,r=.ok a h1∧f a h1=.ok b h:=by
 cases r with
 | ok a h1=>exact ⟨a,h1,rfl,e⟩
 | bad=>cases e
noncomputable def R.of {α:Type}(o:Option α) (h:Hh):R α:=match o with
 | some a=>.ok a h
 | none=>.bad
@[simp] theorem cY {α:Type} (a:α) (h:Hh):R.of (some a) h=.ok a h:=rfl
@[simp] theorem of_none {α:Type} (h:Hh):R.of (none:Option α) h=.bad:=rfl
theorem aK {α:Type}{o:Option α}{h h':Hh}{a:α}(e:R.of o h=.ok a h'):o=some a∧h'=h:=by
 cases o with
 | none=>cases e
 | some b=>cases e;exact ⟨rfl,rfl⟩
inductive bZ where
 | add | sub | mul | fdiv | mod
inductive bP where
 | eq | ne | lt | gt
 | isin | gD
inductive TY where
 | int | bool | str | tuple | list
inductive BI where
 | len | sum | min
 | yg
 | jK
inductive ME where
 | join | append | extend | pop
inductive T where
 | one (i:Nat) | many (l:List Nat)
mutual
inductive E where
 | c (d:D) | v (i:Nat) | tup (es:Es) | lst (es:Es)
 | bin (o:bZ) (a b:E) | cmp (o:bP) (a b:E)
 | nt (a:E) | neg (a:E) | an (a b:E) | orr (a b:E) | lO (t a b:E)
 | ix (a b:E) | sl (a:E) (lo hi:Eo)
 | cl (f:Nat) (es:Es) | bi (b:BI) (es:Es) | me (m:ME) (o:E) (es:Es)
 | comp (elt:E) (t:T) (it:It) (cond:Eo)
 | ee (it:It)
 | iV (kvs:List (D×D)) (a:E) | iw (a:E)
 | iW | jL (a k:E) | lP (a k x:E)
inductive Es where
 | nil | cons (e:E) (es:Es)
inductive Eo where
 | no | yes (e:E)
inductive It where
 | seq (e:E) | gy (es:Es)
 | zip (a b:E)
 | enum (a:E) | rev (a:E)
end
mutual
inductive S where
 | set (i:Nat) (e:E) | yh (l:List Nat) (e:E)
 | dput (o i e:E)
 | exp (e:E) | ret (e:E) | iff (t:E) (a b:Ss) | for (t:T) (it:It) (b:Ss) | mw (t:E) (b:Ss)
 | fk
inductive Ss where
 | nil | cons (s:S) (ss:Ss)
end
inductive Fl where
 | nx | bk | ct | ret (d:D)
noncomputable def big:Nat:=16777216
noncomputable def cF (f:D→D→Option Bool):List D→List D→Option Bool
 | [],[]=>some true
 | x :: xs,y :: ys=>do
  let b ←f x y
  let c ←cF f xs ys
  pure (b&&c)
 | _,_=>some false
noncomputable def bu (h:Hh) (n:Nat):Option (List D):=match h[n]? with
 | some (.lst ds)=>some ds
 | some (.bU ds)=>some ds
 | _=>none
noncomputable def b2i (b:Bool):Int:=if b then 1 else 0
noncomputable def jx (h:Hh) (f:D→D→Option Bool) (a b:Nat):Option Bool:=if a=b then (bu h a).map fun _=>true else match h[a]?,h[b]? with
 | some (.lst x),some (.lst y)=>cF f x y
 | some (.bU x),some (.lst y)=>cF f x y
 | some (.lst x),some (.bU y)=>cF f x y
 | _,_=>none
noncomputable def fS (h:Hh):Nat→D→D→Option Bool
 | 0,_,_=>none
 | _+1,.bD,_=>none
 | _+1,.bl _,_=>none
 | _+1,_,.bD=>none
 | _+1,_,.bl _=>none
 | _+1,.int a,.int b=>some (a==b)
 | _+1,.str a,.str b=>some (a==b)
 | n+1,.tup a,.tup b=>cF (fS h n) a b
 | n+1,.ref a,.ref b=>jx h (fS h n) a b
 | _+1,.ref a,_=>(bu h a).map fun _=>false
 | _+1,_,.ref a=>(bu h a).map fun _=>false
 | _+1,_,_=>some false
noncomputable def deep:Nat:=20
noncomputable def truthy (h:Hh):D→Option Bool
 | .bD=>some false
 | .bl b=>some b
 | .int i=>some (i != 0)
 | .str s=>some (!s.isEmpty)
 | .tup ds=>some (!ds.isEmpty)
 | .ref n=>match h[n]? with
  | some (.dct kvs)=>some (!kvs.isEmpty)
  | _=>(bu h n).map fun ds=>!ds.isEmpty
noncomputable def alloc (ds:List D) (h:Hh):R D:=if ds.length≤big then .ok (.ref h.length) (h++[.lst ds]) else .bad
noncomputable def rep {α:Type}(k:Nat) (l:List α):List α:=(List.replicate k l).flatten
noncomputable def cz (i j:Int):Bool:=(decide (-(2 ^ 64)<i)&&decide (i<2 ^ 64)) || (decide (-(2 ^ 64)<j)&&decide (j<2 ^ 64))
noncomputable def bR:bZ→D→D→Hh→R D
 | .add,.int i,.int j,h=>.ok (.int (i+j)) h
 | .add,.str a,.str b,h=>if a.length+b.length≤big then .ok (.str (a++b)) h else .bad
 | .add,.tup a,.tup b,h=>if a.length+b.length≤big then .ok (.tup (a++b)) h else .bad
 | .add,.ref a,.ref b,h=>match h[a]?,h[b]? with
  | some (.lst x),some (.lst y)=>alloc (x++y) h
  | _,_=>.bad
 | .sub,.int i,.int j,h=>.ok (.int (i - j)) h
 | .mul,.int i,.int j,h=>if cz i j then .ok (.int (i*j)) h else .bad
 | .mul,.str a,.int k,h=>if 0≤k∧k≤1000∧a.length≤1000 then .ok (.str (rep k.toNat a)) h else .bad
 | .mul,.tup a,.int k,h=>if 0≤k∧k≤1000∧a.length≤1000 then .ok (.tup (rep k.toNat a)) h else .bad
 | .mul,.ref a,.int k,h=>match h[a]? with
  | some (.lst x)=>if 0≤k∧k≤1000∧x.length≤1000 then alloc (rep k.toNat x) h else .bad
  | _=>.bad
 | .fdiv,.int i,.int j,h=>if 0<j∧j<1073741824 then .ok (.int (i / j)) h else .bad
 | .mod,.int i,.int j,h=>if 0<j then .ok (.int (i % j)) h else .bad
 | _,_,_,_=>.bad
noncomputable def mem (h:Hh) (x:D):List D→Option Bool
 | []=>some false
 | y :: ys=>do
  let b ←fS h deep y x
  let c ←mem h x ys
  pure (b || c)
noncomputable def isin (x y:D) (h:Hh):Option Bool:=match y with
 | .str s=>match x with
  | .str [c]=>some (s.contains c)
  | _=>none
 | .tup ds=>mem h x ds
 | .ref n=>(bu h n).bind fun ds=>mem h x ds
 | _=>none
noncomputable def cop (o:bP) (x y:D) (h:Hh):Option Bool:=match o,x,y with
 | .eq,x,y=>fS h deep x y
 | .ne,x,y=>(fS h deep x y).map (!·)
 | .lt,.int i,.int j=>some (decide (i<j))
 | .gt,.int i,.int j=>some (decide (j<i))
 | .isin,x,y=>isin x y h
 | .gD,x,y=>(isin x y h).map (!·)
 | _,_,_=>none
noncomputable def dM (n:Nat) (i:Int):Option Nat:=if 0≤i then (if i<n then some i.toNat else none) else if -(n:Int)≤i then some (i+n).toNat else none
noncomputable def bL {α:Type}(xs:List α) (i:Int):Option α:=(dM xs.length i).bind fun j=>xs[j]?
noncomputable def fq (x y:D) (h:Hh):Option D:=match x,y with
 | .tup ds,.int i=>bL ds i
 | .str s,.int i=>(bL s i).map fun c=>.str [c]
 | .ref n,.int i=>(bu h n).bind fun ds=>bL ds i
 | _,_=>none
noncomputable def aR (n d:Nat):Option Int→Nat
 | none=>d
 | some v=>if v<0 then (v+n).toNat else min v.toNat n
noncomputable def cut {α:Type}(xs:List α) (lo hi:Option Int):List α:=(xs.drop (aR xs.length 0 lo)).take (aR xs.length xs.length hi - aR xs.length 0 lo)
noncomputable def gT (x:D) (lo hi:Option Int) (h:Hh):R D:=match x with
 | .tup ds=>.ok (.tup (cut ds lo hi)) h
 | .str s=>.ok (.str (cut s lo hi)) h
 | .ref n=>match bu h n with
  | some ds=>alloc (cut ds lo hi) h
  | none=>.bad
 | _=>.bad
noncomputable def boolsOf:List D→Option (List Bool)
 | []=>some []
 | .bl b :: ds=>(boolsOf ds).map fun r=>b :: r
 | _=>none
noncomputable def intsOf:List D→Option (List Int)
 | []=>some []
 | .int i :: ds=>(intsOf ds).map fun r=>i :: r
 | _=>none
noncomputable def strsOf:List D→Option (List (List Nat))
 | []=>some []
 | .str s :: ds=>(strsOf ds).map fun r=>s :: r
 | _=>none
noncomputable def cJ (sep:List Nat):List (List Nat)→List Nat
 | []=>[]
 | [s]=>s
 | s :: t :: r=>s++sep++cJ sep (t :: r)
noncomputable def lexLe:List Nat→List Nat→Bool
 | [],_=>true
 | _ :: _,[]=>false
 | x :: xs,y :: ys=>if x=y then lexLe xs ys else decide (x<y)
noncomputable def Ly (x:List Nat):List (List Nat)→List (List Nat)
 | []=>[x]
 | y :: ys=>if lexLe x y then x :: y :: ys else y :: Ly x ys
noncomputable def d8:List (List Nat)→List (List Nat)
 | []=>[]
 | x :: xs=>Ly x (d8 xs)
noncomputable def eV (kvs:List (Int×List Nat)) (k:Int):Option (List Nat):=(kvs.find? fun p=>decide (p.1=k)).map (·.2)
noncomputable def fC (kvs:List (Int×List Nat)) (k:Int) (s:List Nat):List (Int×List Nat):=if (kvs.any fun p=>decide (p.1=k))=true then kvs.map (fun p=>if p.1=k then (p.1,s) else p) else kvs++[(k,s)]
noncomputable def fT (h:Hh):D→Option (List (Int×List Nat))
 | .ref n=>match h[n]? with
  | some (.dct kvs)=>some kvs
  | _=>none
 | _=>none
noncomputable def tU (x y:D) (h:Hh):Option D:=match fT h x,y with
 | some kvs,.int k=>(eV kvs k).map .str
 | _,_=>none
noncomputable def tV (x y z:D) (h h0:Hh):Option D:=match fT h0 x,fT h x,y with
 | some _,some kvs,.int k=>some (match eV kvs k with | some s=>.str s | none=>z)
 | _,_,_=>none
noncomputable def sG (x y z:D) (h:Hh):Option Hh:=match x,y,z with
 | .ref n,.int k,.str s=>match h[n]? with
  | some (.dct kvs)=>if kvs.length<big then some (h.set n (.dct (fC kvs k s))) else none
  | _=>none
 | _,_,_=>none
noncomputable def insI (x:Int):List Int→List Int
 | []=>[x]
 | y :: ys=>if x≤y then x :: y :: ys else y :: insI x ys
noncomputable def sortI:List Int→List Int
 | []=>[]
 | x :: xs=>insI x (sortI xs)
noncomputable def cX (b:BI) (xs:List D) (h:Hh):R D:=match b,xs with
 | .len,[.str s]=>if s.length≤big then .ok (.int s.length) h else .bad
 | .len,[.tup ds]=>.ok (.int ds.length) h
 | .len,[.ref n]=>R.of ((bu h n).map fun ds=>.int ds.length) h
 | .sum,[.ref n]=>R.of (((bu h n).bind intsOf).map fun is=>.int is.sum) h
 | .min,[.int i,.int j]=>.ok (.int (if j<i then j else i)) h
 | .yg,[.ref n]=>match (bu h n).bind intsOf with
  | some ss=>if ss.length<64 then alloc ((sortI ss).map .int) h else .bad
  | none=>.bad
 | .jK,[x]=>match fT h x with
  | some kvs=>if kvs.length<64 then alloc ((sortI (kvs.map (·.1))).map .int) h else .bad
  | none=>.bad
 | _,_=>.bad
noncomputable def eW (m:ME) (o:D) (xs:List D) (h:Hh):R D:=match m,o,xs with
 | .join,.str sep,[.ref n]=>match (bu h n).bind strsOf with
  | some ss=>if (ss.map (·.length)).sum+ss.length*sep.length≤big then .ok (.str (cJ sep ss)) h else .bad
  | none=>.bad
 | .append,.ref n,[x]=>match h[n]? with
  | some (.lst ds)=>if ds.length<big then .ok .bD (h.set n (.lst (ds++[x]))) else .bad
  | _=>.bad
 | .extend,.ref n,[.ref m]=>match h[n]?,h[m]? with
  | some (.lst ds),some (.lst es)=>if ds.length+es.length≤big then .ok .bD (h.set n (.lst (ds++es))) else .bad
  | _,_=>.bad
 | .pop,.ref n,[]=>match h[n]? with
  | some (.lst ds)=>match ds[ds.length - 1]? with
   | some x=>.ok x (h.set n (.lst ds.dropLast))
   | none=>.bad
  | _=>.bad
 | _,_,_=>.bad
noncomputable def wu (m:ME) (x:D) (h:Hh):Bool:=match m,x with
 | .join,.str _=>true
 | .join,_=>false
 | _,.ref n=>(bu h n).isSome
 | _,_=>false
noncomputable def eT (x:D):List (D×D)→Option D
 | []=>none
 | (k,v) :: r=>match fS [] 1 k x with
  | some true=>some v
  | some false=>eT x r
  | none=>none
abbrev Src:=List D×List (Nat×List D)
noncomputable def er (h:Hh):D→Option Src
 | .tup ds=>some (ds,[])
 | .str s=>some (s.map fun c=>.str [c],[])
 | .ref n=>(bu h n).map fun ds=>(ds,[(n,ds)])
 | _=>none
noncomputable def range (lo:Int) (n:Nat):List D:=(List.range n).map fun (i:Nat)=>.int (lo+i)
noncomputable def dO:List D→Option Src
 | [.int j]=>if -(2 ^ 62)≤j∧j<2 ^ 62 then some (range 0 j.toNat,[]) else none
 | [.int i,.int j]=>if -(2 ^ 62)≤i∧i<2 ^ 62∧-(2 ^ 62)≤j∧j<2 ^ 62 then some (range i (j - i).toNat,[]) else none
 | _=>none
noncomputable def dP (a b:List D):List D:=List.zipWith (fun x y=>.tup [x,y]) a b
noncomputable def gE:Int→List D→List D
 | _,[]=>[]
 | k,x :: xs=>.tup [.int k,x] :: gE (k+1) xs
noncomputable def yi (a b:List D):Bool:=@decide (a=b) (Classical.propDecidable _)
theorem rJ (a b:List D):yi a b=true↔a=b:=@decide_eq_true_iff _ (Classical.propDecidable _)
@[simp] theorem yj (a:List D):yi a a=true:=(rJ a a).mpr rfl
noncomputable def stays (h:Hh):List (Nat×List D)→Bool
 | []=>true
 | (n,ds) :: r=>(match bu h n with | some es=>yi es ds | none=>false)&&stays h r
noncomputable def cI:List Nat→List D→Fr→Option Fr
 | [],[],fr=>some fr
 | i :: is,d :: ds,fr=>cI is ds (fr.set i (some d))
 | _,_,_=>none
noncomputable def bH:T→D→Fr→Option Fr
 | .one i,d,fr=>some (fr.set i (some d))
 | .many l,.tup ds,fr=>cI l ds fr
 | _,_,_=>none
noncomputable def slots:T→List Nat
 | .one i=>[i]
 | .many l=>l
noncomputable def undef (t:T) (fr:Fr):Bool:=(slots t).all fun i=>(fr[i]?.join).isNone
noncomputable def CK:D→Option (List D)
 | .tup ds=>some ds
 | _=>none
noncomputable def qD:D→Hh→R D
 | .tup ds,h=>.ok (.tup ds) h
 | .ref n,h=>match bu h n with
  | some ds=>if ds.length≤big then .ok (.tup ds) h else .bad
  | none=>.bad
 | _,_=>.bad
noncomputable def oG (h:Hh):D→Option Src
 | .ref n=>(bu h n).map fun ds=>(ds,[(n,ds)])
 | _=>none
noncomputable def cG (f:D→Hh→R (Option D)) (ck:List (Nat×List D)):List D→Hh→R (List D)
 | [],h=>if stays h ck then .ok [] h else .bad
 | d :: ds,h=>if stays h ck then (f d h).bind fun o h1=>(cG f ck ds h1).bind fun r h2=>.ok (o.toList++r) h2 else .bad
noncomputable def forL (f:D→Fr→Hh→R (Fl×Fr)) (ck:List (Nat×List D)):List D→Fr→Hh→R (Fl×Fr)
 | [],fr,h=>if stays h ck then .ok (.nx,fr) h else .bad
 | d :: ds,fr,h=>if stays h ck then (f d fr h).bind fun p h1=>match p.1 with
   | .nx=>forL f ck ds p.2 h1
   | .ct=>forL f ck ds p.2 h1
   | .bk=>.ok (.nx,p.2) h1
   | .ret x=>.ok (.ret x,p.2) h1
  else .bad
noncomputable def dW (t:Fr→Hh→R Bool) (f:Fr→Hh→R (Fl×Fr)):Nat→Fr→Hh→R (Fl×Fr)
 | 0,_,_=>.bad
 | n+1,fr,h=>(t fr h).bind fun b h1=>if b then (f fr h1).bind fun p h2=>match p.1 with
   | .nx=>dW t f n p.2 h2
   | .ct=>dW t f n p.2 h2
   | .bk=>.ok (.nx,p.2) h2
   | .ret x=>.ok (.ret x,p.2) h2
  else .ok (.nx,fr) h1
abbrev aP:=Nat→List D→Hh→R D
noncomputable def intOf:D→Option Int
 | .int i=>some i
 | _=>none
mutual
noncomputable def ev (P:aP):E→Fr→Hh→R D
 | .c d,_,h=>.ok d h
 | .v i,fr,h=>R.of (fr[i]?.join) h
 | .tup es,fr,h=>(cg P es fr h).bind fun ds h1=>if ds.length≤big then .ok (.tup ds) h1 else .bad
 | .lst es,fr,h=>(cg P es fr h).bind fun ds h1=>alloc ds h1
 | .bin o a b,fr,h=>(ev P a fr h).bind fun x h1=>(ev P b fr h1).bind fun y h2=>bR o x y h2
 | .cmp o a b,fr,h=>(ev P a fr h).bind fun x h1=>(ev P b fr h1).bind fun y h2=>R.of ((cop o x y h2).map .bl) h2
 | .nt a,fr,h=>(ev P a fr h).bind fun x h1=>match x with
   | .bl b=>.ok (.bl (!b)) h1
   | _=>.bad
 | .neg a,fr,h=>(ev P a fr h).bind fun x h1=>match x with
   | .int i=>.ok (.int (-i)) h1
   | _=>.bad
 | .an a b,fr,h=>(ev P a fr h).bind fun x h1=>match x with
   | .bl true=>ev P b fr h1
   | .bl false=>.ok (.bl false) h1
   | _=>.bad
 | .orr a b,fr,h=>(ev P a fr h).bind fun x h1=>match x with
   | .bl true=>.ok (.bl true) h1
   | .bl false=>ev P b fr h1
   | _=>.bad
 | .lO t a b,fr,h=>(aL P t fr h).bind fun k h1=>if k then ev P a fr h1 else ev P b fr h1
 | .ix a b,fr,h=>(ev P a fr h).bind fun x h1=>(ev P b fr h1).bind fun y h2=>R.of (fq x y h2) h2
 | .sl a lo hi,fr,h=>(ev P a fr h).bind fun x h1=>(fU P lo fr h1).bind fun l h2=>(fU P hi fr h2).bind fun u h3=>gT x l u h3
 | .cl f es,fr,h=>(cg P es fr h).bind fun ds h1=>P f ds h1
 | .bi b es,fr,h=>(cg P es fr h).bind fun ds h1=>cX b ds h1
 | .me m o es,fr,h=>(ev P o fr h).bind fun x h1=>if wu m x h1 then (cg P es fr h1).bind fun ds h2=>eW m x ds h2 else .bad
 | .comp elt t it cond,fr,h=>(cy P it fr h).bind fun s h1=>if undef t fr then
   (cG (fun d h2=>match bH t d fr with
    | none=>.bad
    | some ao=>(gU P cond ao h2).bind fun k h3=>if k then (ev P elt ao h3).bind fun x h4=>.ok (some x) h4 else .ok none h3) s.2 s.1 h1).bind fun ds h2=>alloc ds h2 else .bad
 | .ee it,fr,h=>(cy P it fr h).bind fun s h1=>alloc s.1 h1
 | .iV kvs a,fr,h=>(ev P a fr h).bind fun x h1=>R.of (eT x kvs) h1
 | .iW,_,h=>.ok (.ref h.length) (h++[.dct []])
 | .jL a k,fr,h=>(ev P a fr h).bind fun x h1=>(ev P k fr h1).bind fun y h2=>R.of (tU x y h2) h2
 | .lP a k z,fr,h=>(ev P a fr h).bind fun x h1=>(ev P k fr h1).bind fun y h2=>(ev P z fr h2).bind fun w h3=>R.of (tV x y w h3 h1) h3
 | .iw a,fr,h=>(ev P a fr h).bind fun x h1=>qD x h1
noncomputable def cg (P:aP):Es→Fr→Hh→R (List D)
 | .nil,_,h=>.ok [] h
 | .cons e es,fr,h=>(ev P e fr h).bind fun d h1=>(cg P es fr h1).bind fun ds h2=>.ok (d :: ds) h2
noncomputable def fU (P:aP):Eo→Fr→Hh→R (Option Int)
 | .no,_,h=>.ok none h
 | .yes e,fr,h=>(ev P e fr h).bind fun d h1=>R.of ((intOf d).map some) h1
noncomputable def gU (P:aP):Eo→Fr→Hh→R Bool
 | .no,_,h=>.ok true h
 | .yes e,fr,h=>aL P e fr h
noncomputable def aL (P:aP):E→Fr→Hh→R Bool
 | .an a b,fr,h=>(aL P a fr h).bind fun k h1=>if k then aL P b fr h1 else .ok false h1
 | .orr a b,fr,h=>(aL P a fr h).bind fun k h1=>if k then .ok true h1 else aL P b fr h1
 | .nt a,fr,h=>(aL P a fr h).bind fun k h1=>.ok (!k) h1
 | e,fr,h=>(ev P e fr h).bind fun x h1=>R.of (truthy h1 x) h1
noncomputable def cy (P:aP):It→Fr→Hh→R Src
 | .seq e,fr,h=>(ev P e fr h).bind fun x h1=>R.of (er h1 x) h1
 | .gy es,fr,h=>(cg P es fr h).bind fun ds h1=>R.of (dO ds) h1
 | .zip a b,fr,h=>(ev P a fr h).bind fun x h1=>(ev P b fr h1).bind fun y h2=>R.of ((oG h2 x).bind fun s=>(oG h2 y).map fun t=>(dP s.1 t.1,s.2++t.2)) h2
 | .enum a,fr,h=>(ev P a fr h).bind fun x h1=>R.of ((oG h1 x).map fun s=>(gE 0 s.1,s.2)) h1
 | .rev a,fr,h=>(ev P a fr h).bind fun x h1=>R.of ((CK x).map fun ds=>(ds.reverse,[])) h1
end
mutual
noncomputable def ex (P:aP) (w:Nat):S→Fr→Hh→R (Fl×Fr)
 | .set i e,fr,h=>(ev P e fr h).bind fun x h1=>.ok (.nx,fr.set i (some x)) h1
 | .yh l e,fr,h=>(ev P e fr h).bind fun x h1=>match bH (.many l) x fr with
   | some ao=>.ok (.nx,ao) h1
   | none=>.bad
 | .dput o i e,fr,h=>(ev P e fr h).bind fun x h1=>(ev P o fr h1).bind fun y h2=>(ev P i fr h2).bind fun z h3=>match sG y z x h3 with
   | some h4=>.ok (.nx,fr) h4
   | none=>.bad
 | .exp e,fr,h=>(ev P e fr h).bind fun _ h1=>.ok (.nx,fr) h1
 | .ret e,fr,h=>(ev P e fr h).bind fun x h1=>.ok (.ret x,fr) h1
 | .iff t a b,fr,h=>(aL P t fr h).bind fun k h1=>if k then exs P w a fr h1 else exs P w b fr h1
 | .for t it b,fr,h=>(cy P it fr h).bind fun s h1=>forL (fun d ao h2=>match bH t d ao with
   | some bY=>exs P w b bY h2
   | none=>.bad) s.2 s.1 fr h1
 | .mw t b,fr,h=>dW (fun ao h2=>aL P t ao h2) (fun ao h2=>exs P w b ao h2) w fr h
 | .fk,_,_=>.bad
noncomputable def exs (P:aP) (w:Nat):Ss→Fr→Hh→R (Fl×Fr)
 | .nil,fr,h=>.ok (.nx,fr) h
 | .cons s ss,fr,h=>(ex P w s fr h).bind fun p h1=>match p.1 with
   | .nx=>exs P w ss p.2 h1
   | _=>.ok p h1
end
structure Fn where
 np:Nat
 ns:Nat
 body:Ss
noncomputable def fy (fn:Fn) (ds:List D):Fr:=ds.map some++List.replicate (fn.ns - fn.np) none
noncomputable def endOf (r:R (Fl×Fr)):R D:=r.bind fun p h=>match p.1 with
 | .ret d=>.ok d h
 | .nx=>.ok .bD h
 | _=>.bad
noncomputable def run (F:List Fn) (w:Nat):Nat→aP
 | 0,_,_,_=>.bad
 | n+1,f,ds,h=>match F[f]? with
  | some fn=>if ds.length=fn.np then endOf (exs (run F w n) w fn.body (fy fn ds) h) else .bad
  | none=>.bad
end Ev
set_option maxRecDepth 100000
namespace Sm
open PySem PySem.Spec PyProof.Rows L2
noncomputable def aN (l:List Nat):Str:=⟨l.toArray⟩
theorem cL (l:List Nat):(aN l).length=l.length:=by simp [aN,Str.length]
theorem qE {a b:List Nat}(h:aN a=aN b):a=b:=by
 have h1:a.toArray=b.toArray:=congrArg Str.cps h
 simpa using congrArg Array.toList h1
theorem gW:Ev.big=sizeLine:=by rw [sizeLine_eq];rfl
section
variable (K:PySem.W.Frag)
mutual
noncomputable def RV (H:Hp) (r:List Addr):Ev.D→V→Prop
 | .bD,v=>v=.bD
 | .bl b,v=>v=.bl b
 | .int i,v=>v=.int i
 | .str s,v=>v=.str (aN s)∧s.length≤sizeLine
 | .ref n,v=>∃ a,v=.ref a∧r[n]?=some a
 | .tup ds,v=>∃ a vs,v=.ref a∧di K H a vs∧aH H r ds vs
noncomputable def aH (H:Hp) (r:List Addr):List Ev.D→List V→Prop
 | [],vs=>vs=[]
 | d :: ds,vs=>∃ v w,vs=v :: w∧RV H r d v∧aH H r ds w
end
noncomputable def yk (H:Hp) (a:Addr) (vs:List V):Prop:=(∃ o,H a=some (.bU o (.lst vs)))∨
 ∃ (o:Obj) (its:Array Value) (n:Nat),K.lookup a=some o∧o.cls=.type "list" ∧o.dict=none∧o.data=.seq its n∧its.size≤sizeLine∧Vals vs its.toList
noncomputable def fO (kvs:List (Int×List Nat)):List (Key×V):=kvs.map fun p=>(Sum.inl p.1,V.str (aN p.2))
noncomputable def RO (H:Hp) (r:List Addr):Ev.O→Addr→Prop
 | .lst ds,a=>∃ vs,H a=some (.lst vs)∧aH K H r ds vs
 | .bU ds,a=>∃ vs,yk K H a vs∧aH K H r ds vs
 | .dct kvs,a=>H a=some (.dK (fO kvs))∧∀ p∈kvs,p.2.length≤sizeLine
structure HR (H:Hp) (r:List Addr) (h:Ev.Hh):Prop where
 len:r.length=h.length
 ob:∀ (n:Nat) o,h[n]?=some o→∃ a,r[n]?=some a∧RO K H r o a
 inj:∀ (n m:Nat) a x y,r[n]?=some a→r[m]?=some a→h[n]?=some (.lst x)→h[m]?=some (.lst y)→n=m
 kh:∀ (n m:Nat) a x y,r[n]?=some a→r[m]?=some a→h[n]?=some (.dct x)→h[m]?=some (.dct y)→n=m
structure Fm (r r':List Addr) (H H':Hp):Prop where
 pre:∀ (n:Nat) a,r[n]?=some a→r'[n]?=some a
 new:∀ a∈r',a∈r∨H a=none
 keep:∀ a o,H a=some o→a∉r→H' a=some o
 tups:∀ a vs,di K H a vs→di K H' a vs
end
section
variable {K:PySem.W.Frag}{H H1 H2:Hp}{r r1 r2:List Addr}{h:Ev.Hh}
theorem Fm.refl:Fm K r r H H:=⟨fun _ _ e=>e,fun _ e=>.inl e,fun _ _ e _=>e,fun _ _ e=>e⟩
theorem Fm.trans (a:Fm K r r1 H H1) (b:Fm K r1 r2 H1 H2):Fm K r r2 H H2 where
 pre:=fun n x e=>b.pre n x (a.pre n x e)
 new:=fun x e=>by
  rcases b.new x e with q | q
  ·exact a.new x q
  ·by_cases z:x∈r
   ·exact .inl z
   ·refine .inr ?_
    cases w:H x with
    | none=>rfl
    | some o=>rw [a.keep x o w z] at q;cases q
 keep:=fun x o e n=>by
  refine b.keep x o (a.keep x o e n) fun z=>?_
  rcases a.new x z with q | q
  ·exact n q
  ·rw [e] at q;cases q
 tups:=fun x vs e=>b.tups x vs (a.tups x vs e)
mutual
theorem RV.grow (f:∀ (n:Nat) a,r[n]?=some a→r1[n]?=some a) (g:∀ a vs,di K H a vs→di K H1 a vs):∀ {d:Ev.D}{v:V},RV K H r d v→RV K H1 r1 d v
 | .bD,_,e=>e
 | .bl _,_,e=>e
 | .int _,_,e=>e
 | .str _,_,e=>e
 | .ref n,_,⟨a,e,z⟩=>⟨a,e,f n a z⟩
 | .tup ds,_,⟨a,vs,e,z,q⟩=>⟨a,vs,e,g a vs z,aH.grow f g q⟩
theorem aH.grow (f:∀ (n:Nat) a,r[n]?=some a→r1[n]?=some a) (g:∀ a vs,di K H a vs→di K H1 a vs):∀ {ds:List Ev.D}{vs:List V},aH K H r ds vs→aH K H1 r1 ds vs
 | [],_,e=>e
 | _ :: _,_,⟨v,w,e,z,q⟩=>⟨v,w,e,RV.grow f g z,aH.grow f g q⟩
end
theorem RV.mono (f:Fm K r r1 H H1) {d:Ev.D}{v:V}(q:RV K H r d v):RV K H1 r1 d v:=q.grow f.pre f.tups
theorem aH.mono (f:Fm K r r1 H H1) {ds:List Ev.D}{vs:List V}(q:aH K H r ds vs):aH K H1 r1 ds vs:=q.grow f.pre f.tups
theorem aH.nil:aH K H r [] []:=by simp [aH]
theorem aH.cons {d:Ev.D}{v:V}{ds:List Ev.D}{vs:List V}(a:RV K H r d v) (b:aH K H r ds vs):aH K H r (d :: ds) (v :: vs):=by
 simp only [aH];exact ⟨v,vs,rfl,a,b⟩
theorem aH.length:∀ {ds:List Ev.D}{vs:List V},aH K H r ds vs→vs.length=ds.length
 | [],_,e=>by simp only [aH] at e;subst e;rfl
 | _ :: _,_,e=>by
  simp only [aH] at e
  obtain ⟨v,w,rfl,_,q⟩:=e
  simp [aH.length q]
theorem aH.get:∀ {ds:List Ev.D}{vs:List V}{i:Nat}{d:Ev.D},aH K H r ds vs→ds[i]?=some d→∃ v,vs[i]?=some v∧RV K H r d v
 | [],_,_,_,_,e=>by simp at e
 | _ :: _,_,0,_,h,e=>by
  simp only [aH] at h
  obtain ⟨v,w,rfl,z,q⟩:=h
  simp at e;subst e
  exact ⟨v,by simp,z⟩
 | _ :: _,_,i+1,_,h,e=>by
  simp only [aH] at h
  obtain ⟨v,w,rfl,z,q⟩:=h
  obtain ⟨u,a,b⟩:=aH.get (i:=i) q (by simpa using e)
  exact ⟨u,by simpa using a,b⟩
theorem aH.append:∀ {ds es:List Ev.D}{vs ws:List V},aH K H r ds vs→aH K H r es ws→aH K H r (ds++es) (vs++ws)
 | [],_,_,_,a,b=>by simp only [aH] at a;subst a;simpa using b
 | _ :: _,_,_,_,a,b=>by
  simp only [aH] at a
  obtain ⟨v,w,rfl,z,q⟩:=a
  simp only [List.cons_append]
  exact .cons z (aH.append q b)
theorem aH.take:∀ {ds:List Ev.D}{vs:List V}(n:Nat),aH K H r ds vs→aH K H r (ds.take n) (vs.take n)
 | _,_,0,_=>by simp [aH]
 | [],_,_+1,a=>by simp only [aH] at a;subst a;simp [aH]
 | _ :: _,_,n+1,a=>by
  simp only [aH] at a
  obtain ⟨v,w,rfl,z,q⟩:=a
  simp only [List.take_succ_cons]
  exact .cons z (aH.take n q)
theorem aH.drop:∀ {ds:List Ev.D}{vs:List V}(n:Nat),aH K H r ds vs→aH K H r (ds.drop n) (vs.drop n)
 | _,_,0,a=>by simpa using a
 | [],_,_+1,a=>by simp only [aH] at a;subst a;simp [aH]
 | _ :: _,_,n+1,a=>by
  simp only [aH] at a
  obtain ⟨v,w,rfl,z,q⟩:=a
  simp only [List.drop_succ_cons]
  exact aH.drop n q
theorem aH.reverse:∀ {ds:List Ev.D}{vs:List V},aH K H r ds vs→aH K H r ds.reverse vs.reverse
 | [],_,a=>by simp only [aH] at a;subst a;simp [aH]
 | _ :: _,_,a=>by
  simp only [aH] at a
  obtain ⟨v,w,rfl,z,q⟩:=a
  simp only [List.reverse_cons]
  exact (aH.reverse q).append (.cons z .nil)
theorem aH.rep {ds:List Ev.D}{vs:List V}(a:aH K H r ds vs):∀ k:Nat,aH K H r (Ev.rep k ds) (Ev.rep k vs)
 | 0=>by simp [Ev.rep,aH]
 | k+1=>by
  have h:=aH.rep a k
  simp only [Ev.rep,List.replicate_succ,List.flatten_cons] at h ⊢
  exact a.append h
theorem Fm.laid {p:Addr}{o:HO}(hp:H p=none):Fm K r (r++[p]) H (upd H p o) where
 pre:=fun n a e=>by rw [List.getElem?_append_left (List.getElem?_eq_some_iff.mp e).1];exact e
 new:=fun a e=>by
  rcases List.mem_append.mp e with q | q
  ·exact .inl q
  ·rw [List.mem_singleton] at q;subst q;exact .inr hp
 keep:=fun a ob e _=>by rw [aU (bC e hp)];exact e
 tups:=fun a vs e=>by
  rcases e with (e | ⟨ob,e⟩) | e
  ·exact .inl (.inl (by rw [aU (bC e hp)];exact e))
  ·exact .inl (.inr ⟨ob,by rw [aU (bC e hp)];exact e⟩)
  ·exact .inr e
theorem Fm.tup {p:Addr}{o:HO}(hp:H p=none):Fm K r r H (upd H p o) where
 pre:=fun n a e=>e
 new:=fun a e=>.inl e
 keep:=fun a ob e _=>by rw [aU (bC e hp)];exact e
 tups:=(Fm.laid (r:=r) hp).tups
theorem RO.mono {o:Ev.O}{a:Addr}(f:Fm K r r1 H H1) (q:RO K H r o a) (hl:∀ ds vs,o=.lst ds→H a=some (.lst vs)→H1 a=some (.lst vs)) (hf:∀ ob vs,H a=some (.bU ob vs)→H1 a=some (.bU ob vs))
  (hd:∀ kvs vs,o=.dct kvs→H a=some (.dK vs)→H1 a=some (.dK vs))
  : RO K H1 r1 o a:=by
 cases o with
 | lst ds=>
  obtain ⟨vs,e,z⟩:=q
  exact ⟨vs,hl ds vs rfl e,z.mono f⟩
 | bU ds=>
  obtain ⟨vs,e,z⟩:=q
  refine ⟨vs,?_,z.mono f⟩
  rcases e with ⟨ob,e⟩ | e
  ·exact .inl ⟨ob,hf _ _ e⟩
  ·exact .inr e
 | dct kvs=>exact ⟨hd kvs _ rfl q.1,q.2⟩
theorem HR.tup {p:Addr}{o:HO}(hr:HR K H r h) (hp:H p=none):HR K (upd H p o) r h where
 len:=hr.len
 ob:=fun n ob e=>by
  obtain ⟨a,e1,q⟩:=hr.ob n ob e
  exact ⟨a,e1,q.mono (Fm.tup hp) (fun _ vs _ z=>by rw [aU (bC z hp)];exact z) (fun _ _ z=>by rw [aU (bC z hp)];exact z)
   (fun _ _ _ z=>by rw [aU (bC z hp)];exact z)
   ⟩
 inj:=hr.inj
 kh:=hr.kh
theorem HR.Lz {p:Addr}{ds:List Ev.D}(hr:HR K H r h):∀ (n m:Nat) a x y,(r++[p])[n]?=some a→(r++[p])[m]?=some a→(h++[Ev.O.lst ds])[n]?=some (.dct x)→(h++[Ev.O.lst ds])[m]?=some (.dct y)→n=m:=fun n m a x y e1 e2 e3 e4=>by
 have out:∀ (k:Nat) z,(h++[Ev.O.lst ds])[k]?=some (.dct z)→(r++[p])[k]?=some a→r[k]?=some a∧h[k]?=some (.dct z):=fun k z q1 q2=>by
  by_cases hk:k<h.length
  ·rw [List.getElem?_append_left hk] at q1
   rw [List.getElem?_append_left (by rw [hr.len];exact hk)] at q2
   exact ⟨q2,q1⟩
  ·have e5:=(List.getElem?_eq_some_iff.mp q1).1
   simp only [List.length_append,List.length_singleton] at e5
   have e6:k=h.length:=by omega
   subst e6
   simp at q1
 exact hr.kh n m a x y (out n x e3 e1).1 (out m y e4 e2).1 (out n x e3 e1).2 (out m y e4 e2).2
theorem HR.lst {p:Addr}{ds:List Ev.D}{vs:List V}(hr:HR K H r h) (hp:H p=none) (q:aH K H r ds vs):HR K (upd H p (.lst vs)) (r++[p]) (h++[.lst ds]) where
 len:=by simp [hr.len]
 ob:=fun n ob e=>by
  by_cases hn:n<h.length
  ·rw [List.getElem?_append_left hn] at e
   obtain ⟨a,e1,z⟩:=hr.ob n ob e
   exact ⟨a,(Fm.laid (K:=K) (o:=.lst vs) hp).pre n a e1,z.mono (Fm.laid hp) (fun _ vs _ z=>by rw [aU (bC z hp)];exact z) (fun _ _ z=>by rw [aU (bC z hp)];exact z)
    (fun _ _ _ z=>by rw [aU (bC z hp)];exact z)
    ⟩
  ·have e2:=(List.getElem?_eq_some_iff.mp e).1
   simp only [List.length_append,List.length_singleton] at e2
   have e3:n=h.length:=by omega
   subst e3
   simp at e
   subst e
   exact ⟨p,by rw [←hr.len];simp,vs,eL,q.mono (Fm.laid hp)⟩
 inj:=fun n m a x y e1 e2 e3 e4=>by
  have out:∀ (k:Nat) z,(h++[Ev.O.lst ds])[k]?=some (.lst z)→(r++[p])[k]?=some a→(k<h.length∧r[k]?=some a∧h[k]?=some (.lst z)∧a≠p)∨(k=h.length∧a=p):=fun k z q1 q2=>by
   by_cases hk:k<h.length
   ·rw [List.getElem?_append_left hk] at q1
    rw [List.getElem?_append_left (by rw [hr.len];exact hk)] at q2
    obtain ⟨b,e5,vs',e6,_⟩:=hr.ob k _ q1
    rw [q2] at e5;cases e5
    exact .inl ⟨hk,q2,q1,bC e6 hp⟩
   ·have e5:=(List.getElem?_eq_some_iff.mp q1).1
    simp only [List.length_append,List.length_singleton] at e5
    have e6:k=r.length:=by rw [hr.len];omega
    subst e6
    simp at q2
    exact .inr ⟨hr.len,q2.symm⟩
  rcases out n x e3 e1 with ⟨h1,h2,h3,h4⟩ | ⟨h1,h2⟩
  ·rcases out m y e4 e2 with ⟨k1,k2,k3,k4⟩ | ⟨k1,k2⟩
   ·exact hr.inj n m a x y h2 k2 h3 k3
   ·exact absurd k2 h4
  ·rcases out m y e4 e2 with ⟨k1,k2,k3,k4⟩ | ⟨k1,k2⟩
   ·exact absurd h2 k4
   ·rw [h1,k1]
 kh:=hr.Lz
theorem HR.dct {n:Nat}{kvs:List (Int×List Nat)}(hr:HR K H r h) (e:h[n]?=some (.dct kvs)):∃ a,r[n]?=some a∧H a=some (.dK (fO kvs))∧∀ p∈kvs,p.2.length≤sizeLine:=by
 obtain ⟨a,e1,e2,e3⟩:=hr.ob n _ e
 exact ⟨a,e1,e2,e3⟩
theorem HR.read {n:Nat}{ds:List Ev.D}(hr:HR K H r h) (e:Ev.bu h n=some ds):∃ a vs,r[n]?=some a∧dJ K H a vs∧aH K H r ds vs:=by
 unfold Ev.bu at e
 split at e
 ·rename_i z
  cases e
  obtain ⟨a,e1,vs,e2,e3⟩:=hr.ob n _ z
  exact ⟨a,vs,e1,.inl (.inl e2),e3⟩
 ·rename_i z
  cases e
  obtain ⟨a,e1,vs,e2,e3⟩:=hr.ob n _ z
  refine ⟨a,vs,e1,?_,e3⟩
  rcases e2 with ⟨ob,e2⟩ | e2
  ·exact .inl (.inr ⟨ob,e2⟩)
  ·exact .inr e2
 ·cases e
theorem Fm.write {a:Addr}{vs ws:List V}(ha:H a=some (.lst vs)) (hm:a∈r):Fm K r r H (upd H a (.lst ws)) where
 pre:=fun n b e=>e
 new:=fun b e=>.inl e
 keep:=fun b ob e n=>by rw [aU (fun z=>n (by rw [z];exact hm))];exact e
 tups:=fun b us e=>by
  rcases e with (e | ⟨ob,e⟩) | e
  ·exact .inl (.inl (by rw [aU (gS e ha (by intro z;cases z))];exact e))
  ·exact .inl (.inr ⟨ob,by rw [aU (gS e ha (by intro z;cases z))];exact e⟩)
  ·exact .inr e
theorem HR.write {n:Nat}{a:Addr}{ds es:List Ev.D}{vs ws:List V}(hr:HR K H r h) (hn:h[n]?=some (.lst ds)) (tW:r[n]?=some a) (ha:H a=some (.lst vs)) (q:aH K H r es ws) :
  HR K (upd H a (.lst ws)) r (h.set n (.lst es)) where
 len:=by simp [hr.len]
 ob:=fun m ob e=>by
  have f:=Fm.write (K:=K) (ws:=ws) ha (List.mem_of_getElem? tW)
  by_cases hm:m=n
  ·subst hm
   rw [List.getElem?_set_self (List.getElem?_eq_some_iff.mp hn).1] at e
   cases e
   exact ⟨a,tW,ws,eL,q.mono f⟩
  ·rw [List.getElem?_set_ne (fun z=>hm z.symm)] at e
   obtain ⟨b,e1,z⟩:=hr.ob m ob e
   refine ⟨b,e1,z.mono f (fun Zr us z3 z2=>?_) (fun Zs us z2=>by rw [aU (gS z2 ha (by intro z;cases z))];exact z2)
    (fun _ us _ z2=>by rw [aU (gS z2 ha (by intro z;cases z))];exact z2)
    ⟩
   by_cases hb:b=a
   ·subst hb
    subst z3
    exact absurd (hr.inj m n b Zr ds e1 tW e hn) hm
   ·rw [aU hb];exact z2
 inj:=fun k m b x y e1 e2 e3 e4=>by
  have back:∀ (j:Nat) z,(h.set n (Ev.O.lst es))[j]?=some (.lst z)→∃ z',h[j]?=some (.lst z'):=fun j z w=>by
   by_cases hj:j=n
   ·subst hj;exact ⟨ds,hn⟩
   ·rw [List.getElem?_set_ne (fun z=>hj z.symm)] at w;exact ⟨z,w⟩
  obtain ⟨x',e5⟩:=back k x e3
  obtain ⟨y',e6⟩:=back m y e4
  exact hr.inj k m b x' y' e1 e2 e5 e6
 kh:=fun k m b x y e1 e2 e3 e4=>by
  have back:∀ (j:Nat) z,(h.set n (Ev.O.lst es))[j]?=some (.dct z)→h[j]?=some (.dct z):=fun j z w=>by
   by_cases hj:j=n
   ·subst hj
    rw [List.getElem?_set_self (List.getElem?_eq_some_iff.mp hn).1] at w
    cases w
   ·rw [List.getElem?_set_ne (fun z=>hj z.symm)] at w;exact w
  exact hr.kh k m b x y e1 e2 (back k x e3) (back m y e4)
theorem gX {p:Addr}{vs ws:List V}(hp:H p=some (.lst vs)):∀ a us,di K H a us→di K (upd H p (.lst ws)) a us:=fun b us e=>by
 rcases e with (e | ⟨ob,e⟩) | e
 ·exact .inl (.inl (by rw [aU (gS e hp (by intro z;cases z))];exact e))
 ·exact .inl (.inr ⟨ob,by rw [aU (gS e hp (by intro z;cases z))];exact e⟩)
 ·exact .inr e
theorem HR.other {p:Addr}{vs ws:List V}(hr:HR K H r h) (hp:H p=some (.lst vs)) (hn:p∉r):HR K (upd H p (.lst ws)) r h where
 len:=hr.len
 ob:=fun n ob e=>by
  obtain ⟨a,e1,q⟩:=hr.ob n ob e
  have ha:a≠p:=fun z=>hn (by rw [←z];exact List.mem_of_getElem? e1)
  refine ⟨a,e1,?_⟩
  cases ob with
  | lst ds=>
   obtain ⟨us,e2,e3⟩:=q
   exact ⟨us,by rw [aU ha];exact e2,e3.grow (fun _ _ z=>z) (gX hp)⟩
  | bU ds=>
   obtain ⟨us,e2,e3⟩:=q
   refine ⟨us,?_,e3.grow (fun _ _ z=>z) (gX hp)⟩
   rcases e2 with ⟨o,e2⟩ | e2
   ·exact .inl ⟨o,by rw [aU ha];exact e2⟩
   ·exact .inr e2
  | dct kvs=>exact ⟨by rw [aU ha];exact q.1,q.2⟩
 inj:=hr.inj
 kh:=hr.kh
theorem Fm.other {p:Addr}{vs ws:List V}(f:Fm K r r1 H H1) (h0:H p=none) (hp:H1 p=some (.lst vs)):Fm K r r1 H (upd H1 p (.lst ws)) where
 pre:=f.pre
 new:=f.new
 keep:=fun a o e n=>by rw [aU (bC e h0)];exact f.keep a o e n
 tups:=fun a us e=>gX hp a us (f.tups a us e)
theorem Fm.gD {p:Addr}{o:HO}(f:Fm K r r1 H H1) (hp:H p=some o) (hn:p∉r):p∉r1∧H1 p=some o:=by
 refine ⟨fun z=>?_,f.keep p o hp hn⟩
 rcases f.new p z with q | q
 ·exact hn q
 ·rw [hp] at q;cases q
theorem HR.known {p:Addr}{ds:List Ev.D}{vs:List V}(hr:HR K H r h) (hp:H p=some (.lst vs)) (hn:p∉r) (q:aH K H r ds vs):HR K H (r++[p]) (h++[.lst ds]):=by
 have pre:∀ (n:Nat) a,r[n]?=some a→(r++[p])[n]?=some a:=fun n a e=>by rw [List.getElem?_append_left (List.getElem?_eq_some_iff.mp e).1];exact e
 refine ⟨by simp [hr.len],fun n ob e=>?_,fun n m a x y e1 e2 e3 e4=>?_
  ,hr.Lz
  ⟩
 ·by_cases hk:n<h.length
  ·rw [List.getElem?_append_left hk] at e
   obtain ⟨a,e1,z⟩:=hr.ob n ob e
   refine ⟨a,pre n a e1,?_⟩
   cases ob with
   | lst ds=>obtain ⟨us,e2,e3⟩:=z;exact ⟨us,e2,e3.grow pre fun _ _ z=>z⟩
   | bU ds=>obtain ⟨us,e2,e3⟩:=z;exact ⟨us,e2,e3.grow pre fun _ _ z=>z⟩
   | dct kvs=>exact z
  ·have e2:=(List.getElem?_eq_some_iff.mp e).1
   simp only [List.length_append,List.length_singleton] at e2
   have e3:n=h.length:=by omega
   subst e3
   simp at e
   subst e
   exact ⟨p,by rw [←hr.len];simp,vs,hp,q.grow pre fun _ _ z=>z⟩
 ·have out:∀ (k:Nat) z,(h++[Ev.O.lst ds])[k]?=some (.lst z)→(r++[p])[k]?=some a→(k<h.length∧r[k]?=some a∧h[k]?=some (.lst z)∧a≠p)∨(k=h.length∧a=p):=fun k z q1 q2=>by
   by_cases hk:k<h.length
   ·rw [List.getElem?_append_left hk] at q1
    rw [List.getElem?_append_left (by rw [hr.len];exact hk)] at q2
    exact .inl ⟨hk,q2,q1,fun z=>hn (by rw [←z];exact List.mem_of_getElem? q2)⟩
   ·have e5:=(List.getElem?_eq_some_iff.mp q1).1
    simp only [List.length_append,List.length_singleton] at e5
    have e6:k=r.length:=by rw [hr.len];omega
    subst e6
    simp at q2
    exact .inr ⟨hr.len,q2.symm⟩
  rcases out n x e3 e1 with ⟨h1,h2,h3,h4⟩ | ⟨h1,h2⟩
  ·rcases out m y e4 e2 with ⟨k1,k2,k3,k4⟩ | ⟨k1,k2⟩
   ·exact hr.inj n m a x y h2 k2 h3 k3
   ·exact absurd k2 h4
  ·rcases out m y e4 e2 with ⟨k1,k2,k3,k4⟩ | ⟨k1,k2⟩
   ·exact absurd h2 k4
   ·rw [h1,k1]
theorem Fm.known {p:Addr}(f:Fm K r r1 H H1) (h0:H p=none):Fm K r (r1++[p]) H H1 where
 pre:=fun n a e=>by
  have e':=f.pre n a e
  rw [List.getElem?_append_left (List.getElem?_eq_some_iff.mp e').1];exact e'
 new:=fun a e=>by
  rcases List.mem_append.mp e with q | q
  ·exact f.new a q
  ·rw [List.mem_singleton] at q;subst q;exact .inr h0
 keep:=f.keep
 tups:=f.tups
end
end Sm
set_option maxRecDepth 100000
namespace Sm
open PySem PySem.Spec PyProof.Rows L2
open Ev (D O Hh Fr R aP E Es Eo It T S Ss Fl Src bZ bP TY BI ME)
section
variable (K:PySem.W.Frag)
noncomputable def Res (r:List Addr) (H:Hp) (h':Hh) (d:D) (Q:VK):Prop:=∀ v H' r',RV K H' r' d v→HR K H' r' h'→Fm K r r' H H'→Q v H'
structure SR (m:List Nat) (H:Hp) (r:List Addr) (fr:Fr) (s:L2.St):Prop where
 len:s.length=m.length
 sl:∀ (j i:Nat) d,m[j]?=some i→fr[i]?=some (some d)→∃ v,s[j]?=some (some v)∧RV K H r d v
inductive tJ (m:List Nat) (P:aP) (e:E) (s:L2.St) (H:Hp) (Q:VK):Prop
 | mk (r:List Addr) (fr:Fr) (h:Hh) (d:D) (h':Hh) (c0:SR K m H r fr s) (c1:HR K H r h) (c2:Ev.ev P e fr h=.ok d h') (c3:Res K r H h' d Q):tJ m P e s H Q
inductive LA (m:List Nat) (P:aP) (e:E) (s:L2.St) (H:Hp) (Q:Bool→Hp→Prop):Prop
 | mk (r:List Addr) (fr:Fr) (h:Hh) (k:Bool) (h':Hh) (c0:SR K m H r fr s) (c1:HR K H r h) (c2:Ev.aL P e fr h=.ok k h') (c3:∀ H' r',HR K H' r' h'→Fm K r r' H H'→Q k H'):LA m P e s H Q
inductive LB (m:List Nat) (P:aP) (es:Es) (s:L2.St) (H:Hp) (Q:List V→Hp→Prop):Prop
 | mk (r:List Addr) (fr:Fr) (h:Hh) (ds:List D) (h':Hh) (c0:SR K m H r fr s) (c1:HR K H r h) (c2:Ev.cg P es fr h=.ok ds h') (c3:∀ vs H' r',aH K H' r' ds vs→HR K H' r' h'→Fm K r r' H H'→Q vs H'):LB m P es s H Q
inductive Ut (m:List Nat) (P:aP) (e:Eo) (s:L2.St) (H:Hp) (Q:Option Int→Hp→Prop):Prop
 | mk (r:List Addr) (fr:Fr) (h:Hh) (o:Option Int) (h':Hh) (c0:SR K m H r fr s) (c1:HR K H r h) (c2:Ev.fU P e fr h=.ok o h') (c3:∀ H' r',HR K H' r' h'→Fm K r r' H H'→Q o H'):Ut m P e s H Q
inductive iy (f:D→D→Hh→R D) (x:V) (y:V) (H:Hp) (Q:VK):Prop
 | mk (r:List Addr) (h:Hh) (a:D) (b:D) (d:D) (h':Hh) (c0:HR K H r h) (c1:RV K H r a x) (c2:RV K H r b y) (c3:f a b h=.ok d h') (c4:Res K r H h' d Q):iy f x y H Q
inductive Zt (f:D→Hh→R D) (x:V) (H:Hp) (Q:VK):Prop
 | mk (r:List Addr) (h:Hh) (a:D) (d:D) (h':Hh) (c0:HR K H r h) (c1:RV K H r a x) (c2:f a h=.ok d h') (c3:Res K r H h' d Q):Zt f x H Q
inductive tX (f:List D→Hh→R D) (xs:List V) (H:Hp) (Q:VK):Prop
 | mk (r:List Addr) (h:Hh) (as:List D) (d:D) (h':Hh) (c0:HR K H r h) (c1:aH K H r as xs) (c2:f as h=.ok d h') (c3:Res K r H h' d Q):tX f xs H Q
inductive tY (f:D→List D→Hh→R D) (x:V) (xs:List V) (H:Hp) (Q:VK):Prop
 | mk (r:List Addr) (h:Hh) (a:D) (as:List D) (d:D) (h':Hh) (c0:HR K H r h) (c1:RV K H r a x) (c2:aH K H r as xs) (c3:f a as h=.ok d h') (c4:Res K r H h' d Q):tY f x xs H Q
inductive LC  (x:V) (lo:Option Int) (hi:Option Int) (H:Hp) (Q:VK):Prop
 | mk (r:List Addr) (h:Hh) (a:D) (d:D) (h':Hh) (c0:HR K H r h) (c1:RV K H r a x) (c2:Ev.gT a lo hi h=.ok d h') (c3:Res K r H h' d Q):LC x lo hi H Q
end
section
variable {K:PySem.W.Frag}{m:List Nat}{H H':Hp}{r r':List Addr}{fr:Fr}{s:L2.St}{h h':Hh}{d:D}{Q:VK}
theorem SR.mono (a:SR K m H r fr s) (f:Fm K r r' H H'):SR K m H' r' fr s:=⟨a.len,fun j i d e1 e2=>by
 obtain ⟨v,q,z⟩:=a.sl j i d e1 e2
 exact ⟨v,q,z.mono f⟩⟩
theorem Res.here {v:V}(q:Res K r H h d Q) (a:RV K H r d v) (b:HR K H r h):Q v H:=q v H r a b .refl
theorem Res.later (q:Res K r H h' d Q) (f:Fm K r r' H H'):Res K r' H' h' d Q:=fun v H2 r2 a b g=>q v H2 r2 a b (f.trans g)
theorem Res.lst {ds:List D}{vs:List V}(q:Res K r H h' d Q) (e:Ev.alloc ds h=.ok d h') (a:aH K H r ds vs) (b:HR K H r h):vs.length≤sizeLine∧∀ p,H p=none→Q (.ref p) (upd H p (.lst vs)):=by
 unfold Ev.alloc at e
 split at e
 ·rename_i z
  cases e
  refine ⟨by rw [a.length,←gW];exact z,fun p hp=>?_⟩
  exact q _ _ (r++[p]) ⟨p,rfl,by rw [←b.len];simp⟩ (b.lst hp a) (.laid hp)
 ·cases e
theorem Res.tup {ds:List D}{vs:List V}(q:Res K r H h (.tup ds) Q) (a:aH K H r ds vs) (b:HR K H r h) {p:Addr}(hp:H p=none):Q (.ref p) (upd H p (.tup vs)):=
 q _ _ r ⟨p,vs,rfl,.of eL,a.mono (.tup hp)⟩ (b.tup hp) (.tup hp)
end
theorem PE.of {X:Cx}{e:Expr}{t t':TE}(h:PE X e t) (w:∀ s H Q,t' s H Q→t s H Q):PE X e t':=fun pins s σ H Q I q=>h pins s σ H Q I (w _ _ _ q)
theorem PT.of {X:Cx}{e:Expr}{t t':TT}(h:PT X e t) (w:∀ s H Q,t' s H Q→t s H Q):PT X e t':=fun pins s σ H Q I q=>h pins s σ H Q I (w _ _ _ q)
theorem PW.of {X:Cx}{e:Expr}{t t':TT}(h:PW X e t) (w:∀ s H Q,t' s H Q→t s H Q):PW X e t':=fun wh pins s σ H Q I q=>h wh pins s σ H Q I (w _ _ _ q)
theorem PA.of {X:Cx}{es:List Expr}{t t':TA}(h:PA X es t) (w:∀ s H Q,t' s H Q→t s H Q):PA X es t':=fun pos pins s σ H Q I q=>h pos pins s σ H Q I (w _ _ _ q)
theorem PO.of {X:Cx}{e:Option Expr}{t t':TO}(h:PO X e t) (w:∀ s H Q,t' s H Q→t s H Q):PO X e t':=fun pins s σ H Q I q=>h pins s σ H Q I (w _ _ _ q)
structure FI where
 name:Str
 addr:Addr
 fd:FuncData
 ps:List Str
noncomputable def nP (K:PySem.W.Frag) (F:List Ev.Fn) (w n f:Nat):Sp:=fun vs H Q _=>∃ r h ds d h',aH K H r ds vs∧HR K H r h∧Ev.run F w n f ds h=.ok d h'∧Res K r H h' d Q
noncomputable def tZ:D→V→Prop
 | .bD,v=>v=.bD
 | .bl b,v=>v=.bl b
 | .int i,v=>v=.int i
 | .str s,v=>v=.str (aN s)∧s.length≤sizeLine
 | _,_=>False
theorem tZ.rv {K:PySem.W.Frag}{H:Hp}{r:List Addr}{d:D}{v:V}(h:tZ d v):RV K H r d v:=by
 cases d <;> simp only [tZ] at h <;> simp only [RV] <;> first | exact h | exact h.elim
structure Tb where
 F:List Ev.Fn
 w:Nat
 fi:List FI
 bl:List Str
 cs:List (Str×D)
 dk:List (Str×List (D×D))
noncomputable def tabOf:List (D×D)→List (PyData×PyData)
 | (.str k,.str v) :: r=>(.str (aN k),.str (aN v)) :: tabOf r
 | _=>[]
structure Good (G:Tb) (n:Nat) (sc:Scope) (N:List Str) (df:Bool) (X:Cx):Prop where
 nm:X.N=N
 sc:X.env.scope=sc
 calm:X.calm=true
 own:df=true→∀ x,X.fn x=true
 room:fN n X.A
 xe:X.xe=fun _ _=>False
 fn:∀ (f:Nat) i,G.fi[f]?=some i→X.mg i.name=some (.ref i.addr)∧PySem.W.keepIn X.K (.ref i.addr)=true∧Binds X.K i.fd i.ps []∧iB X.prog X.w X.K X.mg X.base mq n i.addr i.fd i.ps (nP X.K G.F G.w n f)
 bl:∀ x∈G.bl,X.mg x=none
 cs:∀ x d,(x,d)∈G.cs→∃ v u,X.mg x=some u∧RelV v u∧tZ d v
 dk:∀ x kvs,(x,kvs)∈G.dk→∃ a,X.mg x=some (.ref a)∧∀ h:Heap,X.K.In h→StrTab X.prog X.w h a (tabOf kvs)
section
variable (G:Tb)(n:Nat)(sc:Scope)(N:List Str)(df:Bool)(m:List Nat)
noncomputable def JE (e:E) (x:Expr):Prop:=∀ X,Good G n sc N df X→PE X x (tJ X.K m (Ev.run G.F G.w n) e)
noncomputable def JT (e:E) (x:Expr):Prop:=∀ X,Good G n sc N df X→PT X x (LA X.K m (Ev.run G.F G.w n) e)
noncomputable def JW (e:E) (x:Expr):Prop:=∀ X,Good G n sc N df X→PW X x (LA X.K m (Ev.run G.F G.w n) e)
noncomputable def JA (es:Es) (xs:List Expr):Prop:=∀ X,Good G n sc N df X→PA X xs (LB X.K m (Ev.run G.F G.w n) es)
noncomputable def JO (e:Eo) (x:Option Expr):Prop:=∀ X,Good G n sc N df X→PO X x (Ut X.K m (Ev.run G.F G.w n) e)
end
section
variable {G:Tb}{n:Nat}{sc:Scope}{N:List Str}{df:Bool}{m:List Nat}{a b c:E}{xa xb xc:Expr}{pos:Pos}
theorem Good.vis {X:Cx}(g:Good G n sc N df X) {x:Str}(h:sc.names.lookup x=some .local∨sc.names.lookup x=some .cell∨sc.names.lookup x=some .free):zI X.env.scope x:=by
 rw [g.sc];exact h
theorem Good.gl {X:Cx}(g:Good G n sc N df X) {x:Str}(h:sc.names.lookup x=some .globalImplicit):Gl X x:=by
 unfold Gl Env.kindOf;rw [g.sc];exact h
theorem Xb (j i:Nat) {x:Str}(hj:m[j]?=some i:=by rfl) (hN:N[j]?=some x:=by rfl)
  (hv:sc.names.lookup x=some .local∨sc.names.lookup x=some .cell∨sc.names.lookup x=some .free:=by first | exact Or.inl rfl | exact Or.inr (Or.inl rfl) | exact Or.inr (Or.inr rfl))
  (hd:(x==("__debug__" : Str))=false:=by decide) (hcd:(x==("__classdict__" : Str))=false:=by decide):JE G n sc N df m (.v i) (.Name x pos):=by
 intro X g
 refine PE.of (zM (i:=j) (by rw [g.nm];exact hN) (g.vis hv) hd hcd) fun s H Q q=>?_
 obtain ⟨r,fr,h,d,h',sr,hr,e,q⟩:=q
 simp only [Ev.ev] at e
 obtain ⟨e2,e3⟩:=Ev.aK e
 subst e3
 obtain ⟨v,q1,q2⟩:=sr.sl j i d hj (by
  cases z:fr[i]? with
  | none=>rw [z] at e2;cases e2
  | some o=>
   rw [z] at e2
   have e':o=some d:=e2
   rw [e'])
 exact ⟨v,q1,q.here q2 hr⟩
theorem yl {K:PySem.W.Frag}{P:aP}{d:D}{v:V}(hc:tZ d v):∀ s H Q,tJ K m P (.c d) s H Q→tC v s H Q:=fun s H Q q=>by
 obtain ⟨r,fr,h,d',h',sr,hr,e,q⟩:=q
 simp only [Ev.ev] at e
 cases e
 exact q.here hc.rv hr
theorem LD {i:Int}{j}:JE G n sc N df m (.c (.int i)) (.Constant (.int i) j pos):=fun X g=>PE.of KG (yl rfl)
theorem RG {k:Bool}{j}:JE G n sc N df m (.c (.bl k)) (.Constant (.bool k) j pos):=fun X g=>PE.of Rb (yl rfl)
theorem LF {l:List Nat}{x:Str}{j}(hx:x=aN l:=by decide +kernel) (hl:l.length≤sizeLine:=by decide):JE G n sc N df m (.c (.str l)) (.Constant (.str x) j pos):=
 fun X g=>PE.of KH (yl (by subst hx;exact ⟨rfl,hl⟩))
theorem LG:JA G n sc N df m .nil []:=fun X g=>PA.of lY fun s H Q q=>by
 obtain ⟨r,fr,h,ds,h',sr,hr,e,q⟩:=q
 simp only [Ev.cg] at e
 cases e
 exact q [] H r .nil hr .refl
theorem Ip {es:Es}{xs:List Expr}(ha:JE G n sc N df m a xa) (hs:JA G n sc N df m es xs) (hst:∀ env:Env,starEach (xa :: xs) env=(false,eval xa env) :: starEach xs env:=by intro _;rfl):JA G n sc N df m (.cons a es) (xa :: xs):=
 fun X g=>PA.of (jk (ha X g) (hs X g) (hst _)) fun s H Q q=>by
  obtain ⟨r,fr,h,ds,h',sr,hr,e,q⟩:=q
  simp only [Ev.cg] at e
  obtain ⟨d,h1,e1,e⟩:=Ev.ah e
  obtain ⟨ds',h2,e2,e⟩:=Ev.ah e
  cases e
  refine ⟨r,fr,h,d,h1,sr,hr,e1,fun v H1 r1 v1 hr1 f1=>?_⟩
  refine ⟨r1,fr,h1,ds',_,sr.mono f1,hr1,e2,fun vs H2 r2 v2 hr2 f2=>?_⟩
  exact q _ H2 r2 (.cons (v1.mono f2) v2) hr2 (f1.trans f2)
theorem LH {es:Es}{xs:List Expr}{k}(hs:JA G n sc N df m es xs):JE G n sc N df m (.tup es) (.Tuple xs k pos):=fun X g=>PE.of (Lb (hs X g)) fun s H Q q=>by
 obtain ⟨r,fr,h,d,h',sr,hr,e,q⟩:=q
 simp only [Ev.ev] at e
 obtain ⟨ds,h1,e1,e⟩:=Ev.ah e
 split at e
 ·rename_i z
  cases e
  refine ⟨r,fr,h,ds,_,sr,hr,e1,fun vs H1 r1 v1 hr1 f1=>⟨by rw [v1.length,←gW];exact z,fun p hp=>?_⟩⟩
  exact (q.later f1).tup v1 hr1 hp
 ·cases e
theorem LI {es:Es}{xs:List Expr}(hs:JA G n sc N df m es xs):JE G n sc N df m (.lst es) (.List xs pos):=fun X g=>PE.of (Lc (hs X g)) fun s H Q q=>by
 obtain ⟨r,fr,h,d,h',sr,hr,e,q⟩:=q
 simp only [Ev.ev] at e
 obtain ⟨ds,h1,e1,e⟩:=Ev.ah e
 refine ⟨r,fr,h,ds,h1,sr,hr,e1,fun vs H1 r1 v1 hr1 f1=>?_⟩
 exact (q.later f1).lst e v1 hr1
theorem pC {K:PySem.W.Frag}{P:aP}{f:D→D→Hh→R D}{e':E}(he:∀ fr h,Ev.ev P e' fr h=(Ev.ev P a fr h).bind fun x h1=>(Ev.ev P b fr h1).bind fun y h2=>f x y h2) :
  ∀ s H Q,tJ K m P e' s H Q→zR (iy K f) (tJ K m P a) (tJ K m P b) s H Q:=fun s H Q q=>by
 obtain ⟨r,fr,h,d,h',sr,hr,e,q⟩:=q
 rw [he] at e
 obtain ⟨x,h1,e1,e⟩:=Ev.ah e
 obtain ⟨y,h2,e2,e⟩:=Ev.ah e
 refine ⟨r,fr,h,x,h1,sr,hr,e1,fun v H1 r1 v1 hr1 f1=>?_⟩
 refine ⟨r1,fr,h1,y,h2,sr.mono f1,hr1,e2,fun u H2 r2 v2 hr2 f2=>?_⟩
 exact ⟨r2,h2,x,y,d,h',hr2,v1.mono f2,v2,e,q.later (f1.trans f2)⟩
theorem mz {o:bZ}{op:Operator}(ho:∀ X,Good G n sc N df X→dR X (binaryOp op) (iy X.K (Ev.bR o))) (ha:JE G n sc N df m a xa) (hb:JE G n sc N df m b xb):JE G n sc N df m (.bin o a b) (.BinOp xa op xb pos):=
 fun X g=>PE.of (Rm (ho X g) (ha X g) (hb X g)) (pC fun fr h=>by simp only [Ev.ev])
noncomputable def gY (o:bP):D→D→Hh→R D:=fun x y h=>R.of ((Ev.cop o x y h).map .bl) h
theorem Af {o:bP}{op:CmpOp}(ho:∀ X,Good G n sc N df X→dR X (compareOp op) (iy X.K (gY o))) (ha:JE G n sc N df m a xa) (hb:JE G n sc N df m b xb) (hm:behindInMarks op xb=false):JE G n sc N df m (.cmp o a b) (.Compare xa [op] [xb] pos):=
 fun X g=>PE.of (HV (ho X g) (ha X g) (hb X g) hm) (pC fun fr h=>by simp only [Ev.ev,gY])
theorem ki {o:bP}{x y d:D}{h h':Hh}(e:gY o x y h=.ok d h'):∃ k,Ev.cop o x y h=some k∧d=.bl k∧h'=h:=by
 unfold gY at e
 obtain ⟨e1,rfl⟩:=Ev.aK e
 cases z:Ev.cop o x y h' with
 | none=>rw [z] at e1;cases e1
 | some k=>rw [z] at e1;cases e1;exact ⟨k,rfl,rfl,rfl⟩
theorem mC {o:bP}{op:CmpOp}(ho:∀ X,Good G n sc N df X→dR X (compareOp op) (iy X.K (gY o))) (ha:JE G n sc N df m a xa) (hb:JE G n sc N df m b xb) (hm:behindInMarks op xb=false):JT G n sc N df m (.cmp o a b) (.Compare xa [op] [xb] pos):=
 fun X g=>PT.of (HW (ho X g) (ha X g) (hb X g) hm) fun s H Q q=>by
  obtain ⟨r,fr,h,k,h',sr,hr,e,q⟩:=q
  simp only [Ev.aL] at e
  obtain ⟨d,h1,e1,e⟩:=Ev.ah e
  have e0:=e1
  simp only [Ev.ev] at e0
  obtain ⟨x,h2,_,e0⟩:=Ev.ah e0
  obtain ⟨y,h3,_,e0⟩:=Ev.ah e0
  obtain ⟨k',e2,e3,e4⟩:=ki (o:=o) (show gY o x y h3=_ from e0)
  subst e3
  simp only [Ev.truthy] at e
  cases e
  refine pC (e':=.cmp o a b) (f:=gY o) (fun fr h=>by simp only [Ev.ev,gY]) s H _ ⟨r,fr,h,.bl k,_,sr,hr,e1,fun v H1 r1 v1 hr1 f1=>?_⟩
  exact ⟨k,v1,q H1 r1 hr1 f1⟩
end
end Sm
set_option maxRecDepth 100000
namespace Sm
open PySem PySem.Spec PyProof.Rows L2
open Ev (D O Hh Fr R aP E Es Eo It T S Ss Fl Src bZ bP TY BI ME)
section
variable {G:Tb}{n:Nat}{sc:Scope}{N:List Str}{df:Bool}{m:List Nat}{a b c:E}{xa xb xc:Expr}{pos:Pos}
theorem RH (ha:JE G n sc N df m a xa):JE G n sc N df m (.nt a) (.UnaryOp .Not xa pos):=fun X g=>PE.of (KQ (ha X g)) fun s H Q q=>by
 obtain ⟨r,fr,h,d,h',sr,hr,e,q⟩:=q
 simp only [Ev.ev] at e
 obtain ⟨x,h1,e1,e⟩:=Ev.ah e
 split at e
 ·cases e
  exact ⟨r,fr,h,_,_,sr,hr,e1,fun v H1 r1 v1 hr1 f1=>⟨_,v1,(q.later f1).here rfl hr1⟩⟩
 ·cases e
theorem LJ (ha:JE G n sc N df m a xa):JE G n sc N df m (.neg a) (.UnaryOp .USub xa pos):=fun X g=>PE.of (Rn K9 (ha X g)) fun s H Q q=>by
 obtain ⟨r,fr,h,d,h',sr,hr,e,q⟩:=q
 simp only [Ev.ev] at e
 obtain ⟨x,h1,e1,e⟩:=Ev.ah e
 split at e
 ·cases e
  exact ⟨r,fr,h,_,_,sr,hr,e1,fun v H1 r1 v1 hr1 f1=>⟨_,v1,(q.later f1).here rfl hr1⟩⟩
 ·cases e
theorem LK {op}(ha:JE G n sc N df m a xa):JE G n sc N df m a (.BoolOp op [xa] pos):=fun X g=>KO (ha X g)
theorem RI {rest:List Expr}(ha:JE G n sc N df m a xa) (hb:JE G n sc N df m b (.BoolOp .And (xb :: rest) pos)):JE G n sc N df m (.an a b) (.BoolOp .And (xa :: xb :: rest) pos):=fun X g=>PE.of (KP (ha X g) (hb X g)) fun s H Q q=>by
 obtain ⟨r,fr,h,d,h',sr,hr,e,q⟩:=q
 simp only [Ev.ev] at e
 obtain ⟨x,h1,e1,e⟩:=Ev.ah e
 refine ⟨r,fr,h,x,h1,sr,hr,e1,fun v H1 r1 v1 hr1 f1=>?_⟩
 split at e
 ·exact ⟨true,v1,r1,fr,h1,d,h',sr.mono f1,hr1,e,q.later f1⟩
 ·cases e
  exact ⟨false,v1,(q.later f1).here rfl hr1⟩
 ·cases e
theorem LL (ha:JT G n sc N df m a xa) (hb:JE G n sc N df m b xb) (hc:JE G n sc N df m c xc):JE G n sc N df m (.lO a b c) (.IfExp xa xb xc pos):=fun X g=>PE.of (Ck (ha X g) (hb X g) (hc X g)) fun s H Q q=>by
 obtain ⟨r,fr,h,d,h',sr,hr,e,q⟩:=q
 simp only [Ev.ev] at e
 obtain ⟨k,h1,e1,e⟩:=Ev.ah e
 refine ⟨r,fr,h,k,h1,sr,hr,e1,fun H1 r1 hr1 f1=>?_⟩
 cases k with
 | true=>exact ⟨r1,fr,h1,d,h',sr.mono f1,hr1,e,q.later f1⟩
 | false=>exact ⟨r1,fr,h1,d,h',sr.mono f1,hr1,e,q.later f1⟩
theorem LM (h:JW G n sc N df m a xa):JT G n sc N df m a xa:=fun X g=>(h X g).pt
theorem LN (ha:JT G n sc N df m a xa):JW G n sc N df m a (.BoolOp .And [xa] pos):=fun X g=>HM (ha X g)
theorem Iq (ha:JT G n sc N df m a xa):JW G n sc N df m a (.BoolOp .Or [xa] pos):=fun X g=>KJ (ha X g)
theorem Fg {rest:List Expr}(ha:JT G n sc N df m a xa) (hb:JW G n sc N df m b (.BoolOp .And (xb :: rest) pos)):JW G n sc N df m (.an a b) (.BoolOp .And (xa :: xb :: rest) pos):=fun X g=>PW.of (KL (ha X g) (hb X g)) fun s H Q q=>by
 obtain ⟨r,fr,h,k,h',sr,hr,e,q⟩:=q
 simp only [Ev.aL] at e
 obtain ⟨k1,h1,e1,e⟩:=Ev.ah e
 refine ⟨r,fr,h,k1,h1,sr,hr,e1,fun H1 r1 hr1 f1=>?_⟩
 cases k1 with
 | true=>exact ⟨r1,fr,h1,k,h',sr.mono f1,hr1,e,fun H2 r2 hr2 f2=>q H2 r2 hr2 (f1.trans f2)⟩
 | false=>
  have e':R.ok false h1=R.ok k h':=e
  cases e'
  exact q H1 r1 hr1 f1
theorem Ag {rest:List Expr}(ha:JT G n sc N df m a xa) (hb:JW G n sc N df m b (.BoolOp .Or (xb :: rest) pos)):JW G n sc N df m (.orr a b) (.BoolOp .Or (xa :: xb :: rest) pos):=fun X g=>PW.of (Rc (ha X g) (hb X g)) fun s H Q q=>by
 obtain ⟨r,fr,h,k,h',sr,hr,e,q⟩:=q
 simp only [Ev.aL] at e
 obtain ⟨k1,h1,e1,e⟩:=Ev.ah e
 refine ⟨r,fr,h,k1,h1,sr,hr,e1,fun H1 r1 hr1 f1=>?_⟩
 cases k1 with
 | false=>exact ⟨r1,fr,h1,k,h',sr.mono f1,hr1,e,fun H2 r2 hr2 f2=>q H2 r2 hr2 (f1.trans f2)⟩
 | true=>
  have e':R.ok true h1=R.ok k h':=e
  cases e'
  exact q H1 r1 hr1 f1
theorem RJ (ha:JT G n sc N df m a xa):JT G n sc N df m (.nt a) (.UnaryOp .Not xa pos):=fun X g=>PT.of (KN (ha X g)) fun s H Q q=>by
 obtain ⟨r,fr,h,k,h',sr,hr,e,q⟩:=q
 simp only [Ev.aL] at e
 obtain ⟨k1,h1,e1,e⟩:=Ev.ah e
 cases e
 exact ⟨r,fr,h,k1,_,sr,hr,e1,fun H1 r1 hr1 f1=>q H1 r1 hr1 f1⟩
theorem LO {K:PySem.W.Frag}{H:Hp}{r:List Addr}{h:Hh}{d:D}{v:V}{k:Bool}(hr:HR K H r h) (v1:RV K H r d v) (e:Ev.truthy h d=some k):Cs K v H k:=by
 cases d with
 | bD=>simp only [RV] at v1;subst v1;cases e;rfl
 | bl x=>simp only [RV] at v1;subst v1;cases e;rfl
 | int x=>simp only [RV] at v1;subst v1;cases e;rfl
 | str x=>
  simp only [RV] at v1
  obtain ⟨rfl,z⟩:=v1
  cases e
  refine ⟨by rw [cL];exact z,?_⟩
  rw [cL]
  cases x with
  | nil=>rfl
  | cons c l=>simp;omega
 | tup ds=>
  simp only [RV] at v1
  obtain ⟨p,vs,rfl,z,q⟩:=v1
  cases e
  refine .inr (.inl ⟨vs,z,?_⟩)
  have hl:=q.length
  cases ds <;> cases vs <;> simp_all
 | ref i=>
  simp only [RV] at v1
  obtain ⟨p,rfl,z⟩:=v1
  by_cases Uu:∃ kvs,h[i]?=some (.dct kvs)
  ·obtain ⟨kvs,e1⟩:=Uu
   simp only [Ev.truthy,e1] at e
   obtain ⟨p',z1,z2,_⟩:=hr.dct e1
   rw [z] at z1;cases z1
   refine .inr (.inr ⟨_,z2,?_⟩)
   cases e
   cases kvs <;> rfl
  have et:Ev.truthy h (.ref i)=(Ev.bu h i).map fun ds=>!ds.isEmpty:=by
   simp only [Ev.truthy]
   split
   ·rename_i kvs z;exact (Uu ⟨kvs,z⟩).elim
   ·rfl
  rw [et] at e
  simp only [Option.map_eq_some_iff] at e
  obtain ⟨ds,e1,rfl⟩:=e
  obtain ⟨p',vs,e2,q1,q2⟩:=hr.read e1
  rw [z] at e2;cases e2
  refine .inl ⟨vs,q1,?_⟩
  have hl:=q2.length
  cases ds <;> cases vs <;> simp_all
theorem LP (ha:JE G n sc N df m a xa) (he:∀ (P:aP) fr h,Ev.aL P a fr h=(Ev.ev P a fr h).bind fun x h1=>R.of (Ev.truthy h1 x) h1:=by intros;simp only [Ev.aL])
  (hx:∀ (env:Env) whole,isTrue xa env whole=(do let v ←whole;standAt xa.pos;holding [v] (truthy v)):=by intro _ _;rfl):JT G n sc N df m a xa:=fun X g=>PT.of (Ct (ha X g) (hx _)) fun s H Q q=>by
 obtain ⟨r,fr,h,k,h',sr,hr,e,q⟩:=q
 rw [he] at e
 obtain ⟨d,h1,e1,e⟩:=Ev.ah e
 obtain ⟨e,rfl⟩:=Ev.aK e
 refine ⟨r,fr,h,d,_,sr,hr,e1,fun v H1 r1 v1 hr1 f1=>⟨k,LO hr1 v1 e,q H1 r1 hr1 f1⟩⟩
noncomputable def LQ:D→D→Hh→R D:=fun x y h=>R.of (Ev.fq x y h) h
theorem RK (ho:∀ X,Good G n sc N df X→wk X (iy X.K LQ)) (ha:JE G n sc N df m a xa) (hb:JE G n sc N df m b xb) (hs:qB xb:=by intro _ _;rfl):JE G n sc N df m (.ix a b) (.Subscript xa xb pos):=
 fun X g=>PE.of (Rz (ho X g) (ha X g) (hb X g) hs) (pC fun fr h=>by simp only [Ev.ev,LQ])
theorem RL:JO G n sc N df m .no none:=fun X g=>PO.of Ia fun s H Q q=>by
 obtain ⟨r,fr,h,o,h',sr,hr,e,q⟩:=q
 simp only [Ev.fU] at e
 cases e
 exact q H r hr .refl
theorem LR (ha:JE G n sc N df m a xa):JO G n sc N df m (.yes a) (some xa):=fun X g=>PO.of (Ib (ha X g)) fun s H Q q=>by
 obtain ⟨r,fr,h,o,h',sr,hr,e,q⟩:=q
 simp only [Ev.fU] at e
 obtain ⟨d,h1,e1,e⟩:=Ev.ah e
 obtain ⟨e,rfl⟩:=Ev.aK e
 cases d with
 | int i=>
  cases e
  exact ⟨r,fr,h,.int i,_,sr,hr,e1,fun v H1 r1 v1 hr1 f1=>⟨i,v1,q H1 r1 hr1 f1⟩⟩
 | _=>cases e
theorem RM {lo hi:Eo}{xl xh:Option Expr}{p2}(ho:∀ X,Good G n sc N df X→kg X (LC X.K)) (ha:JE G n sc N df m a xa) (hl:JO G n sc N df m lo xl) (hu:JO G n sc N df m hi xh):JE G n sc N df m (.sl a lo hi) (.Subscript xa (.Slice xl xh none p2) pos):=
 fun X g=>PE.of (Cw (ho X g) (ha X g) (hl X g) (hu X g)) fun s H Q q=>by
  obtain ⟨r,fr,h,d,h',sr,hr,e,q⟩:=q
  simp only [Ev.ev] at e
  obtain ⟨x,h1,e1,e⟩:=Ev.ah e
  obtain ⟨l,h2,e2,e⟩:=Ev.ah e
  obtain ⟨u,h3,e3,e⟩:=Ev.ah e
  refine ⟨r,fr,h,x,h1,sr,hr,e1,fun v H1 r1 v1 hr1 f1=>?_⟩
  refine ⟨r1,fr,h1,l,h2,sr.mono f1,hr1,e2,fun H2 r2 hr2 f2=>?_⟩
  refine ⟨r2,fr,h2,u,h3,(sr.mono f1).mono f2,hr2,e3,fun H3 r3 iZ f3=>?_⟩
  exact ⟨r3,h3,x,d,h',iZ,(v1.mono f2).mono f3,e,q.later ((f1.trans f2).trans f3)⟩
theorem Ir {K:PySem.W.Frag}{P:aP}{es:Es}{f:List D→Hh→R D}{e':E}(he:∀ fr h,Ev.ev P e' fr h=(Ev.cg P es fr h).bind f) :
  ∀ s H Q,tJ K m P e' s H Q→Lf (tX K f) (LB K m P es) s H Q:=fun s H Q q=>by
 obtain ⟨r,fr,h,d,h',sr,hr,e,q⟩:=q
 rw [he] at e
 obtain ⟨ds,h1,e1,e⟩:=Ev.ah e
 exact ⟨r,fr,h,ds,h1,sr,hr,e1,fun vs H1 r1 v1 hr1 f1=>⟨r1,h1,ds,d,h',hr1,v1,e,q.later f1⟩⟩
theorem sH {k:BI}{es:Es}{x:Str}{id:String}{e0:Expr}{xs:List Expr}{p:Pos}(hc:∀ X,Good G n sc N df X→fR X (.builtin id) (tX X.K (Ev.cX k))) (hs:JA G n sc N df m es (e0 :: xs)) (hb:x∈G.bl:=by decide +kernel)
  (hg:sc.names.lookup x=some .globalImplicit:=by rfl) (hv:bootBuiltins x=some (.builtin id)) (hn:x≠"__name__" :=by decide) (hd:(x==("__debug__" : Str))=false:=by decide)
  (hst:∀ env:Env,starEach (e0 :: xs) env=(false,eval e0 env) :: starEach xs env:=by intro _;rfl) (hpl:∀ env:Env,(backTo pos (starEach xs env)).any (·.1)=false:=by intro _;rfl) :
  JE G n sc N df m (.bi k es) (.Call (.Name x p) (e0 :: xs) [] pos):=
 fun X g=>PE.of (Cu (hc X g) (g.gl hg) (g.bl x hb) hv (hs X g) hn hd (hst _) (hpl _)) (Ir fun fr h=>by simp only [Ev.ev])
theorem RN {f:Nat}{i:FI}{es:Es}{e0:Expr}{xs:List Expr}{p:Pos}(hf:G.fi[f]?=some i) (hs:JA G n sc N df m es (e0 :: xs))
  (hg:sc.names.lookup i.name=some .globalImplicit:=by rfl) (hd:(i.name==("__debug__" : Str))=false:=by decide)
  (hst:∀ env:Env,starEach (e0 :: xs) env=(false,eval e0 env) :: starEach xs env:=by intro _;rfl) (hpl:∀ env:Env,(backTo pos (starEach xs env)).any (·.1)=false:=by intro _;rfl) :
  JE G n sc N df m (.cl f es) (.Call (.Name i.name p) (e0 :: xs) [] pos):=fun X g=>by
 obtain ⟨h1,h2,h3,h4⟩:=g.fn f i hf
 refine PE.of (HX h4 g.room (g.gl hg) h1 h2 h3 .nil RB (hs X g) hd (hst _) (hpl _)) fun s H Q q=>?_
 obtain ⟨r,fr,h,d,h',sr,hr,e,q⟩:=q
 simp only [Ev.ev] at e
 obtain ⟨ds,h5,e1,e⟩:=Ev.ah e
 refine ⟨r,fr,h,ds,h5,sr,hr,e1,fun vs H1 r1 v1 hr1 f1=>?_⟩
 exact ⟨r1,h5,ds,d,h',by rw [List.append_nil];exact v1,hr1,e,q.later f1⟩
noncomputable def CL:ME→String
 | .join=>"str"
 | _=>"list"
theorem Ah {K:PySem.W.Frag}{H:Hp}{r:List Addr}{h:Hh}{k:ME}{d:D}{v:V}{ty:String}(hr:HR K H r h) (v1:RV K H r d v) (e:Ev.wu k d h=true) (ht:ty=CL k):zW K ty v H:=by
 subst ht
 have lst:∀ i,d=.ref i→(Ev.bu h i).isSome=true→zW K "list" v H:=fun i ed es=>by
  subst ed
  obtain ⟨ds,e1⟩:=Option.isSome_iff_exists.mp es
  obtain ⟨p,vs,e2,q1,q2⟩:=hr.read e1
  simp only [RV] at v1
  obtain ⟨p',rfl,e3⟩:=v1
  rw [e2] at e3;cases e3
  exact .inl ⟨rfl,vs,q1⟩
 cases k with
 | join=>
  cases d with
  | str l=>simp only [RV] at v1;obtain ⟨rfl,_⟩:=v1;rfl
  | _=>cases e
 | append=>cases d with | ref i=>exact lst i rfl e | _=>cases e
 | extend=>cases d with | ref i=>exact lst i rfl e | _=>cases e
 | pop=>cases d with | ref i=>exact lst i rfl e | _=>cases e
theorem ym {k:ME}{es:Es}{e0:Expr}{xs:List Expr}{name:Str}{apos:Pos}{ty id:String}(pa:PlainAttrs ty) (slot:Slot ty name id) (hty:typeOf (.builtin id)=pure (.type "method_descriptor"))
  (hm:∀ X,Good G n sc N df X→rE X id (tY X.K (Ev.eW k))) (ht:ty=CL k) (ha:JE G n sc N df m a xa) (hs:JA G n sc N df m es (e0 :: xs))
  (hbase:∀ env:Env,attributeBase xa name env (eval xa env)=eval xa env:=by intro _;rfl)
  (hfew:∀ env:Env,((backTo pos (starEach (e0 :: xs) env)).all (fun x=>!x.1)&&(backToKw pos (keywordEach [] env)).all (fun x=>x.1.isSome)
   &&decide ((e0 :: xs).length+([]:List Keyword).length+(if ([]:List Keyword).isEmpty then 0 else 1)<30))=true:=by intro _;rfl)
  (hline:(apos.endLine==pos.line)=true:=by rfl) (hst:∀ env:Env,starEach (e0 :: xs) env=(false,eval e0 env) :: starEach xs env:=by intro _;rfl) (hpl:∀ env:Env,(backTo pos (starEach xs env)).any (·.1)=false:=by intro _;rfl) :
  JE G n sc N df m (.me k a es) (.Call (.Attribute xa name apos) (e0 :: xs) [] pos):=fun X g=>
 PE.of (RA pa slot hty (hm X g) (ha X g) (hs X g) (hbase _) (hfew _) hline (hst _) (hpl _)) fun s H Q q=>by
  obtain ⟨r,fr,h,d,h',sr,hr,e,q⟩:=q
  simp only [Ev.ev] at e
  obtain ⟨x,h1,e1,e⟩:=Ev.ah e
  split at e
  ·rename_i hk
   obtain ⟨ds,h2,e2,e⟩:=Ev.ah e
   refine ⟨r,fr,h,x,h1,sr,hr,e1,fun v H1 r1 v1 hr1 f1=>⟨Ah hr1 v1 hk ht,?_⟩⟩
   refine ⟨r1,fr,h1,ds,h2,sr.mono f1,hr1,e2,fun vs H2 r2 v2 hr2 f2=>?_⟩
   exact ⟨r2,h2,x,ds,d,h',hr2,v1.mono f2,v2,e,q.later (f1.trans f2)⟩
  ·cases e
theorem LS {k:ME}{name:Str}{apos:Pos}{ty id:String}(pa:PlainAttrs ty) (slot:Slot ty name id) (hty:typeOf (.builtin id)=pure (.type "method_descriptor"))
  (hm:∀ X,Good G n sc N df X→rE X id (tY X.K (Ev.eW k))) (ht:ty=CL k) (ha:JE G n sc N df m a xa)
  (hbase:∀ env:Env,attributeBase xa name env (eval xa env)=eval xa env:=by intro _;rfl) (hline:(apos.endLine==pos.line)=true:=by rfl) :
  JE G n sc N df m (.me k a .nil) (.Call (.Attribute xa name apos) [] [] pos):=fun X g=>
 PE.of (Ll pa slot hty (hm X g) (ha X g) (hbase _) hline) fun s H Q q=>by
  obtain ⟨r,fr,h,d,h',sr,hr,e,q⟩:=q
  simp only [Ev.ev] at e
  obtain ⟨x,h1,e1,e⟩:=Ev.ah e
  split at e
  ·rename_i hk
   simp only [Ev.cg,Ev.ak] at e
   refine ⟨r,fr,h,x,h1,sr,hr,e1,fun v H1 r1 v1 hr1 f1=>⟨Ah hr1 v1 hk ht,?_⟩⟩
   exact ⟨r1,h1,x,[],d,h',hr1,v1,.nil,e,q.later f1⟩
  ·cases e
end
end Sm
set_option maxRecDepth 100000
namespace Sm
open PySem PySem.Spec PyProof.Rows L2
open Ev (D O Hh Fr R aP E Es Eo T S Ss Fl Src bZ bP TY BI ME)
noncomputable def oH (K:PySem.W.Frag) (r0:List Addr) (H0:Hp) (s:Src) (J:L2.It):Prop:=∀ (i:Nat) H1 r1 h1,HR K H1 r1 h1→Fm K r0 r1 H0 H1→Ev.stays h1 s.2=true→
 (∀ d,s.1[i]?=some d→J.go i H1∧∀ x H2,J.E9 i H1 x H2→∃ r2,RV K H2 r2 d x∧HR K H2 r2 h1∧Fm K r1 r2 H1 H2)∧(s.1.length≤i→J.stop i H1)
inductive Uv (K:PySem.W.Frag) (m:List Nat) (P:aP) (it:Ev.It) (s:L2.St) (H:Hp) (Rr:L2.It→Hp→Prop):Prop
 | mk (r:List Addr) (fr:Fr) (h:Hh) (src:Src) (h':Hh) (c0:SR K m H r fr s) (c1:HR K H r h) (c2:Ev.cy P it fr h=.ok src h') (c3:∀ J H' r',HR K H' r' h'→Fm K r r' H H'→oH K r' H' src J→Rr J H'):Uv K m P it s H Rr
noncomputable def JI (G:Tb) (n:Nat) (sc:Scope) (N:List Str) (df:Bool) (m:List Nat) (it:Ev.It) (tg x:Expr):Prop:=∀ X,Good G n sc N df X→PI X tg x (Uv X.K m (Ev.run G.F G.w n) it)
noncomputable def Fi (z:Str):L2.It:=⟨fun i _=>i<z.length,fun i H x H'=>H'=H∧∃ c,z.cps[i]?=some c∧x=.str ⟨#[c]⟩,fun i _=>z.length≤i⟩
theorem LU {M:Model}{A:Around}{E:Value→Shared→Prop}{s:Shared}{tg:Expr}{it:Value}{x:Str}{t:Tok}{Q:Unit→Shared→Prop}(hQ:Q () s):wpAny M A (letOwnedTupleGo tg it (.str x t)) Q E s:=by
 unfold letOwnedTupleGo
 cases tg <;> first
  | exact wpAny_pure hQ
  | (cases it <;> exact wpAny_pure hQ)
theorem t6 {P:Program}{w:World}{K:PySem.W.Frag}{tg:Expr}(z:Str) (t:Tok) (it:Addr) (ty:String) (hty:ty = "str_ascii_iterator" ∨ty = "str_iterator") :
  Turn P w K tg (Fi z) [it] it (fun i h=>h.IsStrIter it ty z t i) where
 mem:=by simp
 obj:=fun i h st b hb=>by
  have e:b=it:=by simpa using hb
  subst e
  obtain ⟨o,e,c,d⟩:=st
  exact ⟨o,e,fun v z=>by rw [d] at z;cases z⟩
 keep:=fun i h h' st k=>by
  obtain ⟨o,e,c,d⟩:=st
  exact ⟨o,k it (by simp) o e,c,d⟩
 item:=by
  intro X hP hw hK hc i pins s σ H E I hf st hg
  subst hP hw hK
  obtain ⟨f0,f1,f2,f3,f4,f5⟩:=hf it (by simp)
  have W:Walks X.prog X.w X.A it [it] [it] z.cps.size (SignAt z) (fun i h=>h.IsStrIter it ty z t i):=by
   rcases hty with e | e
   ·subst e;exact Walks.strAscii (I.ok.hd hc) it z t
   ·subst e;exact Walks.strWide (I.ok.hd hc) it z t
  refine W.item i s _ _ hg st fun v h' tk hv st' kk=>?_
  obtain ⟨c,u,hc',rfl⟩:=hv
  have I1:Inv X pins σ H { s with heap:=h',toks:=tk }:=I.turned (fun b o hb e=>kk b o (by simpa using hb) e) f0 f1 f3 f4 f5
  exact ⟨_,rfl,LU ⟨.str ⟨#[c]⟩,H,I1,⟨u,rfl⟩,⟨rfl,c,hc',rfl⟩,st',fun b hb=>(hf b hb).1⟩⟩
 done:=by
  intro X hP hw hK hc i pins s σ H E I hf st hg
  subst hP hw hK
  obtain ⟨f0,f1,f2,f3,f4,f5⟩:=hf it (by simp)
  rcases hty with e | e
  ·subst e
   exact wpAny_pyNext_ascii_end (I.ok.hd hc) st (by simpa [Str.length,Fi] using hg) fun h' eb=>⟨rfl,I.turned (t':=s.toks) (fun b o hb e=>eb b o hb e) f0 f1 f3 f4 f5⟩
  ·subst e
   exact wpAny_pyNext_wide_end (I.ok.hd hc) st (by simpa [Str.length,Fi] using hg) fun h' eb=>⟨rfl,I.turned (t':=s.toks) (fun b o hb e=>eb b o hb e) f0 f1 f3 f4 f5⟩
 self:=fun _ _ _ _ _ st h=>by
  rcases hty with e | e
  ·subst e;exact wpAny_pyIter_striter_ascii st h
  ·subst e;exact wpAny_pyIter_striter_wide st h
noncomputable def Fj (K:PySem.W.Frag) (x:V) (H:Hp) (Rr:L2.It→Hp→Prop):Prop:=
 (∃ a xs,x=.ref a∧dJ K H a xs∧Rr (Um K a) H)∨(∃ a xs,x=.ref a∧di K H a xs∧Rr (Uo K a) H)∨∃ z,x=.str z∧Rr (Fi z) H
theorem LV {X:Cx}{tg l:Expr}{tl:TE}{wi:TI}(hl:PE X l tl) (hw:∀ s H Rr,wi s H Rr→tl s H fun x H1=>Fj X.K x H1 Rr):PI X tg l wi:=by
 intro pins s σ H Rr I h
 refine bB (hl pins s σ H _ I (hw _ _ _ h)) fun v s1 ⟨x,H1,I1,r1,q1⟩=>?_
 have fp:∀ (o:Obj) b,b∈[s1.heap.objs.size]→gw X pins H1 b:=fun o b hb=>by
  have e:b=s1.heap.objs.size:=by simpa using hb
  subst e
  exact I1.xU (Nat.le_refl _) (I1.hok.fresh (Nat.le_refl _))
 rcases q1 with ⟨a,xs,rfl,hq,q⟩ | ⟨a,xs,rfl,hq,q⟩ | ⟨z,rfl,q⟩
 ·cases r1
  obtain ⟨its,rv,p,hz⟩:=I1.list hq
  refine wpAny_pyIter_list p.isList ?_
  exact ⟨s1.heap.objs.size,[s1.heap.objs.size],_,_,H1,rfl,I1.kept (t':=s1.toks) fun b o e=>Heap.get?_push_of_some _ e,zO a _,⟨_,Heap.get?_push_size _ rfl,rfl,rfl⟩,fp default,q⟩
 ·cases r1
  obtain ⟨its,rv,p,hz⟩:=I1.tuple hq
  refine wpAny_pyIter_tuple (show s1.heap.IsTuple a its.toArray from p) ?_
  exact ⟨s1.heap.objs.size,[s1.heap.objs.size],_,_,H1,rfl,I1.kept (t':=s1.toks) fun b o e=>Heap.get?_push_of_some _ e,xW a _,⟨_,Heap.get?_push_size _ rfl,rfl,rfl⟩,fp default,q⟩
 ·obtain ⟨t,rfl⟩:=r1
  cases ha:z.cps.all (· < 128)
  ·refine wpAny_pyIter_wide ha ?_
   exact ⟨s1.heap.objs.size,[s1.heap.objs.size],_,_,H1,rfl,I1.kept (t':=s1.toks) fun b o e=>Heap.get?_push_of_some _ e,t6 z t _ _ (.inr rfl),⟨_,Heap.get?_push_size _ rfl,rfl,rfl⟩,fp default,q⟩
  ·refine wpAny_pyIter_ascii ha ?_
   exact ⟨s1.heap.objs.size,[s1.heap.objs.size],_,_,H1,rfl,I1.kept (t':=s1.toks) fun b o e=>Heap.get?_push_of_some _ e,t6 z t _ _ (.inl rfl),⟨_,Heap.get?_push_size _ rfl,rfl,rfl⟩,fp default,q⟩
theorem mD {h:Hh}{n:Nat}{ds:List D}(e:Ev.stays h [(n,ds)]=true):Ev.bu h n=some ds:=by
 simp only [Ev.stays,Bool.and_true] at e
 split at e
 ·rename_i es q
  rw [q,(Ev.rJ _ _).mp e]
 ·cases e
theorem Iu {K:PySem.W.Frag}{H:Hp}{r:List Addr}{h:Hh}{d:D}{v:V}{src:Src}{Rr:L2.It→Hp→Prop}(hr:HR K H r h) (v1:RV K H r d v) (e:Ev.er h d=some src) (q:∀ J,oH K r H src J→Rr J H):Fj K v H Rr:=by
 cases d with
 | tup ds=>
  simp only [RV] at v1
  obtain ⟨a,vs,rfl,z,w⟩:=v1
  cases e
  refine .inr (.inl ⟨a,vs,rfl,z,q _ fun i H1 r1 h1 hr1 f1 st=>⟨fun d' e'=>?_,fun hl=>?_⟩⟩)
  ·obtain ⟨u,e1,e2⟩:=w.get e'
   refine ⟨⟨vs,u,f1.tups _ _ z,e1⟩,fun x H2 y=>?_⟩
   obtain ⟨rfl,y⟩:=y
   have:=y vs (f1.tups _ _ z)
   rw [e1] at this;cases this
   exact ⟨r1,e2.mono f1,hr1,.refl⟩
  ·exact ⟨vs,f1.tups _ _ z,by rw [w.length];exact hl⟩
 | str l=>
  simp only [RV] at v1
  obtain ⟨rfl,z⟩:=v1
  cases e
  refine .inr (.inr ⟨_,rfl,q _ fun i H1 r1 h1 hr1 f1 st=>⟨fun d' e'=>?_,fun hl=>?_⟩⟩)
  ·rw [List.getElem?_map] at e'
   cases e2:l[i]? with
   | none=>rw [e2] at e';cases e'
   | some c=>
    rw [e2] at e'
    cases e'
    refine ⟨by show i<(aN l).length;rw [cL];exact (List.getElem?_eq_some_iff.mp e2).1,fun x H2 y=>?_⟩
    obtain ⟨rfl,c',y1,rfl⟩:=y
    have e3:(aN l).cps[i]?=some c:=by simp [aN,e2]
    rw [e3] at y1;cases y1
    exact ⟨r1,⟨rfl,by show 1≤sizeLine;decide⟩,hr1,.refl⟩
  ·show (aN l).length≤i
   rw [cL];simpa using hl
 | ref k=>
  simp only [RV] at v1
  obtain ⟨a,rfl,z⟩:=v1
  simp only [Ev.er,Option.map_eq_some_iff] at e
  obtain ⟨ds,e1,rfl⟩:=e
  obtain ⟨a',vs,e2,e3,e4⟩:=hr.read e1
  rw [z] at e2;cases e2
  refine .inl ⟨a,vs,rfl,e3,q _ fun i H1 r1 h1 hr1 f1 st=>?_⟩
  obtain ⟨a',us,e5,e6,e7⟩:=hr1.read (mD st)
  rw [f1.pre _ _ z] at e5;cases e5
  refine ⟨fun d' e'=>?_,fun hl=>⟨us,e6,by rw [e7.length];exact hl⟩⟩
  obtain ⟨u,g1,g2⟩:=e7.get e'
  refine ⟨⟨us,u,e6,g1⟩,fun x H2 y=>?_⟩
  obtain ⟨rfl,y⟩:=y
  have:=y us e6
  rw [g1] at this;cases this
  exact ⟨r1,g2,hr1,.refl⟩
 | _=>cases e
section
variable {G:Tb}{n:Nat}{sc:Scope}{N:List Str}{df:Bool}{m:List Nat}{a b c:E}{xa xb xc tg:Expr}{pos:Pos}
theorem LW (ha:JE G n sc N df m a xa):JI G n sc N df m (.seq a) tg xa:=fun X g=>LV (ha X g) fun s H Rr q=>by
 obtain ⟨r,fr,h,src,h',sr,hr,e,q⟩:=q
 simp only [Ev.cy] at e
 obtain ⟨d,h1,e1,e⟩:=Ev.ah e
 obtain ⟨e,rfl⟩:=Ev.aK e
 refine ⟨r,fr,h,d,_,sr,hr,e1,fun v H1 r1 v1 hr1 f1=>?_⟩
 exact Iu hr1 v1 e fun J hJ=>q J H1 r1 hr1 f1 hJ
theorem PI.of {X:Cx}{tg l:Expr}{t t':TI}(h:PI X tg l t) (w:∀ s H Q,t' s H Q→t s H Q):PI X tg l t':=fun pins s σ H Q I q=>h pins s σ H Q I (w _ _ _ q)
theorem LX {K:PySem.W.Frag}{r:List Addr}{H:Hp}(lo:Int) (k:Nat):oH K r H (Ev.range lo k,[]) (Fb lo k):=fun i H1 r1 h1 hr1 f1 st=>by
 refine ⟨fun d e=>?_,fun hl=>?_⟩
 ·simp only [Ev.range,List.getElem?_map] at e
  cases e2:(List.range k)[i]? with
  | none=>rw [e2] at e;cases e
  | some j=>
   rw [e2] at e
   cases e
   have hi:i<k:=by simpa using (List.getElem?_eq_some_iff.mp e2).1
   have hj:j=i:=by
    rw [List.getElem?_range hi] at e2
    exact (Option.some.inj e2).symm
   subst hj
   refine ⟨hi,fun x H2 y=>?_⟩
   obtain ⟨rfl,rfl⟩:=y
   exact ⟨r1,rfl,hr1,.refl⟩
 ·have:(Ev.range lo k).length=k:=by simp [Ev.range]
  show k≤i
  have hl':(Ev.range lo k).length≤i:=hl
  omega
theorem Iv {e1:E}{p:Pos}(hs:JA G n sc N df m (.cons e1 .nil) [xa]) (hg:sc.names.lookup ("range" : Str)=some .globalImplicit:=by rfl) (hb:("range" : Str)∈G.bl:=by decide +kernel)
  (hst:∀ env:Env,starEach [xa] env=[(false,eval xa env)]:=by intro _;rfl):JI G n sc N df m (.gy (.cons e1 .nil)) tg (.Call (.Name "range" p) [xa] [] pos):=fun X g=>
 PI.of (zP (g.gl hg) (g.bl _ hb) (hs X g) (hst _)) fun s H Rr q=>by
  obtain ⟨r,fr,h,src,h',sr,hr,e,q⟩:=q
  simp only [Ev.cy] at e
  obtain ⟨ds,h1,e1,e⟩:=Ev.ah e
  obtain ⟨e,rfl⟩:=Ev.aK e
  refine ⟨r,fr,h,ds,_,sr,hr,e1,fun vs H1 r1 v1 hr1 f1=>?_⟩
  unfold Ev.dO at e
  split at e
  ·rename_i j
   split at e
   ·rename_i hj
    cases e
    simp only [aH,RV] at v1
    obtain ⟨v,w,rfl,rfl,rfl⟩:=v1
    exact ⟨_,rfl,hj.1,hj.2,q _ H1 r1 hr1 f1 (LX 0 _)⟩
   ·cases e
  ·exfalso
   simp only [Ev.cg] at e1
   obtain ⟨d,_,_,e1⟩:=Ev.ah e1
   simp only [Ev.ak] at e1
   cases e1
  ·cases e
inductive gJ (K:PySem.W.Frag) (m:List Nat) (t:T) (v:V) (s:L2.St) (H:Hp) (Q:L2.St→Hp→Prop):Prop
 | mk (r:List Addr) (fr:Fr) (h:Hh) (d:D) (aj:Fr) (c0:SR K m H r fr s) (c1:HR K H r h) (c2:RV K H r d v) (c3:Ev.bH t d fr=some aj) (c4:∀ s',SR K m H r aj s'→Q s' H):gJ K m t v s H Q
noncomputable def JG (G:Tb) (n:Nat) (sc:Scope) (N:List Str) (df:Bool) (m:List Nat) (t:T) (x:Expr):Prop:=∀ X,Good G n sc N df X→PG X x (gJ X.K m t)
theorem PG.of {X:Cx}{e:Expr}{t t':TG}(h:PG X e t) (w:∀ v s H Q,t' v s H Q→t v s H Q):PG X e t':=fun pins s σ H v u Q I r q=>h pins s σ H v u Q I r (w _ _ _ _ q)
theorem SR.set {K:PySem.W.Frag}{m:List Nat}{H:Hp}{r:List Addr}{fr:Fr}{s:L2.St}(sr:SR K m H r fr s) (hm:m.Nodup) {j i:Nat}(hj:m[j]?=some i) {d:D}{v:V}(v1:RV K H r d v):SR K m H r (fr.set i (some d)) (s.set j (some v)):=by
 refine ⟨by simp [sr.len],fun j' i' d' e1 e2=>?_⟩
 by_cases hi:i'=i
 ·subst hi
  have:j'=j:=Ai hm e1 hj
  subst this
  have hlt:i'<fr.length:=by
   have:=(List.getElem?_eq_some_iff.mp e2).1
   simpa using this
  rw [List.getElem?_set_self hlt] at e2
  cases e2
  refine ⟨v,List.getElem?_set_self ?_,v1⟩
  rw [sr.len]
  exact (List.getElem?_eq_some_iff.mp hj).1
 ·rw [List.getElem?_set_ne (fun z=>hi z.symm)] at e2
  obtain ⟨u,q1,q2⟩:=sr.sl j' i' d' e1 e2
  refine ⟨u,?_,q2⟩
  rw [List.getElem?_set_ne]
  ·exact q1
  ·intro z
   subst z
   rw [hj] at e1;cases e1
   exact hi rfl
where
 Ai {l:List Nat} (hl:l.Nodup) {i j:Nat} {x:Nat} (a:l[i]?=some x) (b:l[j]?=some x):i=j:=by
  have ha:=(List.getElem?_eq_some_iff.mp a)
  have hb:=(List.getElem?_eq_some_iff.mp b)
  obtain ⟨h1,e1⟩:=ha
  obtain ⟨h2,e2⟩:=hb
  exact (List.getElem_inj hl).mp (e1.trans e2.symm)
theorem Good.loc {X:Cx}(g:Good G n sc N df X) {x:Str}(h:sc.names.lookup x=some .local∨(df=true∧sc.names.lookup x=some .cell)):Loc X.env.scope x∧(X.fn x=true∨X.env.scope.names.lookup x=some .local):=by
 rw [show Loc X.env.scope x↔Loc sc x by rw [g.sc],g.sc]
 rcases h with h | ⟨h1,h⟩
 ·exact ⟨.inl h,.inr h⟩
 ·exact ⟨.inr h,.inl (g.own h1 x)⟩
theorem LY (j i:Nat) {x:Str}(hm:m.Nodup) (hN:N.Nodup) (hj:m[j]?=some i:=by rfl) (rK:N[j]?=some x:=by rfl)
  (hl:sc.names.lookup x=some .local∨(df=true∧sc.names.lookup x=some .cell):=by first | exact Or.inl rfl | exact Or.inr ⟨rfl,rfl⟩):JG G n sc N df m (.one i) (.Name x pos):=fun X g=>by
 obtain ⟨h1,h2⟩:=g.loc hl
 refine PG.of (wc (i:=j) (by rw [g.nm];exact hN) (by rw [g.nm];exact rK) h1 h2) fun v s H Q q=>?_
 obtain ⟨r,fr,h,d,aj,sr,hr,v1,e,q⟩:=q
 cases e
 exact q _ (sr.set hm hj v1)
inductive Uw (K:PySem.W.Frag) (m:List Nat) (l:List Nat) (vs:List V) (s:L2.St) (H:Hp) (Q:L2.St→Hp→Prop):Prop
 | mk (r:List Addr) (fr:Fr) (h:Hh) (ds:List D) (aj:Fr) (c0:SR K m H r fr s) (c1:HR K H r h) (c2:aH K H r ds vs) (c3:Ev.cI l ds fr=some aj) (c4:∀ s',SR K m H r aj s'→Q s' H):Uw K m l vs s H Q
noncomputable def rL (G:Tb) (n:Nat) (sc:Scope) (N:List Str) (df:Bool) (m:List Nat) (l:List Nat) (xs:List Expr):Prop:=∀ X,Good G n sc N df X→nL X xs (Uw X.K m l)
theorem nL.of {X:Cx}{e:List Expr}{t t':rj}(h:nL X e t) (w:∀ v s H Q,t' v s H Q→t v s H Q):nL X e t':=fun pins s σ H v u Q I r q=>h pins s σ H v u Q I r (w _ _ _ _ q)
theorem Iw:rL G n sc N df m [] []:=fun X g=>nL.of HS fun vs s H Q q=>by
 obtain ⟨r,fr,h,ds,aj,sr,hr,v1,e,q⟩:=q
 cases ds with
 | nil=>simp only [aH] at v1;subst v1;cases e;exact ⟨rfl,q _ sr⟩
 | cons _ _=>cases e
theorem CM (j i:Nat) {x:Str}{l:List Nat}{xs:List Expr}(hm:m.Nodup) (hN:N.Nodup) (hs:rL G n sc N df m l xs) (hj:m[j]?=some i:=by rfl) (rK:N[j]?=some x:=by rfl)
  (hl:sc.names.lookup x=some .local∨(df=true∧sc.names.lookup x=some .cell):=by first | exact Or.inl rfl | exact Or.inr ⟨rfl,rfl⟩)
  (hst:∀ env:Env,(assignEach (.Name x pos :: xs) env).map (·.2)=assign (.Name x pos) env :: (assignEach xs env).map (·.2):=by intro _;rfl):rL G n sc N df m (i :: l) (.Name x pos :: xs):=fun X g=>by
 obtain ⟨h1,h2⟩:=g.loc hl
 refine nL.of (Co (wc (i:=j) (by rw [g.nm];exact hN) (by rw [g.nm];exact rK) h1 h2) (hs X g) (hst _)) fun vs s H Q q=>?_
 obtain ⟨r,fr,h,ds,aj,sr,hr,v1,e,q⟩:=q
 cases ds with
 | nil=>cases e
 | cons d ds=>
  simp only [aH] at v1
  obtain ⟨v,w,rfl,v2,v3⟩:=v1
  exact ⟨v,w,rfl,r,_,h,ds,aj,sr.set hm hj v2,hr,v3,e,q⟩
theorem Iz {l:List Nat}{xs:List Expr}{k:Nat}(hs:rL G n sc N df m l xs) (hn:∀ env:Env,(assignEach xs env).length=l.length:=by intro _;rfl) (hst:∀ env:Env,(assignEach xs env).findIdx? (·.1)=none:=by intro _;rfl) :
  JG G n sc N df m (.many l) (.Tuple xs k pos):=fun X g=>PG.of (KU (n:=l.length) g.calm (hs X g) (hn _) (hst _)) fun v s H Q q=>by
 obtain ⟨r,fr,h,d,aj,sr,hr,v1,e,q⟩:=q
 cases d with
 | tup ds=>
  simp only [RV] at v1
  obtain ⟨p,vs,rfl,z,w⟩:=v1
  have hlen:∀ (l:List Nat) (ds:List D) fr aj,Ev.cI l ds fr=some aj→ds.length=l.length:=by
   intro l
   induction l with
   | nil=>intro ds fr aj e;cases ds with | nil=>rfl | cons _ _=>cases e
   | cons i l ih=>intro ds fr aj e;cases ds with | nil=>cases e | cons d ds=>simp [ih ds _ _ e]
  exact ⟨p,vs,rfl,z,by rw [w.length];exact hlen _ _ _ _ e,r,fr,h,ds,aj,sr,hr,w,e,q⟩
 | _=>cases e
end
end Sm
set_option maxRecDepth 100000
namespace Sm
open PySem PySem.Spec PyProof.Rows L2
open Ev (D O Hh Fr R aP E Es Eo T S Ss Fl Src bZ bP TY BI ME)
noncomputable def Fin (K:PySem.W.Frag) (m:List Nat) (r:List Addr) (H:Hp) (h':Hh) (fl:Fl) (aj:Fr) (Q:Ends):Prop:=match fl with
 | .nx=>∀ s' H' r',SR K m H' r' aj s'→HR K H' r' h'→Fm K r r' H H'→Q.nx s' H'
 | .bk=>∀ s' H' r',SR K m H' r' aj s'→HR K H' r' h'→Fm K r r' H H'→Q.bk s' H'
 | .ct=>∀ s' H' r',SR K m H' r' aj s'→HR K H' r' h'→Fm K r r' H H'→Q.ct s' H'
 | .ret d=>Res K r H h' d Q.rt
theorem Fin.later {K:PySem.W.Frag}{m:List Nat}{r r':List Addr}{H H':Hp}{h':Hh}{fl:Fl}{aj:Fr}{Q:Ends}(q:Fin K m r H h' fl aj Q) (f:Fm K r r' H H'):Fin K m r' H' h' fl aj Q:=by
 cases fl with
 | nx=>exact fun s2 H2 r2 a b g=>q s2 H2 r2 a b (f.trans g)
 | bk=>exact fun s2 H2 r2 a b g=>q s2 H2 r2 a b (f.trans g)
 | ct=>exact fun s2 H2 r2 a b g=>q s2 H2 r2 a b (f.trans g)
 | ret d=>exact Res.later q f
inductive Ux (K:PySem.W.Frag) (m:List Nat) (P:aP) (w:Nat) (st:S) (Q:Ends) (s:L2.St) (H:Hp):Prop
 | mk (r:List Addr) (fr:Fr) (h:Hh) (fl:Fl) (aj:Fr) (h':Hh) (c0:SR K m H r fr s) (c1:HR K H r h) (c2:Ev.ex P w st fr h=.ok (fl,aj) h') (c3:Fin K m r H h' fl aj Q):Ux K m P w st Q s H
inductive CN (K:PySem.W.Frag) (m:List Nat) (P:aP) (w:Nat) (ss:Ss) (Q:Ends) (s:L2.St) (H:Hp):Prop
 | mk (r:List Addr) (fr:Fr) (h:Hh) (fl:Fl) (aj:Fr) (h':Hh) (c0:SR K m H r fr s) (c1:HR K H r h) (c2:Ev.exs P w ss fr h=.ok (fl,aj) h') (c3:Fin K m r H h' fl aj Q):CN K m P w ss Q s H
theorem PS.of {X:Cx}{st:Stmt}{t t':TS}(h:PS X st t) (w:∀ Q s H,t' Q s H→t Q s H):PS X st t':=fun pins s σ H Q I q=>h pins s σ H Q I (w _ _ _ q)
theorem iu.of {X:Cx}{st:List Stmt}{t t':TS}(h:iu X st t) (w:∀ Q s H,t' Q s H→t Q s H):iu X st t':=fun pins s σ H Q I q=>h pins s σ H Q I (w _ _ _ q)
section
variable (G:Tb)(n:Nat)(sc:Scope)(N:List Str)(df:Bool)(m:List Nat)
noncomputable def JS (st:S) (x:Stmt):Prop:=∀ X,Good G n sc N df X→PS X x (Ux X.K m (Ev.run G.F G.w n) G.w st)
noncomputable def lQ (ss:Ss) (xs:List Stmt):Prop:=∀ X,Good G n sc N df X→iu X xs (CN X.K m (Ev.run G.F G.w n) G.w ss)
end
section
variable {G:Tb}{n:Nat}{sc:Scope}{N:List Str}{df:Bool}{m:List Nat}{a b c:E}{xa xb xc tg:Expr}{pos:Pos}
theorem IA:lQ G n sc N df m .nil []:=fun X g=>iu.of HN fun Q s H q=>by
 obtain ⟨r,fr,h,fl,aj,h',sr,hr,e,q⟩:=q
 simp only [Ev.exs] at e
 cases e
 exact q s H r sr hr .refl
theorem CO {st:S}{ss:Ss}{x:Stmt}{xs:List Stmt}(h1:JS G n sc N df m st x) (h2:lQ G n sc N df m ss xs):lQ G n sc N df m (.cons st ss) (x :: xs):=fun X g=>iu.of (Cm (h1 X g) (h2 X g)) fun Q s H q=>by
 obtain ⟨r,fr,h,fl,aj,h',sr,hr,e,q⟩:=q
 simp only [Ev.exs] at e
 obtain ⟨⟨gH,af⟩,h1,e1,e⟩:=Ev.ah e
 refine ⟨r,fr,h,gH,af,h1,sr,hr,e1,?_⟩
 cases gH with
 | nx=>exact fun s1 H1 r1 Aj hr1 f1=>⟨r1,af,h1,fl,aj,h',Aj,hr1,e,q.later f1⟩
 | bk=>cases e;exact q
 | ct=>cases e;exact q
 | ret d=>cases e;exact q
theorem LZ (j i:Nat) {x:Str}{pos':Pos}(hm:m.Nodup) (hN:N.Nodup) (ha:JE G n sc N df m a xa) (hs:∀ env:Env,swapsWith xa (some (.Name x pos')) pos.line env=pure false:=by intro _;rfl) (hj:m[j]?=some i:=by rfl) (rK:N[j]?=some x:=by rfl)
  (hl:sc.names.lookup x=some .local∨(df=true∧sc.names.lookup x=some .cell):=by first | exact Or.inl rfl | exact Or.inr ⟨rfl,rfl⟩):JS G n sc N df m (.set i a) (.Assign [.Name x pos'] xa pos):=fun X g=>by
 obtain ⟨h1,h2⟩:=g.loc hl
 refine PS.of (zN (i:=j) (by rw [g.nm];exact hN) (by rw [g.nm];exact rK) h1 (ha X g) (hs _) h2) fun Q s H q=>?_
 obtain ⟨r,fr,h,fl,aj,h',sr,hr,e,q⟩:=q
 simp only [Ev.ex] at e
 obtain ⟨d,h1,e1,e⟩:=Ev.ah e
 cases e
 exact ⟨r,fr,h,d,_,sr,hr,e1,fun v H1 r1 v1 hr1 f1=>q _ H1 r1 ((sr.mono f1).set hm hj v1) hr1 f1⟩
theorem L0 (ha:JE G n sc N df m a xa) (hs:∀ env:Env,swapsWith xa none pos.line env=pure false:=by intro _;rfl):JS G n sc N df m (.exp a) (.Expr xa pos):=fun X g=>PS.of (HQ (ha X g) (hs _)) fun Q s H q=>by
 obtain ⟨r,fr,h,fl,aj,h',sr,hr,e,q⟩:=q
 simp only [Ev.ex] at e
 obtain ⟨d,h1,e1,e⟩:=Ev.ah e
 cases e
 exact ⟨r,fr,h,d,_,sr,hr,e1,fun v H1 r1 v1 hr1 f1=>q s H1 r1 (sr.mono f1) hr1 f1⟩
theorem L1 (ha:JE G n sc N df m a xa):JS G n sc N df m (.ret a) (.Return (some xa) pos):=fun X g=>PS.of (KR (ha X g)) fun Q s H q=>by
 obtain ⟨r,fr,h,fl,aj,h',sr,hr,e,q⟩:=q
 simp only [Ev.ex] at e
 obtain ⟨d,h1,e1,e⟩:=Ev.ah e
 cases e
 exact ⟨r,fr,h,d,_,sr,hr,e1,q⟩
theorem L3 {ta tb:Ss}{ya yb:List Stmt}(hc:JT G n sc N df m a xa) (h1:lQ G n sc N df m ta ya) (h2:lQ G n sc N df m tb yb):JS G n sc N df m (.iff a ta tb) (.If xa ya yb pos):=fun X g=>PS.of (Rj (hc X g) (h1 X g) (h2 X g)) fun Q s H q=>by
 obtain ⟨r,fr,h,fl,aj,h',sr,hr,e,q⟩:=q
 simp only [Ev.ex] at e
 obtain ⟨k,h3,e1,e⟩:=Ev.ah e
 refine ⟨r,fr,h,k,h3,sr,hr,e1,fun H1 r1 hr1 f1=>?_⟩
 cases k with
 | true=>exact ⟨r1,fr,h3,fl,aj,h',sr.mono f1,hr1,e,q.later f1⟩
 | false=>exact ⟨r1,fr,h3,fl,aj,h',sr.mono f1,hr1,e,q.later f1⟩
theorem Good.pass {X:Cx}(g:Good G n sc N df X):PassesOwn (model X.prog X.w) X.A X.env X.xe:=by
 rw [g.xe];exact PassesOwn.never
noncomputable def FN (K:PySem.W.Frag) (m:List Nat) (gH:Fl) (ja:Fr) (h4:Hh) (r1:List Addr) (H1:Hp) (s5:L2.St) (H5:Hp):Prop:=(gH=.nx∨gH=.ct)∧∃ r5,SR K m H5 r5 ja s5∧HR K H5 r5 h4∧Fm K r1 r5 H1 H5
section
variable {K:PySem.W.Frag}{r r1 r2:List Addr}{H H1 H2:Hp}{h4 h':Hh}{fl gH:Fl}{ja aj:Fr}{Q:Ends}
noncomputable def yo (L:R (Fl×Fr)) (p:Fl×Fr) (h1:Hh):R (Fl×Fr):=match p.1 with
 | .nx=>L
 | .ct=>L
 | .bk=>.ok (.nx,p.2) h1
 | .ret x=>.ok (.ret x,p.2) h1
theorem wz {L:R (Fl×Fr)}(e:yo L (gH,ja) h4=.ok (fl,aj) h') (z:gH=.nx∨gH=.ct):L=.ok (fl,aj) h':=by rcases z with rfl | rfl <;> exact e
theorem t7 {L:R (Fl×Fr)}(e:yo L (gH,ja) h4=.ok (fl,aj) h') (q:Fin K m r H h' fl aj Q) (f:Fm K r r1 H H1) (f2:Fm K r1 r2 H1 H2):Fin K m r2 H2 h4 gH ja { Q with nx:=FN K m gH ja h4 r1 H1,ct:=FN K m gH ja h4 r1 H1,bk:=Q.nx }:=by
 cases gH with
 | nx=>exact fun s6 H6 r6 Ak Am f6=>⟨.inl rfl,r6,Ak,Am,f2.trans f6⟩
 | ct=>exact fun s6 H6 r6 Ak Am f6=>⟨.inr rfl,r6,Ak,Am,f2.trans f6⟩
 | bk=>
  cases e
  exact fun s6 H6 r6 Ak Am f6=>q s6 H6 r6 Ak Am ((f.trans f2).trans f6)
 | ret d=>
  cases e
  exact Res.later q (f.trans f2)
noncomputable def t9 (P:aP) (w:Nat) (t:T) (tb:Ss):D→Fr→Hh→R (Fl×Fr):=fun d ao h2=>match Ev.bH t d ao with
 | some bY=>Ev.exs P w tb bY h2
 | none=>.bad
theorem ua (P:aP) (w:Nat) (t:T) (it:Ev.It) (tb:Ss) (fr:Fr) (h:Hh):Ev.ex P w (.for t it tb) fr h=(Ev.cy P it fr h).bind fun s h1=>Ev.forL (t9 P w t tb) s.2 s.1 fr h1:=by simp only [Ev.ex];rfl
theorem rM (f:D→Fr→Hh→R (Fl×Fr)) (ck:List (Nat×List D)) (d:D) (ds:List D) (fr:Fr) (h:Hh):Ev.forL f ck (d :: ds) fr h=if Ev.stays h ck then (f d fr h).bind fun p h1=>yo (Ev.forL f ck ds p.2 h1) p h1 else .bad:=rfl
noncomputable def FW (K:PySem.W.Frag) (m:List Nat) (f:D→Fr→Hh→R (Fl×Fr)) (src:Src) (r1:List Addr) (H1:Hp) (o:Fl×Fr) (h':Hh) (i k:Nat) (s3:L2.St) (H3:Hp):Prop:=
 k=src.1.length - i∧i≤src.1.length∧∃ r3 bY h3,SR K m H3 r3 bY s3∧HR K H3 r3 h3∧Fm K r1 r3 H1 H3∧Ev.forL f src.2 (src.1.drop i) bY h3=.ok o h'
theorem CP {P:aP}{w:Nat}{t:T}{tb:Ss}{src:Src}{J:L2.It}{i k:Nat}{s3:L2.St}{H3:Hp}(hJ:oH K r1 H1 src J) (q:Fin K m r H h' fl aj Q) (f1:Fm K r r1 H H1) (hW:FW K m (t9 P w t tb) src r1 H1 (fl,aj) h' i k s3 H3) :
  (J.stop i H3∧Q.nx s3 H3)∨(J.go i H3∧∃ N:L2.St→Hp→Prop,(∀ σ' H',N σ' H'→∃ m',m'<k∧FW K m (t9 P w t tb) src r1 H1 (fl,aj) h' (i+1) m' σ' H')∧∀ x H',J.E9 i H3 x H'→gJ K m t x s3 H' fun σ2 H2=>CN K m P w tb { Q with nx:=N,ct:=N,bk:=Q.nx } σ2 H2):=by
 obtain ⟨rfl,hle,r3,bY,h3,wA,iZ,f3,e3⟩:=hW
 rcases Nat.lt_or_ge i src.1.length with hlt | hge
 ·rw [List.drop_eq_getElem_cons hlt,rM] at e3
  split at e3
  ·rename_i hst
   obtain ⟨g1,g2⟩:=(hJ i H3 r3 h3 iZ f3 hst).1 src.1[i] (List.getElem?_eq_getElem hlt)
   obtain ⟨⟨gH,ja⟩,h4,e4,e3⟩:=Ev.ah e3
   unfold t9 at e4
   split at e4
   ·rename_i rm e5
    exact .inr ⟨g1,FN K m gH ja h4 r1 H1,fun s5 H5 ⟨hfl,r5,Ao,rN,f5⟩=>⟨_,Nat.sub_lt_sub_left hlt (Nat.lt_succ_self i),rfl,hlt,r5,ja,h4,Ao,rN,f5,wz e3 hfl⟩,fun x H4 y=>
     let ⟨r4,v4,Uy,f4⟩:=g2 x H4 y
     ⟨r4,bY,h3,_,rm,wA.mono f4,Uy,v4,e5,fun s5 Ao=>⟨r4,rm,h3,gH,ja,h4,Ao,Uy,e4,t7 e3 q f1 (f3.trans f4)⟩⟩⟩
   ·cases e4
  ·cases e3
 ·have hi:i=src.1.length:=Nat.le_antisymm hle hge
  subst hi
  rw [List.drop_length] at e3
  unfold Ev.forL at e3
  split at e3
  ·rename_i hst
   cases e3
   exact .inl ⟨(hJ _ H3 r3 _ iZ f3 hst).2 (Nat.le_refl _),q s3 H3 r3 wA iZ (f1.trans f3)⟩
  ·cases e3
end
theorem Aq (t:Fr→Hh→R Bool) (f:Fr→Hh→R (Fl×Fr)) (n:Nat) (fr:Fr) (h:Hh):Ev.dW t f (n+1) fr h=(t fr h).bind fun b h1=>if b then (f fr h1).bind fun p h2=>yo (Ev.dW t f n p.2 h2) p h2 else .ok (.nx,fr) h1:=rfl
noncomputable def WW (K:PySem.W.Frag) (m:List Nat) (P:aP) (w:Nat) (a:E) (tb:Ss) (r:List Addr) (H:Hp) (o:Fl×Fr) (h':Hh) (k:Nat) (s1:L2.St) (H1:Hp):Prop:=
 ∃ r1 af h1,SR K m H1 r1 af s1∧HR K H1 r1 h1∧Fm K r r1 H H1∧Ev.dW (fun ao h2=>Ev.aL P a ao h2) (fun ao h2=>Ev.exs P w tb ao h2) k af h1=.ok o h'
theorem L4 {tb:Ss}{yb:List Stmt}(hc:JT G n sc N df m a xa) (h1:lQ G n sc N df m tb yb):JS G n sc N df m (.mw a tb) (.While xa yb [] pos):=fun X g=>PS.of (Cp g.pass (hc X g) (h1 X g)) fun Q s H q=>by
 obtain ⟨r,fr,h,fl,aj,h',sr,hr,e,q⟩:=q
 simp only [Ev.ex] at e
 refine ⟨WW X.K m (Ev.run G.F G.w n) G.w a tb r H (fl,aj) h',⟨_,r,fr,h,sr,hr,.refl,e⟩,fun k s1 H1 hW=>?_⟩
 obtain ⟨r1,af,h1,Aj,hr1,f1,e1⟩:=hW
 cases k with
 | zero=>cases e1
 | succ k=>
  rw [Aq] at e1
  obtain ⟨bb,h2,e2,e1⟩:=Ev.ah e1
  refine ⟨r1,af,h1,bb,h2,Aj,hr1,e2,fun H2 r2 hr2 f2=>?_⟩
  cases bb with
  | false=>
   cases e1
   exact q s1 H2 r2 (Aj.mono f2) hr2 (f1.trans f2)
  | true=>
   rw [if_pos rfl] at e1
   obtain ⟨⟨gH,ao⟩,h3,e3,e1⟩:=Ev.ah e1
   exact ⟨FN X.K m gH ao h3 r H,fun s3 H3 ⟨hfl,r3,wA,iZ,f3⟩=>⟨k,Nat.lt_succ_self k,r3,ao,h3,wA,iZ,f3,wz e1 hfl⟩,r2,af,h2,gH,ao,h3,Aj.mono f2,hr2,e3,t7 e1 q .refl (f1.trans f2)⟩
theorem L5 {t:T}{it:Ev.It}{tb:Ss}{yb:List Stmt}(hi:JI G n sc N df m it tg xa) (hg:JG G n sc N df m t tg) (h1:lQ G n sc N df m tb yb) (hs:∀ (env:Env) x,foldedSetIterable xa env x=pure x:=by intro _ _;rfl) :
  JS G n sc N df m (.for t it tb) (.For tg xa yb [] pos):=fun X g=>PS.of (KY g.pass g.calm (hi X g) (hg X g) (h1 X g) (hs _)) fun Q s H q=>by
 obtain ⟨r,fr,h,fl,aj,h',sr,hr,e,q⟩:=q
 rw [ua] at e
 obtain ⟨src,h2,e1,e⟩:=Ev.ah e
 exact ⟨r,fr,h,src,h2,sr,hr,e1,fun J H1 r1 hr1 f1 hJ=>⟨FW X.K m (t9 (Ev.run G.F G.w n) G.w t tb) src r1 H1 (fl,aj) h',⟨src.1.length,rfl,Nat.zero_le _,r1,fr,h2,sr.mono f1,hr1,.refl,by rw [List.drop_zero];exact e⟩,fun i k s3 H3 hW=>CP hJ q f1 hW⟩⟩
end
theorem getElem?_range' {k j i:Nat}(h:(List.range k)[j]?=some i):i=j:=by
 obtain ⟨h1,h2⟩:=List.getElem?_eq_some_iff.mp h
 simpa using h2.symm
theorem CQ {K:PySem.W.Frag}{H:Hp}{r:List Addr}{ds:List D}{vs:List V}{N:List Str}{fn:Ev.Fn}(v1:aH K H r ds vs) (hN:vs.length≤N.length):SR K (List.range N.length) H r (Ev.fy fn ds) (L2.start N vs):=by
 refine ⟨by unfold L2.start;simp;omega,fun j i d e1 e2=>?_⟩
 have e3:=getElem?_range' e1
 subst e3
 unfold Ev.fy at e2
 by_cases hj:i<ds.length
 ·rw [List.getElem?_append_left (by simpa using hj),List.getElem?_map] at e2
  cases e4:ds[i]? with
  | none=>rw [e4] at e2;cases e2
  | some d'=>
   rw [e4] at e2
   cases e2
   obtain ⟨v,q1,q2⟩:=v1.get e4
   refine ⟨v,?_,q2⟩
   unfold L2.start
   rw [List.getElem?_append_left (by have:=v1.length;simpa using (by omega:i<vs.length)),List.getElem?_map,q1]
   rfl
 ·rw [List.getElem?_append_right (by simpa using Nat.not_lt.mp hj),List.getElem?_replicate] at e2
  split at e2 <;> cases e2
section
variable {P:Program}{w:World}{K:PySem.W.Frag}{mg:Str→Option Value}{base:Heap}{G:Tb}
noncomputable def sI (P:Program) (w:World) (K:PySem.W.Frag) (mg:Str→Option Value) (base:Heap) (G:Tb) (n:Nat):Prop:=∀ (f:Nat) i,G.fi[f]?=some i→iB P w K mg base mq n i.addr i.fd i.ps (nP K G.F G.w n f)
structure Top (P:Program) (w:World) (K:PySem.W.Frag) (mg:Str→Option Value) (G:Tb):Prop where
 fn:∀ (f:Nat) i,G.fi[f]?=some i→mg i.name=some (.ref i.addr)∧PySem.W.keepIn K (.ref i.addr)=true∧Binds K i.fd i.ps []
 bl:∀ x∈G.bl,mg x=none
 cs:∀ x d,(x,d)∈G.cs→∃ v u,mg x=some u∧RelV v u∧tZ d v
 dk:∀ x kvs,(x,kvs)∈G.dk→∃ a,mg x=some (.ref a)∧∀ h:Heap,K.In h→StrTab P w h a (tabOf kvs)
theorem IB {f:Addr}{fd:FuncData}{ps:List Str}{k:Nat}:iB P w K mg base mq 0 f fd ps (nP K G.F G.w 0 k):=by
 have no:∀ vs H Q E,¬ nP K G.F G.w 0 k vs H Q E:=fun vs H Q E h=>by
  obtain ⟨r,h,ds,d,h',_,_,e,_⟩:=h
  cases e
 exact ⟨fun vs H Q E h=>absurd h (no vs H Q E),fun A outer s H args us vs Q E _ _ _ _ h=>absurd h (no vs H Q E)⟩
theorem cK {x qual:Str}{st:Stmt}{i:FI}{N:List Str}{n f:Nat}{fn:Ev.Fn}(T:Top P w K mg G) (A0:sI P w K mg base G n) (F:tR K x qual st i.addr i.fd) (S:bG N i.ps (aq st)) (hf:G.F[f]?=some fn) (hp:i.ps.length=fn.np)
  (hb:lQ G n (aq st) N true (List.range N.length) fn.body (aF st)):iB P w K mg base mq (n+1) i.addr i.fd i.ps (nP K G.F G.w (n+1) f):=by
 have hlen:∀ vs H Q E,nP K G.F G.w (n+1) f vs H Q E→vs.length=i.ps.length:=fun vs H Q E h=>by
  obtain ⟨r,h,ds,d,h',v1,_,e,_⟩:=h
  simp only [Ev.run,hf] at e
  split at e
  ·rename_i z
   rw [v1.length,z,hp]
  ·cases e
 refine F.ok S hlen fun cdv A outer s H vs Q E hr kc=>?_
 have hl:=hlen vs H Q E kc
 have hN:vs.length≤N.length:=by
  have:=congrArg List.length S.pre
  rw [List.length_take] at this
  omega
 have g:Good G n (aq st) N true (oA mq P w K mg base N qual (aq st) i.addr cdv A outer s H E).ri:=
  ⟨rfl,rfl,rfl,fun _ _=>rfl,hr,rfl,fun f i hi=>⟨(T.fn f i hi).1,(T.fn f i hi).2.1,(T.fn f i hi).2.2,A0 f i hi⟩,T.bl,T.cs,T.dk⟩
 refine ⟨_,hb _ g,?_⟩
 obtain ⟨r,h,ds,d,h',v1,hr1,e,q⟩:=kc
 simp only [Ev.run,hf] at e
 split at e
 ·unfold Ev.endOf at e
  obtain ⟨⟨fl,aj⟩,h2,e1,e⟩:=Ev.ah e
  refine ⟨r,Ev.fy fn ds,h,fl,aj,h2,CQ v1 hN,hr1,e1,?_⟩
  cases fl with
  | nx=>
   cases e
   exact fun s' H' r' _ hr' f'=>q _ H' r' rfl hr' f'
  | ret d'=>
   cases e
   exact q
  | bk=>cases e
  | ct=>cases e
 ·cases e
end
end Sm
set_option maxRecDepth 100000
namespace Sm
open PySem PySem.Spec PyProof.Rows L2 PySem.SeqAt
open Ev (D O Hh Fr R aP E Es Eo T S Ss Fl Src bZ bP TY BI ME)
theorem CS (kvs:List (Int×List Nat)) (k:Int):((fO kvs).find? fun kv=>decide (kv.1=(Sum.inl k:Key)))=(kvs.find? fun p=>decide (p.1=k)).map fun p=>(Sum.inl p.1,V.str (aN p.2)):=by
 induction kvs with
 | nil=>rfl
 | cons p kvs ih=>
  simp only [fO,List.map_cons,List.find?_cons] at ih ⊢
  by_cases h:p.1=k
  ·simp [h]
  ·rw [decide_eq_false (by simpa using h),decide_eq_false h];exact ih
theorem wC (kvs:List (Int×List Nat)) (k:Int):iC (fO kvs) (Sum.inl k:Key)=(Ev.eV kvs k).map fun s=>V.str (aN s):=by
 unfold iC Ev.eV
 rw [CS,Option.map_map,Option.map_map];rfl
theorem IC (kvs:List (Int×List Nat)) (k:Int) (s:List Nat):putK (fO kvs) (Sum.inl k:Key) (V.str (aN s))=fO (Ev.fC kvs k s):=by
 have ha:((fO kvs).any fun kv=>decide (kv.1=(Sum.inl k:Key)))=(kvs.any fun p=>decide (p.1=k)):=by
  unfold fO;rw [List.any_map];congr 1;funext p;simp
 unfold putK Ev.fC
 rw [ha]
 split
 ·unfold fO
  rw [List.map_map,List.map_map]
  refine List.map_congr_left fun p _=>?_
  by_cases h:p.1=k <;> simp [h]
 ·unfold fO;rw [List.map_append];rfl
theorem wD {kvs:List (Int×List Nat)}{k:Int}{s:List Nat}(h:Ev.eV kvs k=some s):∃ p∈kvs,p.2=s:=by
 unfold Ev.eV at h
 obtain ⟨p,e,rfl⟩:=Option.map_eq_some_iff.mp h
 exact ⟨p,List.mem_of_find?_eq_some e,rfl⟩
theorem ID {kvs:List (Int×List Nat)}{k:Int}{s:List Nat}{p:Int×List Nat}(h:p∈Ev.fC kvs k s):p∈kvs∨p.2=s:=by
 unfold Ev.fC at h
 split at h
 ·obtain ⟨q,hq,rfl⟩:=List.mem_map.mp h
  split
  ·exact .inr rfl
  ·exact .inl hq
 ·rcases List.mem_append.mp h with h | h
  ·exact .inl h
  ·rw [List.mem_singleton] at h;subst h;exact .inr rfl
section
variable {K:PySem.W.Frag}{H:Hp}{r:List Addr}{h:Hh}
theorem HR.iW {p:Addr}(hr:HR K H r h) (hp:H p=none):HR K (upd H p (.dK [])) (r++[p]) (h++[.dct []]) where
 len:=by simp [hr.len]
 ob:=fun n ob e=>by
  by_cases hn:n<h.length
  ·rw [List.getElem?_append_left hn] at e
   obtain ⟨a,e1,z⟩:=hr.ob n ob e
   exact ⟨a,(Fm.laid (K:=K) (o:=.dK []) hp).pre n a e1,z.mono (Fm.laid hp) (fun _ vs _ z=>by rw [aU (bC z hp)];exact z) (fun _ _ z=>by rw [aU (bC z hp)];exact z) (fun _ _ _ z=>by rw [aU (bC z hp)];exact z)⟩
  ·have e2:=(List.getElem?_eq_some_iff.mp e).1
   simp only [List.length_append,List.length_singleton] at e2
   have e3:n=h.length:=by omega
   subst e3
   simp at e
   subst e
   exact ⟨p,by rw [←hr.len];simp,eL,fun q hq=>by cases hq⟩
 inj:=fun n m a x y e1 e2 e3 e4=>by
  have out:∀ (k:Nat) z,(h++[O.dct []])[k]?=some (.lst z)→(r++[p])[k]?=some a→r[k]?=some a∧h[k]?=some (.lst z):=fun k z q1 q2=>by
   by_cases hk:k<h.length
   ·rw [List.getElem?_append_left hk] at q1
    rw [List.getElem?_append_left (by rw [hr.len];exact hk)] at q2
    exact ⟨q2,q1⟩
   ·have e5:=(List.getElem?_eq_some_iff.mp q1).1
    simp only [List.length_append,List.length_singleton] at e5
    have e6:k=h.length:=by omega
    subst e6
    simp at q1
  exact hr.inj n m a x y (out n x e3 e1).1 (out m y e4 e2).1 (out n x e3 e1).2 (out m y e4 e2).2
 kh:=fun n m a x y e1 e2 e3 e4=>by
  have out:∀ (k:Nat) z,(h++[O.dct []])[k]?=some (.dct z)→(r++[p])[k]?=some a→(r[k]?=some a∧h[k]?=some (.dct z)∧a≠p)∨(k=h.length∧a=p):=fun k z q1 q2=>by
   by_cases hk:k<h.length
   ·rw [List.getElem?_append_left hk] at q1
    rw [List.getElem?_append_left (by rw [hr.len];exact hk)] at q2
    obtain ⟨b,e5,e6,_⟩:=hr.dct q1
    rw [q2] at e5;cases e5
    exact .inl ⟨q2,q1,bC e6 hp⟩
   ·have e5:=(List.getElem?_eq_some_iff.mp q1).1
    simp only [List.length_append,List.length_singleton] at e5
    have e6:k=r.length:=by rw [hr.len];omega
    subst e6
    simp at q2
    exact .inr ⟨hr.len,q2.symm⟩
  rcases out n x e3 e1 with ⟨h2,h3,h4⟩ | ⟨h1,h2⟩
  ·rcases out m y e4 e2 with ⟨k2,k3,k4⟩ | ⟨k1,k2⟩
   ·exact hr.kh n m a x y h2 k2 h3 k3
   ·exact absurd k2 h4
  ·rcases out m y e4 e2 with ⟨k2,k3,k4⟩ | ⟨k1,k2⟩
   ·exact absurd h2 k4
   ·rw [h1,k1]
theorem Fm.dput {a:Addr}{vs ws:List (Key×V)}(ha:H a=some (.dK vs)) (hm:a∈r):Fm K r r H (upd H a (.dK ws)) where
 pre:=fun n b e=>e
 new:=fun b e=>.inl e
 keep:=fun b ob e n=>by rw [aU (fun z=>n (by rw [z];exact hm))];exact e
 tups:=fun b us e=>by
  rcases e with (e | ⟨ob,e⟩) | e
  ·exact .inl (.inl (by rw [aU (gS e ha (by intro z;cases z))];exact e))
  ·exact .inl (.inr ⟨ob,by rw [aU (gS e ha (by intro z;cases z))];exact e⟩)
  ·exact .inr e
theorem HR.dput {n:Nat}{a:Addr}{ds es:List (Int×List Nat)}(hr:HR K H r h) (hn:h[n]?=some (.dct ds)) (tW:r[n]?=some a) (ha:H a=some (.dK (fO ds))) (q:∀ p∈es,p.2.length≤sizeLine) :
  HR K (upd H a (.dK (fO es))) r (h.set n (.dct es)) where
 len:=by simp [hr.len]
 ob:=fun m ob e=>by
  have f:=Fm.dput (K:=K) (ws:=fO es) ha (List.mem_of_getElem? tW)
  by_cases hm:m=n
  ·subst hm
   rw [List.getElem?_set_self (List.getElem?_eq_some_iff.mp hn).1] at e
   cases e
   exact ⟨a,tW,eL,q⟩
  ·rw [List.getElem?_set_ne (fun z=>hm z.symm)] at e
   obtain ⟨b,e1,z⟩:=hr.ob m ob e
   refine ⟨b,e1,z.mono f (fun _ us _ z2=>by rw [aU (gS z2 ha (by intro z;cases z))];exact z2) (fun Zs us z2=>by rw [aU (gS z2 ha (by intro z;cases z))];exact z2) (fun kvs us z3 z2=>?_)⟩
   by_cases hb:b=a
   ·subst hb
    subst z3
    exact absurd (hr.kh m n b kvs ds e1 tW e hn) hm
   ·rw [aU hb];exact z2
 inj:=fun k m b x y e1 e2 e3 e4=>by
  have back:∀ (j:Nat) z,(h.set n (O.dct es))[j]?=some (.lst z)→h[j]?=some (.lst z):=fun j z w=>by
   by_cases hj:j=n
   ·subst hj
    rw [List.getElem?_set_self (List.getElem?_eq_some_iff.mp hn).1] at w
    cases w
   ·rw [List.getElem?_set_ne (fun z=>hj z.symm)] at w;exact w
  exact hr.inj k m b x y e1 e2 (back k x e3) (back m y e4)
 kh:=fun k m b x y e1 e2 e3 e4=>by
  have back:∀ (j:Nat) z,(h.set n (O.dct es))[j]?=some (.dct z)→∃ z',h[j]?=some (.dct z'):=fun j z w=>by
   by_cases hj:j=n
   ·subst hj;exact ⟨ds,hn⟩
   ·rw [List.getElem?_set_ne (fun z=>hj z.symm)] at w;exact ⟨z,w⟩
  obtain ⟨x',e5⟩:=back k x e3
  obtain ⟨y',e6⟩:=back m y e4
  exact hr.kh k m b x' y' e1 e2 e5 e6
end
theorem kO {h:Hh}{x:D}{kvs:List (Int×List Nat)}(e:Ev.fT h x=some kvs):∃ n,x=.ref n∧h[n]?=some (.dct kvs):=by
 cases x with
 | ref n=>
  simp only [Ev.fT] at e
  split at e
  ·rename_i k z;cases e;exact ⟨n,rfl,z⟩
  ·cases e
 | _=>cases e
theorem IE {h:Hh}{x y d:D}(e:Ev.tU x y h=some d):∃ n kvs k s,x=.ref n∧h[n]?=some (.dct kvs)∧y=.int k∧Ev.eV kvs k=some s∧d=.str s:=by
 unfold Ev.tU at e
 cases hx:Ev.fT h x with
 | none=>rw [hx] at e;cases e
 | some kvs=>
  rw [hx] at e
  obtain ⟨n,rfl,z⟩:=kO hx
  cases y with
  | int k=>
   obtain ⟨w,ew,rfl⟩:=Option.map_eq_some_iff.mp e
   exact ⟨n,kvs,k,w,rfl,z,rfl,ew,rfl⟩
  | _=>cases e
theorem IF {h h0:Hh}{x y z d:D}(e:Ev.tV x y z h h0=some d):∃ n Fp kvs k,x=.ref n∧h0[n]?=some (.dct Fp)∧h[n]?=some (.dct kvs)∧y=.int k∧d=(match Ev.eV kvs k with | some s=>.str s | none=>z):=by
 unfold Ev.tV at e
 cases hx:Ev.fT h0 x with
 | none=>rw [hx] at e;cases e
 | some Fp=>
  rw [hx] at e
  obtain ⟨n,rfl,w⟩:=kO hx
  cases hy:Ev.fT h (.ref n) with
  | none=>rw [hy] at e;cases e
  | some kvs=>
   rw [hy] at e
   obtain ⟨n',en,w'⟩:=kO hy
   cases en
   cases y with
   | int k=>cases e;exact ⟨n,Fp,kvs,k,rfl,w,w',rfl,rfl⟩
   | _=>cases e
theorem CT {h h':Hh}{x y z:D}(e:Ev.sG x y z h=some h'):∃ n kvs k s,x=.ref n∧y=.int k∧z=.str s∧h[n]?=some (.dct kvs)∧kvs.length<Ev.big∧h'=h.set n (.dct (Ev.fC kvs k s)):=by
 unfold Ev.sG at e
 cases x with
 | ref n=>
  cases y with
  | int k=>
   cases z with
   | str s=>
    simp only at e
    cases hn:h[n]? with
    | none=>rw [hn] at e;cases e
    | some o=>
     rw [hn] at e
     cases o with
     | dct kvs=>
      simp only at e
      by_cases hl:kvs.length<Ev.big
      ·rw [if_pos hl] at e;cases e;exact ⟨n,kvs,k,s,rfl,rfl,rfl,hn,hl,rfl⟩
      ·rw [if_neg hl] at e;cases e
     | _=>cases e
   | _=>cases e
  | _=>cases e
 | _=>cases e
section
variable {G:Tb}{n:Nat}{sc:Scope}{N:List Str}{df:Bool}{m:List Nat}{a b c:E}{xa xb xc:Expr}{pos:Pos}
theorem IG:JE G n sc N df m .iW (.Dict [] [] pos):=fun X g=>PE.of CG fun s H Q q=>by
 obtain ⟨r,fr,h,d,h',sr,hr,e,q⟩:=q
 simp only [Ev.ev] at e
 cases e
 intro p hp
 exact q _ _ (r++[p]) ⟨p,rfl,by rw [←hr.len];simp⟩ (hr.iW hp) (Fm.laid hp)
theorem L6 (ha:JE G n sc N df m a xa) (hb:JE G n sc N df m b xb) (hs:CD xb:=by intro _ _;rfl):JE G n sc N df m (.jL a b) (.Subscript xa xb pos):=fun X g=>PE.of (Im (yf g.room) (ha X g) (hb X g) hs) fun s H Q q=>by
 obtain ⟨r,fr,h,d,h',sr,hr,e,q⟩:=q
 simp only [Ev.ev] at e
 obtain ⟨x,h1,e1,e⟩:=Ev.ah e
 obtain ⟨y,h2,e2,e⟩:=Ev.ah e
 obtain ⟨e,rfl⟩:=Ev.aK e
 refine ⟨r,fr,h,x,h1,sr,hr,e1,fun v H1 r1 v1 hr1 f1=>?_⟩
 refine ⟨r1,fr,h1,y,_,sr.mono f1,hr1,e2,fun u H2 r2 v2 hr2 f2=>?_⟩
 obtain ⟨i,kvs,k,w,rfl,z,rfl,ew,rfl⟩:=IE e
 obtain ⟨p,z1,z2,z3⟩:=hr2.dct z
 obtain ⟨p',rfl,z4⟩:=v1.mono f2
 rw [z1] at z4;cases z4
 cases v2
 obtain ⟨q0,Ar,rfl⟩:=wD ew
 refine ⟨p,.str (aN q0.2),rfl,?_,q _ H2 r2 ⟨rfl,z3 q0 Ar⟩ hr2 (f1.trans f2)⟩
 have:=kN.k (k:=Sum.inl k) z2
 rw [wC,ew] at this
 exact this
theorem L7 {apos:Pos}(ha:JE G n sc N df m a xa) (hb:JE G n sc N df m b xb) (hc:JE G n sc N df m c xc) (hM:∀ X:Cx,M2 X xa "get" apos xb xc pos:=by intro X;exact ⟨rfl,rfl,rfl,rfl⟩):JE G n sc N df m (.lP a b c) (.Call (.Attribute xa "get" apos) [xb,xc] [] pos):=fun X g=>PE.of (CH (yf g.room) (ha X g) (hb X g) (hc X g) (hM X)) fun s H Q q=>by
 obtain ⟨r,fr,h,d,h',sr,hr,e,q⟩:=q
 simp only [Ev.ev] at e
 obtain ⟨x,h1,e1,e⟩:=Ev.ah e
 obtain ⟨y,h2,e2,e⟩:=Ev.ah e
 obtain ⟨z,h3,e3,e⟩:=Ev.ah e
 obtain ⟨e,rfl⟩:=Ev.aK e
 obtain ⟨i,Fp,kvs,k,rfl,y0,y1,rfl,rfl⟩:=IF e
 refine ⟨r,fr,h,.ref i,h1,sr,hr,e1,fun v H1 r1 v1 hr1 f1=>?_⟩
 obtain ⟨p0,w1,w2,w3⟩:=hr1.dct y0
 obtain ⟨p,rfl,z4⟩:=id v1
 rw [w1] at z4;cases z4
 refine ⟨p0,rfl,.inl ⟨_,.inl w2⟩,r1,fr,h1,.int k,h2,sr.mono f1,hr1,e2,fun u H2 r2 v2 hr2 f2=>?_⟩
 refine ⟨r2,fr,h2,z,_,(sr.mono f1).mono f2,hr2,e3,fun t H3 r3 v3 iZ f3=>?_⟩
 obtain ⟨p1,x1,x2,x3⟩:=iZ.dct y1
 have x4:=f3.pre _ _ (f2.pre _ _ w1)
 rw [x1] at x4;cases x4
 cases v2
 have g:=kN.k (k:=Sum.inl k) x2
 rw [wC] at g
 refine ⟨_,g,?_⟩
 cases ev:Ev.eV kvs k with
 | none=>rw [ev] at q;exact q _ H3 r3 v3 iZ ((f1.trans f2).trans f3)
 | some s2=>
  rw [ev] at q
  obtain ⟨q0,Ar,rfl⟩:=wD ev
  exact q _ H3 r3 ⟨rfl,x3 q0 Ar⟩ iZ ((f1.trans f2).trans f3)
theorem II {tp:Pos}(ho:JE G n sc N df m a xa)(hi:JE G n sc N df m b xb)(hv:JE G n sc N df m c xc)
  (hs:∀ env:Env,swapsWith xc (some (.Subscript xa xb tp)) pos.line env=pure false:=by intro _;rfl):JS G n sc N df m (.dput a b c) (.Assign [.Subscript xa xb tp] xc pos):=fun X g=>PS.of (Io (yf g.room) (ho X g) (hi X g) (hv X g) (hs _)) fun Q s H q=>by
 obtain ⟨r,fr,h,fl,aj,h',sr,hr,e,q⟩:=q
 simp only [Ev.ex] at e
 obtain ⟨x,h2,e1,e⟩:=Ev.ah e
 obtain ⟨y,h3,e2,e⟩:=Ev.ah e
 obtain ⟨z,h4,e3,e⟩:=Ev.ah e
 refine ⟨r,fr,h,x,h2,sr,hr,e1,fun v H1 r1 v1 hr1 f1=>?_⟩
 refine ⟨r1,fr,h2,y,h3,sr.mono f1,hr1,e2,fun u H2 r2 v2 hr2 f2=>?_⟩
 refine ⟨r2,fr,h3,z,h4,(sr.mono f1).mono f2,hr2,e3,fun t H3 r3 v3 iZ f3=>?_⟩
 split at e
 ·rename_i h5 e5
  cases e
  obtain ⟨i,kvs,k,w,rfl,rfl,rfl,z5,hl,rfl⟩:=CT e5
  obtain ⟨p1,x1,x2,x3⟩:=iZ.dct z5
  obtain ⟨p,rfl,x4⟩:=v2.mono f3
  rw [x1] at x4;cases x4
  cases v3
  obtain ⟨rfl,lw⟩:=(v1.mono f2).mono f3
  have lk:(fO kvs).length<sizeLine:=by unfold fO;rw [List.length_map];exact hl
  have g:=tT.k (k:=Sum.inl k) (v:=V.str (aN w)) x2 lk
  rw [IC] at g
  refine ⟨p1,_,rfl,g,?_⟩
  have fp:=Fm.dput (K:=X.K) (ws:=fO (Ev.fC kvs k w)) x2 (List.mem_of_getElem? x1)
  exact q _ _ r3 ((((sr.mono f1).mono f2).mono f3).mono fp) (iZ.dput z5 x1 x2 fun p hp=>(ID hp).elim (x3 p) fun z=>by rw [z];exact lw) (((f1.trans f2).trans f3).trans fp)
 ·cases e
end
end Sm
set_option maxRecDepth 100000
namespace Sm
open PySem PySem.Spec PyProof.Rows L2
open Ev (D O Hh Fr R aP E Es Eo T S Ss Fl Src bZ bP TY BI ME)
theorem qF (env:Env):∀ (names:List (Str×NameKind)) (acc:List (Str×Addr)),(∀ x,(x,NameKind.free)∈names→∃ c,env.cells.lookup x=some c)→(∀ x c,acc.lookup x=some c→env.cells.lookup x=some c)→
  ∃ cl,(forIn names acc (fun (x:Str×NameKind) cs=>if (x.2==NameKind.free)=true then (do let c ←cellOf env x.1;pure (ForInStep.yield ((x.1,c) :: cs))) else pure (ForInStep.yield cs)):Sem (List (Str×Addr)))=pure cl∧
   (∀ x c,cl.lookup x=some c→env.cells.lookup x=some c)∧(∀ x,(x,NameKind.free)∈names→(cl.lookup x).isSome=true)∧(∀ x,(acc.lookup x).isSome=true→(cl.lookup x).isSome=true)
 | [],acc,_,h2=>⟨acc,rfl,h2,(fun x h=>by simp at h),fun _ h=>h⟩
 | (y,k) :: r,acc,h1,h2=>by
  by_cases hk:k=.free
  ·subst hk
   obtain ⟨c,hc⟩:=h1 y (List.mem_cons_self ..)
   have h2':∀ x c',((y,c) :: acc).lookup x=some c'→env.cells.lookup x=some c':=fun x c' e=>by
    rw [List.lookup_cons] at e
    split at e
    ·rename_i hx
     have hx':x=y:=by simpa using hx
     cases e;rw [hx'];exact hc
    ·exact h2 x c' e
   obtain ⟨cl,e1,e2,e3,e4⟩:=qF env r ((y,c) :: acc) (fun x hx=>h1 x (List.mem_cons_of_mem _ hx)) h2'
   refine ⟨cl,?_,e2,fun x hx=>?_,fun x hx=>e4 x ?_⟩
   ·rw [List.forIn_cons]
    simp only [beq_self_eq_true,if_true]
    unfold cellOf
    rw [hc]
    exact e1
   ·rcases List.mem_cons.mp hx with z | z
    ·cases z
     exact e4 y (by simp [List.lookup_cons])
    ·exact e3 x z
   ·rw [List.lookup_cons]
    split
    ·rfl
    ·exact hx
  ·have hk':(k==NameKind.free)=false:=by simpa using hk
   obtain ⟨cl,e1,e2,e3,e4⟩:=qF env r acc (fun x hx=>h1 x (List.mem_cons_of_mem _ hx)) h2
   refine ⟨cl,?_,e2,fun x hx=>?_,e4⟩
   ·rw [List.forIn_cons]
    simp only [hk',Bool.false_eq_true,if_false]
    exact e1
   ·rcases List.mem_cons.mp hx with z | z
    ·cases z;exact absurd rfl hk
    ·exact e3 x z
theorem IJ {scope:Scope}{env:Env}(h:∀ x,(x,NameKind.free)∈scope.names→∃ c,env.cells.lookup x=some c) :
  ∃ cl,closureFor scope env=pure cl∧(∀ x c,cl.lookup x=some c→env.cells.lookup x=some c)∧∀ x,(x,NameKind.free)∈scope.names→∃ c,cl.lookup x=some c:=by
 obtain ⟨cl,e1,e2,e3,_⟩:=qF env scope.names [] h (fun x c e=>by simp at e)
 refine ⟨cl,?_,e2,fun x hx=>Option.isSome_iff_exists.mp (e3 x hx)⟩
 unfold closureFor
 show (forIn scope.names [] _ >>= fun cs=>pure cs:Sem (List (Str×Addr)))=pure cl
 have e:(forIn scope.names [] (fun (x:Str×NameKind) cs=>if (x.2==NameKind.free)=true then (do let c ←cellOf env x.1;pure (ForInStep.yield ((x.1,c) :: cs))) else pure (ForInStep.yield cs)):Sem (List (Str×Addr)))=pure cl:=e1
 exact congrArg (fun t:Sem (List (Str×Addr))=>t >>= fun cs=>pure cs) e
noncomputable def eY (sc scope:Scope):Scope:={ scope with names:=scope.names.map fun (n,k)=>if (k==.free&&sc.kind==.function&&sc.names.lookup n==some .cell) then (n,.cell) else (n,k)}
theorem qG {env:Env}{sc scope:Scope}(h:env.scope=sc):relabel scope env=eY sc scope:=by
 subst h;rfl
theorem rO {sc:Scope}:∀ {names:List (Str×NameKind)}{x:Str},(∀ y∈names,y.2≠.cell)→
  ((names.map fun (n,k)=>if (k==NameKind.free&&sc.kind==.function&&sc.names.lookup n==some .cell) then (n,NameKind.cell) else (n,k)).lookup x=some .cell∨
   (names.map fun (n,k)=>if (k==NameKind.free&&sc.kind==.function&&sc.names.lookup n==some .cell) then (n,NameKind.cell) else (n,k)).lookup x=some .free)→(x,NameKind.free)∈names
 | [],_,_,h=>by rcases h with h | h <;> simp at h
 | (n,k) :: r,x,hc,h=>by
  have ih:=@rO sc r x fun y hy=>hc y (List.mem_cons_of_mem _ hy)
  simp only [List.map_cons] at h
  have nk:∀ (k':NameKind),(if (k==NameKind.free&&sc.kind==.function&&sc.names.lookup n==some .cell) then (n,NameKind.cell) else (n,k))=(n,k')→k'=.cell∨k'=.free→k=.free:=fun k' e hk'=>by
   split at e
   ·rename_i z
    simp only [Bool.and_eq_true,beq_iff_eq] at z
    exact z.1.1
   ·cases e
    rcases hk' with z | z
    ·exact absurd z (hc (n,_) (List.mem_cons_self ..))
    ·exact z
  generalize hg:(if (k==NameKind.free&&sc.kind==.function&&sc.names.lookup n==some .cell) then (n,NameKind.cell) else (n,k))=p at h nk
  have hp:p.1=n:=by rw [←hg];split <;> rfl
  obtain ⟨p1,p2⟩:=p
  simp only at hp
  subst hp
  simp only [List.lookup_cons] at h
  cases hx:(x==p1) with
  | true=>
   have hx':x=p1:=by simpa using hx
   rw [hx] at h
   have:=nk p2 rfl (by rcases h with h | h <;> simp at h <;> simp [h])
   subst this
   rw [hx']
   exact List.mem_cons_self ..
  | false=>
   rw [hx] at h
   exact List.mem_cons_of_mem _ (ih h)
section
variable {prog:Program}{w:World}{A:Around}{R':Result→Shared→Prop}{s:Shared}
abbrev fk:Value→Shared→Prop:=fun _ _=>False
noncomputable def wF (ifs:List Expr) (env:Env):Sem Bool:=forIn ifs true fun c r=>if r=true then do let ok ←isTrue c env (eval c env);pure (ForInStep.yield ok) else pure (ForInStep.yield r)
theorem uc {elt target iter:Expr}{ifs:List Expr}{scope:Scope}{pos:Pos}{it acc:Value}{env:Env}(I:Nat→Shared→Prop)
  (turn:∀ n s,I n s→wpAny (model prog w) A (pyNext it) (fun r s₁=>match r with
   | none=>R' (.ok .next) s₁
   | some v=>wpAny (model prog w) A (letOwnedTupleGo target it v) (fun _ s₂=>wpAny (model prog w) A (assign target env v) (fun _ s₃=>
     wpAny (model prog w) A (wF ifs env) (fun ok s₄=>
      if ok=true then wpAny (model prog w) A (eval elt env) (fun x s₅=>
       wpAny (model prog w) A (call (.builtin "list.append") [acc,x]) (fun _ s₆=>∃ m,m<n∧I m s₆) fk s₅) fk s₄
      else ∃ m,m<n∧I m s₄) fk s₃) fk s₂) fk s₁) fk s)
  (n:Nat) (h:I n s):codeAny (model prog w) A (.compLoop (.ListComp elt [⟨target,iter,ifs,0⟩] scope pos) 0 it acc env) R' s:=by
 refine codeAny_loop rfl I (fun n s hI=>?_) n h
 show wpAny _ A ((compTurn (.ListComp elt [⟨target,iter,ifs,0⟩] scope pos) 0 it acc env).onRaise (fun x=>do noteFrame x env;theTreesLotGoes x)) _ _ s
 refine wpAny_noted ?_
 rw [compTurn_list]
 refine wpAny_bind (wpAny_standAt (wpAny_bind (wpAny_mono (turn n s hI) (fun r s₁ h₁=>?_) fun _ _ h'=>h'.elim)))
 cases r with
 | none=>exact wpAny_pure h₁
 | some v=>
  refine wpAny_bind (wpAny_mono h₁ (fun _ s₂ h₂=>?_) fun _ _ h'=>h'.elim)
  refine wpAny_bind (wpAny_mono h₂ (fun _ s₃ h₃=>wpAny_bind (wpAny_mono h₃ (fun ok s₄ h₄=>?_) fun _ _ h'=>h'.elim)) fun _ _ h'=>h'.elim)
  cases ok with
  | false=>exact wpAny_pure ⟨rfl,h₄⟩
  | true=>
   exact wpAny_bind (wpAny_bind (wpAny_mono h₄ (fun x s₅ h₅=>wpAny_bind (wpAny_mono h₅ (fun _ s₆ h₆=>wpAny_pure (wpAny_pure ⟨rfl,h₆⟩)) fun _ _ h'=>h'.elim)) fun _ _ h'=>h'.elim))
end
inductive Uz (K:PySem.W.Frag) (m:List Nat) (P:aP) (e:Eo) (s:L2.St) (H:Hp) (Q:Bool→Hp→Prop):Prop
 | mk (r:List Addr) (fr:Fr) (h:Hh) (k:Bool) (h':Hh) (c0:SR K m H r fr s) (c1:HR K H r h) (c2:Ev.gU P e fr h=.ok k h') (c3:∀ H' r',HR K H' r' h'→Fm K r r' H H'→Q k H'):Uz K m P e s H Q
noncomputable def JC (G:Tb) (n:Nat) (sc:Scope) (N:List Str) (df:Bool) (m:List Nat) (e:Eo) (ifs:List Expr):Prop:=∀ X,Good G n sc N df X→∀ (pins:List (Addr×Obj)) (s:Shared) (σ:L2.St) (H:Hp) (Q:Bool→Hp→Prop),Inv X pins σ H s→
 Uz X.K m (Ev.run G.F G.w n) e σ H Q→wpAny (model X.prog X.w) X.A (wF ifs X.env) (TP X pins σ Q) X.xe s
section
variable {G:Tb}{n:Nat}{sc:Scope}{N:List Str}{df:Bool}{m:List Nat}{a b c:E}{xa xb xc tg:Expr}{pos:Pos}
theorem RP:JC G n sc N df m .no []:=fun X g pins s σ H Q I q=>by
 obtain ⟨r,fr,h,k,h',sr,hr,e,q⟩:=q
 simp only [Ev.gU] at e
 cases e
 exact wpAny_pure ⟨H,I,q H r hr .refl⟩
theorem L8 (hc:JT G n sc N df m a xa):JC G n sc N df m (.yes a) [xa]:=fun X g pins s σ H Q I q=>by
 obtain ⟨r,fr,h,k,h',sr,hr,e,q⟩:=q
 simp only [Ev.gU] at e
 exact wpAny_tests_one (hc X g pins s σ H Q I ⟨r,fr,h,k,h',sr,hr,e,q⟩)
end
noncomputable def pD (X:Cx) (N':List Str) (scope:Scope) (cl:List (Str×Addr)) (C:Addr) (s3:Shared) (H3:Hp) (fp:List Addr):Cx:=
 { X with N:=N',s₀:=s3,H₀:=H3,env:=compEnvC scope cl C X.env,outer:=X.stack,stack:=X.stack,ex:=fp,fn:=fun _=>false,pn:=[],xe:=fun _ _=>False }
noncomputable def namesOk (sc:Scope) (N:List Str) (m:List Nat) (scope:Scope) (t:T) (N':List Str) (m':List Nat):Prop:=m'.length=N'.length∧
 ∀ (j:Nat) x i,N'[j]?=some x→m'[j]?=some i→i∈Ev.slots t∨((x,NameKind.free)∈scope.names∧∃ jo:Nat,N[jo]?=some x∧m[jo]?=some i)
noncomputable def pF (sc:Scope) (N:List Str) (m:List Nat) (scope:Scope) (t:T) (N':List Str) (m':List Nat):Bool:=m'.length==N'.length&&
 (List.range N'.length).all fun j=>match N'[j]?,m'[j]? with
  | some x,some i=>(Ev.slots t).contains i || (scope.names.contains (x,NameKind.free)&&(List.range N.length).any fun jo=>N[jo]?==some x&&m[jo]?==some i)
  | _,_=>true
theorem namesOk.of {sc:Scope}{N:List Str}{m:List Nat}{scope:Scope}{t:T}{N':List Str}{m':List Nat}(h:pF sc N m scope t N' m'=true):namesOk sc N m scope t N' m':=by
 unfold pF at h
 rw [Bool.and_eq_true] at h
 refine ⟨by simpa using h.1,fun j x i e1 e2=>?_⟩
 have hj:j<N'.length:=(List.getElem?_eq_some_iff.mp e1).1
 have q:=List.all_eq_true.mp h.2 j (List.mem_range.mpr hj)
 rw [e1,e2] at q
 simp only [Bool.or_eq_true,Bool.and_eq_true,List.any_eq_true] at q
 rcases q with q | ⟨q1,jo,_,q2⟩
 ·exact .inl (by simpa using q)
 ·exact .inr ⟨by simpa using q1,jo,by simpa using q2.1,by simpa using q2.2⟩
theorem vN {t:T}{d:D}{fr ao:Fr}(e:Ev.bH t d fr=some ao) {i:Nat}(hi:i∉Ev.slots t):ao[i]?=fr[i]?:=by
 have go:∀ (l:List Nat) (ds:List D) (fr ao:Fr),Ev.cI l ds fr=some ao→i∉l→ao[i]?=fr[i]?:=by
  intro l
  induction l with
  | nil=>
   intro ds fr ao e _
   cases ds with
   | nil=>cases e;rfl
   | cons _ _=>cases e
  | cons j l ih=>
   intro ds fr ao e hj
   cases ds with
   | nil=>cases e
   | cons d ds=>
    rw [ih ds _ _ e fun z=>hj (List.mem_cons_of_mem _ z),List.getElem?_set_ne]
    intro z
    exact hj (by rw [z];exact List.mem_cons_self ..)
 cases t with
 | one j=>
  cases e
  rw [List.getElem?_set_ne]
  intro z
  exact hi (by simp [Ev.slots,z])
 | many l=>
  cases d with
  | tup ds=>exact go l ds fr ao e hi
  | _=>cases e
theorem SR.unbind {K:PySem.W.Frag}{m:List Nat}{H:Hp}{r:List Addr}{t:T}{d:D}{fr ao:Fr}{s:L2.St}(sr:SR K m H r ao s) (e:Ev.bH t d fr=some ao) (hu:Ev.undef t fr=true):SR K m H r fr s:=by
 refine ⟨sr.len,fun j i d' e1 e2=>sr.sl j i d' e1 ?_⟩
 rw [vN e]
 ·exact e2
 ·intro hi
  have q:=List.all_eq_true.mp hu i hi
  rw [e2] at q
  cases q
end Sm
set_option maxRecDepth 100000
namespace Sm
open PySem PySem.Spec PyProof.Rows L2
open Ev (D O Hh Fr R aP E Es Eo T S Ss Fl Src bZ bP TY BI ME)
structure jY (sc scope:Scope):Prop where
 kind:scope.kind=.function
 As:∀ y∈scope.names,y.2≠.cell
 free:∀ x,(x,NameKind.free)∈scope.names→(sc.names.lookup x=some .cell∨sc.names.lookup x=some .free)∧scope.names.lookup x=some .free
 loc:∀ y∈scope.names,y.2=.local→scope.names.lookup y.1=some .local
noncomputable def Fq (sc scope:Scope):Bool:=scope.kind==.function&&scope.names.all fun y=>y.2 != .cell&&(y.2 != .free || ((sc.names.lookup y.1==some .cell || sc.names.lookup y.1==some .free)&&scope.names.lookup y.1==some .free))&&(y.2 != .local || scope.names.lookup y.1==some .local)
theorem jY.of {sc scope:Scope}(h:Fq sc scope=true):jY sc scope:=by
 unfold Fq at h
 rw [Bool.and_eq_true] at h
 have q:∀ y∈scope.names,y.2≠.cell∧(y.2=.free→(sc.names.lookup y.1=some .cell∨sc.names.lookup y.1=some .free)∧scope.names.lookup y.1=some .free)∧(y.2=.local→scope.names.lookup y.1=some .local):=fun y hy=>by
  have z:=List.all_eq_true.mp h.2 y hy
  simp only [Bool.and_eq_true,Bool.or_eq_true,bne_iff_ne,beq_iff_eq,ne_eq] at z
  refine ⟨z.1.1,fun e=>?_,fun e=>?_⟩
  ·rcases z.1.2 with w | w
   ·exact absurd e w
   ·exact w
  ·rcases z.2 with w | w
   ·exact absurd e w
   ·exact w
 exact ⟨by simpa using h.1,fun y hy=>(q y hy).1,fun x hx=>(q _ hx).2.1 rfl,fun y hy=>(q y hy).2.2⟩
theorem rP {sc:Scope}:∀ {names:List (Str×NameKind)}{x:Str},names.lookup x=some .free→
  ((names.map fun (n,k)=>if (k==NameKind.free&&sc.kind==.function&&sc.names.lookup n==some .cell) then (n,NameKind.cell) else (n,k)).lookup x=some .cell∨
   (names.map fun (n,k)=>if (k==NameKind.free&&sc.kind==.function&&sc.names.lookup n==some .cell) then (n,NameKind.cell) else (n,k)).lookup x=some .free)
 | [],_,h=>by simp at h
 | (n,k) :: r,x,h=>by
  have ih:=@rP sc r x
  simp only [List.map_cons]
  simp only [List.lookup_cons] at h
  by_cases hc:(k==NameKind.free&&sc.kind==.function&&sc.names.lookup n==some .cell)=true
  ·rw [if_pos hc]
   simp only [List.lookup_cons]
   cases hx:(x==n) with
   | true=>exact .inl rfl
   | false=>rw [hx] at h;exact ih h
  ·rw [if_neg hc]
   simp only [List.lookup_cons]
   cases hx:(x==n) with
   | true=>rw [hx] at h;exact .inr h
   | false=>rw [hx] at h;exact ih h
section
variable {G:Tb}{n:Nat}{sc scope:Scope}{N N':List Str}{df:Bool}{m m':List Nat}{elt:E}{t:T}{it:Ev.It}{cond:Eo}{xe xi tg:Expr}{ifs:List Expr}{pos:Pos}{X:Cx}
theorem Good.comp (g:Good G n sc N df X) {cl:List (Str×Addr)}{C:Addr}{s3:Shared}{H3:Hp}{fp:List Addr}:Good G n (eY sc scope) N' false (pD X N' scope cl C s3 H3 fp):=
 ⟨rfl,qG g.sc,g.calm,(fun h=>by cases h),g.room,rfl,g.fn,g.bl,g.cs,g.dk⟩
theorem IK {pins:List (Addr×Obj)}{σ:L2.St}{H3:Hp}{s3:Shared}(g:Good G n sc N df X) (I:Inv X pins σ H3 s3) (hs:jY sc scope) {cl:List (Str×Addr)}(gZ:∀ x c,cl.lookup x=some c→X.env.cells.lookup x=some c)
  (jZ:∀ x,(x,NameKind.free)∈scope.names→∃ c,cl.lookup x=some c) {fp:List Addr} (hfp:∀ b∈fp,gw X pins H3 b) (hfl:∀ b∈fp,b<s3.heap.objs.size):(pD X N' scope cl s3.heap.objs.size s3 H3 fp).Ok where
 mod:=I.ok.mod
 kind:=hs.kind
 glob:=I.ok.glob
 blt:=I.ok.blt
 above:=Nat.le_refl _
 inj:=fun x y c h1 h2=>I.ok.inj x y c (gZ x c h1) (gZ y c h2)
 has:=fun x h=>by
  have h':(eY sc scope).names.lookup x=some .cell∨(eY sc scope).names.lookup x=some .free:=by
   rw [←qG (scope:=scope) g.sc];exact h
  exact jZ x (rO hs.As h')
 vW:=fun x c h=>by cases h
 hd:=I.ok.hd
 frames:=I.ok.frames
 stk:=.inl rfl
 E4:=fun b hb=>⟨Nat.ne_of_lt (hfl b hb),fun x c e=>(hfp b hb).2.2.2.2.1 x c (gZ x c e)⟩
 bs:=I.bs
 qZ:=Nat.le_trans I.ok.qZ I.sz
 qx:=fun b o e hb=>by
  rcases (hfp b hb).2.2.2.1 with z | z
  ·exact I.ok.qx b o e z
  ·have:=Heap.lt_size (I.ok.bs b o e).1
   exact absurd (Nat.lt_of_lt_of_le this z) (Nat.lt_irrefl _)
 qy:=fun b hb z=>by
  rcases List.mem_cons.mp (I.tG b z) with q | q
  ·exact (hfp b hb).2.1 q
  ·exact (hfp b hb).2.2.1 q
 iU:=I.stack
 tE:=I.vX
open Classical in
noncomputable def sig (scope:Scope) (N N':List Str) (m':List Nat) (K:PySem.W.Frag) (H:Hp) (r:List Addr) (fr:Fr) (σ:L2.St):L2.St:=
 (List.range N'.length).map fun j=>if h:∃ v,∃ x i,N'[j]?=some x∧m'[j]?=some i∧(x,NameKind.free)∈scope.names∧(∃ jo:Nat,N[jo]?=some x∧σ[jo]?=some (some v))∧∀ d,fr[i]?=some (some d)→RV K H r d v then some h.choose else none
theorem Ma {K:PySem.W.Frag}{H:Hp}{r:List Addr}{fr:Fr}{σ:L2.St}{j:Nat}{v:V}(h:(sig scope N N' m' K H r fr σ)[j]?=some (some v)) :
  ∃ x i,N'[j]?=some x∧m'[j]?=some i∧(x,NameKind.free)∈scope.names∧(∃ jo:Nat,N[jo]?=some x∧σ[jo]?=some (some v))∧∀ d,fr[i]?=some (some d)→RV K H r d v:=by
 unfold sig at h
 rw [List.getElem?_map] at h
 cases e:(List.range N'.length)[j]? with
 | none=>rw [e] at h;cases h
 | some j'=>
  have:=getElem?_range' e
  subst this
  rw [e] at h
  simp only [Option.map_some,Option.some.injEq] at h
  split at h
  ·rename_i hh
   cases h
   exact hh.choose_spec
  ·cases h
theorem Mb {K:PySem.W.Frag}{H:Hp}{r:List Addr}{fr:Fr}{σ:L2.St}(sr:SR K m H r fr σ) (hn:namesOk sc N m scope t N' m') (hu:Ev.undef t fr=true):SR K m' H r fr (sig scope N N' m' K H r fr σ):=by
 refine ⟨by unfold sig;simp [hn.1],fun j i d e1 e2=>?_⟩
 have hj:j<N'.length:=by rw [←hn.1];exact (List.getElem?_eq_some_iff.mp e1).1
 have hx:N'[j]?=some N'[j]:=List.getElem?_eq_getElem hj
 rcases hn.2 j _ i hx e1 with hi | ⟨h1,jo,h2,h3⟩
 ·exfalso
  have q:=List.all_eq_true.mp hu i hi
  rw [e2] at q
  cases q
 ·obtain ⟨v,h4,h5⟩:=sr.sl jo i d h3 e2
  have ex:∃ v,∃ x i,N'[j]?=some x∧m'[j]?=some i∧(x,NameKind.free)∈scope.names∧(∃ jo:Nat,N[jo]?=some x∧σ[jo]?=some (some v))∧∀ d,fr[i]?=some (some d)→RV K H r d v:=
   ⟨v,N'[j],i,hx,e1,h1,⟨jo,h2,h4⟩,fun d' e'=>by rw [e2] at e';cases e';exact h5⟩
  refine ⟨ex.choose,?_,?_⟩
  ·unfold sig
   rw [List.getElem?_map,List.getElem?_range hj]
   simp only [Option.map_some]
   rw [dif_pos ex]
  ·obtain ⟨x',i',q1,q2,q3,q4,q5⟩:=ex.choose_spec
   rw [e1] at q2;cases q2
   exact q5 d e2
theorem CU {pins:List (Addr×Obj)}{σ:L2.St}{H3:Hp}{s3:Shared}(g:Good G n sc N df X) (I:Inv X pins σ H3 s3) (hs:jY sc scope) {cl:List (Str×Addr)}(gZ:∀ x c,cl.lookup x=some c→X.env.cells.lookup x=some c)
  (jZ:∀ x,(x,NameKind.free)∈scope.names→∃ c,cl.lookup x=some c) {fp:List Addr} (hfp:∀ b∈fp,gw X pins H3 b) (hfl:∀ b∈fp,b<s3.heap.objs.size) {h1:Heap} {tk:Nat} {mm:Str→Option Value}
  (hns:h1.Ns s3.heap.objs.size mm) (hk:∀ b o,s3.heap.get? b=some o→h1.get? b=some o) {r:List Addr} {fr:Fr} :
  Inv (pD X N' scope cl s3.heap.objs.size s3 H3 fp) [] (sig scope N N' m' X.K H3 r fr σ) H3 { s3 with heap:=h1,toks:=tk }:=by
 refine ⟨IK g I hs gZ jZ hfp hfl,rfl,I.bare,Un.kept hk,⟨mm,hns,fun j x v e1 e2 e3=>?_⟩,fun x c e=>?_,I.hok.fresh (Nat.le_refl _),fun x c e=>I.iJ x c (gZ x c e),(fun p hp=>by simp [pD] at hp),I.hok.kept hk,(by unfold sig;simp [pD])⟩
 ·obtain ⟨x',i,q1,q2,q3,⟨jo,q4,q5⟩,_⟩:=Ma e2
  have Mc:N'[j]?=some x:=e1
  rw [Mc] at q1;cases q1
  obtain ⟨f1,f2⟩:=hs.free x q3
  obtain ⟨mO,hnO,Zu⟩:=I.loc
  obtain ⟨u,ru,lk⟩:=Zu jo x v (by rw [g.nm];exact q4) q5 (by rw [g.sc];rcases f1 with z | z <;> simp [zI,z])
  refine ⟨u,ru,?_⟩
  have hkd:X.env.kindOf x=some .cell∨X.env.kindOf x=some .free:=by unfold Env.kindOf;rw [g.sc];exact f1
  rcases lk with ⟨z,_⟩ | ⟨_,c,hc,hcell⟩
  ·rcases hkd with w | w <;> (rw [z] at w;cases w)
  ·obtain ⟨c',hc'⟩:=jZ x q3
   have:c'=c:=by
    have:=gZ x c' hc'
    rw [hc] at this;cases this;rfl
   subst this
   refine .inr ⟨?_,c',hc',?_⟩
   ·show (relabel scope X.env).names.lookup x=some .cell∨(relabel scope X.env).names.lookup x=some .free
    rw [qG (scope:=scope) g.sc]
    exact rP f2
   ·obtain ⟨o,ho,hd⟩:=hcell
    exact ⟨o,hk _ _ ho,hd⟩
 ·obtain ⟨v,o,ho,hd⟩:=I.cell x c (gZ x c e)
  exact ⟨v,o,hk _ _ ho,hd⟩
end
end Sm
set_option maxRecDepth 100000
namespace Sm
open PySem PySem.Spec PyProof.Rows L2
open Ev (D O Hh Fr R aP E Es Eo T S Ss Fl Src bZ bP TY BI ME)
section
variable {G:Tb}{n:Nat}{sc scope:Scope}{N N':List Str}{df:Bool}{m m':List Nat}{elt:E}{t:T}{it:Ev.It}{cond:Eo}{xe xi tg:Expr}{ifs:List Expr}{pos:Pos}{X:Cx}
noncomputable def yp (P:aP) (elt:E) (t:T) (cond:Eo) (fr:Fr):D→Hh→R (Option D):=fun d h2=>match Ev.bH t d fr with
 | none=>.bad
 | some ao=>(Ev.gU P cond ao h2).bind fun k h3=>if k then (Ev.ev P elt ao h3).bind fun x h4=>.ok (some x) h4 else .ok none h3
theorem qH (P:aP) (elt:E) (t:T) (it:Ev.It) (cond:Eo) (fr:Fr) (h:Hh):Ev.ev P (.comp elt t it cond) fr h=(Ev.cy P it fr h).bind fun s h1=>if Ev.undef t fr then
  (Ev.cG (yp P elt t cond fr) s.2 s.1 h1).bind fun ds h2=>Ev.alloc ds h2 else .bad:=by
 simp only [Ev.ev]
 rfl
noncomputable def CI (Y:Cx) (m':List Nat) (f:D→Hh→R (Option D)) (fr:Fr) (src:Src) (fp:List Addr) (tn:Nat→Heap→Prop) (r2:List Addr) (H2:Hp) (Dd:Addr) (ds:List D) (h2:Hh) (k:Nat) (s:Shared):Prop:=
 ∃ i nQ Hc rc hc dn vs rest,Inv Y [] nQ Hc s∧tn i s.heap∧(∀ b∈fp,Hc b=none)∧k=src.1.length - i∧i≤src.1.length∧
  SR Y.K m' Hc rc fr nQ∧HR Y.K Hc rc hc∧Fm Y.K r2 rc H2 Hc∧Hc Dd=some (.lst vs)∧Dd∉rc∧aH Y.K Hc rc dn vs∧Ev.cG f src.2 (src.1.drop i) hc=.ok rest h2∧dn++rest=ds
section
variable {Y:Cx}{sc':Scope}{J:L2.It}{fp:List Addr}{ita:Addr}{tn:Nat→Heap→Prop}{fr:Fr}{src:Src}{r2:List Addr}{H2:Hp}{Dd:Addr}{ds:List D}{h2:Hh}
theorem yq (gC:Good G n sc' N' false Y) {α:Type}{tt:Sem α}{Q:α→Shared→Prop}{s:Shared}(hw:wpAny (model Y.prog Y.w) Y.A tt Q Y.xe s):wpAny (model Y.prog Y.w) Y.A tt Q fk s:=by rw [gC.xe] at hw;exact hw
theorem wG {i:Nat}{lR:L2.St}{H9:Hp}{r9:List Addr}{h9:Hh}{dn:List D}{vs:List V}{rest':List D}{s9:Shared}{p:List (Addr×Obj)}{f:D→Hh→R (Option D)}(hlt:i<src.1.length) (I9:Inv Y ([]++p) lR H9 s9) (bk:tn (i+1) s9.heap∧∀ b∈fp,H9 b=none) (q:SR Y.K m' H9 r9 fr lR) (rQ:HR Y.K H9 r9 h9) (fm:Fm Y.K r2 r9 H2 H9) (yr:H9 Dd=some (.lst vs)) (yu:Dd∉r9) (rv:aH Y.K H9 r9 dn vs) (e7:Ev.cG f src.2 (src.1.drop (i+1)) h9=.ok rest' h2) (ed:dn++rest'=ds) :
  ∃ k,k<src.1.length - i∧CI Y m' f fr src fp tn r2 H2 Dd ds h2 k s9:=
 ⟨src.1.length - (i+1),Nat.sub_lt_sub_left hlt (Nat.lt_succ_self i),i+1,lR,H9,r9,h9,dn,vs,rest',I9.kL,bk.1,bk.2,rfl,hlt,q,rQ,fm,yr,yu,rv,e7,ed⟩
theorem Me {i:Nat}{lR:L2.St}{H9:Hp}{r9:List Addr}{h9:Hh}{dn:List D}{vs:List V}{xd:D}{v10:V}{Ft:Value}{rest':List D}{s9:Shared}{p:List (Addr×Obj)}{f:D→Hh→R (Option D)}(hlt:i<src.1.length) (lS:H2 Dd=none) (hsz:ds.length≤sizeLine) (gC:Good G n sc' N' false Y) (I9:Inv Y ([]++p) lR H9 s9) (CV:RelV v10 Ft) (bk:∀ {σ':L2.St}{H':Hp}{s':Shared},Inv Y ([]++p) σ' H' s'→tn (i+1) s'.heap∧∀ b∈fp,H' b=none) (q:SR Y.K m' H9 r9 fr lR) (rQ:HR Y.K H9 r9 h9) (fm:Fm Y.K r2 r9 H2 H9) (nR:H9 Dd=some (.lst vs)) (ue:Dd∉r9) (rv:aH Y.K H9 r9 dn vs) (CW:RV Y.K H9 r9 xd v10) (e7:Ev.cG f src.2 (src.1.drop (i+1)) h9=.ok rest' h2) (ed:dn++xd :: rest'=ds) :
  wpAny (model Y.prog Y.w) Y.A (call (.builtin "list.append") [.ref Dd,Ft]) (fun _ Fv=>∃ k,k<src.1.length - i∧CI Y m' f fr src fp tn r2 H2 Dd ds h2 k Fv) fk s9:=by
 have hlen:vs.length<sizeLine:=by
  have h1:=rv.length
  have h2:=congrArg List.length ed
  simp at h2
  omega
 refine bB (yq gC (rF _ s9 lR H9 (.ref Dd) [v10] (.ref Dd) [Ft] (fun _ UA=>UA=upd H9 Dd (.lst (vs++[v10]))) I9 rfl (.cons CV .nil) ⟨Dd,vs,v10,rfl,rfl,nR,hlen,rfl⟩)) fun _ Fv ⟨_,UA,UB,_,Xc⟩=>?_
 subst Xc
 refine wG (dn:=dn++[xd]) (vs:=vs++[v10]) hlt UB (bk UB) ?_ (rQ.other nR ue) (fm.other lS nR) eL ue ?_ e7 ?_
 ·exact ⟨q.len,fun j i' d' a1 a2=>by
   obtain ⟨w,b1,b2⟩:=q.sl j i' d' a1 a2
   exact ⟨w,b1,b2.grow (fun _ _ z=>z) (gX nR)⟩⟩
 ·exact (rv.append (.cons CW .nil)).grow (fun _ _ z=>z) (gX nR)
 ·rw [←ed];simp
theorem Au (gC:Good G n sc' N' false Y) (hg:JG G n sc' N' false m' t tg) (hc:JC G n sc' N' false m' cond ifs) (he:JE G n sc' N' false m' elt xe) (Tn:Turn Y.prog Y.w Y.K tg J fp ita tn) (kM:∀ {Hc:Hp},(∀ b∈fp,Hc b=none)→∀ b∈fp,gw Y [] Hc b)
  (hu:Ev.undef t fr=true) (hJ:oH Y.K r2 H2 src J) (lS:H2 Dd=none) (hsz:ds.length≤sizeLine) {R':Result→Shared→Prop}
  (Xd:∀ s6 nQ Hc rc vs,Inv Y [] nQ Hc s6→HR Y.K Hc rc h2→Fm Y.K r2 rc H2 Hc→Hc Dd=some (.lst vs)→Dd∉rc→aH Y.K Hc rc ds vs→R' (.ok .next) s6) {k:Nat} {s:Shared}
  (h:CI Y m' (yp (Ev.run G.F G.w n) elt t cond fr) fr src fp tn r2 H2 Dd ds h2 k s):codeAny (model Y.prog Y.w) Y.A (.compLoop (.ListComp xe [⟨tg,xi,ifs,0⟩] scope pos) 0 (.ref ita) (.ref Dd) Y.env) R' s:=by
 refine uc (CI Y m' (yp (Ev.run G.F G.w n) elt t cond fr) fr src fp tn r2 H2 Dd ds h2) ?_ k h
 rintro k s5 ⟨i,nQ,Hc,rc,hc',dn,vs,rest,I5,we,rm,rfl,hle,Ao,rN,uf,nR,ue,Av,e5,Fw⟩
 rcases Nat.lt_or_ge i src.1.length with hlt | hge
 ·rw [List.drop_eq_getElem_cons hlt] at e5
  simp only [Ev.cG] at e5
  split at e5
  ·rename_i hst
   obtain ⟨hgo,_⟩:=hJ i Hc rc hc' rN uf hst
   obtain ⟨g1,g2⟩:=hgo src.1[i] (List.getElem?_eq_getElem hlt)
   obtain ⟨o,h6,e6,e5⟩:=Ev.ah e5
   obtain ⟨rest',h7,e7,e5⟩:=Ev.ah e5
   cases e5
   refine bB (Tn.item Y rfl rfl rfl gC.calm i [] s5 nQ Hc fk I5 (kM rm) we g1) fun rr s6 ⟨u,Zv,h8⟩=>?_
   subst Zv
   refine bB h8 fun _ s7 ⟨x,H7,I7,rx,y7,Mf,Zw⟩=>?_
   obtain ⟨r7,v7,UC,wH⟩:=g2 x H7 y7
   obtain ⟨Xe,Xf⟩:=wH.gD nR ue
   unfold yp at e6
   split at e6
   ·cases e6
   ·rename_i ao eb
    obtain ⟨kk,h9,e9,e6⟩:=Ev.ah e6
    have Zx:=I7.pinned (kM Zw) (Tn.obj _ _ Mf)
    refine bB (yq gC (hg _ gC _ s7 nQ H7 x u (fun lR H8=>H8=H7∧SR Y.K m' H7 r7 ao lR) Zx rx ⟨r7,fr,hc',_,ao,Ao.mono wH,UC,v7,eb,fun s' q=>⟨rfl,q⟩⟩)) fun _ s8 ⟨lR,H8,I8,Zy,Fx⟩=>?_
    subst Zy
    refine bB (yq gC (hc _ gC _ s8 lR _ (fun b H9=>b=kk∧∃ r9,HR Y.K H9 r9 h9∧Fm Y.K r7 r9 _ H9) I8 ⟨r7,ao,hc',kk,h9,Fx,UC,e9,fun H9 r9 rQ f9=>⟨rfl,r9,rQ,f9⟩⟩)) fun bb s9 ⟨H9,I9,Lq,r9,rQ,rR⟩=>?_
    subst Lq
    obtain ⟨yu,yr⟩:=rR.gD Xf Xe
    have back:∀ {σ':L2.St} {H':Hp} {s':Shared},Inv Y ([]++lW fp s7.heap) σ' H' s'→tn (i+1) s'.heap∧∀ b∈fp,H' b=none:=fun {σ' H' s'} I'=>
     ⟨Tn.keep _ _ _ Mf fun b hb o e=>(I'.pin (b,o) (List.mem_append_right _ (List.mem_append_right _ (jb hb e)))).1,fun b hb=>
      let ⟨o,e,_⟩:=Tn.obj _ _ Mf b hb
      (I'.pin (b,o) (List.mem_append_right _ (List.mem_append_right _ (jb hb e)))).2.1⟩
    cases bb with
    | false=>
     simp only [Bool.false_eq_true,if_false] at e6 ⊢
     cases e6
     exact wG hlt I9 (back I9) ((Fx.mono rR).unbind eb hu) rQ ((uf.trans wH).trans rR) yr yu ((Av.mono wH).mono rR) e7 Fw
    | true=>
     simp only [if_true] at e6 ⊢
     obtain ⟨xd,h10,Zz,e6⟩:=Ev.ah e6
     cases e6
     refine bB (yq gC (he _ gC _ s9 lR H9 (fun v Aw=>∃ wI,RV Y.K Aw wI xd v∧HR Y.K Aw wI _∧Fm Y.K r9 wI H9 Aw) I9 ⟨r9,ao,h9,xd,_,Fx.mono rR,rQ,Zz,fun v Aw wI v10 CY Fy=>⟨wI,v10,CY,Fy⟩⟩)) fun Ft UD ⟨v10,Aw,ZA,CV,wI,CW,CY,yv⟩=>?_
     obtain ⟨RQ,RS⟩:=yv.gD yr yu
     exact Me hlt lS hsz gC ZA CV back (((Fx.mono rR).mono yv).unbind eb hu) CY (((uf.trans wH).trans rR).trans yv) RS RQ (((Av.mono wH).mono rR).mono yv) CW e7 Fw
  ·cases e5
 ·have hi':i=src.1.length:=Nat.le_antisymm hle hge
  subst hi'
  rw [List.drop_length] at e5
  simp only [Ev.cG] at e5
  split at e5
  ·rename_i hst
   cases e5
   refine bB (Tn.done Y rfl rfl rfl gC.calm _ [] s5 nQ Hc fk I5 (kM rm) we ((hJ _ Hc rc _ rN uf hst).2 (Nat.le_refl _))) fun rr s6 ⟨hrr,I6⟩=>?_
   subst hrr
   rw [List.append_nil] at Fw
   subst Fw
   exact Xd s6 nQ Hc rc vs I6 rN uf nR ue Av
  ·cases e5
end
theorem rS (g:Good G n sc N df X) (hi:JI G n sc N df m it tg xi) (hg:JG G n (eY sc scope) N' false m' t tg) (hc:JC G n (eY sc scope) N' false m' cond ifs) (he:JE G n (eY sc scope) N' false m' elt xe)
  (hn:namesOk sc N m scope t N' m') (hs:jY sc scope) {cl:List (Str×Addr)} (gZ:∀ x c,cl.lookup x=some c→X.env.cells.lookup x=some c) (jZ:∀ x,(x,NameKind.free)∈scope.names→∃ c,cl.lookup x=some c)
  {pins:List (Addr×Obj)} {σ:L2.St} {H:Hp} {s:Shared} (I:Inv X pins σ H s) {r:List Addr} {fr:Fr} {h:Hh} {d:D} {h':Hh} (sr:SR X.K m H r fr σ) (hr:HR X.K H r h)
  (e:Ev.ev (Ev.run G.F G.w n) (.comp elt t it cond) fr h=.ok d h') (post:Value→Addr→Result→Shared→Prop)
  (hpost:∀ Dd C s' H' r',Inv X pins σ H' s'→(∃ mm,s'.heap.Ns C mm)→gw X pins H' C→RV X.K H' r' d (.ref Dd)→HR X.K H' r' h'→Fm X.K r r' H H'→post (.ref Dd) C (.ok .next) s') {E:Value→Shared→Prop} (hE:X.xe=fun _ _=>False) :
  wpAny (model X.prog X.w) X.A (eval xi X.env) (fun x s₁=>wpAny (model X.prog X.w) X.A (pyIter x) (fun itv s₂=>wpAny (model X.prog X.w) X.A (newList []) (fun acc s₃=>
   wpAny (model X.prog X.w) X.A (newFunctionEnv scope X.env.globals cl [] X.env.qual none .none (some X.env)) (fun cenv s₄=>
    codeAny (model X.prog X.w) X.A (.compStart (.ListComp xe [⟨tg,xi,ifs,0⟩] scope pos) 0 itv acc { cenv with scope:=relabel scope X.env }) (post acc cenv.locals) s₄) E s₃) E s₂) E s₁) E s:=by
 rw [qH] at e
 obtain ⟨src,h1,e1,e⟩:=Ev.ah e
 split at e
 ·rename_i hu
  obtain ⟨ds,h2,e2,e⟩:=Ev.ah e
  have ri:∀ {α:Type} {tt:Sem α} {Q:α→Shared→Prop} {s:Shared},wpAny (model X.prog X.w) X.A tt Q X.xe s→wpAny (model X.prog X.w) X.A tt Q E s:=fun {α tt Q s} hw=>wpAny_mono hw (fun _ _ q=>q) fun _ _ q=>by rw [hE] at q;exact q.elim
  refine bB (ri (hi X g pins s σ H (fun J H2=>∃ r2,HR X.K H2 r2 h1∧Fm X.K r r2 H H2∧oH X.K r2 H2 src J) I ⟨r,fr,h,src,h1,sr,hr,e1,fun J H2 r2 hr2 f2 hJ=>⟨r2,hr2,f2,hJ⟩⟩)) fun v s1 q1=>?_
  refine bB (ri q1) fun itv s2 q2=>?_
  obtain ⟨ita,fp,tn,J,H2,rfl,I2,Tn,st2,f2,r2,hr2,Fz,hJ⟩:=q2
  refine wpAny_newObj_type ?_
  generalize FA:s2.heap.objs.size=Dd
  have lS:H2 Dd=none:=by rw [←FA];exact I2.fresh
  have I3:Inv X pins σ (upd H2 Dd (.lst [])) { s2 with heap:=s2.heap.push { cls:=.type "list",data:=.seq ([]:List Value).toArray }}:=by
   have:=I2.Cz (ys:=[]) (its:=[]) (t':=s2.toks) .nil (Nat.zero_le _)
   rw [FA] at this
   exact this
  have Mg:∀ b∈fp,b<s2.heap.objs.size:=fun b hb=>by
   obtain ⟨o,e,_⟩:=Tn.obj 0 _ st2 b hb
   exact Heap.lt_size e
  generalize Mh:({ s2 with heap:=s2.heap.push { cls:=.type "list",data:=.seq ([]:List Value).toArray }}:Shared)=s3 at I3
  have Xg:s3.heap.objs.size=s2.heap.objs.size+1:=by rw [←Mh];exact Heap.size_push ..
  have k3:∀ b o,s2.heap.get? b=some o→s3.heap.get? b=some o:=fun b o e=>by rw [←Mh];exact Heap.get?_push_of_some _ e
  have Mi:∀ b∈fp,b<s3.heap.objs.size:=fun b hb=>Nat.lt_of_lt_of_le (Mg b hb) (by rw [Xg];exact Nat.le_succ _)
  have qI:∀ b∈fp,gw X pins (upd H2 Dd (.lst [])) b:=fun b hb=>⟨by rw [aU (fun z=>absurd (Mg b hb) (by rw [z,FA];exact Nat.lt_irrefl _))];exact (f2 b hb).1,(f2 b hb).2⟩
  refine wpAny_newFunctionEnv (hs.As) (fun y hy=>by simp at hy) (fun Mj Xh Xi=>?_) hs.kind
  have k4:∀ b o,s3.heap.get? b=some o→Mj.get? b=some o:=fun b o e=>Xi.extBut b o (Nat.ne_of_lt (Heap.lt_size e)) (Heap.get?_push_of_some _ e)
  have gC:Good G n (eY sc scope) N' false (pD X N' scope cl s3.heap.objs.size s3 (upd H2 Dd (.lst [])) fp):=g.comp
  have I4:Inv (pD X N' scope cl s3.heap.objs.size s3 (upd H2 Dd (.lst [])) fp) [] (sig scope N N' m' X.K (upd H2 Dd (.lst [])) r2 fr σ) (upd H2 Dd (.lst [])) { s3 with heap:=Mj,toks:=s3.toks+0 }:=
   CU g I3 hs gZ jZ qI Mi Xh k4
  have wA:SR X.K m' (upd H2 Dd (.lst [])) r2 fr (sig scope N N' m' X.K (upd H2 Dd (.lst [])) r2 fr σ):=Mb (((sr.mono Fz).mono (Fm.tup lS))) hn hu
  have iZ:HR X.K (upd H2 Dd (.lst [])) r2 h1:=hr2.tup lS
  have UE:Dd∉r2:=fun hm=>by
   obtain ⟨k,hk⟩:=List.getElem?_of_mem hm
   have hlt:k<h1.length:=by rw [←hr2.len];exact (List.getElem?_eq_some_iff.mp hk).1
   obtain ⟨a,e3,e4⟩:=hr2.ob k _ (List.getElem?_eq_getElem hlt)
   rw [hk] at e3;cases e3
   cases eo:h1[k] with
   | lst dd=>rw [eo] at e4;obtain ⟨us,e5,_⟩:=e4;rw [lS] at e5;cases e5
   | bU dd=>
    rw [eo] at e4
    obtain ⟨us,e5,_⟩:=e4
    rcases e5 with ⟨ob,e5⟩ | ⟨ob,_,_,e5,_⟩
    ·rw [lS] at e5;cases e5
    ·have:=Heap.lt_size (I2.q8 _ _ e5)
     rw [FA] at this
     exact absurd this (Nat.lt_irrefl _)
   | dct kvs=>rw [eo] at e4;have e5:=e4.1;rw [lS] at e5;cases e5
  have ZC:H Dd=none:=by
   cases z:H Dd with
   | none=>rfl
   | some o=>
    have hnr:Dd∉r:=fun hm=>by
     obtain ⟨k,hk⟩:=List.getElem?_of_mem hm
     exact UE (List.mem_of_getElem? (Fz.pre _ _ hk))
    have:=Fz.keep _ _ z hnr
    rw [lS] at this;cases this
  have kM:∀ {Hc:Hp},(∀ b∈fp,Hc b=none)→∀ b∈fp,gw (pD X N' scope cl s3.heap.objs.size s3 (upd H2 Dd (.lst [])) fp) [] Hc b:=fun {Hc} hz b hb=>by
   refine ⟨hz b hb,Nat.ne_of_lt (Mi b hb),(I4.ok).qy b hb,.inl hb,fun x c e=>((I4.ok).E4 b hb).2 x c e,fun p hp=>?_⟩
   simp [pD] at hp
  have hsz:ds.length≤sizeLine:=by
   unfold Ev.alloc at e
   split at e
   ·rename_i z;rw [←gW];exact z
   ·cases e
  have fin:codeAny (model X.prog X.w) X.A (.compLoop (.ListComp xe [⟨tg,xi,ifs,0⟩] scope pos) 0 (.ref ita) (.ref Dd) (compEnvC scope cl s3.heap.objs.size X.env)) (post (.ref Dd) s3.heap.objs.size) { s3 with heap:=Mj,toks:=s3.toks+0 }:=by
   refine Au gC hg hc he Tn kM hu hJ lS hsz (fun s6 nQ Hc rc vs I6 rN uf nR ue Av=>?_) ⟨0,_,_,r2,h1,[],[],ds,I4,Tn.keep _ _ _ st2 fun b hb o eo=>k4 b o (k3 b o eo),fun b hb=>(qI b hb).1,rfl,Nat.zero_le _,wA,iZ,Fm.tup lS,eL,UE,.nil,by rw [List.drop_zero];exact e2,rfl⟩
   unfold Ev.alloc at e
   split at e
   ·cases e
    obtain ⟨ZD,Xj,_⟩:=I6.loc
    refine hpost Dd _ s6 Hc (rc++[Dd]) ?_ ⟨ZD,Xj⟩ ?_ ⟨Dd,rfl,?_⟩ (rN.known nR ue Av) ((Fz.trans uf).known ?_)
    ·exact I3.Ra (ch:=fp) (I6.os) I6.base I6.hok I6.bare fun b hb=>⟨(qI b hb).2.2.2.1,(qI b hb).2.1,(qI b hb).2.2.2.2.1,(qI b hb).2.2.2.2.2⟩
    ·exact I3.xU (Nat.le_refl _) I6.free
    ·rw [←rN.len];simp
    ·exact ZC
   ·cases e
  subst Mh
  exact codeAny_compStart_list fin (Tn.self _ 0 _ _ _ (Tn.keep _ _ _ st2 fun b hb o eo=>k4 b o (k3 b o eo)) fin)
 ·cases e
end
end Sm
set_option maxRecDepth 100000
namespace Sm
open PySem PySem.Spec PyProof.Rows L2
open Ev (D O Hh Fr R aP E Es Eo T S Ss Fl Src bZ bP TY BI ME)
section
variable {G:Tb}{n:Nat}{sc scope:Scope}{N N':List Str}{df:Bool}{m m':List Nat}{elt:E}{t:T}{it:Ev.It}{cond:Eo}{xe xi tg:Expr}{ifs:List Expr}{pos:Pos}
theorem Good.cells {X:Cx}{pins:List (Addr×Obj)}{σ:L2.St}{H:Hp}{s:Shared}(g:Good G n sc N df X) (I:Inv X pins σ H s) (hs:jY sc scope) :
  ∃ cl,closureFor scope X.env=pure cl∧(∀ x c,cl.lookup x=some c→X.env.cells.lookup x=some c)∧∀ x,(x,NameKind.free)∈scope.names→∃ c,cl.lookup x=some c:=
 IJ fun x hx=>I.ok.has x (by unfold Env.kindOf;rw [g.sc];exact (hs.free x hx).1)
theorem Ax {X:Cx}{pins:List (Addr×Obj)}{σ:L2.St}{H:Hp}{s:Shared}(I:Inv X pins σ H s) {C:Addr}(fp:gw X pins H C) {h':Heap}(hs:Heap.SameBut C s.heap h'):Inv X pins σ H { s with heap:=h' }:=
 I.turned (t':=s.toks) (fun b o hb e=>hs.extBut b o hb e) fp.1 fp.2.1 fp.2.2.2.1 fp.2.2.2.2.1 fp.2.2.2.2.2
theorem wJ (hi:JI G n sc N df m it tg xi) (hg:JG G n (eY sc scope) N' false m' t tg) (hc:JC G n (eY sc scope) N' false m' cond ifs) (he:JE G n (eY sc scope) N' false m' elt xe)
  (hn:namesOk sc N m scope t N' m') (hs:jY sc scope) (hf:∀ (env:Env) x,foldedSetIterable xi env x=pure x:=by intro _ _;rfl):JE G n sc N df m (.comp elt t it cond) (.ListComp xe [⟨tg,xi,ifs,0⟩] scope pos):=fun X g pins s σ H Q I q=>by
 obtain ⟨r,fr,h,d,h',sr,hr,e,q⟩:=q
 obtain ⟨cl,hcl,gZ,jZ⟩:=g.cells I hs
 rw [eval_ListComp]
 refine wpAny_comprehension_free (use:=none) (Q:=EP X pins σ Q) rfl (hf _) hcl hs.kind hs.loc ?_
 refine rS g hi hg hc he hn hs gZ jZ I sr hr e (fun acc C=>compPost (model X.prog X.w) X.A X.xe none (EP X pins σ Q) acc C) (fun Dd C s' H' r' I' hC fp rv hr' FD=>?_) g.xe
 obtain ⟨mm,hC⟩:=hC
 exact ⟨mm,hC,fun h'' Ay=>⟨.ref Dd,H',Ax I' fp Ay,rfl,q _ H' r' rv hr' FD⟩⟩
theorem IL (j i:Nat) {x:Str}{pos' cpos:Pos}(hm:m.Nodup) (hN:N.Nodup) (hi:JI G n sc N df m it tg xi) (hg:JG G n (eY sc scope) N' false m' t tg) (hc:JC G n (eY sc scope) N' false m' cond ifs) (he:JE G n (eY sc scope) N' false m' elt xe)
  (hn:namesOk sc N m scope t N' m') (hs:jY sc scope) (hj:m[j]?=some i:=by rfl) (rK:N[j]?=some x:=by rfl)
  (hl:sc.names.lookup x=some .local∨(df=true∧sc.names.lookup x=some .cell):=by first | exact Or.inl rfl | exact Or.inr ⟨rfl,rfl⟩) (hf:∀ (env:Env) x,foldedSetIterable xi env x=pure x:=by intro _ _;rfl) :
  JS G n sc N df m (.set i (.comp elt t it cond)) (.Assign [.Name x pos'] (.ListComp xe [⟨tg,xi,ifs,0⟩] scope cpos) pos):=fun X g=>by
 obtain ⟨h1,h2⟩:=g.loc hl
 have hsw:swapsWith (.ListComp xe [⟨tg,xi,ifs,0⟩] scope cpos) (some (.Name x pos')) pos.line X.env=pure (X.env.blockKind==.function&&X.env.kindOf x==some .local&&pos'.line==(Expr.ListComp xe [⟨tg,xi,ifs,0⟩] scope cpos).pos.line&&!(scope.names.any fun (n,k)=>n==x&&(k==.local || k==.cell))):=rfl
 generalize hb:(X.env.blockKind==.function&&X.env.kindOf x==some .local&&pos'.line==(Expr.ListComp xe [⟨tg,xi,ifs,0⟩] scope cpos).pos.line&&!(scope.names.any fun (n,k)=>n==x&&(k==.local || k==.cell)))=b at hsw
 cases b with
 | false=>
  refine PS.of (zN (i:=j) (by rw [g.nm];exact hN) (by rw [g.nm];exact rK) h1 (wJ hi hg hc he hn hs hf X g) hsw h2) fun Q s H q=>?_
  obtain ⟨r,fr,h,fl,aj,h',sr,hr,e,q⟩:=q
  simp only [Ev.ex] at e
  obtain ⟨d,h1,e1,e⟩:=Ev.ah e
  cases e
  exact ⟨r,fr,h,d,_,sr,hr,e1,fun v H1 r1 v1 hr1 f1=>q _ H1 r1 ((sr.mono f1).set hm hj v1) hr1 f1⟩
 | true=>
  have hkl:X.env.kindOf x=some .local:=by
   simp only [Bool.and_eq_true,beq_iff_eq] at hb
   exact hb.1.1.2
  intro pins s σ H Q I q
  obtain ⟨r,fr,h,fl,aj,h',sr,hr,e,q⟩:=q
  simp only [Ev.ex] at e
  obtain ⟨d,h3,e1,e⟩:=Ev.ah e
  cases e
  obtain ⟨cl,hcl,gZ,jZ⟩:=g.cells I hs
  rw [exec_Assign_Name_used _ _ _ _ hsw]
  refine wpAny_bind (wpAny_standAt (wpAny_bind ?_))
  show wpAny _ X.A (do let _ ←comprehension (.ListComp xe [⟨tg,xi,ifs,0⟩] scope cpos) scope X.env _ (newList []) false (eval xi X.env) (some (assign (.Name x pos') X.env))) _ _ s
  refine wpAny_bind (wpAny_mono (wpAny_comprehension_free (use:=some (assign (.Name x pos') X.env)) (Q:=fun _ s'=>SP X pins Q .next s') rfl (hf _) hcl hs.kind hs.loc ?_) (fun _ s' hq=>wpAny_pure (wpAny_pure hq)) fun _ _ e=>e)
  refine rS g hi hg hc he hn hs gZ jZ I sr hr e1 (fun acc C=>compPost (model X.prog X.w) X.A X.xe (some (assign (.Name x pos') X.env)) (fun _ s'=>SP X pins Q .next s') acc C) (fun Dd C s' H' r' I' hC fp rv hr' FD=>?_) g.xe
  obtain ⟨mm,hC⟩:=hC
  show wpAny _ X.A (assign (.Name x pos') X.env (.ref Dd)) _ _ s'
  refine wpAny_assign_Name (q9 (v:=.ref Dd) I' (by rw [g.nm];exact hN) (i:=j) (by rw [g.nm];exact rK) h1 rfl (fun s'' ZE Ay=>?_) h2)
  obtain ⟨a,Ay,ha⟩:=Ay
  have ZF:C≠a:=by
   rcases ha with z | z
   ·rw [z];exact fp.2.1
   ·exact fun w=>fp.2.2.2.2.1 x a z w.symm
  refine ⟨mm,hC.sameBut Ay ZF,fun h'' Xk=>?_⟩
  exact ⟨_,H',Ax ZE ⟨fp.1,fp.2⟩ Xk,q _ H' r' ((sr.mono FD).set hm hj rv) hr' FD⟩
end
end Sm
set_option maxRecDepth 100000
namespace Sm
open PySem PySem.Spec PyProof.Rows L2 PySem.SeqAt
open Ev (D O Hh Fr R aP E Es Eo T S Ss Fl Src bZ bP TY BI ME)
structure ug (A:Around) (s:Shared) (u w:Value) (k:Bool):Prop where
 eq:EqAt A s u w k
 rc:RcAt A s u w k
 ne:RcNeAt A s u w (!k)
theorem qJ {f:D→D→Option Bool}:∀ {x y:List D},x.length≠y.length→∀ {k},Ev.cF f x y=some k→k=false
 | [],[],h,_,_=>absurd rfl h
 | [],_ :: _,_,_,e=>by cases e;rfl
 | _ :: _,[],_,_,e=>by cases e;rfl
 | a :: x,b :: y,h,k,e=>by
  simp only [Ev.cF,Option.bind_eq_bind,Option.bind_eq_some_iff] at e
  obtain ⟨p,_,q,e2,e3⟩:=e
  have:=qJ (x:=x) (y:=y) (by simpa using h) e2
  subst this
  cases e3
  simp
theorem wK {f:D→D→Option Bool}:∀ {x y:List D}{k},Ev.cF f x y=some k→x.length=y.length→∃ e:Nat→Bool,(∀ (j:Nat) a b,x[j]?=some a→y[j]?=some b→f a b=some (e j))∧(List.range x.length).all e=k
 | [],[],_,h,_=>⟨fun _=>true,(fun j a b h1=>by simp at h1),by cases h;simp⟩
 | [],_ :: _,_,_,h=>by simp at h
 | _ :: _,[],_,_,h=>by simp at h
 | a :: x,b :: y,k,h,hl=>by
  simp only [Ev.cF,Option.bind_eq_bind,Option.bind_eq_some_iff] at h
  obtain ⟨p,e1,q,e2,e3⟩:=h
  cases e3
  obtain ⟨e,h1,h2⟩:=wK e2 (by simpa using hl)
  refine ⟨fun j=>match j with | 0=>p | j+1=>e j,fun j a' b' g1 g2=>?_,?_⟩
  ·cases j with
   | zero=>simp at g1 g2;subst g1 g2;exact e1
   | succ j=>exact h1 j a' b' (by simpa using g1) (by simpa using g2)
  ·rw [List.length_cons,List.range_succ_eq_map,List.all_cons,List.all_map,←h2]
   rfl
theorem wL {f:D→D→Option Bool}:∀ {x y:List D}{k},Ev.cF f x y=some k→∃ e:Nat→Bool,∀ (j:Nat) a b,x[j]?=some a→y[j]?=some b→f a b=some (e j)
 | [],_,_,_=>⟨fun _=>true,fun j a b h1=>by simp at h1⟩
 | _ :: _,[],_,_=>⟨fun _=>true,fun j a b _ h1=>by simp at h1⟩
 | a :: x,b :: y,k,h=>by
  simp only [Ev.cF,Option.bind_eq_bind,Option.bind_eq_some_iff] at h
  obtain ⟨p,e1,q,e2,e3⟩:=h
  obtain ⟨e,h1⟩:=wL e2
  refine ⟨fun j=>match j with | 0=>p | j+1=>e j,fun j a' b' g1 g2=>?_⟩
  cases j with
  | zero=>simp at g1 g2;subst g1 g2;exact e1
  | succ j=>exact h1 j a' b' (by simpa using g1) (by simpa using g2)
section
variable {X:Cx}{pins:List (Addr×Obj)}{σ:L2.St}{H:Hp}{s:Shared}{r:List Addr}{h:Hh}
theorem m6 (I:Inv X pins σ H s) {a b:Addr}{vs ws:List V}(h1:yk X.K H a vs) (h2:H b=some (.lst ws)):a≠b:=by
 rintro rfl
 rcases h1 with ⟨o,h1⟩ | ⟨o,_,_,h1,_⟩
 ·rw [h2] at h1;cases h1
 ·have:=(I.bs a o (I.ok.mod.E3 a o h1)).2
  rw [h2] at this;cases this
theorem rT {x y:List D}{vs ws:List V}{us zs:List Value}{f:D→D→Option Bool}{A:Around}{k:Bool}(v1:aH X.K H r x vs)(v2:aH X.K H r y ws)(p1:Vals vs us)(p2:Vals ws zs)
  (ih:∀ a b va vb u w k,RV X.K H r a va→RV X.K H r b vb→RelV va u→RelV vb w→f a b=some k→ug A s u w k) (hl:x.length=y.length) (e:Ev.cF f x y=some k) :
  ∃ e':Nat→Bool,(∀ j (h1:j<us.toArray.size) (h2:j<zs.toArray.size),EqAt A s us.toArray[j] zs.toArray[j] (e' j))∧(List.range us.toArray.size).all e'=k∧us.length=zs.length:=by
 obtain ⟨e',h1,h2⟩:=wK e hl
 have l1:=v1.length
 have l2:=v2.length
 have l3:=p1.length
 have l4:=p2.length
 refine ⟨e',fun j g1 g2=>?_,?_,by omega⟩
 ·have ZG:j<us.length:=by simpa using g1
  have ZH:j<zs.length:=by simpa using g2
  have ha:x[j]?=some x[j]:=List.getElem?_eq_getElem (by omega)
  have hb:y[j]?=some y[j]:=List.getElem?_eq_getElem (by omega)
  obtain ⟨va,a1,a2⟩:=v1.get ha
  obtain ⟨vb,b1,b2⟩:=v2.get hb
  obtain ⟨u,a3,a4⟩:=p1.get a1
  obtain ⟨w,b3,b4⟩:=p2.get b1
  have eu:us.toArray[j]=u:=by
   have:=(List.getElem?_eq_some_iff.mp a3).2
   simpa using this
  have ew:zs.toArray[j]=w:=by
   have:=(List.getElem?_eq_some_iff.mp b3).2
   simpa using this
  rw [eu,ew]
  exact (ih _ _ _ _ _ _ _ a2 b2 a4 b4 (h1 j _ _ ha hb)).eq
 ·rw [←h2]
  have:us.toArray.size=x.length:=by simp;omega
  rw [this]
noncomputable def gv (K:PySem.W.Frag) (H:Hp) (r:List Addr):D→V→Prop
 | .bD,v=>v=.bD
 | .bl b,v=>v=.bl b
 | .int i,v=>v=.int i
 | .str l,v=>v=.str (aN l)
 | .ref n,v=>∃ a,v=.ref a∧r[n]?=some a
 | .tup ds,v=>∃ a vs,v=.ref a∧di K H a vs∧aH K H r ds vs
theorem RV.shape {d:D}{v:V}(h:RV X.K H r d v):gv X.K H r d v:=by
 cases d <;> simp only [RV] at h <;> simp only [gv] <;> first | exact h | exact h.1
theorem IM {a b:List Nat}:(aN a==aN b)=(a==b):=by
 by_cases e:a=b
 ·subst e;simp
 ·have e1:(aN a==aN b)=false:=beq_eq_false_iff_ne.mpr fun z=>e (qE z)
  have e2:(a==b)=false:=beq_eq_false_iff_ne.mpr e
  rw [e1,e2]
theorem oJ {n:Nat}{A:Around}{x y:List D}{a b:Addr}{vs ws:List V}{k:Bool}(I:Inv X pins σ H s)(hu:A.units<cLine)(q1:dJ X.K H a vs)(q2:dJ X.K H b ws)(v1:aH X.K H r x vs)(v2:aH X.K H r y ws)(hab:a≠b)
  (ih:∀ a b va vb u w k,RV X.K H r a va→RV X.K H r b vb→RelV va u→RelV vb w→Ev.fS h n a b=some k→ug A.in1 s u w k) (e:Ev.cF (Ev.fS h n) x y=some k):ug A s (.ref a) (.ref b) k:=by
 obtain ⟨us,p1,nT,_⟩:=I.list q1
 obtain ⟨zs,p2,nU,_⟩:=I.list q2
 by_cases hl:x.length=y.length
 ·obtain ⟨e',h1,h2,h3⟩:=rT v1 v2 p1 p2 ih hl e
  have hs:us.toArray.size=zs.toArray.size:=by simpa using h3
  have rc:=RcAt.lists nT.isList nU.isList hs hu h1
  have ne:=RcNeAt.lists nT.isList nU.isList hs hu h1
  rw [h2] at rc ne
  exact ⟨.of_refs hab rc,rc,ne⟩
 ·have hk:=qJ hl e
  subst hk
  have hs:(us.toArray.size != zs.toArray.size)=true:=by
   have l1:=v1.length
   have l2:=v2.length
   have l3:=p1.length
   have l4:=p2.length
   simp only [List.size_toArray,bne_iff_ne,ne_eq]
   omega
  exact ⟨.of_refs hab (.lists_lengths nT.isList nU.isList hs hu),.lists_lengths nT.isList nU.isList hs hu,.lists_lengths nT.isList nU.isList hs hu⟩
theorem Az (I:Inv X pins σ H s) (hr:HR X.K H r h) {n:Nat}{a:Addr}{ds:List D}(e:Ev.bu h n=some ds) (ha:r[n]?=some a):∃ us:List Value,PlainL s.heap a us.toArray:=by
 obtain ⟨a',vs,e1,e2,e3⟩:=hr.read e
 rw [ha] at e1;cases e1
 obtain ⟨us,_,pl,_⟩:=I.list e2
 exact ⟨us,pl⟩
theorem AA (I:Inv X pins σ H s) (hr:HR X.K H r h):∀ (n:Nat) (a b:D) (v:V) (k:Bool),RV X.K H r a v→RV X.K H r b v→Ev.fS h n a b=some k→k=true:=by
 intro n
 induction n with
 | zero=>intro a b v k _ _ e;cases e
 | succ n ih=>
  have items:∀ (x y:List D) (vs:List V) (k:Bool),aH X.K H r x vs→aH X.K H r y vs→Ev.cF (Ev.fS h n) x y=some k→k=true:=by
   intro x
   induction x with
   | nil=>
    intro y vs k h1 h2 e
    simp only [aH] at h1
    subst h1
    cases y with
    | nil=>cases e;rfl
    | cons _ _=>simp only [aH] at h2;obtain ⟨_,_,h2,_⟩:=h2;cases h2
   | cons d x ZI=>
    intro y vs k h1 h2 e
    simp only [aH] at h1
    obtain ⟨v,w,rfl,h3,h4⟩:=h1
    cases y with
    | nil=>simp only [aH] at h2;cases h2
    | cons d' y=>
     simp only [aH] at h2
     obtain ⟨v',w',e2,h5,h6⟩:=h2
     cases e2
     simp only [Ev.cF,Option.bind_eq_bind,Option.bind_eq_some_iff] at e
     obtain ⟨p,e1,q,e2,e3⟩:=e
     cases e3
     rw [ih d d' v p h3 h5 e1,ZI y w q h4 h6 e2]
     rfl
  have lt:∀ (a:Addr) (vs:List V) (i:Nat) (ds:List D),di X.K H a vs→r[i]?=some a→Ev.bu h i=some ds→False:=fun a vs i ds h1 h2 h3=>by
   obtain ⟨us,pl⟩:=Az I hr h3 h2
   obtain ⟨zs,_,pt,_⟩:=I.tuple h1
   exact ne_of_list_tuple pl.isList pt rfl
  intro a b v k h1 h2 e
  have s1:=h1.shape
  have s2:=h2.shape
  clear h1 h2
  cases a with
  | bD=>cases e
  | bl _=>cases e
  | int x=>simp only [gv] at s1;cases b with
   | int y=>simp only [gv] at s2;rw [s1] at s2;cases s2;cases e;simp
   | ref m=>obtain ⟨p,z,_⟩:=s2;rw [s1] at z;cases z
   | tup y=>obtain ⟨p,_,z,_⟩:=s2;rw [s1] at z;cases z
   | _=>simp only [gv] at s2;rw [s1] at s2;cases s2
  | str x=>simp only [gv] at s1;cases b with
   | str y=>
    simp only [gv] at s2
    rw [s1] at s2
    have:x=y:=qE (by injection s2)
    subst this
    cases e;simp
   | ref m=>obtain ⟨p,z,_⟩:=s2;rw [s1] at z;cases z
   | tup y=>obtain ⟨p,_,z,_⟩:=s2;rw [s1] at z;cases z
   | _=>simp only [gv] at s2;rw [s1] at s2;cases s2
  | tup x=>
   obtain ⟨p,vs,rfl,z,w⟩:=s1
   cases b with
   | tup y=>
    obtain ⟨p',vs',z',z2,w2⟩:=s2
    cases z'
    rw [I.lV z2 z] at w2
    exact items x y vs k w w2 e
   | ref m=>
    obtain ⟨p',z',z2⟩:=s2
    cases z'
    obtain ⟨ds,e1,_⟩:=Option.map_eq_some_iff.mp e
    exact (lt _ _ _ _ z z2 e1).elim
   | _=>cases s2
  | ref i=>
   obtain ⟨p,rfl,z⟩:=s1
   cases b with
   | ref m=>
    obtain ⟨p',z',z2⟩:=s2
    cases z'
    replace e:Ev.jx h (Ev.fS h n) i m=some k:=e
    unfold Ev.jx at e
    split at e
    ·simp only [Option.map_eq_some_iff] at e
     obtain ⟨_,_,e⟩:=e
     exact e.symm
    ·rename_i hne
     split at e
     ·rename_i x y g1 g2
      exact absurd (hr.inj _ _ _ _ _ z z2 g1 g2) hne
     ·rename_i x y g1 g2
      obtain ⟨p1,q1,FE,q2,_⟩:=hr.ob _ _ g1
      obtain ⟨p2,q3,FF,q4,_⟩:=hr.ob _ _ g2
      rw [z] at q1;cases q1
      rw [z2] at q3;cases q3
      exact absurd rfl (m6 I q2 q4)
     ·rename_i x y g1 g2
      obtain ⟨p1,q1,FE,q2,_⟩:=hr.ob _ _ g1
      obtain ⟨p2,q3,FF,q4,_⟩:=hr.ob _ _ g2
      rw [z] at q1;cases q1
      rw [z2] at q3;cases q3
      exact absurd rfl (m6 I q4 q2)
     ·cases e
   | tup y=>
    obtain ⟨p',vs',z',z2,w2⟩:=s2
    cases z'
    obtain ⟨ds,e1,_⟩:=Option.map_eq_some_iff.mp e
    exact (lt _ _ _ _ z2 z e1).elim
   | _=>cases s2
theorem IP {n:Nat}{A:Around}{x y:List D}{a b:Addr}{vs ws:List V}{k:Bool}(I:Inv X pins σ H s)(hr:HR X.K H r h)(hu:A.units<cLine)(q1:di X.K H a vs)(q2:di X.K H b ws)(v1:aH X.K H r x vs)(v2:aH X.K H r y ws)
  (ih:∀ a b va vb u w k,RV X.K H r a va→RV X.K H r b vb→RelV va u→RelV vb w→Ev.fS h n a b=some k→ug A.in1 s u w k) (e:Ev.cF (Ev.fS h n) x y=some k):ug A s (.ref a) (.ref b) k:=by
 obtain ⟨us,p1,nT,_⟩:=I.tuple q1
 obtain ⟨zs,p2,nU,_⟩:=I.tuple q2
 have l1:=v1.length
 have l2:=v2.length
 have l3:=p1.length
 have l4:=p2.length
 have both:RcAt A s (.ref a) (.ref b) k∧RcNeAt A s (.ref a) (.ref b) (!k):=by
  by_cases hl:x.length=y.length
  ·obtain ⟨e',h1,h2,h3⟩:=rT v1 v2 p1 p2 ih hl e
   have rc:=RcAt.tuples nT nU hu h1
   have ne:=RcNeAt.tuples nT nU hu h1
   have hs:us.toArray.size=zs.toArray.size:=by simpa using h3
   have hb:((List.range (min us.toArray.size zs.toArray.size)).all e'&&us.toArray.size==zs.toArray.size)=k:=by
    rw [←hs,Nat.min_self,h2];simp
   rw [hb] at rc ne
   exact ⟨rc,ne⟩
  ·have hk:=qJ hl e
   subst hk
   have hcl:∃ e':Nat→Bool,∀ j (h1:j<us.toArray.size) (h2:j<zs.toArray.size),EqAt A.in1 s us.toArray[j] zs.toArray[j] (e' j):=by
    obtain ⟨e',h1⟩:=wL e
    refine ⟨e',fun j g1 g2=>?_⟩
    have ZG:j<us.length:=by simpa using g1
    have ZH:j<zs.length:=by simpa using g2
    have ha:x[j]?=some x[j]:=List.getElem?_eq_getElem (by omega)
    have hb:y[j]?=some y[j]:=List.getElem?_eq_getElem (by omega)
    obtain ⟨va,a1,a2⟩:=v1.get ha
    obtain ⟨vb,b1,b2⟩:=v2.get hb
    obtain ⟨u,a3,a4⟩:=p1.get a1
    obtain ⟨w,b3,b4⟩:=p2.get b1
    have eu:us.toArray[j]=u:=by
     have:=(List.getElem?_eq_some_iff.mp a3).2
     simpa using this
    have ew:zs.toArray[j]=w:=by
     have:=(List.getElem?_eq_some_iff.mp b3).2
     simpa using this
    rw [eu,ew]
    exact (ih _ _ _ _ _ _ _ a2 b2 a4 b4 (h1 j _ _ ha hb)).eq
   obtain ⟨e',h1⟩:=hcl
   have rc:=RcAt.tuples nT nU hu h1
   have ne:=RcNeAt.tuples nT nU hu h1
   have hs:(us.toArray.size==zs.toArray.size)=false:=by
    simp only [List.size_toArray,beq_eq_false_iff_ne,ne_eq];omega
   rw [hs,Bool.and_false] at rc ne
   exact ⟨rc,ne⟩
 by_cases hab:a=b
 ·subst hab
  rw [I.lV q2 q1] at v2
  have hk:k=true:=AA I hr (n+1) (.tup x) (.tup y) (.ref a) k ⟨a,vs,rfl,q1,v1⟩ ⟨a,vs,rfl,q1,v2⟩ e
  subst hk
  exact ⟨.same _,both.1,both.2⟩
 ·exact ⟨.of_refs hab both.1,both.1,both.2⟩
end
end Sm
set_option maxRecDepth 100000
namespace Sm
open PySem PySem.Spec PyProof.Rows L2 PySem.SeqAt
open Ev (D O Hh Fr R aP E Es Eo T S Ss Fl Src bZ bP TY BI ME)
section
variable {X:Cx}{pins:List (Addr×Obj)}{σ:L2.St}{H:Hp}{s:Shared}{r:List Addr}{h:Hh}
theorem yw (I:Inv X pins σ H s) (hr:HR X.K H r h):∀ (n:Nat) (A:Around) (a b:D) (va vb:V) (u w:Value) (k:Bool),A.units+n<cLine→RV X.K H r a va→RV X.K H r b vb→RelV va u→RelV vb w→Ev.fS h n a b=some k→ug A s u w k:=by
 intro n
 induction n with
 | zero=>intro A a b va vb u w k _ _ _ _ _ e;cases e
 | succ n ih=>
  intro A a b va vb u w k hu h1 h2 r1 r2 e
  have cZ:A.units<cLine:=by omega
  have ih':∀ a b va vb u w k,RV X.K H r a va→RV X.K H r b vb→RelV va u→RelV vb w→Ev.fS h n a b=some k→ug A.in1 s u w k:=fun a b va vb u w k=>ih A.in1 a b va vb u w k (by show A.units+1+n<cLine;omega)
  have s1:=h1.shape
  have s2:=h2.shape
  have lst:∀ {i:Nat} {v:V} {u:Value} {ds:List D},gv X.K H r (.ref i) v→RelV v u→Ev.bu h i=some ds→∃ p us,u=.ref p∧PlainL s.heap p (List.toArray us):=fun {i v u ds} hv ru el=>by
   obtain ⟨p,rfl,z⟩:=hv
   cases ru
   obtain ⟨us,pl⟩:=Az I hr el z
   exact ⟨p,us,rfl,pl⟩
  have tup:∀ {ds:List D} {v:V} {u:Value},gv X.K H r (.tup ds) v→RelV v u→∃ p us,u=.ref p∧s.heap.IsTuple p (List.toArray us):=fun {ds v u} hv ru=>by
   obtain ⟨p,vs,rfl,z,_⟩:=hv
   cases ru
   obtain ⟨us,_,pt,_⟩:=I.tuple z
   exact ⟨p,us,rfl,pt⟩
  cases a with
  | bD=>cases e
  | bl _=>cases e
  | int x=>
   simp only [gv] at s1;subst s1;obtain ⟨t0,rfl⟩:=r1
   cases b with
   | bD=>cases e
   | bl _=>cases e
   | int y=>simp only [gv] at s2;subst s2;obtain ⟨t,rfl⟩:=r2;cases e;exact ⟨.int_int _ _ _ _,.int_int _ _ _ _,.int_int _ _ _ _⟩
   | str y=>simp only [gv] at s2;subst s2;obtain ⟨t,rfl⟩:=r2;cases e;exact ⟨.int_str _ _ _ _,.int_str _ _ _ _,.int_str _ _ _ _⟩
   | tup y=>obtain ⟨p,us,rfl,pt⟩:=tup s2 r2;cases e;exact ⟨.int_tuple _ _ pt cZ,.int_tuple _ _ pt cZ,.int_tuple _ _ pt cZ⟩
   | ref m=>
    obtain ⟨ds,e1,rfl⟩:=Option.map_eq_some_iff.mp e
    obtain ⟨p,us,rfl,pl⟩:=lst s2 r2 e1
    exact ⟨.int_list _ _ pl.isList cZ,.int_list _ _ pl.isList cZ,.int_list _ _ pl.isList cZ⟩
  | str x=>
   simp only [gv] at s1;subst s1;obtain ⟨t0,rfl⟩:=r1
   cases b with
   | bD=>cases e
   | bl _=>cases e
   | int y=>simp only [gv] at s2;subst s2;obtain ⟨t,rfl⟩:=r2;cases e;exact ⟨.str_int _ _ _ _,.str_int _ _ _ _,.str_int _ _ _ _⟩
   | str y=>
    simp only [gv] at s2;subst s2;obtain ⟨t,rfl⟩:=r2
    cases e
    rw [←IM]
    exact ⟨.str_str _ _ _ _,.str_str _ _ _ _,.str_str _ _ _ _⟩
   | tup y=>obtain ⟨p,us,rfl,pt⟩:=tup s2 r2;cases e;exact ⟨.str_tuple _ _ pt cZ,.str_tuple _ _ pt cZ,.str_tuple _ _ pt cZ⟩
   | ref m=>
    obtain ⟨ds,e1,rfl⟩:=Option.map_eq_some_iff.mp e
    obtain ⟨p,us,rfl,pl⟩:=lst s2 r2 e1
    exact ⟨.str_list _ _ pl.isList cZ,.str_list _ _ pl.isList cZ,.str_list _ _ pl.isList cZ⟩
  | tup x=>
   cases b with
   | tup y=>
    obtain ⟨p,vs,rfl,z,w1⟩:=s1
    obtain ⟨p',vs',rfl,z',w2⟩:=s2
    cases r1;cases r2
    exact IP I hr cZ z z' w1 w2 ih' e
   | bD=>cases e
   | bl _=>cases e
   | int y=>obtain ⟨p,us,rfl,pt⟩:=tup s1 r1;simp only [gv] at s2;subst s2;obtain ⟨t,rfl⟩:=r2;cases e;exact ⟨.tuple_int _ _ pt cZ,.tuple_int _ _ pt cZ,.tuple_int _ _ pt cZ⟩
   | str y=>obtain ⟨p,us,rfl,pt⟩:=tup s1 r1;simp only [gv] at s2;subst s2;obtain ⟨t,rfl⟩:=r2;cases e;exact ⟨.tuple_str _ _ pt cZ,.tuple_str _ _ pt cZ,.tuple_str _ _ pt cZ⟩
   | ref m=>
    obtain ⟨p,us,rfl,pt⟩:=tup s1 r1
    obtain ⟨ds,e1,rfl⟩:=Option.map_eq_some_iff.mp e
    obtain ⟨p',us',rfl,pl⟩:=lst s2 r2 e1
    exact ⟨.tuple_list pt pl.isList cZ,.tuple_list pt pl.isList cZ,.tuple_list pt pl.isList cZ⟩
  | ref i=>
   cases b with
   | ref m=>
    replace e:Ev.jx h (Ev.fS h n) i m=some k:=e
    unfold Ev.jx at e
    split at e
    ·rename_i ZJ
     subst ZJ
     simp only [Option.map_eq_some_iff] at e
     obtain ⟨ds,e1,rfl⟩:=e
     obtain ⟨p,us,rfl,pl⟩:=lst s1 r1 e1
     obtain ⟨p0,rfl,z⟩:=s1
     obtain ⟨p1,rfl,z'⟩:=s2
     rw [z] at z';cases z'
     cases r1;cases r2
     have q:(List.range (List.toArray us).size).all (fun _=>true)=true:=by simp
     have rc:=RcAt.lists (A:=A) (e:=fun _=>true) pl.isList pl.isList rfl cZ fun j _ _=>EqAt.same _
     have ne:=RcNeAt.lists (A:=A) (e:=fun _=>true) pl.isList pl.isList rfl cZ fun j _ _=>EqAt.same _
     rw [q] at rc ne
     exact ⟨.same _,rc,ne⟩
    ·rename_i hne
     obtain ⟨p0,rfl,z⟩:=s1
     obtain ⟨p1,rfl,z'⟩:=s2
     cases r1;cases r2
     split at e
     ·rename_i x y g1 g2
      obtain ⟨q0,q1,FE,q2,q3⟩:=hr.ob _ _ g1
      obtain ⟨q4,q5,FF,q6,q7⟩:=hr.ob _ _ g2
      rw [z] at q1;cases q1
      rw [z'] at q5;cases q5
      exact oJ I cZ (.of q2) (.of q6) q3 q7 (fun w=>hne (hr.inj _ _ _ _ _ z (by rw [w];exact z') g1 g2)) ih' e
     ·rename_i x y g1 g2
      obtain ⟨q0,q1,FE,q2,q3⟩:=hr.ob _ _ g1
      obtain ⟨q4,q5,FF,q6,q7⟩:=hr.ob _ _ g2
      rw [z] at q1;cases q1
      rw [z'] at q5;cases q5
      exact oJ I cZ (FG q2) (.of q6) q3 q7 (m6 I q2 q6) ih' e
     ·rename_i x y g1 g2
      obtain ⟨q0,q1,FE,q2,q3⟩:=hr.ob _ _ g1
      obtain ⟨q4,q5,FF,q6,q7⟩:=hr.ob _ _ g2
      rw [z] at q1;cases q1
      rw [z'] at q5;cases q5
      exact oJ I cZ (.of q2) (FG q6) q3 q7 (m6 I q6 q2).symm ih' e
     ·cases e
   | bD=>cases e
   | bl _=>cases e
   | int y=>obtain ⟨ds,e1,rfl⟩:=Option.map_eq_some_iff.mp e;obtain ⟨p,us,rfl,pl⟩:=lst s1 r1 e1;simp only [gv] at s2;subst s2;obtain ⟨t,rfl⟩:=r2;exact ⟨.list_int _ _ pl.isList cZ,.list_int _ _ pl.isList cZ,.list_int _ _ pl.isList cZ⟩
   | str y=>obtain ⟨ds,e1,rfl⟩:=Option.map_eq_some_iff.mp e;obtain ⟨p,us,rfl,pl⟩:=lst s1 r1 e1;simp only [gv] at s2;subst s2;obtain ⟨t,rfl⟩:=r2;exact ⟨.list_str _ _ pl.isList cZ,.list_str _ _ pl.isList cZ,.list_str _ _ pl.isList cZ⟩
   | tup y=>
    obtain ⟨ds,e1,rfl⟩:=Option.map_eq_some_iff.mp e
    obtain ⟨p,us,rfl,pl⟩:=lst s1 r1 e1
    obtain ⟨p',us',rfl,pt⟩:=tup s2 r2
    exact ⟨.list_tuple pl.isList pt cZ,.list_tuple pl.isList pt cZ,.list_tuple pl.isList pt cZ⟩
where
 FG {K:PySem.W.Frag} {H:Hp} {a:Addr} {vs:List V} (q:yk K H a vs):dJ K H a vs:=by
  rcases q with ⟨ob,e2⟩ | e2
  ·exact .inl (.inr ⟨ob,e2⟩)
  ·exact .inr e2
end
theorem Good.units {G:Tb}{n:Nat}{sc:Scope}{N:List Str}{df:Bool}{X:Cx}(g:Good G n sc N df X):X.A.units+1+Ev.deep<cLine:=by
 have:=g.room.un
 have:Ev.deep=20:=rfl
 omega
section
variable {G:Tb}{n:Nat}{sc:Scope}{N:List Str}{df:Bool}{X:Cx}
theorem qK {pins:List (Addr×Obj)}{σ:L2.St}{H:Hp}{s:Shared}{Q:VK}{r:List Addr}{h:Hh}{k:Bool}(I:Inv X pins σ H s) (hr:HR X.K H r h) (q:Res X.K r H h (.bl k) Q):EP X pins σ Q (.bool k) s:=
 ⟨.bl k,H,I,rfl,q.here rfl hr⟩
theorem FH (g:Good G n sc N df X):dR X (compareOp .Eq) (iy X.K (gY .eq)):=by
 intro pins s σ H x y v u Q I rx ry q
 obtain ⟨r,h,a,b,d,h',hr,v1,v2,e,q⟩:=q
 obtain ⟨k,e1,rfl,rfl⟩:=ki e
 have:=g.units
 exact (yw I hr Ev.deep X.A a b x y v u k (by omega) v1 v2 rx ry e1).rc _ _ _ _ (qK I hr q)
theorem RT (g:Good G n sc N df X):dR X (compareOp .NotEq) (iy X.K (gY .ne)):=by
 intro pins s σ H x y v u Q I rx ry q
 obtain ⟨r,h,a,b,d,h',hr,v1,v2,e,q⟩:=q
 obtain ⟨k,e1,rfl,rfl⟩:=ki e
 have:=g.units
 delta Ev.cop at e1;dsimp only at e1;simp only [Option.map_eq_some_iff] at e1
 obtain ⟨k',e2,rfl⟩:=e1
 exact (yw I hr Ev.deep X.A a b x y v u k' (by omega) v1 v2 rx ry e2).ne _ _ _ _ (qK I hr q)
theorem AB {op:CmpOp}{o:bP}{p:Int→Int→Bool}(ho:dR X (compareOp op) (tL fun i j=>.bl (p i j))) (hc:∀ a b h k,Ev.cop o a b h=some k→∃ i j,a=.int i∧b=.int j∧k=p i j):dR X (compareOp op) (iy X.K (gY o)):=by
 intro pins s σ H x y v u Q I rx ry q
 obtain ⟨r,h,a,b,d,h',hr,v1,v2,e,q⟩:=q
 obtain ⟨k,e1,rfl,rfl⟩:=ki e
 obtain ⟨i,j,rfl,rfl,rfl⟩:=hc _ _ _ _ e1
 exact ho pins s σ H x y v u Q I rx ry ⟨i,j,v1,v2,q.here rfl hr⟩
theorem RU:dR X (compareOp .Lt) (iy X.K (gY .lt)):=AB Ro fun a b h k e=>by
 cases a <;> cases b <;> (delta Ev.cop at e;dsimp only at e) <;> first | (cases e;exact ⟨_,_,rfl,rfl,rfl⟩) | cases e
theorem FJ:dR X (compareOp .Gt) (iy X.K (gY .gt)):=AB Rp fun a b h k e=>by
 cases a <;> cases b <;> (delta Ev.cop at e;dsimp only at e) <;> first | (cases e;exact ⟨_,_,rfl,rfl,rfl⟩) | cases e
end
end Sm
set_option maxRecDepth 100000
namespace Sm
open PySem PySem.Spec PyProof.Rows L2 PySem.SeqAt
open Ev (D O Hh Fr R aP E Es Eo T S Ss Fl Src bZ bP TY BI ME)
theorem wN {h:Hh}{x:D}:∀ {ys:List D}{k:Bool},Ev.mem h x ys=some k→∃ e:Nat→Bool,(∀ (j:Nat) y,ys[j]?=some y→Ev.fS h Ev.deep y x=some (e j))∧(List.range ys.length).any e=k
 | [],_,e=>⟨fun _=>true,(fun j y h=>by simp at h),by cases e;simp⟩
 | y :: ys,k,e=>by
  simp only [Ev.mem,Option.bind_eq_bind,Option.bind_eq_some_iff] at e
  obtain ⟨p,e1,q,e2,e3⟩:=e
  cases e3
  obtain ⟨e,h1,h2⟩:=wN e2
  refine ⟨fun j=>match j with | 0=>p | j+1=>e j,fun j y' g=>?_,?_⟩
  ·cases j with
   | zero=>simp at g;subst g;exact e1
   | succ j=>exact h1 j y' (by simpa using g)
  ·rw [List.length_cons,List.range_succ_eq_map,List.any_cons,List.any_map,←h2]
   rfl
section
variable {X:Cx}{pins:List (Addr×Obj)}{σ:L2.St}{H:Hp}{s:Shared}{r:List Addr}{h:Hh}
open Classical in
theorem wO (I:Inv X pins σ H s) (hr:HR X.K H r h) {A:Around}(hu:A.units+1+Ev.deep<cLine) {x:D}{vx:V}{ux:Value}(v1:RV X.K H r x vx) (rx:RelV vx ux) {ys:List D}{vs:List V}{us:List Value}(v2:aH X.K H r ys vs) (p2:Vals vs us) {k:Bool}(e:Ev.mem h x ys=some k) :
  ∃ f:Value→Bool,(∀ y,y∈us.toArray→EqAt A.in1 s y ux (f y))∧us.toArray.any f=k:=by
 obtain ⟨e',h1,h2⟩:=wN e
 have l1:=v2.length
 have l2:=p2.length
 have at':∀ (j:Nat) (hj:j<us.length),EqAt A.in1 s us[j] ux (e' j):=fun j hj=>by
  have ha:ys[j]?=some ys[j]:=List.getElem?_eq_getElem (by omega)
  obtain ⟨va,a1,a2⟩:=v2.get ha
  obtain ⟨u,a3,a4⟩:=p2.get a1
  have eu:us[j]=u:=(List.getElem?_eq_some_iff.mp a3).2
  rw [eu]
  exact (yw I hr Ev.deep A.in1 _ _ _ _ _ _ _ (by show A.units+1+Ev.deep<cLine;exact hu) a2 v1 a4 rx (h1 j _ ha)).eq
 refine ⟨fun y=>decide (∃ j,∃ hj:j<us.length,us[j]=y∧e' j=true),fun y hy=>?_,?_⟩
 ·by_cases hx:∃ j,∃ hj:j<us.length,us[j]=y∧e' j=true
  ·obtain ⟨j,hj,rfl,ej⟩:=hx
   have q:=at' j hj
   rw [ej] at q
   have:decide (∃ j',∃ hj':j'<us.length,us[j']=us[j]∧e' j'=true)=true:=decide_eq_true ⟨j,hj,rfl,ej⟩
   show EqAt A.in1 s us[j] ux (decide (∃ j',∃ hj':j'<us.length,us[j']=us[j]∧e' j'=true))
   rw [this]
   exact q
  ·show EqAt A.in1 s y ux (decide (∃ j',∃ hj':j'<us.length,us[j']=y∧e' j'=true))
   rw [decide_eq_false hx]
   have hy':y∈us:=by simpa using hy
   obtain ⟨j,hj,rfl⟩:=List.getElem_of_mem hy'
   have q:=at' j hj
   have:e' j=false:=by
    cases z:e' j with
    | false=>rfl
    | true=>exact absurd ⟨j,hj,rfl,z⟩ hx
   rw [this] at q
   exact q
 ·rw [←h2,Bool.eq_iff_iff,Array.any_eq_true',List.any_eq_true]
  constructor
  ·rintro ⟨y,hy,hd⟩
   obtain ⟨j,hj,_,ej⟩:=of_decide_eq_true hd
   exact ⟨j,List.mem_range.mpr (by omega),ej⟩
  ·rintro ⟨j,hj,ej⟩
   have hj':j<us.length:=by have:=List.mem_range.mp hj;omega
   exact ⟨us[j],by simp,decide_eq_true ⟨j,hj',rfl,ej⟩⟩
end
section
variable {G:Tb}{n:Nat}{sc:Scope}{N:List Str}{df:Bool}{X:Cx}
theorem in_of (g:Good G n sc N df X) {pins:List (Addr×Obj)}{σ:L2.St}{H:Hp}{s:Shared}{r:List Addr}{h:Hh}(I:Inv X pins σ H s) (hr:HR X.K H r h) {a b:D}{x y:V}{v u:Value}{k:Bool}(v1:RV X.K H r a x) (v2:RV X.K H r b y) (rx:RelV x v) (ry:RelV y u) (e:Ev.isin a b h=some k) :
  (∀ Q:Value→Shared→Prop,∀ E:Value→Shared→Prop,Q (.bool k) s→wpAny (model X.prog X.w) X.A (compareOp .In v u) Q E s)∧(∀ Q:Value→Shared→Prop,∀ E:Value→Shared→Prop,Q (.bool (!k)) s→wpAny (model X.prog X.w) X.A (compareOp .NotIn v u) Q E s):=by
 have hu:=g.units
 cases b with
 | str l=>
  cases a with
  | str c=>
   have s1:=v1.shape
   have s2:=v2.shape
   simp only [gv] at s1 s2
   subst s1 s2
   obtain ⟨t,rfl⟩:=rx
   obtain ⟨t',rfl⟩:=ry
   match c,e with
   | [c],e=>
    cases e
    have q:(!(Builtin.Str.occurrences (aN l) (aN [c]) 0 (aN l).length 1).isEmpty)=l.contains c:=by
     have:=PySem.StrLaws.found_one (aN l) c
     rw [show (aN [c])=⟨#[c]⟩ from rfl,this,Bool.eq_iff_iff]
     have e1:l.contains c=true↔c∈l:=by simp
     rw [e1]
     exact ⟨fun z=>by simpa [aN] using of_decide_eq_true z,fun z=>decide_eq_true (by simpa [aN] using z)⟩
    refine ⟨fun Q E hq=>in_str (by rw [q];exact hq),fun Q E hq=>notIn_str (by rw [q];exact hq)⟩
   | [],e=>cases e
   | _ :: _ :: _,e=>cases e
  | _=>cases e
 | tup ys=>
  obtain ⟨p,vs,rfl,z,w⟩:=v2.shape
  cases ry
  obtain ⟨us,pv,pt,_⟩:=I.tuple z
  obtain ⟨f,f1,f2⟩:=wO I hr hu v1 rx w pv e
  refine ⟨fun Q E hq=>in_tupleAt f pt f1 (by rw [f2];exact hq),fun Q E hq=>notIn_tupleAt f pt f1 (by rw [f2];exact hq)⟩
 | ref i=>
  simp only [Ev.isin,Option.bind_eq_some_iff] at e
  obtain ⟨ds,e1,e2⟩:=e
  obtain ⟨p,rfl,z⟩:=v2.shape
  cases ry
  obtain ⟨p',vs,z',q1,w⟩:=hr.read e1
  rw [z] at z';cases z'
  obtain ⟨us,pv,pl,_⟩:=I.list q1
  obtain ⟨f,f1,f2⟩:=wO I hr hu v1 rx w pv e2
  refine ⟨fun Q E hq=>in_listAt f pl.isList f1 (by rw [f2];exact hq),fun Q E hq=>notIn_listAt f pl.isList f1 (by rw [f2];exact hq)⟩
 | _=>cases e
theorem CZ (g:Good G n sc N df X):dR X (compareOp .NotIn) (iy X.K (gY .gD)):=by
 intro pins s σ H x y v u Q I rx ry q
 obtain ⟨r,h,a,b,d,h',hr,v1,v2,e,q⟩:=q
 obtain ⟨k,e1,rfl,rfl⟩:=ki e
 have e2:(Ev.isin a b h').map (!·)=some k:=by cases a <;> cases b <;> exact e1
 simp only [Option.map_eq_some_iff] at e2
 obtain ⟨k',e3,rfl⟩:=e2
 exact (in_of g I hr v1 v2 rx ry e3).2 _ _ (qK I hr q)
theorem qL (a b:List Nat):aN a++aN b=aN (a++b):=by
 show Str.append (aN a) (aN b)=_
 simp [Str.append,aN]
theorem IQ {pins:List (Addr×Obj)}{σ:L2.St}{H:Hp}{s:Shared}{Q:Value→Shared→Prop}{E:Value→Shared→Prop}(I:Inv X pins σ H s) {a b:Addr}{ys:List V}(h1:di X.K H a []) (h2:di X.K H b ys) (q:Q (.ref b) s):wpAny (model X.prog X.w) X.A (binaryOp .Add (.ref a) (.ref b)) Q E s:=by
 obtain ⟨us,p1,ZK,_⟩:=I.tuple h1
 obtain ⟨zs,p2,ZL,_⟩:=I.tuple h2
 cases p1
 obtain ⟨⟨cls,dd,data,sl⟩,ho,hc,n,hd⟩:=id ZK
 obtain ⟨⟨WY,dd2,data2,sl2⟩,ho2,hc2,n2,hd2⟩:=id ZL
 simp only at hc hd hc2 hd2
 subst hc hd hc2 hd2
 exact concat_meets ⟨_,ho,rfl⟩ ⟨_,ho2,rfl⟩ noFill_tuple_add seq_tuple_add PySem.F.slot_tuple_add PySem.F.entry_tuple_add (PySem.F.args_tuple_add_2 _ _)
  (tuple_addW0 a b _ _ n n2 dd dd2 sl sl2 (by simp)) ⟨ho,ho2,q⟩
theorem Ml:dR X (binaryOp .Add) (iy X.K (Ev.bR .add)):=by
 intro pins s σ H x y v u Q I rx ry q
 obtain ⟨r,h,a,b,d,h',hr,v1,v2,e,q⟩:=q
 have s1:=v1.shape
 have s2:=v2.shape
 cases a with
 | int i=>cases b with
  | int j=>cases e;exact K5 pins s σ H x y v u Q I rx ry ⟨i,j,s1,s2,q.here rfl hr⟩
  | _=>cases e
 | str i=>cases b with
  | str j=>
   delta Ev.bR at e;dsimp only at e
   split at e
   ·rename_i hz
    cases e
    rw [gW] at hz
    refine x6 pins s σ H x y v u Q I rx ry ⟨aN i,aN j,s1,s2,by rw [cL,cL];exact hz,?_⟩
    rw [qL]
    exact q.here ⟨rfl,by rw [List.length_append];exact hz⟩ hr
   ·cases e
  | _=>cases e
 | tup i=>cases b with
  | tup j=>
   delta Ev.bR at e;dsimp only at e
   split at e
   ·rename_i hz
    cases e
    rw [gW] at hz
    obtain ⟨pa,vs,rfl,z1,w1⟩:=s1
    obtain ⟨pb,ws,rfl,z2,w2⟩:=s2
    have l1:=w1.length
    have l2:=w2.length
    cases vs with
    | nil=>
     cases rx;cases ry
     refine IQ I z1 z2 ⟨.ref pb,H,I,rfl,q.here ?_ hr⟩
     have:i=[]:=by cases i with | nil=>rfl | cons _ _=>simp at l1
     subst this
     exact ⟨pb,ws,rfl,z2,by simpa using w2⟩
    | cons v0 vs=>
     refine Ic pins s σ H _ _ v u Q I rx ry ⟨pa,pb,v0 :: vs,ws,rfl,rfl,z1,z2,by simp,by rw [l1,l2];exact hz,fun hw=>?_,fun hw p hp=>?_⟩
     ·subst hw
      have:j=[]:=by cases j with | nil=>rfl | cons _ _=>simp at l2
      subst this
      exact q.here ⟨pa,v0 :: vs,rfl,z1,by simpa using w1⟩ hr
     ·exact q.tup (w1.append w2) hr hp
   ·cases e
  | _=>cases e
 | ref i=>cases b with
  | ref j=>
   delta Ev.bR at e;dsimp only at e
   split at e
   ·rename_i ds es e1 e2
    obtain ⟨pa,rfl,z1⟩:=s1
    obtain ⟨pb,rfl,z2⟩:=s2
    cases rx;cases ry
    obtain ⟨p1,g1,vs,g2,g3⟩:=hr.ob _ _ e1
    obtain ⟨p2,k1,ws,k2,k3⟩:=hr.ob _ _ e2
    rw [z1] at g1;cases g1
    rw [z2] at k1;cases k1
    obtain ⟨hz,q2⟩:=q.lst e (g3.append k3) hr
    exact Lo pins s σ H (.ref pa) (.ref pb) _ _ Q I rfl rfl ⟨_,_,vs,ws,rfl,rfl,g2,k2,by rw [List.length_append] at hz;exact hz,q2⟩
   ·cases e
  | _=>cases e
 | _=>cases b <;> cases e
theorem Mm:dR X (binaryOp .Sub) (iy X.K (Ev.bR .sub)):=by
 intro pins s σ H x y v u Q I rx ry q
 obtain ⟨r,h,a,b,d,h',hr,v1,v2,e,q⟩:=q
 cases a with
 | int i=>cases b with
  | int j=>cases e;exact K6 pins s σ H x y v u Q I rx ry ⟨i,j,v1,v2,q.here rfl hr⟩
  | _=>cases e
 | _=>cases b <;> cases e
theorem IS:dR X (binaryOp .FloorDiv) (iy X.K (Ev.bR .fdiv)):=by
 intro pins s σ H x y v u Q I rx ry q
 obtain ⟨r,h,a,b,d,h',hr,v1,v2,e,q⟩:=q
 cases a with
 | int i=>cases b with
  | int j=>
   delta Ev.bR at e;dsimp only at e
   split at e
   ·rename_i hz;cases e;exact HU pins s σ H x y v u Q I rx ry ⟨i,j,v1,v2,hz,q.here rfl hr⟩
   ·cases e
  | _=>cases e
 | _=>cases b <;> cases e
theorem Mn:dR X (binaryOp .Mod) (iy X.K (Ev.bR .mod)):=by
 intro pins s σ H x y v u Q I rx ry q
 obtain ⟨r,h,a,b,d,h',hr,v1,v2,e,q⟩:=q
 cases a with
 | int i=>cases b with
  | int j=>
   delta Ev.bR at e;dsimp only at e
   split at e
   ·rename_i hz;cases e;exact K8 pins s σ H x y v u Q I rx ry ⟨i,j,v1,v2,hz,q.here rfl hr⟩
   ·cases e
  | _=>cases e
 | _=>cases b <;> cases e
end
end Sm
set_option maxRecDepth 100000
namespace Sm
open PySem PySem.Spec PyProof.Rows L2 PySem.SeqAt
open Ev (D O Hh Fr R aP E Es Eo T S Ss Fl Src bZ bP TY BI ME)
section
variable {X:Cx}
theorem Mp (n:Nat) (i:Int):Ev.dM n i=L2.dM n i:=rfl
theorem Mq {α:Type}(xs:List α) (i:Int):Ev.bL xs i=L2.bL xs i:=rfl
theorem aH.bL {K:PySem.W.Frag}{H:Hp}{r:List Addr}{ds:List D}{vs:List V}{i:Int}{d:D}(w:aH K H r ds vs) (e:Ev.bL ds i=some d):∃ v,L2.bL vs i=some v∧RV K H r d v:=by
 unfold Ev.bL at e
 obtain ⟨j,e1,e2⟩:=Option.bind_eq_some_iff.mp e
 obtain ⟨v,e3,e4⟩:=w.get e2
 exact ⟨v,by unfold L2.bL;rw [w.length,←Mp,e1];exact e3,e4⟩
theorem RW:wk X (iy X.K LQ):=by
 intro value slice pins s σ H x y v u Q I rx ry q hs
 obtain ⟨r,h,a,b,d,h',hr,v1,v2,e,q⟩:=q
 obtain ⟨e,rfl⟩:=Ev.aK e
 cases b with
 | int i=>
  have s2:=v2.shape
  cases a with
  | tup ds=>
   obtain ⟨p,vs,rfl,z,w⟩:=v1.shape
   obtain ⟨v',g1,g2⟩:=w.bL e
   exact Lj value slice pins s σ H _ y v u Q I rx ry ⟨p,vs,i,v',rfl,s2,z,g1,q.here g2 hr⟩ hs
  | str l=>
   simp only [RV] at v1
   obtain ⟨rfl,hl⟩:=v1
   simp only [Ev.fq,Option.map_eq_some_iff] at e
   obtain ⟨c,e1,rfl⟩:=e
   exact Lk value slice pins s σ H _ y v u Q I rx ry ⟨aN l,i,c,rfl,s2,by rw [cL];exact hl,by simpa [aN,Mq] using e1,q.here ⟨rfl,by show 1≤sizeLine;decide⟩ hr⟩ hs
  | ref m=>
   simp only [Ev.fq,Option.bind_eq_some_iff] at e
   obtain ⟨ds,e1,e2⟩:=e
   obtain ⟨p,rfl,z⟩:=v1.shape
   obtain ⟨p',vs,z',q1,w⟩:=hr.read e1
   rw [z] at z';cases z'
   obtain ⟨v',g1,g2⟩:=w.bL e2
   exact Ig value slice pins s σ H _ y v u Q I rx ry ⟨p,vs,i,v',rfl,s2,q1,g1,q.here g2 hr⟩ hs
  | _=>cases e
 | _=>cases a <;> cases e
theorem aH.cut {K:PySem.W.Frag}{H:Hp}{r:List Addr}{ds:List D}{vs:List V}(w:aH K H r ds vs) (lo hi:Option Int):aH K H r (Ev.cut ds lo hi) (lZ vs lo hi):=by
 unfold Ev.cut lZ
 rw [w.length]
 exact (w.drop _).take _
theorem rV {α:Type}(xs:List α) (lo hi:Option Int) (h:Ev.aR xs.length 0 lo=0∧Ev.aR xs.length xs.length hi=xs.length):Ev.cut xs lo hi=xs:=by
 unfold Ev.cut
 rw [h.1,h.2]
 simp
theorem IT {α:Type}(xs:List α) (lo hi:Option Int):(Ev.cut xs lo hi).length≤xs.length:=by
 unfold Ev.cut
 rw [List.length_take,List.length_drop]
 omega
theorem sy {prog:Program}{w:World}{A:Around}{E:Value→Shared→Prop}{s:Shared}{t sl:Addr}{items:Array Value}{vl vu:Value}{lo hi:Option Int}{Q:Value→Shared→Prop}(ht:IsTup s.heap t items)(hs:s.heap.IsSliceOf sl vl vu .none)(pl:IsPart vl lo)(pu:IsPart vu hi)
  (hw:HT.aR items.size 0 lo=0∧HT.aR items.size items.size hi=items.size) (h:Q (.ref t) s):wpAny (model prog w) A (getItem (.ref t) (.ref sl)) Q E s:=by
 obtain ⟨os,hos,hcs,hds⟩:=id hs
 have Lh:s.TypeIs (.ref sl) "slice" :=⟨os,hos,hcs⟩
 unfold getItem
 try with_reducible refine wpAny_holding ?_
 first | refine wpAny_bind (wpAny_pure ?_) | skip
 refine wpAny_bind (wpAny_sequenceKey ht.typeIs (by decide) ?_)
 refine wpAny_bind (wpAny_callSpecial?_slot (name:=Str.ofString "__getitem__") ht.typeIs PyProof.Rows.slot_tuple_getitem
  (wpAny_call_entry PyProof.Rows.slot_tuple_getitem ht.typeIs entry_tuple_getitem ?_ (args_tuple_getitem _ _)))
 show wpAny _ _ (Builtin.Tuple.tupleItemsOf (.ref t) >>= _) _ _ s
 refine wpAny_bind (tupleItemsOf_ ht ?_)
 refine wpAny_bind (wpAny_typeOf Lh ?_)
 rw [if_pos (by decide)]
 refine wpAny_bind (HT.jw hs pl pu ?_)
 have hyes:(((HT.aR items.size 0 lo:Nat):Int)==0&&(1:Int)==1&&(HT.aR items.size items.size hi - HT.aR items.size 0 lo)==items.size)=true:=by
  rw [hw.1,hw.2];simp
 show wpAny _ _ (if (((HT.aR items.size 0 lo:Nat):Int)==0&&(1:Int)==1&&(HT.aR items.size items.size hi - HT.aR items.size 0 lo)==items.size)=true then _ else _) _ _ s
 rw [if_pos hyes]
 refine wpAny_bind (m:=Builtin.Tuple.tupleIsExact (.ref t)) (wpAny_bind (wpAny_typeOf ht.typeIs (wpAny_pure ?_)))
 show wpAny _ _ (if ((Value.type "tuple" ==Value.type "tuple")=true) then _ else _) _ _ s
 rw [if_pos (by decide)]
 exact wpAny_bind (wpAny_rule (wpAny_bind (wpAny_pure (wpAny_pure ⟨_,rfl,wpAny_pure h⟩))))
theorem AD (lo hi:Option Int) (n:Nat):Builtin.Str.strSliceIndices lo hi 1 n=(List.range (Ev.aR n n hi - Ev.aR n 0 lo)).map (fun k=>Ev.aR n 0 lo+k):=by
 have Mr:∀ o:Option Int,((match o with | none=>(0:Int) | some i=>max 0 (min (if i<0 then i+(n:Int) else i) (n:Int))))=((Ev.aR n 0 o:Nat):Int):=fun o=>by
  cases o with
  | none=>rfl
  | some i=>simp only [Ev.aR];split <;> omega
 have Ms:∀ o:Option Int,((match o with | none=>(n:Int) | some i=>max 0 (min (if i<0 then i+(n:Int) else i) (n:Int))))=((Ev.aR n n o:Nat):Int):=fun o=>by
  cases o with
  | none=>rfl
  | some i=>simp only [Ev.aR];split <;> omega
 have e:Builtin.Str.strSliceIndices lo hi 1 n=sliceRange (match lo with | none=>(0:Int) | some i=>max 0 (min (if i<0 then i+(n:Int) else i) (n:Int))) (match hi with | none=>(n:Int) | some i=>max 0 (min (if i<0 then i+(n:Int) else i) (n:Int))) 1:=by
  unfold Builtin.Str.strSliceIndices
  cases lo <;> cases hi <;> simp
 rw [e,Mr,Ms,sliceRange_one]
theorem Mt (l:List Nat) (lo hi:Option Int):((Builtin.Str.strSliceIndices lo hi 1 (aN l).length).filterMap ((aN l).cps[·]?)).toArray=(Ev.cut l lo hi).toArray:=by
 rw [cL,AD,pick_run]
 simp [aN,Ev.cut]
theorem Mu:kg X (LC X.K):=by
 intro pins s σ H x v vl vu lo hi sl Q I rx hs pl pu q
 obtain ⟨r,h,a,d,h',hr,v1,e,q⟩:=q
 cases a with
 | tup ds=>
  cases e
  obtain ⟨p,vs,rfl,z,w⟩:=v1.shape
  by_cases hw:HT.aR vs.length 0 lo=0∧HT.aR vs.length vs.length hi=vs.length
  ·cases rx
   obtain ⟨us,pv,pt,hz⟩:=I.tuple z
   have hl:=pv.length
   have ZM:Ev.aR ds.length 0 lo=0∧Ev.aR ds.length ds.length hi=ds.length:=by rw [←w.length];exact hw
   refine ⟨"tuple",_,PyProof.Rows.slot_tuple_getitem.lookup,pt.typeIs,?_⟩
   refine sy pt hs pl pu (by rw [List.size_toArray,←hl];exact hw) ⟨.ref p,H,I,rfl,q.here ?_ hr⟩
   rw [rV ds lo hi ZM]
   exact ⟨p,vs,rfl,z,w⟩
  ·exact Li pins s σ H _ v vl vu lo hi sl Q I rx hs pl pu ⟨p,vs,rfl,z,hw,fun p' hp=>q.tup (w.cut lo hi) hr hp⟩
 | str l=>
  simp only [RV] at v1
  obtain ⟨rfl,hl⟩:=v1
  obtain ⟨t,rfl⟩:=rx
  cases e
  refine ⟨"str",_,PySem.F.slot_str_getitem.lookup,typeIs_str s _ t,?_⟩
  have part:∀ {v:Value} {o:Option Int},IsPart v o→∃ p:Option (Int×Tok),v=partValue p∧p.map (·.1)=o:=fun {v o} hp=>by
   cases hp with
   | none=>exact ⟨none,rfl,rfl⟩
   | int i t=>exact ⟨some (i,t),rfl,rfl⟩
  obtain ⟨l1,e1,e2⟩:=part pl
  obtain ⟨u1,e3,e4⟩:=part pu
  subst e1 e3
  obtain ⟨os,hos,hcs,hds⟩:=hs
  refine wpAny_getItem_str_slice (l:=l1) (u:=u1) (st:=none) ⟨os,hos,hcs,hds⟩ rfl ?_
  have FL:((slicePicked (aN l) l1 u1 none).filterMap ((aN l).cps[·]?)).toArray=(Ev.cut l lo hi).toArray:=by
   show ((Builtin.Str.strSliceIndices (l1.map (·.1)) (u1.map (·.1)) 1 (aN l).length).filterMap ((aN l).cps[·]?)).toArray=_
   rw [e2,e4]
   exact Mt l lo hi
  have hcl:=IT l lo hi
  unfold sliceMade
  refine post_val_or_made (fun _=>?_) fun t' k=>?_
  ·rw [FL]
   show (Ev.cut l lo hi).toArray.size≤sizeLine
   simp only [List.size_toArray]
   omega
  ·have hres:(if (((none:Option (Int×Tok)).map (·.1)).getD 1==1&&(slicePicked (aN l) l1 u1 none).length==(aN l).length)=true then aN l else (⟨((slicePicked (aN l) l1 u1 none).filterMap ((aN l).cps[·]?)).toArray⟩:Str))=aN (Ev.cut l lo hi):=by
    split
    ·rename_i hc
     rw [Bool.and_eq_true] at hc
     have hlen:(slicePicked (aN l) l1 u1 none).length=(aN l).length:=eq_of_beq hc.2
     have hlen2:(slicePicked (aN l) l1 u1 none).length=Ev.aR l.length l.length hi - Ev.aR l.length 0 lo:=by
      show (Builtin.Str.strSliceIndices (l1.map (·.1)) (u1.map (·.1)) 1 (aN l).length).length=_
      rw [e2,e4,AD,cL]
      simp
     rw [cL] at hlen
     have hb:Ev.aR l.length l.length hi≤l.length:=HT.tN _ _ (Nat.le_refl _) hi
     have ha:Ev.aR l.length 0 lo≤l.length:=HT.tN _ _ (Nat.zero_le _) lo
     rw [rV l lo hi ⟨by omega,by omega⟩]
    ·rw [FL];rfl
   rw [hres]
   exact ⟨.str (aN (Ev.cut l lo hi)),H,I.tok _,⟨_,rfl⟩,q.here ⟨rfl,by omega⟩ hr⟩
 | ref m=>
  simp only [Ev.gT] at e
  split at e
  ·rename_i ds e1
   obtain ⟨p,rfl,z⟩:=v1.shape
   obtain ⟨p',vs,z',q1,w⟩:=hr.read e1
   rw [z] at z';cases z'
   obtain ⟨hz,q2⟩:=q.lst e (w.cut lo hi) hr
   exact Ih pins s σ H _ v vl vu lo hi sl Q I rx hs pl pu ⟨p,vs,rfl,q1,q2⟩
  ·cases e
 | _=>cases e
theorem uh:∀ (k:Nat) (l:List Nat) (acc:List Nat),(List.replicate k l.toArray).foldl (·++·) acc.toArray=(acc++Ev.rep k l).toArray
 | 0,l,acc=>by simp [Ev.rep]
 | k+1,l,acc=>by
  rw [List.replicate_succ,List.foldl_cons]
  have:acc.toArray++l.toArray=(acc++l).toArray:=by simp
  rw [this,uh k l (acc++l)]
  simp [Ev.rep,List.replicate_succ]
theorem m7 {α:Type}(k:Nat) (l:List α):(Ev.rep k l).length=k*l.length:=by
 unfold Ev.rep
 exact len_rep l k
theorem IU {l:List Nat}{k:Int}(h:0≤k):Txt.mul (aN l) k=aN (Ev.rep k.toNat l):=by
 unfold Txt.mul
 by_cases h1:k<1
 ·have:k=0:=by omega
  subst this
  rw [if_pos (by decide)]
  rfl
 ·rw [if_neg h1]
  split
  ·rename_i hc
   rw [Bool.or_eq_true] at hc
   rcases hc with hc | hc
   ·have:k=1:=by simpa using hc
    subst this
    simp [Ev.rep]
   ·rw [cL] at hc
    have:l=[]:=by cases l with | nil=>rfl | cons _ _=>simp at hc
    subst this
    simp [Ev.rep,aN]
  ·show (⟨(List.replicate k.toNat (aN l).cps).foldl (·++·) #[]⟩:Str)=_
   have:=uh k.toNat l []
   simp only [List.nil_append] at this
   exact congrArg Str.mk this
theorem jM {a b:Nat}(h1:a≤1000) (h2:b≤1000):a*b≤sizeLine:=Nat.le_trans (Nat.mul_le_mul h1 h2) (by decide)
theorem IV {pins:List (Addr×Obj)}{σ:L2.St}{H:Hp}{s:Shared}{Q:VK}(I:Inv X pins σ H s) {l:List Nat}{k:Int}{t u:Tok}(hk:0≤k∧k≤1000∧l.length≤1000) (q:Q (.str (aN (Ev.rep k.toNat l))) H) :
  wpAny (model X.prog X.w) X.A (binaryOp .Mult (.str (aN l) t) (.int k u)) (EP X pins σ Q) X.xe s:=by
 have hok:MulOk (aN l) k:=mulOk_of 1000 1000 (by rw [cL];exact hk.2.2) (by exact hk.2.1) (by omega) (by decide) (by decide)
 refine SB.mul hok fun t' k'=>?_
 rw [IU hk.1]
 exact ⟨.str _,H,I.tok _,⟨_,rfl⟩,q⟩
theorem oK:fillsNumberSlot (.type "tuple") "mul" = pure false:=
 PySem.fillsNumberSlot_seq (id:="tuple.__mul__") (r:=some (.builtin "tuple.__rmul__")) PySem.F.slot_tuple_mul.lookup (by decide +kernel) PySem.F.slot_tuple_rmul.lookup (by decide +kernel)
theorem um:seqRepeat? (.type "tuple")=pure (some (.builtin "tuple.__mul__")):=by
 unfold seqRepeat?
 rw [PySem.seqSlot_of (T:="tuple") (name:="__mul__") (id:="tuple.__mul__") PySem.F.slot_tuple_mul.lookup (by decide +kernel),PySem.seqSlot_of (T:="tuple") (name:="__rmul__") (id:="tuple.__rmul__") PySem.F.slot_tuple_rmul.lookup (by decide +kernel)]
 rfl
theorem yx (a:Int) (t:Tok) (l:Addr) (items:Array Value) (n:Nat) (dd:Option Addr) (sl:Array (Option Value)) :
  Meets (Builtin.«int.__rmul__» ⟨[.int a t,.ref l],[]⟩) (fun _ R s=>s.heap.get? l=some { cls:=.type "tuple",dict:=dd,data:=.seq items n,slots:=sl }∧R (.ok (.ret Value.notImplemented)) s):=
 .of_wp fun prog w A R s h=>by obtain ⟨hp,g,d,tk,os⟩:=s;obtain ⟨hl,h⟩:=h;wp_walk;exact ⟨_,rfl,h⟩
theorem yy (l:Addr) (items:Array Value) (n:Nat) (dd:Option Addr) (sl:Array (Option Value)) (k:Int) (u:Tok) (h1:¬ (decide (k < -2 ^ 63) || decide (k≥2 ^ 63))=true) (h3:(items.isEmpty || k==1)=true) :
  Meets (Builtin.«tuple.__mul__» ⟨[.ref l,.int k u],[]⟩) (fun _ R s=>s.heap.get? l=some { cls:=.type "tuple",dict:=dd,data:=.seq items n,slots:=sl }∧R (.ok (.ret (.ref l))) s):=
 .of_wp fun prog w A R s h=>by obtain ⟨hp,g,d,tk,os⟩:=s;obtain ⟨hl,h⟩:=h;have f1:=AutoSeq1.idx_int;wp_walk using AutoSeq1.wpAny_loadPart' hl;rw [if_neg h1];wp_walk using AutoSeq1.wpAny_loadPart' hl;exact ⟨_,rfl,h⟩
theorem yz (l:Addr) (items:Array Value) (n:Nat) (dd:Option Addr) (sl:Array (Option Value)) (k:Int) (u:Tok) (h1:¬ (decide (k < -2 ^ 63) || decide (k≥2 ^ 63))=true) (h3:¬ (items.isEmpty || k==1)=true) (h4:(decide (k≤0) || items.isEmpty)=true) :
  Meets (Builtin.«tuple.__mul__» ⟨[.ref l,.int k u],[]⟩) (fun _ R s=>s.heap.get? l=some { cls:=.type "tuple",dict:=dd,data:=.seq items n,slots:=sl }∧R (.ok (.ret (Value.ref s.heap.objs.size))) { s with heap:=s.heap.push { cls:=Value.type "tuple",data:=Data.seq #[]},toks:=s.toks }):=
 .of_wp fun prog w A R s h=>by obtain ⟨hp,g,d,tk,os⟩:=s;obtain ⟨hl,h⟩:=h;have f1:=AutoSeq1.idx_int;wp_walk using AutoSeq1.wpAny_loadPart' hl;rw [if_neg h1];wp_walk using AutoSeq1.wpAny_loadPart' hl;exact ⟨_,rfl,h⟩
theorem yC (l:Addr) (items:Array Value) (n:Nat) (dd:Option Addr) (sl:Array (Option Value)) (k:Int) (u:Tok) (h1:¬ (decide (k < -2 ^ 63) || decide (k≥2 ^ 63))=true) (h3:¬ (items.isEmpty || k==1)=true) (h4:¬ (decide (k≤0) || items.isEmpty)=true)
  (h5:¬ (items.size*k > (2 ^ 63 - 1) / 8)) (h6:¬ Builtin.Tuple.tupleTooMany (items.size*k)=true) (hsz:(List.foldl (fun x1 x2=>x1++x2) #[] (List.replicate k.toNat items)).size≤sizeLine) :
  Meets (Builtin.«tuple.__mul__» ⟨[.ref l,.int k u],[]⟩) (fun _ R s=>s.heap.get? l=some { cls:=.type "tuple",dict:=dd,data:=.seq items n,slots:=sl }∧R (.ok (.ret (Value.ref s.heap.objs.size))) { s with heap:=s.heap.push { cls:=Value.type "tuple",data:=Data.seq (List.foldl (fun x1 x2=>x1++x2) #[] (List.replicate k.toNat items))},toks:=s.toks }):=
 .of_wp fun prog w A R s h=>by obtain ⟨hp,g,d,tk,os⟩:=s;obtain ⟨hl,h⟩:=h;have f1:=AutoSeq1.idx_int;wp_walk using AutoSeq1.wpAny_loadPart' hl;rw [if_neg h1];wp_walk using AutoSeq1.wpAny_loadPart' hl;rw [if_neg h5];wp_walk using AutoSeq1.wpAny_loadPart' hl;exact ⟨_,rfl,h⟩
theorem rW:∀ (k:Nat) (l acc:List Value),(List.replicate k l.toArray).foldl (·++·) acc.toArray=(acc++Ev.rep k l).toArray
 | 0,l,acc=>by simp [Ev.rep]
 | k+1,l,acc=>by
  rw [List.replicate_succ,List.foldl_cons]
  have:acc.toArray++l.toArray=(acc++l).toArray:=by simp
  rw [this,rW k l (acc++l)]
  simp [Ev.rep,List.replicate_succ]
theorem IW {pins:List (Addr×Obj)}{σ:L2.St}{H:Hp}{s:Shared}{Q:VK}(I:Inv X pins σ H s) {p:Addr}{vs:List V}{k:Int}{u:Tok}(hk:0≤k∧k≤1000∧vs.length≤1000) (hp:di X.K H p vs)
  (q1:Ev.rep k.toNat vs=vs→Q (.ref p) H) (q2:∀ p',H p'=none→Q (.ref p') (upd H p' (.tup (Ev.rep k.toNat vs)))) :
  wpAny (model X.prog X.w) X.A (binaryOp .Mult (.ref p) (.int k u)) (EP X pins σ Q) X.xe s:=by
 obtain ⟨us,pv,pt,hz⟩:=I.tuple hp
 obtain ⟨⟨cls,dd,data,sl⟩,ho,hc,n,hd⟩:=id pt
 simp only at hc hd
 subst hc hd
 have hl:=pv.length
 have h1:¬ (decide (k < -2 ^ 63) || decide (k≥2 ^ 63))=true:=by simp;omega
 refine wpAny_binaryOp_repeat_ref (T:="tuple") (U:="int") (by decide) ⟨_,ho,rfl⟩ (fun s'=>typeIs_int s' k u) oK PySem.F.fills_int_mul PySem.F.slot_int_rmul um PySem.F.slot_int_index.lookup
  (call_meets PySem.F.slot_int_rmul (typeIs_int s k u) PySem.F.entry_int_rmul (PySem.F.args_int_rmul_2 _ _) (yx k u p us.toArray n dd sl) ⟨ho,rfl,⟨_,ho,rfl⟩,?_⟩)
 have hrep:∀ m:Nat,(Ev.rep m us).length=m*us.length:=fun m=>m7 m us
 by_cases h3:(us.toArray.isEmpty || k==1)=true
 ·refine call_meets PySem.F.slot_tuple_mul ⟨_,ho,rfl⟩ PySem.F.entry_tuple_mul (PySem.F.args_tuple_mul_2 _ _) (yy p us.toArray n dd sl k u h1 h3) ⟨ho,?_⟩
  refine ⟨.ref p,H,I,rfl,q1 ?_⟩
  rw [Bool.or_eq_true] at h3
  rcases h3 with h3 | h3
  ·have:us=[]:=by simpa using h3
   subst this
   cases pv
   simp [Ev.rep]
  ·have:k=1:=by simpa using h3
   subst this
   simp [Ev.rep]
 ·have laid:∀ m:Nat,m=k.toNat→EP X pins σ Q (.ref s.heap.objs.size) { s with heap:=s.heap.push { cls:=.type "tuple",data:=.seq (Ev.rep m us).toArray }}:=fun m hm=>by
   subst hm
   refine ⟨.ref s.heap.objs.size,_,I.laid (t':=s.toks) (o:=.tup (Ev.rep k.toNat vs)) (fun b ob q=>Heap.get?_push_of_some _ q) (Nat.le_refl _) ?_,rfl,q2 _ (I.hok.fresh (Nat.le_refl _))⟩
   exact ⟨by rw [m7];exact jM (by omega) hk.2.2,_,pv.rep k.toNat,IsTup.new _ _⟩
  by_cases h4:(decide (k≤0) || us.toArray.isEmpty)=true
  ·refine call_meets PySem.F.slot_tuple_mul ⟨_,ho,rfl⟩ PySem.F.entry_tuple_mul (PySem.F.args_tuple_mul_2 _ _) (yz p us.toArray n dd sl k u h1 h3 h4) ⟨ho,?_⟩
   have hk0:k=0:=by
    rw [Bool.or_eq_true] at h4 h3
    rcases h4 with h4 | h4
    ·have:k≤0:=of_decide_eq_true h4
     omega
    ·exact absurd (.inl h4) h3
   have:=laid 0 (by rw [hk0];rfl)
   exact this
  ·have hm:us.toArray.size*k.toNat≤1000000:=by
    rw [List.size_toArray]
    exact Nat.mul_le_mul (by omega:us.length≤1000) (by omega:k.toNat≤1000)
   have hm':(us.toArray.size:Int)*k≤1000000:=by
    have e:(us.toArray.size:Int)*k=((us.toArray.size*k.toNat:Nat):Int):=by
     rw [Int.natCast_mul,Int.toNat_of_nonneg hk.1]
    rw [e];omega
   have hf:List.foldl (fun x1 x2=>x1++x2) #[] (List.replicate k.toNat us.toArray)=(Ev.rep k.toNat us).toArray:=by
    have:=rW k.toNat us []
    simpa using this
   refine call_meets PySem.F.slot_tuple_mul ⟨_,ho,rfl⟩ PySem.F.entry_tuple_mul (PySem.F.args_tuple_mul_2 _ _) (yC p us.toArray n dd sl k u h1 h3 h4 (by omega) ?_ ?_) ⟨ho,?_⟩
   ·unfold Builtin.Tuple.tupleTooMany
    simp only [decide_eq_true_eq]
    have:(sizeLine:Int)=16777216:=by rw [sizeLine_eq];rfl
    omega
   ·rw [hf]
    simp only [List.size_toArray]
    rw [m7]
    exact jM (by omega) (by omega)
   ·rw [hf]
    exact laid _ rfl
theorem Mv:dR X (binaryOp .Mult) (iy X.K (Ev.bR .mul)):=by
 intro pins s σ H x y v u Q I rx ry q
 obtain ⟨r,h,a,b,d,h',hr,v1,v2,e,q⟩:=q
 cases b with
 | int k=>
  have s2:=v2.shape
  simp only [gv] at s2
  subst s2
  cases a with
  | int i=>
   delta Ev.bR at e;dsimp only at e
   split at e
   ·rename_i hz
    cases e
    refine K7 pins s σ H x _ v u Q I rx ry ⟨i,k,v1,rfl,?_,q.here rfl hr⟩
    unfold Ev.cz at hz
    simp only [Bool.or_eq_true,Bool.and_eq_true,decide_eq_true_eq] at hz
    exact hz
   ·cases e
  | str l=>
   delta Ev.bR at e;dsimp only at e
   split at e
   ·rename_i hz
    cases e
    simp only [RV] at v1
    obtain ⟨rfl,hl⟩:=v1
    obtain ⟨t,rfl⟩:=rx
    obtain ⟨t',rfl⟩:=ry
    exact IV I hz (q.here ⟨rfl,by rw [m7];exact jM (by omega) hz.2.2⟩ hr)
   ·cases e
  | tup ds=>
   delta Ev.bR at e;dsimp only at e
   split at e
   ·rename_i hz
    cases e
    obtain ⟨p,vs,rfl,z,w⟩:=v1.shape
    cases rx
    obtain ⟨t',rfl⟩:=ry
    refine IW I ⟨hz.1,hz.2.1,by rw [w.length];exact hz.2.2⟩ z (fun ZN=>q.here ⟨p,vs,rfl,z,?_⟩ hr) fun p' hp=>q.tup (w.rep k.toNat) hr hp
    have:=w.rep k.toNat
    rw [ZN] at this
    exact this
   ·cases e
  | ref i=>
   delta Ev.bR at e;dsimp only at e
   split at e
   ·rename_i ds e1
    split at e
    ·rename_i hz
     obtain ⟨p,rfl,z⟩:=v1.shape
     obtain ⟨p',g1,vs,g2,g3⟩:=hr.ob _ _ e1
     rw [z] at g1;cases g1
     obtain ⟨hz2,q2⟩:=q.lst e (g3.rep k.toNat) hr
     exact Lp pins s σ H (.ref p) _ v u Q I rx ry ⟨p,k,vs,rfl,rfl,g2,by omega,by omega,jM (by rw [g3.length];exact hz.2.2) (by omega),q2⟩
    ·cases e
   ·cases e
  | _=>cases e
 | _=>cases a <;> cases e
end
end Sm
set_option maxRecDepth 100000
namespace Sm
open PySem PySem.Spec PyProof.Rows L2 PySem.SeqAt
open Ev (D O Hh Fr R aP E Es Eo T S Ss Fl Src bZ bP TY BI ME)
section
variable {X:Cx}
theorem wQ {K:PySem.W.Frag}{H:Hp}{r:List Addr}:∀ {ds:List D}{is:List Int}{vs:List V}{us:List Value},Ev.intsOf ds=some is→aH K H r ds vs→Vals vs us→IntsAre us is
 | [],bs,vs,us,e,w,p=>by
  cases e
  simp only [aH] at w;subst w;cases p;exact .nil
 | d :: ds,bs,vs,us,e,w,p=>by
  cases d with
  | int b=>
   simp only [Ev.intsOf,Option.map_eq_some_iff] at e
   obtain ⟨bs',e1,rfl⟩:=e
   simp only [aH,RV] at w
   obtain ⟨v,w',rfl,rfl,w2⟩:=w
   cases p with
   | cons p1 p2=>
    obtain ⟨t,rfl⟩:=p1
    exact .cons _ _ (wQ e1 w2 p2)
  | _=>cases e
theorem wR {K:PySem.W.Frag}{H:Hp}{r:List Addr}:∀ {ds:List D}{ss:List (List Nat)}{vs:List V}{us:List Value},Ev.strsOf ds=some ss→aH K H r ds vs→Vals vs us→StrsAre us (ss.map aN)∧∀ l∈ss,l.length≤sizeLine
 | [],bs,vs,us,e,w,p=>by
  cases e
  simp only [aH] at w;subst w;cases p;exact ⟨.nil,fun l h=>nomatch h⟩
 | d :: ds,bs,vs,us,e,w,p=>by
  cases d with
  | str b=>
   simp only [Ev.strsOf,Option.map_eq_some_iff] at e
   obtain ⟨bs',e1,rfl⟩:=e
   simp only [aH,RV] at w
   obtain ⟨v,w',rfl,⟨rfl,hb⟩,w2⟩:=w
   cases p with
   | cons p1 p2=>
    obtain ⟨t,rfl⟩:=p1
    obtain ⟨g1,g2⟩:=wR e1 w2 p2
    refine ⟨.cons _ _ g1,fun l hl=>?_⟩
    rcases List.mem_cons.mp hl with z | z
    ·subst z;exact hb
    ·exact g2 l z
  | _=>cases e
variable {G:Tb}{n:Nat}{sc:Scope}{N:List Str}{df:Bool}
theorem Mw (g:Good G n sc N df X):fR X (.builtin "sum") (tX X.K (Ev.cX .sum)):=by
 intro pins s σ H xs us Q I r q
 obtain ⟨rr,h,as,d,h',hr,v1,e,q⟩:=q
 match as,e with
 | [.ref m],e=>
  obtain ⟨e,rfl⟩:=Ev.aK e
  simp only [Option.map_eq_some_iff,Option.bind_eq_some_iff] at e
  obtain ⟨is,⟨ds,e1,e2⟩,rfl⟩:=e
  simp only [aH,RV] at v1
  obtain ⟨v,w,rfl,⟨p,rfl,z⟩,rfl⟩:=v1
  obtain ⟨u,rfl,ru⟩:=vals1 r
  cases ru
  obtain ⟨p',vs,z',q1,w⟩:=hr.read e1
  rw [z] at z';cases z'
  obtain ⟨zs,pv,pl,_⟩:=I.list q1
  have hi:=wQ e2 w pv
  obtain ⟨ys,hys⟩:=(hi.allInts).items
  have hl:s.heap.IsList p (intItems ys):=by rw [←hys];exact pl.isList
  refine sum_intListG (I.ok.hd g.calm) hl fun h'' tk t' hk=>?_
  have hsum:preSum (numAt ys) ys.size=is.sum:=by
   have h1:numsOf zs.toArray.toList=is:=by rw [show zs.toArray.toList=zs from rfl];exact hi.numsOf
   rw [hys,nums_intItems] at h1
   rw [preSum_eq,List.take_of_length_le (by simp),h1]
  rw [hsum]
  exact ⟨.int is.sum,H,I.kept hk,⟨_,rfl⟩,q.here rfl hr⟩
theorem Mx:fR X (.builtin "len") (tX X.K (Ev.cX .len)):=by
 intro pins s σ H xs us Q I r q
 obtain ⟨rr,h,as,d,h',hr,v1,e,q⟩:=q
 match as,e with
 | [.str l],e=>
  delta Ev.cX at e;dsimp only at e
  split at e
  ·cases e
   simp only [aH,RV] at v1
   obtain ⟨v,w,rfl,⟨rfl,hl⟩,rfl⟩:=v1
   refine tP pins s σ H _ us Q I r ⟨_,rfl,by rw [cL];exact hl,?_⟩
   rw [cL]
   exact q.here rfl hr
  ·cases e
 | [.tup ds],e=>
  cases e
  simp only [aH,RV] at v1
  obtain ⟨v,w,rfl,⟨p,vs,rfl,z,w'⟩,rfl⟩:=v1
  refine mh pins s σ H _ us Q I r ⟨p,vs,rfl,.inr z,?_⟩
  rw [w'.length]
  exact q.here rfl hr
 | [.ref m],e=>
  obtain ⟨e,rfl⟩:=Ev.aK e
  simp only [Option.map_eq_some_iff] at e
  obtain ⟨ds,e1,rfl⟩:=e
  simp only [aH,RV] at v1
  obtain ⟨v,w,rfl,⟨p,rfl,z⟩,rfl⟩:=v1
  obtain ⟨p',vs,z',q1,w⟩:=hr.read e1
  rw [z] at z';cases z'
  refine mh pins s σ H _ us Q I r ⟨p,vs,rfl,.inl q1,?_⟩
  rw [w.length]
  exact q.here rfl hr
theorem My (g:Good G n sc N df X):fR X (.builtin "min") (tX X.K (Ev.cX .min)):=by
 intro pins s σ H xs us Q I r q
 obtain ⟨rr,h,as,d,h',hr,v1,e,q⟩:=q
 match as,e with
 | [.int i,.int j],e=>
  cases e
  simp only [aH,RV] at v1
  obtain ⟨v,w,rfl,rfl,v',w',rfl,rfl,rfl⟩:=v1
  exact zS g.calm pins s σ H _ us Q I r ⟨i,j,rfl,q.here rfl hr⟩
theorem AE:rE X "list.append" (tY X.K (Ev.eW .append)):=by
 intro pins s σ H x xs v us Q I rx rs q
 obtain ⟨r,h,a,as,d,h',hr,v1,v2,e,q⟩:=q
 cases a with
 | ref m=>
  match as,e with
  | [b],e=>
   delta Ev.eW at e;dsimp only at e
   split at e
   ·rename_i ds e1
    split at e
    ·rename_i hz
     cases e
     rw [gW] at hz
     obtain ⟨p,rfl,z⟩:=v1.shape
     simp only [aH] at v2
     obtain ⟨y,w,rfl,v3,rfl⟩:=v2
     obtain ⟨p',g1,vs,g2,g3⟩:=hr.ob _ _ e1
     rw [z] at g1;cases g1
     refine rF pins s σ H _ _ v us Q I rx rs ⟨p,vs,y,rfl,rfl,g2,by rw [g3.length];exact hz,?_⟩
     have f:=Fm.write (K:=X.K) (ws:=vs++[y]) g2 (List.mem_of_getElem? z)
     exact q _ _ r rfl (hr.write e1 z g2 (g3.append (.cons v3 .nil))) f
    ·cases e
   ·cases e
  | [],e=>cases e
  | _ :: _ :: _,e=>cases e
 | _=>cases e
theorem AF:rE X "list.extend" (tY X.K (Ev.eW .extend)):=by
 intro pins s σ H x xs v us Q I rx rs q
 obtain ⟨r,h,a,as,d,h',hr,v1,v2,e,q⟩:=q
 cases a with
 | ref m=>
  match as,e with
  | [.ref k],e=>
   delta Ev.eW at e;dsimp only at e
   split at e
   ·rename_i ds es e1 e2
    split at e
    ·rename_i hz
     cases e
     rw [gW] at hz
     obtain ⟨p,rfl,z⟩:=v1.shape
     simp only [aH,RV] at v2
     obtain ⟨y,w,rfl,⟨p2,rfl,z2⟩,rfl⟩:=v2
     obtain ⟨p',g1,vs,g2,g3⟩:=hr.ob _ _ e1
     rw [z] at g1;cases g1
     obtain ⟨p'',k1,ws,k2,k3⟩:=hr.ob _ _ e2
     rw [z2] at k1;cases k1
     refine zY pins s σ H _ _ v us Q I rx rs ⟨p,p2,vs,ws,rfl,rfl,g2,k2,by rw [g3.length,k3.length];exact hz,?_⟩
     have f:=Fm.write (K:=X.K) (ws:=vs++ws) g2 (List.mem_of_getElem? z)
     exact q _ _ r rfl (hr.write e1 z g2 (g3.append k3)) f
    ·cases e
   ·cases e
 | _=>cases e
theorem Mz:rE X "list.pop" (tY X.K (Ev.eW .pop)):=by
 intro pins s σ H x xs v us Q I rx rs q
 obtain ⟨r,h,a,as,d,h',hr,v1,v2,e,q⟩:=q
 cases a with
 | ref m=>
  match as,e with
  | [],e=>
   delta Ev.eW at e;dsimp only at e
   split at e
   ·rename_i ds e1
    split at e
    ·rename_i y e2
     cases e
     obtain ⟨p,rfl,z⟩:=v1.shape
     simp only [aH] at v2
     subst v2
     obtain ⟨p',g1,vs,g2,g3⟩:=hr.ob _ _ e1
     rw [z] at g1;cases g1
     obtain ⟨vy,g4,g5⟩:=g3.get e2
     refine Ln pins s σ H _ _ v us Q I rx rs ⟨p,vs,vy,rfl,rfl,g2,by rw [g3.length];exact g4,?_⟩
     have f:=Fm.write (K:=X.K) (ws:=vs.dropLast) g2 (List.mem_of_getElem? z)
     have hd:aH X.K H r ds.dropLast vs.dropLast:=by
      rw [List.dropLast_eq_take,List.dropLast_eq_take,g3.length]
      exact g3.take _
     exact q _ _ r (g5.mono f) (hr.write e1 z g2 hd) f
    ·cases e
   ·cases e
  | _ :: _,e=>cases e
 | _=>cases e
theorem oM (sep:List Nat):∀ ss:List (List Nat),Str.join (aN sep) (ss.map aN)=aN (Ev.cJ sep ss)
 | []=>rfl
 | [s]=>rfl
 | s :: t :: r=>by
  have ih:=oM sep (t :: r)
  show aN s++aN sep++Str.join (aN sep) ((t :: r).map aN)=_
  rw [ih,qL,qL]
  rfl
theorem join_eq (sep:List Nat) (ss:List (List Nat)):Txt.join (aN sep) (ss.map aN)=aN (Ev.cJ sep ss):=by
 rw [←oM]
 exact PySem.StrLaws.glued_eq_join _ _
theorem IX:rE X "str.join" (tY X.K (Ev.eW .join)):=by
 intro pins s σ H x xs v us Q I rx rs q
 obtain ⟨r,h,a,as,d,h',hr,v1,v2,e,q⟩:=q
 cases a with
 | str sep=>
  match as,e with
  | [.ref k],e=>
   delta Ev.eW at e;dsimp only at e
   split at e
   ·rename_i ss e1
    split at e
    ·rename_i hz
     cases e
     simp only [Option.bind_eq_some_iff] at e1
     obtain ⟨ds,e1,e2⟩:=e1
     simp only [RV] at v1
     obtain ⟨rfl,hl⟩:=v1
     obtain ⟨t,rfl⟩:=rx
     simp only [aH,RV] at v2
     obtain ⟨y,w,rfl,⟨p2,rfl,z2⟩,rfl⟩:=v2
     obtain ⟨u,rfl,ru⟩:=vals1 rs
     cases ru
     obtain ⟨p',vs,z',q1,w⟩:=hr.read e1
     rw [z2] at z';cases z'
     obtain ⟨zs,pv,pl,_⟩:=I.list q1
     obtain ⟨g1,g2⟩:=wR e2 w pv
     have hlen:((ss.map aN).map (·.length)).sum+(ss.map aN).length*(aN sep).length≤16777216:=by
      rw [List.map_map,List.length_map,cL]
      have:(fun x:Str=>x.length) ∘ aN=fun l:List Nat=>l.length:=funext fun l=>cL l
      rw [this]
      exact hz
     refine join_list pl.isList g1 hlen fun t' k'=>?_
     rw [join_eq]
     refine ⟨.str _,H,I.tok _,⟨_,rfl⟩,q.here ⟨rfl,?_⟩ hr⟩
     have hj:=PySem.StrLaws.join_length_le (aN sep) (ss.map aN)
     rw [oM,cL] at hj
     have:sizeLine=16777216:=sizeLine_eq
     omega
    ·cases e
   ·cases e
 | _=>cases e
end
end Sm
set_option maxRecDepth 100000
namespace Sm
open PySem PySem.Spec PyProof.Rows L2 PySem.SeqAt
open Ev (D O Hh Fr R aP E Es Eo T S Ss Fl Src bZ bP TY BI ME)
section
variable {X:Cx}{G:Tb}{n:Nat}{sc:Scope}{N:List Str}{df:Bool}{m:List Nat}{a b c:E}{xa xb xc tg:Expr}{pos:Pos}
theorem aH.ofStr {K:PySem.W.Frag}{H:Hp}{r:List Addr}:∀ (l:List Nat),aH K H r (l.map fun c=>.str [c]) (l.map fun c=>.str (aN [c]))
 | []=>.nil
 | c :: l=>.cons ⟨rfl,by show 1≤sizeLine;decide⟩ (aH.ofStr l)
theorem yD {x:List Nat}{acc:Array Value}(h:ItemsOf (SignAt (aN x)) acc (aN x).cps.size):Vals (x.map fun c=>.str (aN [c])) acc.toList:=by
 obtain ⟨h1,h2⟩:=h
 have hl:acc.toList.length=x.length:=by simpa [aN] using h1
 have go:∀ (y:List Nat) (l:List Value) (k:Nat),l.length=y.length→(∀ j v,l[j]?=some v→SignAt (aN x) (k+j) v)→(∀ j,y[j]?=x[k+j]?)→Vals (y.map fun c=>.str (aN [c])) l:=by
  intro y
  induction y with
  | nil=>intro l k hl _ _;cases l with | nil=>exact .nil | cons _ _=>simp at hl
  | cons c y ih=>
   intro l k hl hv hy
   cases l with
   | nil=>simp at hl
   | cons v l=>
    refine .cons ?_ (ih l (k+1) (by simpa using hl) (fun j w hw=>?_) fun j=>?_)
    ·obtain ⟨c',u,hc',rfl⟩:=hv 0 v (by simp)
     have:=hy 0
     simp at this
     have hc2:x[k]?=some c':=by simpa [aN] using hc'
     rw [hc2] at this
     cases this
     exact ⟨u,rfl⟩
    ·have:=hv (j+1) w (by simpa using hw)
     rw [show k+1+j=k+(j+1) by omega]
     exact this
    ·have:=hy (j+1)
     simp at this
     rw [this]
     congr 1
     omega
 exact go x acc.toList 0 hl (fun j v hv=>by simpa using h2 j v (by simpa using hv)) fun j=>by simp
theorem IY (g:Good G n sc N df X):fR X (.type "list") (fun xs H Q=>∃ r h d src x,HR X.K H r h∧RV X.K H r d x∧xs=[x]∧Ev.er h d=some src∧src.1.length≤sizeLine∧∀ vs,aH X.K H r src.1 vs→∀ l,H l=none→Q (.ref l) (upd H l (.lst vs))):=by
 intro pins s σ H xs us Q I rv q
 obtain ⟨r,h,d,src,x,hr,v1,rfl,e,hz,q⟩:=q
 cases d with
 | tup ds=>
  cases e
  obtain ⟨p,vs,rfl,z,w⟩:=v1.shape
  exact mj pins s σ H _ us Q I rv ⟨p,vs,rfl,.inr z,q vs w⟩
 | ref i=>
  simp only [Ev.er,Option.map_eq_some_iff] at e
  obtain ⟨ds,e1,rfl⟩:=e
  obtain ⟨p,rfl,z⟩:=v1.shape
  obtain ⟨p',vs,z',q1,w⟩:=hr.read e1
  rw [z] at z';cases z'
  exact mj pins s σ H _ us Q I rv ⟨p,vs,rfl,.inl q1,q vs w⟩
 | str l=>
  cases e
  simp only [RV] at v1
  obtain ⟨rfl,hl⟩:=v1
  obtain ⟨u,rfl,ru⟩:=vals1 rv
  obtain ⟨t,rfl⟩:=ru
  refine call_list_str (I.ok.hd g.calm) (aN l) t (fun h' tk acc' c' hk hS' hacc=>?_) (by simpa [aN] using hl)
  refine ⟨.ref s.heap.objs.size,_,I.laid (t':=tk) (o:=.lst (l.map fun c=>.str (aN [c]))) hk (Nat.le_refl _) ?_,rfl,q _ (aH.ofStr l) _ (I.hok.fresh (Nat.le_refl _))⟩
  exact ⟨by simpa using hl,acc'.toList,c',yD hacc,by simpa using hS'⟩
 | _=>cases e
theorem MA {p:Pos}(ha:JE G n sc N df m a xa) (h1:("list" : Str)∈G.bl:=by decide +kernel) (uo:sc.names.lookup ("list" : Str)=some .globalImplicit:=by rfl)
  (hst:∀ env:Env,starEach [xa] env=[(false,eval xa env)]:=by intro _;rfl):JE G n sc N df m (.ee (.seq a)) (.Call (.Name "list" p) [xa] [] pos):=fun X g=>by
 refine PE.of (rD (IY g) (g.gl uo) (g.bl _ h1) (by decide +kernel) (jk (ha X g) lY (hst _)) (by decide) (by decide) (hst _) rfl) fun s H Q q=>?_
 obtain ⟨r,fr,h,d,h',sr,hr,e,q⟩:=q
 simp only [Ev.ev,Ev.cy] at e
 obtain ⟨src,h3,e1,e⟩:=Ev.ah e
 obtain ⟨x,h4,e2,e1⟩:=Ev.ah e1
 obtain ⟨e1,rfl⟩:=Ev.aK e1
 refine ⟨r,fr,h,x,_,sr,hr,e2,fun v H1 r1 v1 hr1 f1=>?_⟩
 have hz:src.1.length≤sizeLine:=by
  unfold Ev.alloc at e
  split at e
  ·rename_i z;rw [←gW];exact z
  ·cases e
 exact ⟨r1,_,x,src,v,hr1,v1,rfl,e1,hz,fun vs w l hl=>((q.later f1).lst e w hr1).2 l hl⟩
theorem yE {lo:Int}{acc:Array Value}{k:Nat}(h:ItemsOf (fun i v=>∃ t,v=Value.int (lo+i*1) t) acc k):Vals ((List.range k).map fun i=>V.int (lo+(i:Nat))) acc.toList:=by
 obtain ⟨h1,h2⟩:=h
 subst h1
 have go:∀ (l:List Value) (b:Nat),(∀ j v,l[j]?=some v→∃ t,v=Value.int (lo+((b+j:Nat):Int)) t)→Vals ((List.range' b l.length).map fun i=>V.int (lo+(i:Nat))) l:=by
  intro l
  induction l with
  | nil=>intro b _;exact .nil
  | cons v l ih=>
   intro b hv
   rw [List.length_cons,List.range'_succ]
   refine .cons (by obtain ⟨t,e⟩:=hv 0 v (by simp);subst e;exact ⟨t,by simp⟩) (ih (b+1) fun j w hw=>?_)
   have:=hv (j+1) w (by simpa using hw)
   rw [show b+1+j=b+(j+1) by omega]
   exact this
 have:=go acc.toList 0 fun j v hv=>by
  obtain ⟨t,e⟩:=h2 j v (by simpa using hv)
  exact ⟨t,by simpa using e⟩
 rw [List.range_eq_range']
 simpa using this
theorem aH.ofRange {K:PySem.W.Frag}{H:Hp}{r:List Addr}(lo:Int) (k:Nat):aH K H r (Ev.range lo k) ((List.range k).map fun i=>V.int (lo+(i:Nat))):=by
 unfold Ev.range
 generalize List.range k=l
 induction l with
 | nil=>exact .nil
 | cons i l ih=>exact .cons rfl ih
end
end Sm
set_option maxRecDepth 100000
namespace Sm
open PySem PySem.Spec PyProof.Rows L2 PySem.SeqAt
open Ev (D O Hh Fr R aP E Es Eo T S Ss Fl Src bZ bP TY BI ME)
section
variable {X:Cx}{G:Tb}{n:Nat}{sc:Scope}{N:List Str}{df:Bool}{m:List Nat}{a b c:E}{xa xb xc tg:Expr}{pos:Pos}
theorem Vals.reverse {vs:List V}{us:List Value}(w:Vals vs us):Vals vs.reverse us.reverse:=by
 induction w with
 | nil=>exact .nil
 | cons a _ ih=>rw [List.reverse_cons,List.reverse_cons];exact ih.append (.cons a .nil)
end
end Sm
set_option maxRecDepth 100000
namespace Sm
open PySem PySem.Spec PyProof.Rows L2 PySem.SeqAt
open Ev (D O Hh Fr R aP E Es Eo T S Ss Fl Src bZ bP TY BI ME)
section
variable {G:Tb}{n:Nat}{sc:Scope}{N:List Str}{df:Bool}{m:List Nat}{a b c:E}{xa xb xc tg:Expr}{pos:Pos}
theorem C0 (g:Good G n sc N df X):fR X (.type "tuple") (fun xs H Q=>∃ r h d x d' h',HR X.K H r h∧RV X.K H r d x∧xs=[x]∧Ev.qD d h=.ok d' h'∧Res X.K r H h' d' Q):=by
 intro pins s σ H xs us Q I rv q
 obtain ⟨r,h,d,x,d',h',hr,v1,rfl,e,q⟩:=q
 cases d with
 | tup ds=>
  cases e
  have v2:=v1
  obtain ⟨p,vs,rfl,z,w⟩:=v1.shape
  exact lN pins s σ H _ us Q I rv ⟨p,vs,rfl,.inr ⟨z,q.here v2 hr⟩⟩
 | ref i=>
  simp only [Ev.qD] at e
  split at e
  ·rename_i ds e1
   split at e
   ·cases e
    obtain ⟨p,rfl,z⟩:=v1.shape
    obtain ⟨p',vs,z',q1,w⟩:=hr.read e1
    rw [z] at z';cases z'
    exact lN pins s σ H _ us Q I rv ⟨p,vs,rfl,.inl ⟨q1,fun l hl=>q.tup w hr hl⟩⟩
   ·cases e
  ·cases e
 | _=>cases e
theorem MB {p:Pos}(ha:JE G n sc N df m a xa) (h1:("tuple" : Str)∈G.bl:=by decide +kernel) (uo:sc.names.lookup ("tuple" : Str)=some .globalImplicit:=by rfl)
  (hst:∀ env:Env,starEach [xa] env=[(false,eval xa env)]:=by intro _;rfl):JE G n sc N df m (.iw a) (.Call (.Name "tuple" p) [xa] [] pos):=fun X g=>by
 refine PE.of (rD (C0 g) (g.gl uo) (g.bl _ h1) (by decide +kernel) (jk (ha X g) lY (hst _)) (by decide) (by decide) (hst _) rfl) fun s H Q q=>?_
 obtain ⟨r,fr,h,d,h',sr,hr,e,q⟩:=q
 simp only [Ev.ev] at e
 obtain ⟨x,h3,e1,e⟩:=Ev.ah e
 refine ⟨r,fr,h,x,_,sr,hr,e1,fun v H1 r1 v1 hr1 f1=>?_⟩
 exact ⟨r1,h3,x,v,d,h',hr1,v1,rfl,e,q.later f1⟩
theorem MC {st:Stmt}:JS G n sc N df m .fk st:=fun X g=>PS.of Cn fun Q s H q=>by
 obtain ⟨r,fr,h,fl,aj,h',sr,hr,e,q⟩:=q
 simp only [Ev.ex] at e
 cases e
theorem C1 {X:Cx}(g:Good G n sc N df X) {pins:List (Addr×Obj)}{σ:L2.St}{H:Hp}{s:Shared}{Q:VK}{lo hi:Int}{t u v:Tok}{tk:Nat}(I:Inv X pins σ H s) (h1:-(2 ^ 62)≤lo) (h2:lo<2 ^ 62) (h3:-(2 ^ 62)≤hi) (h4:hi<2 ^ 62)
  (hl:(hi - lo).toNat≤sizeLine) (q:∀ l,H l=none→Q (.ref l) (upd H l (.lst ((List.range (hi - lo).toNat).map fun i=>V.int (lo+(i:Nat)))))) :
  wpAny (model X.prog X.w) X.A (call (.type "list") [.ref s.heap.objs.size]) (EP X pins σ Q) X.xe { s with heap:=s.heap.push { cls:=.type "range",data:=.fields #[.int lo t,.int hi u,.int 1 v]},toks:=tk }:=by
 have I1:Inv X pins σ H { s with heap:=s.heap.push { cls:=.type "range",data:=.fields #[.int lo t,.int hi u,.int 1 v]},toks:=tk }:=I.kept fun b o e=>Heap.get?_push_of_some _ e
 have e2:Builtin.Range.rangeSize lo hi 1=(((hi - lo).toNat:Nat):Int):=by rw [rangeSize_one];split <;> omega
 refine call_list_range (n:=(hi - lo).toNat) (I.ok.hd g.calm) (IsRange.new ..) (small_one h1 h2 h3 h4) e2 (by rw [sizeLine_eq] at hl;exact hl) fun h' tk' acc' c' hk hS' hacc=>?_
 refine ⟨.ref _,_,I1.laid (t':=tk') (o:=.lst ((List.range (hi - lo).toNat).map fun i=>V.int (lo+(i:Nat)))) hk (Nat.le_refl _) ?_,rfl,q _ (I1.hok.fresh (Nat.le_refl _))⟩
 exact ⟨by simpa using hl,acc'.toList,c',yE hacc,by simpa using hS'⟩
theorem C2 {e1 e2:E}{p p2 pos2:Pos}(hs:JA G n sc N df m (.cons e1 (.cons e2 .nil)) [xa,xb]) (h1:("list" : Str)∈G.bl:=by decide +kernel) (uo:sc.names.lookup ("list" : Str)=some .globalImplicit:=by rfl)
  (hg:sc.names.lookup ("range" : Str)=some .globalImplicit:=by rfl) (hb:("range" : Str)∈G.bl:=by decide +kernel)
  (hst:∀ env:Env,starEach [xa,xb] env=[(false,eval xa env),(false,eval xb env)]:=by intro _;rfl) (oN:∀ env:Env,starEach [xb] env=[(false,eval xb env)]:=by intro _;rfl)
  (uq:∀ env:Env,starEach [Expr.Call (.Name "range" p2) [xa,xb] [] pos2] env=[(false,eval (Expr.Call (.Name "range" p2) [xa,xb] [] pos2) env)]:=by intro _;rfl) :
  JE G n sc N df m (.ee (.gy (.cons e1 (.cons e2 .nil)))) (.Call (.Name "list" p) [.Call (.Name "range" p2) [xa,xb] [] pos2] [] pos):=fun X g=>by
 intro pins s σ H Q I q
 obtain ⟨r,fr,h,d,h',sr,hr,e,q⟩:=q
 simp only [Ev.ev,Ev.cy] at e
 replace e:=Ev.ah e;obtain ⟨src,h3,e1,e⟩:=e
 replace e1:=Ev.ah e1;obtain ⟨ds,h4,e2,e1⟩:=e1
 replace e1:=Ev.aK e1;obtain ⟨e1,y0⟩:=e1;subst y0
 refine wpAny_Call_Name_kw (iO I (g.gl uo) (g.bl _ h1) (show bootBuiltins ("list" : Str)=some (.type "list") by decide +kernel) ?_ (by decide) (by decide))
 refine PyProof.Rows.callWith_type1 ?_ (uq _) rfl
 rw [uq]
 show wpAny _ _ (spliced ((false,eval (Expr.Call (.Name "range" p2) [xa,xb] [] pos2) X.env) :: backTo pos [])) _ _ s
 refine Calls.spliced_cons ?_
 refine Call_ (iO I (g.gl hg) (g.bl _ hb) boot_range (PyProof.Rows.callWith_type1 (bB ((hs X g) pos2 pins s σ H (fun vs H1=>∃ r1,aH X.K H1 r1 ds vs∧HR X.K H1 r1 h3∧Fm X.K r r1 H H1) I ⟨r,fr,h,ds,h3,sr,hr,e2,fun vs H1 r1 v1 hr1 f1=>⟨r1,v1,hr1,f1⟩⟩) fun us s1 z=>?_) (by rw [hst,oN]) (by rw [oN];rfl)))
 ·obtain ⟨vs,H1,I1,rv,r1,v1,hr1,f1⟩:=z
  unfold Ev.dO at e1
  split at e1
  ·exfalso
   simp only [Ev.cg] at e2
   obtain ⟨d,_,_,e2⟩:=Ev.ah e2
   obtain ⟨d2,_,e3,e2⟩:=Ev.ah e2
   obtain ⟨d3,_,e4,e3⟩:=Ev.ah e3
   simp only [Ev.ak] at e3
   cases e3
   cases e2
  ·rename_i i j
   split at e1
   ·rename_i hj
    cases e1
    simp only [aH,RV] at v1
    obtain ⟨v,w,rfl,rfl,v',w',rfl,rfl,rfl⟩:=v1
    cases rv with
    | cons ra rb=>
    cases rb with
    | cons rb rc=>
    cases rc
    obtain ⟨t,rfl⟩:=ra
    obtain ⟨u,rfl⟩:=rb
    refine call_range_2 ?_
    refine Calls.spliced_nil ?_
    have hz:(j - i).toNat≤sizeLine:=by
     unfold Ev.alloc at e
     split at e
     ·rename_i z;rw [←gW];simpa [Ev.range] using z
     ·cases e
    refine C1 g I1 hj.1 hj.2.1 hj.2.2.1 hj.2.2.2 hz fun l hl=>?_
    exact ((q.later f1).lst e (aH.ofRange i (j - i).toNat) hr1).2 l hl
   ·cases e1
  ·cases e1
end
theorem wU {X:Cx}{pins:List (Addr×Obj)}{σ:L2.St}{H:Hp}{s:Shared}{h':Heap}{t':Nat}{ch:List Addr}(I:Inv X pins σ H s) (k:∀ b o,b∉ch→s.heap.get? b=some o→h'.get? b=some o) (hf:∀ b∈ch,gw X pins H b):Inv X pins σ H { s with heap:=h',toks:=t' }:=by
 have zK:∀ b u,H b=some u→b∉ch:=fun b u e z=>by rw [(hf b z).1] at e;cases e
 refine I.step (g':=s.gens) (d':=s.drawn) (ch:=ch) (fun b hb=>?_) (fun b o _ _ hc e _=>k b o hc e) (fun b o _ _ hc e _=>⟨o.slots,k b o hc e⟩) (fun _ _ _ _ n=>n)
  (fun b o hc e=>⟨o,k b o hc e⟩) (fun _ _ e=>e) (fun _ _ _ e=>e) (fun b ps e=>⟨#[],by rw [e];simp⟩) (fun m hm=>?_) (fun b u e=>?_) I.bare
 ·obtain ⟨f0,f1,f2,f3,f4,f5⟩:=hf b hb
  exact ⟨f3,f1,f4,f5⟩
 ·obtain ⟨o,es,ep,ho,r⟩:=hm
  exact ⟨o,es,ep,k _ o (fun z=>(hf _ z).2.1 rfl) ho,r⟩
 ·refine (I.hok b u e).stay (fun c v hc q=>k c v ?_ q) (fun _ q=>q) fun _ _ q=>q
  rcases hc with z | z
  ·rw [z];exact zK b u e
  ·exact zK c _ z
noncomputable def UG (K:PySem.W.Frag) (a b:Addr):L2.It:=
  ⟨fun i H=>∃ xs ys x y,dJ K H a xs∧dJ K H b ys∧xs[i]?=some x∧ys[i]?=some y,
   fun i H x H'=>∃ p u v,H p=none∧x=.ref p∧H'=upd H p (.tup [u,v])∧(∀ xs,dJ K H a xs→xs[i]?=some u)∧∀ ys,dJ K H b ys→ys[i]?=some v,
   fun i H=>∃ xs ys,dJ K H a xs∧dJ K H b ys∧(xs.length≤i∨ys.length≤i)⟩
abbrev Zo (h:Heap) (z TI TO:Addr) (f0:Value) (b:Bool):Prop:=
 h.get? z=some { cls:=.type "zip",dict:=none,data:=.fields #[f0,.bool b,.bool false,.ref TI,.ref TO],slots:=#[]}
noncomputable def Zf (f0:Value):Prop:=f0=.none∨∃ T:Addr,f0=rawInt (T:Int)
section
variable {prog:Program}{w:World}{A:Around}{E:Value→Shared→Prop}{s:Shared}
theorem wV {z TI TO:Addr}{f0:Value}{b:Bool}{Q:Bool→Shared→Prop}(hz:Zo s.heap z TI TO f0 b)(hf:Zf f0)
  (q1:Q true s) (q2:∀ h',Zo h' z TI TO f0 true→Heap.SameBut z s.heap h'→Q false { s with heap:=h' }) :
  wpAny (model prog w) A (Builtin.SmallTypes.ownedTupleIsFree (.ref z)) Q E s:=by
 unfold Builtin.SmallTypes.ownedTupleIsFree
 refine wpAny_bind (wpAny_field hz rfl (x:=f0) rfl ?_)
 rcases hf with rfl | ⟨T,rfl⟩
 ·exact wpAny_pure q1
 ·show wpAny _ _ (loadIfAlive _ >>= _) _ _ _
  refine wpAny_bind (show wpAny _ _ (loadIfAlive _) _ _ _ from fun _ _ _=>(?_:wpAny _ _ (if (Option.isNone (s.heap.get? ((T:Int).toNat)))=true then _ else _) Q E s))
  cases s.heap.get? ((T:Int).toNat) with
  | none=>exact wpAny_pure q1
  | some o=>
   simp only [Option.isNone_some,Bool.false_eq_true,if_false]
   refine wpAny_bind (wpAny_field hz rfl (x:=.bool b) rfl ?_)
   cases b with
   | true=>
    rw [if_neg (show ¬ ((Value.bool true != Value.bool true)=true) from Bool.false_ne_true)]
    exact wpAny_pure (q2 _ hz (Heap.SameBut.refl _ _))
   | false=>
    rw [if_pos (show (Value.bool false != Value.bool true)=true from rfl)]
    exact wpAny_bind (wpAny_setField_rec hz (by simp) fun h' a1 a2=>wpAny_pure (q2 h' a1 a2))
theorem IZ {z TI TO i1 i2 l1 l2:Addr}{k1 k2:Nat}{xs ys:Array Value}{x y a b f0:Value}{f1:Bool}{Q:Value→Shared→Prop}(D:ZipApart z TI TO i1 i2 l1 l2)(hz:Zo s.heap z TI TO f0 f1)(hf:Zf f0)
  (hTI:IsPair s.heap TI (.ref i1) (.ref i2)) (hTO:IsPair s.heap TO a b)
  (h1:s.heap.IsListIter i1 l1 k1) (h2:s.heap.IsListIter i2 l2 k2) (hl1:s.heap.IsList l1 xs) (hl2:s.heap.IsList l2 ys) (hx:xs[k1]?=some x) (hy:ys[k2]?=some y)
  (hQ:∀ h' f0 f1,Zo h' z TI TO f0 f1→Zf f0→(∃ a b,IsPair h' TO a b)→h'.IsListIter i1 l1 (k1+1)→h'.IsListIter i2 l2 (k2+1)→IsPair h' s.heap.objs.size x y→
   (∀ c o,c≠z→c≠TO→c≠i1→c≠i2→s.heap.get? c=some o→h'.get? c=some o)→Q (.ref s.heap.objs.size) { s with heap:=h' }) :
  wpAny (model prog w) A (Builtin.«zip.__next__» ⟨[.ref z],[]⟩) (fun fin s'=>∃ v,fin=.done (.ret v)∧Q v s') E s:=by
 show wpAny _ _ (field (.ref z) 2 >>= _) _ _ _
 refine wpAny_bind (wpAny_field hz rfl (x:=.bool false) rfl ?_)
 show wpAny _ _ (field (.ref z) 3 >>= _) _ _ _
 refine wpAny_bind (wpAny_field hz rfl (x:=.ref TI) rfl ?_)
 refine wpAny_bind (wpAny_seqItems hTI rfl ?_)
 show wpAny _ _ (Builtin.SmallTypes.ownedTupleIsFree (.ref z) >>= _) _ _ _
 refine wpAny_bind (wV hz hf ?_ fun g hz1 hs1=>?_)
 ·rw [if_pos rfl]
  refine wpAny_bind (wpAny_rule ?_)
  refine wpAny_bind (wpAny_field hz rfl (x:=.ref TO) rfl ?_)
  refine wpAny_bind (wpAny_setField_rec hz (by simp) fun g1 z1 e1=>?_)
  replace z1:Zo g1 z TI TO .ellipsis f1:=z1
  refine wpAny_bind ?_
  simp only [List.zipIdx_cons,List.zipIdx_nil,List.forIn_cons,List.forIn_nil]
  refine wpAny_bind (wpAny_bind (wpAny_onRaise ?_))
  show wpAny _ _ (Builtin.SmallTypes.nextOf (.ref i1) >>= _) _ _ _
  refine wpAny_bind (wpAny_nextOf_list_item (h1.extBut e1.extBut D.i1z) (hl1.extBut e1.extBut D.l1z) hx fun g2 c2 e2=>wpAny_pure ?_)
  have p2:IsPair g2 TO a b:=e2.extBut _ _ D.TOi1 (e1.extBut _ _ D.TOz hTO)
  refine wpAny_bind (wpAny_seqItems p2 rfl ?_)
  refine wpAny_bind (wpAny_updateSeq_pair p2 fun g3 p3 e3=>?_)
  replace p3:IsPair g3 TO x b:=p3
  refine wpAny_bind (wpAny_letGo (wpAny_pure ?_))
  refine wpAny_bind (wpAny_bind (wpAny_onRaise ?_))
  show wpAny _ _ (Builtin.SmallTypes.nextOf (.ref i2) >>= _) _ _ _
  refine wpAny_bind (wpAny_nextOf_list_item (((h2.extBut e1.extBut D.i2z).extBut e2.extBut D.i12.symm).extBut e3.extBut D.TOi2.symm) (((hl2.extBut e1.extBut D.l2z).extBut e2.extBut D.l2i1).extBut e3.extBut D.l2TO) hy fun g4 c4 e4=>wpAny_pure ?_)
  have p4:IsPair g4 TO x b:=e4.extBut _ _ D.TOi2 p3
  refine wpAny_bind (wpAny_seqItems p4 rfl ?_)
  refine wpAny_bind (wpAny_updateSeq_pair p4 fun g5 p5 e5=>?_)
  replace p5:IsPair g5 TO x y:=p5
  refine wpAny_bind (wpAny_letGo (wpAny_pure (wpAny_pure ?_)))
  refine wpAny_bind (wpAny_seqItems p5 rfl ?_)
  refine wpAny_bind (wpAny_newTuple ?_)
  have sz:g5.objs.size=s.heap.objs.size:=by rw [e5.1,e4.1,e3.1,e2.1,e1.1]
  have z5:Zo g5 z TI TO .ellipsis f1:=e5.extBut _ _ D.TOz.symm (e4.extBut _ _ D.i2z.symm (e3.extBut _ _ D.TOz.symm (e2.extBut _ _ D.i1z.symm z1)))
  have k5:∀ c o,c≠z→c≠TO→c≠i1→c≠i2→s.heap.get? c=some o→g5.get? c=some o:=fun c o c1 c2 c3 c4 e=>e5.extBut _ _ c2 (e4.extBut _ _ c4 (e3.extBut _ _ c2 (e2.extBut _ _ c3 (e1.extBut _ _ c1 e))))
  have u1:g5.IsListIter i1 l1 (k1+1):=((c2.extBut e3.extBut D.TOi1.symm).extBut e4.extBut D.i12).extBut e5.extBut D.TOi1.symm
  have u2:g5.IsListIter i2 l2 (k2+1):=c4.extBut e5.extBut D.TOi2.symm
  have lz:z<g5.objs.size:=Heap.lt_size z5
  show wpAny _ _ (Builtin.SmallTypes.ownedTupleHandOut (.ref z) (.ref g5.objs.size) >>= _) _ _ _
  refine wpAny_bind ?_
  unfold Builtin.SmallTypes.ownedTupleHandOut
  have z6:Zo (g5.push { cls:=.type "tuple",data:=.seq #[x,y]}) z TI TO .ellipsis f1:=Heap.get?_push_of_some _ z5
  refine wpAny_bind (wpAny_setField_rec z6 (by simp) fun g7 z7 e7=>?_)
  replace z7:Zo g7 z TI TO (rawInt g5.objs.size) f1:=z7
  refine wpAny_setField_rec z7 (by simp) fun g8 z8 e8=>?_
  replace z8:Zo g8 z TI TO (rawInt g5.objs.size) false:=z8
  have up:∀ c o,c≠z→g5.get? c=some o→g8.get? c=some o:=fun c o c1 e=>e8.extBut _ _ c1 (e7.extBut _ _ c1 (Heap.get?_push_of_some _ e))
  have t8:IsPair g8 g5.objs.size x y:=e8.extBut _ _ (Nat.ne_of_gt lz) (e7.extBut _ _ (Nat.ne_of_gt lz) (Heap.get?_push_size _ rfl))
  rw [sz] at z8 t8
  refine wpAny_pure ⟨_,rfl,?_⟩
  show Q (.ref g5.objs.size) _
  rw [sz]
  exact hQ g8 _ _ z8 (.inr ⟨_,rfl⟩) ⟨_,_,up _ _ D.TOz p5⟩ (u1.at fun o e=>up _ o D.i1z e) (u2.at fun o e=>up _ o D.i2z e) t8 fun c o c1 c2 c3 c4 e=>up c o c1 (k5 c o c1 c2 c3 c4 e)
 ·rw [if_neg Bool.false_ne_true]
  simp only []
  refine wpAny_bind ?_
  rw [←Array.forIn_toList]
  simp only [List.forIn_cons,List.forIn_nil]
  refine wpAny_bind (wpAny_bind (wpAny_holding ?_))
  show wpAny _ _ (Builtin.SmallTypes.nextOf (.ref i1) >>= _) _ _ _
  refine wpAny_bind (wpAny_nextOf_list_item (h1.extBut hs1.extBut D.i1z) (hl1.extBut hs1.extBut D.l1z) hx fun g2 c2 e2=>wpAny_pure (wpAny_pure ?_))
  refine wpAny_bind (wpAny_bind (wpAny_holding ?_))
  show wpAny _ _ (Builtin.SmallTypes.nextOf (.ref i2) >>= _) _ _ _
  refine wpAny_bind (wpAny_nextOf_list_item ((h2.extBut hs1.extBut D.i2z).extBut e2.extBut D.i12.symm) ((hl2.extBut hs1.extBut D.l2z).extBut e2.extBut D.l2i1) hy fun g4 c4 e4=>wpAny_pure (wpAny_pure (wpAny_pure ?_)))
  show wpAny _ _ (newTuple [x,y] >>= _) _ _ _
  refine wpAny_bind (wpAny_newTuple ?_)
  have sz:g4.objs.size=s.heap.objs.size:=by rw [e4.1,e2.1,hs1.1]
  have k4:∀ c o,c≠z→c≠i1→c≠i2→s.heap.get? c=some o→g4.get? c=some o:=fun c o c1 c3 c4 e=>e4.extBut _ _ c4 (e2.extBut _ _ c3 (hs1.extBut _ _ c1 e))
  refine wpAny_pure ⟨_,rfl,?_⟩
  show Q (.ref g4.objs.size) _
  rw [sz]
  have up:∀ c o,g4.get? c=some o→(g4.push { cls:=.type "tuple",data:=.seq #[x,y]}).get? c=some o:=fun c o e=>Heap.get?_push_of_some _ e
  refine hQ _ _ _ (up _ _ (e4.extBut _ _ D.i2z.symm (e2.extBut _ _ D.i1z.symm hz1))) hf ⟨_,_,up _ _ (k4 _ _ D.TOz D.TOi1 D.TOi2 hTO)⟩ ((c2.extBut e4.extBut D.i12).at fun o e=>up _ o e) (c4.at fun o e=>up _ o e) ?_ fun c o c1 _ c3 c4 e=>up c o (k4 c o c1 c3 c4 e)
  rw [←sz]
  exact Heap.get?_push_size _ rfl
theorem MD {z TI TO i1 i2 l1 l2:Addr}{k1 k2:Nat}{xs ys:Array Value}{a b f0:Value}{f1:Bool}{Q:PySem.Fin→Shared→Prop}(hh:A.handled=none)(D:ZipApart z TI TO i1 i2 l1 l2)(hz:Zo s.heap z TI TO f0 f1)(hf:Zf f0)
  (hTI:IsPair s.heap TI (.ref i1) (.ref i2)) (hTO:IsPair s.heap TO a b)
  (h1:s.heap.IsListIter i1 l1 k1) (h2:s.heap.IsListIter i2 l2 k2) (hl1:s.heap.IsList l1 xs) (hl2:s.heap.IsList l2 ys) (hend:xs[k1]?=none∨ys[k2]?=none)
  (hE:∀ h' e,(∀ c o,c≠z→c≠TO→c≠i1→c≠i2→s.heap.get? c=some o→h'.get? c=some o)→(∃ o,h'.get? e=some o∧o.cls=.type "StopIteration")→E (.ref e) { s with heap:=h' }) :
  wpAny (model prog w) A (Builtin.«zip.__next__» ⟨[.ref z],[]⟩) Q E s:=by
 show wpAny _ _ (field (.ref z) 2 >>= _) _ _ _
 refine wpAny_bind (wpAny_field hz rfl (x:=.bool false) rfl ?_)
 show wpAny _ _ (field (.ref z) 3 >>= _) _ _ _
 refine wpAny_bind (wpAny_field hz rfl (x:=.ref TI) rfl ?_)
 refine wpAny_bind (wpAny_seqItems hTI rfl ?_)
 show wpAny _ _ (Builtin.SmallTypes.ownedTupleIsFree (.ref z) >>= _) _ _ _
 refine wpAny_bind (wV hz hf ?_ fun g hz1 hs1=>?_)
 ·rw [if_pos rfl]
  refine wpAny_bind (wpAny_rule ?_)
  refine wpAny_bind (wpAny_field hz rfl (x:=.ref TO) rfl ?_)
  refine wpAny_bind (wpAny_setField_rec hz (by simp) fun g1 z1 e1=>?_)
  replace z1:Zo g1 z TI TO .ellipsis f1:=z1
  refine wpAny_bind ?_
  simp only [List.zipIdx_cons,List.zipIdx_nil,List.forIn_cons,List.forIn_nil]
  refine wpAny_bind (wpAny_bind (wpAny_onRaise ?_))
  show wpAny _ _ (Builtin.SmallTypes.nextOf (.ref i1) >>= _) _ _ _
  cases hx:xs[k1]? with
  | none=>
   refine wpAny_bind (wpAny_nextOf_list_end hh (h1.extBut e1.extBut D.i1z) (hl1.extBut e1.extBut D.l1z) hx fun g2 e e2 he=>?_)
   obtain ⟨oe,ur,hce⟩:=he
   have z2:Zo g2 z TI TO .ellipsis f1:=e2 _ _ D.i1z.symm z1
   have ez:e≠z:=fun x=>by subst x;rw [z2] at ur;cases ur;simp at hce
   exact wpAny_setField_rec z2 (by simp) fun g3 _ e3=>hE g3 e (fun c o c1 _ c3 _ x=>e3.extBut _ _ c1 (e2 _ _ c3 (e1.extBut _ _ c1 x))) ⟨oe,e3.extBut _ _ ez ur,hce⟩
  | some x=>
   have hy:ys[k2]?=none:=by rcases hend with h | h;rw [hx] at h;cases h;exact h
   refine wpAny_bind (wpAny_nextOf_list_item (h1.extBut e1.extBut D.i1z) (hl1.extBut e1.extBut D.l1z) hx fun g2 c2 e2=>wpAny_pure ?_)
   have p2:IsPair g2 TO a b:=e2.extBut _ _ D.TOi1 (e1.extBut _ _ D.TOz hTO)
   refine wpAny_bind (wpAny_seqItems p2 rfl ?_)
   refine wpAny_bind (wpAny_updateSeq_pair p2 fun g3 p3 e3=>?_)
   refine wpAny_bind (wpAny_letGo (wpAny_pure ?_))
   refine wpAny_bind (wpAny_bind (wpAny_onRaise ?_))
   show wpAny _ _ (Builtin.SmallTypes.nextOf (.ref i2) >>= _) _ _ _
   refine wpAny_bind (wpAny_nextOf_list_end hh (((h2.extBut e1.extBut D.i2z).extBut e2.extBut D.i12.symm).extBut e3.extBut D.TOi2.symm) (((hl2.extBut e1.extBut D.l2z).extBut e2.extBut D.l2i1).extBut e3.extBut D.l2TO) hy fun g4 e e4 he=>?_)
   obtain ⟨oe,ur,hce⟩:=he
   have z4:Zo g4 z TI TO .ellipsis f1:=e4 _ _ D.i2z.symm (e3.extBut _ _ D.TOz.symm (e2.extBut _ _ D.i1z.symm z1))
   have ez:e≠z:=fun x=>by subst x;rw [z4] at ur;cases ur;simp at hce
   exact wpAny_setField_rec z4 (by simp) fun g5 _ e5=>hE g5 e (fun c o c1 c2 c3 c4 x=>e5.extBut _ _ c1 (e4 _ _ c4 (e3.extBut _ _ c2 (e2.extBut _ _ c3 (e1.extBut _ _ c1 x))))) ⟨oe,e5.extBut _ _ ez ur,hce⟩
 ·rw [if_neg Bool.false_ne_true]
  simp only []
  refine wpAny_bind ?_
  rw [←Array.forIn_toList]
  simp only [List.forIn_cons,List.forIn_nil]
  refine wpAny_bind (wpAny_bind (wpAny_holding ?_))
  show wpAny _ _ (Builtin.SmallTypes.nextOf (.ref i1) >>= _) _ _ _
  cases hx:xs[k1]? with
  | none=>
   refine wpAny_bind (wpAny_nextOf_list_end hh (h1.extBut hs1.extBut D.i1z) (hl1.extBut hs1.extBut D.l1z) hx fun g2 e e2 he=>?_)
   exact hE g2 e (fun c o c1 _ c3 _ x=>e2 _ _ c3 (hs1.extBut _ _ c1 x)) he
  | some x=>
   have hy:ys[k2]?=none:=by rcases hend with h | h;rw [hx] at h;cases h;exact h
   refine wpAny_bind (wpAny_nextOf_list_item (h1.extBut hs1.extBut D.i1z) (hl1.extBut hs1.extBut D.l1z) hx fun g2 c2 e2=>wpAny_pure (wpAny_pure ?_))
   refine wpAny_bind (wpAny_bind (wpAny_holding ?_))
   show wpAny _ _ (Builtin.SmallTypes.nextOf (.ref i2) >>= _) _ _ _
   refine wpAny_bind (wpAny_nextOf_list_end hh ((h2.extBut hs1.extBut D.i2z).extBut e2.extBut D.i12.symm) ((hl2.extBut hs1.extBut D.l2z).extBut e2.extBut D.l2i1) hy fun g4 e e4 he=>?_)
   exact hE g4 e (fun c o c1 _ c3 c4 x=>e4 _ _ c4 (e2.extBut _ _ c3 (hs1.extBut _ _ c1 x))) he
theorem RX {z TI TO T:Addr}{f0:Value}{f1:Bool}{tg:Expr}{Q:Unit→Shared→Prop}(hz:Zo s.heap z TI TO f0 f1) (hf:Zf f0) (hQ:∀ h' f0,Zo h' z TI TO f0 f1→Zf f0→Heap.SameBut z s.heap h'→Q () { s with heap:=h' }) :
    wpAny (model prog w) A (letOwnedTupleGo tg (.ref z) (.ref T)) Q E s:=by
  have q0:Q () s:=hQ _ _ hz hf (Heap.SameBut.refl _ _)
  unfold letOwnedTupleGo
  cases tg <;> first
    | exact wpAny_pure q0
    | (refine wpAny_bind (wpAny_load hz ?_)
       show wpAny _ _ (ite _ _ _) _ _ _
       split
       · exact wpAny_bind (wpAny_rule (wpAny_setField_rec hz (by simp) fun h' a1 a2=>hQ h' _ a1 (.inl rfl) a2))
       · exact wpAny_pure q0)
end
theorem Ja {prog:Program}{w:World}{A:Around}{E:Value→Shared→Prop}{s:Shared}{z TI TO:Addr}{f0:Value}{f1:Bool}{Q:Value→Shared→Prop}(hz:Zo s.heap z TI TO f0 f1) (h:Q (.ref z) s):wpAny (model prog w) A (pyIter (.ref z)) Q E s:=by
 have hT:s.TypeIs (.ref z) "zip" :=⟨_,hz,rfl⟩
 refine wpAny_pyIter_slot hT F.slot_zip_iter (wpAny_call_entry F.slot_zip_iter hT F.entry_zip_iter ?_ (F.args_zip_iter_1 _))
 exact wpAny_pure ⟨_,rfl,"zip",_,hT,F.slot_zip_next.lookup,h⟩
theorem C3 {P:Program}{w:World}{K:PySem.W.Frag}{tg:Expr}{l1 l2 z TI TO i1 i2:Addr}(D:ZipApart z TI TO i1 i2 l1 l2) :
  Turn P w K tg (UG K l1 l2) [z,TI,TO,i1,i2] z (fun i h=>(∃ f0 f1,Zo h z TI TO f0 f1∧Zf f0)∧IsPair h TI (.ref i1) (.ref i2)∧(∃ a b,IsPair h TO a b)∧h.IsListIter i1 l1 i∧h.IsListIter i2 l2 i) where
 mem:=by simp
 obj:=fun i h st b hb=>by
  obtain ⟨⟨f0,f1,s1,s6⟩,s2,⟨u,v,s3⟩,s4,s5⟩:=st
  simp only [List.mem_cons,List.mem_nil_iff,or_false] at hb
  rcases hb with rfl | rfl | rfl | rfl | rfl
  ·exact ⟨_,s1,fun v z=>by have z':Data.fields _=Data.cell v:=z;cases z'⟩
  ·exact ⟨_,s2,fun v z=>by have z':Data.seq _ _=Data.cell v:=z;cases z'⟩
  ·exact ⟨_,s3,fun v z=>by have z':Data.seq _ _=Data.cell v:=z;cases z'⟩
  ·obtain ⟨o,e,c,d⟩:=s4;exact ⟨o,e,fun v z=>by rw [d] at z;cases z⟩
  ·obtain ⟨o,e,c,d⟩:=s5;exact ⟨o,e,fun v z=>by rw [d] at z;cases z⟩
 keep:=fun i h h' st k=>by
  obtain ⟨⟨f0,f1,s1,s6⟩,s2,⟨u,v,s3⟩,s4,s5⟩:=st
  exact ⟨⟨_,_,k z (by simp) _ s1,s6⟩,k TI (by simp) _ s2,⟨u,v,k TO (by simp) _ s3⟩,s4.at fun o e=>k i1 (by simp) o e,s5.at fun o e=>k i2 (by simp) o e⟩
 item:=by
  intro X hP hw hK hc i pins s σ H E I hf st hg
  subst hP hw hK
  obtain ⟨⟨f0,f1,s1,s6⟩,s2,⟨u0,v0,s3⟩,s4,s5⟩:=st
  obtain ⟨xs,ys,x,y,hx,hy,ex,ey⟩:=hg
  obtain ⟨xt,rx,px,_⟩:=I.list hx
  obtain ⟨yt,ry,py,_⟩:=I.list hy
  obtain ⟨u,hu,ru⟩:=rx.get ex
  obtain ⟨v,hv,rv⟩:=ry.get ey
  have hTy:s.TypeIs (.ref z) "zip" :=⟨_,s1,rfl⟩
  unfold pyNext
  refine wpAny_bind (wpAny_attempt (wpAny_callSpecial?_slot (name:=Str.ofString "__next__") hTy F.slot_zip_next (wpAny_call_entry F.slot_zip_next hTy F.entry_zip_next
   (IZ D s1 s6 s2 s3 s4 s5 px.isList py.isList (x:=u) (y:=v) (by simpa using hu) (by simpa using hv) fun h' f0 f1 a1 a6 a2 a3 a4 a5 hk=>wpAny_pure ?_) (F.args_zip_next_1 _))))
  refine ⟨_,rfl,RX (s:={ s with heap:=h' }) a1 a6 fun h'' f0 b1 b3 b2=>?_⟩
  have lt:∀ {c o},s.heap.get? c=some o→c≠s.heap.objs.size:=fun e=>Nat.ne_of_lt (Heap.lt_size e)
  have hT:H s.heap.objs.size=none:=I.hok.fresh (Nat.le_refl _)
  have zT:s.heap.objs.size≠z:=Ne.symm (lt s1)
  have I0:Inv X pins σ (upd H s.heap.objs.size (.tup [x,y])) { s with heap:=s.heap.push { cls:=.type "tuple",data:=.seq #[u,v]},toks:=s.toks }:=
   I.laid (fun b o e=>Heap.get?_push_of_some _ e) (Nat.le_refl _) ⟨by show 2≤sizeLine;decide,[u,v],.cons ru (.cons rv .nil),⟨_,Heap.get?_push_size _ rfl,rfl,_,rfl⟩⟩
  have ne:∀ b∈[z,TI,TO,i1,i2],b≠s.heap.objs.size:=fun b hb=>by
   simp only [List.mem_cons,List.mem_nil_iff,or_false] at hb
   rcases hb with rfl | rfl | rfl | rfl | rfl
   ·exact lt s1
   ·exact lt s2
   ·exact lt s3
   ·obtain ⟨o,e,_⟩:=s4;exact lt e
   ·obtain ⟨o,e,_⟩:=s5;exact lt e
  have fp:∀ b∈[z,TI,TO,i1,i2],gw X pins (upd H s.heap.objs.size (.tup [x,y])) b:=fun b hb=>⟨by rw [aU (ne b hb)];exact (hf b hb).1,(hf b hb).2⟩
  have I1:Inv X pins σ (upd H s.heap.objs.size (.tup [x,y])) { s with heap:=h'',toks:=s.toks }:=by
   refine wU (s:={ s with heap:=s.heap.push { cls:=.type "tuple",data:=.seq #[u,v]},toks:=s.toks }) (ch:=[z,TI,TO,i1,i2]) I0 (fun b o hb e=>?_) fp
   simp only [List.mem_cons,List.mem_nil_iff,or_false,not_or] at hb
   refine b2.extBut _ _ hb.1 ?_
   by_cases hT:b=s.heap.objs.size
   ·subst hT
    have e':(s.heap.push { cls:=.type "tuple",data:=.seq #[u,v]}).get? s.heap.objs.size=some o:=e
    rw [Heap.get?_push_size _ rfl] at e'
    cases e'
    exact a5
   ·refine hk b o hb.1 hb.2.2.1 hb.2.2.2.1 hb.2.2.2.2 ?_
    have e':(s.heap.push { cls:=.type "tuple",data:=.seq #[u,v]}).get? b=some o:=e
    rw [Heap.get?_push_ne _ _ _ hT] at e';exact e'
  refine ⟨.ref s.heap.objs.size,_,I1,rfl,⟨s.heap.objs.size,x,y,hT,rfl,rfl,fun xs' h=>by rw [I.oz h hx];exact ex,fun ys' h=>by rw [I.oz h hy];exact ey⟩,?_,fun b hb=>(fp b hb).1⟩
  exact ⟨⟨_,_,b1,b3⟩,b2.extBut _ _ D.TIz (hk _ _ D.TIz D.TITO D.TIi1 D.TIi2 s2),a2.imp fun _ z=>z.imp fun _ z=>b2.extBut _ _ D.TOz z,a3.extBut b2.extBut D.i1z,a4.extBut b2.extBut D.i2z⟩
 done:=by
  intro X hP hw hK hc i pins s σ H E I hf st hg
  subst hP hw hK
  obtain ⟨⟨f0,f1,s1,s6⟩,s2,⟨u0,v0,s3⟩,s4,s5⟩:=st
  obtain ⟨xs,ys,hx,hy,hl⟩:=hg
  obtain ⟨xt,rx,px,_⟩:=I.list hx
  obtain ⟨yt,ry,py,_⟩:=I.list hy
  have hl1:=rx.length
  have hl2:=ry.length
  have hTy:s.TypeIs (.ref z) "zip" :=⟨_,s1,rfl⟩
  unfold pyNext
  refine wpAny_bind (wpAny_attempt (wpAny_callSpecial?_slot (name:=Str.ofString "__next__") hTy F.slot_zip_next (wpAny_call_entry F.slot_zip_next hTy F.entry_zip_next
   (MD (I.ok.hd hc) D s1 s6 s2 s3 s4 s5 px.isList py.isList (hl.imp (fun z=>by simp;omega) fun z=>by simp;omega) fun h' e hk he=>?_) (F.args_zip_next_1 _))))
  obtain ⟨o,ho,hc⟩:=he
  refine wpAny_bind (wpAny_isInstance (T:="StopIteration") (b:=true) ⟨o,ho,hc⟩ isSubtype_stop (wpAny_pure ⟨rfl,?_⟩))
  refine wU (ch:=[z,TI,TO,i1,i2]) (t':=s.toks) I (fun b o hb e=>?_) hf
  simp only [List.mem_cons,List.mem_nil_iff,or_false,not_or] at hb
  exact hk b o hb.1 hb.2.2.1 hb.2.2.2.1 hb.2.2.2.2 e
 self:=fun _ _ _ _ _ st h=>by obtain ⟨f0,f1,s1,_⟩:=st.1;exact Ja s1 h
end Sm
set_option maxRecDepth 100000
namespace Sm
open PySem PySem.Spec PyProof.Rows L2 PySem.SeqAt
open Ev (D O Hh Fr R aP E Es Eo T S Ss Fl Src bZ bP TY BI ME)
theorem AG {h:Hh}{a b:List (Nat×List D)}(e:Ev.stays h (a++b)=true):Ev.stays h a=true∧Ev.stays h b=true:=by
 induction a with
 | nil=>exact ⟨rfl,e⟩
 | cons p a ih=>
  obtain ⟨n,ds⟩:=p
  simp only [List.cons_append,Ev.stays,Bool.and_eq_true] at e ⊢
  exact ⟨⟨e.1,(ih e.2).1⟩,(ih e.2).2⟩
theorem zip_get {a b:List D}{i:Nat}{d:D}(e:(Ev.dP a b)[i]?=some d):∃ x y,a[i]?=some x∧b[i]?=some y∧d=.tup [x,y]:=by
 unfold Ev.dP at e
 rw [List.getElem?_zipWith] at e
 split at e
 ·rename_i x y h1 h2;cases e;exact ⟨x,y,h1,h2,rfl⟩
 ·cases e
theorem MF {K:PySem.W.Frag}{r:List Addr}{H:Hp}{h:Hh}{n1 n2:Nat}{a1 a2:Addr}{ds es:List D}(z1:r[n1]?=some a1) (z2:r[n2]?=some a2):oH K r H (Ev.dP ds es,[(n1,ds)]++[(n2,es)]) (UG K a1 a2):=fun i H1 r1 h1 hr1 f1 st=>by
 obtain ⟨st1,st2⟩:=AG st
 obtain ⟨b1,vs,e1,e2,e3⟩:=hr1.read (mD st1)
 rw [f1.pre _ _ z1] at e1;cases e1
 obtain ⟨b2,ws,g1,g2,g3⟩:=hr1.read (mD st2)
 rw [f1.pre _ _ z2] at g1;cases g1
 refine ⟨fun d e=>?_,fun hl=>?_⟩
 ·obtain ⟨x,y,k1,k2,rfl⟩:=zip_get e
  obtain ⟨u,p1,p2⟩:=e3.get k1
  obtain ⟨v,q1,q2⟩:=g3.get k2
  refine ⟨⟨vs,ws,u,v,e2,g2,p1,q1⟩,fun X H2 y=>?_⟩
  obtain ⟨p,u',v',hp,rfl,rfl,hu,hv⟩:=y
  have UH:=hu vs e2
  rw [p1] at UH;cases UH
  have hv':=hv ws g2
  rw [q1] at hv';cases hv'
  exact ⟨r1,⟨p,[u,v],rfl,.of eL,.cons (p2.mono (.tup hp)) (.cons (q2.mono (.tup hp)) .nil)⟩,hr1.tup hp,.tup hp⟩
 ·refine ⟨vs,ws,e2,g2,?_⟩
  have:=e3.length
  have:=g3.length
  have hl':(Ev.dP ds es).length≤i:=hl
  simp only [Ev.dP,List.length_zipWith] at hl'
  omega
section
variable {G:Tb}{n:Nat}{sc:Scope}{N:List Str}{df:Bool}{m:List Nat}{a b c:E}{xa xb xc:Expr}{pos:Pos}
theorem MG {tg:Expr}{p:Pos}(ha:JE G n sc N df m a xa) (hb:JE G n sc N df m b xb) (hg:sc.names.lookup ("zip" : Str)=some .globalImplicit:=by rfl) (UI:("zip" : Str)∈G.bl:=by decide +kernel)
  (hst:∀ env:Env,starEach [xa,xb] env=[(false,eval xa env),(false,eval xb env)]:=by intro _;rfl) (oN:∀ env:Env,starEach [xb] env=[(false,eval xb env)]:=by intro _;rfl) :
  JI G n sc N df m (.zip a b) tg (.Call (.Name "zip" p) [xa,xb] [] pos):=fun X g=>by
 intro pins s σ H Rr I q
 obtain ⟨r,fr,h,src,h',sr,hr,e,q⟩:=q
 simp only [Ev.cy] at e
 replace e:=Ev.ah e;obtain ⟨x,h1,e1,e⟩:=e
 replace e:=Ev.ah e;obtain ⟨y,h2,e2,e⟩:=e
 replace e:=Ev.aK e;obtain ⟨e,y0⟩:=e;subst y0
 have MH:PA X [xa,xb] _:=jk (ha X g) (jk (hb X g) lY (oN _)) (by rw [hst,oN])
 refine Call_ (iO I (g.gl hg) (g.bl _ UI) (show bootBuiltins ("zip" : Str)=some (.type "zip") by decide +kernel) (PyProof.Rows.callWith_type1 (bB (MH pos pins s σ H (fun vs H1=>∃ r1 u v,vs=[u,v]∧RV X.K H1 r1 x u∧RV X.K H1 r1 y v∧HR X.K H1 r1 h'∧Fm X.K r r1 H H1) I ?_) fun us s1 z=>?_) (by rw [hst,oN]) (by rw [oN];rfl)))
 ·refine ⟨r,fr,h,x,h1,sr,hr,e1,fun u H1 r1 v1 hr1 f1=>?_⟩
  refine ⟨r1,fr,h1,y,h',sr.mono f1,hr1,e2,fun v H2 r2 v2 hr2 f2=>?_⟩
  exact ⟨r2,u,v,rfl,v1.mono f2,v2,hr2,f1.trans f2⟩
 ·obtain ⟨vs,H1,I1,rv,r1,u,v,rfl,v1,v2,hr1,f1⟩:=z
  simp only [Option.bind_eq_some_iff,Option.map_eq_some_iff] at e
  obtain ⟨s1',k1,s2',k2,rfl⟩:=e
  cases x <;> simp only [Ev.oG,reduceCtorEq,Option.map_eq_some_iff] at k1
  rename_i n1
  obtain ⟨ds,k1,rfl⟩:=k1
  cases y <;> simp only [Ev.oG,reduceCtorEq,Option.map_eq_some_iff] at k2
  rename_i n2
  obtain ⟨es,k2,rfl⟩:=k2
  obtain ⟨a1,rfl,z1⟩:=v1.shape
  obtain ⟨a2,rfl,z2⟩:=v2.shape
  obtain ⟨b1,xs,w1,w2,w3⟩:=hr1.read k1
  rw [z1] at w1;cases w1
  obtain ⟨b2,ys,w4,w5,w6⟩:=hr1.read k2
  rw [z2] at w4;cases w4
  cases rv with
  | cons ra rb=>
  cases rb with
  | cons rb rc=>
  cases rc
  cases ra
  cases rb
  obtain ⟨xt,_,px,_⟩:=I1.list w2
  obtain ⟨yt,_,py,_⟩:=I1.list w5
  refine call_zip_2 px.isList py.isList fun hp c1 c2 c3 c4 c5 c6 c7=>?_
  have I2:Inv X pins σ H1 { s1 with heap:=hp,toks:=s1.toks }:=I1.kept c7
  have l1:a1<s1.heap.objs.size:=by obtain ⟨o,e,_⟩:=px.isList;exact Heap.lt_size e
  have l2:a2<s1.heap.objs.size:=by obtain ⟨o,e,_⟩:=py.isList;exact Heap.lt_size e
  refine wpAny_pyIter_zip c1 ⟨_,[s1.heap.objs.size+4,s1.heap.objs.size+2,s1.heap.objs.size+3,s1.heap.objs.size,s1.heap.objs.size+1],_,_,H1,rfl,I2,C3 ?_,⟨⟨_,_,c1,.inl rfl⟩,c2,⟨_,_,c3⟩,c4,c5⟩,fun b hb=>?_,q _ H1 r1 hr1 f1 (MF (h:=h') z1 z2)⟩
  ·constructor <;> (intro z;have z2:@Eq Nat _ _:=z;have l1n:@LT.lt Nat _ a1 s1.heap.objs.size:=l1;have l2n:@LT.lt Nat _ a2 s1.heap.objs.size:=l2;omega)
  ·have hb':s1.heap.objs.size≤b:=by
    simp only [List.mem_cons,List.mem_nil_iff,or_false] at hb
    rcases hb with rfl | rfl | rfl | rfl | rfl
    ·exact Nat.le_add_right _ _
    ·exact Nat.le_add_right _ _
    ·exact Nat.le_add_right _ _
    ·exact Nat.le_refl _
    ·exact Nat.le_add_right _ _
   exact I1.xU hb' (I1.hok.fresh hb')
end
end Sm
set_option maxRecDepth 100000
namespace Sm
open PySem PySem.Spec PyProof.Rows L2 PySem.SeqAt
open Ev (D O Hh Fr R aP E Es Eo T S Ss Fl Src bZ bP TY BI ME)
noncomputable def qM:List (D×D)→Bool
 | []=>true
 | (.str k,.str v) :: r=>decide (v.length≤1000)&&qM r
 | _=>false
theorem uu {s:List Nat}{r:D}:∀ {kvs:List (D×D)},qM kvs=true→Ev.eT (.str s) kvs=some r→∃ t,r=.str t∧t.length≤1000∧PySem.Spec.lookup (.str (aN s)) (tabOf kvs)=some (.str (aN t))
 | [],_,e=>by simp [Ev.eT] at e
 | (k,v) :: l,ha,e=>by
  cases k <;> cases v <;> simp only [qM,Bool.false_eq_true,Bool.and_eq_true,decide_eq_true_eq] at ha
  rename_i k v
  simp only [Ev.eT] at e
  rw [show Ev.fS [] 1 (.str k) (.str s)=some (k==s) from rfl] at e
  simp only [tabOf,PySem.Spec.lookup]
  by_cases h:k=s
  ·subst h
   simp at e
   subst e
   refine ⟨v,rfl,ha.1,?_⟩
   have:PySem.Spec.same (.str (aN k)) (.str (aN k))=true:=by rw [PyProof.V.same_str];simp
   rw [this];rfl
  ·have hb:(k==s)=false:=by simpa using h
   rw [hb] at e
   simp only at e
   obtain ⟨t,h1,h2,h3⟩:=uu ha.2 e
   refine ⟨t,h1,h2,?_⟩
   have:PySem.Spec.same (.str (aN k)) (.str (aN s))=false:=by
    rw [PyProof.V.same_str]
    simp
    exact fun z=>h (qE z)
   rw [this]
   exact h3
theorem uv {y r:D}:∀ {kvs:List (D×D)},qM kvs=true→Ev.eT y kvs=some r→∃ s,y=.str s
 | [],_,e=>by simp [Ev.eT] at e
 | (k,v) :: l,ha,e=>by
  cases k <;> cases v <;> simp only [qM,Bool.false_eq_true,Bool.and_eq_true,decide_eq_true_eq] at ha
  cases y with
  | str s=>exact ⟨s,rfl⟩
  | ref a=>cases e
  | _=>first | exact uv ha.2 e | cases e
section
variable {G:Tb}{n:Nat}{sc:Scope}{N:List Str}{df:Bool}{m:List Nat}{a b c:E}{xa xb xc:Expr}{pos:Pos}
theorem Jb {x:Str}{kvs:List (D×D)}{p:Pos}(hm:(x,kvs)∈G.dk) (ha:JE G n sc N df m a xa) (hk:qM kvs=true:=by decide) (hg:sc.names.lookup x=some .globalImplicit:=by rfl) (hd:(x==("__debug__" : Str))=false:=by decide) (hs:qB xa:=by intro _ _;rfl) :
  JE G n sc N df m (.iV kvs a) (.Subscript (.Name x p) xa pos):=fun X g=>by
 intro pins s σ H Q I q
 obtain ⟨r,fr,h,d,h',sr,hr,e,q⟩:=q
 simp only [Ev.ev] at e
 replace e:=Ev.ah e;obtain ⟨y,h1,e1,e⟩:=e
 replace e:=Ev.aK e;obtain ⟨e,y0⟩:=e;subst y0
 obtain ⟨ad,hmg,htab⟩:=g.dk x kvs hm
 refine Subscript_ (xY (HL (v:=.ref ad) (g.gl hg) hmg rfl hd) (ha X g) I (R:=fun x' y' H2=>x'=.ref ad∧∃ r1,RV X.K H2 r1 y y'∧HR X.K H2 r1 h'∧Fm X.K r r1 H H2) ?_ fun v u s2 x' y' H2 I2 rx ry z=>?_)
 ·refine ⟨r,fr,h,y,h',sr,hr,e1,fun v H1 r1 v1 hr1 f1=>⟨rfl,r1,v1,hr1,f1⟩⟩
 ·obtain ⟨rfl,r1,v1,hr1,f1⟩:=z
  obtain rfl:v=Value.ref ad:=rx
  have hy:∃ sx,y=.str sx:=uv hk e
  obtain ⟨sx,rfl⟩:=hy
  obtain ⟨t,rfl,ht,hl⟩:=uu hk e
  simp only [RV] at v1
  obtain ⟨rfl,_⟩:=v1
  obtain ⟨tk,rfl⟩:=ry
  refine item_strTab (htab s2.heap I2.q8) hl (fun v hv=>?_) (hs _ _)
  obtain ⟨t2,rfl⟩:=PyProof.V.Flat.str_inv hv
  exact ⟨.str (aN t),H2,I2.tok _,⟨t2,rfl⟩,q _ H2 r1 ⟨rfl,Nat.le_trans ht (by rw [sizeLine_eq];decide)⟩ hr1 f1⟩
end
end Sm
set_option maxRecDepth 100000
namespace Sm
open PySem PySem.Spec PyProof.Rows L2 PySem.SeqAt
open Ev (D O Hh Fr R aP E Es Eo T S Ss Fl Src bZ bP TY BI ME)
section
variable {X:Cx}{G:Tb}{n:Nat}{sc:Scope}{N:List Str}{df:Bool}{m:List Nat}{a b c:E}{xa xb xc xd tg:Expr}{pos:Pos}
end
end Sm
set_option maxRecDepth 100000
namespace Rv
open PySem PyProof.Rows
theorem mE:Manifest.owners.lookup (String.ofList ['d','e','s','r','e','v','e','r'].reverse)=some Manifest.sig_reversed:=by kernel_rfl
theorem slot_next:Slot "reversed" "__next__" "reversed.__next__" :=
 .of (owner:="reversed") (n:="__next__") (by rw [typeLookup_type,builtinLookup_eq_fast];kernel_rfl) (by decide +kernel) (by decide +kernel) (by decide +kernel)
  (by first | exact .inl (by decide +kernel) | exact .inr (by decide +kernel)) (by rw [isSubtype_type];kernel_rfl)
theorem entry_next:entryFor table "reversed.__next__" = some Builtin.«reversed.__next__»:=entryFor_of_tree (by kernel_rfl)
theorem args_next (a:Value):argsOk "reversed.__next__" ⟨[a],[]⟩:=by
 unfold argsOk;rw [signature?_of (id:="reversed.__next__") (n:=['_','_','t','x','e','n','_','_']) (o:=['d','e','s','r','e','v','e','r']) (by kernel_rfl) mE];kernel_rfl
theorem rX:Slot "reversed" "__iter__" "reversed.__iter__" :=
 .of (owner:="reversed") (n:="__iter__") (by rw [typeLookup_type,builtinLookup_eq_fast];kernel_rfl) (by decide +kernel) (by decide +kernel) (by decide +kernel)
  (by first | exact .inl (by decide +kernel) | exact .inr (by decide +kernel)) (by rw [isSubtype_type];kernel_rfl)
theorem AH (a:Value):argsOk "reversed.__iter__" ⟨[a],[]⟩:=by
 unfold argsOk;rw [signature?_of (id:="reversed.__iter__") (n:=['_','_','r','e','t','i','_','_']) (o:=['d','e','s','r','e','v','e','r']) (by kernel_rfl) mE];kernel_rfl
theorem yF:entryFor table "reversed.__iter__" = some Builtin.«dict_keyiterator.__iter__»:=
 entryFor_alias (id':="dict_keyiterator.__iter__") (by kernel_rfl) (by first | rfl | decide +kernel | (unfold String.splitOn;simp +decide [String.splitOnAux])) (by decide +kernel) (by kernel_rfl)
theorem mF:Slot "reversed" "__length_hint__" "reversed.__length_hint__" :=
 .of (owner:="reversed") (n:="__length_hint__") (by rw [typeLookup_type,builtinLookup_eq_fast];kernel_rfl) (by decide +kernel) (by decide +kernel) (by decide +kernel)
  (by first | exact .inl (by decide +kernel) | exact .inr (by decide +kernel)) (by rw [isSubtype_type];kernel_rfl)
theorem yG:entryFor table "reversed.__length_hint__" = some Builtin.«reversed.__length_hint__»:=entryFor_of_tree (by kernel_rfl)
theorem AI (a:Value):argsOk "reversed.__length_hint__" ⟨[a],[]⟩:=by
 unfold argsOk;rw [signature?_of (id:="reversed.__length_hint__") (n:=['_','_','t','n','i','h','_','h','t','g','n','e','l','_','_']) (o:=['d','e','s','r','e','v','e','r']) (by kernel_rfl) mE];kernel_rfl
theorem MI:typeLookup (.type "reversed") "__len__" = pure none:=by rw [typeLookup_type,builtinLookup_eq_fast];kernel_rfl
theorem MJ:typeLookup (.type "tuple") "__reversed__" = pure none:=by rw [typeLookup_type,builtinLookup_eq_fast];kernel_rfl
section
variable {prog:Program}{w:World}{A:Around}{E:Value→Shared→Prop}{s:Shared}
theorem AJ:Slot "reversed" "__init__" "object.__init__" :=
 .of (owner:="object") (n:="__init__") (by rw [typeLookup_type,builtinLookup_eq_fast];kernel_rfl) (by decide +kernel) (by decide +kernel) (by decide +kernel)
  (by first | exact .inl (by decide +kernel) | exact .inr (by decide +kernel)) (by rw [isSubtype_type];kernel_rfl)
theorem called:TypeCalled "reversed" "reversed.__new__" "object.__init__" :=
 ⟨by decide +kernel,by decide +kernel,⟨_,_,F.mro_reversed⟩,F.made_reversed,by decide +kernel,F.sub_reversed_self,AJ⟩
noncomputable def gx (h:Heap) (a t:Addr) (i:Int):Prop:=∃ o,h.get? a=some o∧o.cls=.type "reversed" ∧o.data=.fields #[.ref t,rawInt i]
theorem gx.typeIs {a l:Addr}{i:Int}(x:gx s.heap a l i):s.TypeIs (.ref a) "reversed" :=let ⟨o,ho,hc,_⟩:=x;⟨o,ho,hc⟩
theorem gx.at {h h':Heap}{a l:Addr}{i:Int}(x:gx h a l i) (e:∀ o,h.get? a=some o→h'.get? a=some o):gx h' a l i:=let ⟨o,ho,r⟩:=x;⟨o,e _ ho,r⟩
noncomputable def m8 (l:Addr) (i:Int):Obj:={ cls:=.type "reversed",data:=.fields #[.ref l,rawInt i]}
theorem m9 {h h':Heap}{t:Addr}{items:Array Value}(x:IsTup h t items) (e:∀ o,h.get? t=some o→h'.get? t=some o):IsTup h' t items:=let ⟨o,ho,r⟩:=x;⟨o,e _ ho,r⟩
theorem C4 {t:Addr}{items:Array Value}{Q₁:Value→Shared→Prop}(ht:IsTup s.heap t items) (hfit:(items.size:Int)<2 ^ 63)
  (h:Q₁ (.ref s.heap.objs.size) { s with heap:=s.heap.push (m8 t ((items.size:Int) - 1)),toks:=s.toks+1+1 }) :
  codeAny (model prog w) A (.call (.builtin "reversed.__new__") ⟨[.type "reversed",.ref t],[]⟩) (wants Q₁ E) s:=by
 refine codeAny_of_tree ?_
 show wpAny _ A.in1 (do checkBuiltinCall "reversed.__new__" ⟨[.type "reversed",.ref t],[]⟩;again (.builtin "reversed.__new__" ⟨[.type "reversed",.ref t],[]⟩)) _ _ s
 refine wpAny_bind (wpAny_of_eq (F.newCall_reversed_1 _) (wpAny_pure ⟨plainId_quiet F.plain_reversed_new _,codeAny_builtin F.entry_reversed_new ?_⟩))
 rw [Around.under_plainId F.plain_reversed_new _]
 unfold Builtin.«reversed.__new__»
 refine wpAny_bind (wpAny_of_eq (newClass_reversed _) ?_)
 try dsimp only
 refine wpAny_bind (wpAny_of_eq (a:=()) (by first | rfl | kernel_rfl) ?_)
 refine wpAny_bind (wpAny_of_eq (a:=()) (by first | rfl | kernel_rfl) ?_)
 try dsimp only
 refine wpAny_bind (wpAny_specialOf ht.typeIs MJ ?_)
 try dsimp only
 refine wpAny_bind ?_
 wp_delta
 refine wpAny_bind (wpAny_isInstance (T:="tuple") (b:=false) ht.typeIs (by rw [isSubtype_type];kernel_rfl) ?_)
 refine wpAny_ite_split (fun hab=>absurd hab (by decide)) (fun _=>?_)
 refine wpAny_bind (wpAny_specialOf ht.typeIs slot_tuple_getitem.lookup ?_)
 try dsimp only
 refine wpAny_ite_split (fun _=>?_) (fun hab=>absurd (by decide) hab)
 refine wpAny_pure ?_
 refine wpAny_ite_split (fun hab=>absurd hab (by decide)) (fun _=>?_)
 refine wpAny_bind (len_tuple ht hfit ?_)
 refine wpAny_bind (m:=asInt? _) (wpAny_pure ?_)
 try dsimp only
 refine wpAny_bind (m:=Builtin.SmallTypes.newRecord _ _) ?_
 unfold Builtin.SmallTypes.newRecord
 refine wpAny_newObj_type ?_ (by size_fits)
 exact wpAny_pure h
theorem C5 {t:Addr}{items:Array Value}{Q:Value→Shared→Prop}(ht:IsTup s.heap t items) (hfit:(items.size:Int)<2 ^ 63)
  (h:Q (.ref s.heap.objs.size) { s with heap:=s.heap.push (m8 t ((items.size:Int) - 1)),toks:=s.toks+1+1 }):wpAny (model prog w) A (call (.type "reversed") [.ref t]) Q E s:=by
 refine callType_codes (Q₁:=fun obj s₁=>obj=.ref s.heap.objs.size∧s₁={ s with heap:=s.heap.push (m8 t ((items.size:Int) - 1)),toks:=s.toks+1+1 }) called (F.typeCall_reversed_1 _) F.entry_object_init (C4 ht hfit ⟨rfl,rfl⟩) ?_
 rintro obj s₁ ⟨rfl,rfl⟩
 have hT:({ s with heap:=s.heap.push (m8 t ((items.size:Int) - 1)),toks:=s.toks+1+1 }:Shared).TypeIs (.ref s.heap.objs.size) "reversed" :=⟨_,Heap.get?_push_size _ rfl,rfl⟩
 refine ⟨hT,F.args_object_init_2 _ _,?_⟩
 exact object_init_meets (self:=Value.ref s.heap.objs.size) (rest:=[Value.ref t]) called.init.lookup called.made (by decide) prog w A.in1 _ _ ⟨hT,rfl,h⟩
theorem next_item {it t:Addr}{i:Nat}{items:Array Value}{x:Value}{Q:Option Value→Shared→Prop}(hit:gx s.heap it t (i:Int)) (ht:IsTup s.heap t items) (hx:items[i]?=some x) (hfit:(items.size:Int)<2 ^ 62)
  (hQ:∀ h' tk,gx h' it t ((i:Int) - 1)→Heap.SameBut it s.heap h'→Q (some x) { s with heap:=h',toks:=tk }):wpAny (model prog w) A (pyNext (.ref it)) Q E s:=by
 obtain ⟨o,ho,hc,hd⟩:=id hit
 have hi:i<items.size:=(Array.getElem?_eq_some_iff.mp hx).1
 unfold pyNext
 refine wpAny_bind (wpAny_attempt (wpAny_callSpecial?_slot (name:=Str.ofString "__next__") hit.typeIs slot_next
  (wpAny_call_entry slot_next hit.typeIs entry_next ?_ (args_next _))))
 unfold Builtin.«reversed.__next__»
 refine wpAny_bind (wpAny_of_eq (a:=(Value.ref it,[])) rfl ?_)
 try dsimp only
 refine wpAny_bind (wpAny_field ho hd (x:=.ref t) rfl ?_)
 refine wpAny_bind (wpAny_field ho hd (x:=rawInt (i:Int)) rfl ?_)
 show wpAny _ _ (if (i:Int)<0 then _ else _) _ _ s
 rw [if_neg (by omega)]
 try dsimp only
 refine wpAny_bind (wpAny_specialOf ht.typeIs slot_tuple_getitem.lookup ?_)
 try dsimp only
 refine wpAny_ite_split (fun hab=>absurd hab (by decide)) (fun _=>?_)
 refine wpAny_bind (wpAny_mkInt ?_)
 refine wpAny_bind (wpAny_attempt (getItem_tuple (j:=i) ht (by omega) (by omega) (by unfold seqIndex?;simp;omega) hx ?_))
 try dsimp only
 refine wpAny_bind (wpAny_field ho hd (x:=rawInt (i:Int)) rfl ?_)
 show wpAny _ _ (setField (.ref it) 1 (rawInt ((i:Int) - 1)) >>= _) _ _ _
 refine wpAny_bind (wpAny_setField ho hd (by simp) ?_)
 refine wpAny_pure ⟨x,rfl,wpAny_pure (hQ _ _ ?_ (Heap.SameBut.update ..))⟩
 exact ⟨_,Heap.get?_update_self _ ho (Obj.isFreed_of_fields (Obj.data_mapFields hd _)),(Obj.cls_mapFields ..).trans hc,by
  rw [Obj.data_mapFields hd];simp⟩
theorem next_end {it t:Addr}{Q:Option Value→Shared→Prop}(hh:A.handled=none) (hit:gx s.heap it t (-1))
  (hQ:∀ h',Heap.ExtBut it s.heap h'→Q none { s with heap:=h' }):wpAny (model prog w) A (pyNext (.ref it)) Q E s:=by
 obtain ⟨o,ho,hc,hd⟩:=id hit
 unfold pyNext
 refine wpAny_bind (wpAny_attempt (wpAny_callSpecial?_slot (name:=Str.ofString "__next__") hit.typeIs slot_next
  (wpAny_call_entry slot_next hit.typeIs entry_next ?_ (args_next _))))
 unfold Builtin.«reversed.__next__»
 refine wpAny_bind (wpAny_of_eq (a:=(Value.ref it,[])) rfl ?_)
 try dsimp only
 refine wpAny_bind (wpAny_field ho hd (x:=.ref t) rfl ?_)
 refine wpAny_bind (wpAny_field ho hd (x:=rawInt (-1)) rfl ?_)
 show wpAny _ _ (if (-1:Int)<0 then _ else _) _ _ s
 rw [if_pos (by decide)]
 refine wpAny_bind (wpAny_rule ?_)
 refine wpAny_bind ?_
 wp_delta
 refine wpAny_bind (wpAny_setField ho hd (by simp) ?_)
 have ho2:=Heap.get?_update_self (Obj.mapFields fun x=>x.setIfInBounds 1 (rawInt (-1))) ho (Obj.isFreed_of_fields (Obj.data_mapFields hd _))
 refine wpAny_setField ho2 (Obj.data_mapFields hd _) (by simp) ?_
 refine wpAny_bind ?_
 unfold Builtin.SmallTypes.stopIteration
 first
 | show wpAny _ _ (newExc (.type "StopIteration") [] >>= _) _ _ _
 | (refine wpAny_bind ?_;show wpAny _ _ (newExc (.type "StopIteration") [] >>= _) _ _ _)
 refine wpAny_bind ?_
 simp only [newExc,newTuple]
 refine wpAny_bind (wpAny_newObj_type ?_ (by size_fits))
 refine wpAny_bind (m:=firstArgMember _ _) (wpAny_of_eq (a:=Value.none) (by first | rfl | (simp only [firstArgMember];rfl)) ?_)
 refine wpAny_newObj_type ?_ (by size_fits)
 simp only [raiseNew]
 refine wpAny_bind (wpAny_handled ?_)
 first | rw [show A.in1.handled=none from hh] | rw [hh]
 refine wpAny_bind (wpAny_pure (wpAny_throw ?_))
 refine wpAny_bind (wpAny_isInstance (T:="StopIteration") (b:=true) ⟨_,Heap.get?_push_size _ rfl,rfl⟩ isSubtype_stop ?_)
 exact wpAny_pure (hQ _ ((((Heap.SameBut.update ..).extBut.trans (Heap.SameBut.update ..).extBut).push _).push _))
theorem uw {it t:Addr}{i:Int}{Q:Value→Shared→Prop}(hit:gx s.heap it t i) (h:Q (.ref it) s):wpAny (model prog w) A (pyIter (.ref it)) Q E s:=by
 refine wpAny_pyIter_slot hit.typeIs rX (wpAny_call_entry rX hit.typeIs yF ?_ (AH _))
 show wpAny _ _ (ret (.ref it)) _ _ s
 exact wpAny_pure ⟨_,rfl,"reversed",_,hit.typeIs,slot_next.lookup,h⟩
theorem C6 {it t:Addr}{items:Array Value}{Q:Bool→Shared→Prop}(hit:gx s.heap it t ((items.size:Int) - 1)) (ht:IsTup s.heap t items) (hfit:items.size≤sizeLine)
  (h:∀ tk,Q ((items.size:Int) != 0) { s with toks:=tk }):wpAny (model prog w) A (Builtin.List.listLengthHint (.ref it)) Q E s:=by
 obtain ⟨o,ho,hc,hd⟩:=id hit
 unfold Builtin.List.listLengthHint
 refine wpAny_bind (wpAny_specialOf hit.typeIs MI ?_)
 refine wpAny_ite_split (fun hab=>absurd hab (by decide +kernel)) (fun _=>?_)
 refine wpAny_ite_split (fun hab=>absurd hab (by decide)) (fun _=>?_)
 refine wpAny_bind (wpAny_specialOf hit.typeIs mF.lookup ?_)
 generalize hid:("reversed.__length_hint__" : String)=ZO
 dsimp only
 rw [show splitId ZO=some ("reversed","__length_hint__") from by subst hid;decide +kernel]
 subst hid
 dsimp only
 refine wpAny_bind (wpAny_isInstance (T:="reversed") (b:=true) hit.typeIs (by rw [isSubtype_type];kernel_rfl) ?_)
 refine wpAny_ite_split (fun hab=>absurd hab (by decide)) (fun _=>?_)
 refine wpAny_ite_split (fun hab=>absurd hab (by decide +kernel)) (fun _=>?_)
 refine wpAny_bind (wpAny_rule ?_)
 refine wpAny_bind (wpAny_of_eq (mF.bind _) ?_)
 refine wpAny_bind (wpAny_attempt (wpAny_call_entry mF hit.typeIs yG ?_ (AI _)))
 unfold Builtin.«reversed.__length_hint__»
 refine wpAny_bind (wpAny_of_eq (a:=Value.ref it) rfl ?_)
 refine wpAny_bind (wpAny_field ho hd (x:=.ref t) rfl ?_)
 refine wpAny_ite_split (fun hab=>absurd hab Bool.false_ne_true) (fun _=>?_)
 have hf2:(items.size:Int)<2 ^ 63:=by rw [sizeLine_eq] at hfit;omega
 refine wpAny_bind (len_tuple ht hf2 ?_)
 refine wpAny_bind (m:=asInt? _) (wpAny_pure ?_)
 refine wpAny_bind (wpAny_field ho hd (x:=rawInt ((items.size:Int) - 1)) rfl ?_)
 show wpAny _ _ (if (items.size:Int)<(items.size:Int) - 1+1 then _ else _) _ _ _
 rw [if_neg (by omega)]
 have e1:(items.size:Int) - 1+1=(items.size:Int):=by omega
 rw [e1]
 unfold retInt
 refine wpAny_bind (wpAny_mkInt (wpAny_pure ⟨_,rfl,?_⟩))
 generalize s.toks+1+1=tk
 show wpAny _ _ (asInt? (Value.int (items.size:Int) tk) >>= _) _ _ _
 refine wpAny_bind ?_
 refine wpAny_pure (a:=some (items.size:Int)) ?_
 have ZP:Builtin.List.listFitsIndex (items.size:Int)=true:=by unfold Builtin.List.listFitsIndex;rw [decide_eq_true (by omega),decide_eq_true (by omega)];rfl
 show wpAny _ _ (if (!Builtin.List.listFitsIndex (items.size:Int))=true then _ else _) _ _ _
 rw [if_neg (by rw [ZP];decide)]
 show wpAny _ _ (if (items.size:Int)<0 then _ else _) _ _ _
 rw [if_neg (by omega)]
 have ZQ:Builtin.List.listTooLong ((items.size:Int).toNat)=false:=by unfold Builtin.List.listTooLong;rw [Int.toNat_natCast];exact decide_eq_false (by omega)
 show wpAny _ _ (if Builtin.List.listTooLong ((items.size:Int).toNat)=true then _ else _) _ _ _
 rw [if_neg (by rw [ZQ];decide)]
 exact wpAny_pure (h _)
theorem _root_.PySem.Walks.MK (hh:A.handled=none) (I t:Addr) (hne:t≠I) (items:Array Value) (hfit:(items.size:Int)<2 ^ 62) :
  Walks prog w A I [I,t] [I] items.size (fun i v=>items[items.size - 1 - i]?=some v) (fun i h=>i≤items.size∧gx h I t ((items.size:Int) - 1 - (i:Int))∧IsTup h t items) where
 sub:=fun b hb=>by simp at hb;simp [hb]
 frame:=fun _ _ _ x hk=>⟨x.1,x.2.1.at fun o e=>hk I (by simp) o e,m9 x.2.2 fun o e=>hk t (by simp) o e⟩
 item:=fun i s Q E hi x hQ=>by
  have e:(items.size:Int) - 1 - (i:Int)=((items.size - 1 - i:Nat):Int):=by omega
  have hit:=x.2.1
  rw [e] at hit
  have hx:items[items.size - 1 - i]?=some (items[items.size - 1 - i]'(by omega)):=Array.getElem?_eq_getElem (by omega)
  refine next_item hit x.2.2 hx hfit fun h' tk ML hs'=>?_
  have e2:((items.size - 1 - i:Nat):Int) - 1=(items.size:Int) - 1 - ((i+1:Nat):Int):=by omega
  rw [e2] at ML
  exact hQ _ h' tk hx ⟨hi,ML,m9 x.2.2 fun o eo=>(hs'.2 t hne).trans eo⟩ fun b o hb eo=>hs'.extBut b o (fun h=>hb (by simp [h])) eo
 done:=fun s Q E x hQ=>by
  have e:(items.size:Int) - 1 - (items.size:Int) = -1:=by omega
  have hit:=x.2.1
  rw [e] at hit
  exact next_end hh hit fun h' he'=>hQ h' s.toks fun b o hb eo=>he' b o (fun h=>hb (by simp [h])) eo
 self:=fun _ _ _ _ x hQ=>uw x.2.1 hQ
theorem yH {R:Result→Shared→Prop}{I t:Addr}{items:Array Value}(hh:A.handled=none) (hit:gx s.heap I t ((items.size:Int) - 1)) (ht:IsTup s.heap t items) (hne:t≠I) (hlen:items.size≤sizeLine)
  (S:Addr) (hSI:S≠I) (hSt:S≠t) (res:Value) (c₀:Nat) (hS:s.heap.get? S=some { cls:=.type "list",data:=.seq #[] c₀ })
  (hR:∀ h' tk acc' c',(∀ b o,b≠S→b≠I→s.heap.get? b=some o→h'.get? b=some o)→h'.get? S=some { cls:=.type "list",dict:=none,data:=.seq acc' c',slots:=#[]}→
   ItemsOf (fun i v=>items[items.size - 1 - i]?=some v) acc' items.size→R (.ok (.ret res)) { s with heap:=h',toks:=tk }) :
  wpAny (model prog w) A.in1 (Builtin.List.listExtendWith (.ref S) (.ref I) res)
   (fun fin s'=>match fin with | .done f=>R (.ok f) s' | .again c'=>c'.quiet=true∧codeAny (model prog w) A c' R s') (fun e s'=>R (.error e) s') s:=by
 have hf:(items.size:Int)<2 ^ 62:=by rw [sizeLine_eq] at hlen;omega
 have hSf:S∉[I,t]:=fun hm=>by rcases List.mem_cons.mp hm with e | e;exact hSI e;exact hSt (List.mem_singleton.mp e)
 have W:=(Walks.MK (prog:=prog) (w:=w) (A:=A.in1) hh I t hne items hf).toS
 have key:∀ (h:Heap) (c₁ tk:Nat),gx h I t ((items.size:Int) - 1 - ((0:Nat):Int))→IsTup h t items→(∀ b o,b≠S→s.heap.get? b=some o→h.get? b=some o)→
   h.get? S=some { cls:=.type "list",data:=.seq #[] c₁ }→codeAny (model prog w) A (.builtin "list.extend.loop" ⟨[.ref S,.ref I,res],[]⟩) R { s with heap:=h,toks:=tk }:=by
  intro h c₁ tk hit ht hk RY
  refine codeAny_extend_loopS W hlen S hSf res items.size 0 _ #[] c₁ rfl (Nat.zero_le _) ⟨Nat.zero_le _,hit,ht⟩ RY (ItemsOf.nil _) fun s' acc' c' hm hS' hacc=>?_
  rw [Moved.eq_with hm]
  refine hR s'.heap s'.toks acc' c' (fun b o hb hb2 e=>hm.heap b o (fun hmem=>?_) (hk b o hb e)) hS' hacc
  rcases List.mem_cons.mp hmem with e' | hmem
  ·exact hb e'
  ·exact hb2 (List.mem_singleton.mp hmem)
 unfold Builtin.List.listExtendWith
 refine wpAny_bind (wpAny_typeOf (T:="reversed") hit.typeIs ?_)
 have h1:Builtin.List.listSameRef (.ref S) (.ref I)=false:=by simp [Builtin.List.listSameRef,hSI]
 have h2:(Value.type "reversed" ==Value.type "list")=false:=by decide
 have h3:(Value.type "reversed" ==Value.type "tuple")=false:=by decide
 simp only [h1,h2,h3,Bool.or_false,Bool.false_eq_true,if_false]
 refine wpAny_bind (uw hit ?_)
 refine wpAny_bind (wpAny_holding (C6 hit ht hlen fun tk=>?_))
 have MM:gx s.heap I t ((items.size:Int) - 1 - ((0:Nat):Int)):=by simpa using hit
 refine wpAny_ite_split (fun _=>?_) (fun _=>wpAny_pure ⟨plainId_quiet F.plain_extend_loop _,key _ c₀ _ MM ht (fun b o _ e=>e) hS⟩)
 refine wpAny_bind (wpAny_rule ?_)
 refine wpAny_bind ?_
 show wpAny _ _ (updateSeq S (·.push .none) >>= fun _=>updateSeq S (·.pop)) _ _ _
 refine wpAny_bind (wpAny_updateSeq hS rfl ?_)
 have sJ:=Heap.get?_update_self (Obj.mapSeq (·.push Value.none)) hS rfl
 refine wpAny_updateSeq (hz:=by seq_fits) sJ rfl ?_
 have RZ:=Heap.get?_update_self (Obj.mapSeq (·.pop)) sJ rfl
 have ot:∀ b o,b≠S→s.heap.get? b=some o→((s.heap.update S (Obj.mapSeq (·.push Value.none))).update S (Obj.mapSeq (·.pop))).get? b=some o:=fun b o hb e=>(Heap.get?_update_other _ _ (Ne.symm hb)).trans ((Heap.get?_update_other _ _ (Ne.symm hb)).trans e)
 exact wpAny_pure ⟨plainId_quiet F.plain_extend_loop _,key _ _ _ (MM.at fun o e=>ot _ _ (Ne.symm hSI) e) (m9 ht fun o e=>ot _ _ (Ne.symm hSt) e) ot RZ⟩
theorem C7 {R:Result→Shared→Prop}{I t:Addr}{items:Array Value}(hh:A.handled=none) (hit:gx s.heap I t ((items.size:Int) - 1)) (ht:IsTup s.heap t items) (hne:t≠I) (hlen:items.size≤sizeLine)
  (S:Addr) (hSI:S≠I) (hSt:S≠t) (hS:s.heap.get? S=some { cls:=.type "list",data:=.seq #[]})
  (hR:∀ h' tk acc' c',(∀ b o,b≠S→b≠I→s.heap.get? b=some o→h'.get? b=some o)→h'.get? S=some { cls:=.type "list",dict:=none,data:=.seq acc' c',slots:=#[]}→
   ItemsOf (fun i v=>items[items.size - 1 - i]?=some v) acc' items.size→R (.ok (.ret .none)) { s with heap:=h',toks:=tk }) :
  wpAny (model prog w) A.in1 (Builtin.«list.__init__» ⟨[.ref S,.ref I],[]⟩)
   (fun fin s'=>match fin with | .done f=>R (.ok f) s' | .again c'=>c'.quiet=true∧codeAny (model prog w) A c' R s') (fun e s'=>R (.error e) s') s:=by
 show wpAny _ _ (do let old ←Builtin.List.listItems (.ref S);Builtin.List.listUpdate (.ref S) (fun _=>#[]);letGo old.toList.reverse;Builtin.List.listExtendWith (.ref S) (.ref I) .none) _ _ s
 refine wpAny_bind ?_
 unfold Builtin.List.listItems
 refine wpAny_bind (wpAny_seqItems hS rfl (wpAny_pure ?_))
 show wpAny _ _ (updateSeq S (fun _=>#[]) >>= fun _=>letGo (#[]:Array Value).toList.reverse >>= fun _=>Builtin.List.listExtendWith (.ref S) (.ref I) .none) _ _ s
 refine wpAny_bind (wpAny_updateSeq hS rfl ?_)
 have sJ:=Heap.get?_update_self (Obj.mapSeq (fun _=>(#[]:Array Value))) hS rfl
 have MN:∀ b o,b≠S→s.heap.get? b=some o→(s.heap.update S (Obj.mapSeq (fun _=>(#[]:Array Value)))).get? b=some o:=
  fun b o hb e=>(Heap.get?_update_other _ _ (Ne.symm hb)).trans e
 refine wpAny_bind (wpAny_letGo ?_)
 refine yH hh (hit.at fun o e=>MN _ _ (Ne.symm hSI) e) (m9 ht fun o e=>MN _ _ (Ne.symm hSt) e) hne hlen S hSI hSt .none _ sJ fun h' tk acc' c' hk hS' hacc=>?_
 exact hR h' tk acc' c' (fun b o hb hb2 e=>hk b o hb hb2 (MN b o hb e)) hS' hacc
theorem sA {Q:Value→Shared→Prop}{I t:Addr}{items:Array Value}(hh:A.handled=none) (hit:gx s.heap I t ((items.size:Int) - 1)) (ht:IsTup s.heap t items) (hne:t≠I) (hlen:items.size≤sizeLine)
  (hQ:∀ h' tk acc' c',(∀ b o,b≠I→s.heap.get? b=some o→h'.get? b=some o)→
   h'.get? s.heap.objs.size=some { cls:=.type "list",dict:=none,data:=.seq acc' c',slots:=#[]}→ItemsOf (fun i v=>items[items.size - 1 - i]?=some v) acc' items.size→Q (.ref s.heap.objs.size) { s with heap:=h',toks:=tk }) :
  wpAny (model prog w) A (call (.type "list") [.ref I]) Q E s:=by
 refine callType_codes (Q₁:=fun obj s₁=>obj=.ref s.heap.objs.size∧s₁={ s with heap:=s.heap.push { cls:=.type "list",data:=.seq #[]}}) F.called_list (F.typeCall_list_1 _) F.entry_list_init
  (code_list_new _ ⟨rfl,rfl⟩) fun obj s₁ h₁=>?_
 obtain ⟨rfl,rfl⟩:=h₁
 have hS:(s.heap.push { cls:=.type "list",data:=.seq #[]}).get? s.heap.objs.size=some { cls:=.type "list",data:=.seq #[]}:=Heap.get?_push_size _ rfl
 have hI:I<s.heap.objs.size:=by obtain ⟨o,ho,_⟩:=hit;exact Heap.lt_size ho
 have hT:t<s.heap.objs.size:=by obtain ⟨o,ho,_⟩:=ht;exact Heap.lt_size ho
 refine ⟨⟨_,hS,rfl⟩,F.args_list_init_2 _ _,C7 (A:=A.in1) hh (hit.at fun o e=>Heap.get?_push_of_some _ e) (m9 ht fun o e=>Heap.get?_push_of_some _ e) hne hlen _ (Nat.ne_of_gt hI) (Nat.ne_of_gt hT) hS fun h' tk acc' c' hk hS' hacc=>?_⟩
 exact ⟨rfl,hQ h' tk acc' c' (fun b o hb e=>hk b o (Nat.ne_of_lt (Heap.lt_size e)) hb (Heap.get?_push_of_some _ e)) hS' hacc⟩
end
end Rv
namespace Sm
open PySem PySem.Spec PyProof.Rows L2 PySem.SeqAt
open Ev (D O Hh Fr R aP E Es Eo T S Ss Fl Src bZ bP TY BI ME)
section
variable {X:Cx}{G:Tb}{n:Nat}{sc:Scope}{N:List Str}{df:Bool}{m:List Nat}{a b c:E}{xa xb xc tg:Expr}{pos:Pos}
theorem C8 {vs:List V}{us:List Value}(r:Vals vs us) {acc:Array Value}(h:ItemsOf (fun i v=>us.toArray[us.toArray.size - 1 - i]?=some v) acc us.toArray.size):Vals vs.reverse acc.toList:=by
 obtain ⟨h1,h2⟩:=h
 have e:acc.toList=us.reverse:=by
  apply List.ext_getElem?
  intro i
  by_cases hi:i<us.length
  ·have ha:i<acc.size:=by rw [h1];simpa using hi
   have:=h2 i _ (Array.getElem?_eq_getElem ha)
   rw [List.getElem?_reverse hi]
   simp only [List.size_toArray,List.getElem?_toArray] at this
   rw [this]
   simp [ha]
  ·have hs:acc.size=us.length:=by rw [h1];simp
   rw [List.getElem?_eq_none (by rw [Array.length_toList];omega),List.getElem?_eq_none (by rw [List.length_reverse];omega)]
 rw [e];exact Vals.reverse r
theorem Jc {p p2 pos2:Pos}(ha:JE G n sc N df m a xa) (h1:("list" : Str)∈G.bl:=by decide +kernel) (uo:sc.names.lookup ("list" : Str)=some .globalImplicit:=by rfl)
  (hg:sc.names.lookup ("reversed" : Str)=some .globalImplicit:=by rfl) (hb:("reversed" : Str)∈G.bl:=by decide +kernel)
  (hst:∀ env:Env,starEach [xa] env=[(false,eval xa env)]:=by intro _;rfl)
  (uq:∀ env:Env,starEach [Expr.Call (.Name "reversed" p2) [xa] [] pos2] env=[(false,eval (Expr.Call (.Name "reversed" p2) [xa] [] pos2) env)]:=by intro _;rfl) :
  JE G n sc N df m (.ee (.rev a)) (.Call (.Name "list" p) [.Call (.Name "reversed" p2) [xa] [] pos2] [] pos):=fun X g=>by
 intro pins s σ H Q I q
 obtain ⟨r,fr,h,d,h',sr,hr,e,q⟩:=q
 rw [Ev.ev,Ev.cy] at e
 replace e:=Ev.ah e;obtain ⟨src,h3,e1,e⟩:=e
 replace e1:=Ev.ah e1;obtain ⟨x,h4,e2,e1⟩:=e1
 replace e1:=Ev.aK e1;obtain ⟨e1,y0⟩:=e1;subst y0
 refine wpAny_Call_Name_kw (iO I (g.gl uo) (g.bl _ h1) (show bootBuiltins ("list" : Str)=some (.type "list") by decide +kernel) ?_ (by decide) (by decide))
 refine PyProof.Rows.callWith_type1 ?_ (uq _) rfl
 rw [uq]
 show wpAny _ _ (spliced ((false,eval (Expr.Call (.Name "reversed" p2) [xa] [] pos2) X.env) :: backTo pos [])) _ _ s
 refine Calls.spliced_cons ?_
 have MH:PA X [xa] _:=jk (ha X g) lY (by rw [hst];rfl)
 refine Call_ (iO I (g.gl hg) (g.bl _ hb) (show bootBuiltins ("reversed" : Str)=some (.type "reversed") by decide +kernel) (PyProof.Rows.callWith_type1 (bB (MH pos2 pins s σ H (fun vs H1=>∃ r1 u,vs=[u]∧RV X.K H1 r1 x u∧HR X.K H1 r1 h3∧Fm X.K r r1 H H1) I ⟨r,fr,h,x,h3,sr,hr,e2,fun u H1 r1 v1 hr1 f1=>⟨r1,u,rfl,v1,hr1,f1⟩⟩) fun us s1 z=>?_) (hst _) rfl))
 obtain ⟨vs,H1,I1,rv,r1,u,rfl,v1,hr1,f1⟩:=z
 cases x <;> simp only [Ev.CK,Option.map,reduceCtorEq] at e1
 rename_i ds
 cases e1
 obtain ⟨t,ws,rfl,z,w⟩:=v1.shape
 cases rv with
 | cons ra rb=>
 cases rb
 cases ra
 obtain ⟨its,pv,pt,hz⟩:=I1.tuple z
 have hlen:its.toArray.size≤sizeLine:=by rw [List.size_toArray,←pv.length];exact hz
 have hf:(its.toArray.size:Int)<2 ^ 63:=by rw [sizeLine_eq] at hlen;omega
 refine Rv.C5 pt hf ?_
 refine Calls.spliced_nil ?_
 have I2:Inv X pins σ H1 { s1 with heap:=s1.heap.push (Rv.m8 t ((its.toArray.size:Int) - 1)),toks:=s1.toks+1+1 }:=I1.kept fun b o e=>Heap.get?_push_of_some _ e
 have hne:t≠s1.heap.objs.size:=by obtain ⟨o,ho,_⟩:=pt;exact Nat.ne_of_lt (Heap.lt_size ho)
 refine Rv.sA (I1.ok.hd g.calm) ⟨_,Heap.get?_push_size _ rfl,rfl,rfl⟩ (Rv.m9 pt fun o e=>Heap.get?_push_of_some _ e) hne hlen fun h' tk acc' c' hk hS' hacc=>?_
 obtain ⟨hz2,q2⟩:=(q.later f1).lst e w.reverse hr1
 have hp:s1.heap.objs.size≤(s1.heap.push (Rv.m8 t ((its.toArray.size:Int) - 1))).objs.size:=by rw [size_push'];exact Nat.le_succ _
 refine ⟨.ref _,_,I1.laid (t':=tk) (o:=.lst ws.reverse) (fun b u e=>hk b u (Nat.ne_of_lt (Heap.lt_size e)) (Heap.get?_push_of_some _ e)) hp ?_,rfl,q2 _ (I1.hok.fresh hp)⟩
 exact ⟨by simpa using hz,acc'.toList,c',C8 pv hacc,by simpa using hS'⟩
end
end Sm
set_option maxRecDepth 100000
set_option maxRecDepth 100000
namespace Sm
open PySem PySem.Spec PyProof.Rows L2 PySem.SeqAt
open Ev (D O Hh Fr R aP E Es Eo T S Ss Fl Src bZ bP TY BI ME)
theorem insI_perm (x:Int):∀ l,(Ev.insI x l).Perm (x :: l)
 | []=>.refl _
 | y :: l=>by
  unfold Ev.insI
  split
  ·exact .refl _
  ·exact ((insI_perm x l).cons y).trans (.swap x y l)
theorem sortI_perm:∀ l,(Ev.sortI l).Perm l
 | []=>.refl _
 | x :: l=>(insI_perm x _).trans ((sortI_perm l).cons x)
theorem nV (x:Int):∀ {l},l.Pairwise (·≤·)→(Ev.insI x l).Pairwise (·≤·)
 | [],_=>List.pairwise_singleton _ _
 | y :: l,h=>by
  unfold Ev.insI
  obtain ⟨h1,h2⟩:=List.pairwise_cons.mp h
  split
  ·rename_i hx
   exact List.pairwise_cons.mpr ⟨fun z hz=>by
    rcases List.mem_cons.mp hz with rfl | hz
    ·exact hx
    ·exact Int.le_trans hx (h1 z hz),h⟩
  ·rename_i hx
   refine List.pairwise_cons.mpr ⟨fun z hz=>?_,nV x h2⟩
   rcases List.mem_cons.mp ((insI_perm x l).mem_iff.mp hz) with rfl | hz
   ·omega
   ·exact h1 z hz
theorem mG:∀ l,(Ev.sortI l).Pairwise (·≤·)
 | []=>.nil
 | x :: l=>nV x (mG l)
theorem yI {l m:List Int}(h:m.Perm l) (s:m.Pairwise (·≤·)):m=Ev.sortI l:=
 (h.trans (sortI_perm l).symm).eq_of_pairwise (fun a b _ _ h1 h2=>Int.le_antisymm h1 h2) s (mG l)
theorem wW:∀ {us:List Value}{is:List Int},IntsAre us is→Vals (is.map V.int) us
 | _,_,.nil=>.nil
 | _,_,.cons _ _ h=>.cons ⟨_,rfl⟩ (wW h)
theorem aH.MO {K:PySem.W.Frag}{H:Hp}{r:List Addr}:∀ {ss:List Int},aH K H r (ss.map D.int) (ss.map V.int)
 | []=>.nil
 | l :: ss=>.cons rfl aH.MO
end Sm
set_option maxRecDepth 100000
namespace Sm
open PySem PySem.Spec PyProof.Rows L2 PySem.SeqAt
open Ev (D O Hh Fr R aP E Es Eo T S Ss Fl Src bZ bP TY BI ME)
theorem uy {kvs:List (Key×Value)}{ns:List Int}(hk:kvs.map (·.1)=ns.map Sum.inl) {P:Program}{w:World}:∀ {vs:List Value},vs.length=kvs.length→(∀ (j:Nat) v,vs[j]?=some v→∃ k x,kvs[j]?=some (k,x)∧(cE P w).is k v=true)→IntsAre vs ns:=by
 induction kvs generalizing ns with
 | nil=>
  intro vs hl _
  have:ns=[]:=by cases ns with | nil=>rfl | cons n ns=>simp at hk
  subst this
  rw [List.eq_nil_of_length_eq_zero hl];exact .nil
 | cons p kvs ih=>
  intro vs hl hv
  cases ns with
  | nil=>simp at hk
  | cons n ns=>
   simp only [List.map_cons,List.cons.injEq] at hk
   cases vs with
   | nil=>simp at hl
   | cons v vs=>
    obtain ⟨k,x,e1,e2⟩:=hv 0 v rfl
    simp at e1
    subst e1
    have hkn:k=Sum.inl n:=hk.1
    subst hkn
    have e3:Value.isInt n v=true:=e2
    obtain ⟨t,rfl⟩:∃ t,v=.int n t:=by
     cases v <;> simp [Value.isInt] at e3
     exact ⟨_,by rw [e3]⟩
    refine .cons n t (ih hk.2 (by simpa using hl) fun j u hu=>?_)
    obtain ⟨k',x',e4,e5⟩:=hv (j+1) u (by simpa using hu)
    exact ⟨k',x',by simpa using e4,e5⟩
theorem vO {prog:Program}{w:World}{A:Around}{E:Value→Shared→Prop}{s:Shared}{d:Addr}{kvs:List (Key×Value)}{ns:List Int}{Q:Value→Shared→Prop}(hd:s.heap.DictOf (cE prog w) d kvs) (lo:(d==sysModules)=false) (hh:A.handled=none) (hk:kvs.map (·.1)=ns.map Sum.inl) (h64:kvs.length<64)
  (h:∀ (h1 h2:Heap) (tk:Nat) (out:Array Value) (ns':List Int) (e:Nat),(∀ b o,s.heap.get? b=some o→h1.get? b=some o)→(∀ b o,h1.get? b=some o→h2.get? b=some o)→h2.get? h1.objs.size=some (seqObj "list" out e)→IntsAre out.toList ns'→ns'.Perm ns→ns'.Pairwise (·≤·)→Q (.ref h1.objs.size) { s with heap:=h2,toks:=tk }) :
  wpAny (model prog w) A (call (.builtin "sorted") [.ref d]) Q E s:=by
 obtain ⟨ep,hat⟩:=hd.dictAt
 have hsz:kvs.length≤sizeLine:=Nat.le_trans (Nat.le_of_lt h64) (by decide)
 refine Calls.call_function_entry kind_sorted plain_sorted entry_sorted (args_sorted1 _) ?_
 unfold Builtin.«sorted»
 refine wpAny_bind (m:=checkCount "sorted" 1 1 _) (wpAny_pure ?_)
 refine wpAny_bind (PySem.W.kdu_collect (A:=A.in1) (PySem.W.kdl_dict (knd:=cE prog w) (kvs:=kvs) (ep:=ep) lo) hh hat hsz fun h' tk acc hk' hacc=>?_)
 have hl:acc.toList.length=kvs.length:=by rw [Array.length_toList];exact hacc.1
 refine wpAny_bind (wpAny_newList ?_ (by rw [hl];exact hsz))
 have hI:IntsAre acc.toList ns:=uy hk hl fun j v e=>hacc.2 j v (by rw [←Array.getElem?_toList];exact e)
 have zL:(h'.push (seqObj "list" acc.toList.toArray 0)).get? h'.objs.size=some (seqObj "list" acc.toList.toArray 0):=Heap.get?_push_size _ rfl
 refine wpAny_bind (wpAny_holding (wpAny_call_entry slot_list_sort ⟨_,zL,rfl⟩ entry_list_sort (list_sort_tree zL hI (by rw [hl];exact h64) fun out ns' a1 a2 a3=>⟨_,rfl,?_⟩) (args_list_sort _)))
 obtain ⟨e,he⟩:=sortedHeap_at (out:=out) zL
 exact wpAny_pure ⟨_,rfl,h h' _ tk out ns' e hk' (fun b o e2=>by
  have lt:=Heap.lt_size e2
  rw [sortedHeap_old (Nat.ne_of_lt lt) (by rw [size_push'];exact Nat.lt_succ_of_lt lt),Heap.get?_push_ne _ _ _ (Nat.ne_of_lt lt)];exact e2) he a1 a2 a3⟩
theorem wX:∀ {kvs:List (Int×List Nat)}{vs:List (Key×Value)},KV (fO kvs) vs→vs.map (·.1)=(kvs.map (·.1)).map Sum.inl∧vs.length=kvs.length
 | [],vs,h=>by cases h;exact ⟨rfl,rfl⟩
 | p :: kvs,vs,h=>by
  cases h with
  | cons h1 h2=>
   obtain ⟨e1,e2⟩:=wX h2
   exact ⟨by simp only [List.map_cons,e1,←h1.1],by simp [e2]⟩
theorem C9 {X:Cx}(hc:X.calm=true):fR X (.builtin "sorted") (tX X.K (Ev.cX .jK)):=by
 intro pins s σ H xs us Q I r q
 obtain ⟨rr,h,as,d,h',hr,v1,e,q⟩:=q
 match as,e with
 | [x],e=>
  delta Ev.cX at e;dsimp only at e
  cases hx:Ev.fT h x with
  | none=>rw [hx] at e;cases e
  | some kvs=>
   rw [hx] at e
   dsimp only at e
   by_cases h64:kvs.length<64
   ·rw [if_pos h64] at e
    obtain ⟨n,rfl,z⟩:=kO hx
    obtain ⟨p,z1,z2,z3⟩:=hr.dct z
    simp only [aH,RV] at v1
    obtain ⟨v,w,rfl,⟨p',rfl,z4⟩,rfl⟩:=v1
    rw [z1] at z4;cases z4
    obtain ⟨u,rfl,ru⟩:=vals1 r
    cases ru
    obtain ⟨_,lo,vs,kv,hd⟩:=Fe I.hok z2
    obtain ⟨k1,k2⟩:=wX kv
    refine vO hd lo (I.ok.hd hc) k1 (by rw [k2];exact h64) fun h1 h2 tk out ns' e2 c1 c2 c3 a1 a2 a3=>?_
    have hq:=yI a2 a3
    subst hq
    obtain ⟨hz2,q2⟩:=q.lst e aH.MO hr
    have I1:Inv X pins σ H { s with heap:=h1,toks:=tk }:=I.kept c1
    refine ⟨.ref h1.objs.size,_,I1.laid (t':=tk) (o:=.lst ((Ev.sortI (kvs.map (·.1))).map V.int)) c2 (Nat.le_refl _) ?_,rfl,q2 _ (I1.hok.fresh (Nat.le_refl _))⟩
    exact ⟨hz2,out.toList,e2,wW a1,by simpa [seqObj] using c3⟩
   ·rw [if_neg h64] at e;cases e
end Sm
set_option maxRecDepth 100000
namespace Sm
open PySem PySem.Spec PyProof.Rows L2 PySem.SeqAt
open Ev (D O Hh Fr R aP E Es Eo T S Ss Fl Src bZ bP TY BI ME)
section
variable {G:Tb}{n:Nat}{sc:Scope}{N:List Str}{df:Bool}{m:List Nat}{a b c:E}{xa xb xc:Expr}{pos:Pos}
end
end Sm
set_option maxRecDepth 100000
namespace Sm
open PySem PySem.Spec PyProof.Rows L2 PySem.SeqAt
open Ev (D O Hh Fr R aP E Es Eo T S Ss Fl Src bZ bP TY BI ME)
theorem aH.ofInts {K:PySem.W.Frag}{H:Hp}{r:List Addr}:∀ ns:List Int,aH K H r (ns.map D.int) (ns.map V.int)
 | []=>.nil
 | _ :: l=>.cons rfl (aH.ofInts l)
theorem MP {K:PySem.W.Frag}{H:Hp}{a:Addr}{vs:List V}(hO:qC H) (hS:dJ K H a vs):yk K H a vs:=by
 rcases hS with h | h
 ·rcases h with h | ⟨o,h⟩
  ·rcases hO a with q | ⟨o,xs,q⟩
   ·rw [q] at h;cases h
   ·rw [q] at h;cases h
  ·exact .inl ⟨o,h⟩
 ·exact .inr h
theorem R0 {K:PySem.W.Frag}{F:List Ev.Fn}{w n f:Nat}{H:Hp}{a:Addr}{ns:List Int}(hO:qC H) (hS:dJ K H a (ns.map V.int)) {h':Hh}(e:Ev.run F w n f [.ref 0] [.bU (ns.map D.int)]=.ok (.bl true) h') :
  nP K F w n f [.ref a] H (fun v _=>v=.bl true) fun _ _ _=>False:=by
 refine ⟨[a],[.bU (ns.map D.int)],[.ref 0],.bl true,h',.cons (show RV K H [a] (.ref 0) (.ref a) from ⟨a,rfl,rfl⟩) .nil,⟨rfl,fun k o hk=>?_,fun k l b x y _ _ hk _=>?_
  ,fun k l b x y _ _ hk _=>by cases k with | zero=>simp at hk | succ k=>simp at hk
  ⟩,e,fun v H' r' v1 _ _=>v1⟩
 ·cases k with
  | zero=>
   simp at hk
   subst hk
   exact ⟨a,rfl,_,MP hO hS,aH.ofInts ns⟩
  | succ k=>simp at hk
 ·cases k with
  | zero=>simp at hk
  | succ k=>simp at hk
theorem Jd {F:List Ev.Fn}{wh n f:Nat}{l:PySem.W.OpenLaw}{q:Program}{loose:List Str}{XP:(Str→Option Value)→Heap→Prop}{YP:World→Heap→Prop}{d:DefRec}{K:Params→PySem.W.Frag}{x:Str}(hn:l.most=some 63) (hdf:d.params.defaults=[]) (hr:fN n callerA)
  (hY:∀ (w:World) (h:Heap),YP w h→(K w.params).In h) (good:∀ ns:List Int,ns.length≤63→∃ h',Ev.run F wh n f [.ref 0] [.bU (ns.map D.int)]=.ok (.bl true) h')
  (Fo:∀ (w:World) (mg:Str→Option Value) (fa:Addr) (h:Heap),(K w.params).In h→h.Ns mainGlobals mg→mg d.name=some (.ref fa)→
   ∃ fd:FuncData,(∀ (s:Shared) (u:Value),BindsTo s fd ⟨[u],[]⟩ [(x,u)])∧∀ base:Heap,(K w.params).In base→base.Ns mainGlobals mg→iB l.prog w (K w.params) mg base mq n fa fd [x] (nP (K w.params) F wh n f)) :
  PySem.W.WalkO q loose XP YP l.row.toRowW d [] (fun f vs=>PySem.call f vs):=
 L2.CC (n:=63) (k:=n) (x:=x) (CX:=mq) (sp:=fun K=>nP K F wh n f) hn (by decide) hdf hr hY Fo (fun K H a ns hl hO hS=>by
  obtain ⟨h',e⟩:=good ns hl
  exact R0 hO hS e) fun _ _ _ _ z=>z
theorem AK {P:Program}{w:World}{K:PySem.W.Frag}{mg:Str→Option Value}{base:Heap}{G:Tb}(T:Top P w K mg G)
  (st:∀ n,sI P w K mg base G n→sI P w K mg base G (n+1)):∀ n,sI P w K mg base G n
 | 0=>fun f i _=>IB
 | n+1=>st n (AK T st n)
structure At (K:PySem.W.Frag) (x:Str) (st:Stmt) (i:FI):Prop where
 name:i.name=x
 ns:PySem.W.nsIn K mainGlobals x=some (some (.ref i.addr))
 fu:tR K x x st i.addr i.fd
 bd:Binds K i.fd i.ps []
end Sm
set_option maxRecDepth 100000
namespace Sm
open PySem PySem.Spec PyProof.Rows L2
open Ev (D O Hh Fr R aP E Es Eo It T S Ss Fl Src bZ bP TY BI ME)
section
variable {G:Tb}{n:Nat}{sc:Scope}{N:List Str}{df:Bool}{m:List Nat}{a b c:E}{xa xb xc:Expr}{pos:Pos}
noncomputable def hasB (N:List Str) (m:List Nat) (x:Str) (i:Nat):Bool:=(List.range N.length).any fun j=>m[j]?==some i&&N[j]?==some x
theorem hasB.of {x:Str}{i:Nat}(h:hasB N m x i=true):∃ j:Nat,m[j]?=some i∧N[j]?=some x:=by
 obtain ⟨j,_,q⟩:=List.any_eq_true.mp h
 rw [Bool.and_eq_true] at q
 exact ⟨j,by simpa using q.1,by simpa using q.2⟩
noncomputable def vB (sc:Scope) (N:List Str) (m:List Nat) (x:Str) (i:Nat):Bool:=hasB N m x i&&(sc.names.lookup x==some .local || sc.names.lookup x==some .cell || sc.names.lookup x==some .free)&&!(x==("__debug__" : Str))&&!(x==("__classdict__" : Str))
theorem jv {x:Str}{i:Nat}(h:vB sc N m x i=true):JE G n sc N df m (.v i) (.Name x pos):=by
 unfold vB at h
 simp only [Bool.and_eq_true,Bool.not_eq_true',Bool.or_eq_true] at h
 obtain ⟨⟨⟨h1,h2⟩,h3⟩,h4⟩:=h
 obtain ⟨j,e1,e2⟩:=hasB.of h1
 exact Xb j i e1 e2 (by rcases h2 with (h2 | h2) | h2;exact .inl (by simpa using h2);exact .inr (.inl (by simpa using h2));exact .inr (.inr (by simpa using h2))) h3 h4
noncomputable def gB (sc:Scope) (N:List Str) (df:Bool) (m:List Nat) (x:Str) (i:Nat):Bool:=hasB N m x i&&(sc.names.lookup x==some .local || (df&&sc.names.lookup x==some .cell))&&decide m.Nodup&&decide N.Nodup
theorem gB.of {x:Str}{i:Nat}(h:gB sc N df m x i=true):∃ j:Nat,m[j]?=some i∧N[j]?=some x∧(sc.names.lookup x=some .local∨(df=true∧sc.names.lookup x=some .cell))∧m.Nodup∧N.Nodup:=by
 unfold gB at h
 simp only [Bool.and_eq_true,Bool.or_eq_true] at h
 obtain ⟨⟨⟨h1,h2⟩,h3⟩,h4⟩:=h
 obtain ⟨j,e1,e2⟩:=hasB.of h1
 exact ⟨j,e1,e2,by rcases h2 with h2 | ⟨h2,h5⟩;exact .inl (by simpa using h2);exact .inr ⟨h2,by simpa using h5⟩,of_decide_eq_true h3,of_decide_eq_true h4⟩
theorem ZR {x:Str}{i:Nat}(h:gB sc N df m x i=true):JG G n sc N df m (.one i) (.Name x pos):=by
 obtain ⟨j,e1,e2,e3,e4,e5⟩:=gB.of h
 exact LY j i e4 e5 e1 e2 e3
theorem ZS {x:Str}{i:Nat}{l:List Nat}{xs:List Expr}(h:gB sc N df m x i=true) (hs:rL G n sc N df m l xs):rL G n sc N df m (i :: l) (.Name x pos :: xs):=by
 obtain ⟨j,e1,e2,e3,e4,e5⟩:=gB.of h
 exact CM j i e4 e5 hs e1 e2 e3
theorem Xl {i:Nat}{x:Str}{pos':Pos}(h:gB sc N df m x i=true) (ha:JE G n sc N df m a xa) (hs:∀ env:Env,swapsWith xa (some (.Name x pos')) pos.line env=pure false:=by intro _;rfl):JS G n sc N df m (.set i a) (.Assign [.Name x pos'] xa pos):=by
 obtain ⟨j,e1,e2,e3,e4,e5⟩:=gB.of h
 exact LZ j i e4 e5 ha hs e1 e2 e3
noncomputable def UJ (sc:Scope) (x:Str):Bool:=sc.names.lookup x==some .globalImplicit&&!(x==("__debug__" : Str))
theorem ZT {f:Nat}{i:FI}{es:Es}{x:Str}{e0:Expr}{xs:List Expr}{p:Pos}(h:UJ sc x=true) (hf:G.fi[f]?=some i) (hx:i.name=x) (hs:JA G n sc N df m es (e0 :: xs))
  (hst:∀ env:Env,starEach (e0 :: xs) env=(false,eval e0 env) :: starEach xs env:=by intro _;rfl) (hpl:∀ env:Env,(backTo pos (starEach xs env)).any (·.1)=false:=by intro _;rfl) :
  JE G n sc N df m (.cl f es) (.Call (.Name x p) (e0 :: xs) [] pos):=by
 subst hx
 unfold UJ at h
 simp only [Bool.and_eq_true,Bool.not_eq_true'] at h
 exact RN hf hs (by simpa using h.1) h.2 hst hpl
noncomputable def ZU:Expr→List Str
 | .Name x _=>[x]
 | .Tuple xs _ _=>xs.filterMap fun y=>match y with | .Name x _=>some x | _=>none
 | _=>[]
noncomputable def UK (N:List Str) (m:List Nat) (scope:Scope):List (Str×Nat):=(N.zip m).filter fun p=>scope.names.contains (p.1,NameKind.free)
noncomputable def cN (N:List Str) (m:List Nat) (scope:Scope) (tg:Expr):List Str:=ZU tg++(UK N m scope).map (·.1)
noncomputable def cM (N:List Str) (m:List Nat) (scope:Scope) (t:T):List Nat:=Ev.slots t++(UK N m scope).map (·.2)
theorem R1 {elt:E}{t:T}{it:Ev.It}{cond:Eo}{tg xi xe:Expr}{ifs:List Expr}{scope:Scope}(hn:pF sc N m scope t (cN N m scope tg) (cM N m scope t)=true) (hs:Fq sc scope=true)
  (hi:JI G n sc N df m it tg xi) (hg:JG G n (eY sc scope) (cN N m scope tg) false (cM N m scope t) t tg) (hc:JC G n (eY sc scope) (cN N m scope tg) false (cM N m scope t) cond ifs)
  (he:JE G n (eY sc scope) (cN N m scope tg) false (cM N m scope t) elt xe) (hf:∀ (env:Env) x,foldedSetIterable xi env x=pure x:=by intro _ _;rfl):JE G n sc N df m (.comp elt t it cond) (.ListComp xe [⟨tg,xi,ifs,0⟩] scope pos):=
 wJ hi hg hc he (namesOk.of hn) (jY.of hs) hf
theorem R3 {i:Nat}{x:Str}{pos' cpos:Pos}{elt:E}{t:T}{it:Ev.It}{cond:Eo}{tg xi xe:Expr}{ifs:List Expr}{scope:Scope}(h:gB sc N df m x i=true) (hn:pF sc N m scope t (cN N m scope tg) (cM N m scope t)=true) (hs:Fq sc scope=true)
  (hi:JI G n sc N df m it tg xi) (hg:JG G n (eY sc scope) (cN N m scope tg) false (cM N m scope t) t tg) (hc:JC G n (eY sc scope) (cN N m scope tg) false (cM N m scope t) cond ifs)
  (he:JE G n (eY sc scope) (cN N m scope tg) false (cM N m scope t) elt xe) (hf:∀ (env:Env) x,foldedSetIterable xi env x=pure x:=by intro _ _;rfl) :
  JS G n sc N df m (.set i (.comp elt t it cond)) (.Assign [.Name x pos'] (.ListComp xe [⟨tg,xi,ifs,0⟩] scope cpos) pos):=by
 obtain ⟨j,e1,e2,e3,e4,e5⟩:=gB.of h
 exact IL j i e4 e5 hi hg hc he (namesOk.of hn) (jY.of hs) e1 e2 e3 hf
theorem Xm {rest:List Expr}(ha:JT G n sc N df m a xa) (hb:JW G n sc N df m b (.BoolOp .And (xb :: rest) pos)):JT G n sc N df m (.an a b) (.BoolOp .And (xa :: xb :: rest) pos):=LM (Fg ha hb)
theorem Xn {rest:List Expr}(ha:JT G n sc N df m a xa) (hb:JW G n sc N df m b (.BoolOp .Or (xb :: rest) pos)):JT G n sc N df m (.orr a b) (.BoolOp .Or (xa :: xb :: rest) pos):=LM (Ag ha hb)
noncomputable def allB (G:Tb) (n:Nat):List (Ss×Stmt×List Str)→Prop
 | []=>True
 | p :: r=>lQ G n (aq p.2.1) p.2.2 true (List.range p.2.2.length) p.1 (aF p.2.1)∧allB G n r
theorem allB.get:∀ {l:List (Ss×Stmt×List Str)}{k:Nat}{p:Ss×Stmt×List Str},allB G n l→l[k]?=some p→lQ G n (aq p.2.1) p.2.2 true (List.range p.2.2.length) p.1 (aF p.2.1)
 | [],_,_,_,e=>nomatch e
 | _ :: _,0,_,h,e=>by cases e;exact h.1
 | _ :: r,k+1,p,h,e=>allB.get (l:=r) (k:=k) h.2 (by simpa using e)
end
end Sm
namespace Pv
open Ev (D bZ bP TY BI ME T E Es Eo It S Ss Fn big deep b2i rep cz dM bL aR cut cJ d8 slots)
theorem nd {α:Type _}{a b:α}(h:a=b):a=b:=h
inductive V where
 | bD | bl (b:Bool) | int (i:Int) | str (s:List Nat) | tup (l:List V) | lst (l:List V) | bU (l:List V)
 | dct (kvs:List (Int×List Nat))
inductive Sl where
 | val (v:V) | own (l:List V) | bor (l:List V) | ro (l:List V)
abbrev Fr:=List (Option Sl)
inductive R (α:Type) where
 | ok (a:α) (fr:Fr)
 | bad
noncomputable def R.bind {α β:Type}(r:R α) (f:α→Fr→R β):R β:=
 match r with
 | .ok a h=>f a h
 | .bad=>.bad
@[simp] theorem ak {α β:Type} (a:α) (h:Fr) (f:α→Fr→R β):(R.ok a h).bind f=f a h:=nd rfl
@[simp] theorem CJ {α β:Type} (f:α→Fr→R β):(R.bad:R α).bind f=.bad:=nd rfl
theorem ah {α β:Type}{r:R α}{f:α→Fr→R β}{b:β}{h:Fr}(e:r.bind f=.ok b h):∃ a h1,r=.ok a h1∧f a h1=.ok b h:=by
 cases r with
 | ok a h1=>exact ⟨a,h1,rfl,e⟩
 | bad=>cases e
noncomputable def R.of {α:Type}(o:Option α) (h:Fr):R α:=match o with
 | some a=>.ok a h
 | none=>.bad
@[simp] theorem cY {α:Type} (a:α) (h:Fr):R.of (some a) h=.ok a h:=nd rfl
@[simp] theorem of_none {α:Type} (h:Fr):R.of (none:Option α) h=.bad:=nd rfl
theorem aK {α:Type}{o:Option α}{h h':Fr}{a:α}(e:R.of o h=.ok a h'):o=some a∧h'=h:=by
 cases o with
 | none=>cases e
 | some b=>cases e;exact ⟨rfl,rfl⟩
inductive Fl where
 | nx | bk | ct | ret (v:V)
mutual
noncomputable def ofD:D→Option V
 | .bD=>some .bD
 | .bl b=>some (.bl b)
 | .int i=>some (.int i)
 | .str s=>some (.str s)
 | .tup ds=>(uz ds).map .tup
 | .ref _=>none
noncomputable def uz:List D→Option (List V)
 | []=>some []
 | d :: ds=>(ofD d).bind fun v=>(uz ds).map fun vs=>v :: vs
end
noncomputable def cF (f:V→V→Option Bool):List V→List V→Option Bool
 | [],[]=>some true
 | x :: xs,y :: ys=>(f x y).bind fun b=>(cF f xs ys).bind fun c=>some (b&&c)
 | _,_=>some false
noncomputable def ef:Nat→V→V→Option Bool
 | 0,_,_=>none
 | _+1,.bD,_=>none
 | _+1,.bl _,_=>none
 | _+1,_,.bD=>none
 | _+1,_,.bl _=>none
 | _+1,.int a,.int b=>some (a==b)
 | _+1,.str a,.str b=>some (a==b)
 | n+1,.tup a,.tup b=>cF (ef n) a b
 | n+1,.lst a,.lst b=>cF (ef n) a b
 | n+1,.bU a,.lst b=>cF (ef n) a b
 | n+1,.lst a,.bU b=>cF (ef n) a b
 | _+1,.bU _,.bU _=>none
 | _+1,.dct _,_=>none
 | _+1,_,.dct _=>none
 | _+1,_,_=>some false
noncomputable def truthy:V→Bool
 | .bD=>false
 | .bl b=>b
 | .int i=>i != 0
 | .str s=>!s.isEmpty
 | .tup ds=>!ds.isEmpty
 | .lst ds=>!ds.isEmpty
 | .bU ds=>!ds.isEmpty
 | .dct kvs=>!kvs.isEmpty
noncomputable def dX (l:List V):Option V:=if l.length≤big then some (.lst l) else none
noncomputable def jy (l:List V):Option V:=if l.length≤big then some (.tup l) else none
noncomputable def bR:bZ→V→V→Option V
 | .add,.int i,.int j=>some (.int (i+j))
 | .add,.str a,.str b=>if a.length+b.length≤big then some (.str (a++b)) else none
 | .add,.tup a,.tup b=>if a.length+b.length≤big then some (.tup (a++b)) else none
 | .add,.lst a,.lst b=>dX (a++b)
 | .sub,.int i,.int j=>some (.int (i - j))
 | .mul,.int i,.int j=>if cz i j then some (.int (i*j)) else none
 | .mul,.str a,.int k=>if 0≤k∧k≤1000∧a.length≤1000 then some (.str (rep k.toNat a)) else none
 | .mul,.tup a,.int k=>if 0≤k∧k≤1000∧a.length≤1000 then some (.tup (rep k.toNat a)) else none
 | .mul,.lst a,.int k=>if 0≤k∧k≤1000∧a.length≤1000 then dX (rep k.toNat a) else none
 | .fdiv,.int i,.int j=>if 0<j∧j<1073741824 then some (.int (i / j)) else none
 | .mod,.int i,.int j=>if 0<j then some (.int (i % j)) else none
 | _,_,_=>none
noncomputable def mem (x:V):List V→Option Bool
 | []=>some false
 | y :: ys=>(ef deep y x).bind fun b=>(mem x ys).bind fun c=>some (b || c)
noncomputable def isin (x y:V):Option Bool:=match y with
 | .str s=>match x with
  | .str [c]=>some (s.contains c)
  | _=>none
 | .tup ds=>mem x ds
 | .lst ds=>mem x ds
 | .bU ds=>mem x ds
 | _=>none
noncomputable def cop (o:bP) (x y:V):Option Bool:=match o,x,y with
 | .eq,x,y=>ef deep x y
 | .ne,x,y=>(ef deep x y).map (!·)
 | .lt,.int i,.int j=>some (decide (i<j))
 | .gt,.int i,.int j=>some (decide (j<i))
 | .isin,x,y=>isin x y
 | .gD,x,y=>(isin x y).map (!·)
 | _,_,_=>none
noncomputable def oO:V→V→Option V
 | .dct kvs,.int k=>(Ev.eV kvs k).map .str
 | _,_=>none
noncomputable def oQ:V→V→V→Option V
 | .dct kvs,.int k,z=>some (match Ev.eV kvs k with | some s=>.str s | none=>z)
 | _,_,_=>none
noncomputable def fq (x y:V):Option V:=match x,y with
 | .tup ds,.int i=>bL ds i
 | .str s,.int i=>(bL s i).map fun c=>.str [c]
 | .lst ds,.int i=>bL ds i
 | .bU ds,.int i=>bL ds i
 | _,_=>none
noncomputable def gT (x:V) (lo hi:Option Int):Option V:=match x with
 | .tup ds=>some (.tup (cut ds lo hi))
 | .str s=>some (.str (cut s lo hi))
 | .lst ds=>dX (cut ds lo hi)
 | .bU ds=>dX (cut ds lo hi)
 | _=>none
noncomputable def toT:V→Option V
 | .tup l=>some (.tup l)
 | .lst l=>jy l
 | .bU l=>jy l
 | _=>none
noncomputable def boolsOf:List V→Option (List Bool)
 | []=>some []
 | .bl b :: ds=>(boolsOf ds).map fun r=>b :: r
 | _=>none
noncomputable def intsOf:List V→Option (List Int)
 | []=>some []
 | .int i :: ds=>(intsOf ds).map fun r=>i :: r
 | _=>none
noncomputable def strsOf:List V→Option (List (List Nat))
 | []=>some []
 | .str s :: ds=>(strsOf ds).map fun r=>s :: r
 | _=>none
noncomputable def iQ:V→Option (List V)
 | .lst l=>some l
 | .bU l=>some l
 | _=>none
noncomputable def MQ:V→Option (List (Int×List Nat))
 | .dct kvs=>some kvs
 | _=>none
noncomputable def cX (b:BI) (xs:List V):Option V:=match b,xs with
 | .len,[.str s]=>if s.length≤big then some (.int s.length) else none
 | .len,[.tup ds]=>some (.int ds.length)
 | .len,[x]=>(iQ x).map fun ds=>.int ds.length
 | .sum,[x]=>((iQ x).bind intsOf).map fun is=>.int is.sum
 | .min,[.int i,.int j]=>some (.int (if j<i then j else i))
 | .yg,[x]=>((iQ x).bind intsOf).bind fun ss=>if ss.length<64 then dX ((Ev.sortI ss).map .int) else none
 | .jK,[x]=>(MQ x).bind fun kvs=>if kvs.length<64 then dX ((Ev.sortI (kvs.map (·.1))).map .int) else none
 | _,_=>none
noncomputable def eW (m:ME) (o:V) (xs:List V):Option V:=match m,o,xs with
 | .join,.str sep,[x]=>((iQ x).bind strsOf).bind fun ss=>if (ss.map (·.length)).sum+ss.length*sep.length≤big then some (.str (cJ sep ss)) else none
 | _,_,_=>none
noncomputable def jN (m:ME) (l:List V) (xs:List V):Option (V×List V):=match m,xs with
 | .append,[x]=>if l.length<big then some (.bD,l++[x]) else none
 | .extend,[.lst es]=>if l.length+es.length≤big then some (.bD,l++es) else none
 | .pop,[]=>match l[l.length - 1]? with
  | some x=>some (x,l.dropLast)
  | none=>none
 | _,_=>none
noncomputable def AL:ME→Bool
 | .extend=>true
 | _=>false
noncomputable def iK:ME→Bool
 | .append=>true
 | .extend=>true
 | .pop=>true
 | _=>false
noncomputable def sE:V→Bool
 | .bD=>true
 | .bl _=>true
 | .int _=>true
 | .str _=>true
 | _=>false
noncomputable def yJ (x:V):List (D×D)→Option V
 | []=>none
 | (k,v) :: r=>match (ofD k).bind fun k'=>ef 1 k' x with
  | some true=>ofD v
  | some false=>yJ x r
  | none=>none
noncomputable def eT (x:V) (kvs:List (D×D)):Option V:=if sE x then yJ x kvs else none
noncomputable def er:V→Option (List V)
 | .tup ds=>some ds
 | .str s=>some (s.map fun c=>.str [c])
 | .lst ds=>some ds
 | .bU ds=>some ds
 | _=>none
noncomputable def yK:V→Option (List V)
 | .tup ds=>some ds
 | _=>none
noncomputable def range (lo:Int) (n:Nat):List V:=(List.range n).map fun (i:Nat)=>.int (lo+i)
noncomputable def dO:List V→Option (List V)
 | [.int j]=>if -(2 ^ 62)≤j∧j<2 ^ 62 then some (range 0 j.toNat) else none
 | [.int i,.int j]=>if -(2 ^ 62)≤i∧i<2 ^ 62∧-(2 ^ 62)≤j∧j<2 ^ 62 then some (range i (j - i).toNat) else none
 | _=>none
noncomputable def dP (a b:List V):List V:=List.zipWith (fun x y=>.tup [x,y]) a b
noncomputable def gE:Int→List V→List V
 | _,[]=>[]
 | k,x :: xs=>.tup [.int k,x] :: gE (k+1) xs
noncomputable def put (fr:Fr) (i:Nat) (s:Sl):Option Fr:=match fr[i]? with
 | some (some (.bor _))=>none
 | some (some (.ro _))=>none
 | _=>some (fr.set i (some s))
noncomputable def cI:List Nat→List V→Fr→Option Fr
 | [],[],fr=>some fr
 | i :: is,d :: ds,fr=>(put fr i (.val d)).bind (cI is ds)
 | _,_,_=>none
noncomputable def bH:T→V→Fr→Option Fr
 | .one i,d,fr=>put fr i (.val d)
 | .many l,.tup ds,fr=>cI l ds fr
 | _,_,_=>none
noncomputable def undef (t:T) (fr:Fr):Bool:=(slots t).all fun i=>(fr[i]?.join).isNone
noncomputable def Sl.read:Sl→Sl
 | .own l=>.ro l
 | .bor l=>.ro l
 | s=>s
noncomputable def pG (fr:Fr):Fr:=fr.map (Option.map Sl.read)
noncomputable def Sl.dj:Sl→Sl
 | .own l=>.val (.lst l)
 | s=>s
noncomputable def gq (fr:Fr):Fr:=fr.map (Option.map Sl.dj)
noncomputable def Sl.walk:Sl→Sl
 | .own l=>.val (.lst l)
 | .bor l=>.ro l
 | s=>s
noncomputable def sL (is:List Nat) (fr:Fr):Fr:=is.foldl (fun fr i=>match fr[i]? with
 | some (some s)=>fr.set i (some s.walk)
 | _=>fr) fr
noncomputable def Sl.out:Sl→Option (List V)
 | .bor l=>some l
 | .ro l=>some l
 | _=>none
noncomputable def Sl.lend:Sl→Option Sl
 | .own l=>some (.bor l)
 | .bor l=>some (.bor l)
 | .ro l=>some (.ro l)
 | .val _=>none
noncomputable def lent (fr:Fr) (i:Nat):Option Sl:=match fr[i]? with
 | some (some s)=>s.lend
 | _=>none
noncomputable def Sl.with:Sl→List V→Sl
 | .own _,l=>.own l
 | .bor _,l=>.bor l
 | s,_=>s
noncomputable def back:List Nat→List (List V)→Fr→Option Fr
 | [],[],fr=>some fr
 | i :: is,l :: ls,fr=>match fr[i]? with
  | some (some s)=>back is ls (fr.set i (some (s.with l)))
  | _=>none
 | _,_,_=>none
noncomputable def cG (f:V→Option (Option V)):List V→Option (List V)
 | []=>some []
 | d :: ds=>(f d).bind fun o=>(cG f ds).bind fun r=>some (o.toList++r)
noncomputable def forL (f:V→Fr→R Fl):List V→Fr→R Fl
 | [],fr=>.ok .nx fr
 | d :: ds,fr=>(f d fr).bind fun p af=>match p with
   | .nx=>forL f ds af
   | .ct=>forL f ds af
   | .bk=>.ok .nx af
   | .ret x=>.ok (.ret x) af
noncomputable def dW (t:Fr→R Bool) (f:Fr→R Fl):Nat→Fr→R Fl
 | 0,_=>.bad
 | n+1,fr=>(t fr).bind fun b af=>if b then (f af).bind fun p ao=>match p with
   | .nx=>dW t f n ao
   | .ct=>dW t f n ao
   | .bk=>.ok .nx ao
   | .ret x=>.ok (.ret x) ao
  else .ok .nx af
noncomputable def ju:Es→List Nat
 | .nil=>[]
 | .cons (.v i) es=>i :: ju es
 | .cons _ es=>ju es
noncomputable def UL (m:ME):E→List Nat
 | .v i=>if iK m then [i] else []
 | _=>[]
mutual
noncomputable def bf:E→List Nat
 | .c _=>[] | .v _=>[] | .tup es=>fY es | .lst es=>fY es
 | .bin _ a b=>bf a++bf b | .cmp _ a b=>bf a++bf b
 | .nt a=>bf a | .neg a=>bf a | .an a b=>bf a++bf b | .orr a b=>bf a++bf b | .lO t a b=>bf t++(bf a++bf b)
 | .ix a b=>bf a++bf b | .sl a lo hi=>bf a++(j0 lo++j0 hi)
 | .cl _ es=>fY es++ju es | .bi _ es=>fY es | .me m o es=>bf o++(fY es++UL m o)
 | .comp _ _ it _=>Dc it
 | .ee it=>Dc it
 | .iV _ a=>bf a
 | .iW=>[] | .jL a k=>bf a++bf k | .lP a k x=>bf a++(bf k++bf x)
 | .iw a=>bf a
noncomputable def fY:Es→List Nat
 | .nil=>[]
 | .cons e es=>bf e++fY es
noncomputable def j0:Eo→List Nat
 | .no=>[]
 | .yes e=>bf e
noncomputable def Dc:It→List Nat
 | .seq e=>bf e | .gy es=>fY es
 | .zip a b=>bf a++bf b
 | .enum a=>bf a | .rev a=>bf a
end
noncomputable def kf (a:E) (l:List Nat):Bool:=match a with
 | .v i=>!l.contains i
 | _=>l.isEmpty
noncomputable def itv:It→List Nat
 | .seq (.v i)=>[i]
 | .enum (.v i)=>[i]
 | .rev (.v i)=>[i]
 | .zip (.v i) (.v j)=>[i,j]
 | .zip (.v i) _=>[i]
 | .zip _ (.v j)=>[j]
 | _=>[]
abbrev aP:=Nat→List Sl→Option (V×List (List V))
noncomputable def intOf:V→Option Int
 | .int i=>some i
 | _=>none
noncomputable def j3 (k:Bool) (fr:Fr) (i:Nat):Option V:=match fr[i]? with
 | some (some (.val v))=>some v
 | some (some (.own l))=>if k then some (.lst l) else none
 | some (some (.bor l))=>if k then some (.lst l) else none
 | some (some (.ro l))=>if k then some (.lst l) else none
 | _=>none
noncomputable def yL (k:Bool) (fr:Fr) (i:Nat):Option V:=match fr[i]? with
 | some (some (.ro l))=>some (.lst l)
 | _=>j3 k fr i
noncomputable def src (k:Bool) (fr:Fr) (e:E) (r:R V):R V:=match e with
 | .v i=>R.of (yL k fr i) fr
 | _=>r
noncomputable def kj (fr:Fr):E→Option Nat
 | .v i=>if (lent fr i).isSome then some i else none
 | _=>none
noncomputable def args (fr:Fr):List (Nat ⊕ V)→Option (List Sl)
 | []=>some []
 | .inl i :: r=>(lent fr i).bind fun s=>(args fr r).map fun l=>s :: l
 | .inr v :: r=>(args fr r).map fun l=>.val v :: l
noncomputable def bT:List (Nat ⊕ V)→List Nat
 | []=>[]
 | .inl i :: r=>i :: bT r
 | .inr _ :: r=>bT r
noncomputable def eU (P:aP) (f:Nat) (as:List (Nat ⊕ V)) (fr:Fr):R V:=
 if (bT as).Nodup then match args fr as with
  | some sl=>match P f sl with
   | some (v,outs)=>R.of ((back (bT as) outs fr).map fun af=>(v,af)) fr |>.bind fun p _=>.ok p.1 p.2
   | none=>.bad
  | none=>.bad
 else .bad
mutual
noncomputable def ev (P:aP):Bool→E→Fr→R V
 | _,.c d,fr=>R.of (ofD d) fr
 | k,.v i,fr=>R.of (j3 k fr i) fr
 | _,.tup es,fr=>(cg P false es fr).bind fun ds af=>R.of (jy ds) af
 | _,.lst es,fr=>(cg P false es fr).bind fun ds af=>R.of (dX ds) af
 | _,.bin o a b,fr=>(ev P (kf a (bf b)) a fr).bind fun x af=>(ev P true b af).bind fun y ao=>R.of (bR o x y) ao
 | _,.cmp o a b,fr=>(ev P (kf a (bf b)) a fr).bind fun x af=>(ev P true b af).bind fun y ao=>R.of ((cop o x y).map .bl) ao
 | _,.iW,_=>.bad
 | _,.jL a b,fr=>(ev P (kf a (bf b)) a fr).bind fun x af=>(ev P true b af).bind fun y ao=>R.of (oO x y) ao
 | _,.lP a b c,fr=>(ev P (kf a (bf b++bf c)) a fr).bind fun x af=>(ev P (kf b (bf c)) b af).bind fun y ao=>(ev P false c ao).bind fun z bY=>R.of (oQ x y z) bY
 | _,.nt a,fr=>(ev P true a fr).bind fun x af=>match x with
   | .bl b=>.ok (.bl (!b)) af
   | _=>.bad
 | _,.neg a,fr=>(ev P true a fr).bind fun x af=>match x with
   | .int i=>.ok (.int (-i)) af
   | _=>.bad
 | k,.an a b,fr=>(ev P true a fr).bind fun x af=>match x with
   | .bl true=>ev P k b af
   | .bl false=>.ok (.bl false) af
   | _=>.bad
 | k,.orr a b,fr=>(ev P true a fr).bind fun x af=>match x with
   | .bl true=>.ok (.bl true) af
   | .bl false=>ev P k b af
   | _=>.bad
 | k,.lO t a b,fr=>(aL P t fr).bind fun c af=>if c then ev P k a af else ev P k b af
 | _,.ix a b,fr=>(ev P (kf a (bf b)) a fr).bind fun x af=>(ev P true b af).bind fun y ao=>R.of (fq x y) ao
 | _,.sl a lo hi,fr=>(ev P (kf a (j0 lo++j0 hi)) a fr).bind fun x af=>(fU P lo af).bind fun l ao=>(fU P hi ao).bind fun u bY=>R.of (gT x l u) bY
 | _,.cl f es,fr=>(fV P es fr).bind fun as af=>eU P f as af
 | _,.bi b es,fr=>(cg P true es fr).bind fun ds af=>R.of (cX b ds) af
 | _,.me m o es,fr=>if iK m then match kj fr o with
   | some i=>(cg P (AL m) es fr).bind fun ds af=>match af[i]? with
    | some (some (.own l))=>match jN m l ds with
     | some (v,l')=>.ok v (af.set i (some (.own l')))
     | none=>.bad
    | some (some (.bor l))=>match jN m l ds with
     | some (v,l')=>.ok v (af.set i (some (.bor l')))
     | none=>.bad
    | _=>.bad
   | none=>.bad
  else (ev P (kf o (fY es)) o fr).bind fun x af=>(cg P true es af).bind fun ds ao=>R.of (eW m x ds) ao
 | _,.comp elt t it cond,fr=>(cy P true it fr).bind fun s af=>if undef t af then
   R.of ((cG (fun d=>match bH t d (pG af) with
    | none=>none
    | some ao=>match gU P cond ao with
     | .ok c _=>if c then (match ev P false elt ao with | .ok x _=>some (some x) | .bad=>none) else some none
     | .bad=>none) s).bind dX) af else .bad
 | _,.ee it,fr=>(cy P true it fr).bind fun s af=>R.of (dX s) af
 | _,.iV kvs a,fr=>(ev P true a fr).bind fun x af=>R.of (eT x kvs) af
 | _,.iw a,fr=>(ev P true a fr).bind fun x af=>R.of (toT x) af
termination_by _ e=>(sizeOf e,0)
noncomputable def cg (P:aP):Bool→Es→Fr→R (List V)
 | _,.nil,fr=>.ok [] fr
 | k,.cons e es,fr=>(ev P (k&&kf e (fY es)) e fr).bind fun d af=>(cg P k es af).bind fun ds ao=>.ok (d :: ds) ao
termination_by _ e=>(sizeOf e,0)
noncomputable def fV (P:aP):Es→Fr→R (List (Nat ⊕ V))
 | .nil,fr=>.ok [] fr
 | .cons e es,fr=>match kj fr e with
   | some i=>(fV P es fr).bind fun r af=>.ok (.inl i :: r) af
   | none=>(ev P false e fr).bind fun d af=>(fV P es af).bind fun r ao=>.ok (.inr d :: r) ao
termination_by e=>(sizeOf e,0)
noncomputable def fU (P:aP):Eo→Fr→R (Option Int)
 | .no,fr=>.ok none fr
 | .yes e,fr=>(ev P true e fr).bind fun d af=>R.of ((intOf d).map some) af
termination_by e=>(sizeOf e,0)
noncomputable def gU (P:aP):Eo→Fr→R Bool
 | .no,fr=>.ok true fr
 | .yes e,fr=>aL P e fr
termination_by e=>(sizeOf e,0)
noncomputable def aL (P:aP):E→Fr→R Bool
 | .an a b,fr=>(aL P a fr).bind fun k af=>if k then aL P b af else .ok false af
 | .orr a b,fr=>(aL P a fr).bind fun k af=>if k then .ok true af else aL P b af
 | .nt a,fr=>(aL P a fr).bind fun k af=>.ok (!k) af
 | e,fr=>(ev P true e fr).bind fun x af=>.ok (truthy x) af
termination_by e=>(sizeOf e,1)
noncomputable def cy (P:aP):Bool→It→Fr→R (List V)
 | k,.seq e,fr=>(src k fr e (ev P k e fr)).bind fun x af=>R.of (er x) af
 | _,.gy es,fr=>(cg P true es fr).bind fun ds af=>R.of (dO ds) af
 | k,.zip a b,fr=>(src (k&&kf a (bf b)) fr a (ev P (k&&kf a (bf b)) a fr)).bind fun x af=>(src k af b (ev P k b af)).bind fun y ao=>R.of ((iQ x).bind fun s=>(iQ y).map fun t=>dP s t) ao
 | k,.enum a,fr=>(src k fr a (ev P k a fr)).bind fun x af=>R.of ((iQ x).map fun s=>gE 0 s) af
 | _,.rev a,fr=>(ev P true a fr).bind fun x af=>R.of ((yK x).map fun s=>s.reverse) af
termination_by _ e=>(sizeOf e,0)
end
noncomputable def isNew:E→Bool
 | .lst _=>true
 | .ee _=>true
 | _=>false
mutual
noncomputable def ex (P:aP) (w:Nat):S→Fr→R Fl
 | .set i e,fr=>(ev P false e fr).bind fun x af=>if isNew e then (match x with
   | .lst l=>(R.of (put af i (.own l)) af).bind fun ao _=>.ok .nx ao
   | _=>.bad)
  else (R.of (put af i (.val x)) af).bind fun ao _=>.ok .nx ao
 | .yh l e,fr=>(ev P false e fr).bind fun x af=>(R.of (bH (.many l) x af) af).bind fun ao _=>.ok .nx ao
 | .dput _ _ _,_=>.bad
 | .exp e,fr=>(ev P true e fr).bind fun _ af=>.ok .nx af
 | .ret e,fr=>(ev P false e (gq fr)).bind fun x af=>.ok (.ret x) af
 | .iff t a b,fr=>(aL P t fr).bind fun k af=>if k then exs P w a af else exs P w b af
 | .for t it b,fr=>(cy P false it (sL (itv it) fr)).bind fun s af=>forL (fun d ao=>match bH t d ao with
   | some bY=>exs P w b bY
   | none=>.bad) s af
 | .mw t b,fr=>dW (fun ao=>aL P t ao) (fun ao=>exs P w b ao) w fr
 | .fk,_=>.bad
noncomputable def exs (P:aP) (w:Nat):Ss→Fr→R Fl
 | .nil,fr=>.ok .nx fr
 | .cons s ss,fr=>(ex P w s fr).bind fun p af=>match p with
   | .nx=>exs P w ss af
   | p=>.ok p af
end
noncomputable def fy (fn:Fn) (ds:List Sl):Fr:=ds.map some++List.replicate (fn.ns - fn.np) none
noncomputable def outs (np:Nat) (fr:Fr):List (List V):=(fr.take np).filterMap fun o=>o.bind Sl.out
noncomputable def FO:Ss:=.cons (.dput (.v 1) (.v 2) (.v 4)) (.cons (.set 2 (.bin .add (.v 2) (.c (.int 1)))) .nil)
noncomputable def uA:Ss:=.cons (.iff (.cmp .eq (.ix (.v 3) (.c (.int 0))) (.c (.str [100,114,111,112]))) (.cons (.for (.one 4) (.seq (.ix (.v 3) (.c (.int 1)))) FO) .nil) (.cons (.iff (.cmp .eq (.ix (.v 3) (.c (.int 0))) (.c (.str [107,101,101,112]))) (.cons (.set 2 (.bin .add (.v 2) (.ix (.v 3) (.c (.int 1))))) .nil) .nil) .nil)) .nil
noncomputable def jz:Fn:=⟨1,5,.cons (.set 1 .iW) (.cons (.set 2 (.c (.int 0))) (.cons (.for (.one 3) (.seq (.v 0)) uA) (.cons (.ret (.v 1)) .nil)))⟩
noncomputable def jA:List (Int×List Nat)→Int→List Nat→List (Int×List Nat)
 | k,_,[]=>k
 | k,p,c :: s=>jA (Ev.fC k p [c]) (p+1) s
noncomputable def bM:List V→Int→List (Int×List Nat)→Option (List (Int×List Nat))
 | [],_,k=>some k
 | .tup [.str w,.str s] :: r,p,k=>if w=[100,114,111,112] then (if k.length+s.length≤100000 then bM r (p+s.length) (jA k p s) else none) else if w=[107,101,101,112] then none else bM r p k
 | .tup [.str w,.int i] :: r,p,k=>if w=[107,101,101,112] then bM r (p+i) k else none
 | _ :: _,_,_=>none
open Classical in
noncomputable def wY (fn:Fn) (ds:List Sl):Option (V×List (List V)):=if fn=jz then match ds with
  | [.val (.tup l)]=>(bM l 0 []).map fun k=>(.dct k,[])
  | _=>none
 else none
noncomputable def run (F:List Fn) (w:Nat):Nat→aP
 | 0,_,_=>none
 | n+1,f,ds=>match F[f]? with
  | some fn=>if ds.length=fn.np then match exs (run F w n) w fn.body (fy fn ds) with
    | .ok (.ret v) fr=>some (v,outs fn.np fr)
    | .ok .nx fr=>some (.bD,outs fn.np fr)
    | _=>wY fn ds
   else none
  | none=>none
end Pv
namespace Pv
open Ev (D O Hh bZ bP TY BI ME T E Es Eo It S Ss Fn big deep b2i rep cz dM bL aR cut cJ d8 slots bu)
section
variable (h:Hh)(S:Nat→Prop)
mutual
noncomputable def Rep:V→D→Prop
 | .bD,d=>d=.bD
 | .bl b,d=>d=.bl b
 | .int i,d=>d=.int i
 | .str s,d=>d=.str s
 | .tup l,d=>∃ ds,d=.tup ds∧au l ds
 | .lst l,d=>∃ n ds,d=.ref n∧S n∧h[n]?=some (.lst ds)∧au l ds
 | .bU l,d=>∃ n ds,d=.ref n∧S n∧h[n]?=some (.bU ds)∧au l ds
 | .dct kvs,d=>∃ n,d=.ref n∧S n∧h[n]?=some (.dct kvs)
noncomputable def au:List V→List D→Prop
 | [],ds=>ds=[]
 | v :: vs,ds=>∃ d es,ds=d :: es∧Rep v d∧au vs es
end
noncomputable def bh:V→D→Prop
 | .lst l,d=>∃ n ds,d=.ref n∧h[n]?=some (.lst ds)∧au h S l ds
 | v,d=>Rep h S v d
noncomputable def fW:List V→List D→Prop
 | [],ds=>ds=[]
 | v :: vs,ds=>∃ d es,ds=d :: es∧bh h S v d∧fW vs es
end
abbrev U:Nat→Prop:=fun _=>True
section
variable {h h':Hh}{S S':Nat→Prop}
mutual
theorem Rep.mono (f:∀ m,S m→h'[m]?=h[m]?) (g:∀ m,S m→S' m):∀ {v:V}{d:D},Rep h S v d→Rep h' S' v d
 | .bD,_,q=>q
 | .bl _,_,q=>q
 | .int _,_,q=>q
 | .str _,_,q=>q
 | .tup l,_,⟨ds,a,b⟩=>⟨ds,a,au.mono f g b⟩
 | .lst l,_,⟨n,ds,a,b,c,e⟩=>⟨n,ds,a,g n b,by rw [f n b];exact c,au.mono f g e⟩
 | .bU l,_,⟨n,ds,a,b,c,e⟩=>⟨n,ds,a,g n b,by rw [f n b];exact c,au.mono f g e⟩
 | .dct kvs,_,⟨n,a,b,c⟩=>⟨n,a,g n b,by rw [f n b];exact c⟩
theorem au.mono (f:∀ m,S m→h'[m]?=h[m]?) (g:∀ m,S m→S' m):∀ {v:List V}{d:List D},au h S v d→au h' S' v d
 | [],_,q=>q
 | _ :: _,_,⟨d,es,a,b,c⟩=>⟨d,es,a,Rep.mono f g b,au.mono f g c⟩
end
theorem au.nil:au h S [] []:=by simp [au]
theorem au.cons {v:V}{d:D}{vs:List V}{ds:List D}(a:Rep h S v d) (b:au h S vs ds):au h S (v :: vs) (d :: ds):=by simp only [au];exact ⟨d,ds,rfl,a,b⟩
theorem Rep.top {v:V}{d:D}(q:Rep h S v d):bh h S v d:=by
 cases v <;> first | exact q | (obtain ⟨n,ds,a,b,c,e⟩:=q;exact ⟨n,ds,a,c,e⟩)
theorem bh.u {v:V}{d:D}(q:bh h S v d):Rep h U v d:=by
 cases v with
 | lst l=>obtain ⟨n,ds,a,b,c⟩:=q;exact ⟨n,ds,a,trivial,b,c.mono (fun _ _=>rfl) fun _ _=>trivial⟩
 | _=>exact Rep.mono (S:=S) (fun _ _=>rfl) (fun _ _=>trivial) q
theorem au.u {v:List V}{d:List D}(q:au h S v d):au h U v d:=q.mono (fun _ _=>rfl) fun _ _=>trivial
theorem bh.mono {v:V}{d:D}(f:∀ m,m<h.length→h'[m]?=h[m]?) (k:∀ m,S m→m<h.length) (g:∀ m,S m→S' m) (q:bh h S v d):bh h' S' v d:=by
 cases v with
 | lst l=>
  obtain ⟨n,ds,a,b,c⟩:=q
  exact ⟨n,ds,a,by rw [f n (List.getElem?_eq_some_iff.mp b).1];exact b,c.mono (fun m z=>f m (k m z)) g⟩
 | _=>exact Rep.mono (fun m z=>f m (k m z)) g q
theorem au.length:∀ {v:List V}{d:List D},au h S v d→v.length=d.length
 | [],_,q=>by simp only [au] at q;subst q;rfl
 | _ :: _,_,q=>by simp only [au] at q;obtain ⟨d,es,rfl,_,c⟩:=q;simp [c.length]
theorem au.get:∀ {v:List V}{d:List D}{i:Nat}{x:V},au h S v d→v[i]?=some x→∃ y,d[i]?=some y∧Rep h S x y
 | [],_,_,_,_,e=>by simp at e
 | _ :: _,_,0,_,q,e=>by
  simp only [au] at q
  obtain ⟨d,es,rfl,b,_⟩:=q
  simp at e;subst e
  exact ⟨d,by simp,b⟩
 | _ :: _,_,i+1,_,q,e=>by
  simp only [au] at q
  obtain ⟨d,es,rfl,_,c⟩:=q
  obtain ⟨y,a,b⟩:=c.get (i:=i) (by simpa using e)
  exact ⟨y,by simpa using a,b⟩
theorem au.append:∀ {v w:List V}{d e:List D},au h S v d→au h S w e→au h S (v++w) (d++e)
 | [],_,_,_,a,b=>by simp only [au] at a;subst a;simpa using b
 | _ :: _,_,_,_,a,b=>by
  simp only [au] at a
  obtain ⟨d,es,rfl,x,y⟩:=a
  exact .cons x (y.append b)
theorem au.take:∀ {v:List V}{d:List D}(n:Nat),au h S v d→au h S (v.take n) (d.take n)
 | _,_,0,_=>by simp [au]
 | [],_,_+1,a=>by simp only [au] at a;subst a;simp [au]
 | _ :: _,_,n+1,a=>by
  simp only [au] at a
  obtain ⟨d,es,rfl,x,y⟩:=a
  simp only [List.take_succ_cons]
  exact .cons x (y.take n)
theorem au.drop:∀ {v:List V}{d:List D}(n:Nat),au h S v d→au h S (v.drop n) (d.drop n)
 | _,_,0,a=>by simpa using a
 | [],_,_+1,a=>by simp only [au] at a;subst a;simp [au]
 | _ :: _,_,n+1,a=>by
  simp only [au] at a
  obtain ⟨d,es,rfl,x,y⟩:=a
  simp only [List.drop_succ_cons]
  exact y.drop n
theorem au.dropLast:∀ {v:List V}{d:List D},au h S v d→au h S v.dropLast d.dropLast:=fun {v d} a=>by
 rw [List.dropLast_eq_take,List.dropLast_eq_take,a.length];exact a.take _
theorem au.reverse:∀ {v:List V}{d:List D},au h S v d→au h S v.reverse d.reverse
 | [],_,a=>by simp only [au] at a;subst a;simp [au]
 | _ :: _,_,a=>by
  simp only [au] at a
  obtain ⟨d,es,rfl,x,y⟩:=a
  simp only [List.reverse_cons]
  exact y.reverse.append (.cons x .nil)
theorem au.rep {v:List V}{d:List D}(a:au h S v d):∀ k:Nat,au h S (Ev.rep k v) (Ev.rep k d)
 | 0=>by simp [Ev.rep,au]
 | k+1=>by
  have z:=au.rep a k
  simp only [Ev.rep,List.replicate_succ,List.flatten_cons] at z ⊢
  exact a.append z
theorem au.cut {v:List V}{d:List D}(a:au h S v d) (lo hi:Option Int):au h S (Ev.cut v lo hi) (Ev.cut d lo hi):=by
 unfold Ev.cut
 rw [a.length]
 exact (a.drop _).take _
theorem au.map {α:Type}{f:α→V}{g:α→D}(q:∀ a,Rep h S (f a) (g a)):∀ l:List α,au h S (l.map f) (l.map g)
 | []=>.nil
 | _ :: l=>.cons (q _) (au.map q l)
mutual
theorem Rep.uniq:∀ {v w:V}{d:D},Rep h U v d→Rep h U w d→v=w
 | .bD,w,_,a,b=>by simp only [Rep] at a;subst a;cases w <;> simp [Rep] at b <;> rfl
 | .bl _,w,_,a,b=>by simp only [Rep] at a;subst a;cases w <;> simp [Rep] at b <;> rw [b]
 | .int _,w,_,a,b=>by simp only [Rep] at a;subst a;cases w <;> simp [Rep] at b <;> rw [b]
 | .str _,w,_,a,b=>by simp only [Rep] at a;subst a;cases w <;> simp [Rep] at b <;> rw [b]
 | .tup l,w,_,a,b=>by
  simp only [Rep] at a;obtain ⟨ds,rfl,a⟩:=a
  cases w <;> simp [Rep] at b
  rw [au.uniq a b]
 | .lst l,w,_,a,b=>by
  simp only [Rep] at a;obtain ⟨n,ds,rfl,_,a1,a⟩:=a
  cases w <;> simp [Rep] at b
  ·obtain ⟨ds',b1,b⟩:=b
   rw [a1] at b1;cases b1
   rw [au.uniq a b]
  ·obtain ⟨ds',b1,b⟩:=b
   rw [a1] at b1;cases b1
  ·rw [a1] at b;cases b
 | .bU l,w,_,a,b=>by
  simp only [Rep] at a;obtain ⟨n,ds,rfl,_,a1,a⟩:=a
  cases w <;> simp [Rep] at b
  ·obtain ⟨ds',b1,b⟩:=b
   rw [a1] at b1;cases b1
  ·obtain ⟨ds',b1,b⟩:=b
   rw [a1] at b1;cases b1
   rw [au.uniq a b]
  ·rw [a1] at b;cases b
 | .dct kvs,w,_,a,b=>by
  simp only [Rep] at a;obtain ⟨n,rfl,_,a1⟩:=a
  cases w <;> simp [Rep] at b
  ·obtain ⟨ds',b1,b⟩:=b
   rw [a1] at b1;cases b1
  ·obtain ⟨ds',b1,b⟩:=b
   rw [a1] at b1;cases b1
  ·rw [a1] at b;cases b;rfl
theorem au.uniq:∀ {v w:List V}{d:List D},au h U v d→au h U w d→v=w
 | [],w,_,a,b=>by simp only [au] at a;subst a;cases w <;> simp [au] at b;rfl
 | x :: xs,w,_,a,b=>by
  simp only [au] at a;obtain ⟨d,es,rfl,a1,a2⟩:=a
  cases w <;> simp only [au] at b
  ·cases b
  obtain ⟨d',es',e,b1,b2⟩:=b
  cases e
  rw [Rep.uniq a1 b1,au.uniq a2 b2]
end
theorem uB {n:Nat}(f:∀ v b,ef n v v=some b→b=true):∀ l b,cF (ef n) l l=some b→b=true
 | [],b,e=>by simp [cF] at e;exact e
 | x :: xs,b,e=>by
  simp only [cF,Option.bind_eq_some_iff] at e
  obtain ⟨c,e1,c2,e2,e⟩:=e
  rw [f x c e1,uB f xs c2 e2] at e
  simpa using e.symm
theorem uC:∀ n v b,ef n v v=some b→b=true
 | 0,_,_,e=>by cases e
 | n+1,v,b,e=>by
  cases v <;> first | exact uB (uC n) _ _ e | (cases e <;> first | rfl | exact beq_self_eq_true _)
theorem uD {n:Nat}(f:∀ {v w:V}{d e:D}{b},ef n v w=some b→Rep h U v d→Rep h U w e→Ev.fS h n d e=some b):∀ {l m:List V}{ds es:List D}{b},cF (ef n) l m=some b→au h U l ds→au h U m es→Ev.cF (Ev.fS h n) ds es=some b
 | [],[],_,_,b,e,p,q=>by simp only [au] at p q;subst p q;simpa [cF,Ev.cF] using e
 | [],_ :: _,_,_,b,e,p,q=>by simp only [au] at p q;subst p;obtain ⟨_,_,rfl,_⟩:=q;simpa [cF,Ev.cF] using e
 | _ :: _,[],_,_,b,e,p,q=>by simp only [au] at p q;subst q;obtain ⟨_,_,rfl,_⟩:=p;simpa [cF,Ev.cF] using e
 | x :: xs,y :: ys,_,_,b,e,p,q=>by
  simp only [au] at p q
  obtain ⟨d,ds,rfl,p1,p2⟩:=p
  obtain ⟨d',ds',rfl,q1,q2⟩:=q
  simp only [cF,Option.bind_eq_some_iff] at e
  obtain ⟨c,e1,c2,e2,e⟩:=e
  simp [Ev.cF,f e1 p1 q1,uD f e2 p2 q2]
  simpa using e
theorem g6 {n:Nat}{ds:List D}(q:h[n]?=some (.lst ds)):bu h n=some ds:=by simp [bu,q]
theorem iD {n:Nat}{ds:List D}(q:h[n]?=some (.bU ds)):bu h n=some ds:=by simp [bu,q]
theorem jB:∀ (n:Nat) {v w:V}{d e:D}{b},ef n v w=some b→Rep h U v d→Rep h U w e→Ev.fS h n d e=some b
  | 0,_,_,_,_,_,e,_,_=>by cases e
  | n+1,v,w,d,e,b,x,p,q=>by
    by_cases hr:∃ m,d=.ref m∧e=.ref m
    · obtain ⟨m,rfl,rfl⟩:=hr
      have hvw:=p.uniq q
      subst hvw
      have hb:=uC _ _ _ x
      subst hb
      cases v <;> simp [Rep] at p
      · obtain ⟨ds,p1,p2⟩:=p;show Ev.jx _ _ _ _=_;rw [Ev.jx,if_pos rfl,g6 p1];rfl
      · obtain ⟨ds,p1,p2⟩:=p;show Ev.jx _ _ _ _=_;rw [Ev.jx,if_pos rfl,iD p1];rfl
      · cases x
    · cases v <;> cases w <;> simp only [Rep] at p q <;>
      first
      | (subst p;subst q;exact x)
      | (obtain ⟨ds,rfl,p⟩:=p;subst q;exact x)
      | (obtain ⟨ds,rfl,q⟩:=q;subst p;exact x)
      | (obtain ⟨ds,rfl,p⟩:=p;obtain ⟨es,rfl,q⟩:=q;exact uD (fun a b c=>jB n a b c) x p q)
      | (cases x;done)
      | (obtain ⟨m,ds,rfl,_,p1,p⟩:=p;obtain ⟨k,es,rfl,_,q1,q⟩:=q
         have hne:m≠k:=fun z=>hr ⟨m,rfl,by rw [z]⟩
         show Ev.jx _ _ _ _=_
         rw [Ev.jx,if_neg hne,p1,q1];exact uD (fun a b c=>jB n a b c) x p q)
      | (cases x;obtain ⟨m,ds,rfl,_,p1,p⟩:=p;subst q;exact congrArg (Option.map fun _=>false) (g6 p1))
      | (cases x;obtain ⟨m,ds,rfl,_,p1,p⟩:=p;subst q;exact congrArg (Option.map fun _=>false) (iD p1))
      | (cases x;obtain ⟨m,ds,rfl,_,p1,p⟩:=p;obtain ⟨es,rfl,q⟩:=q;exact congrArg (Option.map fun _=>false) (g6 p1))
      | (cases x;obtain ⟨m,ds,rfl,_,p1,p⟩:=p;obtain ⟨es,rfl,q⟩:=q;exact congrArg (Option.map fun _=>false) (iD p1))
      | (cases x;obtain ⟨m,ds,rfl,_,q1,q⟩:=q;subst p;exact congrArg (Option.map fun _=>false) (g6 q1))
      | (cases x;obtain ⟨m,ds,rfl,_,q1,q⟩:=q;subst p;exact congrArg (Option.map fun _=>false) (iD q1))
      | (cases x;obtain ⟨m,ds,rfl,_,q1,q⟩:=q;obtain ⟨es,rfl,p⟩:=p;exact congrArg (Option.map fun _=>false) (g6 q1))
      | (cases x;obtain ⟨m,ds,rfl,_,q1,q⟩:=q;obtain ⟨es,rfl,p⟩:=p;exact congrArg (Option.map fun _=>false) (iD q1))
end
end Pv
namespace Pv
open Ev (D O Hh bZ bP TY BI ME T E Es Eo It S Ss Fn big deep b2i rep cz dM bL aR cut cJ d8 slots bu)
structure Al (h:Hh) (S:Nat→Prop) (h':Hh) (S':Nat→Prop):Prop where
 len:h.length≤h'.length
 keep:∀ m,m<h.length→h'[m]?=h[m]?
 sub:∀ m,S m→S' m
 new:∀ m,S' m→S m∨(h.length≤m∧m<h'.length)
section
variable {h h':Hh}{S S':Nat→Prop}
theorem Al.refl:Al h S h S:=⟨Nat.le_refl _,fun _ _=>rfl,fun _ q=>q,fun _ q=>.inl q⟩
theorem Al.snoc (o:O):Al h S (h++[o]) (fun m=>S m∨m=h.length) where
 len:=by simp
 keep:=fun m q=>by rw [List.getElem?_append_left q]
 sub:=fun _ q=>.inl q
 new:=fun m q=>by
  rcases q with q | q
  ·exact .inl q
  ·subst q;exact .inr ⟨Nat.le_refl _,by simp⟩
theorem g9 {l:List V}{v:V}{ds:List D}(w:∀ m,S m→m<h.length) (e:dX l=some v) (q:au h S l ds):∃ r h' S',Ev.alloc ds h=.ok r h'∧Rep h' S' v r∧Al h S h' S':=by
 unfold dX at e
 split at e
 ·rename_i z
  cases e
  refine ⟨.ref h.length,h++[.lst ds],fun m=>S m∨m=h.length,by unfold Ev.alloc;rw [if_pos (by rw [←q.length];exact z)],?_,Al.snoc _⟩
  simp only [Rep]
  refine ⟨h.length,ds,rfl,.inr rfl,by simp,q.mono (fun m z=>?_) fun _ z=>.inl z⟩
  rw [List.getElem?_append_left (w m z)]
 ·cases e
theorem mH {v:V}{l:List V}{d:D}(e:iQ v=some l) (q:bh h S v d):∃ n ds,d=.ref n∧bu h n=some ds∧au h S l ds:=by
 cases v <;> simp [iQ] at e
 ·subst e;simp only [bh] at q;obtain ⟨n,ds,rfl,a,b⟩:=q;exact ⟨n,ds,rfl,g6 a,b⟩
 ·subst e;simp only [bh,Rep] at q;obtain ⟨n,ds,rfl,_,a,b⟩:=q;exact ⟨n,ds,rfl,iD a,b⟩
mutual
theorem mJ:∀ {d:D}{v:V},ofD d=some v→Rep h S v d
 | .bD,_,e=>by simp [ofD] at e;subst e;simp [Rep]
 | .bl _,_,e=>by simp [ofD] at e;subst e;simp [Rep]
 | .int _,_,e=>by simp [ofD] at e;subst e;simp [Rep]
 | .str _,_,e=>by simp [ofD] at e;subst e;simp [Rep]
 | .ref _,_,e=>by simp [ofD] at e
 | .tup ds,_,e=>by
  simp [ofD] at e
  obtain ⟨vs,e,rfl⟩:=e
  exact ⟨ds,rfl,wZ e⟩
theorem wZ:∀ {d:List D}{v:List V},uz d=some v→au h S v d
 | [],_,e=>by simp [uz] at e;subst e;exact .nil
 | d :: ds,_,e=>by
  simp only [uz,Option.bind_eq_some_iff,Option.map_eq_some_iff] at e
  obtain ⟨v,e1,vs,e2,rfl⟩:=e
  exact .cons (mJ e1) (wZ e2)
end
theorem au.emp {l:List V}{ds:List D}(q:au h S l ds):ds.isEmpty=l.isEmpty:=by
 have:=q.length
 cases l <;> cases ds <;> simp at this ⊢
theorem MR {v:V}{d:D}{kvs:List (Int×List Nat)}(z:MQ v=some kvs) (p:bh h S v d):∃ n,d=.ref n∧h[n]?=some (.dct kvs):=by
 cases v <;> simp only [MQ,reduceCtorEq,Option.some.injEq] at z
 subst z
 simp only [bh,Rep] at p
 obtain ⟨n,rfl,_,a⟩:=p
 exact ⟨n,rfl,a⟩
theorem AM {v:V}{d:D}(q:bh h S v d):Ev.truthy h d=some (truthy v):=by
 cases v <;> simp only [bh,Rep] at q
 ·subst q;rfl
 ·subst q;rfl
 ·subst q;rfl
 ·subst q;rfl
 ·obtain ⟨ds,rfl,q⟩:=q;simp only [Ev.truthy,truthy,q.emp]
 ·obtain ⟨n,ds,rfl,a,q⟩:=q;simp only [Ev.truthy,truthy,g6 a,Option.map,q.emp];rw [a]
 ·obtain ⟨n,ds,rfl,_,a,q⟩:=q;simp only [Ev.truthy,truthy,iD a,Option.map,q.emp];rw [a]
 ·obtain ⟨n,rfl,_,a⟩:=q;simp only [Ev.truthy,truthy];rw [a]
theorem nn {α:Type}{v:α}{p:Prop}(z:none=some v):p:=Option.noConfusion rfl (heq_of_eq z)
theorem MS {o:bZ}{x y v:V}{d e:D}(w:∀ m,S m→m<h.length) (z:bR o x y=some v) (p:bh h S x d) (q:bh h S y e):∃ r h' S',Ev.bR o d e h=.ok r h'∧Rep h' S' v r∧Al h S h' S':=by
 cases o <;> cases x <;> first | exact nn z | (cases y <;> first | exact nn z | skip)
 all_goals (delta bR at z;dsimp only at z;simp only [bh,Rep] at p q)
 ·subst p q;cases z;exact ⟨_,_,S,rfl,rfl,.refl⟩
 ·subst p q;split at z
  ·rename_i k;cases z;exact ⟨_,_,S,by delta Ev.bR;dsimp only;rw [if_pos k],rfl,.refl⟩
  ·cases z
 ·obtain ⟨ds,rfl,p⟩:=p;obtain ⟨es,rfl,q⟩:=q;split at z
  ·rename_i k;cases z;exact ⟨_,_,S,by delta Ev.bR;dsimp only;rw [if_pos (by rw [←p.length,←q.length];exact k)],⟨_,rfl,p.append q⟩,.refl⟩
  ·cases z
 ·obtain ⟨n,ds,rfl,a,p⟩:=p;obtain ⟨m,es,rfl,b,q⟩:=q
  delta Ev.bR;dsimp only;simp only [a,b]
  exact g9 w z (p.append q)
 ·subst p q;cases z;exact ⟨_,_,S,rfl,rfl,.refl⟩
 ·subst p q;split at z
  ·rename_i k;cases z;exact ⟨_,_,S,by delta Ev.bR;dsimp only;rw [if_pos k],rfl,.refl⟩
  ·cases z
 ·subst p q;split at z
  ·rename_i k;cases z;exact ⟨_,_,S,by delta Ev.bR;dsimp only;rw [if_pos k],rfl,.refl⟩
  ·cases z
 ·obtain ⟨ds,rfl,p⟩:=p;subst q;split at z
  ·rename_i k;cases z;exact ⟨_,_,S,by delta Ev.bR;dsimp only;rw [if_pos (by rw [←p.length];exact k)],⟨_,rfl,p.rep _⟩,.refl⟩
  ·cases z
 ·obtain ⟨n,ds,rfl,a,p⟩:=p;subst q;split at z
  ·rename_i k
   delta Ev.bR;dsimp only;simp only [a]
   rw [if_pos (by rw [←p.length];exact k)]
   exact g9 w z (p.rep _)
  ·cases z
 ·subst p q;split at z
  ·rename_i k;cases z;exact ⟨_,_,S,by delta Ev.bR;dsimp only;rw [if_pos k],rfl,.refl⟩
  ·cases z
 ·subst p q;split at z
  ·rename_i k;cases z;exact ⟨_,_,S,by delta Ev.bR;dsimp only;rw [if_pos k],rfl,.refl⟩
  ·cases z
theorem pH {x:V}{d:D}(p:Rep h U x d):∀ {l:List V}{ds:List D}{b},mem x l=some b→au h U l ds→Ev.mem h d ds=some b
 | [],_,b,e,q=>by simp only [au] at q;subst q;simpa [mem,Ev.mem] using e
 | y :: ys,_,b,e,q=>by
  simp only [au] at q
  obtain ⟨d',ds,rfl,q1,q2⟩:=q
  simp only [mem,Option.bind_eq_some_iff] at e
  obtain ⟨c,e1,c2,e2,e⟩:=e
  simp [Ev.mem,jB deep e1 q1 p,pH p e2 q2]
  simpa using e
theorem w9 {x y:V}{d e:D}{b:Bool}(z:isin x y=some b) (p:Rep h U x d) (q:Rep h U y e):Ev.isin d e h=some b:=by
 cases y <;> simp only [isin,reduceCtorEq] at z <;> simp only [Rep] at q
 ·subst q
  split at z
  ·simp only [Rep] at p;subst p;simpa [Ev.isin] using z
  ·cases z
 ·obtain ⟨ds,rfl,q⟩:=q;simpa [Ev.isin] using pH p z q
 ·obtain ⟨n,ds,rfl,_,a,q⟩:=q;simpa [Ev.isin,g6 a] using pH p z q
 ·obtain ⟨n,ds,rfl,_,a,q⟩:=q;simpa [Ev.isin,iD a] using pH p z q
theorem MT {o:bP}{x y:V}{d e:D}{b:Bool}(z:cop o x y=some b) (p:Rep h U x d) (q:Rep h U y e):Ev.cop o d e h=some b:=by
 cases o
 case eq=>delta cop at z;dsimp only at z;delta Ev.cop;dsimp only;exact jB deep z p q
 case ne=>
  delta cop at z;dsimp only at z;simp only [Option.map_eq_some_iff] at z;obtain ⟨c,z,rfl⟩:=z
  delta Ev.cop;dsimp only;simp only [jB deep z p q];rfl
 case isin=>delta cop at z;dsimp only at z;delta Ev.cop;dsimp only;exact w9 z p q
 case gD=>
  delta cop at z;dsimp only at z;simp only [Option.map_eq_some_iff] at z;obtain ⟨c,z,rfl⟩:=z
  delta Ev.cop;dsimp only;simp only [w9 z p q];rfl
 all_goals (
  cases x <;> first | exact nn z | (cases y <;> first | exact nn z | skip)
  simp only [Rep] at p q;subst p q;exact z)
theorem yN {l:List V}{ds:List D}{i:Int}{v:V}(e:bL l i=some v) (q:au h S l ds):∃ d,bL ds i=some d∧Rep h S v d:=by
 unfold bL at e ⊢
 rw [q.length] at e
 cases z:dM ds.length i with
 | none=>rw [z] at e;cases e
 | some j=>rw [z] at e;exact q.get e
theorem MU {x y v:V}{d e:D}(z:fq x y=some v) (p:bh h S x d) (q:bh h S y e):∃ r,Ev.fq d e h=some r∧Rep h S v r:=by
 cases x <;> cases y <;> simp only [fq,reduceCtorEq] at z <;> simp only [bh,Rep] at p q
 ·subst p q
  simp only [Option.map_eq_some_iff] at z
  obtain ⟨c,z,rfl⟩:=z
  exact ⟨.str [c],by simp [Ev.fq,z],rfl⟩
 ·obtain ⟨ds,rfl,p⟩:=p;subst q;simpa [Ev.fq] using yN z p
 ·obtain ⟨n,ds,rfl,a,p⟩:=p;subst q;simpa [Ev.fq,g6 a] using yN z p
 ·obtain ⟨n,ds,rfl,_,a,p⟩:=p;subst q;simpa [Ev.fq,iD a] using yN z p
theorem MV {x v:V}{d:D}{lo hi:Option Int}(w:∀ m,S m→m<h.length) (z:gT x lo hi=some v) (p:bh h S x d):∃ r h' S',Ev.gT d lo hi h=.ok r h'∧Rep h' S' v r∧Al h S h' S':=by
 cases x <;> simp only [gT,reduceCtorEq] at z <;> simp only [bh,Rep] at p
 ·subst p;cases z;exact ⟨_,_,S,rfl,rfl,.refl⟩
 ·obtain ⟨ds,rfl,p⟩:=p;cases z;exact ⟨_,_,S,rfl,⟨_,rfl,p.cut _ _⟩,.refl⟩
 ·obtain ⟨n,ds,rfl,a,p⟩:=p;simp only [Ev.gT,g6 a];exact g9 w z (p.cut _ _)
 ·obtain ⟨n,ds,rfl,_,a,p⟩:=p;simp only [Ev.gT,iD a];exact g9 w z (p.cut _ _)
theorem MW {x v:V}{d:D}(z:toT x=some v) (p:bh h S x d):∃ r,Ev.qD d h=.ok r h∧Rep h S v r:=by
 cases x <;> simp only [toT,reduceCtorEq] at z <;> simp only [bh,Rep] at p
 ·obtain ⟨ds,rfl,p⟩:=p;cases z;exact ⟨_,rfl,⟨_,rfl,p⟩⟩
 ·obtain ⟨n,ds,rfl,a,p⟩:=p
  unfold jy at z
  split at z
  ·rename_i k;cases z
   refine ⟨.tup ds,?_,⟨_,rfl,p⟩⟩
   simp only [Ev.qD,g6 a];rw [if_pos (by rw [←p.length];exact k)]
  ·cases z
 ·obtain ⟨n,ds,rfl,_,a,p⟩:=p
  unfold jy at z
  split at z
  ·rename_i k;cases z
   refine ⟨.tup ds,?_,⟨_,rfl,p⟩⟩
   simp only [Ev.qD,iD a];rw [if_pos (by rw [←p.length];exact k)]
  ·cases z
theorem qN {x:V}{l:List V}{d:D}(z:iQ x=some l) (p:bh h S x d):∃ s,Ev.oG h d=some s∧au h S l s.1∧(∀ q∈s.2,d=.ref q.1∧bu h q.1=some q.2):=by
 obtain ⟨n,ds,rfl,a,q⟩:=mH z p
 exact ⟨(ds,[(n,ds)]),by simp [Ev.oG,a],q,by simp [a]⟩
theorem De:∀ {l:List V}{ds:List D}{bs},boolsOf l=some bs→au h S l ds→Ev.boolsOf ds=some bs
 | [],_,_,e,q=>by simp only [au] at q;subst q;exact e
 | x :: xs,_,bs,e,q=>by
  cases x <;> simp only [boolsOf,reduceCtorEq,Option.map_eq_some_iff] at e
  obtain ⟨r,e,rfl⟩:=e
  simp only [au,Rep] at q
  obtain ⟨_,ds,rfl,rfl,q⟩:=q
  simp [Ev.boolsOf,De e q]
theorem qO:∀ {l:List V}{ds:List D}{bs},intsOf l=some bs→au h S l ds→Ev.intsOf ds=some bs
 | [],_,_,e,q=>by simp only [au] at q;subst q;exact e
 | x :: xs,_,bs,e,q=>by
  cases x <;> simp only [intsOf,reduceCtorEq,Option.map_eq_some_iff] at e
  obtain ⟨r,e,rfl⟩:=e
  simp only [au,Rep] at q
  obtain ⟨_,ds,rfl,rfl,q⟩:=q
  simp [Ev.intsOf,qO e q]
theorem xg:∀ {l:List V}{ds:List D}{bs},strsOf l=some bs→au h S l ds→Ev.strsOf ds=some bs
 | [],_,_,e,q=>by simp only [au] at q;subst q;exact e
 | x :: xs,_,bs,e,q=>by
  cases x <;> simp only [strsOf,reduceCtorEq,Option.map_eq_some_iff] at e
  obtain ⟨r,e,rfl⟩:=e
  simp only [au,Rep] at q
  obtain ⟨_,ds,rfl,rfl,q⟩:=q
  simp [Ev.strsOf,xg e q]
theorem fW.one {v:V}{ds:List D}(q:fW h S [v] ds):∃ d,ds=[d]∧bh h S v d:=by
 simp only [fW] at q
 obtain ⟨d,es,rfl,a,rfl⟩:=q
 exact ⟨d,rfl,a⟩
theorem MX {b:BI}{xs:List V}{v:V}{ds:List D}(w:∀ m,S m→m<h.length) (z:cX b xs=some v) (p:fW h S xs ds):∃ r h' S',Ev.cX b ds h=.ok r h'∧Rep h' S' v r∧Al h S h' S':=by
 delta cX at z
 rcases xs with _ | ⟨x,_ | ⟨y,_ | ⟨u,xs⟩⟩⟩
 ·cases b <;> exact nn z
 ·obtain ⟨d,rfl,p1⟩:=p.one
  cases b
  case len=>
   cases x
   case str s=>
    dsimp only at z;simp only [bh,Rep] at p1;subst p1
    split at z
    ·rename_i k;cases z;exact ⟨_,_,S,by delta Ev.cX;dsimp only;rw [if_pos k],rfl,.refl⟩
    ·cases z
   case tup l=>
    dsimp only at z;simp only [bh,Rep] at p1;obtain ⟨es,rfl,p2⟩:=p1
    cases z;exact ⟨_,_,S,rfl,by simp [Rep,p2.length],.refl⟩
   all_goals
    dsimp only at z
    simp only [Option.map_eq_some_iff] at z;obtain ⟨l,z,rfl⟩:=z
    obtain ⟨n,es,rfl,a,q⟩:=mH z p1
    exact ⟨.int es.length,h,S,by delta Ev.cX;dsimp only;simp [a],by simp [Rep,q.length],.refl⟩
  case sum=>
   dsimp only at z
   simp only [Option.map_eq_some_iff,Option.bind_eq_some_iff] at z;obtain ⟨bs,⟨l,z,z2⟩,rfl⟩:=z
   obtain ⟨n,es,rfl,a,q⟩:=mH z p1
   exact ⟨_,_,S,by delta Ev.cX;dsimp only;simp only [a,Option.bind,qO z2 q];rfl,rfl,.refl⟩
  case min=>cases x <;> exact nn z
  case yg=>
   dsimp only at z
   simp only [Option.bind_eq_some_iff] at z;obtain ⟨ss,⟨l,z,z2⟩,z3⟩:=z
   obtain ⟨n,es,rfl,a,q⟩:=mH z p1
   split at z3
   ·rename_i hl
    delta Ev.cX;dsimp only;simp only [a,Option.bind,qO z2 q]
    rw [if_pos hl]
    exact g9 w z3 (au.map (f:=V.int) (g:=D.int) (fun s=>by simp [Rep]) _)
   ·cases z3
  case jK=>
   dsimp only at z
   obtain ⟨kvs,z1,z⟩:=Option.bind_eq_some_iff.mp z
   obtain ⟨n,rfl,a⟩:=MR z1 p1
   by_cases hl:kvs.length<64
   ·rw [if_pos hl] at z
    delta Ev.cX;dsimp only;simp only [Ev.fT,a]
    rw [if_pos hl]
    exact g9 w z (au.map (f:=V.int) (g:=D.int) (fun s=>by simp [Rep]) _)
   ·rw [if_neg hl] at z;cases z
 ·cases b
  case min=>
   cases x
   case int i=>
    cases y
    case int j=>
     dsimp only at z
     simp only [fW,bh,Rep] at p;obtain ⟨_,_,rfl,rfl,_,_,rfl,rfl,rfl⟩:=p
     cases z;exact ⟨_,_,S,rfl,rfl,.refl⟩
    all_goals exact nn z
   all_goals exact nn z
  case len=>cases x <;> exact nn z
  all_goals exact nn z
 ·cases b
  case min=>cases x <;> (try cases y) <;> exact nn z
  case len=>cases x <;> exact nn z
  all_goals exact nn z
theorem MY {m:ME}{o:V}{xs:List V}{v:V}{d:D}{ds:List D}(z:eW m o xs=some v) (hm:iK m=false) (po:bh h S o d) (p:fW h S xs ds):Ev.wu m d h=true∧∃ r,Ev.eW m d ds h=.ok r h∧Rep h S v r:=by
 unfold eW at z
 split at z
 ·obtain ⟨d,rfl,p1⟩:=p.one;simp only [bh,Rep] at po;subst po
  simp only [Option.bind_eq_some_iff] at z;obtain ⟨ss,⟨l,z,z2⟩,z3⟩:=z
  obtain ⟨n,es,rfl,a,q⟩:=mH z p1
  split at z3
  ·rename_i k;cases z3
   refine ⟨rfl,_,?_,rfl⟩
   delta Ev.eW;dsimp only;simp only [a,Option.bind,xg z2 q]
   rw [if_pos k]
  ·cases z3
 ·cases z
theorem Je {x:V}{d:D}(f:sE x=true) (p:Rep h U x d):Rep [] U x d:=by
 cases x <;> simp only [sE,Bool.false_eq_true] at f <;> exact p
theorem Df {x:V}{d:D}(p:Rep h U x d):∀ {kvs:List (D×D)}{v:V},eT x kvs=some v→∃ r,Ev.eT d kvs=some r∧Rep h S v r:=by
 intro kvs v z
 unfold eT at z
 split at z
 ·rename_i f
  have p':=Je f p
  induction kvs with
  | nil=>cases z
  | cons kv r ih=>
   obtain ⟨k,u⟩:=kv
   simp only [yJ] at z
   simp only [Ev.eT]
   split at z
   ·rename_i y
    simp only [Option.bind_eq_some_iff] at y
    obtain ⟨k',y1,y2⟩:=y
    rw [jB 1 y2 (mJ y1) p']
    exact ⟨u,rfl,mJ z⟩
   ·rename_i y
    simp only [Option.bind_eq_some_iff] at y
    obtain ⟨k',y1,y2⟩:=y
    rw [jB 1 y2 (mJ y1) p']
    exact ih z
   ·cases z
 ·cases z
theorem Dg {x:V}{l:List V}{d:D}(z:er x=some l) (p:bh h S x d):∃ s,Ev.er h d=some s∧au h S l s.1∧(∀ q∈s.2,d=.ref q.1∧bu h q.1=some q.2):=by
 cases x <;> simp only [er,reduceCtorEq] at z <;> simp only [bh,Rep] at p
 ·subst p;cases z;exact ⟨_,rfl,au.map (f:=fun c=>V.str [c]) (g:=fun c=>D.str [c]) (fun _=>by simp [Rep]) _,by simp⟩
 ·obtain ⟨ds,rfl,p⟩:=p;cases z;exact ⟨_,rfl,p,by simp⟩
 ·obtain ⟨n,ds,rfl,a,p⟩:=p;cases z;exact ⟨(ds,[(n,ds)]),by simp [Ev.er,g6 a],p,by simp [g6 a]⟩
 ·obtain ⟨n,ds,rfl,_,a,p⟩:=p;cases z;exact ⟨(ds,[(n,ds)]),by simp [Ev.er,iD a],p,by simp [iD a]⟩
theorem uE (lo:Int) (n:Nat):au h S (range lo n) (Ev.range lo n):=au.map (f:=fun (i:Nat)=>V.int (lo+i)) (g:=fun (i:Nat)=>D.int (lo+i)) (fun _=>by simp [Rep]) _
theorem MZ {xs l:List V}{ds:List D}(z:dO xs=some l) (p:fW h S xs ds):∃ s,Ev.dO ds=some (s,[])∧au h S l s:=by
 unfold dO at z
 split at z
 ·obtain ⟨d,rfl,p1⟩:=p.one;simp only [bh,Rep] at p1;subst p1
  split at z
  ·rename_i k;cases z;exact ⟨_,by simp only [Ev.dO];rw [if_pos k],uE _ _⟩
  ·cases z
 ·simp only [fW,bh,Rep] at p;obtain ⟨_,_,rfl,rfl,_,_,rfl,rfl,rfl⟩:=p
  split at z
  ·rename_i k;cases z;exact ⟨_,by simp only [Ev.dO];rw [if_pos k],uE _ _⟩
  ·cases z
 ·cases z
theorem AN:∀ {a b:List V}{ds es:List D},au h S a ds→au h S b es→au h S (dP a b) (Ev.dP ds es)
 | [],_,_,_,p,q=>by simp only [au] at p;subst p;simp [dP,Ev.dP,au]
 | _ :: _,[],_,_,p,q=>by simp only [au] at q;subst q;simp [dP,Ev.dP,au]
 | x :: xs,y :: ys,_,_,p,q=>by
  simp only [au] at p q
  obtain ⟨d,ds,rfl,p1,p2⟩:=p
  obtain ⟨e,es,rfl,q1,q2⟩:=q
  have:=AN p2 q2
  simp only [dP,Ev.dP,List.zipWith_cons_cons] at this ⊢
  exact .cons ⟨_,rfl,.cons p1 (.cons q1 .nil)⟩ this
theorem xj:∀ {a:List V}{ds:List D}(k:Int),au h S a ds→au h S (gE k a) (Ev.gE k ds)
 | [],_,_,p=>by simp only [au] at p;subst p;simp [gE,Ev.gE,au]
 | x :: xs,_,k,p=>by
  simp only [au] at p
  obtain ⟨d,ds,rfl,p1,p2⟩:=p
  simp only [gE,Ev.gE]
  exact .cons ⟨_,rfl,.cons rfl (.cons p1 .nil)⟩ (xj _ p2)
end
end Pv
namespace Pv
open Ev (D O Hh bZ bP TY BI ME T E Es Eo It S Ss Fn big deep b2i rep cz dM bL aR cut cJ d8 slots bu)
noncomputable def kg (M B:Nat→Prop) (h:Hh) (S:Nat→Prop):Option Sl→Option D→Prop
 | none,p=>p=none
 | some (.val v),p=>∃ d,p=some d∧Rep h S v d
 | some (.own l),p=>∃ m ds,p=some (.ref m)∧(M m∧¬ B m)∧h[m]?=some (.lst ds)∧au h S l ds
 | some (.bor l),p=>∃ m ds,p=some (.ref m)∧(M m∧B m)∧h[m]?=some (.lst ds)∧au h S l ds
 | some (.ro l),p=>∃ m ds,p=some (.ref m)∧¬ M m∧h[m]?=some (.lst ds)∧au h S l ds
noncomputable def gI:Option Sl→Bool
 | some (.own _)=>true
 | some (.bor _)=>true
 | _=>false
noncomputable def xm:Option Sl→Bool
 | some (.bor _)=>true
 | some (.ro _)=>true
 | _=>false
noncomputable def locked (fr:Fr) (i:Nat):Bool:=match fr[i]? with
 | some o=>xm o
 | none=>false
structure bI (M B:Nat→Prop) (h:Hh) (S:Nat→Prop) (fr:Fr) (aj:Ev.Fr):Prop where
 wS:∀ m,S m→m<h.length∧¬ M m∧¬ B m
 wM:∀ m,M m→m<h.length
 wB:∀ m,B m→m<h.length
 len:fr.length=aj.length
 sl:∀ (i:Nat) o p,fr[i]?=some o→aj[i]?=some p→kg M B h S o p
 inj:∀ (i j:Nat) o o' m,fr[i]?=some o→fr[j]?=some o'→gI o=true→gI o'=true→aj[i]?=some (some (.ref m))→aj[j]?=some (some (.ref m))→i=j
structure Tk (X:Nat→Prop) (h:Hh) (S:Nat→Prop) (h':Hh) (S':Nat→Prop):Prop where
 len:h.length≤h'.length
 keep:∀ m,m<h.length→¬ X m→h'[m]?=h[m]?
 sub:∀ m,S m→S' m
 new:∀ m,S' m→S m∨(h.length≤m∧m<h'.length)
noncomputable def Xs (M:Nat→Prop) (aj:Ev.Fr) (l:List Nat):Nat→Prop:=fun m=>M m∧∃ i∈l,aj[i]?=some (some (.ref m))
structure Out (M B:Nat→Prop) (c:List Nat) (h:Hh) (S:Nat→Prop) (fr:Fr) (aj:Ev.Fr) (h':Hh) (S':Nat→Prop) (af:Fr):Prop where
 f:bI M B h' S' af aj
 tr:Tk (Xs M aj c) h S h' S'
 lk:∀ i,locked af i=locked fr i
section
variable {M B M':Nat→Prop}{h h' h1 h2:Hh}{S S' S1 S2:Nat→Prop}{fr af ao:Fr}{aj:Ev.Fr}{c c1 c2:List Nat}{v:V}{d:D}{X X1 X2:Nat→Prop}
theorem bI.get (f:bI M B h S fr aj) {i:Nat}{o:Option Sl}(e:fr[i]?=some o):∃ p,aj[i]?=some p∧kg M B h S o p:=by
 have h1:=(List.getElem?_eq_some_iff.mp e).1
 rw [f.len] at h1
 exact ⟨aj[i],List.getElem?_eq_getElem h1,f.sl i o _ e (List.getElem?_eq_getElem h1)⟩
theorem bI.w (f:bI M B h S fr aj):∀ m,S m→m<h.length:=fun m q=>(f.wS m q).1
theorem Al.tr (a:Al h S h' S'):Tk X h S h' S':=⟨a.len,fun m q _=>a.keep m q,a.sub,a.new⟩
theorem Tk.al (t:Tk X h S h' S') (z:∀ m,¬ X m):Al h S h' S':=⟨t.len,fun m q=>t.keep m q (z m),t.sub,t.new⟩
theorem Tk.weak (t:Tk X h S h' S') (q:∀ m,X m→X1 m):Tk X1 h S h' S':=⟨t.len,fun m k z=>t.keep m k fun y=>z (q m y),t.sub,t.new⟩
theorem Tk.trans (a:Tk X1 h S h1 S1) (b:Tk X2 h1 S1 h2 S2):Tk (fun m=>X1 m∨X2 m) h S h2 S2 where
 len:=Nat.le_trans a.len b.len
 keep:=fun m q z=>by rw [b.keep m (Nat.lt_of_lt_of_le q a.len) (fun y=>z (.inr y)),a.keep m q (fun y=>z (.inl y))]
 sub:=fun m q=>b.sub m (a.sub m q)
 new:=fun m q=>by
  rcases b.new m q with q | ⟨q1,q2⟩
  ·rcases a.new m q with q | ⟨q1,q2⟩
   ·exact .inl q
   ·exact .inr ⟨q1,Nat.lt_of_lt_of_le q2 b.len⟩
  ·exact .inr ⟨Nat.le_trans a.len q1,q2⟩
theorem Al.trans (a:Al h S h1 S1) (b:Al h1 S1 h2 S2):Al h S h2 S2:=((a.tr (X:=fun _=>False)).trans (b.tr (X:=fun _=>False))).al fun m z=>by simp at z
theorem Tk.refl:Tk X h S h S:=⟨Nat.le_refl _,fun _ _ _=>rfl,fun _ q=>q,fun _ q=>.inl q⟩
theorem Xs.app {l1 l2:List Nat}{m:Nat}:Xs M aj (l1++l2) m↔Xs M aj l1 m∨Xs M aj l2 m:=by
 unfold Xs
 constructor
 ·rintro ⟨a,i,hi,e⟩
  rcases List.mem_append.mp hi with hi | hi
  ·exact .inl ⟨a,i,hi,e⟩
  ·exact .inr ⟨a,i,hi,e⟩
 ·rintro (⟨a,i,hi,e⟩ | ⟨a,i,hi,e⟩)
  ·exact ⟨a,i,List.mem_append.mpr (.inl hi),e⟩
  ·exact ⟨a,i,List.mem_append.mpr (.inr hi),e⟩
theorem Xs.nil {m:Nat}:¬ Xs M aj [] m:=by rintro ⟨_,i,hi,_⟩;simp at hi
theorem Xs.mono {l1 l2:List Nat}(q:∀ i∈l1,i∈l2) {m:Nat}:Xs M aj l1 m→Xs M aj l2 m:=fun ⟨a,i,hi,e⟩=>⟨a,i,q i hi,e⟩
theorem Rep.tr (q:Rep h S v d) (f:bI M B h S fr aj) (t:Tk (Xs M aj c) h S h' S'):Rep h' S' v d:=q.mono (fun m z=>t.keep m (f.wS m z).1 (fun y=>(f.wS m z).2.1 y.1)) t.sub
theorem au.tr {l:List V}{ds:List D}(q:au h S l ds) (f:bI M B h S fr aj) (t:Tk (Xs M aj c) h S h' S'):au h' S' l ds:=q.mono (fun m z=>t.keep m (f.wS m z).1 (fun y=>(f.wS m z).2.1 y.1)) t.sub
theorem bh.tr (q:bh h S v d) (f:bI M B h S fr aj) (t:Tk X h S h' S') (z:∀ m,¬ X m):bh h' S' v d:=q.mono (fun m k=>t.keep m k (z m)) f.w t.sub
theorem kg.al {o:Option Sl}{p:Option D}(q:kg M B h S o p) (w:∀ m,S m→m<h.length) (a:Al h S h' S'):kg M B h' S' o p:=by
 have k:∀ m,S m→h'[m]?=h[m]?:=fun m z=>a.keep m (w m z)
 have g:∀ (m:Nat) (ds:List D),h[m]?=some (O.lst ds)→h'[m]?=some (O.lst ds):=fun m ds z=>by rw [a.keep m (List.getElem?_eq_some_iff.mp z).1];exact z
 rcases o with _ | s
 ·exact q
 ·cases s with
  | val v=>obtain ⟨d,e,q⟩:=q;exact ⟨d,e,q.mono k a.sub⟩
  | own l=>obtain ⟨m,ds,e,z,y,q⟩:=q;exact ⟨m,ds,e,z,g m ds y,q.mono k a.sub⟩
  | bor l=>obtain ⟨m,ds,e,z,y,q⟩:=q;exact ⟨m,ds,e,z,g m ds y,q.mono k a.sub⟩
  | ro l=>obtain ⟨m,ds,e,z,y,q⟩:=q;exact ⟨m,ds,e,z,g m ds y,q.mono k a.sub⟩
theorem bI.al (f:bI M B h S fr aj) (a:Al h S h' S'):bI M B h' S' fr aj where
 wS:=fun m q=>by
  rcases a.new m q with q | ⟨q1,q2⟩
  ·exact ⟨Nat.lt_of_lt_of_le (f.wS m q).1 a.len,(f.wS m q).2⟩
  ·exact ⟨q2,fun z=>by have:=f.wM m z;omega,fun z=>by have:=f.wB m z;omega⟩
 wM:=fun m q=>Nat.lt_of_lt_of_le (f.wM m q) a.len
 wB:=fun m q=>Nat.lt_of_lt_of_le (f.wB m q) a.len
 len:=f.len
 sl:=fun i o p e1 e2=>(f.sl i o p e1 e2).al f.w a
 inj:=f.inj
theorem Out.refl (f:bI M B h S fr aj):Out M B c h S fr aj h S fr:=⟨f,.refl,fun _=>rfl⟩
theorem Out.trans (a:Out M B c1 h S fr aj h1 S1 af) (b:Out M B c2 h1 S1 af aj h2 S2 ao):Out M B (c1++c2) h S fr aj h2 S2 ao:=⟨b.f,(a.tr.trans b.tr).weak fun m z=>Xs.app.mpr z,fun i=>(b.lk i).trans (a.lk i)⟩
theorem Out.al (a:Out M B c h S fr aj h1 S1 af) (b:Al h1 S1 h2 S2):Out M B c h S fr aj h2 S2 af:=⟨a.f.al b,(a.tr.trans (b.tr (X:=fun _=>False))).weak (fun m z=>by rcases z with z | z;exact z;exact z.elim),a.lk⟩
theorem Out.weak (a:Out M B c h S fr aj h1 S1 af) (q:∀ i∈c,i∈c1):Out M B c1 h S fr aj h1 S1 af:=⟨a.f,a.tr.weak fun m z=>Xs.mono q z,a.lk⟩
noncomputable def fD (k:Bool) (h:Hh) (S:Nat→Prop) (v:V) (d:D):Prop:=if k=true then bh h S v d else Rep h S v d
theorem fD.of {k:Bool}(q:Rep h S v d):fD k h S v d:=by unfold fD;split;exact q.top;exact q
theorem fD.t {k:Bool}(q:fD k h S v d):bh h S v d:=by unfold fD at q;split at q;exact q;exact q.top
theorem fD.n (q:fD false h S v d):Rep h S v d:=by simpa [fD] using q
theorem bI.slot (f:bI M B h S fr aj) {i m:Nat}(e:aj[i]?=some (some (.ref m))) (hm:M m):∃ o,fr[i]?=some o∧gI o=true:=by
 have hl:i<fr.length:=by rw [f.len];exact (List.getElem?_eq_some_iff.mp e).1
 refine ⟨fr[i],List.getElem?_eq_getElem hl,?_⟩
 have s:=f.sl i _ _ (List.getElem?_eq_getElem hl) e
 revert s
 generalize fr[i]=o
 intro s
 rcases o with _ | s'
 ·cases s
 ·cases s' with
  | own l=>rfl
  | bor l=>rfl
  | ro l=>obtain ⟨m',ds,e,y,_⟩:=s;cases e;exact absurd hm y
  | val v=>
   obtain ⟨d,e,q⟩:=s
   cases e
   exfalso
   cases v <;> simp only [Rep,reduceCtorEq] at q
   ·obtain ⟨_,e,_⟩:=q;cases e
   ·obtain ⟨n,ds,e,sn,_⟩:=q;cases e;exact (f.wS _ sn).2.1 hm
   ·obtain ⟨n,ds,e,sn,_⟩:=q;cases e;exact (f.wS _ sn).2.1 hm
   ·obtain ⟨n,e,sn,_⟩:=q;cases e;exact (f.wS _ sn).2.1 hm
theorem fD.tr {k:Bool}{a:E}(q:fD k h S v d) (f:bI M B h S fr aj) (t:Tk (Xs M aj c) h S h' S') (hk:k=true→kf a c=true) (ha:∀ i,a=.v i→aj[i]?.join=some d):fD k h' S' v d:=by
 unfold fD at q ⊢
 split at q
 ·rename_i e
  rw [if_pos e]
  have hk:=hk e
  have gen:c=[]→bh h' S' v d:=fun z=>q.tr f t fun m y=>by subst z;exact Xs.nil y
  by_cases hv:∃ i,a=.v i
  ·obtain ⟨i0,rfl⟩:=hv
   simp only [kf,Bool.not_eq_true',List.contains_eq_mem,decide_eq_false_iff_not] at hk
   cases v
   case lst l=>
    simp only [bh] at q ⊢
    obtain ⟨n,ds,rfl,b1,b2⟩:=q
    refine ⟨n,ds,rfl,?_,b2.tr f t⟩
    rw [t.keep n (List.getElem?_eq_some_iff.mp b1).1 ?_]
    ·exact b1
    ·rintro ⟨mn,j,hj,ej⟩
     have e2:aj[i0]?=some (some (D.ref n)):=by
      have:=ha i0 rfl
      cases z:aj[i0]? with
      | none=>rw [z] at this;cases this
      | some p=>rw [z] at this;simp at this;rw [this]
     obtain ⟨o1,y1,y2⟩:=f.slot e2 mn
     obtain ⟨o2,y3,y4⟩:=f.slot ej mn
     have:=f.inj i0 j o1 o2 n y1 y3 y2 y4 e2 ej
     subst this
     exact hk hj
   all_goals exact Rep.tr (show Rep h S _ d from q) f t
  ·have:kf a c=c.isEmpty:=by
    cases a <;> first | rfl | exact absurd ⟨_,rfl⟩ hv
   rw [this,List.isEmpty_iff] at hk
   exact gen hk
 ·rename_i e
  rw [if_neg e]
  exact q.tr f t
theorem Jf {k:Bool}{i:Nat}(e:j3 k fr i=some v) (f:bI M B h S fr aj):∃ d,aj[i]?.join=some d∧fD k h S v d:=by
  unfold j3 at e
  split at e
  · rename_i z
    obtain ⟨p,e1,q⟩:=f.get z
    obtain ⟨d,rfl,q⟩:=q
    cases e
    exact ⟨d,by rw [e1];rfl,.of q⟩
  all_goals first
    | (rename_i z
       obtain ⟨p,e1,q⟩:=f.get z
       obtain ⟨m,ds,rfl,_,y,q⟩:=q
       split at e
       · rename_i hk
         cases e
         exact ⟨.ref m,by rw [e1];rfl,by unfold fD;rw [if_pos hk];exact ⟨m,ds,rfl,y,q⟩⟩
       · cases e)
    | cases e
theorem jl {i:Nat}{s:Sl}(e:lent fr i=some s) (f:bI M B h S fr aj):∃ m ds l o,fr[i]?=some o∧aj[i]?=some (some (.ref m))∧h[m]?=some (.lst ds)∧au h S l ds∧((s=.bor l∧M m∧gI o=true)∨(s=.ro l∧¬ M m∧o=some (.ro l))):=by
 unfold lent at e
 split at e
 ·rename_i s' z
  obtain ⟨p,e1,q⟩:=f.get z
  cases s' with
  | val v=>simp [Sl.lend] at e
  | own l=>
   simp [Sl.lend] at e;subst e
   obtain ⟨m,ds,rfl,y,y1,q⟩:=q
   exact ⟨m,ds,l,_,z,e1,y1,q,.inl ⟨rfl,y.1,rfl⟩⟩
  | bor l=>
   simp [Sl.lend] at e;subst e
   obtain ⟨m,ds,rfl,y,y1,q⟩:=q
   exact ⟨m,ds,l,_,z,e1,y1,q,.inl ⟨rfl,y.1,rfl⟩⟩
  | ro l=>
   simp [Sl.lend] at e;subst e
   obtain ⟨m,ds,rfl,y,y1,q⟩:=q
   exact ⟨m,ds,l,_,z,e1,y1,q,.inr ⟨rfl,y,rfl⟩⟩
 ·cases e
noncomputable def uF (h:Hh) (S:Nat→Prop) (aj:Ev.Fr):List (Nat ⊕ V)→List D→Prop
 | [],ds=>ds=[]
 | .inl i :: r,ds=>∃ d es,ds=d :: es∧aj[i]?=some (some d)∧uF h S aj r es
 | .inr v :: r,ds=>∃ d es,ds=d :: es∧Rep h S v d∧uF h S aj r es
noncomputable def mK (h:Hh) (S:Nat→Prop):List Sl→List D→List (List V)→Prop
 | [],_,os=>os=[]
 | .val _ :: sl,ds,os=>∃ d es,ds=d :: es∧mK h S sl es os
 | .own _ :: _,_,_=>False
 | _ :: sl,ds,os=>∃ d es l r m cs,ds=d :: es∧os=l :: r∧d=.ref m∧h[m]?=some (.lst cs)∧au h S l cs∧mK h S sl es r
noncomputable def pI (P:aP) (P':Ev.aP):Prop:=∀ f sl v os,P f sl=some (v,os)→∀ (h:Hh) (S B:Nat→Prop) (ds:List D),bI B B h S (sl.map some) (ds.map some)→
 ∃ d h' S',P' f ds h=.ok d h'∧Rep h' S' v d∧Tk B h S h' S'∧mK h' S' sl ds os
theorem args_get (f:bI M B h S fr aj):∀ {as:List (Nat ⊕ V)}{sl:List Sl}{ds:List D},args fr as=some sl→uF h S aj as ds→sl.length=ds.length∧∀ (a:Nat) s d,sl[a]?=some s→ds[a]?=some d→
  (∃ i,as[a]?=some (.inl i)∧lent fr i=some s∧aj[i]?=some (some d))∨(∃ v,s=.val v∧Rep h S v d)
 | [],sl,ds,e,q=>by
  simp [args] at e;simp only [uF] at q;subst e q;simp
 | .inl i :: r,sl,ds,e,q=>by
  simp only [args,Option.bind_eq_some_iff,Option.map_eq_some_iff] at e
  obtain ⟨s,e1,l,e2,rfl⟩:=e
  obtain ⟨d,es,rfl,q1,q⟩:=q
  obtain ⟨h1,h2⟩:=args_get f e2 q
  refine ⟨by simp [h1],fun a s' d' z1 z2=>?_⟩
  cases a with
  | zero=>simp at z1 z2;subst z1 z2;exact .inl ⟨i,by simp,e1,q1⟩
  | succ a=>exact (h2 a s' d' (by simpa using z1) (by simpa using z2)).imp (fun ⟨i,k,z⟩=>⟨i,by simpa using k,z⟩) id
 | .inr v :: r,sl,ds,e,q=>by
  simp only [args,Option.map_eq_some_iff] at e
  obtain ⟨l,e2,rfl⟩:=e
  obtain ⟨d,es,rfl,q1,q⟩:=q
  obtain ⟨h1,h2⟩:=args_get f e2 q
  refine ⟨by simp [h1],fun a s' d' z1 z2=>?_⟩
  cases a with
  | zero=>simp at z1 z2;subst z1 z2;exact .inr ⟨v,rfl,q1⟩
  | succ a=>exact (h2 a s' d' (by simpa using z1) (by simpa using z2)).imp (fun ⟨i,k,z⟩=>⟨i,by simpa using k,z⟩) id
theorem gK:∀ {as:List (Nat ⊕ V)}{a i:Nat},as[a]?=some (.inl i)→i∈bT as
 | [],_,_,e=>by simp at e
 | .inl j :: r,0,i,e=>by simp at e;subst e;simp [bT]
 | .inr j :: r,0,i,e=>by simp at e
 | .inl j :: r,a+1,i,e=>by have:=gK (as:=r) (a:=a) (i:=i) (by simpa using e);simp [bT,this]
 | .inr j :: r,a+1,i,e=>by have:=gK (as:=r) (a:=a) (i:=i) (by simpa using e);simp [bT,this]
theorem mL:∀ {as:List (Nat ⊕ V)}{a b i:Nat},(bT as).Nodup→as[a]?=some (.inl i)→as[b]?=some (.inl i)→a=b
 | [],_,_,_,_,e,_=>by simp at e
 | x :: r,0,0,_,_,_,_=>rfl
 | .inr j :: r,0,b+1,i,n,e,_=>by simp at e
 | .inl j :: r,0,b+1,i,n,e,e2=>by
  simp at e;subst e
  simp only [bT,List.nodup_cons] at n
  exact absurd (gK (as:=r) (a:=b) (by simpa using e2)) n.1
 | .inr j :: r,a+1,0,i,n,_,e=>by simp at e
 | .inl j :: r,a+1,0,i,n,e2,e=>by
  simp at e;subst e
  simp only [bT,List.nodup_cons] at n
  exact absurd (gK (as:=r) (a:=a) (by simpa using e2)) n.1
 | .inl j :: r,a+1,b+1,i,n,e1,e2=>by
  simp only [bT,List.nodup_cons] at n
  have:=mL (as:=r) (a:=a) (b:=b) (i:=i) n.2 (by simpa using e1) (by simpa using e2)
  omega
 | .inr j :: r,a+1,b+1,i,n,e1,e2=>by
  simp only [bT] at n
  have:=mL (as:=r) (a:=a) (b:=b) (i:=i) n (by simpa using e1) (by simpa using e2)
  omega
theorem Dh {s:Sl}{l:List V}:gI (some (s.with l))=gI (some s):=by cases s <;> rfl
theorem xo {s:Sl}{l:List V}:xm (some (s.with l))=xm (some s):=by cases s <;> rfl
theorem uG:∀ {is:List Nat}{ls:List (List V)}{fr af:Fr},back is ls fr=some af→is.Nodup→af.length=fr.length∧(∀ i,i∉is→af[i]?=fr[i]?)∧∀ i∈is,∃ (k:Nat) (s:Sl) (l:List V),is[k]?=some i∧ls[k]?=some l∧fr[i]?=some (some s)∧af[i]?=some (some (s.with l))
 | [],[],fr,af,e,_=>by simp [back] at e;subst e;simp
 | [],_ :: _,_,_,e,_=>by simp [back] at e
 | _ :: _,[],_,_,e,_=>by simp [back] at e
 | i :: is,l :: ls,fr,af,e,n=>by
  simp only [back] at e
  simp only [List.nodup_cons] at n
  split at e
  ·rename_i s z
   obtain ⟨h1,h2,h3⟩:=uG e n.2
   refine ⟨by simpa using h1,fun j hj=>?_,fun j hj=>?_⟩
   ·simp at hj
    rw [h2 j hj.2,List.getElem?_set_ne (fun q=>hj.1 q.symm)]
   ·rcases List.mem_cons.mp hj with rfl | hj
    ·exact ⟨0,s,l,by simp,by simp,z,by rw [h2 j n.1,List.getElem?_set_self (List.getElem?_eq_some_iff.mp z).1]⟩
    ·obtain ⟨k,s',l',a,b,c,d⟩:=h3 j hj
     have hne:i≠j:=fun q=>n.1 (q▸hj)
     rw [List.getElem?_set_ne hne] at c
     exact ⟨k+1,s',l',by simpa using a,by simpa using b,c,d⟩
  ·cases e
theorem mP (f:bI M B h S fr aj):∀ {as:List (Nat ⊕ V)}{sl:List Sl}{ds:List D}{os:List (List V)},args fr as=some sl→uF h S aj as ds→mK h' S' sl ds os→
  ∀ (k i:Nat) l,(bT as)[k]?=some i→os[k]?=some l→∃ m cs,aj[i]?=some (some (.ref m))∧h'[m]?=some (.lst cs)∧au h' S' l cs
 | [],sl,ds,os,e,q,o=>by simp [bT]
 | .inl i :: r,sl,ds,os,e,q,o=>by
  simp only [args,Option.bind_eq_some_iff,Option.map_eq_some_iff] at e
  obtain ⟨s,e1,l,e2,rfl⟩:=e
  obtain ⟨d,es,rfl,q1,q⟩:=q
  obtain ⟨m,cs,l0,o0,_,z2,z3,z4,z5⟩:=jl e1 f
  have key:∃ l1 r1 cs,os=l1 :: r1∧h'[m]?=some (.lst cs)∧au h' S' l1 cs∧mK h' S' l es r1:=by
   rw [q1] at z2;cases z2
   rcases z5 with ⟨rfl,_⟩ | ⟨rfl,_⟩
   ·obtain ⟨d',es',l1,r1,m1,AO,a1,a2,a3,a4,a5,a6⟩:=o
    cases a1;cases a3
    exact ⟨l1,r1,AO,a2,a4,a5,a6⟩
   ·obtain ⟨d',es',l1,r1,m1,AO,a1,a2,a3,a4,a5,a6⟩:=o
    cases a1;cases a3
    exact ⟨l1,r1,AO,a2,a4,a5,a6⟩
  obtain ⟨l1,r1,AO,rfl,a4,a5,a6⟩:=key
  intro k j l' y1 y2
  cases k with
  | zero=>simp [bT] at y1 y2;subst y1 y2;exact ⟨m,AO,z2,a4,a5⟩
  | succ k=>exact mP f e2 q a6 k j l' (by simpa [bT] using y1) (by simpa using y2)
 | .inr v :: r,sl,ds,os,e,q,o=>by
  simp only [args,Option.map_eq_some_iff] at e
  obtain ⟨l,e2,rfl⟩:=e
  obtain ⟨d,es,rfl,q1,q⟩:=q
  obtain ⟨d',es',a1,a2⟩:=o
  cases a1
  intro k j l' y1 y2
  exact mP f e2 q a2 k j l' (by simpa [bT] using y1) y2
theorem kP:∀ {as:List (Nat ⊕ V)}{sl:List Sl}{i:Nat},args fr as=some sl→i∈bT as→∃ s,lent fr i=some s
 | [],_,_,_,q=>by simp [bT] at q
 | .inl j :: r,_,i,z,q=>by
  simp only [args,Option.bind_eq_some_iff,Option.map_eq_some_iff] at z
  obtain ⟨s,e1,l,e2,rfl⟩:=z
  simp [bT] at q
  rcases q with rfl | q
  ·exact ⟨s,e1⟩
  ·exact kP e2 q
 | .inr u :: r,_,i,z,q=>by
  simp only [args,Option.map_eq_some_iff] at z
  obtain ⟨l,e2,rfl⟩:=z
  exact kP e2 (by simpa [bT] using q)
theorem Di {P:aP}{P':Ev.aP}(HP:pI P P') {g:Nat}{as:List (Nat ⊕ V)}{ds:List D}(e:eU P g as fr=.ok v af) (f:bI M B h S fr aj) (q:uF h S aj as ds) :
  ∃ d h' S',P' g ds h=.ok d h'∧Rep h' S' v d∧Out M B (bT as) h S fr aj h' S' af:=by
 unfold eU at e
 split at e
 case isFalse=>cases e
 rename_i nd
 cases z:args fr as with
 | none=>rw [z] at e;cases e
 | some sl=>
 rw [z] at e
 simp only at e
 cases z2:P g sl with
 | none=>rw [z2] at e;cases e
 | some vo=>
 obtain ⟨v',os⟩:=vo
 rw [z2] at e
 simp only at e
 cases z3:back (bT as) os fr with
 | none=>rw [z3] at e;cases e
 | some ao=>
 rw [z3] at e
 simp at e
 obtain ⟨rfl,rfl⟩:=e
 obtain ⟨hl,hg⟩:=args_get f z q
 let B0:Nat→Prop:=fun m=>∃ i o,i∈bT as∧fr[i]?=some o∧gI o=true∧aj[i]?=some (some (.ref m))
 have pJ:∀ m,B0 m→M m:=fun m ⟨i,o,_,a,b,c⟩=>by
  have s:=f.sl i o _ a c
  rcases o with _ | s'
  ·cases b
  ·cases s' with
   | val v=>cases b
   | ro l=>cases b
   | own l=>obtain ⟨m',ds',e,y,_⟩:=s;cases e;exact y.1
   | bor l=>obtain ⟨m',ds',e,y,_⟩:=s;cases e;exact y.1
 have F0:bI B0 B0 h S (sl.map some) (ds.map some):=by
  refine ⟨fun m y=>⟨(f.wS m y).1,fun z=>(f.wS m y).2.1 (pJ m z),fun z=>(f.wS m y).2.1 (pJ m z)⟩,fun m y=>f.wM m (pJ m y),fun m y=>f.wM m (pJ m y),by simp [hl],fun a o p y1 y2=>?_,fun a b o o' m y1 y2 y3 y4 y5 y6=>?_⟩
  ·simp at y1 y2
   obtain ⟨s,y1,rfl⟩:=y1
   obtain ⟨d,y2,rfl⟩:=y2
   rcases hg a s d y1 y2 with ⟨i,k1,k2,k3⟩ | ⟨u,rfl,k⟩
   ·obtain ⟨m,cs,l0,o0,w1,w2,w3,w4,w5⟩:=jl k2 f
    rw [k3] at w2;cases w2
    rcases w5 with ⟨rfl,w6,w7⟩ | ⟨rfl,w6,w7⟩
    ·exact ⟨m,cs,rfl,⟨⟨i,o0,gK k1,w1,w7,k3⟩,⟨i,o0,gK k1,w1,w7,k3⟩⟩,w3,w4⟩
    ·exact ⟨m,cs,rfl,fun z=>w6 (pJ m z),w3,w4⟩
   ·exact ⟨d,rfl,k⟩
  ·simp at y1 y2 y5 y6
   obtain ⟨s,y1,rfl⟩:=y1
   obtain ⟨s',y2,rfl⟩:=y2
   rcases hg a s _ y1 y5 with ⟨i,k1,k2,k3⟩ | ⟨u,rfl,k⟩
   ·rcases hg b s' _ y2 y6 with ⟨j,k4,k5,k6⟩ | ⟨u,rfl,k⟩
    ·obtain ⟨m1,_,l1,o1,w1,w2,_,_,w5⟩:=jl k2 f
     obtain ⟨m2,_,l2,o2,x1,x2,_,_,x5⟩:=jl k5 f
     have i1:gI o1=true:=by rcases w5 with ⟨_,_,w7⟩ | ⟨rfl,_,_⟩;exact w7;cases y3
     have i2:gI o2=true:=by rcases x5 with ⟨_,_,w7⟩ | ⟨rfl,_,_⟩;exact w7;cases y4
     have:=f.inj i j o1 o2 m w1 x1 i1 i2 k3 k6
     subst this
     exact mL nd k1 k4
    ·cases y4
   ·cases y3
 obtain ⟨d,h',S',c1,c2,c3,c4⟩:=HP g sl v' os z2 h S B0 ds F0
 obtain ⟨b1,b2,b3⟩:=uG z3 nd
 have hL:=mP f z q c4
 have pK:∀ m,S m→h'[m]?=h[m]?:=fun m y=>c3.keep m (f.wS m y).1 (fun z=>(f.wS m y).2.1 (pJ m z))
 refine ⟨d,h',S',c1,c2,⟨?_,?_,?_⟩⟩
 ·refine ⟨fun m y=>?_,fun m y=>Nat.lt_of_lt_of_le (f.wM m y) c3.len,fun m y=>Nat.lt_of_lt_of_le (f.wB m y) c3.len,by rw [b1,f.len],fun i o p y1 y2=>?_,fun i j o o' m y1 y2 y3 y4 y5 y6=>?_⟩
  ·rcases c3.new m y with y | ⟨y1,y2⟩
   ·exact ⟨Nat.lt_of_lt_of_le (f.wS m y).1 c3.len,(f.wS m y).2⟩
   ·exact ⟨y2,fun z=>by have:=f.wM m z;omega,fun z=>by have:=f.wB m z;omega⟩
  ·by_cases hi:i∈bT as
   ·obtain ⟨k,s,l,w1,w2,w3,w4⟩:=b3 i hi
    rw [w4] at y1;cases y1
    obtain ⟨m,cs,x1,x2,x3⟩:=hL k i l w1 w2
    rw [x1] at y2;cases y2
    have old:=f.sl i _ _ w3 x1
    cases s with
    | val u=>
     exfalso
     have:∃ s,lent fr i=some s:=kP z hi
     obtain ⟨s,hs⟩:=this
     simp [lent,w3,Sl.lend] at hs
    | own u=>obtain ⟨m',ds',e,y,_⟩:=old;cases e;exact ⟨m,cs,rfl,y,x2,x3⟩
    | bor u=>obtain ⟨m',ds',e,y,_⟩:=old;cases e;exact ⟨m,cs,rfl,y,x2,x3⟩
    | ro u=>
     obtain ⟨m',ds',e,y,y1,y2⟩:=old;cases e
     refine ⟨m,ds',rfl,y,?_,y2.mono pK c3.sub⟩
     rw [c3.keep m (List.getElem?_eq_some_iff.mp y1).1 (fun z=>y (pJ m z))];exact y1
   ·rw [b2 i hi] at y1
    have old:=f.sl i o p y1 y2
    rcases o with _ | s
    ·exact old
    ·cases s with
     | val u=>obtain ⟨d,e,q⟩:=old;exact ⟨d,e,q.mono pK c3.sub⟩
     | own u=>
      obtain ⟨m,ds',rfl,w1,w2,w3⟩:=old
      refine ⟨m,ds',rfl,w1,?_,w3.mono pK c3.sub⟩
      rw [c3.keep m (f.wM m w1.1) (fun ⟨j,o2,x1,x2,x3,x4⟩=>hi (f.inj i j _ o2 m y1 x2 rfl x3 y2 x4▸x1))];exact w2
     | bor u=>
      obtain ⟨m,ds',rfl,w1,w2,w3⟩:=old
      refine ⟨m,ds',rfl,w1,?_,w3.mono pK c3.sub⟩
      rw [c3.keep m (f.wM m w1.1) (fun ⟨j,o2,x1,x2,x3,x4⟩=>hi (f.inj i j _ o2 m y1 x2 rfl x3 y2 x4▸x1))];exact w2
     | ro u=>
      obtain ⟨m,ds',rfl,w1,w2,w3⟩:=old
      refine ⟨m,ds',rfl,w1,?_,w3.mono pK c3.sub⟩
      rw [c3.keep m (List.getElem?_eq_some_iff.mp w2).1 (fun z=>w1 (pJ m z))];exact w2
  ·have kind:∀ (i:Nat) o,ao[i]?=some o→gI o=true→∃ o0,fr[i]?=some o0∧gI o0=true:=fun i o w1 w2=>by
    by_cases hi:i∈bT as
    ·obtain ⟨k,s,l,x1,x2,x3,x4⟩:=b3 i hi
     rw [x4] at w1;cases w1
     exact ⟨_,x3,by rw [Dh] at w2;exact w2⟩
    ·rw [b2 i hi] at w1;exact ⟨o,w1,w2⟩
   obtain ⟨oi,k1,k2⟩:=kind i o y1 y3
   obtain ⟨oj,k3,k4⟩:=kind j o' y2 y4
   exact f.inj i j oi oj m k1 k3 k2 k4 y5 y6
 ·exact c3.weak fun m z=>⟨pJ m z,by obtain ⟨i,o,a1,a2,a3,a4⟩:=z;exact ⟨i,a1,a4⟩⟩
 ·intro i
  unfold locked
  by_cases hi:i∈bT as
  ·obtain ⟨k,s,l,x1,x2,x3,x4⟩:=b3 i hi
   rw [x3,x4];exact xo
  ·rw [b2 i hi]
end
end Pv
namespace Pv
open Ev (D O Hh)
theorem Dj (k:List (Int×List Nat)) (p:Int) (s:List Nat):(Ev.fC k p s).length≤k.length+1:=by
 unfold Ev.fC;split <;> simp
theorem FP {P:Ev.aP}{w:Nat}{d0 d3:D}{n:Nat}:∀ (s:List Nat) (k:List (Int×List Nat)) (p:Int) (o:Option D) (h:Hh),h[n]?=some (.dct k)→k.length+s.length≤100000→
  ∃ o',Ev.forL (fun d ao h2=>match Ev.bH (.one 4) d ao with | some bY=>Ev.exs P w FO bY h2 | none=>.bad) [] (s.map fun c=>.str [c]) [some d0,some (.ref n),some (.int p),some d3,o] h=.ok (.nx,[some d0,some (.ref n),some (.int (p+s.length)),some d3,o']) (h.set n (.dct (jA k p s)))
 | [],k,p,o,h,hn,_=>⟨o,by
  simp only [List.map_nil,Ev.forL,jA]
  have:h.set n (.dct k)=h:=by
   obtain ⟨hl,e⟩:=List.getElem?_eq_some_iff.mp hn
   rw [←e];exact List.set_getElem_self hl
  rw [this];simp [Ev.stays]⟩
 | c :: s,k,p,o,h,hn,hk=>by
  have hl:=(List.getElem?_eq_some_iff.mp hn).1
  have h1:=Dj k p [c]
  simp only [List.length_cons] at hk
  obtain ⟨o',ih⟩:=FP (P:=P) (w:=w) (d0:=d0) (d3:=d3) (n:=n) s (Ev.fC k p [c]) (p+1) (some (.str [c])) (h.set n (.dct (Ev.fC k p [c]))) (by rw [List.getElem?_set_self hl]) (by omega)
  refine ⟨o',?_⟩
  have kb:k.length<Ev.big:=Nat.lt_of_le_of_lt (show k.length≤100000 by omega) (by decide)
  have st:Ev.exs P w FO [some d0,some (.ref n),some (.int p),some d3,some (.str [c])] h=.ok (.nx,[some d0,some (.ref n),some (.int (p+1)),some d3,some (.str [c])]) (h.set n (.dct (Ev.fC k p [c]))):=by
   simp [FO,Ev.exs,Ev.ex,Ev.ev,Ev.R.bind,Ev.R.of,Ev.sG,hn,kb,Ev.bR]
  simp only [List.map_cons,Ev.forL,Ev.bH,List.set]
  rw [st]
  simp only [Ev.ak]
  simp only [Ev.bH] at ih
  rw [ih,List.set_set]
  have e2:p+1+(s.length:Int)=p+((s.length+1:Nat):Int):=by omega
  simp [Ev.stays,jA,e2]
theorem M4 {v:V}{l:List V}{p:Int}{k k':List (Int×List Nat)}(e:bM (v :: l) p k=some k'):(∃ s,v=.tup [.str [100,114,111,112],.str s]∧k.length+s.length≤100000∧bM l (p+s.length) (jA k p s)=some k')∨
  (∃ i,v=.tup [.str [107,101,101,112],.int i]∧bM l (p+i) k=some k')∨∃ w s,v=.tup [.str w,.str s]∧w≠[100,114,111,112]∧w≠[107,101,101,112]∧bM l p k=some k':=by
 match v,e with
 | .tup [.str w,.str s],e=>
  rw [bM] at e
  by_cases h1:w=[100,114,111,112]
  ·rw [if_pos h1] at e
   by_cases h2:k.length+s.length≤100000
   ·rw [if_pos h2] at e;exact .inl ⟨s,by rw [h1],h2,e⟩
   ·rw [if_neg h2] at e;cases e
  ·rw [if_neg h1] at e
   by_cases h2:w=[107,101,101,112]
   ·rw [if_pos h2] at e;cases e
   ·rw [if_neg h2] at e;exact .inr (.inr ⟨w,s,rfl,h1,h2,e⟩)
 | .tup [.str w,.int i],e=>
  rw [bM] at e
  by_cases h2:w=[107,101,101,112]
  ·rw [if_pos h2] at e;exact .inr (.inl ⟨i,by rw [h2],e⟩)
  ·rw [if_neg h2] at e;cases e
 | .tup [],e=>simp [bM] at e
 | .tup [_],e=>simp [bM] at e
 | .tup (_ :: _ :: _ :: _),e=>simp [bM] at e
 | .bD,e=>simp [bM] at e
 | .bl _,e=>simp [bM] at e
 | .int _,e=>simp [bM] at e
 | .str _,e=>simp [bM] at e
 | .lst _,e=>simp [bM] at e
 | .bU _,e=>simp [bM] at e
 | .dct _,e=>simp [bM] at e
 | .tup [.bD,_],e=>simp [bM] at e
 | .tup [.bl _,_],e=>simp [bM] at e
 | .tup [.int _,_],e=>simp [bM] at e
 | .tup [.tup _,_],e=>simp [bM] at e
 | .tup [.lst _,_],e=>simp [bM] at e
 | .tup [.bU _,_],e=>simp [bM] at e
 | .tup [.dct _,_],e=>simp [bM] at e
 | .tup [.str _,.bD],e=>simp [bM] at e
 | .tup [.str _,.bl _],e=>simp [bM] at e
 | .tup [.str _,.tup _],e=>simp [bM] at e
 | .tup [.str _,.lst _],e=>simp [bM] at e
 | .tup [.str _,.bU _],e=>simp [bM] at e
 | .tup [.str _,.dct _],e=>simp [bM] at e
theorem FQ {P:Ev.aP}{w:Nat}{d0:D}{n:Nat}{h0:Hh}{S:Nat→Prop}:∀ (l:List V) (ds:List D) (k k':List (Int×List Nat)) (p:Int) (o3 o4:Option D) (h:Hh),au h0 S l ds→h[n]?=some (.dct k)→bM l p k=some k'→
  ∃ p' AQ AR,Ev.forL (fun d ao h2=>match Ev.bH (.one 3) d ao with | some bY=>Ev.exs P w uA bY h2 | none=>.bad) [] ds [some d0,some (.ref n),some (.int p),o3,o4] h=.ok (.nx,[some d0,some (.ref n),some (.int p'),AQ,AR]) (h.set n (.dct k'))
 | [],ds,k,k',p,o3,o4,h,q,hn,e=>by
  simp only [au] at q
  subst q
  simp only [bM] at e
  cases e
  refine ⟨p,o3,o4,?_⟩
  have:h.set n (.dct k)=h:=by
   obtain ⟨hl,e⟩:=List.getElem?_eq_some_iff.mp hn
   rw [←e];exact List.set_getElem_self hl
  rw [this];simp [Ev.forL,Ev.stays]
 | v :: l,ds,k,k',p,o3,o4,h,q,hn,e=>by
  have hl:=(List.getElem?_eq_some_iff.mp hn).1
  simp only [au] at q
  obtain ⟨d,es,rfl,q1,q2⟩:=q
  have go:∀ (k1:List (Int×List Nat)) (p1:Int) (o':Option D),Ev.exs P w uA [some d0,some (.ref n),some (.int p),some d,o4] h=.ok (.nx,[some d0,some (.ref n),some (.int p1),some d,o']) (h.set n (.dct k1))→bM l p1 k1=some k'→∃ p' AQ AR,Ev.forL (fun d ao h2=>match Ev.bH (.one 3) d ao with | some bY=>Ev.exs P w uA bY h2 | none=>.bad) [] (d :: es) [some d0,some (.ref n),some (.int p),o3,o4] h=.ok (.nx,[some d0,some (.ref n),some (.int p'),AQ,AR]) (h.set n (.dct k')):=fun k1 p1 o' st e1=>by
   obtain ⟨p',AQ,AR,ih⟩:=FQ (P:=P) (w:=w) (d0:=d0) (n:=n) l es k1 k' p1 (some d) o' (h.set n (.dct k1)) q2 (by rw [List.getElem?_set_self hl]) e1
   refine ⟨p',AQ,AR,?_⟩
   simp only [Ev.forL,Ev.bH,List.set]
   rw [st]
   simp only [Ev.ak]
   simp only [Ev.bH] at ih
   rw [ih,List.set_set]
   simp [Ev.stays]
  have hs:h.set n (.dct k)=h:=by
   obtain ⟨hl,e⟩:=List.getElem?_eq_some_iff.mp hn
   rw [←e];exact List.set_getElem_self hl
  rcases M4 e with ⟨s,rfl,hk,e1⟩ | ⟨i,rfl,e1⟩ | ⟨w0,s,rfl,h1,h2,e1⟩
  ·simp only [Rep,au] at q1
   obtain ⟨_,rfl,d1,_,rfl,rfl,d2,_,rfl,rfl,rfl⟩:=q1
   obtain ⟨o',hin⟩:=FP (P:=P) (w:=w) (d0:=d0) (d3:=.tup [.str [100,114,111,112],.str s]) (n:=n) s k p o4 h hn hk
   refine go _ _ o' ?_ e1
   simp only [Ev.bH] at hin
   simp [uA,Ev.exs,Ev.ex,Ev.aL,Ev.ev,Ev.R.bind,Ev.R.of,Ev.fq,Ev.bL,Ev.dM,Ev.cop,Ev.fS,Ev.deep,Ev.truthy,Ev.cy,Ev.er,Ev.bH,hin]
  ·simp only [Rep,au] at q1
   obtain ⟨_,rfl,d1,_,rfl,rfl,d2,_,rfl,rfl,rfl⟩:=q1
   refine go k (p+i) o4 ?_ e1
   rw [hs]
   simp [uA,Ev.exs,Ev.ex,Ev.aL,Ev.ev,Ev.R.bind,Ev.R.of,Ev.fq,Ev.bL,Ev.dM,Ev.cop,Ev.fS,Ev.deep,Ev.truthy,Ev.bR]
  ·simp only [Rep,au] at q1
   obtain ⟨_,rfl,d1,_,rfl,rfl,d2,_,rfl,rfl,rfl⟩:=q1
   refine go k p o4 ?_ e1
   rw [hs]
   simp [uA,Ev.exs,Ev.ex,Ev.aL,Ev.ev,Ev.R.bind,Ev.R.of,Ev.fq,Ev.bL,Ev.dM,Ev.cop,Ev.fS,Ev.deep,Ev.truthy,Ev.bR,h1,h2]
theorem M5 {F:List Ev.Fn}{w n f:Nat}{l:List V}{k:List (Int×List Nat)}{d:D}{h:Hh}{S:Nat→Prop}(hf:F[f]?=some jz) (q:Rep h S (.tup l) d) (e:bM l 0 []=some k):Ev.run F w (n+1) f [d] h=.ok (.ref h.length) (h++[.dct k]):=by
 simp only [Rep] at q
 obtain ⟨dl,rfl,q⟩:=q
 obtain ⟨p',o3,o4,g⟩:=FQ (P:=Ev.run F w n) (w:=w) (d0:=.tup dl) (n:=h.length) l dl [] k 0 none none (h++[.dct []]) q (by simp) e
 have hs:(h++[O.dct []]).set h.length (.dct k)=h++[.dct k]:=by simp
 rw [hs] at g
 simp only [Ev.bH] at g
 simp only [Ev.run,hf]
 show Ev.endOf (Ev.exs (Ev.run F w n) w jz.body [some (.tup dl),none,none,none,none] h)=_
 simp [jz,Ev.exs,Ev.ex,Ev.ev,Ev.R.bind,Ev.R.of,Ev.cy,Ev.er,Ev.bH,g,Ev.endOf]
theorem M6 {fn:Ev.Fn}{sl:List Sl}{v:V}{os:List (List V)}(e:wY fn sl=some (v,os)):fn=jz∧∃ l k,sl=[.val (.tup l)]∧bM l 0 []=some k∧v=.dct k∧os=[]:=by
 unfold wY at e
 split at e
 ·rename_i h
  refine ⟨h,?_⟩
  split at e
  ·rename_i l
   obtain ⟨k,e1,e2⟩:=Option.map_eq_some_iff.mp e
   cases e2
   exact ⟨l,k,rfl,e1,rfl,rfl⟩
  ·cases e
 ·cases e
end Pv
namespace Pv
open Ev (D O Hh bZ bP TY BI ME T E Es Eo It S Ss Fn big deep b2i rep cz dM bL aR cut cJ d8 slots bu)
section
variable {M B M':Nat→Prop}{h h' h1 h2:Hh}{S S' S1 S2:Nat→Prop}{fr af ao:Fr}{aj:Ev.Fr}{c c1 c2:List Nat}{v:V}{d:D}
theorem ko {n m:Nat}{o:O}(q:n≠m):(h.set n o)[m]?=h[m]?:=List.getElem?_set_ne q
theorem bI.mM (f:bI M B h S fr aj) {i n:Nat}{o:Option Sl}(e:fr[i]?=some o) (hM:gI o=true) (e':aj[i]?=some (some (.ref n))):M n:=by
 have s:=f.sl i o _ e e'
 rcases o with _ | s'
 ·cases hM
 ·cases s' with
  | val v=>cases hM
  | ro l=>cases hM
  | own l=>obtain ⟨m',ds',e,y,_⟩:=s;cases e;exact y.1
  | bor l=>obtain ⟨m',ds',e,y,_⟩:=s;cases e;exact y.1
theorem bI.write (f:bI M B h S fr aj) {i n:Nat}{s:Sl}{l':List V}{ds':List D}(e:fr[i]?=some (some s)) (hM:gI (some s)=true) (e':aj[i]?=some (some (.ref n))) (q:au h S l' ds') :
  bI M B (h.set n (.lst ds')) S (fr.set i (some (s.with l'))) aj:=by
 have mn:=f.mM e hM e'
 have kp:∀ m,S m→(h.set n (.lst ds'))[m]?=h[m]?:=fun m z=>ko fun y=>(f.wS m z).2.1 (y▸mn)
 have il:=(List.getElem?_eq_some_iff.mp e).1
 refine ⟨fun m y=>by simpa using f.wS m y,fun m y=>by simpa using f.wM m y,fun m y=>by simpa using f.wB m y,by simp [f.len],fun j o p y1 y2=>?_,fun j k o o' m y1 y2 y3 y4 y5 y6=>?_⟩
 ·by_cases hj:i=j
  ·subst hj
   rw [List.getElem?_set_self il] at y1
   cases y1
   rw [e'] at y2;cases y2
   have old:=f.sl i _ _ e e'
   have hn:(h.set n (.lst ds'))[n]?=some (.lst ds'):=List.getElem?_set_self (f.wM n mn)
   cases s with
   | val v=>cases hM
   | ro l=>cases hM
   | own l=>obtain ⟨m',_,e,y,_⟩:=old;cases e;exact ⟨n,ds',rfl,y,hn,q.mono kp fun _ z=>z⟩
   | bor l=>obtain ⟨m',_,e,y,_⟩:=old;cases e;exact ⟨n,ds',rfl,y,hn,q.mono kp fun _ z=>z⟩
  ·rw [List.getElem?_set_ne hj] at y1
   have old:=f.sl j o p y1 y2
   rcases o with _ | s'
   ·exact old
   ·cases s' with
    | val u=>obtain ⟨d,e,q⟩:=old;exact ⟨d,e,q.mono kp fun _ z=>z⟩
    | own u=>
     obtain ⟨m,es,rfl,w1,w2,w3⟩:=old
     refine ⟨m,es,rfl,w1,?_,w3.mono kp fun _ z=>z⟩
     rw [ko fun (z:n=m)=>hj (f.inj i j _ _ n e y1 hM rfl e' (by rw [z];exact y2))];exact w2
    | bor u=>
     obtain ⟨m,es,rfl,w1,w2,w3⟩:=old
     refine ⟨m,es,rfl,w1,?_,w3.mono kp fun _ z=>z⟩
     rw [ko fun (z:n=m)=>hj (f.inj i j _ _ n e y1 hM rfl e' (by rw [z];exact y2))];exact w2
    | ro u=>
     obtain ⟨m,es,rfl,w1,w2,w3⟩:=old
     refine ⟨m,es,rfl,w1,?_,w3.mono kp fun _ z=>z⟩
     rw [ko fun (z:n=m)=>w1 (z▸mn)];exact w2
 ·have kind:∀ (j:Nat) o,(fr.set i (some (s.with l')))[j]?=some o→gI o=true→∃ o0,fr[j]?=some o0∧gI o0=true:=fun j o w1 w2=>by
   by_cases hj:i=j
   ·subst hj;exact ⟨_,e,hM⟩
   ·rw [List.getElem?_set_ne hj] at w1;exact ⟨o,w1,w2⟩
  obtain ⟨oi,k1,k2⟩:=kind j o y1 y3
  obtain ⟨oj,k3,k4⟩:=kind k o' y2 y4
  exact f.inj j k oi oj m k1 k3 k2 k4 y5 y6
theorem M7 {m:ME}{l l':List V}{xs:List V}{n:Nat}{ds es:List D}(z:jN m l xs=some (v,l')) (e:h[n]?=some (.lst ds)) (q:au h S l ds) (p:fW h S xs es) (p':AL m=false→au h S xs es) (hS:∀ k,S k→k≠n) :
  ∃ r ds',Ev.eW m (.ref n) es h=.ok r (h.set n (.lst ds'))∧Rep h S v r∧au h S l' ds':=by
 unfold jN at z
 split at z
 ·have p':=p' rfl
  split at z
  ·rename_i k
   cases z
   simp only [au] at p'
   obtain ⟨d,_,rfl,p1,rfl⟩:=p'
   refine ⟨_,_,?_,rfl,q.append (.cons p1 .nil)⟩
   delta Ev.eW;dsimp only;simp only [e]
   rw [if_pos (by rw [←q.length];exact k)]
  ·cases z
 ·split at z
  ·rename_i k
   cases z
   obtain ⟨d,rfl,p1⟩:=p.one
   simp only [bh] at p1
   obtain ⟨n2,cs,rfl,e2,p1⟩:=p1
   refine ⟨_,_,?_,rfl,q.append p1⟩
   delta Ev.eW;dsimp only;simp only [e,e2]
   rw [if_pos (by rw [←q.length,←p1.length];exact k)]
  ·cases z
 ·simp only [fW] at p
  subst p
  split at z
  ·rename_i x y
   cases z
   obtain ⟨d,k1,k2⟩:=q.get y
   refine ⟨d,_,?_,k2,q.dropLast⟩
   delta Ev.eW;dsimp only;simp only [e]
   rw [←q.length,k1]
  ·cases z
 ·cases z
theorem bI.set (f:bI M B h S fr aj) {i:Nat}(e:put fr i (.val v)=some af) (q:Rep h S v d):bI M B h S af (aj.set i (some d))∧(∀ j,locked af j=locked fr j)∧∀ j,locked fr j=true→(aj.set i (some d))[j]?=aj[j]?:=by
 have hx:af=fr.set i (some (.val v))∧locked fr i=false:=by
  unfold put at e
  unfold locked
  split at e
  ·cases e
  ·cases e
  ·rename_i k1 k2
   cases e
   refine ⟨rfl,?_⟩
   cases z:fr[i]? with
   | none=>rfl
   | some o=>
    rcases o with _ | s
    ·rfl
    ·cases s with
     | bor l=>exact absurd z (k1 l)
     | ro l=>exact absurd z (k2 l)
     | _=>rfl
 obtain ⟨rfl,hk⟩:=hx
 have lk:∀ j,locked (fr.set i (some (.val v))) j=locked fr j:=fun j=>by
  by_cases hj:i=j
  ·subst hj
   rw [hk]
   unfold locked
   by_cases hl:i<fr.length
   ·rw [List.getElem?_set_self hl];rfl
   ·rw [List.getElem?_eq_none (by simpa using hl)]
  ·unfold locked;rw [List.getElem?_set_ne hj]
 refine ⟨⟨f.wS,f.wM,f.wB,by simp [f.len],fun j o p y1 y2=>?_,fun j k o o' m y1 y2 y3 y4 y5 y6=>?_⟩,lk,fun j hj=>?_⟩
 ·by_cases hj:i=j
  ·subst hj
   have hl:i<fr.length:=by have:=(List.getElem?_eq_some_iff.mp y1).1;simpa using this
   rw [List.getElem?_set_self hl] at y1
   rw [List.getElem?_set_self (by rw [←f.len];exact hl)] at y2
   cases y1;cases y2
   exact ⟨d,rfl,q⟩
  ·rw [List.getElem?_set_ne hj] at y1 y2
   exact f.sl j o p y1 y2
 ·have hn:∀ (j:Nat) o,(fr.set i (some (.val v)))[j]?=some o→gI o=true→i≠j:=fun j o w1 w2 w3=>by
   subst w3
   have hl:i<fr.length:=by have:=(List.getElem?_eq_some_iff.mp w1).1;simpa using this
   rw [List.getElem?_set_self hl] at w1
   cases w1;cases w2
  have n1:=hn j o y1 y3
  have n2:=hn k o' y2 y4
  rw [List.getElem?_set_ne n1] at y1 y5
  rw [List.getElem?_set_ne n2] at y2 y6
  exact f.inj j k o o' m y1 y2 y3 y4 y5 y6
 ·have:i≠j:=fun z=>by subst z;rw [hk] at hj;cases hj
  rw [List.getElem?_set_ne this]
theorem bI.cI:∀ {is:List Nat}{vs:List V}{ds:List D}{fr af:Fr}{aj:Ev.Fr},bI M B h S fr aj→cI is vs fr=some af→au h S vs ds→∃ bQ,Ev.cI is ds aj=some bQ∧bI M B h S af bQ∧(∀ j,locked af j=locked fr j)∧∀ j,locked fr j=true→bQ[j]?=aj[j]?
 | [],[],ds,fr,af,aj,f,e,q=>by
  simp [Pv.cI] at e;simp only [au] at q;subst e q
  exact ⟨aj,rfl,f,fun _=>rfl,fun _ _=>rfl⟩
 | [],_ :: _,_,_,_,_,_,e,_=>by simp [Pv.cI] at e
 | _ :: _,[],_,_,_,_,_,e,_=>by simp [Pv.cI] at e
 | i :: is,v :: vs,ds,fr,af,aj,f,e,q=>by
  simp only [Pv.cI,Option.bind_eq_some_iff] at e
  obtain ⟨ao,e1,e2⟩:=e
  simp only [au] at q
  obtain ⟨d,es,rfl,q1,q2⟩:=q
  obtain ⟨f2,l2,r2⟩:=f.set e1 q1
  obtain ⟨bQ,a,f3,l3,r3⟩:=f2.cI e2 q2
  exact ⟨bQ,a,f3,fun j=>(l3 j).trans (l2 j),fun j hj=>(r3 j (by rw [l2 j];exact hj)).trans (r2 j hj)⟩
theorem bI.bH (f:bI M B h S fr aj) {t:T}(e:bH t v fr=some af) (q:Rep h S v d):∃ bQ,Ev.bH t d aj=some bQ∧bI M B h S af bQ∧(∀ j,locked af j=locked fr j)∧∀ j,locked fr j=true→bQ[j]?=aj[j]?:=by
 cases t with
 | one i=>exact ⟨_,rfl,f.set e q⟩
 | many l=>
  cases v <;> simp only [Pv.bH,reduceCtorEq] at e
  simp only [Rep] at q
  obtain ⟨ds,rfl,q⟩:=q
  exact f.cI e q
theorem bI.undef (f:bI M B h S fr aj) {t:T}(e:undef t fr=true):Ev.undef t aj=true:=by
 unfold Pv.undef at e
 unfold Ev.undef
 rw [List.all_eq_true] at e ⊢
 intro i hi
 have:=e i hi
 cases z:fr[i]? with
 | none=>
  have:aj[i]?=none:=by
   rw [List.getElem?_eq_none_iff] at z ⊢
   rw [←f.len];exact z
  rw [this];rfl
 | some o=>
  obtain ⟨p,e1,q⟩:=f.get z
  rw [z] at this
  rcases o with _ | s
  ·simp only [kg] at q;subst q;rw [e1];rfl
  ·simp at this
theorem xq {i:Nat}{o:Option Sl}(e:(pG fr)[i]?=some o):∃ o0,fr[i]?=some o0∧o=o0.map Sl.read:=by
 unfold pG at e
 rw [List.getElem?_map] at e
 cases z:fr[i]? with
 | none=>rw [z] at e;cases e
 | some o0=>rw [z] at e;cases e;exact ⟨o0,rfl,rfl⟩
theorem bI.ro (f:bI M B h S fr aj):bI (fun _=>False) B h S (pG fr) aj:=by
 refine ⟨fun m y=>⟨(f.wS m y).1,id,(f.wS m y).2.2⟩,fun m y=>y.elim,f.wB,by simp [pG,f.len],fun i o p y1 y2=>?_,fun i j o o' m y1 y2 y3 y4 y5 y6=>?_⟩
 ·obtain ⟨o0,z,rfl⟩:=xq y1
  have q:=f.sl i o0 p z y2
  rcases o0 with _ | s
  ·exact q
  ·cases s with
   | val v=>exact q
   | own l=>obtain ⟨m,ds,a,b,c,d⟩:=q;exact ⟨m,ds,a,id,c,d⟩
   | bor l=>obtain ⟨m,ds,a,b,c,d⟩:=q;exact ⟨m,ds,a,id,c,d⟩
   | ro l=>obtain ⟨m,ds,a,b,c,d⟩:=q;exact ⟨m,ds,a,id,c,d⟩
 ·obtain ⟨o0,z,rfl⟩:=xq y1
  rcases o0 with _ | s
  ·cases y3
  ·cases s <;> cases y3
theorem jC:∀ {ck:List (Nat×List D)},(∀ q∈ck,bu h q.1=some q.2)→Ev.stays h ck=true
 | [],_=>rfl
 | (n,ds) :: r,q=>by
  simp only [Ev.stays,Bool.and_eq_true]
  refine ⟨?_,jC fun x hx=>q x (List.mem_cons_of_mem _ hx)⟩
  rw [q (n,ds) (List.mem_cons_self ..)]
  exact Ev.yj _
theorem kQ {n:Nat}{ds:List D}(q:bu h n=some ds) (k:h'[n]?=h[n]?):bu h' n=some ds:=by
 unfold bu at q ⊢;rw [k];exact q
theorem pL {n:Nat}{ds:List D}(q:bu h n=some ds):n<h.length:=by
 unfold bu at q
 cases z:h[n]? with
 | none=>rw [z] at q;cases q
 | some o=>exact (List.getElem?_eq_some_iff.mp z).1
noncomputable def Dk (h:Hh) (S:Nat→Prop):Option V→Option D→Prop
 | none,o=>o=none
 | some v,o=>∃ d,o=some d∧Rep h S v d
theorem xr {f:V→Option (Option V)}{f':D→Hh→Ev.R (Option D)}{ck:List (Nat×List D)}{h0:Hh}{S0:Nat→Prop}(w0:∀ m,S0 m→m<h0.length) (st:∀ q∈ck,bu h0 q.1=some q.2)
  (turn:∀ v o d h S,Al h0 S0 h S→f v=some o→Rep h S v d→∃ o' h' S',f' d h=.ok o' h'∧Dk h' S' o o'∧Al h S h' S') :
  ∀ {vs:List V} {ds:List D} {rs:List V} {h:Hh} {S:Nat→Prop},Al h0 S0 h S→cG f vs=some rs→au h S vs ds→∃ rs' h' S',Ev.cG f' ck ds h=.ok rs' h'∧au h' S' rs rs'∧Al h S h' S'
 | [],ds,rs,h,S,a,e,q=>by
  simp [cG] at e;simp only [au] at q;subst e q
  refine ⟨[],h,S,?_,.nil,.refl⟩
  simp only [Ev.cG]
  rw [if_pos (jC fun x hx=>kQ (st x hx) (a.keep _ (pL (st x hx))))]
 | v :: vs,ds,rs,h,S,a,e,q=>by
  simp only [cG,Option.bind_eq_some_iff] at e
  obtain ⟨o,e1,r,e2,e3⟩:=e
  cases e3
  simp only [au] at q
  obtain ⟨d,es,rfl,q1,q2⟩:=q
  have w:∀ m,S m→m<h.length:=fun m z=>by
   rcases a.new m z with z | z
   ·exact Nat.lt_of_lt_of_le (w0 m z) a.len
   ·exact z.2
  obtain ⟨o',h1,S1,t1,t2,t3⟩:=turn v o d h S a e1 q1
  obtain ⟨rs',h2,S2,u1,u2,u3⟩:=xr w0 st turn (a.trans t3) e2 (q2.mono (fun m z=>t3.keep m (w m z)) t3.sub)
  have w1:∀ m,S1 m→m<h1.length:=fun m z=>by
   rcases t3.new m z with z | z
   ·exact Nat.lt_of_lt_of_le (w m z) t3.len
   ·exact z.2
  refine ⟨o'.toList++rs',h2,S2,?_,?_,t3.trans u3⟩
  ·simp only [Ev.cG]
   rw [if_pos (jC fun x hx=>kQ (st x hx) (a.keep _ (pL (st x hx)))),t1,Ev.ak,u1,Ev.ak]
  ·cases o with
   | none=>simp only [Dk] at t2;subst t2;simpa using u2
   | some v'=>
    simp only [Dk] at t2
    obtain ⟨d',rfl,t2⟩:=t2
    exact .cons (t2.mono (fun m z=>u3.keep m (w1 m z)) u3.sub) u2
end
noncomputable def jc (k:Bool) (h:Hh) (S:Nat→Prop) (v:List V) (d:List D):Prop:=if k=true then fW h S v d else au h S v d
inductive M8 (P':Ev.aP) (e:E) (k:Bool) (v:V) (M B:Nat→Prop) (h:Hh) (S:Nat→Prop) (fr:Fr) (aj:Ev.Fr) (af:Fr):Prop
 | mk (d:D) (h':Hh) (S':Nat→Prop) (c0:Ev.ev P' e aj h=.ok d h') (c1:fD k h' S' v d) (c2:Out M B (bf e) h S fr aj h' S' af):M8 P' e k v M B h S fr aj af
inductive M9 (P':Ev.aP) (e:E) (b:Bool) (M B:Nat→Prop) (h:Hh) (S:Nat→Prop) (fr:Fr) (aj:Ev.Fr) (af:Fr):Prop
 | mk (h':Hh) (S':Nat→Prop) (c0:Ev.aL P' e aj h=.ok b h') (c1:Out M B (bf e) h S fr aj h' S' af):M9 P' e b M B h S fr aj af
inductive Na (P':Ev.aP) (e:Es) (k:Bool) (v:List V) (M B:Nat→Prop) (h:Hh) (S:Nat→Prop) (fr:Fr) (aj:Ev.Fr) (af:Fr):Prop
 | mk (d:List D) (h':Hh) (S':Nat→Prop) (c0:Ev.cg P' e aj h=.ok d h') (c1:jc k h' S' v d) (c2:Out M B (fY e) h S fr aj h' S' af):Na P' e k v M B h S fr aj af
inductive Nb (P':Ev.aP) (e:Es) (v:List (Nat ⊕ V)) (M B:Nat→Prop) (h:Hh) (S:Nat→Prop) (fr:Fr) (aj:Ev.Fr) (af:Fr):Prop
 | mk (d:List D) (h':Hh) (S':Nat→Prop) (c0:Ev.cg P' e aj h=.ok d h') (c1:uF h' S' aj v d) (c2:Out M B (fY e) h S fr aj h' S' af):Nb P' e v M B h S fr aj af
inductive Nc (P':Ev.aP) (e:Eo) (v:Option Int) (M B:Nat→Prop) (h:Hh) (S:Nat→Prop) (fr:Fr) (aj:Ev.Fr) (af:Fr):Prop
 | mk (h':Hh) (S':Nat→Prop) (c0:Ev.fU P' e aj h=.ok v h') (c1:Out M B (j0 e) h S fr aj h' S' af):Nc P' e v M B h S fr aj af
inductive Nd (P':Ev.aP) (e:Eo) (v:Bool) (M B:Nat→Prop) (h:Hh) (S:Nat→Prop) (fr:Fr) (aj:Ev.Fr) (af:Fr):Prop
 | mk (h':Hh) (S':Nat→Prop) (c0:Ev.gU P' e aj h=.ok v h') (c1:Out M B (j0 e) h S fr aj h' S' af):Nd P' e v M B h S fr aj af
inductive Nf (P':Ev.aP) (e:It) (k:Bool) (v:List V) (M B:Nat→Prop) (h:Hh) (S:Nat→Prop) (fr:Fr) (aj:Ev.Fr) (af:Fr):Prop
 | mk (s:Ev.Src) (h':Hh) (S':Nat→Prop) (c0:Ev.cy P' e aj h=.ok s h') (c1:au h' S' v s.1) (c2:∀ q∈s.2,bu h' q.1=some q.2∧(k=false→¬ M q.1)) (c3:Out M B (Dc e) h S fr aj h' S' af):Nf P' e k v M B h S fr aj af
section
variable (P:aP)(P':Ev.aP)
noncomputable def bq (e:E):Prop:=∀ {k:Bool} {fr:Fr} {v:V} {af:Fr} {M B:Nat→Prop} {h:Hh} {S:Nat→Prop} {aj:Ev.Fr},ev P k e fr=.ok v af→bI M B h S fr aj→M8 P' e k v M B h S fr aj af
noncomputable def gF (e:E):Prop:=∀ {fr:Fr} {b:Bool} {af:Fr} {M B:Nat→Prop} {h:Hh} {S:Nat→Prop} {aj:Ev.Fr},aL P e fr=.ok b af→bI M B h S fr aj→M9 P' e b M B h S fr aj af
noncomputable def jd (e:Es):Prop:=∀ {k:Bool} {fr:Fr} {v:List V} {af:Fr} {M B:Nat→Prop} {h:Hh} {S:Nat→Prop} {aj:Ev.Fr},cg P k e fr=.ok v af→bI M B h S fr aj→Na P' e k v M B h S fr aj af
noncomputable def pM (e:Es):Prop:=∀ {fr:Fr} {v:List (Nat ⊕ V)} {af:Fr} {M B:Nat→Prop} {h:Hh} {S:Nat→Prop} {aj:Ev.Fr},fV P e fr=.ok v af→bI M B h S fr aj→Nb P' e v M B h S fr aj af
noncomputable def pN (e:Eo):Prop:=∀ {fr:Fr} {v:Option Int} {af:Fr} {M B:Nat→Prop} {h:Hh} {S:Nat→Prop} {aj:Ev.Fr},fU P e fr=.ok v af→bI M B h S fr aj→Nc P' e v M B h S fr aj af
noncomputable def sM (e:Eo):Prop:=∀ {fr:Fr} {v:Bool} {af:Fr} {M B:Nat→Prop} {h:Hh} {S:Nat→Prop} {aj:Ev.Fr},gU P e fr=.ok v af→bI M B h S fr aj→Nd P' e v M B h S fr aj af
noncomputable def jO (e:It):Prop:=∀ {k:Bool} {fr:Fr} {v:List V} {af:Fr} {M B:Nat→Prop} {h:Hh} {S:Nat→Prop} {aj:Ev.Fr},cy P k e fr=.ok v af→bI M B h S fr aj→Nf P' e k v M B h S fr aj af
end
section
variable {P:aP}{P':Ev.aP}{a b e tt:E}{es:Es}{lo hi:Eo}{it:It}
theorem Ng {d:D}:bq P P' (.c d):=fun z f=>by
 simp only [ev] at z
 replace z:=aK z;obtain ⟨z,y0⟩:=z;subst y0
 exact ⟨d,_,_,by simp only [Ev.ev],.of (mJ z),.refl f⟩
theorem Nh {i:Nat}:bq P P' (.v i):=fun z f=>by
 simp only [ev] at z
 replace z:=aK z;obtain ⟨z,y0⟩:=z;subst y0
 obtain ⟨d,e1,q⟩:=Jf z f
 exact ⟨d,_,_,by simp only [Ev.ev,e1,Ev.cY],q,.refl f⟩
theorem jc.n {h:Hh}{S:Nat→Prop}{v:List V}{d:List D}(q:jc false h S v d):au h S v d:=by simpa [jc] using q
theorem au.tl {h:Hh}{S:Nat→Prop}:∀ {v:List V}{d:List D},au h S v d→fW h S v d
 | [],_,q=>q
 | _ :: _,_,⟨d,es,a,b,q⟩=>⟨d,es,a,b.top,q.tl⟩
theorem jc.t {k:Bool}{h:Hh}{S:Nat→Prop}{v:List V}{d:List D}(q:jc k h S v d):fW h S v d:=by
 unfold jc at q
 split at q
 ·exact q
 ·exact q.tl
theorem AS (is:jd P P' es):bq P P' (.tup es):=fun z f=>by
 simp only [ev] at z
 obtain ⟨ds,ao,z1,z2⟩:=ah z
 replace z2:=aK z2;obtain ⟨z2,y0⟩:=z2;subst y0
 obtain ⟨ds',h',S',e1,q,o⟩:=is z1 f
 unfold jy at z2
 split at z2
 ·rename_i hk
  cases z2
  refine ⟨.tup ds',h',S',?_,.of ⟨ds',rfl,q.n⟩,o⟩
  simp only [Ev.ev,e1,Ev.ak]
  rw [if_pos (by rw [←q.n.length];exact hk)]
 ·cases z2
theorem AU (is:jd P P' es):bq P P' (.lst es):=fun z f=>by
 simp only [ev] at z
 obtain ⟨ds,ao,z1,z2⟩:=ah z
 replace z2:=aK z2;obtain ⟨z2,y0⟩:=z2;subst y0
 obtain ⟨ds',h',S',e1,q,o⟩:=is z1 f
 obtain ⟨r,h2,S2,a1,a2,a3⟩:=g9 o.f.w z2 q.n
 exact ⟨r,h2,S2,by simp only [Ev.ev,e1,Ev.ak,a1],.of a2,o.al a3⟩
theorem kR {a:E}{aj:Ev.Fr}{h h1:Hh}{d:D}(e:Ev.ev P' a aj h=.ok d h1):∀ i,a=.v i→aj[i]?.join=some d:=fun i hi=>by
 subst hi
 simp only [Ev.ev] at e
 exact (Ev.aK e).1
theorem two (ia:bq P P' a)(ib:bq P P' b){α:Type}{X:V→V→Fr→R α}{u:α}{fr bU:Fr}{M B:Nat→Prop}{h:Hh}{S:Nat→Prop}{aj:Ev.Fr}
  (z:((ev P (kf a (bf b)) a fr).bind fun x af=>(ev P true b af).bind fun y ao=>X x y ao)=.ok u bU) (f:bI M B h S fr aj) :
  ∃ x y d e h2 S2 ao,(∀ {β:Type} (g:D→D→Hh→Ev.R β),((Ev.ev P' a aj h).bind fun x h1=>(Ev.ev P' b aj h1).bind fun y h2=>g x y h2)=g d e h2)∧X x y ao=.ok u bU∧bh h2 S2 x d∧bh h2 S2 y e∧Out M B (bf a++bf b) h S fr aj h2 S2 ao:=by
 replace z:=ah z;obtain ⟨x,af,z1,z⟩:=z
 replace z:=ah z;obtain ⟨y,ao,z2,z⟩:=z
 obtain ⟨d,h1,S1,e1,q1,o1⟩:=ia z1 f
 obtain ⟨e,h2,S2,e2,q2,o2⟩:=ib z2 o1.f
 exact ⟨x,y,d,e,h2,S2,ao,fun g=>by rw [e1,Ev.ak,e2,Ev.ak],z,(q1.tr o1.f o2.tr id (kR e1)).t,q2.t,o1.trans o2⟩
theorem AV {o:bZ}(ia:bq P P' a) (ib:bq P P' b):bq P P' (.bin o a b):=fun z f=>by
 simp only [ev] at z
 replace z:=two ia ib z f;obtain ⟨x,y,d,e,h2,S2,ao,k,z,q1,q2,ou⟩:=z
 replace z:=aK z;obtain ⟨z,y0⟩:=z;subst y0
 obtain ⟨r,h3,S3,a1,a2,a3⟩:=MS ou.f.w z q1 q2
 exact ⟨r,h3,S3,by simp only [Ev.ev];rw [k];exact a1,.of a2,ou.al a3⟩
theorem AW {o:bP}(ia:bq P P' a) (ib:bq P P' b):bq P P' (.cmp o a b):=fun z f=>by
 simp only [ev] at z
 replace z:=two ia ib z f;obtain ⟨x,y,d,e,h2,S2,ao,k,z,q1,q2,ou⟩:=z
 replace z:=aK z;obtain ⟨z,y0⟩:=z;subst y0
 simp only [Option.map_eq_some_iff] at z
 obtain ⟨b,z,rfl⟩:=z
 exact ⟨.bl b,h2,S2,by simp only [Ev.ev];rw [k,MT z q1.u q2.u];rfl,.of rfl,ou⟩
theorem FT (ia:bq P P' a) (ib:bq P P' b):bq P P' (.ix a b):=fun z f=>by
 simp only [ev] at z
 replace z:=two ia ib z f;obtain ⟨x,y,d,e,h2,S2,ao,k,z,q1,q2,ou⟩:=z
 replace z:=aK z;obtain ⟨z,y0⟩:=z;subst y0
 obtain ⟨r,a1,a2⟩:=MU z q1 q2
 exact ⟨r,h2,S2,by simp only [Ev.ev];rw [k,a1];rfl,.of a2,ou⟩
theorem Jg {x y v:V}{d e:D}{h:Hh}{S:Nat→Prop}(z:oO x y=some v) (p:bh h S x d) (q:bh h S y e):∃ r,Ev.tU d e h=some r∧Rep h S v r:=by
 unfold oO at z
 split at z
 ·simp only [bh,Rep] at p q
  obtain ⟨n,rfl,_,p⟩:=p
  subst q
  obtain ⟨s,e1,rfl⟩:=Option.map_eq_some_iff.mp z
  exact ⟨.str s,by simp [Ev.tU,Ev.fT,p,e1],rfl⟩
 ·cases z
theorem AX (ia:bq P P' a) (ib:bq P P' b):bq P P' (.jL a b):=fun z f=>by
 simp only [ev] at z
 replace z:=two ia ib z f;obtain ⟨x,y,d,e,h2,S2,ao,k,z,q1,q2,ou⟩:=z
 replace z:=aK z;obtain ⟨z,y0⟩:=z;subst y0
 obtain ⟨r,a1,a2⟩:=Jg z q1 q2
 exact ⟨r,h2,S2,by simp only [Ev.ev];rw [k,a1];rfl,.of a2,ou⟩
theorem AY {c:E}(ia:bq P P' a) (ib:bq P P' b) (ic:bq P P' c):bq P P' (.lP a b c):=fun z f=>by
 simp only [ev] at z
 replace z:=ah z;obtain ⟨x,af,z1,z⟩:=z
 replace z:=ah z;obtain ⟨y,ao,z2,z⟩:=z
 replace z:=ah z;obtain ⟨u,bY,z3,z⟩:=z
 replace z:=aK z;obtain ⟨z,y0⟩:=z;subst y0
 obtain ⟨d,h1,S1,e1,q1,o1⟩:=ia z1 f
 obtain ⟨e,h2,S2,e2,q2,o2⟩:=ib z2 o1.f
 obtain ⟨g,h3,S3,e3,q3,o3⟩:=ic z3 o2.f
 have p0:=q1.t
 have p1:=(q1.tr o1.f (o2.trans o3).tr id (kR e1)).t
 have p2:=(q2.tr o2.f o3.tr id (kR e2)).t
 have p3:Rep h3 S3 u g:=q3
 unfold oQ at z
 split at z
 ·cases z
  simp only [bh,Rep] at p0 p1 p2
  obtain ⟨n,rfl,_,p0⟩:=p0
  obtain ⟨n',en,_,p1⟩:=p1
  cases en
  subst p2
  rename_i kvs k _ _
  cases hv:Ev.eV kvs k with
  | none=>exact ⟨g,h3,S3,by simp only [Ev.ev,e1,Ev.ak,e2,e3];simp [Ev.tV,Ev.fT,p0,p1,hv,Ev.cY],.of p3,o1.trans (o2.trans o3)⟩
  | some s=>exact ⟨.str s,h3,S3,by simp only [Ev.ev,e1,Ev.ak,e2,e3];simp [Ev.tV,Ev.fT,p0,p1,hv,Ev.cY],.of rfl,o1.trans (o2.trans o3)⟩
 ·cases z
theorem R4 (ia:bq P P' a):bq P P' (.nt a):=fun z f=>by
 simp only [ev] at z
 replace z:=ah z;obtain ⟨x,af,z1,z⟩:=z
 obtain ⟨d,h1,S1,e1,q1,o1⟩:=ia z1 f
 cases x <;> simp only [reduceCtorEq] at z
 cases z
 have q:=q1.t
 simp only [bh,Rep] at q
 subst q
 exact ⟨_,h1,S1,by simp only [Ev.ev,e1,Ev.ak],.of rfl,o1⟩
theorem AZ (ia:bq P P' a):bq P P' (.neg a):=fun z f=>by
 simp only [ev] at z
 replace z:=ah z;obtain ⟨x,af,z1,z⟩:=z
 obtain ⟨d,h1,S1,e1,q1,o1⟩:=ia z1 f
 cases x <;> simp only [reduceCtorEq] at z
 cases z
 have q:=q1.t
 simp only [bh,Rep] at q
 subst q
 exact ⟨_,h1,S1,by simp only [Ev.ev,e1,Ev.ak],.of rfl,o1⟩
theorem R5 (ia:bq P P' a) (ib:bq P P' b):bq P P' (.an a b):=fun z f=>by
 simp only [ev] at z
 replace z:=ah z;obtain ⟨x,af,z1,z⟩:=z
 obtain ⟨d,h1,S1,e1,q1,o1⟩:=ia z1 f
 cases x <;> try (cases z;done)
 rename_i k
 have q:=q1.t
 simp only [bh,Rep] at q
 subst q
 cases k with
 | true=>
  try simp only at z
  obtain ⟨d,h2,S2,e2,q2,o2⟩:=ib z o1.f
  exact ⟨d,h2,S2,by simp only [Ev.ev,e1,Ev.ak,e2],q2,o1.trans o2⟩
 | false=>
  try simp only at z
  cases z
  exact ⟨_,h1,S1,by simp only [Ev.ev,e1,Ev.ak],.of rfl,o1.weak (by simp only [bf];intro i hi;simp [hi])⟩
theorem Ni (ia:bq P P' a) (ib:bq P P' b):bq P P' (.orr a b):=fun z f=>by
 simp only [ev] at z
 replace z:=ah z;obtain ⟨x,af,z1,z⟩:=z
 obtain ⟨d,h1,S1,e1,q1,o1⟩:=ia z1 f
 cases x <;> try (cases z;done)
 rename_i k
 have q:=q1.t
 simp only [bh,Rep] at q
 subst q
 cases k with
 | false=>
  try simp only at z
  obtain ⟨d,h2,S2,e2,q2,o2⟩:=ib z o1.f
  exact ⟨d,h2,S2,by simp only [Ev.ev,e1,Ev.ak,e2],q2,o1.trans o2⟩
 | true=>
  try simp only at z
  cases z
  exact ⟨_,h1,S1,by simp only [Ev.ev,e1,Ev.ak],.of rfl,o1.weak (by simp only [bf];intro i hi;simp [hi])⟩
theorem A1 (it:gF P P' tt) (ia:bq P P' a) (ib:bq P P' b):bq P P' (.lO tt a b):=fun z f=>by
 simp only [ev] at z
 replace z:=ah z;obtain ⟨k,af,z1,z⟩:=z
 obtain ⟨h1,S1,e1,o1⟩:=it z1 f
 cases k with
 | true=>
  simp only [if_true] at z
  obtain ⟨d,h2,S2,e2,q2,o2⟩:=ia z o1.f
  exact ⟨d,h2,S2,by simp only [Ev.ev,e1,Ev.ak,if_true,e2],q2,(o1.trans o2).weak (by simp only [bf];intro i hi;simp at hi ⊢;rcases hi with hi | hi <;> simp [hi])⟩
 | false=>
  simp only [Bool.false_eq_true,if_false] at z
  obtain ⟨d,h2,S2,e2,q2,o2⟩:=ib z o1.f
  exact ⟨d,h2,S2,by simp only [Ev.ev,e1,Ev.ak];rw [if_neg (by decide)];exact e2,q2,(o1.trans o2).weak (by simp only [bf];intro i hi;simp at hi ⊢;rcases hi with hi | hi <;> simp [hi])⟩
theorem FU (ia:bq P P' a) (il:pN P P' lo) (ih:pN P P' hi):bq P P' (.sl a lo hi):=fun z f=>by
 simp only [ev] at z
 replace z:=ah z;obtain ⟨x,af,z1,z⟩:=z
 replace z:=ah z;obtain ⟨l,ao,z2,z⟩:=z
 replace z:=ah z;obtain ⟨u,bY,z3,z⟩:=z
 replace z:=aK z;obtain ⟨z,y0⟩:=z;subst y0
 obtain ⟨d,h1,S1,e1,q1,o1⟩:=ia z1 f
 obtain ⟨h2,S2,e2,o2⟩:=il z2 o1.f
 obtain ⟨h3,S3,e3,o3⟩:=ih z3 o2.f
 have q:=(q1.tr o1.f (o2.trans o3).tr id (kR e1)).t
 obtain ⟨r,h4,S4,a1,a2,a3⟩:=MV o3.f.w z q
 exact ⟨r,h4,S4,by simp only [Ev.ev,e1,Ev.ak,e2,e3,a1],.of a2,(o1.trans (o2.trans o3)).al a3⟩
theorem mQ:∀ {es:Es}{fr af:Fr}{as:List (Nat ⊕ V)},fV P es fr=.ok as af→∀ i∈bT as,i∈ju es
 | .nil,_,_,_,z=>by simp only [fV] at z;cases z;simp [bT]
 | .cons e es,fr,af,as,z=>by
  simp only [fV] at z
  cases y:kj fr e with
  | some i=>
   rw [y] at z
   simp only at z
   replace z:=ah z;obtain ⟨xs,bY,z2,z⟩:=z
   cases z
   have hy:e=.v i:=by
    cases e <;> simp only [kj,reduceCtorEq] at y
    split at y
    ·cases y;rfl
    ·cases y
   subst hy
   intro j hj
   simp only [bT,List.mem_cons] at hj
   simp only [ju,List.mem_cons]
   exact hj.imp id fun hj=>mQ z2 j hj
  | none=>
   rw [y] at z
   simp only at z
   replace z:=ah z;obtain ⟨x,ao,z1,z⟩:=z
   replace z:=ah z;obtain ⟨xs,bY,z2,z⟩:=z
   cases z
   intro j hj
   simp only [bT] at hj
   have:=mQ z2 j hj
   cases e <;> simp only [ju] <;> first | exact this | exact List.mem_cons_of_mem _ this
theorem FY (HP:pI P P') {g:Nat}(is:pM P P' es):bq P P' (.cl g es):=fun z f=>by
 simp only [ev] at z
 replace z:=ah z;obtain ⟨as,af,z1,z⟩:=z
 obtain ⟨ds,h1,S1,e1,q1,o1⟩:=is z1 f
 obtain ⟨d,h2,S2,e2,q2,o2⟩:=Di HP z o1.f q1
 exact ⟨d,h2,S2,by simp only [Ev.ev,e1,Ev.ak,e2],.of q2,(o1.trans o2).weak (by
  simp only [bf]
  intro i hi
  rcases List.mem_append.mp hi with hi | hi
  ·exact List.mem_append.mpr (.inl hi)
  ·exact List.mem_append.mpr (.inr (mQ z1 i hi)))⟩
theorem FZ {g:BI}(is:jd P P' es):bq P P' (.bi g es):=fun z f=>by
 simp only [ev] at z
 replace z:=ah z;obtain ⟨as,af,z1,z⟩:=z
 replace z:=aK z;obtain ⟨z,y0⟩:=z;subst y0
 obtain ⟨ds,h1,S1,e1,q1,o1⟩:=is z1 f
 obtain ⟨r,h4,S4,a1,a2,a3⟩:=MX o1.f.w z q1.t
 exact ⟨r,h4,S4,by simp only [Ev.ev,e1,Ev.ak,a1],.of a2,o1.al a3⟩
theorem xu {kvs:List (D×D)}(ia:bq P P' a):bq P P' (.iV kvs a):=fun z f=>by
 simp only [ev] at z
 replace z:=ah z;obtain ⟨x,af,z1,z⟩:=z
 replace z:=aK z;obtain ⟨z,y0⟩:=z;subst y0
 obtain ⟨d,h1,S1,e1,q1,o1⟩:=ia z1 f
 obtain ⟨r,a1,a2⟩:=Df (S:=S1) q1.t.u z
 exact ⟨r,h1,S1,by simp only [Ev.ev,e1,Ev.ak,a1,Ev.cY],.of a2,o1⟩
theorem A2 (ia:bq P P' a):bq P P' (.iw a):=fun z f=>by
 simp only [ev] at z
 replace z:=ah z;obtain ⟨x,af,z1,z⟩:=z
 replace z:=aK z;obtain ⟨z,y0⟩:=z;subst y0
 obtain ⟨d,h1,S1,e1,q1,o1⟩:=ia z1 f
 obtain ⟨r,a1,a2⟩:=MW z q1.t
 exact ⟨r,h1,S1,by simp only [Ev.ev,e1,Ev.ak,a1],.of a2,o1⟩
theorem Ga {m:ME}{o:E}(io:bq P P' o) (is:jd P P' es):bq P P' (.me m o es):=fun {k fr v af M B h S aj} z f=>by
 simp only [ev] at z
 by_cases hm:iK m=true
 ·rw [if_pos hm] at z
  cases y:kj fr o with
  | none=>rw [y] at z;cases z
  | some i=>
  rw [y] at z
  try simp only at z
  replace z:=ah z;obtain ⟨as,ao,z1,z⟩:=z
  have hy:o=.v i∧∃ s,lent fr i=some s:=by
   cases o <;> simp only [kj,reduceCtorEq] at y
   rename_i j
   split at y
   ·rename_i hs
    cases y
    exact ⟨rfl,Option.isSome_iff_exists.mp hs⟩
   ·cases y
  obtain ⟨rfl,s,hs⟩:=hy
  obtain ⟨n,cs,_,_,_,w2,w3,_,_⟩:=jl hs f
  obtain ⟨ds,h1,S1,e1,q1,o1⟩:=is z1 f
  have hr:Ev.wu m (.ref n) h=true:=by cases m <;> simp [iK] at hm <;> simp [Ev.wu,g6 w3]
  have hap:AL m=false→au h1 S1 as ds:=fun hh=>by rw [hh] at q1;exact q1.n
  have fin:∀ s l l',ao[i]?=some (some s)→gI (some s)=true→(∃ m' cs',aj[i]?=some (some (.ref m'))∧h1[m']?=some (.lst cs')∧au h1 S1 l cs')→jN m l as=some (v,l')→af=ao.set i (some (s.with l'))→
    M8 P' (.me m (.v i) es) k v M B h S fr aj af:=by
   intro s l l' k1 k2 ⟨m',cs',k3,k4,k5⟩ k6 k7
   rw [w2] at k3;cases k3
   have mn:=o1.f.mM k1 k2 w2
   obtain ⟨r,ds',a1,a2,a3⟩:=M7 k6 k4 k5 q1.t hap fun k z y=>(o1.f.wS k z).2.1 (y▸mn)
   have fw:=o1.f.write (l':=l') k1 k2 w2 a3
   subst k7
   refine ⟨r,_,S1,?_,.of (a2.mono (fun m z=>ko fun y=>(o1.f.wS m z).2.1 (y▸mn)) fun _ z=>z),fw,?_,fun j=>?_⟩
   ·simp only [Ev.ev,w2,Option.join,Ev.cY,Ev.ak,hr,if_true,e1]
    simp only [Option.bind,id,Ev.cY,Ev.ak,hr,if_true,e1]
    exact a1
   ·refine ⟨by simpa using o1.tr.len,fun m y1 y2=>?_,o1.tr.sub,fun m y=>by simpa using o1.tr.new m y⟩
    have y3:¬ Xs M aj (fY es) m:=fun z=>y2 (Xs.mono (by simp only [bf];intro i hi;simp [hi]) z)
    have y4:m≠n:=fun z=>y2 ⟨z▸mn,i,by simp [bf,UL,hm],by rw [z];exact w2⟩
    rw [ko (fun (z:n=m)=>y4 z.symm)]
    exact o1.tr.keep m y1 y3
   ·rw [←o1.lk j]
    unfold locked
    by_cases hj:i=j
    ·subst hj
     rw [List.getElem?_set_self (List.getElem?_eq_some_iff.mp k1).1,k1]
     exact xo
    ·rw [List.getElem?_set_ne hj]
  split at z
  ·rename_i l k1
   have old:=o1.f.get k1
   obtain ⟨p,k2,m',cs',rfl,_,k4,k5⟩:=old
   split at z
   ·rename_i v' l' k6
    cases z
    exact fin _ l l' k1 rfl ⟨m',cs',k2,k4,k5⟩ k6 rfl
   ·cases z
  ·rename_i l k1
   have old:=o1.f.get k1
   obtain ⟨p,k2,m',cs',rfl,_,k4,k5⟩:=old
   split at z
   ·rename_i v' l' k6
    cases z
    exact fin _ l l' k1 rfl ⟨m',cs',k2,k4,k5⟩ k6 rfl
   ·cases z
  ·cases z
 ·rw [if_neg hm] at z
  replace z:=ah z;obtain ⟨x,ao,z1,z⟩:=z
  replace z:=ah z;obtain ⟨as,bY,z2,z⟩:=z
  replace z:=aK z;obtain ⟨z,y0⟩:=z;subst y0
  obtain ⟨d,h1,S1,e1,q1,o1⟩:=io z1 f
  obtain ⟨ds,h2,S2,e2,q2,o2⟩:=is z2 o1.f
  have hm':iK m=false:=by simpa using hm
  have xw:=(q1.tr o1.f o2.tr id (kR e1)).t
  obtain ⟨a1,r,a2,a3⟩:=MY z hm' xw q2.t
  have hr:Ev.wu m d h1=true:=by
   unfold eW at z
   split at z
   ·have:=q1.t;simp only [bh,Rep] at this;subst this;rfl
   ·cases z
  exact ⟨r,h2,S2,by simp only [Ev.ev,e1,Ev.ak,hr,if_true,e2,a2],.of a3,(o1.trans o2).weak (by simp only [bf];intro i hi;simp at hi ⊢;rcases hi with hi | hi <;> simp [hi])⟩
theorem uH {elt:E}{t:T}{cond:Eo}(ii:jO P P' it) (ic:sM P P' cond) (ie:bq P P' elt):bq P P' (.comp elt t it cond):=fun z f=>by
 simp only [ev] at z
 replace z:=ah z;obtain ⟨vs,ao,z1,z⟩:=z
 split at z
 case isFalse=>cases z
 rename_i hu
 replace z:=aK z;obtain ⟨z,y0⟩:=z;subst y0
 simp only [Option.bind_eq_some_iff] at z
 obtain ⟨rs,z2,z3⟩:=z
 obtain ⟨s,h1,S1,e1,q1,q2,o1⟩:=ii z1 f
 have ZV:=o1.f.ro
 obtain ⟨rs',h2,S2,c1,c2,c3⟩:=xr (f':=fun d h2=>match Ev.bH t d _ with
    | none=>.bad
    | some ao=>(Ev.gU P' cond ao h2).bind fun k h3=>if k then (Ev.ev P' elt ao h3).bind fun x h4=>.ok (some x) h4 else .ok none h3) (ck:=s.2) o1.f.w (fun q hq=>(q2 q hq).1) (fun v o d h S al y q=>by
  split at y
  ·cases y
  ·rename_i bY y1
   obtain ⟨iX,b1,b2,_,_⟩:=(ZV.al al).bH y1 q
   rw [b1]
   split at y
   ·rename_i c ja y2
    obtain ⟨h3,S3,c1,oc⟩:=ic y2 b2
    have Nj:Al h S h3 S3:=oc.tr.al fun m z=>z.1
    split at y
    ·rename_i hc
     subst hc
     split at y
     ·rename_i x rm y3
      cases y
      obtain ⟨d',h4,S4,d1,d2,od⟩:=ie y3 (b2.al Nj)
      refine ⟨some d',h4,S4,?_,⟨d',rfl,d2.n⟩,Nj.trans (od.tr.al fun m z=>z.1)⟩
      simp only [c1,Ev.ak,if_true,d1]
     ·cases y
    ·rename_i hc
     cases y
     refine ⟨none,h3,S3,?_,rfl,Nj⟩
     simp only [c1,Ev.ak]
     rw [if_neg hc]
   ·cases y) Al.refl z2 q1
 obtain ⟨r,h4,S4,a1,a2,a3⟩:=g9 (o1.f.al c3).w z3 c2
 refine ⟨r,h4,S4,?_,.of a2,(o1.al c3).al a3⟩
 simp only [Ev.ev,e1,Ev.ak]
 rw [if_pos (o1.f.undef hu)]
 refine Eq.trans (congrArg (fun q:Ev.R (List D)=>q.bind fun ds h2=>Ev.alloc ds h2) c1) ?_
 simp only [Ev.ak,a1]
theorem A3 (ii:jO P P' it):bq P P' (.ee it):=fun z f=>by
 simp only [ev] at z
 replace z:=ah z;obtain ⟨vs,ao,z1,z⟩:=z
 replace z:=aK z;obtain ⟨z,y0⟩:=z;subst y0
 obtain ⟨s,h1,S1,e1,q1,q2,o1⟩:=ii z1 f
 obtain ⟨r,h4,S4,a1,a2,a3⟩:=g9 o1.f.w z q1
 exact ⟨r,h4,S4,by simp only [Ev.ev,e1,Ev.ak,a1],.of a2,o1.al a3⟩
theorem Nk:jd P P' .nil:=fun {k fr v af M B h S aj} z f=>by
 simp only [cg] at z
 cases z
 refine ⟨[],_,_,by simp only [Ev.cg],?_,.refl f⟩
 unfold jc;split <;> rfl
theorem Jh (ie:bq P P' e) (is:jd P P' es):jd P P' (.cons e es):=fun {k fr v af M B h S aj} z f=>by
 simp only [cg] at z
 replace z:=ah z;obtain ⟨x,ao,z1,z⟩:=z
 replace z:=ah z;obtain ⟨xs,bY,z2,z⟩:=z
 cases z
 obtain ⟨d,h1,S1,e1,q1,o1⟩:=ie z1 f
 obtain ⟨ds,h2,S2,e2,q2,o2⟩:=is z2 o1.f
 have xw:=q1.tr (a:=e) o1.f o2.tr (by intro z;simp at z;exact z.2) (kR e1)
 refine ⟨d :: ds,h2,S2,by simp only [Ev.cg,e1,Ev.ak,e2],?_,o1.trans o2⟩
 unfold jc at q2 ⊢
 cases k with
 | true=>simp only [if_true] at q2 ⊢;exact ⟨d,ds,rfl,xw.t,q2⟩
 | false=>
  simp only [Bool.false_eq_true,if_false] at q2 ⊢
  exact .cons (by simpa [fD] using xw) q2
theorem Ji:pM P P' .nil:=fun z f=>by
 simp only [fV] at z
 cases z
 exact ⟨[],_,_,by simp only [Ev.cg],rfl,.refl f⟩
theorem Dl (ie:bq P P' e) (is:pM P P' es):pM P P' (.cons e es):=fun {fr v af M B h S aj} z f=>by
 simp only [fV] at z
 cases y:kj fr e with
 | some i=>
  rw [y] at z
  try simp only at z
  replace z:=ah z;obtain ⟨xs,bY,z2,z⟩:=z
  cases z
  have hy:e=.v i∧∃ s,lent fr i=some s:=by
   cases e <;> simp only [kj,reduceCtorEq] at y
   rename_i j
   split at y
   ·rename_i hs
    cases y
    exact ⟨rfl,Option.isSome_iff_exists.mp hs⟩
   ·cases y
  obtain ⟨rfl,s,hs⟩:=hy
  obtain ⟨n,cs,_,_,_,w2,w3,_,_⟩:=jl hs f
  obtain ⟨ds,h2,S2,e2,q2,o2⟩:=is z2 f
  refine ⟨.ref n :: ds,h2,S2,?_,⟨_,_,rfl,w2,q2⟩,o2.weak (by simp only [fY,bf];intro i hi;simpa using hi)⟩
  simp only [Ev.cg,Ev.ev,w2,Option.join,Option.bind,id,Ev.cY,Ev.ak,e2]
 | none=>
  rw [y] at z
  try simp only at z
  replace z:=ah z;obtain ⟨x,ao,z1,z⟩:=z
  replace z:=ah z;obtain ⟨xs,bY,z2,z⟩:=z
  cases z
  obtain ⟨d,h1,S1,e1,q1,o1⟩:=ie z1 f
  obtain ⟨ds,h2,S2,e2,q2,o2⟩:=is z2 o1.f
  exact ⟨d :: ds,h2,S2,by simp only [Ev.cg,e1,Ev.ak,e2],⟨_,_,rfl,q1.n.tr o1.f o2.tr,q2⟩,o1.trans o2⟩
theorem R6:pN P P' .no:=fun z f=>by
 simp only [fU] at z;cases z
 exact ⟨_,_,by simp only [Ev.fU],.refl f⟩
theorem Nl (ie:bq P P' e):pN P P' (.yes e):=fun z f=>by
 simp only [fU] at z
 replace z:=ah z;obtain ⟨x,ao,z1,z⟩:=z
 replace z:=aK z;obtain ⟨z,y0⟩:=z;subst y0
 obtain ⟨d,h1,S1,e1,q1,o1⟩:=ie z1 f
 cases x <;> simp [intOf] at z
 subst z
 have q:=q1.t
 simp only [bh,Rep] at q
 subst q
 exact ⟨h1,S1,by simp only [Ev.fU,e1,Ev.ak];rfl,o1⟩
theorem Nn:sM P P' .no:=fun z f=>by
 simp only [gU] at z;cases z
 exact ⟨_,_,by simp only [Ev.gU],.refl f⟩
theorem Jj (ie:gF P P' e):sM P P' (.yes e):=fun z f=>by
 simp only [gU] at z
 obtain ⟨h1,S1,e1,o1⟩:=ie z f
 exact ⟨h1,S1,by simp only [Ev.gU,e1],o1⟩
theorem Xo (ia:gF P P' a) (ib:gF P P' b):gF P P' (.an a b):=fun z f=>by
 simp only [aL] at z
 replace z:=ah z;obtain ⟨k,af,z1,z⟩:=z
 obtain ⟨h1,S1,e1,o1⟩:=ia z1 f
 cases k with
 | true=>
  simp only [if_true] at z
  obtain ⟨h2,S2,e2,o2⟩:=ib z o1.f
  exact ⟨h2,S2,by simp only [Ev.aL,e1,Ev.ak,if_true,e2],o1.trans o2⟩
 | false=>
  simp only [Bool.false_eq_true,if_false] at z
  cases z
  exact ⟨h1,S1,by simp only [Ev.aL,e1,Ev.ak];rfl,o1.weak (by simp only [bf];intro i hi;simp [hi])⟩
theorem R7 (ia:gF P P' a) (ib:gF P P' b):gF P P' (.orr a b):=fun z f=>by
 simp only [aL] at z
 replace z:=ah z;obtain ⟨k,af,z1,z⟩:=z
 obtain ⟨h1,S1,e1,o1⟩:=ia z1 f
 cases k with
 | false=>
  simp only [Bool.false_eq_true,if_false] at z
  obtain ⟨h2,S2,e2,o2⟩:=ib z o1.f
  exact ⟨h2,S2,by simp only [Ev.aL,e1,Ev.ak];rw [if_neg (by decide)];exact e2,o1.trans o2⟩
 | true=>
  simp only [if_true] at z
  cases z
  exact ⟨h1,S1,by simp only [Ev.aL,e1,Ev.ak];rfl,o1.weak (by simp only [bf];intro i hi;simp [hi])⟩
theorem Xp (ia:gF P P' a):gF P P' (.nt a):=fun z f=>by
 simp only [aL] at z
 replace z:=ah z;obtain ⟨k,af,z1,z⟩:=z
 obtain ⟨h1,S1,e1,o1⟩:=ia z1 f
 cases z
 exact ⟨h1,S1,by simp only [Ev.aL,e1,Ev.ak],o1⟩
theorem dm (ie:bq P P' e) (h1:∀ fr,aL P e fr=(ev P true e fr).bind fun x af=>.ok (truthy x) af) (h2:∀ fr h,Ev.aL P' e fr h=(Ev.ev P' e fr h).bind fun x h1=>Ev.R.of (Ev.truthy h1 x) h1):gF P P' e:=fun z f=>by
 rw [h1] at z
 replace z:=ah z;obtain ⟨x,af,z1,z⟩:=z
 cases z
 obtain ⟨d,h1,S1,e1,q1,o1⟩:=ie z1 f
 exact ⟨h1,S1,by rw [h2,e1,Ev.ak,AM q1.t];rfl,o1⟩
theorem pO (ie:bq P P' e) {k:Bool}{fr:Fr}{v:V}{af:Fr}{M B:Nat→Prop}{h:Hh}{S:Nat→Prop}{aj:Ev.Fr}(z:src k fr e (ev P k e fr)=.ok v af) (f:bI M B h S fr aj) :
  ∃ d h' S',Ev.ev P' e aj h=.ok d h'∧bh h' S' v d∧(k=false→∀ n,d=.ref n→¬ M n)∧Out M B (bf e) h S fr aj h' S' af:=by
 have gen:ev P k e fr=.ok v af→∃ d h' S',Ev.ev P' e aj h=.ok d h'∧bh h' S' v d∧(k=false→∀ n,d=.ref n→¬ M n)∧Out M B (bf e) h S fr aj h' S' af:=fun z=>by
  obtain ⟨d,h1,S1,e1,q1,o1⟩:=ie z f
  refine ⟨d,h1,S1,e1,q1.t,fun hk n hd=>?_,o1⟩
  subst hk
  have q:=q1.n
  cases v <;> simp only [Rep] at q
  ·cases q.symm.trans hd
  ·cases q.symm.trans hd
  ·cases q.symm.trans hd
  ·cases q.symm.trans hd
  ·obtain ⟨_,q,_⟩:=q;cases q.symm.trans hd
  ·obtain ⟨m,ds,q,sm,_⟩:=q;cases q.symm.trans hd;exact (o1.f.wS _ sm).2.1
  ·obtain ⟨m,ds,q,sm,_⟩:=q;cases q.symm.trans hd;exact (o1.f.wS _ sm).2.1
  ·obtain ⟨m,q,sm,_⟩:=q;cases q.symm.trans hd;exact (o1.f.wS _ sm).2.1
 cases e
 case v i=>
  simp only [src] at z
  replace z:=aK z;obtain ⟨z,y0⟩:=z;subst y0
  unfold yL at z
  split at z
  ·rename_i l y
   cases z
   obtain ⟨p,e1,m,ds,rfl,y1,y2,y3⟩:=f.get y
   exact ⟨.ref m,h,S,by simp only [Ev.ev,e1,Option.join,Option.bind,id,Ev.cY],⟨m,ds,rfl,y2,y3⟩,fun _ n hn=>by cases hn;exact y1,.refl f⟩
  ·exact gen (by simp only [ev,z,cY])
 all_goals exact gen z
theorem Np (ie:bq P P' e):jO P P' (.seq e):=fun z f=>by
 simp only [cy] at z
 replace z:=ah z;obtain ⟨x,af,z1,z⟩:=z
 replace z:=aK z;obtain ⟨z,y0⟩:=z;subst y0
 obtain ⟨d,h1,S1,e1,q1,q2,o1⟩:=pO ie z1 f
 obtain ⟨s,a1,a2,a3⟩:=Dg z q1
 exact ⟨s,h1,S1,by simp only [Ev.cy,e1,Ev.ak,a1,Ev.cY],a2,fun q hq=>⟨(a3 q hq).2,fun hk=>q2 hk _ (a3 q hq).1⟩,o1⟩
theorem Jk (is:jd P P' es):jO P P' (.gy es):=fun z f=>by
 simp only [cy] at z
 replace z:=ah z;obtain ⟨x,af,z1,z⟩:=z
 replace z:=aK z;obtain ⟨z,y0⟩:=z;subst y0
 obtain ⟨d,h1,S1,e1,q1,o1⟩:=is z1 f
 obtain ⟨s,a1,a2⟩:=MZ z q1.t
 exact ⟨(s,[]),h1,S1,by simp only [Ev.cy,e1,Ev.ak,a1,Ev.cY],a2,fun q hq=>by simp at hq,o1⟩
theorem Dm (ie:bq P P' e):jO P P' (.enum e):=fun z f=>by
 simp only [cy] at z
 replace z:=ah z;obtain ⟨x,af,z1,z⟩:=z
 replace z:=aK z;obtain ⟨z,y0⟩:=z;subst y0
 obtain ⟨d,h1,S1,e1,q1,q2,o1⟩:=pO ie z1 f
 simp only [Option.map_eq_some_iff] at z
 obtain ⟨l,z,rfl⟩:=z
 obtain ⟨s,a1,a2,a3⟩:=qN z q1
 exact ⟨(Ev.gE 0 s.1,s.2),h1,S1,by simp only [Ev.cy,e1,Ev.ak,a1,Option.map,Ev.cY],xj 0 a2,fun q hq=>⟨(a3 q hq).2,fun hk=>q2 hk _ (a3 q hq).1⟩,o1⟩
theorem Jl (ie:bq P P' e):jO P P' (.rev e):=fun z f=>by
 simp only [cy] at z
 replace z:=ah z;obtain ⟨x,af,z1,z⟩:=z
 replace z:=aK z;obtain ⟨z,y0⟩:=z;subst y0
 obtain ⟨d,h1,S1,e1,q1,o1⟩:=ie z1 f
 simp only [Option.map_eq_some_iff] at z
 obtain ⟨l,z,rfl⟩:=z
 cases x <;> simp only [yK,reduceCtorEq] at z
 cases z
 have k1:=q1.t
 simp only [bh,Rep] at k1
 obtain ⟨ds,y1,k2⟩:=k1
 subst y1
 exact ⟨(ds.reverse,[]),h1,S1,by simp only [Ev.cy,e1,Ev.ak,Ev.CK,Option.map,Ev.cY],k2.reverse,fun q hq=>by simp at hq,o1⟩
theorem Jm (ia:bq P P' a) (ib:bq P P' b):jO P P' (.zip a b):=fun {k fr v af M B h S aj} z f=>by
 simp only [cy] at z
 replace z:=ah z;obtain ⟨x,ao,z1,z⟩:=z
 replace z:=ah z;obtain ⟨y,bY,z2,z⟩:=z
 replace z:=aK z;obtain ⟨z,y0⟩:=z;subst y0
 obtain ⟨d,h1,S1,e1,q1,r1,o1⟩:=pO ia z1 f
 obtain ⟨e,h2,S2,e2,q2,r2,o2⟩:=pO ib z2 o1.f
 simp only [Option.map_eq_some_iff,Option.bind_eq_some_iff] at z
 obtain ⟨l,z3,m,z4,rfl⟩:=z
 have xw:bh h2 S2 x d:=by
  by_cases hk:(k&&kf a (bf b))=true
  ·exact (fD.tr (k:=true) (a:=a) (by unfold fD;rw [if_pos rfl];exact q1) o1.f o2.tr (fun _=>by simp at hk;exact hk.2) (kR e1)).t
  ·have r1:=r1 (by simpa using hk)
   cases x
   case lst l=>
    simp only [bh] at q1 ⊢
    obtain ⟨n,ds,rfl,a1,a2⟩:=q1
    exact ⟨n,ds,rfl,by rw [o2.tr.keep n (List.getElem?_eq_some_iff.mp a1).1 (fun z=>r1 n rfl z.1)];exact a1,a2.tr o1.f o2.tr⟩
   all_goals exact Rep.tr (show Rep h1 S1 _ d from q1) o1.f o2.tr
 obtain ⟨s,a1,a2,a3⟩:=qN z3 xw
 obtain ⟨t,b1,b2,b3⟩:=qN z4 q2
 refine ⟨(Ev.dP s.1 t.1,s.2++t.2),h2,S2,by simp only [Ev.cy,e1,Ev.ak,e2,a1,b1,Option.bind,Option.map,Ev.cY],AN a2 b2,fun q hq=>?_,o1.trans o2⟩
 rcases List.mem_append.mp hq with hq | hq
 ·exact ⟨(a3 q hq).2,fun hk=>r1 (by simp [hk]) _ (a3 q hq).1⟩
 ·exact ⟨(b3 q hq).2,fun hk=>r2 hk _ (b3 q hq).1⟩
end
section
variable {P:aP}{P':Ev.aP}(HP:pI P P')
include HP
mutual
theorem aW:∀ e:E,bq P P' e
 | .c _=>Ng
 | .v _=>Nh
 | .tup es=>AS (fZ es)
 | .lst es=>AU (fZ es)
 | .bin _ a b=>AV (aW a) (aW b)
 | .cmp _ a b=>AW (aW a) (aW b)
 | .nt a=>R4 (aW a)
 | .neg a=>AZ (aW a)
 | .an a b=>R5 (aW a) (aW b)
 | .orr a b=>Ni (aW a) (aW b)
 | .lO t a b=>A1 (gz t) (aW a) (aW b)
 | .ix a b=>FT (aW a) (aW b)
 | .sl a lo hi=>FU (aW a) (pP lo) (pP hi)
 | .iW=>fun z _=>by simp only [ev] at z;cases z
 | .jL a b=>AX (aW a) (aW b)
 | .lP a b c=>AY (aW a) (aW b) (aW c)
 | .cl _ es=>FY HP (uI es)
 | .bi _ es=>FZ (fZ es)
 | .me _ o es=>Ga (aW o) (fZ es)
 | .comp elt _ it cond=>uH (kq it) (A4 cond) (aW elt)
 | .ee it=>A3 (kq it)
 | .iV _ a=>xu (aW a)
 | .iw a=>A2 (aW a)
theorem gz:∀ e:E,gF P P' e
 | .an a b=>Xo (gz a) (gz b)
 | .orr a b=>R7 (gz a) (gz b)
 | .nt a=>Xp (gz a)
 | .c x=>dm Ng (fun _=>by simp only [aL]) (fun _ _=>by simp only [Ev.aL])
 | .v x=>dm Nh (fun _=>by simp only [aL]) (fun _ _=>by simp only [Ev.aL])
 | .tup es=>dm (AS (fZ es)) (fun _=>by simp only [aL]) (fun _ _=>by simp only [Ev.aL])
 | .lst es=>dm (AU (fZ es)) (fun _=>by simp only [aL]) (fun _ _=>by simp only [Ev.aL])
 | .bin _ a b=>dm (AV (aW a) (aW b)) (fun _=>by simp only [aL]) (fun _ _=>by simp only [Ev.aL])
 | .cmp _ a b=>dm (AW (aW a) (aW b)) (fun _=>by simp only [aL]) (fun _ _=>by simp only [Ev.aL])
 | .neg a=>dm (AZ (aW a)) (fun _=>by simp only [aL]) (fun _ _=>by simp only [Ev.aL])
 | .lO t a b=>dm (A1 (gz t) (aW a) (aW b)) (fun _=>by simp only [aL]) (fun _ _=>by simp only [Ev.aL])
 | .ix a b=>dm (FT (aW a) (aW b)) (fun _=>by simp only [aL]) (fun _ _=>by simp only [Ev.aL])
 | .sl a lo hi=>dm (FU (aW a) (pP lo) (pP hi)) (fun _=>by simp only [aL]) (fun _ _=>by simp only [Ev.aL])
 | .iW=>dm (fun z _=>by simp only [ev] at z;cases z) (fun _=>by simp only [aL]) (fun _ _=>by simp only [Ev.aL])
 | .jL a b=>dm (AX (aW a) (aW b)) (fun _=>by simp only [aL]) (fun _ _=>by simp only [Ev.aL])
 | .lP a b c=>dm (AY (aW a) (aW b) (aW c)) (fun _=>by simp only [aL]) (fun _ _=>by simp only [Ev.aL])
 | .cl _ es=>dm (FY HP (uI es)) (fun _=>by simp only [aL]) (fun _ _=>by simp only [Ev.aL])
 | .bi _ es=>dm (FZ (fZ es)) (fun _=>by simp only [aL]) (fun _ _=>by simp only [Ev.aL])
 | .me _ o es=>dm (Ga (aW o) (fZ es)) (fun _=>by simp only [aL]) (fun _ _=>by simp only [Ev.aL])
 | .comp elt _ it cond=>dm (uH (kq it) (A4 cond) (aW elt)) (fun _=>by simp only [aL]) (fun _ _=>by simp only [Ev.aL])
 | .ee it=>dm (A3 (kq it)) (fun _=>by simp only [aL]) (fun _ _=>by simp only [Ev.aL])
 | .iV _ a=>dm (xu (aW a)) (fun _=>by simp only [aL]) (fun _ _=>by simp only [Ev.aL])
 | .iw a=>dm (A2 (aW a)) (fun _=>by simp only [aL]) (fun _ _=>by simp only [Ev.aL])
theorem fZ:∀ e:Es,jd P P' e
 | .nil=>Nk
 | .cons e es=>Jh (aW e) (fZ es)
theorem uI:∀ e:Es,pM P P' e
 | .nil=>Ji
 | .cons e es=>Dl (aW e) (uI es)
theorem pP:∀ e:Eo,pN P P' e
 | .no=>R6
 | .yes e=>Nl (aW e)
theorem A4:∀ e:Eo,sM P P' e
 | .no=>Nn
 | .yes e=>Jj (gz e)
theorem kq:∀ e:It,jO P P' e
 | .seq e=>Np (aW e)
 | .gy es=>Jk (fZ es)
 | .zip a b=>Jm (aW a) (aW b)
 | .enum a=>Dm (aW a)
 | .rev a=>Jl (aW a)
end
end
end Pv
namespace Pv
open Ev (D O Hh bZ bP TY BI ME T E Es Eo It S Ss Fn big deep b2i rep cz dM bL aR cut cJ d8 slots bu)
structure Tr (M B:Nat→Prop) (h:Hh) (S:Nat→Prop) (M':Nat→Prop) (h':Hh) (S':Nat→Prop):Prop where
 len:h.length≤h'.length
 keep:∀ m,m<h.length→¬ M m→h'[m]?=h[m]?
 sub:∀ m,S m→S' m
 new:∀ m,S' m→S m∨(h.length≤m∧m<h'.length)∨(M m∧¬ B m)
 yO:∀ m,M' m→M m∨h.length≤m
structure dY (M B:Nat→Prop) (h:Hh) (S:Nat→Prop) (fr:Fr) (aj:Ev.Fr) (M':Nat→Prop) (h':Hh) (S':Nat→Prop) (af:Fr) (bQ:Ev.Fr):Prop where
 f:bI M' B h' S' af bQ
 tr:Tr M B h S M' h' S'
 lk:∀ i,locked af i=locked fr i
 rf:∀ i,locked fr i=true→bQ[i]?=aj[i]?
noncomputable def gM (h:Hh) (S:Nat→Prop):Fl→Ev.Fl→Prop
 | .nx,g=>g=.nx
 | .bk,g=>g=.bk
 | .ct,g=>g=.ct
 | .ret v,g=>∃ d,g=.ret d∧Rep h S v d
section
variable {M B M' M1 M2:Nat→Prop}{h h' h1 h2:Hh}{S S' S1 S2:Nat→Prop}{fr af ao:Fr}{aj bQ kT:Ev.Fr}{c c1 c2:List Nat}{v:V}{d:D}
theorem dY.refl (f:bI M B h S fr aj):dY M B h S fr aj M h S fr aj:=⟨f,⟨Nat.le_refl _,fun _ _ _=>rfl,fun _ q=>q,fun _ q=>.inl q,fun _ q=>.inl q⟩,fun _=>rfl,fun _ _=>rfl⟩
theorem Out.s (o:Out M B c h S fr aj h1 S1 af):dY M B h S fr aj M h1 S1 af aj:=⟨o.f,⟨o.tr.len,fun m y1 y2=>o.tr.keep m y1 (fun z=>y2 z.1),o.tr.sub,fun m q=>(o.tr.new m q).imp id .inl,fun _ q=>.inl q⟩,o.lk,fun _ _=>rfl⟩
theorem dY.trans (f0:bI M B h S fr aj) (a:dY M B h S fr aj M1 h1 S1 af bQ) (b:dY M1 B h1 S1 af bQ M2 h2 S2 ao kT):dY M B h S fr aj M2 h2 S2 ao kT where
 f:=b.f
 tr:=⟨Nat.le_trans a.tr.len b.tr.len,fun m y1 y2=>by
   rw [b.tr.keep m (Nat.lt_of_lt_of_le y1 a.tr.len) (fun z=>by
    rcases a.tr.yO m z with z | z
    ·exact y2 z
    ·omega),a.tr.keep m y1 y2],fun m q=>b.tr.sub m (a.tr.sub m q),fun m q=>by
   rcases b.tr.new m q with q | q | q
   ·rcases a.tr.new m q with q | q | q
    ·exact .inl q
    ·exact .inr (.inl ⟨q.1,Nat.lt_of_lt_of_le q.2 b.tr.len⟩)
    ·exact .inr (.inr q)
   ·exact .inr (.inl ⟨Nat.le_trans a.tr.len q.1,q.2⟩)
   ·rcases a.tr.yO m q.1 with z | z
    ·exact .inr (.inr ⟨z,q.2⟩)
    ·exact .inr (.inl ⟨z,Nat.lt_of_lt_of_le (a.f.wM m q.1) b.tr.len⟩),fun m q=>by
   rcases b.tr.yO m q with q | q
   ·exact a.tr.yO m q
   ·exact .inr (Nat.le_trans a.tr.len q)⟩
 lk:=fun i=>(b.lk i).trans (a.lk i)
 rf:=fun i q=>(b.rf i (by rw [a.lk i];exact q)).trans (a.rf i q)
theorem bI.kind (f:bI M B h S fr aj) (g:Option Sl→Option Sl→Prop) (hl:af.length=fr.length) (hg:∀ (i:Nat) o,af[i]?=some o→∃ o0,fr[i]?=some o0∧(o=o0∨(∃ l,o0=some (.own l)∧o=some (.val (.lst l)))∨(∃ l,o0=some (.bor l)∧o=some (.ro l)))) :
  ∃ M' S',dY M B h S fr aj M' h S' af aj:=by
 let X:Nat→Prop:=fun m=>∃ (i:Nat) (l:List V),fr[i]?=some (some (Sl.own l))∧af[i]?=some (some (Sl.val (V.lst l)))∧aj[i]?=some (some (D.ref m))
 let Y:Nat→Prop:=fun m=>∃ (i:Nat) (l:List V),fr[i]?=some (some (Sl.bor l))∧af[i]?=some (some (Sl.ro l))∧aj[i]?=some (some (D.ref m))
 have xM:∀ m,X m→M m∧¬ B m:=fun m ⟨i,l,a,_,b⟩=>by
  obtain ⟨m',ds,e,q,_⟩:=f.sl i _ _ a b;cases e;exact q
 have yM:∀ m,Y m→M m∧B m:=fun m ⟨i,l,a,_,b⟩=>by
  obtain ⟨m',ds,e,q,_⟩:=f.sl i _ _ a b;cases e;exact q
 have mono:∀ {l:List V} {ds:List D},au h S l ds→au h (fun m=>S m∨X m) l ds:=fun q=>q.mono (fun _ _=>rfl) fun _ z=>.inl z
 refine ⟨fun m=>M m∧¬ X m∧¬ Y m,fun m=>S m∨X m,⟨⟨fun m q=>?_,fun m q=>f.wM m q.1,f.wB,by rw [hl,f.len],fun i o p e1 e2=>?_,fun i j o o' m y1 y2 y3 y4 y5 y6=>?_⟩,⟨Nat.le_refl _,fun _ _ _=>rfl,fun _ q=>.inl q,fun m q=>?_,fun m q=>.inl q.1⟩,fun i=>?_,fun _ _=>rfl⟩⟩
 ·rcases q with q | q
  ·exact ⟨(f.wS m q).1,fun z=>(f.wS m q).2.1 z.1,(f.wS m q).2.2⟩
  ·exact ⟨f.wM m (xM m q).1,fun z=>z.2.1 q,(xM m q).2⟩
 ·obtain ⟨o0,e0,k⟩:=hg i o e1
  have old:=f.sl i o0 p e0 e2
  rcases k with rfl | ⟨l,rfl,rfl⟩ | ⟨l,rfl,rfl⟩
  ·rcases o with _ | s
   ·exact old
   ·cases s with
    | val v=>obtain ⟨d,e,q⟩:=old;exact ⟨d,e,q.mono (fun _ _=>rfl) fun _ z=>.inl z⟩
    | own l=>
     obtain ⟨m,ds,rfl,z,y,q⟩:=old
     refine ⟨m,ds,rfl,⟨⟨z.1,fun ⟨j,l',a1,a2,a3⟩=>?_,fun ⟨j,l',a1,a2,a3⟩=>?_⟩,z.2⟩,y,mono q⟩
     ·have:=f.inj i j _ _ m e0 a1 rfl rfl e2 a3;subst this;rw [e1] at a2;cases a2
     ·have:=f.inj i j _ _ m e0 a1 rfl rfl e2 a3;subst this;rw [e1] at a2;cases a2
    | bor l=>
     obtain ⟨m,ds,rfl,z,y,q⟩:=old
     refine ⟨m,ds,rfl,⟨⟨z.1,fun ⟨j,l',a1,a2,a3⟩=>?_,fun ⟨j,l',a1,a2,a3⟩=>?_⟩,z.2⟩,y,mono q⟩
     ·have:=f.inj i j _ _ m e0 a1 rfl rfl e2 a3;subst this;rw [e1] at a2;cases a2
     ·have:=f.inj i j _ _ m e0 a1 rfl rfl e2 a3;subst this;rw [e1] at a2;cases a2
    | ro l=>obtain ⟨m,ds,rfl,z,y,q⟩:=old;exact ⟨m,ds,rfl,fun w=>z w.1,y,mono q⟩
  ·obtain ⟨m,ds,rfl,z,y,q⟩:=old
   exact ⟨.ref m,rfl,m,ds,rfl,.inr ⟨i,l,e0,e1,e2⟩,y,mono q⟩
  ·obtain ⟨m,ds,rfl,z,y,q⟩:=old
   exact ⟨m,ds,rfl,fun w=>w.2.2 ⟨i,l,e0,e1,e2⟩,y,mono q⟩
 ·have kd:∀ (i:Nat) o,af[i]?=some o→gI o=true→∃ o0,fr[i]?=some o0∧gI o0=true:=fun i o w1 w2=>by
   obtain ⟨o0,e0,k⟩:=hg i o w1
   rcases k with rfl | ⟨l,rfl,rfl⟩ | ⟨l,rfl,rfl⟩
   ·exact ⟨o,e0,w2⟩
   ·cases w2
   ·cases w2
  obtain ⟨oi,k1,k2⟩:=kd i o y1 y3
  obtain ⟨oj,k3,k4⟩:=kd j o' y2 y4
  exact f.inj i j oi oj m k1 k3 k2 k4 y5 y6
 ·rcases q with q | q
  ·exact .inl q
  ·exact .inr (.inr (xM m q))
 ·unfold locked
  cases z:af[i]? with
  | none=>
   have:fr[i]?=none:=by rw [List.getElem?_eq_none_iff] at z ⊢;omega
   rw [this]
  | some o=>
   obtain ⟨o0,e0,k⟩:=hg i o z
   rw [e0]
   rcases k with rfl | ⟨l,rfl,rfl⟩ | ⟨l,rfl,rfl⟩ <;> rfl
theorem bI.dj (f:bI M B h S fr aj):∃ M' S',dY M B h S fr aj M' h S' (gq fr) aj:=by
 refine f.kind (fun _ _=>True) (by simp [gq]) fun i o e=>?_
 unfold gq at e
 rw [List.getElem?_map] at e
 cases z:fr[i]? with
 | none=>rw [z] at e;cases e
 | some o0=>
  rw [z] at e;cases e
  refine ⟨o0,rfl,?_⟩
  rcases o0 with _ | s
  ·exact .inl rfl
  ·cases s with
   | own l=>exact .inr (.inl ⟨l,rfl,rfl⟩)
   | _=>exact .inl rfl
theorem bI.walk:∀ (is:List Nat) {M:Nat→Prop}{S:Nat→Prop}{fr:Fr},bI M B h S fr aj→∃ M' S',dY M B h S fr aj M' h S' (sL is fr) aj
 | [],_,_,_,f=>⟨_,_,.refl f⟩
 | i :: is,M,S,fr,f=>by
  have one:∃ M1 S1,dY M B h S fr aj M1 h S1 (match fr[i]? with | some (some s)=>fr.set i (some s.walk) | _=>fr) aj:=by
   split
   ·rename_i s z
    have hl:=(List.getElem?_eq_some_iff.mp z).1
    refine f.kind (fun _ _=>True) (by simp) fun j o e=>?_
    by_cases hj:i=j
    ·subst hj
     rw [List.getElem?_set_self hl] at e
     cases e
     refine ⟨_,z,?_⟩
     cases s with
     | own l=>exact .inr (.inl ⟨l,rfl,rfl⟩)
     | bor l=>exact .inr (.inr ⟨l,rfl,rfl⟩)
     | _=>exact .inl rfl
    ·rw [List.getElem?_set_ne hj] at e
     exact ⟨o,e,.inl rfl⟩
   ·exact ⟨M,S,.refl f⟩
  obtain ⟨M1,S1,o1⟩:=one
  obtain ⟨M2,S2,o2⟩:=bI.walk is o1.f
  exact ⟨M2,S2,o1.trans f o2⟩
theorem bI.own (f:bI M B h S fr aj) {i:Nat}{l:List V}{ds:List D}(e:put fr i (.own l)=some af) (q:au h S l ds):dY M B h S fr aj (fun m=>M m∨m=h.length) (h++[.lst ds]) S af (aj.set i (some (.ref h.length))):=by
 have hx:af=fr.set i (some (.own l))∧locked fr i=false:=by
  unfold put at e
  unfold locked
  split at e
  ·cases e
  ·cases e
  ·rename_i k1 k2
   cases e
   refine ⟨rfl,?_⟩
   cases z:fr[i]? with
   | none=>rfl
   | some o=>
    rcases o with _ | s
    ·rfl
    ·cases s with
     | bor l=>exact absurd z (k1 l)
     | ro l=>exact absurd z (k2 l)
     | _=>rfl
 obtain ⟨rfl,hk⟩:=hx
 have kp:∀ m,m<h.length→(h++[O.lst ds])[m]?=h[m]?:=fun m z=>by rw [List.getElem?_append_left z]
 have kS:∀ m,S m→(h++[O.lst ds])[m]?=h[m]?:=fun m z=>kp m (f.w m z)
 refine ⟨⟨fun m y=>⟨by have:=(f.wS m y).1;simp;omega,fun z=>?_,(f.wS m y).2.2⟩,fun m y=>?_,fun m y=>by have:=f.wB m y;simp;omega,by simp [f.len],fun j o p y1 y2=>?_,fun j k o o' m y1 y2 y3 y4 y5 y6=>?_⟩,⟨by simp,fun m y _=>kp m y,fun _ z=>z,fun _ z=>.inl z,fun m z=>z.imp id (fun z=>by omega)⟩,fun j=>?_,fun j hj=>?_⟩
 ·rcases z with z | z
  ·exact (f.wS m y).2.1 z
  ·have:=(f.wS m y).1;omega
 ·rcases y with y | y
  ·have:=f.wM m y;simp;omega
  ·subst y;simp
 ·by_cases hj:i=j
  ·subst hj
   have hl:i<fr.length:=by have:=(List.getElem?_eq_some_iff.mp y1).1;simpa using this
   rw [List.getElem?_set_self hl] at y1
   rw [List.getElem?_set_self (by rw [←f.len];exact hl)] at y2
   cases y1;cases y2
   exact ⟨h.length,ds,rfl,⟨.inr rfl,fun z=>by have:=f.wB _ z;omega⟩,by simp,q.mono kS fun _ z=>z⟩
  ·rw [List.getElem?_set_ne hj] at y1 y2
   have old:=f.sl j o p y1 y2
   rcases o with _ | s
   ·exact old
   ·cases s with
    | val v=>obtain ⟨d,e,q⟩:=old;exact ⟨d,e,q.mono kS fun _ z=>z⟩
    | own l=>obtain ⟨m,es,rfl,z,y,q⟩:=old;exact ⟨m,es,rfl,⟨.inl z.1,z.2⟩,by rw [kp m (f.wM m z.1)];exact y,q.mono kS fun _ z=>z⟩
    | bor l=>obtain ⟨m,es,rfl,z,y,q⟩:=old;exact ⟨m,es,rfl,⟨.inl z.1,z.2⟩,by rw [kp m (f.wM m z.1)];exact y,q.mono kS fun _ z=>z⟩
    | ro l=>
     obtain ⟨m,es,rfl,z,y,q⟩:=old
     have hm:=(List.getElem?_eq_some_iff.mp y).1
     exact ⟨m,es,rfl,fun w=>by rcases w with w | w;exact z w;omega,by rw [kp m hm];exact y,q.mono kS fun _ z=>z⟩
 ·have low:∀ (j:Nat) o,i≠j→fr[j]?=some o→gI o=true→aj[j]?=some (some (.ref m))→m<h.length:=fun j o _ w1 w2 w3=>f.wM m (f.mM w1 w2 w3)
  have new:∀ (j:Nat),j<fr.length→i=j→(aj.set i (some (.ref h.length)))[j]?=some (some (.ref m))→m=h.length:=fun j hl hj w=>by
   subst hj
   rw [List.getElem?_set_self (by rw [←f.len];exact hl)] at w
   cases w;rfl
  have lj:j<fr.length:=by have:=(List.getElem?_eq_some_iff.mp y1).1;simpa using this
  have lk:k<fr.length:=by have:=(List.getElem?_eq_some_iff.mp y2).1;simpa using this
  by_cases hj:i=j
  ·by_cases hk2:i=k
   ·rw [←hj,←hk2]
   ·have a:=new j lj hj y5
    rw [List.getElem?_set_ne hk2] at y2 y6
    have b:=low k o' hk2 y2 y4 y6
    omega
  ·by_cases hk2:i=k
   ·have a:=new k lk hk2 y6
    rw [List.getElem?_set_ne hj] at y1 y5
    have b:=low j o hj y1 y3 y5
    omega
   ·rw [List.getElem?_set_ne hj] at y1 y5
    rw [List.getElem?_set_ne hk2] at y2 y6
    exact f.inj j k o o' m y1 y2 y3 y4 y5 y6
 ·by_cases hj:i=j
  ·subst hj
   rw [hk]
   unfold locked
   by_cases hl:i<fr.length
   ·rw [List.getElem?_set_self hl];rfl
   ·rw [List.getElem?_eq_none (by simpa using hl)]
  ·unfold locked;rw [List.getElem?_set_ne hj]
 ·have:i≠j:=fun z=>by subst z;rw [hk] at hj;cases hj
  rw [List.getElem?_set_ne this]
end
inductive UM (P':Ev.aP) (w:Nat) (s:S) (g:Fl) (M B:Nat→Prop) (h:Hh) (S:Nat→Prop) (fr:Fr) (aj:Ev.Fr) (af:Fr):Prop
 | mk (g':Ev.Fl) (bQ:Ev.Fr) (M':Nat→Prop) (h':Hh) (S':Nat→Prop) (c0:Ev.ex P' w s aj h=.ok (g',bQ) h') (c1:gM h' S' g g') (c2:dY M B h S fr aj M' h' S' af bQ):UM P' w s g M B h S fr aj af
inductive Nq (P':Ev.aP) (w:Nat) (s:Ss) (g:Fl) (M B:Nat→Prop) (h:Hh) (S:Nat→Prop) (fr:Fr) (aj:Ev.Fr) (af:Fr):Prop
 | mk (g':Ev.Fl) (bQ:Ev.Fr) (M':Nat→Prop) (h':Hh) (S':Nat→Prop) (c0:Ev.exs P' w s aj h=.ok (g',bQ) h') (c1:gM h' S' g g') (c2:dY M B h S fr aj M' h' S' af bQ):Nq P' w s g M B h S fr aj af
section
variable (P:aP)(P':Ev.aP)(w:Nat)
noncomputable def oR (s:S):Prop:=∀ {fr:Fr} {g:Fl} {af:Fr} {M B:Nat→Prop} {h:Hh} {S:Nat→Prop} {aj:Ev.Fr},ex P w s fr=.ok g af→bI M B h S fr aj→UM P' w s g M B h S fr aj af
noncomputable def pQ (s:Ss):Prop:=∀ {fr:Fr} {g:Fl} {af:Fr} {M B:Nat→Prop} {h:Hh} {S:Nat→Prop} {aj:Ev.Fr},exs P w s fr=.ok g af→bI M B h S fr aj→Nq P' w s g M B h S fr aj af
end
section
variable {P:aP}{P':Ev.aP}{w:Nat}(HP:pI P P')
include HP
theorem Jo {i:Nat}{e:E}:oR P P' w (.set i e):=fun {fr g af M B h S aj} z f=>by
 simp only [ex] at z
 replace z:=ah z;obtain ⟨x,ao,z1,z⟩:=z
 by_cases hn:isNew e=true
 ·rw [if_pos hn] at z
  have key:∃ l ds h1 S1,x=.lst l∧au h1 S1 l ds∧Ev.ev P' e aj h=.ok (.ref h1.length) (h1++[.lst ds])∧Out M B (bf e) h S fr aj h1 S1 ao:=by
   cases e <;> simp only [isNew,Bool.false_eq_true] at hn
   case lst es=>
    simp only [ev] at z1
    replace z1:=ah z1;obtain ⟨l,bY,z2,z1⟩:=z1
    replace z1:=aK z1;obtain ⟨z1,y0⟩:=z1;subst y0
    unfold dX at z1
    split at z1
    case isFalse=>cases z1
    rename_i hk
    cases z1
    obtain ⟨ds,h1,S1,e1,q1,o1⟩:=fZ HP es z2 f
    refine ⟨l,ds,h1,S1,rfl,q1.n,?_,o1⟩
    simp only [Ev.ev,e1,Ev.ak,Ev.alloc]
    rw [if_pos (by rw [←q1.n.length];exact hk)]
   case ee it=>
    simp only [ev] at z1
    replace z1:=ah z1;obtain ⟨l,bY,z2,z1⟩:=z1
    replace z1:=aK z1;obtain ⟨z1,y0⟩:=z1;subst y0
    unfold dX at z1
    split at z1
    case isFalse=>cases z1
    rename_i hk
    cases z1
    obtain ⟨s,h1,S1,e1,q1,q2,o1⟩:=kq HP it z2 f
    refine ⟨l,s.1,h1,S1,rfl,q1,?_,o1⟩
    simp only [Ev.ev,e1,Ev.ak,Ev.alloc]
    rw [if_pos (by rw [←q1.length];exact hk)]
  obtain ⟨l,ds,h1,S1,rfl,q1,e1,o1⟩:=key
  simp only at z
  replace z:=ah z;obtain ⟨bY,ja,z2,z⟩:=z
  replace z2:=aK z2;obtain ⟨z2,y0⟩:=z2;subst y0
  cases z
  have o2:=o1.f.own z2 q1
  exact ⟨.nx,_,_,_,_,by simp only [Ev.ex,e1,Ev.ak],rfl,o1.s.trans f o2⟩
 ·rw [if_neg hn] at z
  replace z:=ah z;obtain ⟨bY,ja,z2,z⟩:=z
  replace z2:=aK z2;obtain ⟨z2,y0⟩:=z2;subst y0
  cases z
  obtain ⟨d,h1,S1,e1,q1,o1⟩:=aW HP e z1 f
  obtain ⟨f2,l2,r2⟩:=o1.f.set z2 q1.n
  refine ⟨.nx,_,_,_,_,by simp only [Ev.ex,e1,Ev.ak],rfl,o1.s.trans f ⟨f2,(dY.refl f2).tr,l2,r2⟩⟩
theorem Jp {l:List Nat}{e:E}:oR P P' w (.yh l e):=fun {fr g af M B h S aj} z f=>by
 simp only [ex] at z
 replace z:=ah z;obtain ⟨x,ao,z1,z⟩:=z
 replace z:=ah z;obtain ⟨bY,ja,z2,z⟩:=z
 replace z2:=aK z2;obtain ⟨z2,y0⟩:=z2;subst y0
 cases z
 obtain ⟨d,h1,S1,e1,q1,o1⟩:=aW HP e z1 f
 obtain ⟨iX,b1,f2,l2,r2⟩:=o1.f.bH z2 q1.n
 exact ⟨.nx,_,_,_,_,by simp only [Ev.ex,e1,Ev.ak,b1],rfl,o1.s.trans f ⟨f2,(dY.refl f2).tr,l2,r2⟩⟩
theorem Nr {e:E}:oR P P' w (.exp e):=fun {fr g af M B h S aj} z f=>by
 simp only [ex] at z
 replace z:=ah z;obtain ⟨x,ao,z1,z⟩:=z
 cases z
 obtain ⟨d,h1,S1,e1,q1,o1⟩:=aW HP e z1 f
 exact ⟨.nx,_,_,_,_,by simp only [Ev.ex,e1,Ev.ak],rfl,o1.s⟩
theorem Nt {e:E}:oR P P' w (.ret e):=fun {fr g af M B h S aj} z f=>by
 simp only [ex] at z
 replace z:=ah z;obtain ⟨x,ao,z1,z⟩:=z
 cases z
 obtain ⟨M1,S1,o1⟩:=f.dj
 obtain ⟨d,h2,S2,e1,q1,o2⟩:=aW HP e z1 o1.f
 exact ⟨.ret d,_,_,_,_,by simp only [Ev.ex,e1,Ev.ak],⟨d,rfl,q1.n⟩,o1.trans f o2.s⟩
omit HP in
theorem qP {F:V→Fr→R Fl}{F':D→Ev.Fr→Hh→Ev.R (Ev.Fl×Ev.Fr)}{ck:List (Nat×List D)}{B:Nat→Prop}{M0:Nat→Prop}{h0:Hh}{S0:Nat→Prop}{fy:Fr}{Dn:Ev.Fr}(f0:bI M0 B h0 S0 fy Dn) (st:∀ q∈ck,bu h0 q.1=some q.2∧¬ M0 q.1)
  (turn:∀ v d fr g af M h S aj,F v fr=.ok g af→bI M B h S fr aj→Rep h S v d→∃ g' bQ M' h' S',F' d aj h=.ok (g',bQ) h'∧gM h' S' g g'∧dY M B h S fr aj M' h' S' af bQ) :
  ∀ {vs:List V} {ds:List D} {fr:Fr} {g:Fl} {af:Fr} {M:Nat→Prop} {h:Hh} {S:Nat→Prop} {aj:Ev.Fr},forL F vs fr=.ok g af→dY M0 B h0 S0 fy Dn M h S fr aj→au h S vs ds→
  ∃ g' bQ M' h' S',Ev.forL F' ck ds aj h=.ok (g',bQ) h'∧gM h' S' g g'∧dY M0 B h0 S0 fy Dn M' h' S' af bQ
 | [],ds,fr,g,af,M,h,S,aj,e,o,q=>by
  simp only [forL] at e;simp only [au] at q;subst q
  cases e
  refine ⟨.nx,aj,M,h,S,?_,rfl,o⟩
  simp only [Ev.forL]
  rw [if_pos (jC fun x hx=>kQ (st x hx).1 (o.tr.keep _ (pL (st x hx).1) (st x hx).2))]
 | v :: vs,ds,fr,g,af,M,h,S,aj,e,o,q=>by
  simp only [forL] at e
  replace e:=ah e;obtain ⟨p,ao,e1,e⟩:=e
  simp only [au] at q
  obtain ⟨d,es,rfl,q1,q2⟩:=q
  obtain ⟨g',kT,M2,h2,S2,t1,t2,t3⟩:=turn v d fr p ao M h S aj e1 o.f q1
  have o2:=o.trans f0 t3
  have Gb:Ev.stays h ck=true:=jC fun x hx=>kQ (st x hx).1 (o.tr.keep _ (pL (st x hx).1) (st x hx).2)
  have UN:au h2 S2 vs es:=q2.mono (fun m z=>t3.tr.keep m (o.f.wS m z).1 (o.f.wS m z).2.1) t3.tr.sub
  cases p with
  | nx=>
   simp only [gM] at t2;subst t2
   simp only at e
   obtain ⟨pR,iX,M3,h3,S3,u1,u2,u3⟩:=qP f0 st turn e o2 UN
   refine ⟨pR,iX,M3,h3,S3,?_,u2,u3⟩
   simp only [Ev.forL]
   rw [if_pos Gb,t1,Ev.ak]
   exact u1
  | ct=>
   simp only [gM] at t2;subst t2
   simp only at e
   obtain ⟨pR,iX,M3,h3,S3,u1,u2,u3⟩:=qP f0 st turn e o2 UN
   refine ⟨pR,iX,M3,h3,S3,?_,u2,u3⟩
   simp only [Ev.forL]
   rw [if_pos Gb,t1,Ev.ak]
   exact u1
  | bk=>
   simp only [gM] at t2;subst t2
   simp only at e
   cases e
   refine ⟨.nx,kT,M2,h2,S2,?_,rfl,o2⟩
   simp only [Ev.forL]
   rw [if_pos Gb,t1,Ev.ak]
  | ret x=>
   simp only [gM] at t2
   obtain ⟨d2,rfl,t2⟩:=t2
   simp only at e
   cases e
   refine ⟨.ret d2,kT,M2,h2,S2,?_,⟨d2,rfl,t2⟩,o2⟩
   simp only [Ev.forL]
   rw [if_pos Gb,t1,Ev.ak]
theorem Nu {t:T}{it:It}{b:Ss}(ib:pQ P P' w b):oR P P' w (.for t it b):=fun {fr g af M B h S aj} z f=>by
 simp only [ex] at z
 replace z:=ah z;obtain ⟨vs,ao,z1,z⟩:=z
 obtain ⟨M1,S1,o1⟩:=f.walk (itv it)
 obtain ⟨s,h2,S2,e1,q1,q2,o2⟩:=kq HP it z1 o1.f
 have o3:=o1.trans f o2.s
 obtain ⟨g',bQ,M',h',S',u1,u2,u3⟩:=qP (F':=fun d ao h2=>match Ev.bH t d ao with
   | some bY=>Ev.exs P' w b bY h2
   | none=>.bad) (ck:=s.2) o2.f (fun q hq=>⟨(q2 q hq).1,(q2 q hq).2 rfl⟩) (fun v d fr g af M h S aj y f q=>by
  split at y
  ·rename_i bY y1
   obtain ⟨iX,b1,b2,b3,b4⟩:=f.bH y1 q
   rw [b1]
   obtain ⟨g',bQ,M',h',S',c1,c2,c3⟩:=ib y b2
   exact ⟨g',bQ,M',h',S',c1,c2,(⟨b2,(dY.refl b2).tr,b3,b4⟩:dY M _ h S fr aj M h S bY iX).trans f c3⟩
  ·cases y) z (dY.refl o2.f) q1
 refine ⟨g',bQ,M',h',S',?_,u2,o3.trans f u3⟩
 simp only [Ev.ex,e1,Ev.ak]
 exact u1
theorem uJ {t:E}{b:Ss}(ib:pQ P P' w b):∀ (n:Nat) {fr:Fr}{g:Fl}{af:Fr}{M B:Nat→Prop}{h:Hh}{S:Nat→Prop}{aj:Ev.Fr},dW (fun ao=>aL P t ao) (fun ao=>exs P w b ao) n fr=.ok g af→bI M B h S fr aj→
  ∃ g' bQ M' h' S',Ev.dW (fun ao h2=>Ev.aL P' t ao h2) (fun ao h2=>Ev.exs P' w b ao h2) n aj h=.ok (g',bQ) h'∧gM h' S' g g'∧dY M B h S fr aj M' h' S' af bQ
 | 0,_,_,_,_,_,_,_,_,z,_=>by simp only [dW] at z;cases z
 | n+1,fr,g,af,M,B,h,S,aj,z,f=>by
  simp only [dW] at z
  replace z:=ah z;obtain ⟨k,ao,z1,z⟩:=z
  obtain ⟨h1,S1,e1,o1⟩:=gz HP t z1 f
  cases k with
  | false=>
   simp only [Bool.false_eq_true,if_false] at z
   cases z
   refine ⟨.nx,aj,M,h1,S1,?_,rfl,o1.s⟩
   simp only [Ev.dW,e1,Ev.ak]
   rw [if_neg (by decide)]
  | true=>
   simp only [if_true] at z
   replace z:=ah z;obtain ⟨p,bY,z2,z⟩:=z
   obtain ⟨g',iX,M2,h2,S2,t1,t2,t3⟩:=ib z2 o1.f
   have o2:=o1.s.trans f t3
   cases p with
   | nx=>
    simp only [gM] at t2;subst t2
    simp only at z
    obtain ⟨pR,Dp,M3,h3,S3,u1,u2,u3⟩:=uJ ib n z t3.f
    refine ⟨pR,Dp,M3,h3,S3,?_,u2,o2.trans f u3⟩
    simp only [Ev.dW,e1,Ev.ak,if_true,t1]
    exact u1
   | ct=>
    simp only [gM] at t2;subst t2
    simp only at z
    obtain ⟨pR,Dp,M3,h3,S3,u1,u2,u3⟩:=uJ ib n z t3.f
    refine ⟨pR,Dp,M3,h3,S3,?_,u2,o2.trans f u3⟩
    simp only [Ev.dW,e1,Ev.ak,if_true,t1]
    exact u1
   | bk=>
    simp only [gM] at t2;subst t2
    simp only at z
    cases z
    refine ⟨.nx,iX,M2,h2,S2,?_,rfl,o2⟩
    simp only [Ev.dW,e1,Ev.ak,if_true,t1]
   | ret x=>
    simp only [gM] at t2
    obtain ⟨d2,rfl,t2⟩:=t2
    simp only at z
    cases z
    refine ⟨.ret d2,iX,M2,h2,S2,?_,⟨d2,rfl,t2⟩,o2⟩
    simp only [Ev.dW,e1,Ev.ak,if_true,t1]
theorem Nv {t:E}{a b:Ss}(ia:pQ P P' w a) (ib:pQ P P' w b):oR P P' w (.iff t a b):=fun {fr g af M B h S aj} z f=>by
 simp only [ex] at z
 replace z:=ah z;obtain ⟨k,ao,z1,z⟩:=z
 obtain ⟨h1,S1,e1,o1⟩:=gz HP t z1 f
 cases k with
 | true=>
  simp only [if_true] at z
  obtain ⟨g',bQ,M',h',S',c1,c2,c3⟩:=ia z o1.f
  exact ⟨g',bQ,M',h',S',by simp only [Ev.ex,e1,Ev.ak,if_true,c1],c2,o1.s.trans f c3⟩
 | false=>
  simp only [Bool.false_eq_true,if_false] at z
  obtain ⟨g',bQ,M',h',S',c1,c2,c3⟩:=ib z o1.f
  exact ⟨g',bQ,M',h',S',by simp only [Ev.ex,e1,Ev.ak];rw [if_neg (by decide)];exact c1,c2,o1.s.trans f c3⟩
mutual
theorem R8:∀ s:S,oR P P' w s
 | .set _ _=>Jo HP
 | .yh _ _=>Jp HP
 | .dput _ _ _=>fun z _=>by simp only [ex] at z;cases z
 | .exp _=>Nr HP
 | .ret _=>Nt HP
 | .iff _ a b=>Nv HP (kr a) (kr b)
 | .for _ _ b=>Nu HP (kr b)
 | .mw _ b=>fun z f=>by
  simp only [ex] at z
  obtain ⟨g',bQ,M',h',S',c1,c2,c3⟩:=uJ HP (kr b) w z f
  exact ⟨g',bQ,M',h',S',by simp only [Ev.ex];exact c1,c2,c3⟩
 | .fk=>fun z _=>by simp only [ex] at z;cases z
theorem kr:∀ s:Ss,pQ P P' w s
 | .nil=>fun z f=>by simp only [exs] at z;cases z;exact ⟨.nx,_,_,_,_,by simp only [Ev.exs],rfl,.refl f⟩
 | .cons s ss=>fun z f=>by
  simp only [exs] at z
  replace z:=ah z;obtain ⟨p,ao,z1,z⟩:=z
  obtain ⟨g',kT,M2,h2,S2,t1,t2,t3⟩:=R8 s z1 f
  cases p with
  | nx=>
   simp only [gM] at t2;subst t2
   simp only at z
   obtain ⟨pR,iX,M3,h3,S3,u1,u2,u3⟩:=kr ss z t3.f
   exact ⟨pR,iX,M3,h3,S3,by simp only [Ev.exs,t1,Ev.ak,u1],u2,t3.trans f u3⟩
  | ct=>
   simp only [gM] at t2;subst t2
   simp only at z
   cases z
   exact ⟨.ct,kT,M2,h2,S2,by simp only [Ev.exs,t1,Ev.ak],rfl,t3⟩
  | bk=>
   simp only [gM] at t2;subst t2
   simp only at z
   cases z
   exact ⟨.bk,kT,M2,h2,S2,by simp only [Ev.exs,t1,Ev.ak],rfl,t3⟩
  | ret x=>
   simp only [gM] at t2
   obtain ⟨d2,rfl,t2⟩:=t2
   simp only at z
   cases z
   exact ⟨.ret d2,kT,M2,h2,S2,by simp only [Ev.exs,t1,Ev.ak],⟨d2,rfl,t2⟩,t3⟩
end
end
theorem qQ {h:Hh}{S:Nat→Prop}{B:Nat→Prop}{h0:Hh}{S0:Nat→Prop}:∀ {sl:List Sl}{ds:List D}{cs:Fr},sl.length=ds.length→
  (∀ (a:Nat) s d,sl[a]?=some s→ds[a]?=some d→kg B B h0 S0 (some s) (some d)∧locked cs a=xm (some s)∧(xm (some s)=true→∃ m es l s',d=.ref m∧h[m]?=some (.lst es)∧au h S l es∧cs[a]?=some (some s')∧s'.out=some l))→mK h S sl ds ((cs.take sl.length).filterMap fun o=>o.bind Sl.out)
 | [],ds,cs,_,_=>by simp [mK]
 | s :: sl,[],cs,hl,_=>by simp at hl
 | s :: sl,d :: ds,[],hl,q=>by
  have ih:=qQ (h:=h) (S:=S) (sl:=sl) (ds:=ds) (cs:=[]) (by simpa using hl) fun a s' d' e1 e2=>by
   obtain ⟨w1,w2,w3⟩:=q (a+1) s' d' (by simpa using e1) (by simpa using e2)
   exact ⟨w1,by simpa [locked] using w2,fun z=>by obtain ⟨_,_,_,_,_,_,_,y,_⟩:=w3 z;simp at y⟩
  obtain ⟨w1,w2,w3⟩:=q 0 s d (by simp) (by simp)
  cases s with
  | val v=>simp at ih ⊢;exact ⟨d,ds,rfl,ih⟩
  | own l=>exact absurd w1 (by rintro ⟨m,es,e,q,_⟩;exact q.2 q.1)
  | bor l=>obtain ⟨_,_,_,_,_,_,_,y,_⟩:=w3 rfl;simp at y
  | ro l=>obtain ⟨_,_,_,_,_,_,_,y,_⟩:=w3 rfl;simp at y
 | s :: sl,d :: ds,o :: cs,hl,q=>by
  have ih:=qQ (h:=h) (S:=S) (sl:=sl) (ds:=ds) (cs:=cs) (by simpa using hl) fun a s' d' e1 e2=>by
   obtain ⟨w1,w2,w3⟩:=q (a+1) s' d' (by simpa using e1) (by simpa using e2)
   exact ⟨w1,by simpa [locked] using w2,fun z=>by simpa using w3 z⟩
  obtain ⟨w1,w2,w3⟩:=q 0 s d (by simp) (by simp)
  cases s with
  | val v=>
   have:o.bind Sl.out=none:=by
    simp [locked] at w2
    rcases o with _ | s
    ·rfl
    ·cases s <;> first | rfl | cases w2
   simp only [List.length_cons,List.take_succ_cons,List.filterMap_cons,this]
   exact ⟨d,ds,rfl,ih⟩
  | own l=>exact absurd w1 (by rintro ⟨m,es,e,q,_⟩;exact q.2 q.1)
  | bor l=>
   obtain ⟨m,es,l',s',a1,a2,a3,a4,a5⟩:=w3 rfl
   simp at a4;subst a4
   simp only [List.length_cons,List.take_succ_cons,List.filterMap_cons,Option.bind,a5]
   exact ⟨d,ds,l',_,m,es,rfl,rfl,a1,a2,a3,ih⟩
  | ro l=>
   obtain ⟨m,es,l',s',a1,a2,a3,a4,a5⟩:=w3 rfl
   simp at a4;subst a4
   simp only [List.length_cons,List.take_succ_cons,List.filterMap_cons,Option.bind,a5]
   exact ⟨d,ds,l',_,m,es,rfl,rfl,a1,a2,a3,ih⟩
theorem A5 (F:List Fn) (w:Nat):∀ n,pI (run F w n) (Ev.run F w n)
 | 0=>fun f sl v os e=>by simp [run] at e
 | n+1=>fun f sl v os e h S B ds F0=>by
  have HP:=A5 F w n
  simp only [run] at e
  cases z:F[f]? with
  | none=>rw [z] at e;cases e
  | some fn=>
  rw [z] at e
  simp only at e
  split at e
  case isFalse=>cases e
  rename_i hl
  have hlen:sl.length=ds.length:=by have:=F0.len;simpa using this
  have f1:bI B B h S (fy fn sl) (Ev.fy fn ds):=by
   unfold fy Ev.fy
   have sp:∀ (i:Nat) o,(sl.map some++List.replicate (fn.ns - fn.np) none)[i]?=some o→(sl.map some)[i]?=some o∨(sl.length≤i∧o=none):=fun i o y=>by
    by_cases hi:i<sl.length
    ·rw [List.getElem?_append_left (by simpa using hi)] at y;exact .inl y
    ·rw [List.getElem?_append_right (by simpa using hi)] at y
     have:=List.mem_of_getElem? y
     exact .inr ⟨by omega,(List.mem_replicate.mp this).2⟩
   have lo:∀ (i:Nat) p,i<sl.length→(ds.map some++List.replicate (fn.ns - fn.np) none)[i]?=some p→(ds.map some)[i]?=some p:=fun i p hi y=>by
    rw [List.getElem?_append_left (by simpa [←hlen] using hi)] at y;exact y
   refine ⟨F0.wS,F0.wM,F0.wB,by simp [hlen],fun i o p y1 y2=>?_,fun i j o o' m y1 y2 y3 y4 y5 y6=>?_⟩
   ·rcases sp i o y1 with y1 | ⟨hi,rfl⟩
    ·have hi:i<sl.length:=by have:=(List.getElem?_eq_some_iff.mp y1).1;simpa using this
     exact F0.sl i o p y1 (lo i p hi y2)
    ·rw [List.getElem?_append_right (by simpa [←hlen] using hi)] at y2
     have:=List.mem_of_getElem? y2
     exact (List.mem_replicate.mp this).2
   ·rcases sp i o y1 with y1 | ⟨hi,rfl⟩
    ·rcases sp j o' y2 with y2 | ⟨hj,rfl⟩
     ·have hi:i<sl.length:=by have:=(List.getElem?_eq_some_iff.mp y1).1;simpa using this
      have hj:j<sl.length:=by have:=(List.getElem?_eq_some_iff.mp y2).1;simpa using this
      exact F0.inj i j o o' m y1 y2 y3 y4 (lo i _ hi y5) (lo j _ hj y6)
     ·cases y4
    ·cases y3
  have fin:∀ {g:Fl} {af:Fr},exs (run F w n) w fn.body (fy fn sl)=.ok g af→∃ g' bQ M' h' S',Ev.exs (Ev.run F w n) w fn.body (Ev.fy fn ds) h=.ok (g',bQ) h'∧gM h' S' g g'∧Tk B h S h' S'∧mK h' S' sl ds (outs fn.np af):=fun {g af} y=>by
   obtain ⟨g',bQ,M',h',S',c1,c2,c3⟩:=kr HP fn.body y f1
   refine ⟨g',bQ,M',h',S',c1,c2,⟨c3.tr.len,fun m y1 y2=>c3.tr.keep m y1 y2,c3.tr.sub,fun m q=>?_⟩,?_⟩
   ·rcases c3.tr.new m q with q | q | q
    ·exact .inl q
    ·exact .inr q
    ·exact absurd q.1 q.2
   ·unfold outs
    rw [←hl]
    refine qQ (B:=B) (h0:=h) (S0:=S) hlen fun a s d e1 e2=>?_
    have ha:a<sl.length:=(List.getElem?_eq_some_iff.mp e1).1
    have h0:(fy fn sl)[a]?=some (some s):=by unfold fy;rw [List.getElem?_append_left (by simpa using ha)];simp [e1]
    have hlk:locked af a=xm (some s):=by rw [c3.lk a];unfold locked;rw [h0]
    refine ⟨F0.sl a _ _ (by simp [e1]) (by simp [e2]),hlk,fun hk=>?_⟩
    have hr:=c3.rf a (by unfold locked;rw [h0];exact hk)
    have hd:(Ev.fy fn ds)[a]?=some (some d):=by unfold Ev.fy;rw [List.getElem?_append_left (by simpa [←hlen] using ha)];simp [e2]
    rw [hd] at hr
    cases y2:af[a]? with
    | none=>unfold locked at hlk;rw [y2] at hlk;rw [←hlk] at hk;cases hk
    | some o=>
     have sr:=c3.f.sl a _ _ y2 hr
     unfold locked at hlk
     rw [y2,hk] at hlk
     rcases o with _ | s'
     ·cases hlk
     ·cases s' with
      | val v=>cases hlk
      | own l=>cases hlk
      | bor l=>obtain ⟨m,es,e,_,k1,k2⟩:=sr;cases e;exact ⟨m,es,l,_,rfl,k1,k2,rfl,rfl⟩
      | ro l=>obtain ⟨m,es,e,_,k1,k2⟩:=sr;cases e;exact ⟨m,es,l,_,rfl,k1,k2,rfl,rfl⟩
  simp only [Ev.run,z]
  have hl':ds.length=fn.np:=by omega
  rw [if_pos hl']
  split at e
  ·rename_i v' af y
   cases e
   obtain ⟨g',bQ,M',h',S',c1,c2,c3,c4⟩:=fin y
   simp only [gM] at c2
   obtain ⟨d,rfl,c2⟩:=c2
   exact ⟨d,h',S',by simp only [Ev.endOf,c1,Ev.ak],c2,c3,c4⟩
  ·rename_i af y
   cases e
   obtain ⟨g',bQ,M',h',S',c1,c2,c3,c4⟩:=fin y
   simp only [gM] at c2
   subst c2
   exact ⟨.bD,h',S',by simp only [Ev.endOf,c1,Ev.ak],rfl,c3,c4⟩
  ·obtain ⟨rfl,l,k,rfl,e1,rfl,rfl⟩:=M6 e
   obtain ⟨d,rfl⟩:∃ d,ds=[d]:=by cases ds with | nil=>simp at hlen | cons d ds=>cases ds with | nil=>exact ⟨d,rfl⟩ | cons _ _=>simp at hlen
   obtain ⟨d',ed,q⟩:=F0.sl 0 _ _ rfl rfl
   cases ed
   have r:=M5 (w:=w) (n:=n) z q e1
   simp only [Ev.run,z] at r
   rw [if_pos hl'] at r
   refine ⟨_,_,fun m=>S m∨m=h.length,r,⟨h.length,rfl,.inr rfl,by simp⟩,⟨by simp,fun m y1 _=>by rw [List.getElem?_append_left y1],fun m q=>.inl q,fun m q=>?_⟩,?_⟩
   ·rcases q with q | rfl
    ·exact .inl q
    ·exact .inr ⟨Nat.le_refl _,by simp⟩
   ·exact ⟨d,[],rfl,rfl⟩
end Pv
namespace Pv
open Ev (D O Hh Fn)
theorem Jq {F:List Fn}{w n f:Nat}{ns:List Int}(e:run F w n f [.val (.bU (ns.map V.int))]=some (.bl true,[])):∃ h',Ev.run F w n f [.ref 0] [.bU (ns.map D.int)]=.ok (.bl true) h':=by
 have F0:bI (fun _=>False) (fun _=>False) [O.bU (ns.map D.int)] (fun m=>m=0) ([Sl.val (.bU (ns.map V.int))].map some) ([D.ref 0].map some):=by
  refine ⟨fun m q=>⟨by subst q;simp,id,id⟩,fun m q=>q.elim,fun m q=>q.elim,rfl,fun i o p y1 y2=>?_,fun i j o o' m y1 y2 y3 y4 y5 y6=>?_⟩
  ·cases i with
   | zero=>
    simp at y1 y2;subst y1 y2
    refine ⟨.ref 0,rfl,?_⟩
    simp only [Rep]
    exact ⟨0,_,rfl,rfl,rfl,au.map (f:=V.int) (g:=D.int) (fun _=>by simp [Rep]) ns⟩
   | succ i=>simp at y1
  ·cases i with
   | zero=>simp at y1;subst y1;cases y3
   | succ i=>simp at y1
 obtain ⟨d,h',S',a,b,_,_⟩:=A5 F w n f _ _ _ e _ _ _ _ F0
 simp only [Rep] at b
 subst b
 exact ⟨h',a⟩
end Pv
namespace Pv
open Ev (D bZ bP TY BI ME T E Es Eo It S Ss Fn big deep b2i rep cz dM bL aR cut cJ d8 slots)
theorem bS {n:Nat}(h:n≤100000):n≤big:=Nat.le_trans h (by decide)
section
variable {i j:Int}{a b:List Nat}{x y:List V}{d e:V}{m n:Nat}{k l:Bool}
theorem cS (h:x.length≤big):dX x=some (.lst x):=by simp [dX,h]
theorem iR (h:x.length≤big):jy x=some (.tup x):=by simp [jy,h]
@[simp] theorem pT:dX []=some (.lst []):=cS (bS (by simp))
@[simp] theorem R9:jy []=some (.tup []):=iR (bS (by simp))
@[simp] theorem Gd {a}:dX [a]=some (.lst [a]):=cS (bS (by simp))
@[simp] theorem sN {a}:jy [a]=some (.tup [a]):=iR (bS (by simp))
@[simp] theorem Sa {a b}:dX [a,b]=some (.lst [a,b]):=cS (bS (by simp))
@[simp] theorem nc {a b}:jy [a,b]=some (.tup [a,b]):=iR (bS (by simp))
@[simp] theorem Sb {a b c}:jy [a,b,c]=some (.tup [a,b,c]):=iR (bS (by simp))
@[simp] theorem gb:bR .add (.int i) (.int j)=some (.int (i+j)):=nd rfl
theorem uK (h:a.length+b.length≤100000):bR .add (.str a) (.str b)=some (.str (a++b)):=by delta bR;dsimp only;simp [bS h]
theorem Dq (h:x.length+y.length≤100000):bR .add (.tup x) (.tup y)=some (.tup (x++y)):=by delta bR;dsimp only;simp [bS h]
theorem kU (h:x.length+y.length≤100000):bR .add (.lst x) (.lst y)=some (.lst (x++y)):=by delta bR;dsimp only;simp [cS (bS (show (x++y).length≤100000 by simpa using h))]
@[simp] theorem oS:bR .sub (.int i) (.int j)=some (.int (i - j)):=nd rfl
@[simp] theorem oU:bR .mul (.int i) (.int j)=if cz i j then some (.int (i*j)) else none:=nd rfl
theorem Dr (h0:0≤j) (h1:j≤1000) (h2:a.length≤1000):bR .mul (.str a) (.int j)=some (.str (rep j.toNat a)):=by delta bR;dsimp only;simp [h0,h1,h2]
theorem Ds (h0:0≤j) (h1:j≤1000) (h2:x.length≤1000) (h3:(rep j.toNat x).length≤100000):bR .mul (.lst x) (.int j)=some (.lst (rep j.toNat x)):=by delta bR;dsimp only;simp [h0,h1,h2,cS (bS h3)]
@[simp] theorem Dt:bR .fdiv (.int i) (.int j)=if 0<j∧j<1073741824 then some (.int (i / j)) else none:=nd rfl
@[simp] theorem Jr:bR .mod (.int i) (.int j)=if 0<j then some (.int (i % j)) else none:=nd rfl
@[simp] theorem uL:cop .ne d e=(ef deep d e).map (!·):=nd rfl
@[simp] theorem A6:cop .gD d e=(isin d e).map (!·):=nd rfl
@[simp] theorem Js:mem d []=some false:=nd rfl
@[simp] theorem mem_cons:mem d (e :: x)=(ef deep e d).bind fun b=>(mem d x).bind fun c=>some (b || c):=nd rfl
@[simp] theorem Nx:ef (n+1) (.int i) (.int j)=some (decide (i=j)):=by show some (i==j)=_;by_cases h:i=j <;> simp [h]
@[simp] theorem Ny:ef (n+1) (.str a) (.str b)=some (decide (a=b)):=by show some (a==b)=_;by_cases h:a=b <;> simp [h]
@[simp] theorem ZW:ef (n+1) (.str a) (.int i)=some false:=nd rfl
@[simp] theorem ZX:ef (n+1) (.int i) (.str a)=some false:=nd rfl
@[simp] theorem ZY:ef (n+1) (.tup x) (.tup y)=cF (ef n) x y:=nd rfl
@[simp] theorem xx:ef deep (.int i) (.int j)=some (decide (i=j)):=Nx
@[simp] theorem ng:ef deep (.str a) (.str b)=some (decide (a=b)):=Ny
@[simp] theorem Jt:ef deep (.tup x) (.tup y)=cF (ef (18+1)) x y:=nd rfl
@[simp] theorem Y6 {f:V→V→Option Bool}:cF f [] []=some true:=nd rfl
@[simp] theorem ZZ {f:V→V→Option Bool}:cF f [] (d :: x)=some false:=nd rfl
@[simp] theorem Z0 {f:V→V→Option Bool}:cF f (d :: x) []=some false:=nd rfl
@[simp] theorem Xq {f:V→V→Option Bool}:cF f (d :: x) (e :: y)=(f d e).bind fun b=>(cF f x y).bind fun c=>some (b&&c):=nd rfl
theorem xy {α:Type} [DecidableEq α] {f:V→V→Option Bool}{g:α→V}(h:∀ a b,f (g a) (g b)=some (decide (a=b))):∀ l m:List α,cF f (l.map g) (m.map g)=some (decide (l=m))
 | [],[]=>by simp
 | [],_ :: _=>by simp
 | _ :: _,[]=>by simp
 | a :: l,b :: m=>by simp [h,xy h l m]
@[simp] theorem qR:fq (.str a) (.int i)=(bL a i).map fun c=>.str [c]:=nd rfl
@[simp] theorem Ju:fq (.lst x) (.int i)=bL x i:=nd rfl
@[simp] theorem jm {lo hi:Option Int}:gT (.str a) lo hi=some (.str (cut a lo hi)):=nd rfl
theorem len_str (h:a.length≤100000):cX .len [.str a]=some (.int a.length):=by delta cX;dsimp only;simp [bS h]
@[simp] theorem jn:cX .len [.lst x]=some (.int x.length):=nd rfl
@[simp] theorem xA:cX .len [.bU x]=some (.int x.length):=nd rfl
@[simp] theorem Jv:cX .sum [.lst x]=(intsOf x).map fun is=>.int is.sum:=nd rfl
@[simp] theorem A7:cX .min [.int i,.int j]=some (.int (if j<i then j else i)):=nd rfl
@[simp] theorem qS:toT (.lst x)=jy x:=nd rfl
theorem Nz (h0:0≤j) (h1:j≤100000):dO [.int j]=some (range 0 j.toNat):=by
 simp only [dO];rw [if_pos ⟨by omega,by omega⟩]
theorem Xr (h0:-100000≤i) (h1:i≤100000) (h2:-100000≤j) (h3:j≤100000):dO [.int i,.int j]=some (range i (j - i).toNat):=by
 simp only [dO];rw [if_pos ⟨by omega,by omega,by omega,by omega⟩]
theorem yP {α:Type}(g:α→Int) (l:List α):intsOf (l.map fun x=>.int (g x))=some (l.map g):=by induction l <;> simp [intsOf, *]
theorem pU {α:Type}(g:α→List Nat) (l:List α):strsOf (l.map fun x=>.str (g x))=some (l.map g):=by induction l <;> simp [strsOf, *]
theorem rY:∀ l:List (List Nat),cJ [] l=l.flatten
 | []=>rfl
 | [s]=>by simp [cJ]
 | s :: t :: r=>by simp [cJ,rY (t :: r)]
@[simp] theorem Z1:truthy (.bl k)=k:=nd rfl
@[simp] theorem Y7:truthy (.lst x) = !x.isEmpty:=nd rfl
theorem yQ {l:List (List Nat)}(h:l.flatten.length≤100000):eW .join (.str []) [.lst (l.map V.str)]=some (.str l.flatten):=by
 have hs:=pU (fun x=>x) l
 have:(l.map (·.length)).sum≤big:=bS (by rw [←List.length_flatten];exact h)
 simp only [List.map_id'] at hs
 have hs':strsOf (l.map V.str)=some l:=by simpa using pU (fun x=>x) l
 delta eW;dsimp only;simp [iQ,hs',rY,this]
end
theorem rZ {α:Type}{f:V→Option (Option V)}(e:α→V) (g:α→V) (l:List α) (h:∀ a∈l,f (e a)=some (some (g a))):cG f (l.map e)=some (l.map g):=by
 induction l with
 | nil=>rfl
 | cons a l ih=>simp only [List.map_cons,cG,h a (by simp),ih fun u hu=>h u (by simp [hu]),Option.bind];rfl
theorem gc {α:Type}{f:V→Option (Option V)}(e:α→V) (p:α→Bool) (g:α→V) (l:List α) (h:∀ a∈l,f (e a)=some (if p a then some (g a) else none)):cG f (l.map e)=some ((l.filter p).map g):=by
 induction l with
 | nil=>rfl
 | cons a l ih=>
  simp only [List.map_cons,cG,h a (by simp),ih fun u hu=>h u (by simp [hu]),Option.bind]
  cases z:p a <;> simp [z]
noncomputable def Wp {α:Type}(r:R α) (Q:α→Fr→Prop):Prop:=∃ a h,r=.ok a h∧Q a h
section
variable {α β:Type}{Q Q':α→Fr→Prop}
@[simp] theorem pV (a:α) (h:Fr):Wp (.ok a h) Q=Q a h:=propext ⟨fun ⟨_,_,e,q⟩=>by cases e;exact q,fun q=>⟨_,_,rfl,q⟩⟩
@[simp] theorem Z2:Wp (.bad:R α) Q=False:=propext ⟨fun q=>(by obtain ⟨_,_,e,_⟩:=q;cases e),False.elim⟩
@[simp] theorem wp_bind (r:R β) (f:β→Fr→R α):Wp (r.bind f) Q=Wp r fun a h=>Wp (f a h) Q:=by cases r <;> simp
theorem Wp.mono {r:R α}(h:Wp r Q) (f:∀ a h,Q a h→Q' a h):Wp r Q':=by
 obtain ⟨a,h',e,q⟩:=h
 exact ⟨a,h',e,f a h' q⟩
end
noncomputable def fl (I Q:Fr→Prop) (X:V→Fr→Prop):Fl→Fr→Prop
 | .nx,fr=>I fr
 | .ct,fr=>I fr
 | .bk,fr=>Q fr
 | .ret v,fr=>X v fr
section
variable {I J:Fr→Prop}{X:V→Fr→Prop}{fr:Fr}{v:V}
@[simp] theorem fE:fl I J X .nx fr=I fr:=nd rfl
end
theorem gO {α:Type}{e:α→V}{f:V→Fr→R Fl}{Q:Fl→Fr→Prop}(I:List α→List α→Fr→Prop) (turn:∀ p a l fr,I p (a :: l) fr→Wp (f (e a) fr) (fl (I (p++[a]) l) (Q .nx) fun v=>Q (.ret v))) (fin:∀ p fr,I p [] fr→Q .nx fr):∀ (l p:List α) (fr:Fr),I p l fr→Wp (forL f (l.map e) fr) Q
 | [],p,fr,i=>by simp only [List.map_nil,forL,pV];exact fin p fr i
 | a :: l,p,fr,i=>by
  simp only [List.map_cons,forL,wp_bind]
  refine (turn p a l fr i).mono fun g h2 q=>?_
  cases g with
  | nx=>exact gO I turn fin l _ h2 q
  | ct=>exact gO I turn fin l _ h2 q
  | bk=>exact (pV _ _).mpr q
  | ret x=>exact (pV _ _).mpr q
theorem Jw {f:V→Fr→R Fl}{Q:Fl→Fr→Prop}{lo:Int}{N:Nat}(I:Nat→Fr→Prop) (turn:∀ (k:Nat) fr,k<N→I k fr→Wp (f (.int (lo+(k:Nat))) fr) (fl (I (k+1)) (Q .nx) fun v=>Q (.ret v))) (fin:∀ fr,I N fr→Q .nx fr) {fr:Fr}(i:I 0 fr):Wp (forL f (range lo N) fr) Q:=by
 have h:=gO (e:=fun (k:Nat)=>V.int (lo+k)) (f:=f) (Q:=Q) (fun p l fr=>∃ k,k≤N∧p=List.range k∧p++l=List.range N∧I k fr)
  (fun p a l fr ⟨k,hk,hp,hl,q⟩=>by
   subst hp
   have hlen:=congrArg List.length hl
   simp at hlen
   have ha:a=k:=by
    have:=congrArg (·[k]?) hl
    simp [List.getElem?_append_right] at this
    rw [List.getElem?_range (by omega)] at this
    simpa using this
   subst ha
   refine (turn a fr (by omega) q).mono fun g h2 z=>?_
   cases g with
   | nx=>exact ⟨a+1,by omega,by simp [List.range_succ],by simpa using hl,z⟩
   | ct=>exact ⟨a+1,by omega,by simp [List.range_succ],by simpa using hl,z⟩
   | bk=>exact z
   | ret x=>exact z)
  (fun p fr ⟨k,hk,hp,hl,q⟩=>by
   subst hp
   have hlen:=congrArg List.length hl
   simp at hlen
   subst hlen
   exact fin fr q) (List.range N) [] fr ⟨0,Nat.zero_le _,rfl,by simp,i⟩
 exact h
theorem pW {t:Fr→R Bool}{f:Fr→R Fl}{Q:Fl→Fr→Prop}(I:Nat→Fr→Prop) (turn:∀ k fr,I k fr→Wp (t fr) fun b af=>if b then Wp (f af) (fl (fun ao=>∃ j,j<k∧I j ao) (Q .nx) fun v=>Q (.ret v)) else Q .nx af):∀ (n k:Nat) (fr:Fr),k<n→I k fr→Wp (dW t f n fr) Q
 | 0,k,fr,hk,_=>by omega
 | n+1,k,fr,hk,i=>by
  simp only [dW,wp_bind]
  refine (turn k fr i).mono fun b af q=>?_
  cases b with
  | false=>simpa using q
  | true=>
   simp only [if_true,wp_bind] at q ⊢
   refine q.mono fun g ao z=>?_
   cases g with
   | nx=>obtain ⟨j,hj,z⟩:=z;exact pW I turn n j ao (by omega) z
   | ct=>obtain ⟨j,hj,z⟩:=z;exact pW I turn n j ao (by omega) z
   | bk=>exact (pV _ _).mpr z
   | ret x=>exact (pV _ _).mpr z
noncomputable def fin (fn:Fn) (ds:List Sl):R Fl→Option (V×List (List V))
 | .ok (.ret v) fr=>some (v,outs fn.np fr)
 | .ok .nx fr=>some (.bD,outs fn.np fr)
 | _=>wY fn ds
@[simp] theorem Jx {fn:Fn} {ds:List Sl} {v:V} {fr:Fr}:fin fn ds (.ok (.ret v) fr)=some (v,outs fn.np fr):=nd rfl
theorem run_eq {F:List Fn}{w n f:Nat}{ds:List Sl}{fn:Fn}(hf:F[f]?=some fn) (hl:ds.length=fn.np):run F w (n+1) f ds=fin fn ds (exs (run F w n) w fn.body (fy fn ds)):=by
 simp only [run,hf,hl,if_true]
 cases exs (run F w n) w fn.body (fy fn ds) with
 | bad=>rfl
 | ok g fr=>cases g <;> rfl
theorem cC {F:List Fn}{w n f:Nat}{ds:List Sl}{fn:Fn}{v:V}{os:List (List V)}(hf:F[f]?=some fn) (hl:ds.length=fn.np) (q:Wp (exs (run F w n) w fn.body (fy fn ds)) fun g fr=>g=.ret v∧outs fn.np fr=os):run F w (n+1) f ds=some (v,os):=by
 rw [run_eq hf hl]
 obtain ⟨g,fr,e,rfl,rfl⟩:=q
 rw [e];rfl
section
variable {P:aP}{w:Nat}{fr:Fr}{k:Bool}{a b c:E}{es:Es}{ss sa sb:Ss}{st:S}{lo hi:Eo}{it:It}
@[simp] theorem Xu {d:D}:ev P k (.c d) fr=R.of (ofD d) fr:=by rw [ev]
@[simp] theorem Xv {i:Nat}:ev P k (.v i) fr=R.of (j3 k fr i) fr:=by rw [ev]
@[simp] theorem NB:ev P k (.tup es) fr=(cg P false es fr).bind fun ds af=>R.of (jy ds) af:=by rw [ev]
@[simp] theorem NC:ev P k (.lst es) fr=(cg P false es fr).bind fun ds af=>R.of (dX ds) af:=by rw [ev]
@[simp] theorem ND {o:bZ}:ev P k (.bin o a b) fr=(ev P (kf a (bf b)) a fr).bind fun x af=>(ev P true b af).bind fun y ao=>R.of (bR o x y) ao:=by rw [ev]
@[simp] theorem NF {o:bP}:ev P k (.cmp o a b) fr=(ev P (kf a (bf b)) a fr).bind fun x af=>(ev P true b af).bind fun y ao=>R.of ((cop o x y).map .bl) ao:=by rw [ev]
noncomputable def Z3:V→Fr→R V:=fun x h1=>match x with
 | .bl b=>.ok (.bl (!b)) h1
 | _=>.bad
@[simp] theorem Sd:ev P k (.nt a) fr=(ev P true a fr).bind Z3:=by rw [ev];rfl
noncomputable def Xw:V→Fr→R V:=fun x h1=>match x with
 | .int i=>.ok (.int (-i)) h1
 | _=>.bad
@[simp] theorem NG:ev P k (.neg a) fr=(ev P true a fr).bind Xw:=by rw [ev];rfl
noncomputable def UO (r:Fr→R V):V→Fr→R V:=fun x h1=>match x with
 | .bl true=>r h1
 | .bl false=>.ok (.bl false) h1
 | _=>.bad
@[simp] theorem A8 {k:Bool} {r:Fr→R V}:UO r (.bl k) fr=if k then r fr else .ok (.bl false) fr:=by cases k <;> rfl
@[simp] theorem Ge:ev P k (.an a b) fr=(ev P true a fr).bind (UO fun h1=>ev P k b h1):=by rw [ev];rfl
@[simp] theorem NH:ev P k (.lO a b c) fr=(aL P a fr).bind fun t af=>if t then ev P k b af else ev P k c af:=by rw [ev]
theorem NI:ev P k (.jL a b) fr=(ev P (kf a (bf b)) a fr).bind fun x af=>(ev P true b af).bind fun y ao=>R.of (oO x y) ao:=by rw [ev]
theorem NJ:ev P k (.lP a b c) fr=(ev P (kf a (bf b++bf c)) a fr).bind fun x af=>(ev P (kf b (bf c)) b af).bind fun y ao=>(ev P false c ao).bind fun z bY=>R.of (oQ x y z) bY:=by rw [ev]
@[simp] theorem Se:ev P k (.ix a b) fr=(ev P (kf a (bf b)) a fr).bind fun x af=>(ev P true b af).bind fun y ao=>R.of (fq x y) ao:=by rw [ev]
@[simp] theorem Sg:ev P k (.sl a lo hi) fr=(ev P (kf a (j0 lo++j0 hi)) a fr).bind fun x af=>(fU P lo af).bind fun l ao=>(fU P hi ao).bind fun u bY=>R.of (gT x l u) bY:=by rw [ev]
@[simp] theorem Sh {f:Nat}:ev P k (.cl f es) fr=(fV P es fr).bind fun as af=>eU P f as af:=by rw [ev]
@[simp] theorem Si {g:BI}:ev P k (.bi g es) fr=(cg P true es fr).bind fun ds af=>R.of (cX g ds) af:=by rw [ev]
noncomputable def Du (m:ME) (i:Nat):List V→Fr→R V:=fun ds af=>match af[i]? with
 | some (some (.own l))=>match jN m l ds with
  | some (v,l')=>.ok v (af.set i (some (.own l')))
  | none=>.bad
 | some (some (.bor l))=>match jN m l ds with
  | some (v,l')=>.ok v (af.set i (some (.bor l')))
  | none=>.bad
 | _=>.bad
theorem NK {m:ME}{i:Nat}(hm:iK m=true):ev P k (.me m (.v i) es) fr=if (lent fr i).isSome then (cg P (AL m) es fr).bind (Du m i) else .bad:=by
 rw [ev,if_pos hm]
 unfold kj
 cases z:(lent fr i).isSome <;> simp [z] <;> rfl
theorem NL {m:ME}(hm:iK m=false):ev P k (.me m a es) fr=(ev P (kf a (fY es)) a fr).bind fun x af=>(cg P true es af).bind fun ds ao=>R.of (eW m x ds) ao:=by rw [ev,hm];rfl
noncomputable def jP (P:aP) (elt:E) (t:T) (cond:Eo) (fr:Fr):V→Option (Option V):=fun d=>match bH t d (pG fr) with
 | none=>none
 | some ao=>match gU P cond ao with
  | .ok c _=>if c then (match ev P false elt ao with | .ok x _=>some (some x) | .bad=>none) else some none
  | .bad=>none
@[simp] theorem qH {elt:E} {t:T} {cond:Eo}:ev P k (.comp elt t it cond) fr=(cy P true it fr).bind fun s af=>if undef t af then R.of ((cG (jP P elt t cond af) s).bind dX) af else .bad:=by rw [ev];rfl
@[simp] theorem NN:ev P k (.ee it) fr=(cy P true it fr).bind fun s af=>R.of (dX s) af:=by rw [ev]
@[simp] theorem Jy {kvs:List (D×D)}:ev P k (.iV kvs a) fr=(ev P true a fr).bind fun x af=>R.of (eT x kvs) af:=by rw [ev]
@[simp] theorem NO:ev P k (.iw a) fr=(ev P true a fr).bind fun x af=>R.of (toT x) af:=by rw [ev]
@[simp] theorem Jz:cg P k .nil fr=.ok [] fr:=by rw [cg]
@[simp] theorem Dv:cg P k (.cons a es) fr=(ev P (k&&kf a (fY es)) a fr).bind fun d af=>(cg P k es af).bind fun ds ao=>.ok (d :: ds) ao:=by rw [cg]
@[simp] theorem JB:fV P .nil fr=.ok [] fr:=by rw [fV]
noncomputable def yR (P:aP) (a:E) (es:Es) (fr:Fr):Option Nat→R (List (Nat ⊕ V))
 | some i=>(fV P es fr).bind fun r af=>.ok (.inl i :: r) af
 | none=>(ev P false a fr).bind fun d af=>(fV P es af).bind fun r ao=>.ok (.inr d :: r) ao
@[simp] theorem yS {i:Nat}:yR P a es fr (some i)=(fV P es fr).bind fun r af=>.ok (.inl i :: r) af:=nd rfl
@[simp] theorem yT:yR P a es fr none=(ev P false a fr).bind fun d af=>(fV P es af).bind fun r ao=>.ok (.inr d :: r) ao:=nd rfl
@[simp] theorem uM:fV P (.cons a es) fr=yR P a es fr (kj fr a):=by rw [fV];cases kj fr a <;> rfl
@[simp] theorem NP:fU P .no fr=.ok none fr:=by rw [fU]
@[simp] theorem JD:fU P (.yes a) fr=(ev P true a fr).bind fun d af=>R.of ((intOf d).map some) af:=by rw [fU]
@[simp] theorem NQ:gU P .no fr=.ok true fr:=by rw [gU]
@[simp] theorem JF:gU P (.yes a) fr=aL P a fr:=by rw [gU]
@[simp] theorem A9:aL P (.an a b) fr=(aL P a fr).bind fun k af=>if k then aL P b af else .ok false af:=by rw [aL]
@[simp] theorem xB:aL P (.orr a b) fr=(aL P a fr).bind fun k af=>if k then .ok true af else aL P b af:=by rw [aL]
@[simp] theorem NR:aL P (.nt a) fr=(aL P a fr).bind fun k af=>.ok (!k) af:=by rw [aL]
noncomputable def NS:V→Fr→R Bool:=fun x af=>.ok (truthy x) af
@[simp] theorem JH {x:V}:NS x fr=.ok (truthy x) fr:=nd rfl
@[simp] theorem JJ:cy P k (.seq a) fr=(src k fr a (ev P k a fr)).bind fun x af=>R.of (er x) af:=by rw [cy]
@[simp] theorem JK:cy P k (.gy es) fr=(cg P true es fr).bind fun ds af=>R.of (dO ds) af:=by rw [cy]
@[simp] theorem xC:cy P k (.zip a b) fr=(src (k&&kf a (bf b)) fr a (ev P (k&&kf a (bf b)) a fr)).bind fun x af=>(src k af b (ev P k b af)).bind fun y ao=>R.of ((iQ x).bind fun s=>(iQ y).map fun t=>dP s t) ao:=by rw [cy]
@[simp] theorem JL:cy P k (.rev a) fr=(ev P true a fr).bind fun x af=>R.of ((yK x).map fun s=>s.reverse) af:=by rw [cy]
noncomputable def NT (i:Nat) (af:Fr):V→R Fl
 | .lst l=>(R.of (put af i (.own l)) af).bind fun ao _=>.ok .nx ao
 | _=>.bad
@[simp] theorem Dw {i:Nat} {l:List V}:NT i fr (.lst l)=(R.of (put fr i (.own l)) fr).bind fun ao _=>.ok .nx ao:=nd rfl
@[simp] theorem Ba {i:Nat}:ex P w (.set i a) fr=(ev P false a fr).bind fun x af=>if isNew a then NT i af x else (R.of (put af i (.val x)) af).bind fun ao _=>.ok .nx ao:=by
 rw [ex];rfl
@[simp] theorem NU:ex P w (.exp a) fr=(ev P true a fr).bind fun _ af=>.ok .nx af:=by rw [ex]
@[simp] theorem NV:ex P w (.ret a) fr=(ev P false a (gq fr)).bind fun x af=>.ok (.ret x) af:=by rw [ex]
@[simp] theorem NW:ex P w (.iff a sa sb) fr=(aL P a fr).bind fun k af=>if k then exs P w sa af else exs P w sb af:=by rw [ex]
noncomputable def turnF (P:aP) (w:Nat) (t:T) (b:Ss):V→Fr→R Fl:=fun d ao=>match bH t d ao with
 | some bY=>exs P w b bY
 | none=>.bad
@[simp] theorem ua {t:T}:ex P w (.for t it ss) fr=(cy P false it (sL (itv it) fr)).bind fun s af=>forL (turnF P w t ss) s af:=by rw [ex];rfl
@[simp] theorem NX:ex P w (.mw a ss) fr=dW (fun ao=>aL P a ao) (fun ao=>exs P w ss ao) w fr:=by rw [ex]
@[simp] theorem JM:exs P w .nil fr=.ok .nx fr:=by rw [exs]
noncomputable def Sj (P:aP) (w:Nat) (ss:Ss):Fl→Fr→R Fl:=fun p h1=>match p with
 | .nx=>exs P w ss h1
 | p=>.ok p h1
@[simp] theorem Dy:exs P w (.cons st ss) fr=(ex P w st fr).bind (Sj P w ss):=by rw [exs];rfl
end
theorem mR {P:aP}{f:Nat}{vs:List V}{fr:Fr}{v:V}(h:P f (vs.map .val)=some (v,[])):eU P f (vs.map .inr) fr=.ok v fr:=by
 have h1:∀ vs:List V,bT (vs.map .inr)=[]:=fun vs=>by induction vs <;> simp [bT, *]
 have h2:∀ vs:List V,args fr (vs.map .inr)=some (vs.map .val):=fun vs=>by induction vs <;> simp [args, *]
 simp [eU,h1,h2,h,back]
section
variable {P:aP}{f:Nat}{fr:Fr}{a b c d v:V}
theorem bO (h:P f [.val a]=some (v,[])):eU P f [.inr a] fr=.ok v fr:=mR (vs:=[a]) h
theorem call2 (h:P f [.val a,.val b]=some (v,[])):eU P f [.inr a,.inr b] fr=.ok v fr:=mR (vs:=[a,b]) h
theorem eB (h:P f [.val a,.val b,.val c]=some (v,[])):eU P f [.inr a,.inr b,.inr c] fr=.ok v fr:=mR (vs:=[a,b,c]) h
end
end Pv
namespace Pv
open Ev (D bZ bP TY BI ME T E Es Eo It S Ss Fn big deep b2i rep cz dM bL aR cut cJ d8 slots)
section
variable {fr:Fr}{i j:Nat}{k:Bool}{s:Sl}{v u:V}{l:List V}{o:Option Sl}
noncomputable def Bb (k:Bool):Option (Option Sl)→Option V
 | some (some (.val v))=>some v
 | some (some (.own l))=>if k then some (.lst l) else none
 | some (some (.bor l))=>if k then some (.lst l) else none
 | some (some (.ro l))=>if k then some (.lst l) else none
 | _=>none
@[simp] theorem JN:j3 k fr i=Bb k fr[i]?:=by unfold j3 Bb;split <;> simp_all
@[simp] theorem Y8:Bb k (some (some (.val v)))=some v:=nd rfl
@[simp] theorem Y9:Bb k (some (some (.own l)))=if k then some (.lst l) else none:=nd rfl
@[simp] theorem Sk {r:R V}:src k fr (.v i) r=R.of (yL k fr i) fr:=nd rfl
noncomputable def NY:Option (Option Sl)→Option Sl
 | some (some s)=>s.lend
 | _=>none
@[simp] theorem xD:lent fr i=NY fr[i]?:=by unfold lent NY;split <;> simp_all
@[simp] theorem Za:NY (some (some (.own l)))=some (.bor l):=nd rfl
noncomputable def xE (fr:Fr) (i:Nat) (s:Sl):Option (Option Sl)→Option Fr
 | some (some (.bor _))=>none
 | some (some (.ro _))=>none
 | _=>some (fr.set i (some s))
@[simp] theorem Bc:put fr i s=xE fr i s fr[i]?:=by unfold put xE;split <;> simp_all
@[simp] theorem Zb:xE fr i s (some (some (.val v)))=some (fr.set i (some s)):=nd rfl
@[simp] theorem Zc:xE fr i s (some (some (.own l)))=some (fr.set i (some s)):=nd rfl
@[simp] theorem yU {l:List Nat} {x:List V}:bH (.many l) (.tup x) fr=cI l x fr:=nd rfl
@[simp] theorem yV:cI [] [] fr=some fr:=nd rfl
@[simp] theorem vP {l:List Nat} {x:List V}:cI (i :: l) (v :: x) fr=(put fr i (.val v)).bind (cI l x):=nd rfl
@[simp] theorem Xx:Sl.dj (.val v)=.val v:=nd rfl
@[simp] theorem Xy:Sl.dj (.own l)=.val (.lst l):=nd rfl
noncomputable def gA (m:ME) (i:Nat) (ds:List V) (fr:Fr):Option (Option Sl)→R V
 | some (some (.own l))=>match jN m l ds with
  | some (v,l')=>.ok v (fr.set i (some (.own l')))
  | none=>.bad
 | some (some (.bor l))=>match jN m l ds with
  | some (v,l')=>.ok v (fr.set i (some (.bor l')))
  | none=>.bad
 | _=>.bad
@[simp] theorem JP {m:ME} {ds:List V}:Du m i ds fr=gA m i ds fr fr[i]?:=by unfold Du gA;split <;> simp_all <;> rfl
theorem nh {d:V}(h:l.length<100000):gA .append i [d] fr (some (some (.own l)))=.ok .bD (fr.set i (some (.own (l++[d])))):=by
 simp [gA,jN,Nat.lt_of_lt_of_le h (show 100000≤big by decide)]
theorem JQ {d:V}(h:l.length<100000):gA .append i [d] fr (some (some (.bor l)))=.ok .bD (fr.set i (some (.bor (l++[d])))):=by
 simp [gA,jN,Nat.lt_of_lt_of_le h (show 100000≤big by decide)]
theorem xF {d:List V}(h:l.length+d.length≤100000):gA .extend i [.lst d] fr (some (some (.own l)))=.ok .bD (fr.set i (some (.own (l++d)))):=by
 simp [gA,jN,bS h]
theorem ni:gA .pop i [] fr (some (some (.own (l++[v]))))=.ok v (fr.set i (some (.own l))):=by
 simp [gA,jN]
theorem JR:gA .pop i [] fr (some (some (.bor (l++[v]))))=.ok v (fr.set i (some (.bor l))):=by
 simp [gA,jN]
end
noncomputable def vo (o:Option Sl):Prop:=o=none∨∃ y,o=some (.val y)
theorem vo.none:vo none:=.inl rfl
theorem vo.val {v:V}:vo (some (.val v)):=.inr ⟨v,rfl⟩
theorem NZ {fr:Fr}{i:Nat}{s:Sl}{b:Option Sl}(h:vo b):xE fr i s (some b)=some (fr.set i (some s)):=by rcases h with rfl | ⟨y,rfl⟩ <;> rfl
theorem cO {b:Option Sl}(h:vo b):b.map Sl.dj=b:=by rcases h with rfl | ⟨y,rfl⟩ <;> rfl
noncomputable def Sn (f:V→Fr→R Fl) (ds:List V):Fl→Fr→R Fl:=fun p af=>match p with
 | .nx=>forL f ds af
 | .ct=>forL f ds af
 | .bk=>.ok .nx af
 | .ret x=>.ok (.ret x) af
section
variable {f:V→Fr→R Fl}{ds:List V}{d x:V}{fr:Fr}
@[simp] theorem rM:forL f (d :: ds) fr=(f d fr).bind (Sn f ds):=nd rfl
end
section
variable {a b c:E}{es:Es}{lo hi:Eo}{it:It}{l:List Nat}
end
theorem uN {α:Type}{l:List α}{i:Int}(h0:0≤i):bL l i=l[i.toNat]?:=by
 unfold bL dM
 rw [if_pos h0]
 split
 ·rfl
 ·rw [List.getElem?_eq_none (by omega)];rfl
@[simp] theorem wj {α:Type} {l:List α} {n:Nat}:bL l (n:Int)=l[n]?:=by rw [uN (by omega)];simp
theorem N1 {α:Type}{l:List α}:bL l (-1:Int)=l.getLast?:=by
 unfold bL dM
 cases l with
 | nil=>rfl
 | cons a l=>
  have h1:¬ (0:Int)≤-1:=by omega
  have h2:-(((a :: l).length:Nat):Int)≤-1:=by simp;omega
  rw [if_neg h1,if_pos h2,List.getLast?_eq_getElem?]
  simp only [Option.bind]
  congr 1
  simp;omega
noncomputable def sO:Fn:=⟨2,2,(.cons (.iff (.cmp .eq (.v 0) (.lst .nil)) (.cons (.ret (.bin .mul (.c (.int 7)) (.v 1))) .nil) .nil) (.cons (.ret (.bin .add (.ix (.v 0) (.bin .mod (.v 1) (.bi .len (.cons (.v 0) .nil)))) (.bin .mul (.c (.int 6553)) (.bin .fdiv (.v 1) (.bi .len (.cons (.v 0) .nil)))))) .nil))⟩
noncomputable def uO (c:Nat):Fn:=⟨3,4,(.cons (.set 3 (.bin .mod (.bin .add (.bin .mul (.bin .mod (.cl c (.cons (.v 0) (.cons (.v 1) .nil))) (.c (.int 2147483563))) (.c (.int 69069))) (.bin .mul (.c (.int 104723)) (.bin .add (.v 1) (.c (.int 1))))) (.c (.int 2147483563)))) (.cons (.set 3 (.bin .mod (.bin .add (.bin .mul (.v 3) (.v 3)) (.bin .fdiv (.v 3) (.c (.int 3)))) (.c (.int 2147483399)))) (.cons (.ret (.bin .mod (.bin .fdiv (.bin .mod (.bin .add (.bin .mul (.v 3) (.v 3)) (.bin .fdiv (.v 3) (.c (.int 7)))) (.c (.int 2147483647))) (.c (.int 11))) (.v 2))) .nil)))⟩
noncomputable def sP (ns:List Int) (k:Int):Int:=if ns=[] then 7*k else (ns[(k % ns.length).toNat]?.getD 0)+6553*(k / ns.length)
noncomputable def cP (ns:List Int) (k many:Int):Int:=
 let c:=(sP ns k % 2147483563*69069+104723*(k+1)) % 2147483563
 let c:=(c*c+c / 3) % 2147483399
 (c*c+c / 7) % 2147483647 / 11 % many
theorem ku (ns:List Int) (k:Int) {many:Int}(h:0<many):0≤cP ns k many:=Int.emod_nonneg _ (by omega)
theorem kB (ns:List Int) (k:Int) {many:Int}(h:0<many):cP ns k many<many:=Int.emod_lt_of_pos _ h
noncomputable def jD (ns:List Int):V:=.bU (ns.map V.int)
theorem JU (ns:List Int):cF (ef (18+1)) (ns.map V.int) []=some (decide (ns=[])):=by cases ns <;> simp
end Pv
namespace Pv
open Ev (D bZ bP TY BI ME T E Es Eo It S Ss Fn big deep b2i rep cz dM bL aR cut cJ d8 slots)
section
variable {P:aP}{w:Nat}{fr af ao bY ja:Fr}{k b:Bool}{a e c:E}{es:Es}{ss sa sb:Ss}{st:S}{lo hi:Eo}{it:It}{v x y z:V}{vs:List V}{i:Nat}{l:List V}{Q:Fl→Fr→Prop}
theorem bE {d:D}(h:ofD d=some v):ev P k (.c d) fr=.ok v fr:=by rw [Xu,h];rfl
theorem aB (h:j3 k fr i=some v):ev P k (.v i) fr=.ok v fr:=by rw [Xv,h];rfl
theorem je (h:cg P false es fr=.ok vs af) (h2:jy vs=some v):ev P k (.tup es) fr=.ok v af:=by rw [NB,h,ak,h2];rfl
theorem pX (h:cg P false es fr=.ok vs af) (h2:dX vs=some v):ev P k (.lst es) fr=.ok v af:=by rw [NC,h,ak,h2];rfl
theorem b5 {o:bZ}(h:ev P (kf a (bf e)) a fr=.ok x af) (h2:ev P true e af=.ok y ao) (h3:bR o x y=some v):ev P k (.bin o a e) fr=.ok v ao:=by rw [ND,h,ak,h2,ak,h3];rfl
theorem bV {o:bP}(h:ev P (kf a (bf e)) a fr=.ok x af) (h2:ev P true e af=.ok y ao) (h3:cop o x y=some b):ev P k (.cmp o a e) fr=.ok (.bl b) ao:=by rw [NF,h,ak,h2,ak,h3];rfl
theorem N2 (h:ev P true a fr=.ok (.bl b) af):ev P k (.nt a) fr=.ok (.bl (!b)) af:=by rw [Sd,h];rfl
theorem nj {j:Int}(h:ev P true a fr=.ok (.int j) af):ev P k (.neg a) fr=.ok (.int (-j)) af:=by rw [NG,h];rfl
theorem Xz (h:ev P true a fr=.ok (.bl b) af) (h2:b=true→ev P k e af=.ok v ao) (h3:b=false→.bl false=v∧af=ao):ev P k (.an a e) fr=.ok v ao:=by
 rw [Ge,h,ak,A8]
 cases b with
 | true=>exact h2 rfl
 | false=>obtain ⟨rfl,rfl⟩:=h3 rfl;rfl
theorem yW (h:ev P true a fr=.ok (.bl true) af) (h2:ev P k e af=.ok v ao):ev P k (.an a e) fr=.ok v ao:=by rw [Ge,h,ak,A8];exact h2
theorem Gf (h:aL P a fr=.ok b af) (h2:b=true→ev P k e af=.ok v ao) (h3:b=false→ev P k c af=.ok v ao):ev P k (.lO a e c) fr=.ok v ao:=by
 rw [NH,h,ak]
 cases b with
 | true=>exact h2 rfl
 | false=>exact h3 rfl
theorem dH (h:ev P (kf a (bf e)) a fr=.ok x af) (h2:ev P true e af=.ok y ao) (h3:fq x y=some v):ev P k (.ix a e) fr=.ok v ao:=by rw [Se,h,ak,h2,ak,h3];rfl
theorem Gg (h:ev P (kf a (bf e)) a fr=.ok x af) (h2:ev P true e af=.ok y ao) (h3:oO x y=some v):ev P k (.jL a e) fr=.ok v ao:=by rw [NI,h,ak,h2,ak,h3];rfl
theorem So {z:V}(h:ev P (kf a (bf e++bf c)) a fr=.ok x af) (h2:ev P (kf e (bf c)) e af=.ok y ao) (h3:ev P false c ao=.ok z bY) (h4:oQ x y z=some v):ev P k (.lP a e c) fr=.ok v bY:=by rw [NJ,h,ak,h2,ak,h3,ak,h4];rfl
theorem XA {p q:Option Int}(h:ev P (kf a (j0 lo++j0 hi)) a fr=.ok x af) (h2:fU P lo af=.ok p ao) (h3:fU P hi ao=.ok q bY) (h4:gT x p q=some v):ev P k (.sl a lo hi) fr=.ok v bY:=by rw [Sg,h,ak,h2,ak,h3,ak,h4];rfl
theorem aX {f:Nat}{as:List (Nat ⊕ V)}(h:fV P es fr=.ok as af) (h2:eU P f as af=.ok v ao):ev P k (.cl f es) fr=.ok v ao:=by rw [Sh,h,ak];exact h2
theorem fP {g:BI}(h:cg P true es fr=.ok vs af) (h2:cX g vs=some v):ev P k (.bi g es) fr=.ok v af:=by rw [Si,h,ak,h2];rfl
theorem nq {m:ME}(hm:iK m=true) (hl:(lent fr i).isSome=true) (h:cg P (AL m) es fr=.ok vs af) (h2:gA m i vs af af[i]?=.ok v ao):ev P k (.me m (.v i) es) fr=.ok v ao:=by
 rw [NK hm,if_pos hl,h,ak,JP];exact h2
theorem sQ {m:ME}(hm:iK m=false) (h:ev P (kf a (fY es)) a fr=.ok x af) (h2:cg P true es af=.ok vs ao) (h3:eW m x vs=some v):ev P k (.me m a es) fr=.ok v ao:=by rw [NL hm,h,ak,h2,ak,h3];rfl
theorem jE {t:T}{cond:Eo}(h:cy P true it fr=.ok vs af) (hu:undef t af=true) (h2:cG (jP P a t cond af) vs=some l) (h3:dX l=some v):ev P k (.comp a t it cond) fr=.ok v af:=by
 rw [qH,h,ak,if_pos hu,h2]
 show R.of (dX l) af=_
 rw [h3];rfl
theorem jQ (h:cy P true it fr=.ok vs af) (h2:dX vs=some v):ev P k (.ee it) fr=.ok v af:=by rw [NN,h,ak,h2];rfl
theorem Bd {kvs:List (D×D)}(h:ev P true a fr=.ok x af) (h2:eT x kvs=some v):ev P k (.iV kvs a) fr=.ok v af:=by rw [Jy,h,ak,h2];rfl
theorem pY (h:ev P true a fr=.ok x af) (h2:toT x=some v):ev P k (.iw a) fr=.ok v af:=by rw [NO,h,ak,h2];rfl
theorem bg:cg P k .nil fr=.ok [] fr:=Jz
theorem aS (h:ev P (k&&kf a (fY es)) a fr=.ok v af) (h2:cg P k es af=.ok vs ao):cg P k (.cons a es) fr=.ok (v :: vs) ao:=by rw [Dv,h,ak,h2];rfl
theorem aG:fV P .nil fr=.ok [] fr:=JB
theorem aJ {as:List (Nat ⊕ V)}(hi:kj fr a=none) (h:ev P false a fr=.ok v af) (h2:fV P es af=.ok as ao):fV P (.cons a es) fr=.ok (.inr v :: as) ao:=by rw [uM,hi,yT,h,ak,h2];rfl
theorem jF {as:List (Nat ⊕ V)}(hi:kj fr a=some i) (h2:fV P es fr=.ok as ao):fV P (.cons a es) fr=.ok (.inl i :: as) ao:=by rw [uM,hi,yS,h2];rfl
theorem Sq:fU P .no fr=.ok none fr:=NP
theorem N3 {j:Int}(h:ev P true a fr=.ok (.int j) af):fU P (.yes a) fr=.ok (some j) af:=by rw [JD,h];rfl
theorem mS (h:aL P a fr=.ok false af):aL P (.an a e) fr=.ok false af:=by rw [A9,h];rfl
theorem gf {b2:Bool}(h:aL P a fr=.ok true af) (h2:aL P e af=.ok b2 ao):aL P (.an a e) fr=.ok b2 ao:=by rw [A9,h];exact h2
theorem pZ (h:aL P a fr=.ok true af):aL P (.orr a e) fr=.ok true af:=by rw [xB,h];rfl
theorem dZ {b2:Bool}(h:aL P a fr=.ok false af) (h2:aL P e af=.ok b2 ao):aL P (.orr a e) fr=.ok b2 ao:=by rw [xB,h];exact h2
theorem qa (h:aL P a fr=.ok b af):aL P (.nt a) fr=.ok (!b) af:=by rw [NR,h];rfl
noncomputable def plainT:E→Bool
 | .an _ _=>false
 | .orr _ _=>false
 | .nt _=>false
 | _=>true
theorem aD (hp:plainT a=true) (h:ev P true a fr=.ok x af) (h2:truthy x=b):aL P a fr=.ok b af:=by
 have:aL P a fr=(ev P true a fr).bind NS:=by
  cases a <;> first | (cases hp;done) | (rw [aL];rfl;all_goals (intros;contradiction))
 rw [this,h,ak,JH,h2]
theorem fJ (h:src k fr a (ev P k a fr)=.ok x af) (h2:er x=some vs):cy P k (.seq a) fr=.ok vs af:=by rw [JJ,h,ak,h2];rfl
theorem gr (h:yL k fr i=some v) {r:R V}:src k fr (.v i) r=.ok v fr:=by rw [Sk,h];rfl
theorem uP (h:cg P true es fr=.ok vs af) (h2:dO vs=some l):cy P k (.gy es) fr=.ok l af:=by rw [JK,h,ak,h2];rfl
theorem qb (h:ev P true a fr=.ok x af) (h2:yK x=some vs):cy P k (.rev a) fr=.ok vs.reverse af:=by rw [JL,h,ak,h2];rfl
theorem br (h:ev P false a fr=.ok v af) (hn:isNew a=false) (hp:put af i (.val v)=some ao) (q:Q .nx ao):Wp (ex P w (.set i a) fr) Q:=by
 rw [Ba,h,ak,hn,hp];exact ⟨_,_,rfl,q⟩
theorem gg (h:ev P false a fr=.ok (.lst l) af) (hn:isNew a=true) (hp:put af i (.own l)=some ao) (q:Q .nx ao):Wp (ex P w (.set i a) fr) Q:=by
 rw [Ba,h,ak,hn,if_pos rfl,Dw,hp];exact ⟨_,_,rfl,q⟩
theorem fX (h:ev P true a fr=.ok v af) (q:Q .nx af):Wp (ex P w (.exp a) fr) Q:=by rw [NU,h];exact ⟨_,_,rfl,q⟩
theorem bW (h:ev P false a (gq fr)=.ok v af) (q:Q (.ret v) af):Wp (ex P w (.ret a) fr) Q:=by rw [NV,h];exact ⟨_,_,rfl,q⟩
theorem aM (h:aL P a fr=.ok b af) (h2:b=true→Wp (exs P w sa af) Q) (h3:b=false→Wp (exs P w sb af) Q):Wp (ex P w (.iff a sa sb) fr) Q:=by
 rw [NW,h,ak]
 cases b with
 | true=>exact h2 rfl
 | false=>exact h3 rfl
theorem az (q:Q .nx fr):Wp (exs P w .nil fr) Q:=by rw [JM];exact ⟨_,_,rfl,q⟩
noncomputable def nx (P:aP) (w:Nat) (ss:Ss) (Q:Fl→Fr→Prop):Fl→Fr→Prop
 | .nx,fr=>Wp (exs P w ss fr) Q
 | g,fr=>Q g fr
theorem ai (q:Wp (ex P w st fr) (nx P w ss Q)):Wp (exs P w (.cons st ss) fr) Q:=by
 rw [Dy,wp_bind]
 refine q.mono fun g af z=>?_
 cases g with
 | nx=>exact z
 | bk=>exact ⟨_,_,rfl,z⟩
 | ct=>exact ⟨_,_,rfl,z⟩
 | ret v=>exact ⟨_,_,rfl,z⟩
theorem nu {t:T}(h:cy P false it (sL (itv it) fr)=.ok vs af) (q:Wp (forL (turnF P w t ss) vs af) Q):Wp (ex P w (.for t it ss) fr) Q:=by rw [ua,h,ak];exact q
theorem Gh (q:Wp (dW (fun ao=>aL P a ao) (fun ao=>exs P w ss ao) w fr) Q):Wp (ex P w (.mw a ss) fr) Q:=by rw [NX];exact q
theorem d7 {t:T}{d:V}(hb:bH t d fr=some af) (q:Wp (exs P w ss af) Q):Wp (turnF P w t ss d fr) Q:=by unfold turnF;rw [hb];exact q
theorem Be {t:T}{d:V}(hb:bH t d (pG fr)=some af) (h:ev P false a af=.ok v ao):jP P a t .no fr d=some (some v):=by
 unfold jP;rw [hb];dsimp only;rw [NQ];dsimp only;rw [h];rfl
theorem jq {t:T}{d:V}(hb:bH t d (pG fr)=some af) (h:aL P c af=.ok b ao) (h2:b=true→ev P false a af=.ok v bY):jP P a t (.yes c) fr d=some (if b then some v else none):=by
 unfold jP;rw [hb];dsimp only;rw [JF,h];dsimp only
 cases b with
 | true=>rw [h2 rfl];rfl
 | false=>rfl
theorem iE {p q:List Nat}:cop .eq (.str p) (.str q)=some (decide (p=q)):=ng
theorem ig {p q:List Nat}:cop .ne (.str p) (.str q)=some (!decide (p=q)):=by rw [uL,ng];rfl
theorem N4 {p q:Int}:cop .eq (.int p) (.int q)=some (decide (p=q)):=xx
theorem sR {p q:Int}:cop .ne (.int p) (.int q)=some (!decide (p=q)):=by rw [uL,xx];rfl
theorem XC {p q:Int}:cop .lt (.int p) (.int q)=some (decide (p<q)):=rfl
theorem yX {p q:Int}:cop .gt (.int p) (.int q)=some (decide (q<p)):=rfl
theorem nv {p q:Int}(h:cz p q=true):bR .mul (.int p) (.int q)=some (.int (p*q)):=by rw [oU,if_pos h]
theorem ny {p q:Int}(h:0<q):bR .mod (.int p) (.int q)=some (.int (p % q)):=by rw [Jr,if_pos h]
theorem sS {p q:Int}(h:0<q) (h2:q<1073741824):bR .fdiv (.int p) (.int q)=some (.int (p / q)):=by rw [Dt,if_pos ⟨h,h2⟩]
end
theorem eZ {fr:Fr}{i:Nat}{s:Sl}{o:Option Sl}(e:fr[i]?=some o) (h:vo o):put fr i s=some (fr.set i (some s)):=by rw [Bc,e,NZ h]
theorem jf {fr:Fr}{i j:Nat}{u v:V}{a b:Option Sl}(ea:fr[i]?=some a) (ha:vo a) (eb:(fr.set i (some (.val u)))[j]?=some b) (hb:vo b):bH (.many [i,j]) (.tup [u,v]) fr=some ((fr.set i (some (.val u))).set j (some (.val v))):=by
 simp only [yU,vP,yV,eZ ea ha,Option.bind,eZ eb hb]
theorem bind1 {fr:Fr}{i:Nat}{v:V}{a:Option Sl}(ea:fr[i]?=some a) (ha:vo a):bH (.one i) v fr=some (fr.set i (some (.val v))):=eZ ea ha
end Pv
local macro_rules | `(tactic| array_get_dec)=>`(tactic| first
 | exact Pv.bg | exact Pv.aG | exact Pv.Sq
 | (apply Pv.aB;rfl) | (apply Pv.bE;rfl) | apply Pv.b5 | apply Pv.bV | apply Pv.je | apply Pv.pX | apply Pv.dH | apply Pv.XA | apply Pv.aX | apply Pv.fP
 | apply Pv.N2 | apply Pv.nj | apply Pv.pY | apply Pv.jQ  | (apply Pv.nq rfl rfl) | (apply Pv.sQ rfl) | apply Pv.Bd
 | apply Pv.aS | (apply Pv.aJ rfl) | (apply Pv.jF rfl) | apply Pv.N3 | apply Pv.qa | apply Pv.aD rfl
 | exact Pv.R9 | exact Pv.sN | exact Pv.nc | exact Pv.Sb | exact Pv.pT | exact Pv.Gd | exact Pv.Sa
 | (with_reducible assumption) | exact Pv.gb | exact Pv.oS | exact Pv.iE | exact Pv.ig | exact Pv.N4 | exact Pv.sR | exact Pv.XC  | exact Pv.yX
 | (show Pv.truthy _=_;rfl) | (show Pv.fq _ _=some _;rfl) | (show Pv.toT _=some _;rfl) | (show Pv.eT _ _=some _;rfl) | (show Pv.er _=some _;rfl) | assumption)
namespace Pv
open Ev (D bZ bP TY BI ME T E Es Eo It S Ss Fn big deep b2i rep cz dM bL aR cut cJ d8 slots)
theorem N5 (a b:Int):cz (a % 2147483563) b=true:=by have h1:=Int.emod_nonneg a (b:=2147483563) (by decide);have h2:=Int.emod_lt_of_pos a (b:=2147483563) (by decide);simp [cz];omega
theorem XD (a b:Int):cz (a % 2147483399) b=true:=by have h1:=Int.emod_nonneg a (b:=2147483399) (by decide);have h2:=Int.emod_lt_of_pos a (b:=2147483399) (by decide);simp [cz];omega
theorem N6 {l:List V}{j:Int}{v:V}(h:bL l j=some v):fq (.bU l) (.int j)=some v:=h
theorem N7 {l m:List V}:cop .eq (.bU l) (.lst m)=cF (ef (18+1)) l m:=rfl
theorem Dz {F:List Fn}{w n c:Nat}(hc:F[c]?=some sO) {ns:List Int}(hn:ns.length≤63) (k:Int):run F w (n+1) c [.val (jD ns),.val (.int k)]=some (.int (sP ns k),[]):=by
 refine cC hc rfl (ai (aM (b:=decide (ns=[])) (aD rfl (bV (aB rfl) (pX bg pT) (N7.trans (JU ns))) rfl) (fun h=>?_) fun h=>az ?_))
 ·have h0:=of_decide_eq_true h
  exact ai (bW (b5 (bE rfl) (aB rfl) (nv rfl)) ⟨by rw [sP,if_pos h0],rfl⟩)
 ·have h0:=of_decide_eq_false h
  have hlen:0<ns.length:=List.length_pos_iff.mpr h0
  have UP:(0:Int)<(ns.map V.int).length:=by rw [List.length_map];exact Int.natCast_pos.mpr hlen
  have h30:((ns.map V.int).length:Int)<1073741824:=by rw [List.length_map];omega
  have hm0:=Int.emod_nonneg k (b:=(ns.length:Int)) (by omega)
  have hlt:(k % (ns.length:Int)).toNat<ns.length:=by have:=Int.emod_lt_of_pos k (b:=(ns.length:Int)) (by omega);omega
  have hx:bL (ns.map V.int) (k % ((ns.map V.int).length:Int))=some (.int (ns[(k % (ns.length:Int)).toNat]?.getD 0)):=by
   rw [List.length_map,uN hm0,List.getElem?_map,List.getElem?_eq_getElem hlt];rfl
  refine ai (bW (b5 (dH (aB rfl) (b5 (aB rfl) (fP (aS (aB rfl) bg) xA) (ny UP)) (N6 hx)) (b5 (bE rfl) (b5 (aB rfl) (fP (aS (aB rfl) bg) xA) (sS UP h30)) (nv rfl)) gb) ⟨?_,rfl⟩)
  rw [sP,if_neg h0,List.length_map]
theorem gP {F:List Fn}{w n c dr:Nat}(hc:F[c]?=some sO) (hd:F[dr]?=some (uO c)) {ns:List Int}(hn:ns.length≤63) (k:Int) {many:Int}(hm:0<many):run F w (n+2) dr [.val (jD ns),.val (.int k),.val (.int many)]=some (.int (cP ns k many),[]):=by
 refine cC hd rfl (ai (br (b5 (b5 (b5 (b5 (aX (aJ rfl (aB rfl) (aJ rfl (aB rfl) aG)) (call2 (Dz hc hn k))) (bE rfl) (ny (by decide))) (bE rfl) (nv (N5 _ _))) (b5 (bE rfl) (b5 (aB rfl) (bE rfl) gb) (nv rfl)) gb) (bE rfl) (ny (by decide))) rfl rfl ?_))
 refine ai (br (b5 (b5 (b5 (aB rfl) (aB rfl) (nv (N5 _ _))) (b5 (aB rfl) (bE rfl) (sS (by decide) (by decide))) gb) (bE rfl) (ny (by decide))) rfl rfl ?_)
 exact ai (bW (b5 (b5 (b5 (b5 (b5 (aB rfl) (aB rfl) (nv (XD _ _))) (b5 (aB rfl) (bE rfl) (sS (by decide) (by decide))) gb) (bE rfl) (ny (by decide))) (bE rfl) (sS (by decide) (by decide))) (aB rfl) (ny hm)) ⟨rfl,rfl⟩)
noncomputable def fText (dr:Nat):Fn:=⟨3,4,(.cons (.ret (.me .join (.c (.str [])) (.cons (.comp (.ix (.c (.str [97,98,99,32])) (.cl dr (.cons (.v 0) (.cons (.bin .add (.bin .add (.v 1) (.c (.int 1))) (.v 3)) (.cons (.c (.int 4)) .nil))))) (.one 3) (.gy (.cons (.cl dr (.cons (.v 0) (.cons (.v 1) (.cons (.bin .add (.v 2) (.c (.int 1))) .nil)))) .nil)) .no) .nil))) .nil)⟩
noncomputable def Gi (dr:Nat):S:=.iff (.cmp .eq (.cl dr (.cons (.v 0) (.cons (.bin .add (.v 1) (.bin .mul (.c (.int 4)) (.v 4))) (.cons (.c (.int 4)) .nil)))) (.c (.int 0))) (.cons (.set 5 (.bin .mul (.ix (.c (.str [97,98,122])) (.cl dr (.cons (.v 0) (.cons (.bin .add (.bin .add (.v 1) (.bin .mul (.c (.int 4)) (.v 4))) (.c (.int 1))) (.cons (.c (.int 3)) .nil))))) (.bin .add (.c (.int 1)) (.cl dr (.cons (.v 0) (.cons (.bin .add (.bin .add (.v 1) (.bin .mul (.c (.int 4)) (.v 4))) (.c (.int 2))) (.cons (.c (.int 2)) .nil))))))) (.cons (.set 3 (.bin .add (.v 3) (.tup (.cons (.tup (.cons (.c (.str [112,117,116])) (.cons (.v 5) .nil))) .nil)))) .nil)) .nil
noncomputable def Gj (dr:Nat):S:=.iff (.cmp .lt (.v 4) (.bi .len (.cons (.v 2) .nil))) (.cons (.set 6 (.cmp .gt (.cl dr (.cons (.v 0) (.cons (.bin .add (.bin .add (.v 1) (.bin .mul (.c (.int 4)) (.v 4))) (.c (.int 3))) (.cons (.c (.int 3)) .nil)))) (.c (.int 0)))) (.cons (.set 3 (.bin .add (.v 3) (.tup (.cons (.lO (.v 6) (.tup (.cons (.c (.str [107,101,101,112])) (.cons (.c (.int 1)) .nil))) (.tup (.cons (.c (.str [100,114,111,112])) (.cons (.ix (.v 2) (.v 4)) .nil)))) .nil)))) .nil)) .nil
noncomputable def JV (dr:Nat):Fn:=⟨3,7,(.cons (.set 3 (.tup .nil)) (.cons (.for (.one 4) (.gy (.cons (.bin .add (.bi .len (.cons (.v 2) .nil)) (.c (.int 1))) .nil)) (.cons (Gi dr) (.cons (Gj dr) .nil))) (.cons (.ret (.v 3)) .nil)))⟩
inductive Pt where
 | keep (n:Nat) | put (s:List Nat) | drop (s:List Nat)
deriving DecidableEq
noncomputable def dQ:List Nat:=[107,101,101,112]
noncomputable def kW:List Nat:=[112,117,116]
noncomputable def jg:List Nat:=[100,114,111,112]
noncomputable def Pt.v:Pt→V
 | .keep n=>.tup [.str dQ,.int n]
 | .put s=>.tup [.str kW,.str s]
 | .drop s=>.tup [.str jg,.str s]
noncomputable def aO (c:List Pt):V:=.tup (c.map Pt.v)
theorem N8 (n:Nat) (a b:Pt):ef (n+2) a.v b.v=some (decide (a=b)):=by
 cases a <;> cases b <;> simp [Pt.v,dQ,kW,jg]
 all_goals omega
theorem N9 (a b:List Pt):ef deep (aO a) (aO b)=some (decide (a=b)):=by
 simp only [aO,Jt]
 exact xy (fun a b=>N8 17 a b) a b
noncomputable def txt (ns:List Int) (at_ most:Int):List Nat:=(List.range (cP ns at_ (most+1)).toNat).map fun (k:Nat)=>[97,98,99,32].getD (cP ns (at_+1+k) 4).toNat 0
theorem JX (ns:List Int) (at_:Int) {most:Int}(h:0≤most):(txt ns at_ most).length≤most.toNat:=by
 unfold txt
 have h1:=kB ns at_ (many:=most+1) (by omega)
 have h2:=ku ns at_ (many:=most+1) (by omega)
 simp;omega
theorem getD_at {α:Type}{l:List α}{i:Int}(h0:0≤i) (h1:i<l.length) (d:α):bL l i=some (l.getD i.toNat d):=by
 have:i.toNat<l.length:=by omega
 rw [uN h0];simp [List.getD,List.getElem?_eq_getElem this]
theorem nW {α β:Type}(l:List α) (f:α→β):(l.map fun x=>[f x]).flatten=l.map f:=by induction l <;> simp [*]
theorem Bf (lo:Int) (n:Nat):range lo n=(List.range n).map fun (i:Nat)=>V.int (lo+i):=rfl
section
variable {F:List Fn}{w n c dr t:Nat}(hc:F[c]?=some sO) (hd:F[dr]?=some (uO c)) {ns:List Int}(hn:ns.length≤63)
include hc hd hn
theorem DA (ht:F[t]?=some (fText dr)) (k most:Int) (hm:0≤most) (hm2:most≤1000):run F w (n+3) t [.val (jD ns),.val (.int k),.val (.int most)]=some (.str (txt ns k most),[]):=by
 have b0:=ku ns k (many:=most+1) (by omega)
 have b1:=kB ns k (many:=most+1) (by omega)
 have d0:=fun fr=>eB (fr:=fr) (gP (w:=w) (n:=n) hc hd hn k (many:=most+1) (by omega))
 have Su:cG (jP (run F w (n+2)) (.ix (.c (.str [97,98,99,32])) (.cl dr (.cons (.v 0) (.cons (.bin .add (.bin .add (.v 1) (.c (.int 1))) (.v 3)) (.cons (.c (.int 4)) .nil))))) (.one 3) .no [some (.val (jD ns)),some (.val (.int k)),some (.val (.int most)),none]) (range 0 (cP ns k (most+1)).toNat)=some (((List.range (cP ns k (most+1)).toNat).map fun (j:Nat)=>[[97,98,99,32].getD (cP ns (k+1+j) 4).toNat 0]).map V.str):=by
  rw [Bf,List.map_map]
  refine rZ _ _ _ fun j _=>?_
  have d1:=fun fr=>eB (fr:=fr) (gP (w:=w) (n:=n) hc hd hn (k+1+j) (many:=4) (by decide))
  have ix:fq (.str [97,98,99,32]) (.int (cP ns (k+1+j) 4))=some (.str [[97,98,99,32].getD (cP ns (k+1+j) 4).toNat 0]):=by
   rw [qR,getD_at (l:=[97,98,99,32]) (ku ns (k+1+j) (many:=4) (by decide)) (kB ns (k+1+j) (many:=4) (by decide)) 0];rfl
  rw [show (0:Int)+(j:Int)=j from Int.zero_add _]
  exact Be rfl (by (repeat (first | array_get_dec | exact d1 _)))
 have hj:=yQ (l:=(List.range (cP ns k (most+1)).toNat).map fun (j:Nat)=>[[97,98,99,32].getD (cP ns (k+1+j) 4).toNat 0]) (by rw [nW];simp;omega)
 rw [nW] at hj
 have Z4:dX (((List.range (cP ns k (most+1)).toNat).map fun (j:Nat)=>[[97,98,99,32].getD (cP ns (k+1+j) 4).toNat 0]).map V.str)=some (.lst _):=cS (bS (by simp;omega))
 have rg:=Nz b0 (show cP ns k (most+1)≤100000 by omega)
 refine cC ht rfl (ai (bW (sQ rfl (bE rfl) (aS (jE (uP (by (repeat (first | array_get_dec | exact d0 _))) rg) rfl Su Z4) bg) hj) ⟨rfl,rfl⟩))
end
noncomputable def jh (ns:List Int) (at_:Int) (s:List Nat) (k:Nat):List Pt:=
 (if cP ns (at_+4*k) 4=0 then [.put (rep (1+cP ns (at_+4*k+2) 2).toNat [[97,98,122].getD (cP ns (at_+4*k+1) 3).toNat 0])] else [])++
 (match s[k]? with
 | some c=>[if 0<cP ns (at_+4*k+3) 3 then .keep 1 else .drop [c]]
 | none=>[])
noncomputable def fF (ns:List Int) (at_:Int) (s:List Nat) (k:Nat):List Pt:=(List.range k).flatMap (jh ns at_ s)
noncomputable def chg (ns:List Int) (at_:Int) (s:List Nat):List Pt:=fF ns at_ s (s.length+1)
theorem Bg (ns:List Int) (at_:Int) (s:List Nat) (k:Nat):(jh ns at_ s k).length≤2:=by
 unfold jh
 split <;> split <;> simp
theorem ji (ns:List Int) (at_:Int) (s:List Nat) (k:Nat):fF ns at_ s (k+1)=fF ns at_ s k++jh ns at_ s k:=by simp [fF,List.range_succ]
theorem mT (ns:List Int) (at_:Int) (s:List Nat):∀ k,(fF ns at_ s k).length≤2*k
 | 0=>by simp [fF]
 | k+1=>by
  have h1:=Bg ns at_ s k
  have h2:=mT ns at_ s k
  rw [ji,List.length_append]
  omega
theorem Oa (i:Int):cz 4 i=true:=by simp [cz]
theorem yY {a b:List Pt}(h:a.length+b.length≤100000):bR .add (aO a) (aO b)=some (aO (a++b)):=by
 simp only [aO];rw [Dq (by simpa using h)];simp
theorem XE {j:Int}{n:Nat}(h:n≤100000) (e:j=n):dO [.int j]=some (range 0 n):=by
 subst e
 rw [Nz (by omega) (by omega)]
 rfl
theorem JY {a:List Pt}{s:List Nat}(h:a.length<100000):bR .add (aO a) (.tup [.tup [.str [112,117,116],.str s]])=some (aO (a++[.put s])):=yY (a:=a) (b:=[.put s]) (by simp;omega)
theorem DB {a:List Pt}{s:List Nat}(h:a.length<100000):bR .add (aO a) (.tup [.tup [.str [100,114,111,112],.str s]])=some (aO (a++[.drop s])):=yY (a:=a) (b:=[.drop s]) (by simp;omega)
theorem DC {a:List Pt}(h:a.length<100000):bR .add (aO a) (.tup [.tup [.str [107,101,101,112],.int 1]])=some (aO (a++[.keep 1])):=yY (a:=a) (b:=[.keep 1]) (by simp;omega)
section
variable {F:List Fn}{w n c dr t:Nat}(hc:F[c]?=some sO) (hd:F[dr]?=some (uO c)) {ns:List Int}(hn:ns.length≤63)
include hc hd hn
theorem DE (k:Int) (x:V) (fd:List Pt) (j:Nat) (u v:Option Sl) (hu:vo u) (hfd:fd.length≤10000) :
  Wp (ex (run F w (n+2)) w (Gi dr) [some (.val (jD ns)),some (.val (.int k)),some (.val x),some (.val (aO fd)),some (.val (.int j)),u,v]) fun g fr=>g=.nx∧∃ b,vo b∧fr=[some (.val (jD ns)),some (.val (.int k)),some (.val x),some (.val (aO (fd++if cP ns (k+4*j) 4=0 then [.put (rep (1+cP ns (k+4*j+2) 2).toNat [[97,98,122].getD (cP ns (k+4*j+1) 3).toNat 0])] else []))),some (.val (.int j)),b,v]:=by
 have d1:=fun fr=>eB (fr:=fr) (gP (w:=w) (n:=n) hc hd hn (k+4*j) (many:=4) (by decide))
 have m4:bR .mul (.int 4) (.int j)=some (.int (4*j)):=by rw [oU,Oa];rfl
 refine aM (by (repeat (first | array_get_dec | exact d1 _))) (fun h=>?_) fun h=>?_
 ·have h0:=of_decide_eq_true h
  have d2:=fun fr=>eB (fr:=fr) (gP (w:=w) (n:=n) hc hd hn (k+4*j+1) (many:=3) (by decide))
  have d3:=fun fr=>eB (fr:=fr) (gP (w:=w) (n:=n) hc hd hn (k+4*j+2) (many:=2) (by decide))
  have c2:=ku ns (k+4*j+2) (many:=2) (by decide)
  have c3:=kB ns (k+4*j+2) (many:=2) (by decide)
  have ix:fq (.str [97,98,122]) (.int (cP ns (k+4*j+1) 3))=some (.str [[97,98,122].getD (cP ns (k+4*j+1) 3).toNat 0]):=by
   rw [qR,getD_at (l:=[97,98,122]) (ku ns (k+4*j+1) (many:=3) (by decide)) (kB ns (k+4*j+1) (many:=3) (by decide)) 0];rfl
  have ml:=Dr (j:=1+cP ns (k+4*j+2) 2) (a:=[[97,98,122].getD (cP ns (k+4*j+1) 3).toNat 0]) (by omega) (by omega) (by simp)
  have ad:=JY (a:=fd) (s:=rep (1+cP ns (k+4*j+2) 2).toNat [[97,98,122].getD (cP ns (k+4*j+1) 3).toNat 0]) (by omega)
  refine ai (br (by (repeat (first | array_get_dec | exact d2 _ | exact d3 _))) rfl (eZ rfl hu) ?_)
  refine ai (br (by repeat array_get_dec) rfl rfl (az ?_))
  rw [if_pos h0];exact ⟨rfl,_,.val,rfl⟩
 ·have h0:=of_decide_eq_false h
  rw [if_neg h0,List.append_nil]
  exact az ⟨rfl,u,hu,rfl⟩
theorem DF (k:Int) (x:List Nat) (hx:x.length≤1000) (fd:List Pt) (j:Nat) (u v:Option Sl) (hv:vo v) (hfd:fd.length≤10000) :
  Wp (ex (run F w (n+2)) w (Gj dr) [some (.val (jD ns)),some (.val (.int k)),some (.val (.str x)),some (.val (aO fd)),some (.val (.int j)),u,v]) fun g fr=>g=.nx∧∃ b,vo b∧fr=[some (.val (jD ns)),some (.val (.int k)),some (.val (.str x)),some (.val (aO (fd++match x[j]? with
     | some c=>[if 0<cP ns (k+4*j+3) 3 then .keep 1 else .drop [c]]
     | none=>[]))),some (.val (.int j)),u,b]:=by
 have ln:cX .len [.str x]=some (.int (x.length:Nat)):=len_str (by omega)
 refine aM (by repeat array_get_dec) (fun h=>?_) fun h=>?_
 ·have hlt:j<x.length:=by have:=of_decide_eq_true h;omega
  have d1:=fun fr=>eB (fr:=fr) (gP (w:=w) (n:=n) hc hd hn (k+4*j+3) (many:=3) (by decide))
  have m4:bR .mul (.int 4) (.int j)=some (.int (4*j)):=by rw [oU,Oa];rfl
  have hg:x[j]?=some x[j]:=List.getElem?_eq_getElem hlt
  have ix:fq (.str x) (.int j)=some (.str [x[j]]):=by rw [qR,wj,hg];rfl
  rw [hg]
  refine ai (br (by (repeat (first | array_get_dec | exact d1 _))) rfl (eZ rfl hv) ?_)
  by_cases hk:0<cP ns (k+4*j+3) 3
  ·have ad:=DC (a:=fd) (by omega)
   have ht:truthy (.bl (decide (0<cP ns (k+4*j+3) 3)))=true:=decide_eq_true hk
   refine ai (br (b5 (aB rfl) (je (aS (Gf (b:=true) (aD rfl (aB rfl) ht) (fun _=>by repeat array_get_dec) fun h=>absurd h (by decide)) bg) sN) ad) rfl rfl (az ?_))
   refine ⟨rfl,some (.val (.bl (decide (0<cP ns (k+4*j+3) 3)))),.val,?_⟩
   simp only [if_pos hk];rfl
  ·have ad:=DB (a:=fd) (s:=[x[j]]) (by omega)
   have ht:truthy (.bl (decide (0<cP ns (k+4*j+3) 3)))=false:=decide_eq_false hk
   refine ai (br (b5 (aB rfl) (je (aS (Gf (b:=false) (aD rfl (aB rfl) ht) (fun h=>absurd h (by decide)) fun _=>by repeat array_get_dec) bg) sN) ad) rfl rfl (az ?_))
   refine ⟨rfl,some (.val (.bl (decide (0<cP ns (k+4*j+3) 3)))),.val,?_⟩
   simp only [if_neg hk];rfl
 ·have hlt:¬ j<x.length:=by have:=of_decide_eq_false h;omega
  rw [List.getElem?_eq_none (by omega),List.append_nil]
  exact az ⟨rfl,v,hv,rfl⟩
theorem qc (ht:F[t]?=some (JV dr)) (k:Int) (x:List Nat) (hx:x.length≤1000):run F w (n+3) t [.val (jD ns),.val (.int k),.val (.str x)]=some (aO (chg ns k x),[]):=by
 refine cC ht rfl ?_
 have ln:cX .len [.str x]=some (.int (x.length:Nat)):=len_str (by omega)
 have rg:dO [.int ((x.length:Nat)+1)]=some (range 0 (x.length+1)):=XE (by omega) (by omega)
 refine ai (br (by repeat array_get_dec) rfl rfl ?_)
 refine ai (nu (uP (aS (b5 (fP (aS (aB rfl) bg) ln) (bE rfl) gb) bg) rg) ?_)
 refine Jw (fun j fr=>∃ a b c,vo a∧vo b∧vo c∧fr=[some (.val (jD ns)),some (.val (.int k)),some (.val (.str x)),some (.val (aO (fF ns k x j))),a,b,c]) (fun j fr hj ⟨a,b,c',ha,hb,hc',hfr⟩=>?_) (fun fr ⟨a,b,c',ha,hb,hc',hfr⟩=>?_) ⟨none,none,none,.none,.none,.none,rfl⟩
 ·subst hfr
  have hz:=mT ns k x j
  rw [show (0:Int)+(j:Int)=j from Int.zero_add _]
  refine d7 (bind1 rfl ha) (ai ?_)
  refine (DE hc hd hn k (.str x) (fF ns k x j) j b c' hb (by omega)).mono fun g fr ⟨q1,b2,hb2,q3⟩=>?_
  subst q1 q3
  refine ai ?_
  refine (DF hc hd hn k x hx _ j b2 c' hc' (by split <;> simp <;> omega)).mono fun g fr ⟨q1,b3,Z5,q3⟩=>?_
  subst q1 q3
  refine az ?_
  rw [fE]
  refine ⟨some (.val (.int j)),b2,b3,.val,hb2,Z5,?_⟩
  rw [ji,jh,List.append_assoc]
 ·subst hfr
  refine ai (bW (v:=aO (chg ns k x)) (af:=[some (.val (jD ns)),some (.val (.int k)),some (.val (.str x)),some (.val (aO (fF ns k x (x.length+1)))),a,b,c']) ?_ ⟨rfl,rfl⟩)
  have sh:gq [some (.val (jD ns)),some (.val (.int k)),some (.val (.str x)),some (.val (aO (fF ns k x (x.length+1)))),a,b,c']=[some (.val (jD ns)),some (.val (.int k)),some (.val (.str x)),some (.val (aO (fF ns k x (x.length+1)))),a,b,c']:=by
   show _ :: _ :: _ :: _ :: a.map Sl.dj :: b.map Sl.dj :: [c'.map Sl.dj]=_
   rw [cO ha,cO hb,cO hc'];rfl
  rw [sh];exact aB rfl
end
end Pv
namespace Pv
open Ev (D bZ bP TY BI ME T E Es Eo It S Ss Fn big deep b2i rep cz dM bL aR cut cJ d8 slots)
noncomputable def DG:S:=.iff (.cmp .eq (.ix (.v 0) (.c (.int 0))) (.c (.str [107,101,101,112]))) (.cons (.ret (.ix (.v 0) (.c (.int 1)))) .nil) .nil
noncomputable def DH:S:=.ret (.bi .len (.cons (.ix (.v 0) (.c (.int 1))) .nil))
noncomputable def fc:Fn:=⟨1,1,(.cons DG (.cons DH .nil))⟩
noncomputable def yZ (bw:Nat):S:=.ret (.bi .sum (.cons (.comp (.cl bw (.cons (.v 1) .nil)) (.one 1) (.seq (.v 0)) (.yes (.cmp .ne (.ix (.v 1) (.c (.int 0))) (.c (.str [112,117,116]))))) .nil))
noncomputable def jG (bw:Nat):Fn:=⟨1,2,(.cons (yZ bw) .nil)⟩
noncomputable def Bh (bw:Nat):S:=.ret (.bi .sum (.cons (.comp (.cl bw (.cons (.v 1) .nil)) (.one 1) (.seq (.v 0)) (.yes (.cmp .ne (.ix (.v 1) (.c (.int 0))) (.c (.str [100,114,111,112]))))) .nil))
noncomputable def nD (bw:Nat):Fn:=⟨1,2,(.cons (Bh bw) .nil)⟩
noncomputable def DI (bw:Nat):S:=.ret (.bi .sum (.cons (.comp (.cl bw (.cons (.v 1) .nil)) (.one 1) (.seq (.v 0)) (.yes (.cmp .ne (.ix (.v 1) (.c (.int 0))) (.c (.str [107,101,101,112]))))) .nil))
noncomputable def Ob (bw:Nat):Fn:=⟨1,2,(.cons (DI bw) .nil)⟩
noncomputable def DJ:S:=.set 1 (.lst .nil)
noncomputable def DK:S:=.set 2 (.c (.int 0))
noncomputable def DL:S:=.set 3 (.c (.str []))
noncomputable def DM:S:=.set 4 (.c (.str []))
noncomputable def DN (fz:Nat):Ss:=(.cons (.iff (.cmp .eq (.v 5) (.c (.str [100,114,111,112]))) (.cons (.set 3 (.bin .add (.v 3) (.v 6))) .nil) (.cons (.iff (.cmp .eq (.v 5) (.c (.str [112,117,116]))) (.cons (.set 4 (.bin .add (.v 4) (.v 6))) .nil) (.cons (.iff (.cmp .gt (.v 6) (.c (.int 0))) (.cons (.iff (.orr (.cmp .ne (.v 3) (.c (.str []))) (.cmp .ne (.v 4) (.c (.str [])))) (.cons (.exp (.me .extend (.v 1) (.cons (.cl fz (.cons (.v 2) (.cons (.v 3) (.cons (.v 4) .nil)))) .nil))) (.cons (.set 2 (.c (.int 0))) (.cons (.set 3 (.c (.str []))) (.cons (.set 4 (.c (.str []))) .nil)))) .nil) (.cons (.set 2 (.bin .add (.v 2) (.v 6))) .nil)) .nil) .nil)) .nil)) .nil)
noncomputable def DO (fz:Nat):S:=.for (.many [5,6]) (.seq (.v 0)) (DN fz)
noncomputable def DP (fz:Nat):S:=.exp (.me .extend (.v 1) (.cons (.cl fz (.cons (.v 2) (.cons (.v 3) (.cons (.v 4) .nil)))) .nil))
noncomputable def DQ:S:=.ret (.iw (.v 1))
noncomputable def iS (fz:Nat):Fn:=⟨1,7,(.cons DJ (.cons DK (.cons DL (.cons DM (.cons (DO fz) (.cons (DP fz) (.cons DQ .nil)))))))⟩
noncomputable def vQ:S:=.set 3 (.lst .nil)
noncomputable def vR:S:=.iff (.cmp .gt (.v 0) (.c (.int 0))) (.cons (.exp (.me .append (.v 3) (.cons (.tup (.cons (.c (.str [107,101,101,112])) (.cons (.v 0) .nil))) .nil))) .nil) .nil
noncomputable def nX:S:=.iff (.cmp .ne (.v 1) (.c (.str []))) (.cons (.exp (.me .append (.v 3) (.cons (.tup (.cons (.c (.str [100,114,111,112])) (.cons (.v 1) .nil))) .nil))) .nil) .nil
noncomputable def j4:S:=.iff (.cmp .ne (.v 2) (.c (.str []))) (.cons (.exp (.me .append (.v 3) (.cons (.tup (.cons (.c (.str [112,117,116])) (.cons (.v 2) .nil))) .nil))) .nil) .nil
noncomputable def iL:S:=.ret (.v 3)
noncomputable def eE:Fn:=⟨3,4,(.cons vQ (.cons vR (.cons nX (.cons j4 (.cons iL .nil)))))⟩
noncomputable def Bj:S:=.set 1 (.lst .nil)
noncomputable def Bk:S:=.set 2 (.lst .nil)
noncomputable def Bm:Ss:=(.cons (.iff (.cmp .eq (.v 3) (.c (.str [107,101,101,112]))) (.cons (.set 2 (.bin .add (.v 2) (.ee (.gy (.cons (.bi .len (.cons (.v 1) .nil)) (.cons (.bin .add (.bi .len (.cons (.v 1) .nil)) (.v 4)) .nil)))))) (.cons (.set 1 (.bin .add (.v 1) (.bin .mul (.lst (.cons (.c (.str [])) .nil)) (.v 4)))) .nil)) (.cons (.iff (.cmp .eq (.v 3) (.c (.str [100,114,111,112]))) (.cons (.set 1 (.bin .add (.v 1) (.ee (.seq (.v 4))))) .nil) (.cons (.set 2 (.bin .add (.v 2) (.ee (.seq (.v 4))))) .nil)) .nil)) .nil)
noncomputable def Bo:S:=.for (.many [3,4]) (.seq (.v 0)) Bm
noncomputable def Bp:S:=.ret (.tup (.cons (.v 1) (.cons (.v 2) .nil)))
noncomputable def JZ:Fn:=⟨1,5,(.cons Bj (.cons Bk (.cons Bo (.cons Bp .nil))))⟩
noncomputable def Pt.n:Pt→Nat
 | .keep n=>n
 | .put s=>s.length
 | .drop s=>s.length
noncomputable def tot (c:List Pt):Nat:=(c.map Pt.n).sum
theorem dw (a b:List Pt):tot (a++b)=tot a+tot b:=by simp [tot]
theorem aQ (p:Pt) (c:List Pt):tot (p :: c)=p.n+tot c:=by simp [tot]
noncomputable def cT:Pt→Bool
 | .put _=>true
 | _=>false
noncomputable def dN:Pt→Bool
 | .drop _=>true
 | _=>false
noncomputable def cQ:Pt→Bool
 | .keep _=>true
 | _=>false
noncomputable def aZ (c:List Pt):Nat:=tot (c.filter fun p=>!cT p)
noncomputable def eF (c:List Pt):Nat:=tot (c.filter fun p=>!dN p)
noncomputable def cst (c:List Pt):Nat:=tot (c.filter fun p=>!cQ p)
section
variable {F:List Fn}{w n aC i:Nat}
theorem gh (hs:F[i]?=some fc) (p:Pt) (hp:p.n≤100000):run F w (n+1) i [.val p.v]=some (.int p.n,[]):=by
 cases p with
 | keep k=>exact cC hs rfl (ai (aM (b:=true) (aD rfl (bV (dH (aB rfl) (bE rfl) rfl) (bE rfl) iE) rfl) (fun _=>ai (bW (dH (aB rfl) (bE rfl) rfl) ⟨rfl,rfl⟩)) nofun))
 | put s=>exact cC hs rfl (ai (aM (b:=false) (aD rfl (bV (dH (aB rfl) (bE rfl) rfl) (bE rfl) iE) rfl) nofun (fun _=>az (ai (bW (fP (aS (dH (aB rfl) (bE rfl) rfl) bg) (len_str hp)) ⟨rfl,rfl⟩)))))
 | drop s=>exact cC hs rfl (ai (aM (b:=false) (aD rfl (bV (dH (aB rfl) (bE rfl) rfl) (bE rfl) iE) rfl) nofun (fun _=>az (ai (bW (fP (aS (dH (aB rfl) (bE rfl) rfl) bg) (len_str hp)) ⟨rfl,rfl⟩)))))
theorem XF {c:List Pt}{p:Pt}(h:p∈c):p.n≤tot c:=by
 induction c with
 | nil=>simp at h
 | cons q c ih=>
  rw [aQ]
  rcases List.mem_cons.mp h with rfl | h
  ·omega
  ·have:=ih h;omega
theorem Sv (c:List Pt):(c.map fun p=>(p.n:Int)).sum=(tot c:Int):=by
 induction c with
 | nil=>rfl
 | cons p c ih=>simp only [List.map_cons,List.sum_cons,ih,aQ];omega
theorem qT {word:List Nat}{pr:Pt→Bool}(hs:F[aC]?=some fc) (hb:F[i]?=some ⟨1,2,.cons (.ret (.bi .sum (.cons (.comp (.cl aC (.cons (.v 1) .nil)) (.one 1) (.seq (.v 0)) (.yes (.cmp .ne (.ix (.v 1) (.c (.int 0))) (.c (.str word))))) .nil))) .nil⟩)
  (hw:∀ p:Pt,∃ x u,p.v=.tup [.str x,u]∧(!decide (x=word))=pr p) (c:List Pt) (h1:c.length≤10000) (h2:tot c≤100000):run F w (n+2) i [.val (aO c)]=some (.int (tot (c.filter pr)),[]):=by
 refine cC hb rfl (ai (bW (fP (aS (jE (fJ (gr rfl) rfl) rfl (gc (e:=Pt.v) (p:=pr) (g:=fun p=>.int p.n) c fun p hp=>?_) (cS (bS ?_))) bg) ?_) ⟨rfl,rfl⟩))
 ·obtain ⟨x,u,hx,Z6⟩:=hw p
  have hcall:=fun fr=>bO (fr:=fr) (gh (w:=w) (n:=n) hs p (Nat.le_trans (XF hp) h2))
  rw [hx] at hcall
  rw [hx,←Z6]
  exact jq rfl (aD rfl (bV (dH (aB rfl) (bE rfl) rfl) (bE rfl) ig) rfl) fun _=>aX (aJ rfl (aB rfl) aG) (hcall _)
 ·rw [List.length_map];exact Nat.le_trans (List.length_filter_le _ _) (Nat.le_trans h1 (by decide))
 ·rw [Jv,yP (fun p:Pt=>(p.n:Int))]
  show some (V.int _)=_
  rw [Sv]
theorem gu (hs:F[aC]?=some fc) (hb:F[i]?=some (jG aC)) (c:List Pt) (h1:c.length≤10000) (h2:tot c≤100000):run F w (n+2) i [.val (aO c)]=some (.int (aZ c),[]):=
 qT (pr:=fun p=>!cT p) hs hb (fun p=>by cases p <;> exact ⟨_,_,rfl,rfl⟩) c h1 h2
theorem jR (hs:F[aC]?=some fc) (hb:F[i]?=some (nD aC)) (c:List Pt) (h1:c.length≤10000) (h2:tot c≤100000):run F w (n+2) i [.val (aO c)]=some (.int (eF c),[]):=
 qT (pr:=fun p=>!dN p) hs hb (fun p=>by cases p <;> exact ⟨_,_,rfl,rfl⟩) c h1 h2
theorem uQ (hs:F[aC]?=some fc) (hb:F[i]?=some (Ob aC)) (c:List Pt) (h1:c.length≤10000) (h2:tot c≤100000):run F w (n+2) i [.val (aO c)]=some (.int (cst c),[]):=
 qT (pr:=fun p=>!cQ p) hs hb (fun p=>by cases p <;> exact ⟨_,_,rfl,rfl⟩) c h1 h2
end
noncomputable def b6 (k:Nat) (g w:List Nat):List Pt:=(if 0<k then [.keep k] else [])++(if g=[] then [] else [.drop g])++(if w=[] then [] else [.put w])
theorem j5 (k:Nat) (g w:List Nat):(b6 k g w).length≤3:=by unfold b6;split <;> split <;> split <;> simp
theorem nY {F:List Fn}{w n i:Nat}(hs:F[i]?=some eE) (k:Nat) (g x:List Nat):run F w (n+1) i [.val (.int k),.val (.str g),.val (.str x)]=some (.lst ((b6 k g x).map Pt.v),[]):=by
 refine cC hs rfl ?_
 refine ai (gg (l:=[]) (by repeat array_get_dec) rfl rfl ?_)
 have ap:∀ (l:List V) (d:V) (fr:Fr) (i:Nat),l.length≤3→fr[i]?=some (some (.own l))→gA .append i [d] fr fr[i]?=.ok .bD (fr.set i (some (.own (l++[d])))):=fun l d fr i h e=>by rw [e];exact nh (by omega)
 have fin:∀ l:List V,Wp (exs (run F w n) w (.cons iL .nil) [some (.val (.int k)),some (.val (.str g)),some (.val (.str x)),some (.own l)]) fun g fr=>g=.ret (.lst l)∧outs 3 fr=[]:=fun l=>ai (bW (by repeat array_get_dec) ⟨rfl,rfl⟩)
 have s3:∀ l:List V,l.length≤2→Wp (exs (run F w n) w (.cons j4 (.cons iL .nil)) [some (.val (.int k)),some (.val (.str g)),some (.val (.str x)),some (.own l)]) fun g fr=>g=.ret (.lst (l++(if x=[] then [] else [Pt.put x]).map Pt.v))∧outs 3 fr=[]:=fun l hl=>by
  refine ai (aM (by repeat array_get_dec) (fun h=>?_) fun h=>?_)
  ·have hx:x≠[]:=by simpa using h
   refine ai (fX (by (repeat array_get_dec);exact ap _ _ _ _ (by omega) rfl) (az ?_))
   rw [if_neg hx];exact fin _
  ·have hx:x=[]:=by simpa using h
   refine az ?_
   rw [if_pos hx,List.map_nil,List.append_nil];exact fin _
 have s2:∀ l:List V,l.length≤1→Wp (exs (run F w n) w (.cons nX (.cons j4 (.cons iL .nil))) [some (.val (.int k)),some (.val (.str g)),some (.val (.str x)),some (.own l)]) fun y fr=>y=.ret (.lst (l++((if g=[] then [] else [Pt.drop g])++(if x=[] then [] else [Pt.put x])).map Pt.v))∧outs 3 fr=[]:=fun l hl=>by
  refine ai (aM (by repeat array_get_dec) (fun h=>?_) fun h=>?_)
  ·have hx:g≠[]:=by simpa using h
   refine ai (fX (by (repeat array_get_dec);exact ap _ _ _ _ (by omega) rfl) (az ?_))
   rw [if_neg hx,List.map_append,←List.append_assoc];exact s3 _ (by simp;omega)
  ·have hx:g=[]:=by simpa using h
   refine az ?_
   rw [if_pos hx,List.nil_append];exact s3 _ (by omega)
 refine ai (aM (by repeat array_get_dec) (fun h=>?_) fun h=>?_)
 ·have hx:0<k:=by have:=of_decide_eq_true h;omega
  refine ai (fX (by (repeat array_get_dec);exact ap _ _ _ _ (by decide) rfl) (az ?_))
  unfold b6
  rw [if_pos hx,List.append_assoc];exact s2 _ (Nat.le_refl 1)
 ·have hx:¬ 0<k:=by have:=of_decide_eq_false h;omega
  refine az ?_
  unfold b6
  rw [if_neg hx];exact s2 _ (by decide)
abbrev FS:=List Pt×Nat×List Nat×List Nat
noncomputable def bJ (st:FS):Pt→FS
 | .drop s=>(st.1,st.2.1,st.2.2.1++s,st.2.2.2)
 | .put s=>(st.1,st.2.1,st.2.2.1,st.2.2.2++s)
 | .keep k=>if 0<k then (if st.2.2.1=[]∧st.2.2.2=[] then (st.1,st.2.1+k,[],[]) else (st.1++b6 st.2.1 st.2.2.1 st.2.2.2,k,[],[])) else st
noncomputable def fh:FS:=([],0,[],[])
noncomputable def cU (st:FS):List Pt:=st.1++b6 st.2.1 st.2.2.1 st.2.2.2
noncomputable def ay (c:List Pt):List Pt:=cU (c.foldl bJ fh)
theorem J0 (p:List Pt) (a:Pt):(p++[a]).foldl bJ fh=bJ (p.foldl bJ fh) a:=by simp
theorem uR (c:List Pt):∀ st:FS,(c.foldl bJ st).1.length≤st.1.length+3*c.length∧(c.foldl bJ st).2.2.1.length≤st.2.2.1.length+tot c∧(c.foldl bJ st).2.2.2.length≤st.2.2.2.length+tot c:=by
 induction c with
 | nil=>intro st;simp [tot]
 | cons p c ih=>
  intro st
  have h:=ih (bJ st p)
  have h2:(bJ st p).1.length≤st.1.length+3∧(bJ st p).2.2.1.length≤st.2.2.1.length+p.n∧(bJ st p).2.2.2.length≤st.2.2.2.length+p.n:=by
   have:=j5 st.2.1 st.2.2.1 st.2.2.2
   cases p with
   | drop s=>simp [bJ,Pt.n]
   | put s=>simp [bJ,Pt.n]
   | keep k=>
    simp only [bJ]
    split
    ·split
     ·simp
     ·simp;omega
    ·simp
  simp only [List.foldl_cons,List.length_cons,aQ]
  omega
theorem eN {F:List Fn}{w n aY i:Nat}(hs:F[aY]?=some eE) (hf:F[i]?=some (iS aY)) (c:List Pt) (h1:c.length≤10000) (h2:tot c≤10000):run F w (n+2) i [.val (aO c)]=some (aO (ay c),[]):=by
 refine cC hf rfl ?_
 refine ai (gg (l:=[]) (by repeat array_get_dec) rfl rfl ?_)
 refine ai (br (by repeat array_get_dec) rfl rfl ?_)
 refine ai (br (by repeat array_get_dec) rfl rfl ?_)
 refine ai (br (by repeat array_get_dec) rfl rfl ?_)
 refine ai (nu (vs:=c.map Pt.v) (fJ (gr rfl) rfl) ?_)
 have ext:∀ (st:FS) (fr:Fr),st.1.length≤30010→gA .extend 1 [.lst ((b6 st.2.1 st.2.2.1 st.2.2.2).map Pt.v)] fr (some (some (.own (st.1.map Pt.v))))=.ok .bD (fr.set 1 (some (.own ((cU st).map Pt.v)))):=fun st fr h=>by
  have:=j5 st.2.1 st.2.2.1 st.2.2.2
  unfold cU
  rw [List.map_append];exact xF (by simp;omega)
 refine gO (e:=Pt.v) (fun p l fr=>p++l=c∧∃ a b,vo a∧vo b∧fr=[some (.val (aO c)),some (.own ((p.foldl bJ fh).1.map Pt.v)),some (.val (.int (p.foldl bJ fh).2.1)),some (.val (.str (p.foldl bJ fh).2.2.1)),some (.val (.str (p.foldl bJ fh).2.2.2)),a,b]) (fun p x l fr ⟨hpl,a,b,ha,hb,hfr⟩=>?_) (fun p fr ⟨hpl,a,b,ha,hb,hfr⟩=>?_) c [] _ ⟨rfl,none,none,.none,.none,rfl⟩
 ·subst hfr
  obtain ⟨b1,b2,b3⟩:=uR p fh
  have hlen:p.length+l.length+1=c.length:=by rw [←hpl];simp;omega
  have kX:tot p+x.n+tot l=tot c:=by rw [←hpl,dw,aQ];omega
  rw [J0]
  have gi:(p++[x])++l=c:=by simpa using hpl
  generalize p.foldl bJ fh=st at *
  simp [fh] at b1 b2 b3
  have rs:=fun fr=>eB (fr:=fr) (nY (w:=w) (n:=n) hs st.2.1 st.2.2.1 st.2.2.2)
  have ex:=fun fr=>ext st fr (by omega)
  cases x with
  | drop s=>
   have hs:s.length≤tot c:=by simp only [Pt.n] at kX;omega
   have ad:=uK (a:=st.2.2.1) (b:=s) (by omega)
   refine d7 (jf rfl ha rfl hb) (ai (aM (by repeat array_get_dec) (fun _=>?_) fun h=>absurd h (by decide)))
   refine ai (br (by repeat array_get_dec) rfl rfl (az (az ?_)))
   rw [fE];exact ⟨gi,_,_,.val,.val,rfl⟩
  | put s=>
   have hs:s.length≤tot c:=by simp only [Pt.n] at kX;omega
   have ad:=uK (a:=st.2.2.2) (b:=s) (by omega)
   refine d7 (jf rfl ha rfl hb) (ai (aM (by repeat array_get_dec) (fun h=>absurd h (by decide)) fun _=>?_))
   refine ai (aM (by repeat array_get_dec) (fun _=>?_) fun h=>absurd h (by decide))
   refine ai (br (by repeat array_get_dec) rfl rfl (az (az (az ?_))))
   rw [fE];exact ⟨gi,_,_,.val,.val,rfl⟩
  | keep k=>
   refine d7 (jf rfl ha rfl hb) (ai (aM (by repeat array_get_dec) (fun h=>absurd h (by decide)) fun _=>?_))
   refine ai (aM (by repeat array_get_dec) (fun h=>absurd h (by decide)) fun _=>?_)
   refine ai (aM (by repeat array_get_dec) (fun h=>?_) fun h=>?_)
   ·have hk:0<k:=by have:=of_decide_eq_true h;omega
    by_cases hg:st.2.2.1=[]∧st.2.2.2=[]
    ·have n1:cop .ne (.str st.2.2.1) (.str [])=some false:=by rw [ig,hg.1];rfl
     have n2:cop .ne (.str st.2.2.2) (.str [])=some false:=by rw [ig,hg.2];rfl
     refine ai (aM (b:=false) (dZ (aD rfl (by repeat array_get_dec) rfl) (aD rfl (by repeat array_get_dec) rfl)) (fun h=>absurd h (by decide)) fun _=>az ?_)
     refine ai (br (by repeat array_get_dec) rfl rfl (az (az (az (az ?_)))))
     rw [fE]
     refine ⟨gi,some (.val (.str dQ)),some (.val (.int k)),.val,.val,?_⟩
     simp only [bJ,if_pos hk,if_pos hg]
     rw [hg.1,hg.2];rfl
    ·have tt:aL (run F w (n+1)) (.orr (.cmp .ne (.v 3) (.c (.str []))) (.cmp .ne (.v 4) (.c (.str [])))) [some (.val (aO c)),some (.own (st.1.map Pt.v)),some (.val (.int st.2.1)),some (.val (.str st.2.2.1)),some (.val (.str st.2.2.2)),some (.val (.str dQ)),some (.val (.int k))]=.ok true [some (.val (aO c)),some (.own (st.1.map Pt.v)),some (.val (.int st.2.1)),some (.val (.str st.2.2.1)),some (.val (.str st.2.2.2)),some (.val (.str dQ)),some (.val (.int k))]:=by
      by_cases h3:st.2.2.1=[]
      ·have h4:¬ st.2.2.2=[]:=fun z=>hg ⟨h3,z⟩
       have n1:cop .ne (.str st.2.2.1) (.str [])=some false:=by rw [ig,h3];rfl
       have n2:cop .ne (.str st.2.2.2) (.str [])=some true:=by rw [ig,decide_eq_false h4];rfl
       exact dZ (aD rfl (by repeat array_get_dec) rfl) (aD rfl (by repeat array_get_dec) rfl)
      ·have n1:cop .ne (.str st.2.2.1) (.str [])=some true:=by rw [ig,decide_eq_false h3];rfl
       exact pZ (aD rfl (by repeat array_get_dec) rfl)
     refine ai (aM tt (fun _=>?_) fun h=>absurd h (by decide))
     refine ai (fX (by (repeat (first | array_get_dec | exact rs _ | exact ex _))) ?_)
     refine ai (br (by repeat array_get_dec) rfl rfl ?_)
     refine ai (br (by repeat array_get_dec) rfl rfl ?_)
     refine ai (br (by repeat array_get_dec) rfl rfl (az ?_))
     refine ai (br (by repeat array_get_dec) rfl rfl (az (az (az (az ?_)))))
     rw [fE]
     refine ⟨gi,some (.val (.str dQ)),some (.val (.int k)),.val,.val,?_⟩
     simp only [bJ,if_pos hk,if_neg hg]
     rw [Int.zero_add];rfl
   ·have hk:¬ 0<k:=by have:=of_decide_eq_false h;omega
    refine az (az (az (az ?_)))
    rw [fE]
    refine ⟨gi,some (.val (.str dQ)),some (.val (.int k)),.val,.val,?_⟩
    simp only [bJ,if_neg hk];rfl
 ·subst hfr
  simp at hpl
  subst hpl
  obtain ⟨b1,b2,b3⟩:=uR p fh
  have e:ay p=cU (p.foldl bJ fh):=rfl
  rw [e]
  generalize p.foldl bJ fh=st at *
  simp [fh] at b1 b2 b3
  have sl:=j5 st.2.1 st.2.2.1 st.2.2.2
  have rs:=fun fr=>eB (fr:=fr) (nY (w:=w) (n:=n) hs st.2.1 st.2.2.1 st.2.2.2)
  have ex:=fun fr=>ext st fr (by omega)
  have mk:toT (.lst ((cU st).map Pt.v))=some (aO (cU st)):=by rw [qS];exact iR (bS (by simp [cU];omega))
  refine ai (fX (by (repeat (first | array_get_dec | exact rs _ | exact ex _))) ?_)
  exact ai (bW (pY (aB rfl) mk) ⟨rfl,rfl⟩)
end Pv
namespace Pv
open Ev (D bZ bP TY BI ME T E Es Eo It S Ss Fn big deep b2i rep cz dM bL aR cut cJ d8 slots)
noncomputable def lv (o:Option Sl) (l:List V):Prop:=o=some (.own l)∨o=some (.val (.lst l))
section
variable {o:Option Sl}{l:List V}{fr:Fr}{i:Nat}{s:Sl}
theorem lv.own:lv (some (.own l)) l:=.inl rfl
theorem lv.val:lv (some (.val (.lst l))) l:=.inr rfl
theorem Oc (h:lv o l):Bb true (some o)=some (.lst l):=by rcases h with rfl | rfl <;> simp
theorem Od (h:lv o l):xE fr i s (some o)=some (fr.set i (some s)):=by rcases h with rfl | rfl <;> simp
theorem xG (h:lv o l):o.map Sl.dj=some (.val (.lst l)):=by rcases h with rfl | rfl <;> simp
end
theorem qU {P:aP}{fr:Fr}{i:Nat}{k:Bool}{o:Option Sl}{l:List V}(hk:k=true) (e:fr[i]?=some o) (h:lv o l):ev P k (.v i) fr=.ok (.lst l) fr:=by
 subst hk
 exact aB (by rw [JN,e,Oc h])
theorem qd {fr:Fr}{i:Nat}{s:Sl}{o:Option Sl}{l:List V}(e:fr[i]?=some o) (h:lv o l):put fr i s=some (fr.set i (some s)):=by rw [Bc,e,Od h]
inductive Tq where
 | at (i:Nat) | sg (c:Nat)
deriving DecidableEq
noncomputable def Tq.v:Tq→V
 | .at i=>.int i
 | .sg c=>.str [c]
noncomputable def Pt.asks:Pt→List (List Nat)
 | .keep n=>List.replicate n []
 | .drop s=>s.map fun c=>[c]
 | .put _=>[]
noncomputable def asks (c:List Pt):List (List Nat):=c.flatMap Pt.asks
noncomputable def Pt.told (k:Nat):Pt→List Tq
 | .keep n=>(List.range n).map fun j=>.at (k+j)
 | .drop _=>[]
 | .put s=>s.map .sg
noncomputable def told (k:Nat):List Pt→List Tq
 | []=>[]
 | p :: c=>p.told k++told (k+p.asks.length) c
theorem eO (a b:List Pt):asks (a++b)=asks a++asks b:=by simp [asks]
theorem gj (a b:List Pt):∀ k,told k (a++b)=told k a++told (k+(asks a).length) b:=by
 induction a with
 | nil=>intro k;simp [told,asks]
 | cons p a ih=>
  intro k
  simp only [List.cons_append,told,ih,List.append_assoc]
  congr 3
  simp [asks];omega
theorem DR (p:Pt):p.asks.length≤p.n:=by cases p <;> simp [Pt.asks,Pt.n]
theorem DS (k:Nat) (p:Pt):(p.told k).length≤p.n:=by cases p <;> simp [Pt.told,Pt.n]
theorem J1 (c:List Pt):(asks c).length≤tot c:=by
 induction c with
 | nil=>simp [asks]
 | cons p c ih=>have:=DR p;simp only [asks,List.flatMap_cons,List.length_append,aQ] at *;omega
theorem J2 (c:List Pt):∀ k,(told k c).length≤tot c:=by
 induction c with
 | nil=>intro k;simp [told]
 | cons p c ih=>intro k;have:=DS k p;have:=ih (k+p.asks.length);simp only [told,List.length_append,aQ];omega
noncomputable def cR (c:List Pt):List V:=(asks c).map V.str
noncomputable def eG (c:List Pt):List V:=(told 0 c).map Tq.v
noncomputable def jj (c:List Pt):List (List Nat)×List Tq:=(asks c,told 0 c)
noncomputable def Oe (c:List Pt):V:=.tup [.lst (cR c),.lst (eG c)]
theorem Sw {i j:Int}{n:Nat}(h0:0≤i) (h1:i≤50000) (h2:n≤50000) (e:j=i+n):dO [.int i,.int j]=some (range i n):=by
 rw [Xr (by omega) (by omega) (by omega) (by omega)]
 congr 2
 omega
theorem J3 {α:Type}(n:Nat) (a:α):rep n [a]=List.replicate n a:=by
 induction n with
 | zero=>rfl
 | succ n ih=>simp only [rep,List.replicate_succ,List.flatten_cons] at ih ⊢;rw [ih];rfl
theorem r8 {F:List Fn}{w n i:Nat}(hs:F[i]?=some JZ) (c:List Pt) (h1:tot c≤1000):run F w (n+1) i [.val (aO c)]=some (Oe c,[]):=by
 refine cC hs rfl ?_
 refine ai (gg (l:=[]) (by repeat array_get_dec) rfl rfl ?_)
 refine ai (gg (l:=[]) (by repeat array_get_dec) rfl rfl ?_)
 refine ai (nu (vs:=c.map Pt.v) (fJ (gr rfl) rfl) ?_)
 refine gO (e:=Pt.v) (fun p l fr=>p++l=c∧∃ o1 o2 a b,lv o1 (cR p)∧lv o2 (eG p)∧vo a∧vo b∧fr=[some (.val (aO c)),o1,o2,a,b]) (fun p x l fr ⟨hpl,o1,o2,a,b,qe,h2',ha,hb,hfr⟩=>?_) (fun p fr ⟨hpl,o1,o2,a,b,qe,h2',ha,hb,hfr⟩=>?_) c [] _ ⟨rfl,_,_,none,none,.own,.own,.none,.none,rfl⟩
 ·subst hfr
  have gi:(p++[x])++l=c:=by simpa using hpl
  have kX:tot p+x.n+tot l=tot c:=by rw [←hpl,dw,aQ];omega
  have lA:(cR p).length≤tot p:=by rw [cR,List.length_map];exact J1 p
  have lT:(eG p).length≤tot p:=by rw [eG,List.length_map];exact J2 p 0
  have hA:cR (p++[x])=cR p++x.asks.map V.str:=by simp [cR,asks]
  have hT:eG (p++[x])=eG p++(x.told (cR p).length).map Tq.v:=by simp [eG,gj,told,cR]
  cases x with
  | drop s=>
   have hs:s.length≤1000:=by simp only [Pt.n] at kX;omega
   have ad:=kU (x:=cR p) (y:=s.map fun c=>V.str [c]) (by simp;omega)
   have hd:cR (p++[.drop s])=cR p++s.map fun c=>V.str [c]:=by rw [hA];simp [Pt.asks]
   have ht:eG (p++[.drop s])=eG p:=by rw [hT];simp [Pt.told]
   have mk:=cS (x:=s.map fun c=>V.str [c]) (bS (by simp;omega))
   refine d7 (jf rfl ha rfl hb) (ai (aM (by repeat array_get_dec) (fun h=>absurd h (by decide)) fun _=>?_))
   refine ai (aM (by repeat array_get_dec) (fun _=>?_) fun h=>absurd h (by decide))
   refine ai (br (b5 (qU rfl rfl qe) (jQ (fJ (gr rfl) rfl) mk) ad) rfl (qd rfl qe) (az (az (az ?_))))
   rw [fE,hd,ht]
   exact ⟨gi,_,o2,_,_,.val,h2',.val,.val,rfl⟩
  | put s=>
   have hs:s.length≤1000:=by simp only [Pt.n] at kX;omega
   have ad:=kU (x:=eG p) (y:=s.map fun c=>V.str [c]) (by simp;omega)
   have hd:eG (p++[.put s])=eG p++s.map fun c=>V.str [c]:=by rw [hT];simp [Pt.told,Tq.v]
   have ht:cR (p++[.put s])=cR p:=by rw [hA];simp [Pt.asks]
   have mk:=cS (x:=s.map fun c=>V.str [c]) (bS (by simp;omega))
   refine d7 (jf rfl ha rfl hb) (ai (aM (by repeat array_get_dec) (fun h=>absurd h (by decide)) fun _=>?_))
   refine ai (aM (by repeat array_get_dec) (fun h=>absurd h (by decide)) fun _=>?_)
   refine ai (br (b5 (qU rfl rfl h2') (jQ (fJ (gr rfl) rfl) mk) ad) rfl (qd rfl h2') (az (az (az ?_))))
   rw [fE,hd,ht]
   exact ⟨gi,o1,_,_,_,qe,.val,.val,.val,rfl⟩
  | keep k=>
   have hs:k≤1000:=by simp only [Pt.n] at kX;omega
   have rg:=Sw (i:=((cR p).length:Int)) (j:=((cR p).length:Int)+k) (n:=k) (by omega) (by omega) (by omega) rfl
   have mk:=cS (x:=range ((cR p).length:Int) k) (bS (by simp [range];omega))
   have ad:=kU (x:=eG p) (y:=range ((cR p).length:Int) k) (by simp [range];omega)
   have ml:=Ds (x:=[V.str []]) (j:=(k:Int)) (by omega) (by omega) (by simp) (by simp [rep];omega)
   have Z7:=kU (x:=cR p) (y:=rep (k:Int).toNat [V.str []]) (by simp [rep];omega)
   have hd:eG (p++[.keep k])=eG p++range ((cR p).length:Int) k:=by rw [hT];simp [Pt.told,Tq.v,range]
   have ht:cR (p++[.keep k])=cR p++rep (k:Int).toNat [V.str []]:=by rw [hA,J3];simp [Pt.asks]
   refine d7 (jf rfl ha rfl hb) (ai (aM (by repeat array_get_dec) (fun _=>?_) fun h=>absurd h (by decide)))
   have le:cX .len [.lst (cR p)]=some (.int ((cR p).length:Nat)):=jn
   refine ai (br (b5 (qU rfl rfl h2') (jQ (uP (vs:=[.int ((cR p).length:Nat),.int (((cR p).length:Nat)+(k:Int))]) (aS (fP (aS (qU rfl rfl qe) bg) le) (aS (b5 (fP (aS (qU rfl rfl qe) bg) le) (aB rfl) gb) bg)) rg) mk) ad) rfl (qd rfl h2') ?_)
   refine ai (br (b5 (qU rfl rfl qe) (b5 (pX (aS (bE rfl) bg) Gd) (aB rfl) ml) Z7) rfl (qd rfl qe) (az (az ?_)))
   rw [fE,hd,ht]
   exact ⟨gi,_,_,_,_,.val,.val,.val,.val,rfl⟩
 ·subst hfr
  simp at hpl
  subst hpl
  have sh:gq [some (.val (aO p)),o1,o2,a,b]=[some (.val (aO p)),some (.val (.lst (cR p))),some (.val (.lst (eG p))),a,b]:=by
   show _ :: o1.map Sl.dj :: o2.map Sl.dj :: a.map Sl.dj :: [b.map Sl.dj]=_
   rw [xG qe,xG h2',cO ha,cO hb];rfl
  refine ai (bW (v:=Oe p) (af:=[some (.val (aO p)),some (.val (.lst (cR p))),some (.val (.lst (eG p))),a,b]) ?_ ⟨rfl,rfl⟩)
  rw [sh]
  exact je (aS (aB rfl) (aS (aB rfl) bg)) nc
noncomputable def Pt.word:Pt→List Nat
 | .keep _=>dQ
 | .put _=>kW
 | .drop _=>jg
noncomputable def jS (a b:List Nat):Bool:=!(decide (a=b) || (decide (a=kW)&&decide (b=jg)))
noncomputable def j6:List (List Nat)→Bool
 | a :: b :: r=>jS a b&&j6 (b :: r)
 | _=>true
noncomputable def Of (p:Pt):Bool:=p.n != 0
noncomputable def iz (c:List Pt):Bool:=j6 (c.map Pt.word)&&c.all Of
theorem fj (k:Nat) (g x:List Nat):asks (b6 k g x)=List.replicate k []++g.map fun c=>[c]:=by
  unfold b6
  by_cases hk:0<k <;> by_cases hg:g=[] <;> by_cases hx:x=[] <;> simp [hk,hg,hx,asks,Pt.asks]
  all_goals (have:k=0:=by omega
             subst this;simp)
theorem ir (k:Nat) (g x:List Nat) (j:Nat):told j (b6 k g x)=(List.range k).map (fun i=>Tq.at (j+i))++x.map Tq.sg:=by
  unfold b6
  by_cases hk:0<k <;> by_cases hg:g=[] <;> by_cases hx:x=[] <;> simp [hk,hg,hx,told,Pt.told,Pt.asks]
  all_goals (have:k=0:=by omega
             subst this;simp)
theorem y9 (st:FS) (p:Pt):asks (cU (bJ st p))=asks (cU st++[p])∧∀ j,told j (cU (bJ st p))=told j (cU st++[p]):=by
 obtain ⟨ps,k,g,x⟩:=st
 have e1:∀ a:List Pt,asks (a++[p])=asks a++p.asks:=fun a=>by simp [asks]
 have e2:∀ (a:List Pt) j,told j (a++[p])=told j a++p.told (j+(asks a).length):=fun a j=>by simp [gj,told]
 rw [e1]
 cases p with
 | drop s=>
  refine ⟨by simp [bJ,cU,eO,fj,Pt.asks],fun j=>?_⟩
  rw [e2]
  simp [bJ,cU,gj,ir,Pt.told]
 | put s=>
  refine ⟨by simp [bJ,cU,eO,fj,Pt.asks],fun j=>?_⟩
  rw [e2]
  simp [bJ,cU,gj,ir,Pt.told]
 | keep m=>
  simp only [bJ]
  split
  ·split
   ·rename_i h
    obtain ⟨rfl,rfl⟩:=h
    refine ⟨by simp [cU,eO,fj,Pt.asks],fun j=>?_⟩
    rw [e2]
    simp [cU,eO,gj,ir,fj,Pt.told,List.range_add,Nat.add_assoc]
   ·refine ⟨by simp [cU,eO,fj,Pt.asks],fun j=>?_⟩
    rw [e2]
    simp [cU,eO,gj,ir,fj,Pt.told,Nat.add_assoc]
  ·rename_i h
   have:m=0:=by omega
   subst this
   refine ⟨by simp [Pt.asks],fun j=>?_⟩
   rw [e2]
   simp [Pt.told]
theorem qf (c:List Pt):∀ st:FS,asks (cU (c.foldl bJ st))=asks (cU st++c)∧∀ j,told j (cU (c.foldl bJ st))=told j (cU st++c):=by
 induction c with
 | nil=>intro st;simp
 | cons p c ih=>
  intro st
  obtain ⟨h1,h2⟩:=ih (bJ st p)
  obtain ⟨h3,h4⟩:=y9 st p
  simp only [List.foldl_cons]
  have e:cU st++p :: c=(cU st++[p])++c:=by simp
  refine ⟨?_,fun j=>?_⟩
  ·rw [h1,e,eO,eO _ c,h3]
  ·rw [h2 j,e,gj,gj _ c,h4 j,h3]
theorem cH (c:List Pt):asks (ay c)=asks c:=by
 have:=(qf c fh).1
 simpa [ay,fh,cU,b6] using this
theorem bX (c:List Pt) (j:Nat):told j (ay c)=told j c:=by
 have:=(qf c fh).2 j
 simpa [ay,fh,cU,b6] using this
theorem kY (c:List Pt):jj (ay c)=jj c:=by simp [jj,cH,bX]
noncomputable def kps (c:List Pt):Nat:=tot (c.filter cQ)
theorem jH (c:List Pt):(asks c).length=aZ c:=by
 induction c with
 | nil=>rfl
 | cons p c ih=>cases p <;> simp [asks,aZ,tot,cT,Pt.asks,Pt.n] at ih ⊢ <;> omega
theorem kZ (c:List Pt):∀ j,(told j c).length=eF c:=by
 induction c with
 | nil=>intro j;rfl
 | cons p c ih=>intro j;cases p <;> simp [told,eF,tot,dN,Pt.told,Pt.n,ih] at ih ⊢
theorem lg (n:Nat) (c:List Pt):aZ (.keep n :: c)=n+aZ c:=by simp [aZ,tot,cT,Pt.n]
theorem nE (s:List Nat) (c:List Pt):aZ (.drop s :: c)=s.length+aZ c:=by simp [aZ,tot,cT,Pt.n]
theorem ly (s:List Nat) (c:List Pt):aZ (.put s :: c)=aZ c:=by simp [aZ,tot,cT,Pt.n]
theorem za (n:Nat) (c:List Pt):eF (.keep n :: c)=n+eF c:=by simp [eF,tot,dN,Pt.n]
theorem zb (s:List Nat) (c:List Pt):eF (.drop s :: c)=eF c:=by simp [eF,tot,dN,Pt.n]
theorem zc (s:List Nat) (c:List Pt):eF (.put s :: c)=s.length+eF c:=by simp [eF,tot,dN,Pt.n]
theorem Gk (n:Nat) (c:List Pt):cst (.keep n :: c)=cst c:=by simp [cst,tot,cQ,Pt.n]
theorem Gm (s:List Nat) (c:List Pt):cst (.drop s :: c)=s.length+cst c:=by simp [cst,tot,cQ,Pt.n]
theorem Gn (s:List Nat) (c:List Pt):cst (.put s :: c)=s.length+cst c:=by simp [cst,tot,cQ,Pt.n]
theorem Gp (n:Nat) (c:List Pt):kps (.keep n :: c)=n+kps c:=by simp [kps,tot,List.filter_cons,cQ,Pt.n]
theorem Gq (s:List Nat) (c:List Pt):kps (.drop s :: c)=kps c:=by simp [kps,tot,cQ,Pt.n]
theorem Gr (s:List Nat) (c:List Pt):kps (.put s :: c)=kps c:=by simp [kps,tot,cQ,Pt.n]
noncomputable def isAt:Tq→Bool
 | .at _=>true
 | _=>false
theorem Bq (c:List Pt):∀ j,((told j c).filter isAt).length=kps c:=by
 induction c with
 | nil=>intro j;rfl
 | cons p c ih=>
  intro j
  have e1:∀ (m:Nat) (f:Nat→Nat),(((List.range m).map fun i=>Tq.at (f i)).filter isAt).length=m:=fun m f=>by
   rw [List.filter_eq_self.mpr]
   ·simp
   ·intro a ha;obtain ⟨i,_,rfl⟩:=List.mem_map.mp ha;rfl
  have e2:∀ s:List Nat,((s.map Tq.sg).filter isAt).length=0:=fun s=>by
   rw [List.filter_eq_nil_iff.mpr]
   ·rfl
   ·intro a ha;obtain ⟨i,_,rfl⟩:=List.mem_map.mp ha;simp [isAt]
  cases p with
  | keep m=>simp only [told,Pt.told,List.filter_append,List.length_append,e1,ih,kps,tot,cQ,List.filter_cons,if_true,List.map_cons,List.sum_cons,Pt.n]
  | put s=>simp only [told,Pt.told,List.filter_append,List.length_append,e2,ih,kps,cQ,List.filter_cons];simp
  | drop s=>simp only [told,Pt.told,List.filter_append,List.length_append,ih,kps,cQ,List.filter_cons];simp
theorem Br (c:List Pt):(cst c:Int)=aZ c - kps c+eF c - kps c:=by
 induction c with
 | nil=>rfl
 | cons p c ih=>cases p <;> simp only [Gk,Gm,Gn,lg,nE,ly,za,zb,zc,Gp,Gq,Gr] <;> omega
theorem Bs (c:List Pt):tot c+kps c=aZ c+eF c:=by
 induction c with
 | nil=>rfl
 | cons p c ih=>cases p <;> simp only [aQ,Pt.n,lg,nE,ly,za,zb,zc,Gp,Gq,Gr] <;> omega
theorem lD (c:List Pt):aZ (ay c)=aZ c:=by rw [←jH,←jH,cH]
theorem oV (c:List Pt):eF (ay c)=eF c:=by rw [←kZ _ 0,←kZ _ 0,bX]
theorem uS (c:List Pt):kps (ay c)=kps c:=by rw [←Bq _ 0,←Bq _ 0,bX]
theorem jI (c:List Pt):cst (ay c)=cst c:=by
 have h1:=Br (ay c)
 have h2:=Br c
 rw [lD,oV,uS] at h1
 omega
theorem cV (c:List Pt):tot (ay c)=tot c:=by
 have h1:=Bs (ay c)
 have h2:=Bs c
 rw [lD,oV,uS] at h1
 omega
theorem qV:∀ (a:List (List Nat)) (b:List (List Nat)),j6 (a++b)=true↔j6 a=true∧j6 b=true∧∀ x∈a.getLast?,∀ y∈b.head?,jS x y=true
 | [],b=>by simp [j6]
 | [x],[]=>by simp [j6]
 | [x],y :: b=>by simp [j6,and_comm]
 | x :: y :: a,b=>by
  have:=qV (y :: a) b
  simp only [List.cons_append] at this ⊢
  simp only [j6,Bool.and_eq_true,this,List.getLast?_cons_cons]
  constructor
  ·rintro ⟨h1,h2,h3,h4⟩;exact ⟨⟨h1,h2⟩,h3,h4⟩
  ·rintro ⟨⟨h1,h2⟩,h3,h4⟩;exact ⟨h1,h2,h3,h4⟩
theorem vS (k:Nat) (g x:List Nat):iz (b6 k g x)=true:=by
 unfold b6
 by_cases hk:0<k <;> by_cases hg:g=[] <;> by_cases hx:x=[] <;> simp [hk,hg,hx,iz,Of,j6,jS,Pt.word,Pt.n,dQ,kW,jg]
 all_goals omega
noncomputable def uT (st:FS):Prop:=iz st.1=true∧(st.1≠[]→0<st.2.1)∧∀ p∈st.1.getLast?,p.word≠dQ
theorem J4 {a b:List Pt}(ha:iz a=true) (hb:iz b=true) (h:∀ p∈a.getLast?,∀ q∈b.head?,jS p.word q.word=true):iz (a++b)=true:=by
 simp only [iz,Bool.and_eq_true] at ha hb ⊢
 refine ⟨?_,by rw [List.all_append,ha.2,hb.2];rfl⟩
 rw [List.map_append,qV]
 refine ⟨ha.1,hb.1,fun x hx y hy=>?_⟩
 simp at hx hy
 obtain ⟨p,hp,rfl⟩:=hx
 obtain ⟨q,hq,rfl⟩:=hy
 exact h p hp q hq
theorem uU {k:Nat}{g x:List Nat}(hk:0<k):(b6 k g x).head?=some (.keep k):=by simp [b6,hk]
theorem J5 {w:List Nat}(h:w≠dQ) (hw:w=kW∨w=jg):jS w dQ=true:=by
 rcases hw with rfl | rfl <;> decide
theorem J6 (p:Pt):p.word=dQ∨p.word=kW∨p.word=jg:=by cases p <;> simp [Pt.word]
theorem uV {st:FS}(h:uT st):iz (cU st)=true:=by
 refine J4 h.1 (vS _ _ _) fun p hp q hq=>?_
 have hne:st.1≠[]:=by intro z;rw [z] at hp;simp at hp
 rw [uU (h.2.1 hne)] at hq
 simp at hq;subst hq
 have hw:=h.2.2 p hp
 exact J5 hw ((J6 p).resolve_left hw)
theorem uW {k:Nat}{g x:List Nat}(h:¬ (g=[]∧x=[])):∀ p∈(b6 k g x).getLast?,p.word≠dQ:=by
 unfold b6
 by_cases hx:x=[]
 ·have hg:g≠[]:=fun z=>h ⟨z,hx⟩
  intro p hp
  simp [hg,hx] at hp
  subst hp
  simp [Pt.word,jg,dQ]
 ·intro p hp
  simp [hx] at hp
  subst hp
  simp [Pt.word,kW,dQ]
theorem Bt {st:FS}(h:uT st) (p:Pt):uT (bJ st p):=by
 cases p with
 | drop s=>exact h
 | put s=>exact h
 | keep k=>
  simp only [bJ]
  split
  ·rename_i hk
   split
   ·exact ⟨h.1,fun z=>by simp;omega,h.2.2⟩
   ·rename_i UQ
    refine ⟨uV h,fun _=>hk,fun p hp=>?_⟩
    rw [List.getLast?_append] at hp
    cases z:(b6 st.2.1 st.2.2.1 st.2.2.2).getLast? with
    | none=>
     exfalso
     rw [List.getLast?_eq_none_iff] at z
     unfold b6 at z
     by_cases hx:st.2.2.2=[] <;> by_cases hg:st.2.2.1=[] <;> simp [hx,hg] at z UQ
    | some q=>
     rw [z] at hp
     simp at hp
     subst hp
     exact uW UQ q z
  ·exact h
theorem cW (c:List Pt):iz (ay c)=true:=by
 have:∀ (c:List Pt) (st:FS),uT st→uT (c.foldl bJ st):=fun c=>by
  induction c with
  | nil=>exact fun st h=>h
  | cons p c ih=>exact fun st h=>ih _ (Bt h p)
 exact uV (this c fh ⟨rfl,fun z=>absurd rfl z,fun p hp=>by simp [fh] at hp⟩)
end Pv
namespace Pv
open Ev (D bZ bP TY BI ME T E Es Eo It S Ss Fn big deep b2i rep cz dM bL aR cut cJ d8 slots)
abbrev Bl:=List Nat×List Nat
abbrev BS:=List Bl×Bl
noncomputable def d9 (st:BS):Pt→BS
 | .drop s=>(st.1,(st.2.1++s,st.2.2))
 | .put s=>(st.1,(st.2.1,st.2.2++s))
 | .keep 0=>st
 | .keep (n+1)=>(st.1++st.2 :: List.replicate n ([],[]),([],[]))
noncomputable def nZ:BS:=([],([],[]))
noncomputable def blocks (c:List Pt):BS:=c.foldl d9 nZ
noncomputable def kC (st:List Pt×Nat) (b:Bl):List Pt×Nat:=if b.1=[]∧b.2=[] then (st.1,st.2+1) else (st.1++b6 st.2 b.1 b.2,1)
noncomputable def pk (bs:List Bl):List Pt×Nat:=bs.foldl kC ([],0)
theorem DT (n:Nat):∀ st:List Pt×Nat,(List.replicate n (([],[]):Bl)).foldl kC st=(st.1,st.2+n):=by
 induction n with
 | zero=>intro st;simp
 | succ n ih=>intro st;simp [List.replicate_succ,kC,ih];omega
noncomputable def xH (st:BS):FS:=((pk st.1).1,(pk st.1).2,st.2.1,st.2.2)
theorem DU (st:BS) (p:Pt):bJ (xH st) p=xH (d9 st p):=by
 obtain ⟨bs,g,x⟩:=st
 cases p with
 | drop s=>rfl
 | put s=>rfl
 | keep n=>
  cases n with
  | zero=>rfl
  | succ n=>
   have e:pk (bs++(g,x) :: List.replicate n ([],[]))=((kC (pk bs) (g,x)).1,(kC (pk bs) (g,x)).2+n):=by
    simp only [pk,List.foldl_append,List.foldl_cons,DT]
   simp only [xH,d9,e,bJ,Nat.succ_pos,if_true,kC]
   by_cases h:g=[]∧x=[]
   ·simp [h];omega
   ·simp [h];omega
theorem DV (c:List Pt):∀ st:BS,c.foldl bJ (xH st)=xH (c.foldl d9 st):=by
 induction c with
 | nil=>intro st;rfl
 | cons p c ih=>intro st;simp only [List.foldl_cons,DU,ih]
theorem iM (c:List Pt):ay c=cU (xH (blocks c)):=by
 unfold ay blocks
 rw [←DV];rfl
noncomputable def Bu (st:List (List Nat)×List Nat):List Nat→List (List Nat)×List Nat
 | []=>(st.1++[st.2],[])
 | c :: _=>(st.1,st.2++[c])
noncomputable def spT (st:List (List Nat)×List Nat):Tq→List (List Nat)×List Nat
 | .at _=>(st.1++[st.2],[])
 | .sg c=>(st.1,st.2++[c])
theorem Bv (s:List Nat):∀ st,(s.map fun c=>[c]).foldl Bu st=(st.1,st.2++s):=by
 induction s with
 | nil=>intro st;simp
 | cons c s ih=>intro st;simp [Bu,ih]
theorem DW (n:Nat):∀ st,(List.replicate n []).foldl Bu st=if n=0 then st else (st.1++st.2 :: List.replicate (n - 1) [],[]):=by
 induction n with
 | zero=>intro st;rfl
 | succ n ih=>
  intro st
  simp only [List.replicate_succ,List.foldl_cons,Bu,ih]
  cases n with
  | zero=>simp
  | succ n=>simp [List.replicate_succ]
theorem Bw (s:List Nat):∀ st,(s.map Tq.sg).foldl spT st=(st.1,st.2++s):=by
 induction s with
 | nil=>intro st;simp
 | cons c s ih=>intro st;simp [spT,ih]
theorem DX (n:Nat):∀ (k:Nat) st,((List.range n).map fun j=>Tq.at (k+j)).foldl spT st=if n=0 then st else (st.1++st.2 :: List.replicate (n - 1) [],[]):=by
 induction n with
 | zero=>intro k st;rfl
 | succ n ih=>
  intro k st
  rw [List.range_succ,List.map_append,List.foldl_append,ih]
  cases n with
  | zero=>simp [spT]
  | succ n=>
   simp [spT]
   rw [←List.replicate_succ',List.replicate_succ]
theorem qg (c:List Pt):∀ st:BS,(asks c).foldl Bu (st.1.map Prod.fst,st.2.1)=((c.foldl d9 st).1.map Prod.fst,(c.foldl d9 st).2.1):=by
 induction c with
 | nil=>intro st;rfl
 | cons p c ih=>
  intro st
  have e:asks (p :: c)=p.asks++asks c:=by simp [asks]
  rw [e,List.foldl_append,List.foldl_cons,←ih]
  congr 1
  cases p with
  | drop s=>simp [Pt.asks,Bv,d9]
  | put s=>simp [Pt.asks,d9]
  | keep n=>
   simp only [Pt.asks,DW]
   cases n with
   | zero=>rfl
   | succ n=>simp [d9]
theorem qh (c:List Pt):∀ (k:Nat) (st:BS),(told k c).foldl spT (st.1.map Prod.snd,st.2.2)=((c.foldl d9 st).1.map Prod.snd,(c.foldl d9 st).2.2):=by
 induction c with
 | nil=>intro k st;rfl
 | cons p c ih=>
  intro k st
  rw [told,List.foldl_append,List.foldl_cons,←ih (k+p.asks.length)]
  congr 1
  cases p with
  | put s=>simp [Pt.told,Bw,d9]
  | drop s=>simp [Pt.told,d9]
  | keep n=>
   simp only [Pt.told,DX]
   cases n with
   | zero=>rfl
   | succ n=>simp [d9]
theorem xJ {α β:Type}:∀ {a b:List (α×β)},a.map Prod.fst=b.map Prod.fst→a.map Prod.snd=b.map Prod.snd→a=b
 | [],[],_,_=>rfl
 | [],_ :: _,h,_=>by simp at h
 | _ :: _,[],h,_=>by simp at h
 | (x,y) :: a,(x',y') :: b,h1,h2=>by
  simp at h1 h2
  rw [h1.1,h2.1,xJ h1.2 h2.2]
theorem mU {a b:List Pt}(h:jj a=jj b):blocks a=blocks b:=by
 have hA:asks a=asks b:=congrArg Prod.fst h
 have hT:told 0 a=told 0 b:=congrArg Prod.snd h
 have a1:=qg a nZ
 have b1:=qg b nZ
 have a2:=qh a 0 nZ
 have b2:=qh b 0 nZ
 rw [hA,b1] at a1
 rw [hT,b2] at a2
 have e1:=congrArg Prod.fst a1
 have e2:=congrArg Prod.snd a1
 have e3:=congrArg Prod.fst a2
 have e4:=congrArg Prod.snd a2
 unfold blocks
 exact Prod.ext (xJ e1.symm e3.symm) (Prod.ext e2.symm e4.symm)
theorem lE (a b:List Pt):ay a=ay b↔jj a=jj b:=by
 constructor
 ·intro h
  rw [←kY a,←kY b,h]
 ·intro h
  rw [iM,iM,mU h]
theorem gk (a:List Pt):ay (ay a)=ay a:=(lE _ _).mpr (kY a)
noncomputable def Pt.sw:Pt→Pt
 | .keep n=>.keep n
 | .put s=>.drop s
 | .drop s=>.put s
noncomputable def sw (c:List Pt):List Pt:=c.map Pt.sw
theorem sd (c:List Pt):∀ st:BS,(sw c).foldl d9 (st.1.map Prod.swap,st.2.swap)=((c.foldl d9 st).1.map Prod.swap,(c.foldl d9 st).2.swap):=by
 induction c with
 | nil=>intro st;rfl
 | cons p c ih=>
  intro st
  simp only [sw,List.map_cons,List.foldl_cons] at ih ⊢
  rw [←ih]
  congr 1
  cases p with
  | put s=>rfl
  | drop s=>rfl
  | keep n=>cases n <;> simp [Pt.sw,d9]
theorem J7 {a b:List Pt}(h:ay a=ay b):ay (sw a)=ay (sw b):=by
 have hb:=mU ((lE a b).mp h)
 rw [iM,iM]
 have a1:=sd a nZ
 have b1:=sd b nZ
 have e:blocks (sw a)=blocks (sw b):=by
  unfold blocks at hb ⊢
  have z:((nZ.1.map Prod.swap,nZ.2.swap):BS)=nZ:=rfl
  rw [z] at a1 b1
  rw [a1,b1,hb]
 rw [e]
noncomputable def jJ (c:List Pt):List Pt:=ay (sw c)
theorem Og (c:List Pt):aZ (sw c)=eF c:=by
 induction c with
 | nil=>rfl
 | cons p c ih=>cases p <;> simp only [sw,List.map_cons,Pt.sw,lg,nE,ly,za,zb,zc] at ih ⊢ <;> omega
noncomputable def aT:List Pt→List Nat→Bool
 | [],t=>t.isEmpty
 | .keep n :: c,t=>decide (n≤t.length)&&aT c (t.drop n)
 | .drop s :: c,t=>s.isPrefixOf t&&aT c (t.drop s.length)
 | .put _ :: c,t=>aT c t
noncomputable def aV:List Pt→List Nat→List Nat
 | [],_=>[]
 | .keep n :: c,t=>t.take n++aV c (t.drop n)
 | .drop s :: c,t=>aV c (t.drop s.length)
 | .put s :: c,t=>s++aV c t
noncomputable def aE:List (List Nat)→List Nat→Bool
 | [],[]=>true
 | x :: a,c :: t=>(decide (x=[]) || decide (x=[c]))&&aE a t
 | _,_=>false
theorem Bx (n:Nat) (a:List (List Nat)):∀ t,aE (List.replicate n []++a) t=(decide (n≤t.length)&&aE a (t.drop n)):=by
 induction n with
 | zero=>intro t;simp
 | succ n ih=>
  intro t
  cases t with
  | nil=>simp [List.replicate_succ,aE]
  | cons c t=>simp [List.replicate_succ,aE,ih]
theorem By (s:List Nat) (a:List (List Nat)):∀ t,aE ((s.map fun c=>[c])++a) t=(s.isPrefixOf t&&aE a (t.drop s.length)):=by
 induction s with
 | nil=>intro t;simp
 | cons c s ih=>
  intro t
  cases t with
  | nil=>simp [aE]
  | cons d t=>
   simp only [List.map_cons,List.cons_append,aE,ih,List.isPrefixOf,List.length_cons,List.drop_succ_cons]
   by_cases h:c=d <;> simp [h]
theorem eK (c:List Pt):∀ t,aT c t=aE (asks c) t:=by
 induction c with
 | nil=>intro t;cases t <;> rfl
 | cons p c ih=>
  intro t
  have e:asks (p :: c)=p.asks++asks c:=by simp [asks]
  rw [e]
  cases p with
  | keep n=>simp [aT,Pt.asks,Bx,ih]
  | drop s=>simp [aT,Pt.asks,By,ih]
  | put s=>simp [aT,Pt.asks,ih]
theorem iF (c:List Pt) (t:List Nat):aT (ay c) t=aT c t:=by rw [eK,eK,cH]
noncomputable def pick (t:List Nat):Tq→List Nat
 | .at i=>(t[i]?).toList
 | .sg c=>[c]
theorem BA (c:List Pt):∀ (t:List Nat) (k:Nat),aV c (t.drop k)=(told k c).flatMap (pick t):=by
 induction c with
 | nil=>intro t k;rfl
 | cons p c ih=>
  intro t k
  rw [told,List.flatMap_append,←ih]
  cases p with
  | put s=>
   simp only [aV,Pt.told,Pt.asks,List.length_nil,Nat.add_zero]
   congr 1
   induction s with
   | nil=>rfl
   | cons c s ih=>simp [pick] at ih ⊢;exact ih
  | drop s=>simp [aV,Pt.told,Pt.asks,Nat.add_comm]
  | keep n=>
   simp only [aV,Pt.told,Pt.asks,List.length_replicate,List.drop_drop]
   congr 1
   induction n generalizing k with
   | zero=>simp
   | succ n ihn=>
    rw [List.range_succ,List.map_append,List.flatMap_append,←ihn]
    rw [List.take_add_one]
    simp [pick]
theorem gm (c:List Pt) (t:List Nat):aV (ay c) t=aV c t:=by
 have h1:=BA (ay c) t 0
 have h2:=BA c t 0
 rw [bX,←h2] at h1
 simpa using h1
theorem uX (c:List Pt):∀ t,aT c t=true→aT (sw c) (aV c t)=true∧aV (sw c) (aV c t)=t:=by
 induction c with
 | nil=>intro t h;simp [aT] at h;subst h;simp [sw,aT,aV]
 | cons p c ih=>
  intro t h
  cases p with
  | keep n=>
   simp only [aT,Bool.and_eq_true,decide_eq_true_eq] at h
   obtain ⟨h1,h2⟩:=ih _ h.2
   have hl:(t.take n).length=n:=by simp;omega
   simp only [sw,List.map_cons,Pt.sw,aV,aT] at h1 h2 ⊢
   have e1:(t.take n++aV c (t.drop n)).drop n=aV c (t.drop n):=by rw [List.drop_append_of_le_length (by omega),List.drop_eq_nil_of_le (by omega)];rfl
   have e2:(t.take n++aV c (t.drop n)).take n=t.take n:=by rw [List.take_append_of_le_length (by omega),List.take_take,Nat.min_self]
   rw [e1,e2,h1,h2]
   simp
   omega
  | drop s=>
   simp only [aT,Bool.and_eq_true] at h
   obtain ⟨h1,h2⟩:=ih _ h.2
   simp only [sw,List.map_cons,Pt.sw,aV,aT] at h1 h2 ⊢
   rw [h2]
   refine ⟨h1,?_⟩
   obtain ⟨r,rfl⟩:=List.isPrefixOf_iff_prefix.mp h.1
   simp
  | put s=>
   simp only [aT] at h
   obtain ⟨h1,h2⟩:=ih _ h
   simp only [sw,List.map_cons,Pt.sw,aV,aT] at h1 h2 ⊢
   simp [h1,h2]
end Pv
namespace Pv
open Ev (D bZ bP TY BI ME T E Es Eo It S Ss Fn big deep b2i rep cz dM bL aR cut cJ d8 slots)
noncomputable def DY:S:=.set 2 (.c (.int 0))
noncomputable def DZ (bw:Nat):Ss:=(.cons (.iff (.an (.cmp .eq (.ix (.v 3) (.c (.int 0))) (.c (.str [100,114,111,112]))) (.cmp .ne (.sl (.v 1) (.yes (.v 2)) (.yes (.bin .add (.v 2) (.cl bw (.cons (.v 3) .nil))))) (.ix (.v 3) (.c (.int 1))))) (.cons (.ret (.c (.bl false))) .nil) .nil) (.cons (.iff (.cmp .ne (.ix (.v 3) (.c (.int 0))) (.c (.str [112,117,116]))) (.cons (.set 2 (.bin .add (.v 2) (.cl bw (.cons (.v 3) .nil)))) .nil) .nil) .nil))
noncomputable def D0 (bw:Nat):S:=.for (.one 3) (.seq (.v 0)) (DZ bw)
noncomputable def D3:S:=.ret (.cmp .eq (.v 2) (.bi .len (.cons (.v 1) .nil)))
noncomputable def BB (bw:Nat):Fn:=⟨2,4,(.cons DY (.cons (D0 bw) (.cons D3 .nil)))⟩
noncomputable def D4 (uY:Nat):S:=.iff (.nt (.cl uY (.cons (.v 0) (.cons (.v 1) .nil)))) (.cons (.fk) .nil) .nil
noncomputable def D5:S:=.set 2 (.lst .nil)
noncomputable def D6:S:=.set 3 (.c (.int 0))
noncomputable def D7:Ss:=(.cons (.iff (.cmp .eq (.v 4) (.c (.str [112,117,116]))) (.cons (.exp (.me .append (.v 2) (.cons (.v 5) .nil))) .nil) (.cons (.iff (.cmp .eq (.v 4) (.c (.str [100,114,111,112]))) (.cons (.set 3 (.bin .add (.v 3) (.bi .len (.cons (.v 5) .nil)))) .nil) (.cons (.exp (.me .append (.v 2) (.cons (.sl (.v 1) (.yes (.v 3)) (.yes (.bin .add (.v 3) (.v 5)))) .nil))) (.cons (.set 3 (.bin .add (.v 3) (.v 5))) .nil))) .nil)) .nil)
noncomputable def D8:S:=.for (.many [4,5]) (.seq (.v 0)) D7
noncomputable def D9:S:=.ret (.me .join (.c (.str [])) (.cons (.v 2) .nil))
noncomputable def Oh (uY:Nat):Fn:=⟨2,6,(.cons (D4 uY) (.cons D5 (.cons D6 (.cons D8 (.cons D9 .nil)))))⟩
noncomputable def zd (bN:Nat):S:=.ret (.cl bN (.cons (.iw (.comp (.tup (.cons (.iV [(.str [107,101,101,112],.str [107,101,101,112]),(.str [112,117,116],.str [100,114,111,112]),(.str [100,114,111,112],.str [112,117,116])] (.v 1)) (.cons (.v 2) .nil))) (.many [1,2]) (.seq (.v 0)) .no)) .nil))
noncomputable def Ea (bN:Nat):Fn:=⟨1,3,(.cons (zd bN) .nil)⟩
noncomputable def vU (bN:Nat):S:=.ret (.cl bN (.cons (.tup (.cons (.tup (.cons (.c (.str [107,101,101,112])) (.cons (.v 0) .nil))) .nil)) .nil))
noncomputable def jT (bN:Nat):Fn:=⟨1,1,(.cons (vU bN) .nil)⟩
theorem BC {α:Type}(l:List α) (p k:Nat):cut l (some (p:Int)) (some ((p:Int)+k))=(l.drop p).take k:=by
 have h1:¬ (p:Int)<0:=by omega
 have h2:¬ (p:Int)+k<0:=by omega
 have h3:((p:Int)+k).toNat=p+k:=by omega
 simp only [cut,aR,h1,h2,if_false,h3,Int.toNat_natCast]
 by_cases hp:p≤l.length
 ·rw [Nat.min_eq_left hp]
  by_cases hk:p+k≤l.length
  ·rw [Nat.min_eq_left hk];congr 1;omega
  ·rw [Nat.min_eq_right (by omega),List.take_of_length_le (by simp),List.take_of_length_le (by simp;omega)]
 ·have e1:min p l.length=l.length:=by omega
  rw [e1,List.drop_eq_nil_of_le (Nat.le_refl _),List.drop_eq_nil_of_le (by omega)]
  simp
theorem pre_take {s t:List Nat}:s.isPrefixOf t=decide (t.take s.length=s):=by
 cases h:s.isPrefixOf t with
 | true=>
  obtain ⟨r,rfl⟩:=List.isPrefixOf_iff_prefix.mp h
  simp
 | false=>
  symm
  rw [decide_eq_false_iff_not]
  intro e
  have:s.isPrefixOf t=true:=List.isPrefixOf_iff_prefix.mpr (by have z:=List.take_prefix s.length t;rw [e] at z;exact z)
  rw [h] at this;cases this
theorem xK (a b:List Pt):aZ (a++b)=aZ a+aZ b:=by simp [aZ,tot]
theorem fL {c:List Pt}:∀ {t:List Nat},aT c t=true→t.length=aZ c:=by
 induction c with
 | nil=>intro t h;simp [aT] at h;subst h;rfl
 | cons p c ih=>
  intro t h
  cases p with
  | keep n=>simp only [aT,Bool.and_eq_true,decide_eq_true_eq] at h;have:=ih h.2;rw [lg];simp at this;omega
  | drop s=>
   simp only [aT,Bool.and_eq_true] at h
   have h2:=ih h.2
   obtain ⟨r,rfl⟩:=List.isPrefixOf_iff_prefix.mp h.1
   rw [nE];simp at h2 ⊢;omega
  | put s=>rw [ly];exact ih h
theorem lG (c:List Pt):∀ t,(aV c t).length≤t.length+tot c:=by
 induction c with
 | nil=>intro t;simp [aV]
 | cons p c ih=>
  intro t
  rw [aQ]
  cases p with
  | keep n=>have:=ih (t.drop n);simp [aV,Pt.n] at this ⊢;omega
  | drop s=>have:=ih (t.drop s.length);simp [aV,Pt.n] at this ⊢;omega
  | put s=>have:=ih t;simp [aV,Pt.n] at this ⊢;omega
section
variable {F:List Fn}{w n aC mV bK aY i:Nat}
theorem Eb (c:List Pt) (t:List Nat) (q:Nat) (p:Pt) (l:List Pt) (h:aT c t=(decide (q≤t.length)&&aT (p :: l) (t.drop q))) :
  (dN p=true→(∃ s,p=.drop s∧(if (t.drop q).take s.length=s then aT c t=(decide (q+s.length≤t.length)&&aT l (t.drop (q+s.length))) else aT c t=false)))∧
  (dN p=false→aT c t=(decide (q+aZ [p]≤t.length)&&aT l (t.drop (q+aZ [p])))):=by
 cases p with
 | drop s=>
  refine ⟨fun _=>⟨s,rfl,?_⟩,fun z=>by simp [dN] at z⟩
  simp only [aT,pre_take,List.drop_drop] at h
  split
  ·rename_i hs
   rw [h]
   simp only [hs,decide_true,Bool.true_and]
   have hl:=congrArg List.length hs
   simp at hl
   by_cases hq:q≤t.length
   ·by_cases hq2:q+s.length≤t.length
    ·simp [hq,hq2]
    ·omega
   ·have:¬ q+s.length≤t.length:=by omega
    simp [hq,this]
  ·rename_i hs
   rw [h];simp [hs]
 | keep k=>
  refine ⟨fun z=>by simp [dN] at z,fun _=>?_⟩
  have e:aZ [.keep k]=k:=by rw [lg];rfl
  rw [h,e]
  simp only [aT,List.drop_drop,List.length_drop]
  by_cases hq:q≤t.length
  ·by_cases hq2:q+k≤t.length
   ·have:k≤t.length - q:=by omega
    simp [hq,hq2,this]
   ·have:¬ k≤t.length - q:=by omega
    simp [hq2,this]
  ·have:¬ q+k≤t.length:=by omega
   simp [hq,this]
 | put s=>
  refine ⟨fun z=>by simp [dN] at z,fun _=>?_⟩
  have e:aZ [.put s]=0:=by rw [ly];rfl
  rw [h,e]
  simp [aT]
theorem uZ (hs:F[aC]?=some fc) (hf:F[i]?=some (BB aC)) (c:List Pt) (t:List Nat) (h1:tot c≤10000) (h2:t.length≤10000):run F w (n+2) i [.val (aO c),.val (.str t)]=some (.bl (aT c t),[]):=by
 refine cC hf rfl ?_
 refine ai (br (by repeat array_get_dec) rfl rfl ?_)
 refine ai (nu (vs:=c.map Pt.v) (fJ (gr rfl) rfl) ?_)
 refine gO (e:=Pt.v) (fun p l fr=>p++l=c∧aT c t=(decide (aZ p≤t.length)&&aT l (t.drop (aZ p)))∧∃ a,vo a∧fr=[some (.val (aO c)),some (.val (.str t)),some (.val (.int (aZ p))),a]) (fun p x l fr ⟨hpl,hfit,a,ha,hfr⟩=>?_) (fun p fr ⟨hpl,hfit,a,ha,hfr⟩=>?_) c [] _ ⟨rfl,by simp [aZ,tot],none,.none,rfl⟩
 ·subst hfr
  have kX:tot p+x.n+tot l=tot c:=by rw [←hpl,dw,aQ];omega
  have sz:=fun fr=>bO (fr:=fr) (gh (w:=w) (n:=n) hs x (by omega))
  obtain ⟨k1,k2⟩:=Eb c t (aZ p) x l hfit
  have gi:(p++[x])++l=c:=by simpa using hpl
  have eb:aZ (p++[x])=aZ p+aZ [x]:=xK p [x]
  have ei:((aZ (p++[x]):Nat):Int)=(aZ p:Int)+(aZ [x]:Nat):=by rw [eb];simp
  cases x with
  | drop s=>
   obtain ⟨s',e,k1⟩:=k1 rfl
   cases e
   have e2:aZ [.drop s]=s.length:=by rw [nE];rfl
   rw [e2] at eb ei
   have cu:gT (.str t) (some (aZ p:Int)) (some ((aZ p:Int)+((Pt.drop s).n:Nat)))=some (.str ((t.drop (aZ p)).take s.length)):=by rw [jm];exact congrArg (fun z=>some (V.str z)) (BC t (aZ p) s.length)
   by_cases hx:(t.drop (aZ p)).take s.length=s
   ·rw [if_pos hx] at k1
    have ne:cop .ne (.str ((t.drop (aZ p)).take s.length)) (.str s)=some false:=by rw [ig,decide_eq_true hx];rfl
    refine d7 (bind1 rfl ha) (ai (aM (b:=false) (gf (b2:=false) (aD rfl (by repeat array_get_dec) rfl) (aD rfl (by (repeat (first | array_get_dec | exact sz _))) rfl)) (fun h=>absurd h (by decide)) fun _=>az ?_))
    refine ai (aM (by repeat array_get_dec) (fun _=>?_) fun h=>absurd h (by decide))
    refine ai (br (by (repeat (first | array_get_dec | exact sz _))) rfl rfl (az (az ?_)))
    rw [fE]
    exact ⟨gi,by rw [eb];exact k1,some (.val (Pt.drop s).v),.val,by rw [ei];rfl⟩
   ·rw [if_neg hx] at k1
    have ne:cop .ne (.str ((t.drop (aZ p)).take s.length)) (.str s)=some true:=by rw [ig,decide_eq_false hx];rfl
    refine d7 (bind1 rfl ha) (ai (aM (b:=true) (gf (b2:=true) (aD rfl (by repeat array_get_dec) rfl) (aD rfl (by (repeat (first | array_get_dec | exact sz _))) rfl)) (fun _=>?_) fun h=>absurd h (by decide)))
    refine ai (bW (by repeat array_get_dec) ?_)
    show nx _ _ _ _ _ _
    rw [k1];exact ⟨rfl,rfl⟩
  | keep k=>
   have k2:=k2 rfl
   have e2:aZ [.keep k]=k:=by rw [lg];rfl
   rw [e2] at k2 eb ei
   refine d7 (bind1 rfl ha) (ai (aM (b:=false) (mS (aD rfl (by repeat array_get_dec) rfl)) (fun h=>absurd h (by decide)) fun _=>az ?_))
   refine ai (aM (by repeat array_get_dec) (fun _=>?_) fun h=>absurd h (by decide))
   refine ai (br (by (repeat (first | array_get_dec | exact sz _))) rfl rfl (az (az ?_)))
   rw [fE]
   exact ⟨gi,by rw [eb];exact k2,some (.val (Pt.keep k).v),.val,by rw [ei];rfl⟩
  | put s=>
   have k2:=k2 rfl
   have e2:aZ [.put s]=0:=by rw [ly];rfl
   rw [e2] at k2 eb
   refine d7 (bind1 rfl ha) (ai (aM (b:=false) (mS (aD rfl (by repeat array_get_dec) rfl)) (fun h=>absurd h (by decide)) fun _=>az ?_))
   refine ai (aM (by repeat array_get_dec) (fun h=>absurd h (by decide)) fun _=>az (az ?_))
   rw [fE]
   exact ⟨gi,by rw [eb];exact k2,some (.val (Pt.put s).v),.val,by rw [eb];rfl⟩
 ·subst hfr
  simp at hpl
  subst hpl
  have e:decide ((aZ p:Int)=(t.length:Nat))=aT p t:=by
   rw [hfit]
   simp only [aT]
   by_cases hq:aZ p=t.length
   ·have:(aZ p:Int)=t.length:=by omega
    simp [this,hq]
   ·have:¬ (aZ p:Int)=t.length:=by omega
    simp [this]
    intro h
    omega
  have ln:cX .len [.str t]=some (.int (t.length:Nat)):=len_str (by omega)
  have eq:cop .eq (.int (aZ p)) (.int (t.length:Nat))=some (aT p t):=by rw [N4,e]
  have sh:gq [some (.val (aO p)),some (.val (.str t)),some (.val (.int (aZ p))),a]=[some (.val (aO p)),some (.val (.str t)),some (.val (.int (aZ p))),a]:=by
   show _ :: _ :: _ :: [a.map Sl.dj]=_
   rw [cO ha];rfl
  refine ai (bW (v:=.bl (aT p t)) (af:=[some (.val (aO p)),some (.val (.str t)),some (.val (.int (aZ p))),a]) ?_ ⟨rfl,rfl⟩)
  rw [sh]
  repeat array_get_dec
theorem oW (hs:F[aC]?=some fc) (hf:F[mV]?=some (BB aC)) (hd:F[i]?=some (Oh mV)) (c:List Pt) (t:List Nat) (h1:tot c≤10000) (h2:t.length≤10000) (h3:c.length≤10000) (h:aT c t=true):run F w (n+3) i [.val (aO c),.val (.str t)]=some (.str (aV c t),[]):=by
 refine cC hd rfl ?_
 have ft:=fun fr=>call2 (fr:=fr) (uZ (w:=w) (n:=n) hs hf c t h1 h2)
 rw [h] at ft
 refine ai (aM (b:=false) (qa (aD (b:=true) rfl (by (repeat (first | array_get_dec | exact ft _))) rfl)) (fun h=>absurd h (by decide)) fun _=>az ?_)
 refine ai (gg (l:=[]) (by repeat array_get_dec) rfl rfl ?_)
 refine ai (br (by repeat array_get_dec) rfl rfl ?_)
 refine ai (nu (vs:=c.map Pt.v) (fJ (gr rfl) rfl) ?_)
 refine gO (e:=Pt.v) (fun p l fr=>p++l=c∧∃ ps a b,vo a∧vo b∧ps.length≤p.length∧ps.flatten++aV l (t.drop (aZ p))=aV c t∧fr=[some (.val (aO c)),some (.val (.str t)),some (.own (ps.map V.str)),some (.val (.int (aZ p))),a,b]) (fun p x l fr ⟨hpl,ps,a,b,ha,hb,hl,hd,hfr⟩=>?_) (fun p fr ⟨hpl,ps,a,b,ha,hb,hl,hd,hfr⟩=>?_) c [] _ ⟨rfl,[],none,none,.none,.none,by simp,by simp [aZ,tot],rfl⟩
 ·subst hfr
  have gi:(p++[x])++l=c:=by simpa using hpl
  have eb:aZ (p++[x])=aZ p+aZ [x]:=xK p [x]
  have ei:((aZ (p++[x]):Nat):Int)=(aZ p:Int)+(aZ [x]:Nat):=by rw [eb];simp
  have kX:tot p+x.n+tot l=tot c:=by rw [←hpl,dw,aQ];omega
  have hlen:p.length+l.length+1=c.length:=by rw [←hpl];simp;omega
  have ap:∀ (fr:Fr) (z:List Nat),gA .append 2 [.str z] fr (some (some (.own (ps.map V.str))))=.ok .bD (fr.set 2 (some (.own ((ps++[z]).map V.str)))):=fun fr z=>by
   rw [List.map_append];exact nh (by simp;omega)
  cases x with
  | put s=>
   have e2:aZ [.put s]=0:=by rw [ly];rfl
   rw [e2] at eb
   refine d7 (jf rfl ha rfl hb) (ai (aM (by repeat array_get_dec) (fun _=>?_) fun h=>absurd h (by decide)))
   refine ai (fX (by (repeat (first | array_get_dec | exact ap _ _))) (az (az ?_)))
   rw [fE]
   exact ⟨gi,ps++[s],some (.val (.str kW)),some (.val (.str s)),.val,.val,by simp;omega,by rw [eb];simpa [aV] using hd,by rw [eb];rfl⟩
  | drop s=>
   have e2:aZ [.drop s]=s.length:=by rw [nE];rfl
   rw [e2] at eb ei
   have hsn:s.length≤tot c:=by simp only [Pt.n] at kX;omega
   have ln:cX .len [.str s]=some (.int (s.length:Nat)):=len_str (by omega)
   refine d7 (jf rfl ha rfl hb) (ai (aM (by repeat array_get_dec) (fun h=>absurd h (by decide)) fun _=>?_))
   refine ai (aM (by repeat array_get_dec) (fun _=>?_) fun h=>absurd h (by decide))
   refine ai (br (by repeat array_get_dec) rfl rfl (az (az (az ?_))))
   rw [fE]
   exact ⟨gi,ps,some (.val (.str jg)),some (.val (.str s)),.val,.val,by simp;omega,by rw [eb];simpa [aV] using hd,by rw [ei];rfl⟩
  | keep k=>
   have e2:aZ [.keep k]=k:=by rw [lg];rfl
   rw [e2] at eb ei
   have cu:gT (.str t) (some (aZ p:Int)) (some ((aZ p:Int)+(k:Nat)))=some (.str ((t.drop (aZ p)).take k)):=by rw [jm,BC]
   refine d7 (jf rfl ha rfl hb) (ai (aM (by repeat array_get_dec) (fun h=>absurd h (by decide)) fun _=>?_))
   refine ai (aM (by repeat array_get_dec) (fun h=>absurd h (by decide)) fun _=>?_)
   refine ai (fX (by (repeat (first | array_get_dec | exact ap _ _))) ?_)
   refine ai (br (by repeat array_get_dec) rfl rfl (az (az (az ?_))))
   rw [fE]
   exact ⟨gi,ps++[(t.drop (aZ p)).take k],some (.val (.str dQ)),some (.val (.int k)),.val,.val,by simp;omega,by rw [eb];simpa [aV] using hd,by rw [ei];rfl⟩
 ·subst hfr
  simp at hpl
  subst hpl
  have hd':ps.flatten=aV p t:=by simpa [aV] using hd
  have dl:=lG p t
  have hj:=yQ (l:=ps) (by rw [hd'];omega)
  rw [hd'] at hj
  have sh:gq [some (.val (aO p)),some (.val (.str t)),some (.own (ps.map V.str)),some (.val (.int (aZ p))),a,b]=[some (.val (aO p)),some (.val (.str t)),some (.val (.lst (ps.map V.str))),some (.val (.int (aZ p))),a,b]:=by
   show _ :: _ :: _ :: _ :: a.map Sl.dj :: [b.map Sl.dj]=_
   rw [cO ha,cO hb];rfl
  refine ai (bW (v:=.str (aV p t)) (af:=[some (.val (aO p)),some (.val (.str t)),some (.val (.lst (ps.map V.str))),some (.val (.int (aZ p))),a,b]) ?_ ⟨rfl,rfl⟩)
  rw [sh]
  repeat array_get_dec
theorem BD (c:List Pt):tot (sw c)=tot c:=by
 induction c with
 | nil=>rfl
 | cons p c ih=>simp only [sw,List.map_cons,aQ] at ih ⊢;rw [ih];cases p <;> rfl
theorem ze (hst:F[aY]?=some eE) (hf:F[bK]?=some (iS aY)) (hu:F[i]?=some (Ea bK)) (c:List Pt) (h1:c.length≤10000) (h2:tot c≤10000):run F w (n+3) i [.val (aO c)]=some (aO (jJ c),[]):=by
 have hl:(c.map fun p=>p.sw.v).length≤big:=by rw [List.length_map];exact Nat.le_trans h1 (by decide)
 have cf:=fun fr=>bO (fr:=fr) (eN (w:=w) (n:=n) hst hf (sw c) (by rw [sw,List.length_map];exact h1) (by rw [BD];exact h2))
 rw [show aO (sw c)=.tup (c.map fun p=>p.sw.v) by simp only [aO,sw,List.map_map];rfl] at cf
 exact cC hu rfl (ai (bW (aX (aJ rfl (pY (jE (fJ (gr rfl) rfl) rfl (rZ _ (fun p=>p.sw.v) c fun p _=>by
  cases p <;> exact Be rfl (je (aS (Bd (aB rfl) rfl) (aS (aB rfl) bg)) nc)) (cS hl)) (iR hl)) aG) (cf _)) ⟨rfl,rfl⟩))
theorem oh (hst:F[aY]?=some eE) (hf:F[bK]?=some (iS aY)) (hu:F[i]?=some (jT bK)) (m:Nat) (h:m≤10000):run F w (n+3) i [.val (.int m)]=some (aO (ay [.keep m]),[]):=
 cC hu rfl (ai (bW (aX (aJ rfl (je (aS (je (aS (bE rfl) (aS (aB rfl) bg)) nc) bg) sN) aG) (bO (eN hst hf [.keep m] (Nat.succ_le_of_lt (Nat.zero_lt_succ _)) h))) ⟨rfl,rfl⟩))
end
end Pv
namespace Pv
open Ev (rep)
theorem BE (ns:List Int) (at_:Int) (s:List Nat) (k:Nat):tot (jh ns at_ s k)≤3:=by
 have h1:=kB ns (at_+4*k+2) (many:=2) (by decide)
 have h2:=ku ns (at_+4*k+2) (many:=2) (by decide)
 unfold jh
 rw [dw]
 have a:tot (if cP ns (at_+4*k) 4=0 then [Pt.put (rep (1+cP ns (at_+4*k+2) 2).toNat [[97,98,122].getD (cP ns (at_+4*k+1) 3).toNat 0])] else [])≤2:=by
  split
  ·simp [tot,Pt.n,rep];omega
  ·simp [tot]
 cases s[k]? with
 | none=>simp [tot] at a ⊢;omega
 | some c=>
  have b:tot [if 0<cP ns (at_+4*k+3) 3 then Pt.keep 1 else Pt.drop [c]]≤1:=by split <;> simp [tot,Pt.n]
  simp only at b ⊢
  omega
theorem se (ns:List Int) (at_:Int) (s:List Nat):∀ k,tot (fF ns at_ s k)≤3*k
 | 0=>by simp [fF,tot]
 | k+1=>by
  have h1:=BE ns at_ s k
  have h2:=se ns at_ s k
  rw [ji,dw]
  omega
theorem oX:∀ {a:List (List Nat)}{t:List Nat},aE a t=true→a.length=t.length
 | [],[],_=>rfl
 | x :: a,c :: t,h=>by simp [aE] at h;simp [oX h.2]
 | [],_ :: _,h=>by simp [aE] at h
 | _ :: _,[],h=>by simp [aE] at h
theorem u5:∀ {a b:List (List Nat)}{t u:List Nat},aE a t=true→aE b u=true→aE (a++b) (t++u)=true
 | [],_,[],_,_,hb=>hb
 | x :: a,b,c :: t,u,ha,hb=>by
  simp only [aE,Bool.and_eq_true] at ha
  simp only [List.cons_append,aE,Bool.and_eq_true]
  exact ⟨ha.1,u5 ha.2 hb⟩
 | [],_,_ :: _,_,ha,_=>by simp [aE] at ha
 | _ :: _,_,[],_,ha,_=>by simp [aE] at ha
theorem J8 (ns:List Int) (at_:Int) (s:List Nat) (k:Nat):aE (asks (jh ns at_ s k)) (s[k]?).toList=true:=by
 unfold jh
 rw [eO]
 have a:asks (if cP ns (at_+4*k) 4=0 then [Pt.put (rep (1+cP ns (at_+4*k+2) 2).toNat [[97,98,122].getD (cP ns (at_+4*k+1) 3).toNat 0])] else [])=[]:=by
  split <;> simp [asks,Pt.asks]
 rw [a]
 cases s[k]? with
 | none=>simp [asks,aE]
 | some c=>simp only;split <;> simp [asks,Pt.asks,aE]
theorem BF (ns:List Int) (at_:Int) (s:List Nat):∀ k,aE (asks (fF ns at_ s k)) (s.take k)=true
 | 0=>by simp [fF,asks,aE]
 | k+1=>by
  rw [ji,eO,List.take_add_one]
  exact u5 (BF ns at_ s k) (J8 ns at_ s k)
theorem xN (ns:List Int) (at_:Int) (s:List Nat):aT (chg ns at_ s) s=true:=by
 have:=BF ns at_ s (s.length+1)
 rw [List.take_of_length_le (by omega)] at this
 rw [eK];exact this
end Pv
namespace Pv
inductive At where
 | k | d (c:Nat) | p (c:Nat)
noncomputable def Pt.av:Pt→List At
 | .keep n=>List.replicate n .k
 | .drop s=>s.map .d
 | .put s=>s.map .p
noncomputable def av (c:List Pt):List At:=c.flatMap Pt.av
theorem fM (a b:List Pt):av (a++b)=av a++av b:=by simp [av]
theorem bF (p:Pt) (c:List Pt):av (p :: c)=p.av++av c:=by simp [av]
theorem u6 (p:Pt):p.av.length=p.n:=by cases p <;> simp [Pt.av,Pt.n]
theorem dz (c:List Pt):(av c).length=tot c:=by
 induction c with
 | nil=>rfl
 | cons p c ih=>rw [bF,List.length_append,u6,ih,aQ]
noncomputable def tA:Nat→List At→List Tq
 | _,[]=>[]
 | i,.k :: a=>.at i :: tA (i+1) a
 | i,.d _ :: a=>tA (i+1) a
 | i,.p c :: a=>.sg c :: tA i a
noncomputable def aA:List At→List (List Nat)
 | []=>[]
 | .k :: a=>[] :: aA a
 | .d c :: a=>[c] :: aA a
 | .p _ :: a=>aA a
noncomputable def dA:List At→List Nat→List Nat
 | [],_=>[]
 | .k :: a,t=>t.take 1++dA a (t.drop 1)
 | .d _ :: a,t=>dA a (t.drop 1)
 | .p c :: a,t=>c :: dA a t
noncomputable def om:At→At
 | .k=>.k
 | .d c=>.p c
 | .p c=>.d c
noncomputable def cA:List At→Nat
 | []=>0
 | .k :: a=>cA a
 | _ :: a=>cA a+1
theorem qi:∀ a b:List At,aA (a++b)=aA a++aA b
 | [],_=>rfl
 | .k :: a,b=>by simp [aA,qi a b]
 | .d c :: a,b=>by simp [aA,qi a b]
 | .p c :: a,b=>by simp [aA,qi a b]
theorem qj:∀ (a b:List At) (i:Nat),tA i (a++b)=tA i a++tA (i+(aA a).length) b
 | [],_,_=>rfl
 | .k :: a,b,i=>by simp [tA,aA,qj a b,Nat.add_assoc,Nat.add_comm 1]
 | .d c :: a,b,i=>by simp [tA,aA,qj a b,Nat.add_assoc,Nat.add_comm 1]
 | .p c :: a,b,i=>by simp [tA,aA,qj a b]
theorem qk:∀ a b:List At,cA (a++b)=cA a+cA b
 | [],b=>by simp [cA]
 | .k :: a,b=>by simp [cA,qk a b]
 | .d c :: a,b=>by simp [cA,qk a b];omega
 | .p c :: a,b=>by simp [cA,qk a b];omega
theorem Gs (p:Pt):aA p.av=p.asks:=by
 cases p with
 | keep n=>simp only [Pt.av,Pt.asks];induction n <;> simp_all [List.replicate_succ,aA]
 | drop s=>simp only [Pt.av,Pt.asks];induction s <;> simp_all [aA]
 | put s=>simp only [Pt.av,Pt.asks];induction s <;> simp_all [aA]
theorem Sx (p:Pt):∀ i,tA i p.av=p.told i:=by
 cases p with
 | keep n=>
  simp only [Pt.av,Pt.told]
  induction n with
  | zero=>intro i;rfl
  | succ n ih=>intro i;simp only [List.replicate_succ,tA,ih,List.range_succ_eq_map,List.map_cons,List.map_map];simp [Function.comp_def,Nat.add_assoc,Nat.add_comm 1]
 | drop s=>intro i;simp only [Pt.av,Pt.told];induction s generalizing i <;> simp_all [tA]
 | put s=>intro i;simp only [Pt.av,Pt.told];induction s generalizing i <;> simp_all [tA]
theorem Sy (p:Pt):cA p.av=cst [p]:=by
 cases p with
 | keep n=>simp only [Pt.av];rw [Gk];induction n <;> simp_all [List.replicate_succ,cA,cst,tot]
 | drop s=>simp only [Pt.av];rw [Gm];induction s <;> simp_all [cA,cst,tot]
 | put s=>simp only [Pt.av];rw [Gn];induction s <;> simp_all [cA,cst,tot]
theorem b7 (c:List Pt):asks c=aA (av c):=by
 induction c with
 | nil=>rfl
 | cons p c ih=>rw [bF,qi,Gs,←ih];simp [asks]
theorem b8 (c:List Pt):∀ i,told i c=tA i (av c):=by
 induction c with
 | nil=>intro i;rfl
 | cons p c ih=>intro i;rw [bF,qj,Sx,Gs,←ih,told]
theorem jr (c:List Pt):cst c=cA (av c):=by
 induction c with
 | nil=>rfl
 | cons p c ih=>
  rw [bF,qk,Sy,←ih]
  simp [cst,tot]
  cases p <;> simp [List.filter_cons,cQ]
theorem u7 (c:List Pt):av (sw c)=(av c).map om:=by
 induction c with
 | nil=>rfl
 | cons p c ih=>
  have:av (sw (p :: c))=p.sw.av++av (sw c):=by simp [av,sw]
  rw [this,ih,bF,List.map_append]
  congr 1
  cases p <;> simp [Pt.sw,Pt.av,om,Function.comp_def]
theorem iG:∀ (c:List Pt) (t:List Nat),aV c t=dA (av c) t:=by
 have k:∀ (n:Nat) (a:List At) (t:List Nat),dA (List.replicate n .k++a) t=t.take n++dA a (t.drop n):=fun n=>by
  induction n with
  | zero=>intro a t;simp
  | succ n ih=>
   intro a t
   simp only [List.replicate_succ,List.cons_append,dA,ih,List.drop_drop]
   cases t with
   | nil=>simp
   | cons c t=>simp [Nat.add_comm 1]
 have d:∀ (s:List Nat) (a:List At) (t:List Nat),dA (s.map .d++a) t=dA a (t.drop s.length):=fun s=>by
  induction s with
  | nil=>intro a t;simp
  | cons c s ih=>intro a t;simp [dA,ih,Nat.add_comm 1]
 have p:∀ (s:List Nat) (a:List At) (t:List Nat),dA (s.map .p++a) t=s++dA a t:=fun s=>by
  induction s with
  | nil=>intro a t;simp
  | cons c s ih=>intro a t;simp [dA,ih]
 intro c
 induction c with
 | nil=>intro t;rfl
 | cons q c ih=>
  intro t
  rw [bF]
  cases q with
  | keep n=>simp only [Pt.av,k,aV,ih]
  | drop s=>simp only [Pt.av,d,aV,ih]
  | put s=>simp only [Pt.av,p,aV,ih]
noncomputable def sj:List At→Bool
 | .d _ :: _=>false
 | _=>true
inductive Th:List At→List At→List At→Prop
 | nil:Th [] [] []
 | d {a b r c}:Th a b r→Th (.d c :: a) b (.d c :: r)
 | p {a b r c}:sj a=true→Th a b r→Th a (.p c :: b) (.p c :: r)
 | kk {a b r}:Th a b r→Th (.k :: a) (.k :: b) (.k :: r)
 | kd {a b r c}:Th a b r→Th (.k :: a) (.d c :: b) (.d c :: r)
 | pk {a b r c}:Th a b r→Th (.p c :: a) (.k :: b) (.p c :: r)
 | pd {a b r c}:Th a b r→Th (.p c :: a) (.d c :: b) r
noncomputable def sub (L:List Tq):Tq→Tq
 | .at j=>L.getD j (.sg 0)
 | .sg c=>.sg c
theorem mW {L M:List Tq}{q:Tq}{j:Nat}(h:L.length=j):sub (L++q :: M) (.at j)=q:=by
 subst h;simp [sub]
theorem Th.told {a b r:List At}(h:Th a b r):∀ (i j:Nat) (L:List Tq),L.length=j→tA i r=(tA j b).map (sub (L++tA i a)):=by
 induction h with
 | nil=>intro i j L hL;rfl
 | d h ih=>intro i j L hL;exact ih (i+1) j L hL
 | p _ h ih=>intro i j L hL;simp only [tA,List.map_cons];rw [ih i j L hL];rfl
 | kk h ih=>
  intro i j L hL
  simp only [tA,List.map_cons]
  rw [ih (i+1) (j+1) (L++[.at i]) (by simp [hL]),mW hL];simp
 | kd h ih=>
  intro i j L hL
  simp only [tA]
  rw [ih (i+1) (j+1) (L++[.at i]) (by simp [hL])];simp
 | @pk _ _ _ c h ih=>
  intro i j L hL
  simp only [tA,List.map_cons]
  rw [ih i (j+1) (L++[.sg c]) (by simp [hL]),mW hL];simp
 | @pd _ _ _ c h ih=>
  intro i j L hL
  simp only [tA]
  rw [ih i (j+1) (L++[.sg c]) (by simp [hL])];simp
theorem Th.back {a b r:List At}(h:Th a b r):∀ (i j:Nat) (L:List Tq),L.length=j→tA i (r.map om)=(tA j (a.map om)).map (sub (L++tA i (b.map om))):=by
 induction h with
 | nil=>intro i j L hL;rfl
 | d h ih=>intro i j L hL;simp only [List.map_cons,om,tA];rw [ih i j L hL];rfl
 | p _ h ih=>intro i j L hL;exact ih (i+1) j L hL
 | kk h ih=>
  intro i j L hL
  simp only [List.map_cons,om,tA]
  rw [ih (i+1) (j+1) (L++[.at i]) (by simp [hL]),mW hL];simp
 | @kd _ _ _ c h ih=>
  intro i j L hL
  simp only [List.map_cons,om,tA]
  rw [ih i (j+1) (L++[.sg c]) (by simp [hL]),mW hL];simp
 | pk h ih=>
  intro i j L hL
  simp only [List.map_cons,om,tA]
  rw [ih (i+1) (j+1) (L++[.at i]) (by simp [hL])];simp
 | @pd _ _ _ c h ih=>
  intro i j L hL
  simp only [List.map_cons,om,tA]
  rw [ih i (j+1) (L++[.sg c]) (by simp [hL])];simp
theorem Th.fit {a b r:List At}(h:Th a b r):∀ t,aE (aA a) t=true→aE (aA b) (dA a t)=true→aE (aA r) t=true:=by
 induction h with
 | nil=>intro t h1 _;exact h1
 | d h ih=>
  intro t h1 h2
  cases t with
  | nil=>simp [aA,aE] at h1
  | cons x t=>simp only [aA,aE,Bool.and_eq_true] at h1 ⊢;exact ⟨h1.1,ih t h1.2 h2⟩
 | p _ h ih=>intro t h1 h2;exact ih t h1 h2
 | kk h ih=>
  intro t h1 h2
  cases t with
  | nil=>simp [aA,aE] at h1
  | cons x t=>simp only [aA,aE,Bool.and_eq_true,dA,List.take_succ_cons,List.take_zero,List.drop_succ_cons,List.drop_zero,List.singleton_append] at h1 h2 ⊢;exact ⟨h1.1,ih t h1.2 h2.2⟩
 | kd h ih=>
  intro t h1 h2
  cases t with
  | nil=>simp [aA,aE] at h1
  | cons x t=>simp only [aA,aE,Bool.and_eq_true,dA,List.take_succ_cons,List.take_zero,List.drop_succ_cons,List.drop_zero,List.singleton_append] at h1 h2 ⊢;exact ⟨h2.1,ih t h1.2 h2.2⟩
 | pk h ih=>intro t h1 h2;simp only [aA,dA,aE,Bool.and_eq_true] at h1 h2 ⊢;exact ih t h1 h2.2
 | pd h ih=>intro t h1 h2;simp only [aA,dA,aE,Bool.and_eq_true] at h1 h2 ⊢;exact ih t h1 h2.2
theorem Th.all:∀ (n:Nat) (a b:List At) (t:List Nat),a.length+b.length≤n→aE (aA a) t=true→aE (aA b) (dA a t)=true→∃ r,Th a b r:=by
 intro n
 induction n with
 | zero=>
  intro a b t hn _ _
  obtain rfl:a=[]:=List.length_eq_zero_iff.mp (by omega)
  obtain rfl:b=[]:=List.length_eq_zero_iff.mp (by omega)
  exact ⟨[],.nil⟩
 | succ n ih=>
  intro a b t hn h1 h2
  cases a with
  | nil=>
   cases b with
   | nil=>exact ⟨[],.nil⟩
   | cons y b=>
    cases y with
    | p c=>obtain ⟨r,h⟩:=ih [] b t (by simp at hn ⊢;omega) h1 h2;exact ⟨_,.p rfl h⟩
    | k=>simp [aA,dA,aE] at h2
    | d c=>simp [aA,dA,aE] at h2
  | cons x a=>
   by_cases hd:sj (x :: a)=true
   ·cases b with
    | nil=>
     cases x with
     | d c=>cases hd
     | k=>cases t <;> simp [aA,dA,aE] at h1 h2
     | p c=>simp [aA,dA,aE] at h2
    | cons y b=>
     cases y with
     | p c=>obtain ⟨r,h⟩:=ih (x :: a) b t (by simp at hn ⊢;omega) h1 h2;exact ⟨_,.p hd h⟩
     | k=>
      cases x with
      | d c=>cases hd
      | k=>
       cases t with
       | nil=>simp [aA,aE] at h1
       | cons z t=>
        simp [aA,aE,dA] at h1 h2
        obtain ⟨r,h⟩:=ih a b t (by simp at hn ⊢;omega) h1 h2;exact ⟨_,.kk h⟩
      | p c=>
       simp [aA,aE,dA] at h1 h2
       obtain ⟨r,h⟩:=ih a b t (by simp at hn ⊢;omega) h1 h2;exact ⟨_,.pk h⟩
     | d c'=>
      cases x with
      | d c=>cases hd
      | k=>
       cases t with
       | nil=>simp [aA,aE] at h1
       | cons z t=>
        simp [aA,aE,dA] at h1 h2
        obtain ⟨r,h⟩:=ih a b t (by simp at hn ⊢;omega) h1 h2.2;exact ⟨_,.kd h⟩
      | p c=>
       simp [aA,aE,dA] at h1 h2
       obtain ⟨rfl,h2⟩:=h2
       obtain ⟨r,h⟩:=ih a b t (by simp at hn ⊢;omega) h1 h2;exact ⟨_,.pd h⟩
   ·cases x with
    | k=>exact absurd rfl hd
    | p c=>exact absurd rfl hd
    | d c=>
     cases t with
     | nil=>simp [aA,aE] at h1
     | cons z t=>
      simp [aA,aE] at h1
      obtain ⟨r,h⟩:=ih a b t (by simp at hn ⊢;omega) h1.2 h2;exact ⟨_,.d h⟩
theorem Th.done {a b r:List At}(h:Th a b r):∀ t,aE (aA a) t=true→dA r t=dA b (dA a t):=by
 induction h with
 | nil=>intro t _;rfl
 | d h ih=>
  intro t h1
  cases t with
  | nil=>simp [aA,aE] at h1
  | cons x t=>simp only [aA,aE,Bool.and_eq_true] at h1;simp only [dA];exact ih t h1.2
 | p _ h ih=>intro t h1;simp only [dA];rw [ih t h1]
 | kk h ih=>
  intro t h1
  cases t with
  | nil=>simp [aA,aE] at h1
  | cons x t=>simp only [aA,aE,Bool.and_eq_true] at h1;simp [dA,ih t h1.2]
 | kd h ih=>
  intro t h1
  cases t with
  | nil=>simp [aA,aE] at h1
  | cons x t=>simp only [aA,aE,Bool.and_eq_true] at h1;simp [dA,ih t h1.2]
 | pk h ih=>intro t h1;simp [dA,ih t h1]
 | pd h ih=>intro t h1;simp [dA,ih t h1]
theorem Th.cost {a b r:List At}(h:Th a b r):cA r≤cA a+cA b:=by induction h <;> simp [cA] <;> omega
theorem Th.len {a b r:List At}(h:Th a b r):r.length≤a.length+b.length:=by induction h <;> simp <;> omega
theorem Th.ds {b r:List At}:∀ {s:List Nat}{a:List At},Th (s.map .d++a) b r→∃ r',r=s.map .d++r'∧Th a b r'
 | [],a,h=>⟨r,rfl,h⟩
 | c :: s,a,h=>by
  cases h with
  | d h=>obtain ⟨r',rfl,h'⟩:=Th.ds h;exact ⟨r',rfl,h'⟩
  | p hn h=>cases hn
theorem Th.ps {a r:List At}(hn:sj a=true):∀ {s:List Nat}{b:List At},Th a (s.map .p++b) r→∃ r',r=s.map .p++r'∧Th a b r'
 | [],b,h=>⟨r,rfl,h⟩
 | c :: s,b,h=>by
  cases h with
  | d h=>cases hn
  | p _ h=>obtain ⟨r',rfl,h'⟩:=Th.ps hn h;exact ⟨r',rfl,h'⟩
theorem Th.Gu {a b r:List At}:∀ {n:Nat},Th (List.replicate n .k++a) (List.replicate n .k++b) r→∃ r',r=List.replicate n .k++r'∧Th a b r':=fun {n}=>by
 induction n generalizing r with
 | zero=>intro h;exact ⟨r,rfl,h⟩
 | succ n ih=>intro h;cases h with | kk h=>obtain ⟨r',rfl,h'⟩:=ih h;exact ⟨r',rfl,h'⟩
theorem Th.Gv {a b r:List At}:∀ {s:List Nat},Th (List.replicate s.length .k++a) (s.map .d++b) r→∃ r',r=s.map .d++r'∧Th a b r':=fun {s}=>by
 induction s generalizing r with
 | nil=>intro h;exact ⟨r,rfl,h⟩
 | cons c s ih=>intro h;cases h with | kd h=>obtain ⟨r',rfl,h'⟩:=ih h;exact ⟨r',rfl,h'⟩
theorem Th.Z8 {a b r:List At}:∀ {s:List Nat},Th (s.map .p++a) (List.replicate s.length .k++b) r→∃ r',r=s.map .p++r'∧Th a b r':=fun {s}=>by
 induction s generalizing r with
 | nil=>intro h;exact ⟨r,rfl,h⟩
 | cons c s ih=>intro h;cases h with | pk h=>obtain ⟨r',rfl,h'⟩:=ih h;exact ⟨r',rfl,h'⟩
theorem Th.UR {a b r:List At}:∀ {s s':List Nat},s.length=s'.length→Th (s.map .p++a) (s'.map .d++b) r→s=s'∧Th a b r
 | [],[],_,h=>⟨rfl,h⟩
 | [],_ :: _,hl,_=>by simp at hl
 | _ :: _,[],hl,_=>by simp at hl
 | c :: s,c' :: s',hl,h=>by cases h with | pd h=>obtain ⟨rfl,h'⟩:=Th.UR (by simpa using hl) h;exact ⟨rfl,h'⟩
theorem gQ:∀ (a:List At) (i q:Nat),Tq.at q∈tA i a↔∃ j,q=i+j∧(aA a)[j]?=some []
 | [],i,q=>by simp [tA,aA]
 | .k :: a,i,q=>by
  simp only [tA,List.mem_cons,gQ a,aA]
  constructor
  ·rintro (h | ⟨j,rfl,h⟩)
   ·cases h;exact ⟨0,rfl,by simp⟩
   ·exact ⟨j+1,by omega,by simpa using h⟩
  ·rintro ⟨j,rfl,h⟩
   cases j with
   | zero=>exact .inl rfl
   | succ j=>exact .inr ⟨j,by omega,by simpa using h⟩
 | .d c :: a,i,q=>by
  simp only [tA,gQ a,aA]
  constructor
  ·rintro ⟨j,rfl,h⟩;exact ⟨j+1,by omega,by simpa using h⟩
  ·rintro ⟨j,rfl,h⟩
   cases j with
   | zero=>simp at h
   | succ j=>exact ⟨j,by omega,by simpa using h⟩
 | .p c :: a,i,q=>by simp [tA,gQ a,aA]
theorem qW:∀ {a:List (List Nat)}{t:List Nat},aE a t=true→∀ (j:Nat) x,a[j]?=some x→x=[]∨∃ c,t[j]?=some c∧x=[c]
 | y :: a,c :: t,h,j,x,e=>by
  simp only [aE,Bool.and_eq_true,Bool.or_eq_true,decide_eq_true_eq] at h
  cases j with
  | zero=>simp at e;subst e;exact h.1.imp id fun z=>⟨c,by simp,z⟩
  | succ j=>simpa using qW h.2 j x (by simpa using e)
 | [],[],_,j,x,e=>by simp at e
 | [],_ :: _,h,_,_,_=>by simp [aE] at h
 | _ :: _,[],h,_,_,_=>by simp [aE] at h
theorem BG {a:List At}{A:List (List Nat)}{t:List Nat}(ha:aE (aA a) t=true) (hb:aE A t=true) (h:∀ q:Nat,Tq.at q∈tA 0 a↔A[q]?=some []):aA a=A:=by
 have la:=oX ha
 have lb:=oX hb
 apply List.ext_getElem?
 intro j
 by_cases hj:j<t.length
 ·obtain ⟨x,hx⟩:∃ x,(aA a)[j]?=some x:=⟨_,List.getElem?_eq_getElem (by omega)⟩
  obtain ⟨y,hy⟩:∃ y,A[j]?=some y:=⟨_,List.getElem?_eq_getElem (by omega)⟩
  have k1:=gQ a 0 j
  rw [h j,hy] at k1
  have hxy:x=[]↔y=[]:=by
   constructor
   ·rintro rfl
    have:=k1.mpr ⟨j,by omega,hx⟩
    cases this;rfl
   ·rintro rfl
    obtain ⟨i,hi,e⟩:=k1.mp rfl
    obtain rfl:i=j:=by omega
    rw [e] at hx;cases hx;rfl
  rw [hx,hy]
  rcases qW ha j x hx with US | ⟨c,hc,Z9⟩
  ·rw [US,hxy.mp US]
  ·rcases qW hb j y hy with UT | ⟨c',hc',hy1⟩
   ·rw [UT,hxy.mpr UT]
   ·rw [hc] at hc';cases hc';rw [Z9,hy1]
 ·rw [List.getElem?_eq_none (by omega),List.getElem?_eq_none (by omega)]
theorem BH {a b:List At}{t:List Nat}(ha:aE (aA a) t=true) (hb:aE (aA b) t=true) (h:tA 0 a=tA 0 b):aA a=aA b:=
 BG ha hb fun q=>by
  rw [h,gQ b 0 q]
  constructor
  ·rintro ⟨j,hj,e⟩;obtain rfl:q=j:=by omega
   exact e
  ·intro e;exact ⟨q,by omega,e⟩
theorem BJ {a b:List Pt}{t:List Nat}(ha:aT a t=true) (hb:aT b t=true) (h:told 0 a=told 0 b):ay a=ay b:=by
 rw [lE]
 rw [eK] at ha hb
 have h':=h
 rw [b7] at ha hb
 rw [b8,b8] at h'
 have:=BH ha hb h'
 simp only [jj,h,b7,this]
theorem Ec {a:List At}{M:List Tq}(h:∀ j:Nat,(aA a)[j]?=some []→M[j]?=some (Tq.at j)):(tA 0 a).map (sub M)=tA 0 a:=by
 refine (List.map_congr_left fun q hq=>?_).trans (List.map_id _)
 cases q with
 | sg c=>rfl
 | «at» j=>
  obtain ⟨i,hi,e⟩:=(gQ a 0 j).mp hq
  obtain rfl:i=j:=by omega
  simp [sub,h i e]
theorem J9 (L:List Tq):((List.range L.length).map Tq.at).map (sub L)=L:=by
 apply List.ext_getElem?
 intro i
 by_cases h:i<L.length
 ·simp [sub,h]
 ·rw [List.getElem?_eq_none (by simp;omega),List.getElem?_eq_none (by omega)]
theorem lH {c:List Pt}{t:List Nat}(h:aT c t=true):(aV c t).length=eF c:=by
 rw [fL (uX c t h).1,Og]
end Pv
namespace Pv
open Ev (D bZ bP TY BI ME T E Es Eo It S Ss Fn big deep b2i rep cz dM bL aR cut cJ d8 slots)
noncomputable def Ed (qX:Nat) (gn:Nat):S:=.iff (.cmp .ne (.cl qX (.cons (.v 0) .nil)) (.cl gn (.cons (.v 1) .nil))) (.cons (.fk) .nil) .nil
noncomputable def Ef (bN:Nat):S:=.set 2 (.ee (.rev (.cl bN (.cons (.v 0) .nil))))
noncomputable def Eg (bN:Nat):S:=.set 3 (.ee (.rev (.cl bN (.cons (.v 1) .nil))))
noncomputable def Eh:S:=.set 4 (.lst .nil)
noncomputable def u9 (bw:Nat) (ql:Nat) (dS:Nat):Ss:=(.cons (.iff (.an (.v 2) (.cmp .eq (.ix (.ix (.v 2) (.neg (.c (.int 1)))) (.c (.int 0))) (.c (.str [100,114,111,112])))) (.cons (.exp (.me .append (.v 4) (.cons (.me .pop (.v 2) .nil) .nil))) .nil) (.cons (.iff (.an (.v 3) (.cmp .eq (.ix (.ix (.v 3) (.neg (.c (.int 1)))) (.c (.int 0))) (.c (.str [112,117,116])))) (.cons (.exp (.me .append (.v 4) (.cons (.me .pop (.v 3) .nil) .nil))) .nil) (.cons (.set 5 (.bi .min (.cons (.cl bw (.cons (.ix (.v 2) (.neg (.c (.int 1)))) .nil)) (.cons (.cl bw (.cons (.ix (.v 3) (.neg (.c (.int 1)))) .nil)) .nil)))) (.cons (.exp (.me .extend (.v 4) (.cons (.cl ql (.cons (.cl dS (.cons (.v 2) (.cons (.v 5) .nil))) (.cons (.cl dS (.cons (.v 3) (.cons (.v 5) .nil))) .nil))) .nil))) .nil))) .nil)) .nil)
noncomputable def Ei (bw:Nat) (ql:Nat) (dS:Nat):S:=.mw (.orr (.v 2) (.v 3)) (u9 bw ql dS)
noncomputable def Ej (bN:Nat):S:=.ret (.cl bN (.cons (.iw (.v 4)) .nil))
noncomputable def kD (qX:Nat) (gn:Nat) (bN:Nat) (bw:Nat) (ql:Nat) (dS:Nat):Fn:=⟨2,6,(.cons (Ed qX gn) (.cons (Ef bN) (.cons (Eg bN) (.cons Eh (.cons (Ei bw ql dS) (.cons (Ej bN) .nil))))))⟩
noncomputable def Ka:S:=.iff (.cmp .eq (.ix (.v 1) (.c (.int 0))) (.c (.str [107,101,101,112]))) (.cons (.ret (.lst (.cons (.v 0) .nil))) .nil) .nil
noncomputable def Kc:S:=.iff (.cmp .eq (.ix (.v 0) (.c (.int 0))) (.c (.str [107,101,101,112]))) (.cons (.ret (.lst (.cons (.v 1) .nil))) .nil) .nil
noncomputable def Kd:S:=.iff (.cmp .ne (.ix (.v 0) (.c (.int 1))) (.ix (.v 1) (.c (.int 1)))) (.cons (.fk) .nil) .nil
noncomputable def Ke:S:=.ret (.lst .nil)
noncomputable def sU:Fn:=⟨2,2,(.cons Ka (.cons Kc (.cons Kd (.cons Ke .nil))))⟩
noncomputable def BK (oY:Nat):S:=.set 2 (.cl oY (.cons (.me .pop (.v 0) .nil) (.cons (.v 1) .nil)))
noncomputable def BL (bw:Nat):S:=.iff (.cmp .gt (.cl bw (.cons (.ix (.v 2) (.c (.int 1))) .nil)) (.c (.int 0))) (.cons (.exp (.me .append (.v 0) (.cons (.ix (.v 2) (.c (.int 1))) .nil))) .nil) .nil
noncomputable def BN:S:=.ret (.ix (.v 2) (.c (.int 0)))
noncomputable def kE (oY:Nat) (bw:Nat):Fn:=⟨2,3,(.cons (BK oY) (.cons (BL bw) (.cons BN .nil)))⟩
noncomputable def zf:S:=.set 2 (.ix (.v 0) (.c (.int 0)))
noncomputable def zg:S:=.iff (.cmp .eq (.v 2) (.c (.str [107,101,101,112]))) (.cons (.ret (.tup (.cons (.tup (.cons (.v 2) (.cons (.v 1) .nil))) (.cons (.tup (.cons (.v 2) (.cons (.bin .sub (.ix (.v 0) (.c (.int 1))) (.v 1)) .nil))) .nil)))) .nil) .nil
noncomputable def zh:S:=.ret (.tup (.cons (.tup (.cons (.v 2) (.cons (.sl (.ix (.v 0) (.c (.int 1))) .no (.yes (.v 1))) .nil))) (.cons (.tup (.cons (.v 2) (.cons (.sl (.ix (.v 0) (.c (.int 1))) (.yes (.v 1)) .no) .nil))) .nil)))
noncomputable def iH:Fn:=⟨2,3,(.cons zf (.cons zg (.cons zh .nil)))⟩
noncomputable def Pt.tk (m:Nat):Pt→Pt
 | .keep _=>.keep m
 | .put s=>.put (s.take m)
 | .drop s=>.drop (s.take m)
noncomputable def Pt.dp (m:Nat):Pt→Pt
 | .keep k=>.keep (k - m)
 | .put s=>.put (s.drop m)
 | .drop s=>.drop (s.drop m)
theorem Gw {α:Type}(l:List α) (m:Nat):cut l none (some (m:Int))=l.take m:=by
 have h1:¬ (m:Int)<0:=by omega
 simp only [cut,aR,h1,if_false,Int.toNat_natCast,List.drop_zero,Nat.sub_zero]
 by_cases h:m≤l.length
 ·rw [Nat.min_eq_left h]
 ·rw [Nat.min_eq_right (by omega),List.take_of_length_le (Nat.le_refl _),List.take_of_length_le (by omega)]
theorem Gx {α:Type}(l:List α) (m:Nat):cut l (some (m:Int)) none=l.drop m:=by
 have h1:¬ (m:Int)<0:=by omega
 simp only [cut,aR,h1,if_false,Int.toNat_natCast]
 by_cases h:m≤l.length
 ·rw [Nat.min_eq_left h,List.take_of_length_le (by simp)]
 ·rw [Nat.min_eq_right (by omega),List.drop_eq_nil_of_le (Nat.le_refl _),List.drop_eq_nil_of_le (by omega)];simp
section
variable {F:List Fn}{w n cD aC dh bx bK aY dU b9 gp qm i:Nat}
theorem zj (hf:F[i]?=some iH) (p:Pt) (m:Nat) (h:m≤p.n):run F w (n+1) i [.val p.v,.val (.int m)]=some (.tup [(p.tk m).v,(p.dp m).v],[]):=by
 refine cC hf rfl ?_
 cases p with
 | keep k=>
  refine ai (br (by repeat array_get_dec) rfl rfl ?_)
  refine ai (aM (by repeat array_get_dec) (fun _=>?_) fun h=>absurd h (by decide))
  refine ai (bW (by repeat array_get_dec) ⟨?_,rfl⟩)
  have:(k:Int) - m=((k - m:Nat):Int):=by simp only [Pt.n] at h;omega
  exact congrArg (fun z=>Fl.ret (V.tup [V.tup [V.str dQ,V.int m],V.tup [V.str dQ,V.int z]])) this
 | put s=>
  have c1:gT (.str s) none (some (m:Int))=some (.str (s.take m)):=by rw [jm,Gw]
  have c2:gT (.str s) (some (m:Int)) none=some (.str (s.drop m)):=by rw [jm,Gx]
  refine ai (br (by repeat array_get_dec) rfl rfl ?_)
  refine ai (aM (by repeat array_get_dec) (fun h=>absurd h (by decide)) fun _=>az ?_)
  exact ai (bW (by repeat array_get_dec) ⟨rfl,rfl⟩)
 | drop s=>
  have c1:gT (.str s) none (some (m:Int))=some (.str (s.take m)):=by rw [jm,Gw]
  have c2:gT (.str s) (some (m:Int)) none=some (.str (s.drop m)):=by rw [jm,Gx]
  refine ai (br (by repeat array_get_dec) rfl rfl ?_)
  refine ai (aM (by repeat array_get_dec) (fun h=>absurd h (by decide)) fun _=>az ?_)
  exact ai (bW (by repeat array_get_dec) ⟨rfl,rfl⟩)
theorem qY (m:Nat) (p:Pt):(p.dp m).n=p.n - m:=by cases p <;> simp [Pt.dp,Pt.n]
theorem jU (hs:F[aC]?=some fc) (hp:F[cD]?=some iH) (hf:F[i]?=some (kE cD aC)) (L:List V) (p:Pt) (m:Nat) (h:m≤p.n) (hn:p.n≤100000) (hL:L.length≤10000) :
  run F w (n+2) i [.bor (L++[p.v]),.val (.int m)]=some ((p.tk m).v,[L++if 0<p.n - m then [(p.dp m).v] else []]):=by
 refine cC hf rfl ?_
 have c1:=fun fr=>call2 (fr:=fr) (zj (F:=F) (w:=w) (n:=n) hp p m h)
 have c2:=fun fr=>bO (fr:=fr) (gh (F:=F) (w:=w) (n:=n) hs (p.dp m) (by rw [qY];omega))
 have po:∀ fr:Fr,gA .pop 0 [] fr (some (some (.bor (L++[p.v]))))=.ok p.v (fr.set 0 (some (.bor L))):=fun fr=>JR
 have ap:∀ fr:Fr,gA .append 0 [(p.dp m).v] fr (some (some (.bor L)))=.ok .bD (fr.set 0 (some (.bor (L++[(p.dp m).v])))):=fun fr=>JQ (by omega)
 refine ai (br (by (repeat (first | array_get_dec | exact po _ | exact c1 _))) rfl rfl ?_)
 refine ai (aM (by (repeat (first | array_get_dec | exact c2 _))) (fun h=>?_) fun h=>?_)
 ·have h':=of_decide_eq_true h
  rw [qY] at h'
  rw [if_pos (by omega)]
  refine ai (fX (by (repeat (first | array_get_dec | exact ap _))) (az ?_))
  exact ai (bW (by repeat array_get_dec) ⟨rfl,rfl⟩)
 ·have h':=of_decide_eq_false h
  rw [qY] at h'
  rw [if_neg (by omega),List.append_nil]
  exact az (ai (bW (by repeat array_get_dec) ⟨rfl,rfl⟩))
noncomputable def lI:Pt→Pt→Option (List Pt)
 | l,.keep _=>some [l]
 | .keep _,g=>some [g]
 | .put s,.drop s'=>if s=s' then some [] else none
 | _,_=>none
theorem Kf (hf:F[i]?=some sU) (p q:Pt) (r:List Pt) (h:lI p q=some r):run F w (n+1) i [.val p.v,.val q.v]=some (.lst (r.map Pt.v),[]):=by
 refine cC hf rfl ?_
 cases q with
 | keep k=>
  simp only [lI,Option.some.injEq] at h
  subst h
  refine ai (aM (by repeat array_get_dec) (fun _=>?_) fun h=>absurd h (by decide))
  exact ai (bW (by repeat array_get_dec) ⟨rfl,rfl⟩)
 | put s=>
  cases p <;> simp [lI] at h
  subst h
  refine ai (aM (by repeat array_get_dec) (fun h=>absurd h (by decide)) fun _=>az ?_)
  refine ai (aM (by repeat array_get_dec) (fun _=>?_) fun h=>absurd h (by decide))
  exact ai (bW (by repeat array_get_dec) ⟨rfl,rfl⟩)
 | drop s'=>
  cases p with
  | keep k=>
   simp only [lI,Option.some.injEq] at h
   subst h
   refine ai (aM (by repeat array_get_dec) (fun h=>absurd h (by decide)) fun _=>az ?_)
   refine ai (aM (by repeat array_get_dec) (fun _=>?_) fun h=>absurd h (by decide))
   exact ai (bW (by repeat array_get_dec) ⟨rfl,rfl⟩)
  | drop s=>simp [lI] at h
  | put s=>
   simp only [lI] at h
   split at h
   ·rename_i hs
    subst hs
    cases h
    refine ai (aM (by repeat array_get_dec) (fun h=>absurd h (by decide)) fun _=>az ?_)
    refine ai (aM (by repeat array_get_dec) (fun h=>absurd h (by decide)) fun _=>az ?_)
    refine ai (aM (by repeat array_get_dec) (fun h=>?_) fun _=>az ?_)
    ·simp at h
    ·exact ai (bW (by repeat array_get_dec) ⟨rfl,rfl⟩)
   ·cases h
theorem eg {l:List V}{v:V}:fq (.lst (l++[v])) (.int (-1))=some v:=by rw [Ju,N1];simp
theorem iN {l:List V}{v:V}:truthy (.lst (l++[v]))=true:=by simp
theorem qo {P:aP}{f i:Nat}{fr:Fr}{b v:V}{l l':List V}(e:fr[i]?=some (some (.own l))) (h:P f [.bor l,.val b]=some (v,[l'])):eU P f [.inl i,.inr b] fr=.ok v (fr.set i (some (.own l'))):=by
 have e1:lent fr i=some (.bor l):=by rw [xD,e];rfl
 simp [eU,bT,args,e1,h,back,e,Sl.with]
theorem dB {c:List Pt}(h:iz c=true):∀ p∈c,0<p.n:=fun p hp=>by
 simp only [iz,Bool.and_eq_true,List.all_eq_true] at h
 have:=h.2 p hp
 simp only [Of,bne_iff_ne,ne_eq] at this
 omega
theorem dD:∀ {c:List Pt},(∀ p∈c,0<p.n)→c.length≤tot c
 | [],_=>by simp [tot]
 | p :: c,h=>by
  have h1:=h p (by simp)
  have h2:=dD (c:=c) fun q hq=>h q (by simp [hq])
  rw [aQ,List.length_cons];omega
theorem qp {p:Pt}{m:Nat}(h:m≤p.n):(p.tk m).av++(p.dp m).av=p.av∧(p.tk m).n=m:=by
 cases p with
 | keep k=>simp only [Pt.n] at h;simp [Pt.tk,Pt.dp,Pt.av,Pt.n,h]
 | put s=>simp only [Pt.n] at h;simp [Pt.tk,Pt.dp,Pt.av,Pt.n,h,←List.map_append]
 | drop s=>simp only [Pt.n] at h;simp [Pt.tk,Pt.dp,Pt.av,Pt.n,h,←List.map_append]
noncomputable def iA (m:Nat) (p:Pt):List Pt:=if 0<p.n - m then [p.dp m] else []
theorem nF {p:Pt}{m:Nat}(h:m≤p.n):p.av=(p.tk m).av++av (iA m p):=by
 rw [← (qp h).1]
 congr 1
 unfold iA
 split
 ·simp [av]
 ·rename_i hz
  have:(p.dp m).av.length=0:=by rw [u6,qY];omega
  rw [List.length_eq_zero_iff.mp this];rfl
theorem nG (m:Nat) (p:Pt):∀ q∈iA m p,0<q.n:=fun q hq=>by
 unfold iA at hq
 split at hq
 ·simp at hq;subst hq;rw [qY];omega
 ·simp at hq
theorem xO (m:Nat) (p:Pt) (A:List Pt):((iA m p++A).map Pt.v).reverse=(A.map Pt.v).reverse++if 0<p.n - m then [(p.dp m).v] else []:=by
 unfold iA;split <;> simp
theorem gR (m:Nat) (p:Pt):tot (iA m p)=p.n - m:=by
 unfold iA;split
 ·simp [tot,qY]
 ·simp [tot];omega
theorem nH {m:Nat}{p:Pt}:dN (p.tk m)=dN p∧cT (p.tk m)=cT p:=by cases p <;> exact ⟨rfl,rfl⟩
theorem Oi {A B r:List At}(p q:Pt) (hp:dN p=false) (hq:cT q=false) (hn:p.n=q.n) (h:Th (p.av++A) (q.av++B) r):∃ m r',lI p q=some m∧m.length≤1∧r=av m++r'∧Th A B r':=by
 cases p with
 | drop s=>cases hp
 | keep k=>
  cases q with
  | put s=>cases hq
  | keep k'=>simp only [Pt.n] at hn;subst hn;obtain ⟨r',rfl,h'⟩:=Th.Gu h;exact ⟨[.keep k],r',rfl,by simp,by simp [av,Pt.av],h'⟩
  | drop s=>simp only [Pt.n] at hn;subst hn;obtain ⟨r',rfl,h'⟩:=Th.Gv h;exact ⟨[.drop s],r',rfl,by simp,by simp [av,Pt.av],h'⟩
 | put s=>
  cases q with
  | put s'=>cases hq
  | keep k'=>simp only [Pt.n] at hn;subst hn;obtain ⟨r',rfl,h'⟩:=Th.Z8 h;exact ⟨[.put s],r',rfl,by simp,by simp [av,Pt.av],h'⟩
  | drop s'=>simp only [Pt.n] at hn;obtain ⟨rfl,h'⟩:=Th.UR hn h;exact ⟨[],r,by simp [lI],by simp,by simp [av],h'⟩
structure Tn (one other c:List Pt) (t:List Nat):Prop where
 vc:ay c=c
 fit:aT c t=true
 dn:aV c t=aV other (aV one t)
 vd:told 0 c=(told 0 other).map (sub (told 0 one))
 BO:told 0 (sw c)=(told 0 (sw one)).map (sub (told 0 (sw other)))
 cs:cst c≤cst one+cst other
 tt:tot c≤tot one+tot other
 ln:c.length≤tot c
theorem Sz {one other ps:List Pt}{t:List Nat}(h1:aT one t=true) (h2:aT other (aV one t)=true) (h:Th (av (ay one)) (av (ay other)) (av ps)):Tn one other (ay ps) t:=by
 have f1:aE (aA (av (ay one))) t=true:=by rw [←b7,cH,←eK];exact h1
 have f2:aE (aA (av (ay other))) (dA (av (ay one)) t)=true:=by rw [←b7,cH,←iG,gm,←eK];exact h2
 have b:=h.back 0 0 [] rfl
 rw [←u7,←u7,←u7,←b8,←b8,←b8] at b
 have sf:∀ c i,told i (sw (ay c))=told i (sw c):=fun c i=>by
  have:=congrArg (told i) (J7 (gk c));rwa [bX,bX] at this
 refine ⟨gk _,?_,?_,?_,?_,?_,?_,dD (dB (cW _))⟩
 ·rw [iF,eK,b7];exact h.fit t f1 f2
 ·rw [gm,iG,h.done t f1,←iG,gm,←iG,gm]
 ·have:=h.told 0 0 [] rfl
  rw [←b8,←b8,←b8,bX,bX] at this
  rw [bX];exact this
 ·rw [sf,←sf one,←sf other];exact b
 ·have:=h.cost
  rw [←jr,←jr,←jr,jI,jI] at this
  rw [jI];exact this
 ·have:=h.len
  rw [dz,dz,dz,cV,cV] at this
  rw [cV];exact this
section
variable (hs:F[aC]?=some fc) (hp:F[cD]?=some iH) (ht:F[bx]?=some (kE cD aC)) (hm:F[dh]?=some sU) {one other:List Pt}{r:List At}{N:Nat}(hN:N≤5000)
noncomputable def fQ (one other A B C:List Pt) (a:Option Sl):Fr:=[some (.val (aO one)),some (.val (aO other)),some (.own (A.map Pt.v).reverse),some (.own (B.map Pt.v).reverse),some (.own (C.map Pt.v)),a]
noncomputable def UU (one other:List Pt) (r:List At) (N k:Nat) (fr:Fr):Prop:=∃ A B C r' a,Th (av A) (av B) r'∧av C++r'=r∧(∀ p∈A,0<p.n)∧(∀ p∈B,0<p.n)∧C.length+k≤N∧k=tot A+tot B∧vo a∧fr=fQ one other A B C a
include hs hp ht hm hN
noncomputable def BP (aC dh bx:Nat):Ss:=(.cons (.set 5 (.bi .min (.cons (.cl aC (.cons (.ix (.v 2) (.neg (.c (.int 1)))) .nil)) (.cons (.cl aC (.cons (.ix (.v 3) (.neg (.c (.int 1)))) .nil)) .nil)))) (.cons (.exp (.me .extend (.v 4) (.cons (.cl dh (.cons (.cl bx (.cons (.v 2) (.cons (.v 5) .nil))) (.cons (.cl bx (.cons (.v 3) (.cons (.v 5) .nil))) .nil))) .nil))) .nil))
noncomputable def ve (aC dh bx:Nat):Ss:=.cons (.iff (.an (.v 3) (.cmp .eq (.ix (.ix (.v 3) (.neg (.c (.int 1)))) (.c (.int 0))) (.c (.str [112,117,116])))) (.cons (.exp (.me .append (.v 4) (.cons (.me .pop (.v 3) .nil) .nil))) .nil) (BP aC dh bx)) .nil
noncomputable def vf (one other:List Pt) (r:List At) (N t:Nat) (g:Fl) (fr:Fr):Prop:=g=.nx∧∃ j,j<t∧UU one other r N j fr
omit hs hp ht hm hN in
theorem BQ {C:List Pt}(lC:C.length≤5000) (d:Pt) (fr:Fr):gA .append 4 [d.v] fr (some (some (.own (C.map Pt.v))))=.ok .bD (fr.set 4 (some (.own ((C++[d]).map Pt.v)))):=by
 rw [List.map_append];exact nh (by simp;omega)
omit hs hp ht hm in
theorem vg (A B C:List Pt) (s:List Nat) (r':List At) (a:Option Sl) (h:Th (av A) (av (.put s :: B)) r') (hn:sj (av A)=true) (hC:av C++r'=r) (hA:∀ p∈A,0<p.n) (hB:∀ p∈(.put s :: B),0<p.n) (hk:C.length+(tot A+tot (.put s :: B))≤N) (ha:vo a) :
  Wp (exs (run F w (n+2)) w (ve aC dh bx) (fQ one other A (.put s :: B) C a)) (vf one other r N (tot A+tot (.put s :: B))):=by
 have lC:C.length≤5000:=by omega
 rw [bF] at h
 obtain ⟨r2,e2,h2⟩:=Th.ps hn h
 have hs1:=hB (.put s) (by simp)
 unfold fQ
 rw [List.map_cons,List.reverse_cons]
 refine ai (aM (gf (aD rfl (aB rfl) iN) (by (repeat (first | array_get_dec | exact eg)))) (fun _=>?_) fun h=>absurd h (by decide))
 refine ai (fX (by (repeat (first | array_get_dec | exact ni | exact BQ lC _ _))) (az (az ?_)))
 refine ⟨rfl,tot A+tot B,by rw [aQ];omega,A,B,C++[.put s],r2,a,h2,?_,hA,fun x hx=>hB x (by simp [hx]),?_,rfl,ha,rfl⟩
 ·rw [←hC,e2,fM];simp [av,Pt.av]
 ·rw [aQ] at hk;simp;omega
omit hN in
theorem Oj (A B C mm:List Pt) (p q:Pt) (m:Nat) (a:Option Sl) (mn:cX .min [.int p.n,.int q.n]=some (.int m)) (hm1:m≤p.n) (hm2:m≤q.n) (lp:p.n≤5000) (lq:q.n≤5000) (lA:A.length≤5000) (lB:B.length≤5000) (lC:C.length+mm.length≤10000) (e1:lI (p.tk m) (q.tk m)=some mm) (ha:vo a) (Q:Fl→Fr→Prop)
  (hQ:Q .nx (fQ one other (iA m p++A) (iA m q++B) (C++mm) (some (.val (.int m))))):Wp (exs (run F w (n+2)) w (BP aC dh bx) (fQ one other (p :: A) (q :: B) C a)) Q:=by
 have z1:=fun fr=>bO (fr:=fr) (gh (F:=F) (w:=w) (n:=n+1) hs p (Nat.le_trans lp (by decide)))
 have z2:=fun fr=>bO (fr:=fr) (gh (F:=F) (w:=w) (n:=n+1) hs q (Nat.le_trans lq (by decide)))
 have t1:=jU (F:=F) (w:=w) (n:=n) hs hp ht (A.map Pt.v).reverse p m hm1 (by omega) (by simp;omega)
 have t2:=jU (F:=F) (w:=w) (n:=n) hs hp ht (B.map Pt.v).reverse q m hm2 (by omega) (by simp;omega)
 rw [←xO] at t1 t2
 have cm:=fun fr=>call2 (fr:=fr) (Kf (F:=F) (w:=w) (n:=n+1) hm _ _ mm e1)
 have ex:∀ fr:Fr,gA .extend 4 [.lst (mm.map Pt.v)] fr (some (some (.own (C.map Pt.v))))=.ok .bD (fr.set 4 (some (.own ((C++mm).map Pt.v)))):=fun fr=>by
  rw [List.map_append];exact xF (by simp;omega)
 unfold fQ at hQ ⊢
 rw [List.map_cons,List.reverse_cons,List.map_cons,List.reverse_cons]
 refine ai (br (by (repeat (first | array_get_dec | exact eg | exact z1 _ | exact z2 _))) rfl (eZ rfl ha) ?_)
 exact ai (fX (by (repeat (first | array_get_dec | exact qo rfl t1 | exact qo rfl t2 | exact cm _ | exact ex _))) (az hQ))
theorem Ek (A B C:List Pt) (p q:Pt) (r':List At) (a:Option Sl) (hd:dN p=false) (hq:cT q=false) (h:Th (av (p :: A)) (av (q :: B)) r') (hC:av C++r'=r) (hA:∀ x∈p :: A,0<x.n) (hB:∀ x∈q :: B,0<x.n) (hk:C.length+(tot (p :: A)+tot (q :: B))≤N) (ha:vo a) :
  Wp (exs (run F w (n+2)) w (ve aC dh bx) (fQ one other (p :: A) (q :: B) C a)) (vf one other r N (tot (p :: A)+tot (q :: B))):=by
 have hp0:=hA p (by simp)
 have Ar:=hB q (by simp)
 obtain ⟨m,hm1,hm2,hm3⟩:∃ m:Nat,m≤p.n∧m≤q.n∧(m=p.n∨m=q.n):=⟨min p.n q.n,by omega,by omega,by omega⟩
 have mn:cX .min [.int p.n,.int q.n]=some (.int m):=by
  rw [A7]
  split
  ·congr 2;omega
  ·congr 2;omega
 rw [aQ,aQ] at hk
 have lA:=dD (c:=A) fun x hx=>hA x (by simp [hx])
 have lB:=dD (c:=B) fun x hx=>hB x (by simp [hx])
 have h3:Th ((p.tk m).av++av (iA m p++A)) ((q.tk m).av++av (iA m q++B)) r':=by
  rw [fM,fM,←List.append_assoc,←List.append_assoc,←nF hm1,←nF hm2,←bF,←bF];exact h
 obtain ⟨mm,r2,e1,e2,e3,h4⟩:=Oi (p.tk m) (q.tk m) (by rw [nH.1];exact hd) (by rw [nH.2];exact hq) (by rw [(qp hm1).2,(qp hm2).2]) h3
 have fin:vf one other r N (tot (p :: A)+tot (q :: B)) .nx (fQ one other (iA m p++A) (iA m q++B) (C++mm) (some (.val (.int m)))):=by
  refine ⟨rfl,_,?_,_,_,_,r2,_,h4,?_,?_,?_,?_,rfl,.val,rfl⟩
  ·rw [dw,dw,gR,gR,aQ,aQ];omega
  ·rw [fM,List.append_assoc,←e3];exact hC
  ·intro x hx
   rcases List.mem_append.mp hx with hx | hx
   ·exact nG m p x hx
   ·exact hA x (List.mem_cons_of_mem _ hx)
  ·intro x hx
   rcases List.mem_append.mp hx with hx | hx
   ·exact nG m q x hx
   ·exact hB x (List.mem_cons_of_mem _ hx)
  ·rw [dw,dw,gR,gR,List.length_append];omega
 have st:=Oj (one:=one) (other:=other) (w:=w) (n:=n) hs hp ht hm A B C mm p q m a mn hm1 hm2 (by omega) (by omega) (by omega) (by omega) (by omega) e1 ha _ (show nx (run F w (n+2)) w .nil (vf one other r N (tot (p :: A)+tot (q :: B))) .nx _ from az fin)
 unfold fQ at st ⊢
 rw [List.map_cons,List.reverse_cons,List.map_cons,List.reverse_cons] at st ⊢
 cases q with
 | put s=>cases hq
 | keep k=>exact ai (aM (gf (aD rfl (aB rfl) iN) (by (repeat (first | array_get_dec | exact eg)))) (fun h=>absurd h (by decide)) fun _=>st)
 | drop s=>exact ai (aM (gf (aD rfl (aB rfl) iN) (by (repeat (first | array_get_dec | exact eg)))) (fun h=>absurd h (by decide)) fun _=>st)
omit hs hp ht hm hN in
theorem UW {b r:List At}{x:At}(h:Th [] (x :: b) r):∃ c,x=.p c:=by cases h with | p=>exact ⟨_,rfl⟩
omit hs hp ht hm hN in
theorem UX {a r:List At}{x:At}(h:Th (x :: a) [] r):∃ c,x=.d c:=by cases h with | d=>exact ⟨_,rfl⟩
theorem BR (A B C:List Pt) (r':List At) (a:Option Sl) (hne:A≠[]∨B≠[]) (h:Th (av A) (av B) r') (hC:av C++r'=r) (hA:∀ p∈A,0<p.n) (hB:∀ p∈B,0<p.n) (hk:C.length+(tot A+tot B)≤N) (ha:vo a) :
  Wp (exs (run F w (n+2)) w (u9 aC dh bx) (fQ one other A B C a)) (vf one other r N (tot A+tot B)):=by
 cases A with
 | nil=>
  cases B with
  | nil=>exact absurd hne (by simp)
  | cons q B'=>
   refine ai (aM (mS (aD rfl (aB rfl) rfl)) (fun h=>absurd h (by decide)) fun _=>?_)
   have hq:=hB q (by simp)
   cases q with
   | put s=>exact (vg hN [] B' C s r' a h rfl hC hA hB hk ha).mono fun g fr ⟨hg,hx⟩=>by subst hg;exact az ⟨rfl,hx⟩
   | keep k=>
    rw [bF] at h
    cases k with
    | zero=>exact absurd hq (Nat.lt_irrefl 0)
    | succ k=>obtain ⟨c,e⟩:=UW (x:=.k) h;cases e
   | drop s=>
    rw [bF] at h
    cases s with
    | nil=>exact absurd hq (Nat.lt_irrefl 0)
    | cons c s=>obtain ⟨c,e⟩:=UW (x:=.d c) h;cases e
 | cons p A'=>
  have hp0:=hA p (by simp)
  cases hd:dN p with
  | true=>
   cases p with
   | keep k=>cases hd
   | put s=>cases hd
   | drop s=>
    have lC:C.length≤5000:=by omega
    rw [bF] at h
    obtain ⟨r2,e2,h2⟩:=Th.ds h
    unfold fQ
    rw [List.map_cons,List.reverse_cons]
    refine ai (aM (gf (aD rfl (aB rfl) iN) (by (repeat (first | array_get_dec | exact eg)))) (fun _=>?_) fun h=>absurd h (by decide))
    refine ai (fX (by (repeat (first | array_get_dec | exact ni | exact BQ lC _ _))) (az (az ?_)))
    refine ⟨rfl,tot A'+tot B,by rw [aQ];omega,A',B,C++[.drop s],r2,a,h2,?_,fun x hx=>hA x (by simp [hx]),hB,?_,rfl,ha,rfl⟩
    ·rw [←hC,e2,fM];simp [av,Pt.av]
    ·rw [aQ] at hk;simp;omega
  | false=>
   have st:Wp (exs (run F w (n+2)) w (ve aC dh bx) (fQ one other (p :: A') B C a)) (vf one other r N (tot (p :: A')+tot B)):=by
    cases B with
    | nil=>
     exfalso
     rw [bF] at h
     cases p with
     | drop s=>cases hd
     | keep k=>cases k with | zero=>exact absurd hp0 (Nat.lt_irrefl 0) | succ k=>obtain ⟨c,e⟩:=UX (x:=.k) h;cases e
     | put s=>cases s with | nil=>exact absurd hp0 (Nat.lt_irrefl 0) | cons c s=>obtain ⟨c,e⟩:=UX (x:=.p c) h;cases e
    | cons q B'=>
     cases hq:cT q with
     | true=>
      have hnd:sj (av (p :: A'))=true:=by
       rw [bF]
       cases p with
       | drop s=>cases hd
       | keep k=>cases k <;> first | exact absurd hp0 (Nat.lt_irrefl 0) | rfl
       | put s=>cases s <;> first | exact absurd hp0 (Nat.lt_irrefl 0) | rfl
      cases q with
      | keep k=>cases hq
      | drop s=>cases hq
      | put s=>exact vg hN (p :: A') B' C s r' a h hnd hC hA hB hk ha
     | false=>exact Ek hs hp ht hm hN A' B' C p q r' a hd hq h hC hA hB hk ha
   replace st:=st.mono (Q':=nx (run F w (n+2)) w .nil (vf one other r N (tot (p :: A')+tot B))) fun g fr ⟨hg,hx⟩=>by subst hg;exact az ⟨rfl,hx⟩
   unfold fQ at st ⊢
   rw [List.map_cons,List.reverse_cons] at st ⊢
   cases p with
   | drop s=>cases hd
   | keep k=>exact ai (aM (gf (aD rfl (aB rfl) iN) (by (repeat (first | array_get_dec | exact eg)))) (fun h=>absurd h (by decide)) fun _=>st)
   | put s=>exact ai (aM (gf (aD rfl (aB rfl) iN) (by (repeat (first | array_get_dec | exact eg)))) (fun h=>absurd h (by decide)) fun _=>st)
omit hN in
theorem El (hst:F[aY]?=some eE) (hf:F[bK]?=some (iS aY)) (hb:F[b9]?=some (jG aC)) (ha:F[dU]?=some (nD aC)) (BU:F[i]?=some (kD dU b9 bK aC dh bx)) (hw:5000<w)
  (one other:List Pt) (t:List Nat) (h1:aT one t=true) (h2:aT other (aV one t)=true) (b1:tot one≤2000) (b2:tot other≤2000) (l1:one.length≤2000) (l2:other.length≤2000) :
  ∃ c,run F w (n+3) i [.val (aO one),.val (aO other)]=some (aO c,[])∧Tn one other c t:=by
 have f1:aE (aA (av (ay one))) t=true:=by rw [←b7,cH,←eK];exact h1
 have f2:aE (aA (av (ay other))) (dA (av (ay one)) t)=true:=by rw [←b7,cH,←iG,gm,←eK];exact h2
 obtain ⟨r,hr⟩:=Th.all _ _ _ t (Nat.le_refl _) f1 f2
 have e1:eF one=aZ other:=by rw [←lH h1,fL h2]
 have ne:cop .ne (.int (eF one)) (.int (aZ other))=some false:=by rw [sR,e1];simp
 have c1:=fun fr=>bO (fr:=fr) (jR (F:=F) (w:=w) (n:=n) hs ha one (by omega) (by omega))
 have c2:=fun fr=>bO (fr:=fr) (gu (F:=F) (w:=w) (n:=n) hs hb other (by omega) (by omega))
 have c3:=fun fr=>bO (fr:=fr) (eN (F:=F) (w:=w) (n:=n) hst hf one (by omega) (by omega))
 have c4:=fun fr=>bO (fr:=fr) (eN (F:=F) (w:=w) (n:=n) hst hf other (by omega) (by omega))
 have t1:=cV one
 have t2:=cV other
 have g1:=dD (dB (cW one))
 have g2:=dD (dB (cW other))
 have m1:dX ((ay one).map Pt.v).reverse=some (.lst ((ay one).map Pt.v).reverse):=cS (bS (by simp;omega))
 have m2:dX ((ay other).map Pt.v).reverse=some (.lst ((ay other).map Pt.v).reverse):=cS (bS (by simp;omega))
 have key:Wp (exs (run F w (n+2)) w (kD dU b9 bK aC dh bx).body (fy (kD dU b9 bK aC dh bx) [.val (aO one),.val (aO other)])) fun g fr=>∃ ps,av ps=r∧g=.ret (aO (ay ps))∧outs 2 fr=[]:=by
  refine ai (aM (by (repeat (first | array_get_dec | exact c1 _ | exact c2 _))) (fun h=>absurd h (by decide)) fun _=>az ?_)
  refine ai (gg (l:=((ay one).map Pt.v).reverse) (jQ (qb (aX (aJ rfl (aB rfl) aG) (c3 _)) rfl) m1) rfl rfl ?_)
  refine ai (gg (l:=((ay other).map Pt.v).reverse) (jQ (qb (aX (aJ rfl (aB rfl) aG) (c4 _)) rfl) m2) rfl rfl ?_)
  refine ai (gg (l:=[]) (by repeat array_get_dec) rfl rfl ?_)
  refine ai (Gh (pW (UU one other r (tot one+tot other)) (fun k fr hI=>?_) w (tot one+tot other) _ (by omega) ⟨ay one,ay other,[],r,none,hr,rfl,dB (cW one),dB (cW other),by simp,by omega,.none,rfl⟩))
  obtain ⟨A,B,C,r',a,hT,hC,hA,hB,hk,hkk,BV,rfl⟩:=hI
  by_cases hne:A≠[]∨B≠[]
  ·have ht1:aL (run F w (n+2)) (.orr (.v 2) (.v 3)) (fQ one other A B C a)=.ok true (fQ one other A B C a):=by
    cases A with
    | cons p A=>unfold fQ;rw [List.map_cons,List.reverse_cons];exact pZ (aD rfl (aB rfl) iN)
    | nil=>
     cases B with
     | nil=>simp at hne
     | cons q B=>unfold fQ;rw [List.map_cons,List.reverse_cons];exact dZ (aD rfl (aB rfl) rfl) (aD rfl (aB rfl) iN)
   refine ⟨true,_,ht1,?_⟩
   dsimp only
   rw [if_pos rfl]
   refine (BR hs hp ht hm (N:=tot one+tot other) (by omega) A B C r' a hne hT hC hA hB (by omega) BV).mono fun g fr ⟨hg,hx⟩=>?_
   subst hg hkk
   exact hx
  ·obtain ⟨rfl,rfl⟩:A=[]∧B=[]:=by simpa using hne
   refine ⟨false,_,dZ (aD rfl (aB rfl) rfl) (aD rfl (aB rfl) rfl),?_⟩
   dsimp only
   rw [if_neg (by decide)]
   cases hT
   rw [List.append_nil] at hC
   subst hC
   have lC:=hr.len
   rw [dz,dz,dz] at lC
   have mt:toT (.lst (C.map Pt.v))=some (aO C):=by rw [qS];exact iR (bS (by simp;omega))
   have c5:=fun fr=>bO (fr:=fr) (eN (F:=F) (w:=w) (n:=n) hst hf C (by omega) (by omega))
   have sh:gq (fQ one other [] [] C a)=[some (.val (aO one)),some (.val (aO other)),some (.val (.lst [])),some (.val (.lst [])),some (.val (.lst (C.map Pt.v))),a]:=by
    show _ :: _ :: _ :: _ :: _ :: [a.map Sl.dj]=_
    rw [cO BV];rfl
   refine ai (bW (v:=aO (ay C)) (af:=[some (.val (aO one)),some (.val (aO other)),some (.val (.lst [])),some (.val (.lst [])),some (.val (.lst (C.map Pt.v))),a]) ?_ ⟨C,rfl,rfl,rfl⟩)
   rw [sh]
   exact aX (aJ rfl (pY (aB rfl) mt) aG) (c5 _)
 obtain ⟨g,fr,e,ps,hps,rfl,ho⟩:=key
 refine ⟨ay ps,?_,Sz h1 h2 (hps▸hr)⟩
 rw [run_eq BU rfl,e]
 simp only [Jx]
 rw [show outs (kD dU b9 bK aC dh bx).np fr=[] from ho]
end
end
end Pv
namespace Pv
open Ev (D bZ bP TY BI ME T E Es Eo It S Ss Fn big deep b2i rep cz dM bL aR cut cJ d8 slots)
section
variable {F:List Fn}{w n cD aC dh bx bK aY dU b9 gp qm i:Nat}
noncomputable def Ch:List Nat→List (List Pt)→Prop
 | _,[]=>True
 | t,c :: rs=>aT c t=true∧Ch (aV c t) rs
noncomputable def Gy (t:List Nat) (rs:List (List Pt)):List Nat:=rs.foldl (fun s c=>aV c s) t
noncomputable def UY (T:List Tq) (rs:List (List Pt)):List Tq:=rs.foldl (fun T c=>(told 0 c).map (sub T)) T
noncomputable def Em (rs:List (List Pt)):Nat:=(rs.map tot).sum
theorem En {c:List Pt}{t:List Nat}(h:aT c t=true):aT (jJ c) (aV c t)=true∧aV (jJ c) (aV c t)=t:=by
 have:=uX c t h
 simp only [jJ];rw [iF,gm];exact this
theorem sq (n:Nat):told 0 [.keep n]=(List.range n).map Tq.at:=by simp [told,Pt.told]
theorem Ol {L:List Tq}{n:Nat}(h:L.length=n):(told 0 [.keep n]).map (sub L)=L:=by rw [sq,←h];exact J9 L
theorem zk {a b:List Pt}{t:List Nat}(fa:ay a=a) (fb:ay b=b) (ha:aT a t=true) (hb:aT b t=true) (h:told 0 a=told 0 b):a=b:=by rw [←fa,←fb];exact BJ ha hb h
theorem idL {c:List Pt}{t:List Nat}(h:aT c t=true):(told 0 c).map (sub (told 0 [.keep t.length]))=told 0 c:=by
 rw [b8 c,sq]
 refine Ec fun j hj=>?_
 have:j<(aA (av c)).length:=(List.getElem?_eq_some_iff.mp hj).1
 rw [←b7,jH,←fL h] at this
 simp [this]
structure An (c:List Pt) (t:List Nat) (rs:List (List Pt)):Prop where
 vc:ay c=c
 fit:aT c t=true
 dn:aV c t=Gy t rs
 vd:told 0 c=UY (told 0 [.keep t.length]) rs
 BO:told 0 (sw c)=UY (told 0 [.keep (Gy t rs).length]) (rs.map jJ).reverse
 tt:tot c≤t.length+Em rs
 ln:c.length≤tot c
section
variable (hs:F[aC]?=some fc) (hp:F[cD]?=some iH) (ht:F[bx]?=some (kE cD aC)) (hm:F[dh]?=some sU)
 (hst:F[aY]?=some eE) (hf:F[bK]?=some (iS aY)) (hb:F[b9]?=some (jG aC)) (ha:F[dU]?=some (nD aC)) (BU:F[qm]?=some (kD dU b9 bK aC dh bx)) (hno:F[gp]?=some (jT bK)) (hw:5000<w)
include hs hp ht hm hst hf hb ha BU hno hw
end
end
end Pv
namespace Pv
section
variable {t:List Nat}{p q rs:List (List Pt)}{s e w x y c:List Pt}
end
open Ev (D bZ bP TY BI ME T E Es Eo It S Ss Fn big deep b2i rep cz dM bL aR cut cJ d8 slots)
inductive Hd (L:List V):Sl→List (List V)→Prop
 | val:Hd L (.val (.lst L)) []
 | bor:Hd L (.bor L) [L]
section
variable {F:List Fn}{w n cD aC dh bx bK aY dU b9 gp qm i:Nat}
section
variable (hs:F[aC]?=some fc) (hp:F[cD]?=some iH) (ht:F[bx]?=some (kE cD aC)) (hm:F[dh]?=some sU)
 (hst:F[aY]?=some eE) (hf:F[bK]?=some (iS aY)) (hb:F[b9]?=some (jG aC)) (ha:F[dU]?=some (nD aC)) (BU:F[qm]?=some (kD dU b9 bK aC dh bx)) (hno:F[gp]?=some (jT bK)) (hw:5000<w)
include hs hp ht hm hst hf hb ha BU hno hw
end
end
theorem BW {P:aP}{fr af ao:Fr}{k:Bool}{a b:E}{x y:V}{l m:List V}(h:src (k&&kf a (bf b)) fr a (ev P (k&&kf a (bf b)) a fr)=.ok x af) (h2:src k af b (ev P k b af)=.ok y ao) (hx:iQ x=some l) (hy:iQ y=some m):cy P k (.zip a b) fr=.ok (dP l m) ao:=by rw [xC,h,ak,h2,ak,hx,hy];rfl
end Pv
namespace Pv
open Ev (deep big rep cut bL)
noncomputable def aab:At→Bool
 | .p _=>false
 | _=>true
theorem oZ {a b:List Pt}(h:av a=av b):ay a=ay b:=(lE a b).mpr (by simp only [jj,b7,b8,h])
noncomputable def kF:List At→Bool
 | .p _ :: _=>false
 | _=>true
structure Cut (c:List Pt) (p:Nat) (A B:List Pt):Prop where
 at_:av A++av B=av (ay c)
 bA:aZ A=p
 hd:kF (av B)=true
 pA:∀ q∈A,0<q.n
 pB:∀ q∈B,0<q.n
 fA:iz A=true
 fB:iz B=true
section
variable {c A B:List Pt}{p:Nat}{t:List Nat}
theorem BX (c:List Pt):aZ c=(aA (av c)).length:=by rw [←b7,jH]
end
end Pv
namespace Pv
open Ev (D bZ bP TY BI ME T E Es Eo It S Ss Fn big deep rep cut bL)
noncomputable def zm (bN:Nat):S:=.ret (.cl bN (.cons (.bin .add (.v 0) (.v 1)) .nil))
noncomputable def Ep (bN:Nat):Fn:=⟨2,2,(.cons (zm bN) .nil)⟩
noncomputable def BY (lJ:Nat) (jV:Nat):S:=.ret (.cl lJ (.cons (.cl lJ (.cons (.cl jV (.cons (.v 0) .nil)) (.cons (.v 1) .nil))) (.cons (.cl jV (.cons (.v 2) .nil)) .nil)))
noncomputable def Kg (lJ:Nat) (jV:Nat):Fn:=⟨3,3,(.cons (BY lJ jV) .nil)⟩
section
variable {F:List Fn}{w n aC aY bK b9 cD bx gp vh SA Kh i:Nat}
theorem Er {q:Pt}{R:List Pt}(h:iz (q :: R)=true):iz R=true∧iz [q]=true∧∀ y∈R.head?,jS q.word y.word=true:=by
 simp only [iz,Bool.and_eq_true,List.map_cons,List.all_cons] at h ⊢
 cases R with
 | nil=>exact ⟨⟨rfl,rfl⟩,⟨rfl,by simp [h.2.1]⟩,fun y hy=>by cases hy⟩
 | cons r R=>
  have:=qV [q.word] ((r :: R).map Pt.word)
  have h2:=this.mp h.1
  exact ⟨⟨h2.2.1,h.2.2⟩,⟨rfl,by simp [h.2.1]⟩,fun y hy=>by simp at hy;subst hy;exact h2.2.2 _ (by simp) _ (by simp)⟩
section
variable (hst:F[aY]?=some eE) (hf:F[bK]?=some (iS aY)) (hj:F[vh]?=some (Ep bK)) (hn:F[gp]?=some (jT bK)) (ha:F[Kh]?=some (Kg vh gp))
include hst hf hj hn ha
end
end
end Pv
namespace Pv
open Ev (D bZ bP TY BI ME T E Es Eo It S Ss Fn big deep rep cut bL)
noncomputable def dF:List At→Bool
 | .p _ :: .d _ :: _=>false
 | _ :: a=>dF a
 | []=>true
theorem qq (a:List At):dF (.k :: a)=dF a:=by rw [dF];intro c d r h;cases h
theorem Gz (c:Nat) (a:List At):dF (.d c :: a)=dF a:=by rw [dF];intro c d r h;cases h
theorem BZ (c:Nat) (a:List At):dF (.p c :: .k :: a)=dF a:=by rw [dF,qq];intro c d r h1 h;cases h
theorem vj (c d:Nat) (a:List At):dF (.p c :: .p d :: a)=dF (.p d :: a):=by rw [dF];intro c d r h1 h;cases h
theorem SD (c:Nat):dF [.p c]=true:=by rw [dF];rfl;intro c d r h1 h;cases h
theorem gG {x:At}{a:List At}(h:dF (x :: a)=true):dF a=true:=by
 cases x with
 | k=>rw [qq] at h;exact h
 | d c=>rw [Gz] at h;exact h
 | p c=>
  cases a with
  | nil=>rfl
  | cons y a=>
   cases y with
   | k=>rw [BZ] at h;rw [qq];exact h
   | d e=>simp [dF] at h
   | p e=>rw [vj] at h;exact h
theorem vm:∀ (b:List At) (x c:Nat) (l:List (List Nat)),dF (.p x :: b)=true→aA b=[c] :: l→False
 | [],_,_,_,_,h=>by simp [aA] at h
 | .k :: b,_,_,_,_,h=>by simp [aA] at h
 | .d y :: b,_,_,_,hn,_=>by simp [dF] at hn
 | .p y :: b,x,c,l,hn,h=>vm b y c l (gG hn) h
theorem nJ:∀ (a b:List At) (i:Nat),dF a=true→dF b=true→aA a=aA b→tA i a=tA i b→a=b
 | [],[],_,_,_,_,_=>rfl
 | [],.k :: b,i,_,_,h,_=>by simp [aA] at h
 | [],.d c :: b,i,_,_,h,_=>by simp [aA] at h
 | [],.p c :: b,i,_,_,_,h=>by simp [tA] at h
 | .k :: a,[],i,_,_,h,_=>by simp [aA] at h
 | .d c :: a,[],i,_,_,h,_=>by simp [aA] at h
 | .p c :: a,[],i,_,_,_,h=>by simp [tA] at h
 | .k :: a,.k :: b,i,h1,h2,h3,h4=>by
  simp only [aA,tA,List.cons.injEq,true_and] at h3 h4
  rw [nJ a b (i+1) (gG h1) (gG h2) h3 h4]
 | .k :: a,.d c :: b,i,_,_,h,_=>by simp [aA] at h
 | .k :: a,.p c :: b,i,_,_,_,h=>by simp [tA] at h
 | .d c :: a,.k :: b,i,_,_,h,_=>by simp [aA] at h
 | .d c :: a,.d e :: b,i,h1,h2,h3,h4=>by
  simp only [aA,tA,List.cons.injEq,and_true] at h3 h4
  obtain ⟨rfl,h3⟩:=h3
  rw [nJ a b (i+1) (gG h1) (gG h2) h3 h4]
 | .d c :: a,.p e :: b,i,h1,h2,h3,_=>(vm b e c (aA a) h2 (by simpa [aA] using h3.symm)).elim
 | .p c :: a,.k :: b,i,_,_,_,h=>by simp [tA] at h
 | .p c :: a,.d e :: b,i,h1,h2,h3,_=>(vm a c e (aA b) h1 (by simpa [aA] using h3)).elim
 | .p c :: a,.p e :: b,i,h1,h2,h3,h4=>by
  simp only [aA,tA,List.cons.injEq,Tq.sg.injEq] at h3 h4
  obtain ⟨rfl,h4⟩:=h4
  rw [nJ a b i (gG h1) (gG h2) h3 h4]
theorem Ca (n:Nat) (a:List At):dF (List.replicate n .k++a)=dF a:=by
 induction n with
 | zero=>rfl
 | succ n ih=>rw [List.replicate_succ,List.cons_append,qq,ih]
theorem Om (s:List Nat) (a:List At):dF (s.map .d++a)=dF a:=by
 induction s with
 | nil=>rfl
 | cons c s ih=>rw [List.map_cons,List.cons_append,Gz,ih]
theorem xP:∀ (s:List Nat) (a:List At),sj a=true→dF a=true→dF (s.map .p++a)=true
 | [],a,_,h=>h
 | [c],a,h1,h=>by
  cases a with
  | nil=>exact SD c
  | cons y a=>
   cases y with
   | k=>rw [qq] at h;show dF (.p c :: .k :: a)=true;rw [BZ];exact h
   | d e=>simp [sj] at h1
   | p e=>show dF (.p c :: .p e :: a)=true;rw [vj];exact h
 | c :: d :: s,a,h1,h=>by
  have:=xP (d :: s) a h1 h
  show dF (.p c :: .p d :: (s.map At.p++a))=true
  rw [vj];exact this
theorem xQ:∀ {A:List Pt},iz A=true→dF (av A)=true
 | [],_=>rfl
 | q :: R,h=>by
  obtain ⟨t1,t2,t3⟩:=Er h
  have ih:=xQ t1
  rw [bF]
  cases q with
  | keep n=>rw [Pt.av,Ca];exact ih
  | drop s=>rw [Pt.av,Om];exact ih
  | put s=>
   rw [Pt.av]
   refine xP s _ ?_ ih
   cases R with
   | nil=>rfl
   | cons r R=>
    have:=t3 r (by simp)
    rw [bF]
    cases r with
    | keep n=>
     cases n with
     | zero=>have:=dB t1 (.keep 0) (.head _);simp [Pt.n] at this
     | succ n=>simp [Pt.av,List.replicate_succ,sj]
    | drop s2=>simp [jS,Pt.word] at this
    | put s2=>simp [jS,Pt.word] at this
theorem Et {X:List Pt}(h:dF (av X)=true):av (ay X)=av X:=
 nJ _ _ 0 (xQ (cW X)) h (by rw [←b7,←b7,cH]) (by rw [←b8,←b8,bX])
structure CA (a:List At) (p:Nat) (x y:List At):Prop where
 ap:x++y=a
 ln:(aA x).length=p
 hd:kF y=true
theorem mX:∀ (a:List At) (i j:Nat),(tA i a).length=(tA j a).length
 | [],_,_=>rfl
 | .k :: a,i,j=>by simp [tA,mX a (i+1) (j+1)]
 | .d c :: a,i,j=>by simp only [tA];exact mX a (i+1) (j+1)
 | .p c :: a,i,j=>by simp [tA,mX a i j]
theorem Oo (c:List Pt):eF c=(tA 0 (av c)).length:=by rw [←b8,kZ]
section
variable {F:List Fn}{w n aC aY bK b9 dU cD bx SA i:Nat}
end
end Pv
namespace Pv
open Ev (D bZ bP TY BI ME T E Es Eo It S Ss Fn big deep rep cut bL)
abbrev Row:=List Nat×List Pt
noncomputable def Cb (rs:List Row):List (List Pt):=rs.map Prod.snd
noncomputable def who (st:List V) (o:List Nat):Tq→V
 | .at i=>st.getD i .bD
 | .sg _=>.str o
noncomputable def lef (st:List V) (r:Row):List V:=(told 0 r.2).map (who st r.1)
noncomputable def ows (st:List V) (rs:List Row):List V:=rs.foldl lef st
open Classical in
noncomputable def bB (t:List Nat) (a c:List Pt):List Pt:=if h:∃ X,Tn a c X t then h.choose else []
noncomputable def adO (K:List Row):Prop:=∀ A a b B,K=A++a :: b :: B→a.1≠b.1
structure Nm (t:List Nat) (rs K:List Row):Prop where
 ch:Ch t (Cb K)
 tx:Gy t (Cb K)=Gy t (Cb rs)
 ow:∀ st:List V,st.length=t.length→ows st K=ows st rs
 fm:∀ q∈K,ay q.2=q.2∧0<cst q.2
 ad:adO K
 ln:K.length≤rs.length
 sb:∀ q∈K,∃ r∈rs,r.1=q.1
 tt:Em (Cb K)≤Em (Cb rs)
section
variable {t:List Nat}{rs K:List Row}{o:List Nat}{c:List Pt}
end
end Pv
namespace Pv
open Ev (D bZ bP TY BI ME T E Es Eo It S Ss Fn big deep rep cut bL)
inductive Pa (f:Bool):List At→List At→List At→Prop
 | nil:Pa f [] [] []
 | p1 {a b r:List At} {c:Nat}:(f=true∨kF b=true)→Pa f a b r→Pa f (.p c :: a) b (.p c :: r)
 | p2 {a b r:List At} {c:Nat}:(f=false∨kF a=true)→Pa f a b r→Pa f a (.p c :: b) (.k :: r)
 | kk {a b r:List At}:Pa f a b r→Pa f (.k :: a) (.k :: b) (.k :: r)
 | dk {a b r:List At} {c:Nat}:Pa f a b r→Pa f (.d c :: a) (.k :: b) (.d c :: r)
 | kd {a b r:List At} {c:Nat}:Pa f a b r→Pa f (.k :: a) (.d c :: b) r
 | dd {a b r:List At} {c e:Nat}:Pa f a b r→Pa f (.d c :: a) (.d e :: b) r
theorem sV {f:Bool}{a b:List At}{c d:Nat}(h:f=true∨kF (.p d :: b)=true) (h2:f=false∨kF (.p c :: a)=true):False:=by
 rcases h with rfl | h
 ·rcases h2 with h2 | h2
  ·cases h2
  ·simp [kF] at h2
 ·simp [kF] at h
theorem Pa.uniq {f:Bool}{a b r:List At}(h:Pa f a b r):∀ {r'},Pa f a b r'→r=r':=by
 induction h with
 | nil=>intro r' h';cases h';rfl
 | p1 hc h ih=>
  intro r' h'
  cases h' with
  | p1 _ h'=>rw [ih h']
  | p2 hc' h'=>exact (sV hc hc').elim
 | p2 hc h ih=>
  intro r' h'
  cases h' with
  | p1 hc' h'=>exact (sV hc' hc).elim
  | p2 _ h'=>rw [ih h']
 | kk h ih=>intro r' h';cases h' with | kk h'=>rw [ih h']
 | dk h ih=>intro r' h';cases h' with | dk h'=>rw [ih h']
 | kd h ih=>intro r' h';cases h' with | kd h'=>rw [ih h']
 | dd h ih=>intro r' h';cases h' with | dd h'=>rw [ih h']
theorem Pa.all (f:Bool):∀ (n:Nat) (a b:List At) (t:List Nat),a.length+b.length≤n→aE (aA a) t=true→aE (aA b) t=true→∃ r,Pa f a b r
 | 0,a,b,t,hn,_,_=>by
  obtain rfl:a=[]:=List.length_eq_zero_iff.mp (by omega)
  obtain rfl:b=[]:=List.length_eq_zero_iff.mp (by omega)
  exact ⟨[],.nil⟩
 | n+1,.p c :: a,b,t,hn,h1,h2=>by
  by_cases hc:f=true∨kF b=true
  ·obtain ⟨r,h⟩:=Pa.all f n a b t (by simp at hn;omega) h1 h2
   exact ⟨_,.p1 hc h⟩
  ·cases b with
   | nil=>exact (hc (.inr rfl)).elim
   | cons y b=>
    cases y with
    | k=>exact (hc (.inr rfl)).elim
    | d e=>exact (hc (.inr rfl)).elim
    | p e=>
     obtain ⟨r,h⟩:=Pa.all f n (.p c :: a) b t (by simp at hn ⊢;omega) h1 h2
     exact ⟨_,.p2 (.inl (by cases f <;> simp at hc ⊢)) h⟩
 | n+1,[],.p c :: b,t,hn,h1,h2=>by
  obtain ⟨r,h⟩:=Pa.all f n [] b t (by simp at hn ⊢;omega) h1 h2
  exact ⟨_,.p2 (.inr rfl) h⟩
 | n+1,.k :: a,.p c :: b,t,hn,h1,h2=>by
  obtain ⟨r,h⟩:=Pa.all f n (.k :: a) b t (by simp at hn ⊢;omega) h1 h2
  exact ⟨_,.p2 (.inr rfl) h⟩
 | n+1,.d e :: a,.p c :: b,t,hn,h1,h2=>by
  obtain ⟨r,h⟩:=Pa.all f n (.d e :: a) b t (by simp at hn ⊢;omega) h1 h2
  exact ⟨_,.p2 (.inr rfl) h⟩
 | n+1,[],[],t,_,_,_=>⟨[],.nil⟩
 | n+1,[],.k :: b,t,_,h1,h2=>by cases t <;> simp [aA,aE] at h1 h2
 | n+1,[],.d e :: b,t,_,h1,h2=>by cases t <;> simp [aA,aE] at h1 h2
 | n+1,.k :: a,[],t,_,h1,h2=>by cases t <;> simp [aA,aE] at h1 h2
 | n+1,.d e :: a,[],t,_,h1,h2=>by cases t <;> simp [aA,aE] at h1 h2
 | n+1,.k :: a,.k :: b,t,hn,h1,h2=>by
  cases t with
  | nil=>simp [aA,aE] at h1
  | cons x t=>
   simp only [aA,aE,Bool.and_eq_true] at h1 h2
   obtain ⟨r,h⟩:=Pa.all f n a b t (by simp at hn;omega) h1.2 h2.2
   exact ⟨_,.kk h⟩
 | n+1,.d e :: a,.k :: b,t,hn,h1,h2=>by
  cases t with
  | nil=>simp [aA,aE] at h1
  | cons x t=>
   simp only [aA,aE,Bool.and_eq_true] at h1 h2
   obtain ⟨r,h⟩:=Pa.all f n a b t (by simp at hn;omega) h1.2 h2.2
   exact ⟨_,.dk h⟩
 | n+1,.k :: a,.d c :: b,t,hn,h1,h2=>by
  cases t with
  | nil=>simp [aA,aE] at h1
  | cons x t=>
   simp only [aA,aE,Bool.and_eq_true] at h1 h2
   obtain ⟨r,h⟩:=Pa.all f n a b t (by simp at hn;omega) h1.2 h2.2
   exact ⟨_,.kd h⟩
 | n+1,.d e :: a,.d c :: b,t,hn,h1,h2=>by
  cases t with
  | nil=>simp [aA,aE] at h1
  | cons x t=>
   simp only [aA,aE,Bool.and_eq_true] at h1 h2
   obtain ⟨r,h⟩:=Pa.all f n a b t (by simp at hn;omega) h1.2 h2.2
   exact ⟨_,.dd h⟩
structure Jn (f:Bool) (a b l m:List At) (W:Nat→List Tq):Prop where
 bk:Pa (!f) b a m
 t1:∀ (i:Nat) (U:List Tq),(tA U.length m).map (sub (U++tA i a))=W i
 t2:∀ (i:Nat) (U:List Tq),(tA U.length l).map (sub (U++tA i b))=W i
 ft:∀ t:List Nat,aE (aA a) t=true→aE (aA b) t=true→aE (aA m) (dA a t)=true∧aE (aA l) (dA b t)=true
theorem zo (U:List Tq) (q:Tq) (L m:List Tq):(Tq.at U.length :: m).map (sub (U++q :: L))=q :: m.map (sub ((U++[q])++L)):=by
 rw [List.map_cons,mW rfl];simp
theorem iI (U:List Tq) (q:Tq):(U++[q]).length=U.length+1:=by simp
theorem Pa.join {f:Bool}{a b l:List At}(h:Pa f a b l):∃ m W,Jn f a b l m W:=by
 induction h with
 | nil=>exact ⟨[],fun _=>[],.nil,fun _ _=>rfl,fun _ _=>rfl,fun t h _=>by cases t <;> simp [aA,aE,dA] at h ⊢⟩
 | @p1 a b r c hc h ih=>
  obtain ⟨m,W,J⟩:=ih
  refine ⟨.k :: m,fun i=>.sg c :: W i,.p2 (hc.imp (fun z=>by rw [z];rfl) id) J.bk,fun i U=>?_,fun i U=>?_,fun t h1 h2=>?_⟩
  ·simp only [tA];rw [zo,←iI U (.sg c),J.t1]
  ·simp only [tA,List.map_cons,sub];rw [J.t2]
  ·obtain ⟨g1,g2⟩:=J.ft t h1 h2
   exact ⟨by simp only [aA,dA,aE];simp [g1],g2⟩
 | @p2 a b r c hc h ih=>
  obtain ⟨m,W,J⟩:=ih
  refine ⟨.p c :: m,fun i=>.sg c :: W i,.p1 (hc.imp (fun z=>by rw [z];rfl) id) J.bk,fun i U=>?_,fun i U=>?_,fun t h1 h2=>?_⟩
  ·simp only [tA,List.map_cons,sub];rw [J.t1]
  ·simp only [tA];rw [zo,←iI U (.sg c),J.t2]
  ·obtain ⟨g1,g2⟩:=J.ft t h1 h2
   exact ⟨g1,by simp only [aA,dA,aE];simp [g2]⟩
 | @kk a b r h ih=>
  obtain ⟨m,W,J⟩:=ih
  refine ⟨.k :: m,fun i=>.at i :: W (i+1),.kk J.bk,fun i U=>?_,fun i U=>?_,fun t h1 h2=>?_⟩
  ·simp only [tA];rw [zo,←iI U (.at i),J.t1]
  ·simp only [tA];rw [zo,←iI U (.at i),J.t2]
  ·cases t with
   | nil=>simp [aA,aE] at h1
   | cons x t=>
    simp only [aA,aE,Bool.and_eq_true] at h1 h2
    obtain ⟨g1,g2⟩:=J.ft t h1.2 h2.2
    exact ⟨by simp [aA,dA,aE,g1],by simp [aA,dA,aE,g2]⟩
 | @dk a b r c h ih=>
  obtain ⟨m,W,J⟩:=ih
  refine ⟨m,fun i=>W (i+1),.kd J.bk,fun i U=>?_,fun i U=>?_,fun t h1 h2=>?_⟩
  ·simp only [tA];exact J.t1 (i+1) U
  ·simp only [tA]
   have:=J.t2 (i+1) (U++[.at i])
   rw [iI] at this
   rw [←this];simp
  ·cases t with
   | nil=>simp [aA,aE] at h1
   | cons x t=>
    simp only [aA,aE,Bool.and_eq_true] at h1 h2
    obtain ⟨g1,g2⟩:=J.ft t h1.2 h2.2
    have hx:=h1.1
    simp at hx
    exact ⟨by simpa [dA] using g1,by simp [aA,dA,aE,g2,hx]⟩
 | @kd a b r c h ih=>
  obtain ⟨m,W,J⟩:=ih
  refine ⟨.d c :: m,fun i=>W (i+1),.dk J.bk,fun i U=>?_,fun i U=>?_,fun t h1 h2=>?_⟩
  ·simp only [tA]
   have:=J.t1 (i+1) (U++[.at i])
   rw [iI] at this
   rw [←this];simp
  ·simp only [tA];exact J.t2 (i+1) U
  ·cases t with
   | nil=>simp [aA,aE] at h1
   | cons x t=>
    simp only [aA,aE,Bool.and_eq_true] at h1 h2
    obtain ⟨g1,g2⟩:=J.ft t h1.2 h2.2
    have hx:=h2.1
    simp at hx
    exact ⟨by simp [aA,dA,aE,g1,hx],by simpa [dA] using g2⟩
 | @dd a b r c e h ih=>
  obtain ⟨m,W,J⟩:=ih
  refine ⟨m,fun i=>W (i+1),.dd J.bk,fun i U=>?_,fun i U=>?_,fun t h1 h2=>?_⟩
  ·simp only [tA];exact J.t1 (i+1) U
  ·simp only [tA];exact J.t2 (i+1) U
  ·cases t with
   | nil=>simp [aA,aE] at h1
   | cons x t=>
    simp only [aA,aE,Bool.and_eq_true] at h1 h2
    obtain ⟨g1,g2⟩:=J.ft t h1.2 h2.2
    exact ⟨by simpa [dA] using g1,by simpa [dA] using g2⟩
theorem Pa.UZ {f:Bool}:∀ (s:List Nat) {a b r:List At},(f=true∨kF b=true)→Pa f (s.map .p++a) b r→∃ r',r=s.map .p++r'∧Pa f a b r'
 | [],a,b,r,_,h=>⟨r,rfl,h⟩
 | c :: s,a,b,r,hc,h=>by
  rw [List.map_cons,List.cons_append] at h
  cases h with
  | p1 _ h=>
   obtain ⟨r',rfl,h'⟩:=Pa.UZ s hc h
   exact ⟨r',rfl,h'⟩
  | p2 hc' h=>exact (sV hc hc').elim
theorem Pa.U0 {f:Bool}:∀ (s:List Nat) {a b r:List At},(f=false∨kF a=true)→Pa f a (s.map .p++b) r→∃ r',r=List.replicate s.length .k++r'∧Pa f a b r'
 | [],a,b,r,_,h=>⟨r,rfl,h⟩
 | c :: s,a,b,r,hc,h=>by
  rw [List.map_cons,List.cons_append] at h
  cases h with
  | p1 hc' h=>exact (sV hc' hc).elim
  | p2 _ h=>
   obtain ⟨r',rfl,h'⟩:=Pa.U0 s hc h
   exact ⟨r',by simp [List.replicate_succ],h'⟩
theorem Pa.Gu {f:Bool}:∀ (n:Nat) {a b r:List At},Pa f (List.replicate n .k++a) (List.replicate n .k++b) r→∃ r',r=List.replicate n .k++r'∧Pa f a b r'
 | 0,a,b,r,h=>⟨r,rfl,h⟩
 | n+1,a,b,r,h=>by
  rw [List.replicate_succ,List.cons_append,List.cons_append] at h
  cases h with
  | kk h=>obtain ⟨r',rfl,h'⟩:=Pa.Gu n h;exact ⟨r',by simp [List.replicate_succ],h'⟩
theorem Pa.U1 {f:Bool}:∀ (s:List Nat) {a b r:List At},Pa f (s.map .d++a) (List.replicate s.length .k++b) r→∃ r',r=s.map .d++r'∧Pa f a b r'
 | [],a,b,r,h=>⟨r,rfl,h⟩
 | c :: s,a,b,r,h=>by
  rw [List.map_cons,List.cons_append,List.length_cons,List.replicate_succ,List.cons_append] at h
  cases h with
  | dk h=>obtain ⟨r',rfl,h'⟩:=Pa.U1 s h;exact ⟨r',rfl,h'⟩
theorem Pa.Gv {f:Bool}:∀ (s:List Nat) {a b r:List At},Pa f (List.replicate s.length .k++a) (s.map .d++b) r→Pa f a b r
 | [],a,b,r,h=>h
 | c :: s,a,b,r,h=>by
  rw [List.map_cons,List.cons_append,List.length_cons,List.replicate_succ,List.cons_append] at h
  cases h with
  | kd h=>exact Pa.Gv s h
theorem Pa.U3 {f:Bool}:∀ (s u:List Nat) {a b r:List At},s.length=u.length→Pa f (s.map .d++a) (u.map .d++b) r→Pa f a b r
 | [],[],a,b,r,_,h=>h
 | [],_ :: _,_,_,_,hl,_=>by simp at hl
 | _ :: _,[],_,_,_,hl,_=>by simp at hl
 | c :: s,e :: u,a,b,r,hl,h=>by
  rw [List.map_cons,List.cons_append,List.map_cons,List.cons_append] at h
  cases h with
  | dd h=>exact Pa.U3 s u (by simpa using hl) h
theorem Pa.two {f:Bool}{A B r:List At}(p q:Pt) (hp:cT p=false) (hq:cT q=false) (hn:p.n=q.n) (h:Pa f (p.av++A) (q.av++B) r):∃ r',r=av (if cQ q then [p] else [])++r'∧Pa f A B r':=by
 cases p with
 | put s=>cases hp
 | keep k=>
  cases q with
  | put s=>cases hq
  | keep k'=>simp only [Pt.n] at hn;subst hn;obtain ⟨r',rfl,h'⟩:=Pa.Gu k h;exact ⟨r',by simp [cQ,av,Pt.av],h'⟩
  | drop s=>simp only [Pt.n] at hn;subst hn;exact ⟨r,by simp [cQ,av],Pa.Gv s h⟩
 | drop s=>
  cases q with
  | put s=>cases hq
  | keep k'=>simp only [Pt.n] at hn;subst hn;obtain ⟨r',rfl,h'⟩:=Pa.U1 s h;exact ⟨r',by simp [cQ,av,Pt.av],h'⟩
  | drop u=>simp only [Pt.n] at hn;exact ⟨r,by simp [cQ,av],Pa.U3 s u hn h⟩
noncomputable def kG:List Pt→Bool
 | .put _ :: _=>true
 | _=>false
theorem Cc {A:List Pt}(h:∀ p∈A,0<p.n):kF (av A) = !kG A:=by
 cases A with
 | nil=>rfl
 | cons p A=>
  have hp:=h p (.head _)
  rw [bF]
  cases p with
  | keep k=>cases k with | zero=>simp [Pt.n] at hp | succ k=>rfl
  | drop s=>cases s with | nil=>simp [Pt.n] at hp | cons c s=>rfl
  | put s=>cases s with | nil=>simp [Pt.n] at hp | cons c s=>rfl
theorem Oq {f:Bool}{q:Pt}{B:List Pt}{r:List At}(hq:cT q=false) (h0:0<q.n) (h:Pa f (av []) (av (q :: B)) r):False:=by
 rw [bF] at h
 cases q with
 | put s=>cases hq
 | keep k=>cases k with | zero=>simp [Pt.n] at h0 | succ k=>cases h
 | drop s=>cases s with | nil=>simp [Pt.n] at h0 | cons c s=>cases h
theorem Ot {f:Bool}{q:Pt}{B:List Pt}{r:List At}(hq:cT q=false) (h0:0<q.n) (h:Pa f (av (q :: B)) (av []) r):False:=by
 rw [bF] at h
 cases q with
 | put s=>cases hq
 | keep k=>cases k with | zero=>simp [Pt.n] at h0 | succ k=>cases h
 | drop s=>cases s with | nil=>simp [Pt.n] at h0 | cons c s=>cases h
noncomputable def Eu (lK:Nat):S:=.iff (.cl lK (.cons (.v 0) (.cons (.v 1) .nil))) (.cons (.fk) .nil) .nil
noncomputable def Ew (bN:Nat):S:=.set 3 (.ee (.rev (.cl bN (.cons (.v 0) .nil))))
noncomputable def Ex (bN:Nat):S:=.set 4 (.ee (.rev (.cl bN (.cons (.v 1) .nil))))
noncomputable def Ey:S:=.set 5 (.lst .nil)
noncomputable def vn (eS:Nat) (bw:Nat) (dS:Nat):Ss:=(.cons (.iff (.an (.cl eS (.cons (.v 3) .nil)) (.orr (.v 2) (.nt (.cl eS (.cons (.v 4) .nil))))) (.cons (.exp (.me .append (.v 5) (.cons (.me .pop (.v 3) .nil) .nil))) .nil) (.cons (.iff (.cl eS (.cons (.v 4) .nil)) (.cons (.exp (.me .append (.v 5) (.cons (.tup (.cons (.c (.str [107,101,101,112])) (.cons (.cl bw (.cons (.me .pop (.v 4) .nil) .nil)) .nil))) .nil))) .nil) (.cons (.set 6 (.bi .min (.cons (.cl bw (.cons (.ix (.v 3) (.neg (.c (.int 1)))) .nil)) (.cons (.cl bw (.cons (.ix (.v 4) (.neg (.c (.int 1)))) .nil)) .nil)))) (.cons (.set 7 (.cl dS (.cons (.v 3) (.cons (.v 6) .nil)))) (.cons (.iff (.cmp .eq (.ix (.cl dS (.cons (.v 4) (.cons (.v 6) .nil))) (.c (.int 0))) (.c (.str [107,101,101,112]))) (.cons (.exp (.me .append (.v 5) (.cons (.v 7) .nil))) .nil) .nil) .nil)))) .nil)) .nil)
noncomputable def Ez (eS:Nat) (bw:Nat) (dS:Nat):S:=.mw (.orr (.v 3) (.v 4)) (vn eS bw dS)
noncomputable def EA (bN:Nat):S:=.ret (.cl bN (.cons (.iw (.v 5)) .nil))
noncomputable def vp (lK:Nat) (bN:Nat) (eS:Nat) (bw:Nat) (dS:Nat):Fn:=⟨3,8,(.cons (Eu lK) (.cons (Ew bN) (.cons (Ex bN) (.cons Ey (.cons (Ez eS bw dS) (.cons (EA bN) .nil))))))⟩
noncomputable def sC:S:=.ret (.an (.cmp .gt (.bi .len (.cons (.v 0) .nil)) (.c (.int 0))) (.cmp .eq (.ix (.ix (.v 0) (.neg (.c (.int 1)))) (.c (.int 0))) (.c (.str [112,117,116]))))
noncomputable def oq:Fn:=⟨1,1,(.cons sC .nil)⟩
section
variable {F:List Fn}{w n aC aY bK cD bx fK kH i:Nat}
theorem vq (h:F[i]?=some oq) (A:List Pt):run F w (n+1) i [.bor (A.map Pt.v).reverse]=some (.bl (kG A),[(A.map Pt.v).reverse]):=by
 refine cC h rfl ?_
 cases A with
 | nil=>exact ai (bW (Xz (b:=false) (bV (fP (aS (aB rfl) bg) jn) (bE rfl) yX) (fun h=>absurd h (by decide)) fun _=>⟨rfl,rfl⟩) ⟨rfl,rfl⟩)
 | cons p A=>
  rw [List.map_cons,List.reverse_cons]
  have gt:cop .gt (.int (((A.map Pt.v).reverse++[p.v]).length:Nat)) (.int 0)=some true:=by rw [yX];exact congrArg some (decide_eq_true (by simp))
  cases p with
  | keep k=>exact ai (bW (yW (bV (fP (aS (aB rfl) bg) jn) (bE rfl) gt) (bV (dH (dH (aB rfl) (nj (bE rfl)) eg) (bE rfl) rfl) (bE rfl) iE)) ⟨rfl,rfl⟩)
  | drop s=>exact ai (bW (yW (bV (fP (aS (aB rfl) bg) jn) (bE rfl) gt) (bV (dH (dH (aB rfl) (nj (bE rfl)) eg) (bE rfl) rfl) (bE rfl) iE)) ⟨rfl,rfl⟩)
  | put s=>exact ai (bW (yW (bV (fP (aS (aB rfl) bg) jn) (bE rfl) gt) (bV (dH (dH (aB rfl) (nj (bE rfl)) eg) (bE rfl) rfl) (bE rfl) iE)) ⟨rfl,rfl⟩)
theorem GA {P:aP}{g j:Nat}{fr:Fr}{v:V}{l l':List V}(e:fr[j]?=some (some (.own l))) (h:P g [.bor l]=some (v,[l'])):eU P g [.inl j] fr=.ok v (fr.set j (some (.own l'))):=by
 have e1:lent fr j=some (.bor l):=by rw [xD,e];rfl
 simp [eU,bT,args,e1,h,back,e,Sl.with]
noncomputable def fG (one other:List Pt) (f:Bool) (A B C:List Pt) (a b:Option Sl):Fr:=[some (.val (aO one)),some (.val (aO other)),some (.val (.bl f)),some (.own (A.map Pt.v).reverse),some (.own (B.map Pt.v).reverse),some (.own (C.map Pt.v)),a,b]
noncomputable def U4 (one other:List Pt) (f:Bool) (r:List At) (N k:Nat) (fr:Fr):Prop:=∃ A B C r' a b,Pa f (av A) (av B) r'∧av C++r'=r∧(∀ p∈A,0<p.n)∧(∀ p∈B,0<p.n)∧C.length+k≤N∧k=tot A+tot B∧vo a∧vo b∧fr=fG one other f A B C a b
noncomputable def U5 (one other:List Pt) (f:Bool) (r:List At) (N t:Nat) (g:Fl) (fr:Fr):Prop:=g=.nx∧∃ j,j<t∧U4 one other f r N j fr
theorem Ou {C:List Pt}(lC:C.length≤5000) (d:Pt) (fr:Fr):gA .append 5 [d.v] fr (some (some (.own (C.map Pt.v))))=.ok .bD (fr.set 5 (some (.own ((C++[d]).map Pt.v)))):=by
 rw [List.map_append];exact nh (by simp;omega)
variable (hs:F[aC]?=some fc) (hp:F[cD]?=some iH) (ht:F[bx]?=some (kE cD aC)) (Cd:F[fK]?=some oq) {one other:List Pt}{f:Bool}{r:List At}{N:Nat}
include hs hp ht Cd
theorem Ce (hN:N≤5000) (A B C:List Pt) (r':List At) (a b:Option Sl) (hne:A≠[]∨B≠[]) (h:Pa f (av A) (av B) r') (hC:av C++r'=r) (hA:∀ p∈A,0<p.n) (hB:∀ p∈B,0<p.n) (hk:C.length+(tot A+tot B)≤N) (ha:vo a) (hb:vo b) :
  Wp (exs (run F w (n+2)) w (vn fK aC bx) (fG one other f A B C a b)) (U5 one other f r N (tot A+tot B)):=by
 have lC:C.length≤5000:=by omega
 have pA:∀ B C a b,eU (run F w (n+2)) fK [.inl 3] (fG one other f A B C a b)=.ok (.bl (kG A)) (fG one other f A B C a b):=fun B C a b=>GA (l:=(A.map Pt.v).reverse) rfl (vq (w:=w) (n:=n+1) Cd A)
 have pB:∀ A C a b,eU (run F w (n+2)) fK [.inl 4] (fG one other f A B C a b)=.ok (.bl (kG B)) (fG one other f A B C a b):=fun A C a b=>GA (l:=(B.map Pt.v).reverse) rfl (vq (w:=w) (n:=n+1) Cd B)
 have nA:=Cc hA
 have nB:=Cc hB
 by_cases c1:kG A=true∧(f=true∨kG B=false)
 ·obtain ⟨cA,cB⟩:=c1
  have t1:aL (run F w (n+2)) (.an (.cl fK (.cons (.v 3) .nil)) (.orr (.v 2) (.nt (.cl fK (.cons (.v 4) .nil))))) (fG one other f A B C a b)=.ok true (fG one other f A B C a b):=by
   refine gf (aD rfl (aX (jF rfl aG) (pA B C a b)) cA) ?_
   by_cases hf:f=true
   ·exact pZ (aD rfl (aB rfl) hf)
   ·exact dZ (aD rfl (aB rfl) (by simpa using hf)) (qa (b:=false) (aD rfl (aX (jF rfl aG) (pB A C a b)) (cB.resolve_left hf)))
  refine ai (aM t1 (fun _=>?_) fun h=>absurd h (by decide))
  cases A with
  | nil=>cases cA
  | cons p A'=>
   cases p with
   | keep k=>cases cA
   | drop s=>cases cA
   | put s=>
    rw [bF] at h
    obtain ⟨r2,e2,h2⟩:=Pa.UZ s (by rw [nB];rcases cB with z | z <;> simp [z]) h
    have hs1:=hA (.put s) (.head _)
    unfold fG
    rw [List.map_cons,List.reverse_cons]
    refine ai (fX (nq rfl rfl (aS (nq rfl rfl bg ni) bg) (Ou lC (.put s) _)) (az (az ?_)))
    refine ⟨rfl,tot A'+tot B,by rw [aQ];omega,A',B,C++[.put s],r2,a,b,h2,?_,fun x hx=>hA x (.tail _ hx),hB,?_,rfl,ha,hb,rfl⟩
    ·rw [←hC,e2,fM];simp [av,Pt.av]
    ·rw [aQ] at hk;simp;omega
 ·have t1:aL (run F w (n+2)) (.an (.cl fK (.cons (.v 3) .nil)) (.orr (.v 2) (.nt (.cl fK (.cons (.v 4) .nil))))) (fG one other f A B C a b)=.ok false (fG one other f A B C a b):=by
   by_cases cA:kG A=true
   ·have cf:f=false:=by cases f with | false=>rfl | true=>exact (c1 ⟨cA,.inl rfl⟩).elim
    have cB:kG B=true:=by cases e:kG B with | true=>rfl | false=>exact (c1 ⟨cA,.inr e⟩).elim
    exact gf (aD rfl (aX (jF rfl aG) (pA B C a b)) cA) (dZ (aD rfl (aB rfl) cf) (qa (b:=true) (aD rfl (aX (jF rfl aG) (pB A C a b)) cB)))
   ·exact mS (aD rfl (aX (jF rfl aG) (pA B C a b)) (by simpa using cA))
  refine ai (aM t1 (fun h=>absurd h (by decide)) fun _=>?_)
  by_cases cB:kG B=true
  ·refine ai (aM (b:=true) (aD rfl (aX (jF rfl aG) (pB A C a b)) cB) (fun _=>?_) fun h=>absurd h (by decide))
   cases B with
   | nil=>cases cB
   | cons q B'=>
    cases q with
    | keep k=>cases cB
    | drop s=>cases cB
    | put s=>
     rw [bF] at h
     have SE:f=false∨kF (av A)=true:=by
      rw [nA]
      cases e:kG A with
      | false=>exact .inr rfl
      | true=>exact .inl (by cases f with | false=>rfl | true=>exact (c1 ⟨e,.inl rfl⟩).elim)
     obtain ⟨r2,e2,h2⟩:=Pa.U0 s SE h
     have hs1:=hB (.put s) (.head _)
     have sl:s.length≤5000:=by rw [aQ] at hk;simp [Pt.n] at hk;omega
     have z:=fun fr=>bO (fr:=fr) (gh (F:=F) (w:=w) (n:=n+1) hs (.put s) (by simp [Pt.n];omega))
     unfold fG
     rw [List.map_cons,List.reverse_cons]
     refine ai (fX (nq rfl rfl (aS (je (aS (bE rfl) (aS (aX (aJ rfl (nq rfl rfl bg ni) aG) (z _)) bg)) nc) bg) (Ou lC (.keep s.length) _)) (az (az (az ?_))))
     refine ⟨rfl,tot A+tot B',by rw [aQ];omega,A,B',C++[.keep s.length],r2,a,b,h2,?_,hA,fun x hx=>hB x (.tail _ hx),?_,rfl,ha,hb,rfl⟩
     ·rw [←hC,e2,fM];simp [av,Pt.av]
     ·rw [aQ] at hk;simp [Pt.n] at hk hs1 ⊢;omega
  ·have cA:kG A=false:=by
    cases e:kG A with
    | false=>rfl
    | true=>exact (c1 ⟨e,.inr (by simpa using cB)⟩).elim
   refine ai (aM (b:=false) (aD rfl (aX (jF rfl aG) (pB A C a b)) (by simpa using cB)) (fun h=>absurd h (by decide)) fun _=>?_)
   cases A with
   | nil=>
    cases B with
    | nil=>exact absurd hne (by simp)
    | cons q B'=>exact (Oq (by cases q <;> first | rfl | exact absurd rfl cB) (hB q (.head _)) h).elim
   | cons p A'=>
    have hpp:cT p=false:=by cases p <;> first | rfl | cases cA
    cases B with
    | nil=>exact (Ot hpp (hA p (.head _)) h).elim
    | cons q B'=>
     have U6:cT q=false:=by cases q <;> first | rfl | exact absurd rfl cB
     have hp0:=hA p (.head _)
     have Ar:=hB q (.head _)
     obtain ⟨m,hm1,hm2,hm3⟩:∃ m:Nat,m≤p.n∧m≤q.n∧(m=p.n∨m=q.n):=⟨min p.n q.n,by omega,by omega,by omega⟩
     have mn:cX .min [.int p.n,.int q.n]=some (.int m):=by
      rw [A7]
      split
      ·congr 2;omega
      ·congr 2;omega
     rw [aQ,aQ] at hk
     have lA:=dD (c:=A') fun x hx=>hA x (.tail _ hx)
     have lB:=dD (c:=B') fun x hx=>hB x (.tail _ hx)
     have h3:Pa f ((p.tk m).av++av (iA m p++A')) ((q.tk m).av++av (iA m q++B')) r':=by
      rw [fM,fM,←List.append_assoc,←List.append_assoc,←nF hm1,←nF hm2,←bF,←bF];exact h
     obtain ⟨r2,e2,h4⟩:=Pa.two (p.tk m) (q.tk m) (by rw [nH.2];exact hpp) (by rw [nH.2];exact U6) (by rw [(qp hm1).2,(qp hm2).2]) h3
     have z1:=fun fr=>bO (fr:=fr) (gh (F:=F) (w:=w) (n:=n+1) hs p (by omega))
     have z2:=fun fr=>bO (fr:=fr) (gh (F:=F) (w:=w) (n:=n+1) hs q (by omega))
     have k1:=jU (F:=F) (w:=w) (n:=n) hs hp ht (A'.map Pt.v).reverse p m hm1 (by omega) (by simp;omega)
     have k2:=jU (F:=F) (w:=w) (n:=n) hs hp ht (B'.map Pt.v).reverse q m hm2 (by omega) (by simp;omega)
     rw [←xO] at k1 k2
     have fin:∀ C' b',vo b'→av C'++r2=r→C'.length≤C.length+1→U5 one other f r N (tot (p :: A')+tot (q :: B')) .nx (fG one other f (iA m p++A') (iA m q++B') C' (some (.val (.int m))) b'):=fun C' b' vb e3 e4=>by
      refine ⟨rfl,_,?_,_,_,_,r2,_,_,h4,e3,?_,?_,?_,rfl,.val,vb,rfl⟩
      ·rw [dw,dw,gR,gR,aQ,aQ];omega
      ·intro x hx
       rcases List.mem_append.mp hx with hx | hx
       ·exact nG m p x hx
       ·exact hA x (.tail _ hx)
      ·intro x hx
       rcases List.mem_append.mp hx with hx | hx
       ·exact nG m q x hx
       ·exact hB x (.tail _ hx)
      ·rw [dw,dw,gR,gR];omega
     unfold fG
     rw [List.map_cons,List.reverse_cons,List.map_cons,List.reverse_cons]
     refine ai (br (fP (aS (aX (aJ rfl (dH (aB rfl) (nj (bE rfl)) eg) aG) (z1 _)) (aS (aX (aJ rfl (dH (aB rfl) (nj (bE rfl)) eg) aG) (z2 _)) bg)) mn) rfl (eZ rfl ha) ?_)
     refine ai (br (aX (jF rfl (aJ rfl (aB rfl) aG)) (qo rfl k1)) rfl (eZ rfl hb) ?_)
     cases q with
     | put s=>cases U6
     | keep k=>
      have Ov:r'=(p.tk m).av++r2:=by rw [e2];simp [cQ,Pt.tk,av]
      refine ai (aM (b:=true) (aD rfl (bV (dH (aX (jF rfl (aJ rfl (aB rfl) aG)) (qo rfl k2)) (bE rfl) rfl) (bE rfl) iE) rfl) (fun _=>?_) fun h=>absurd h (by decide))
      refine ai (fX (nq rfl rfl (aS (aB rfl) bg) (Ou lC (p.tk m) _)) (az (az (az (az ?_)))))
      exact fin (C++[p.tk m]) _ .val (by rw [←hC,Ov,fM];simp [av]) (by simp)
     | drop s=>
      have Ov:r'=r2:=by rw [e2];simp [cQ,Pt.tk,av]
      refine ai (aM (b:=false) (aD rfl (bV (dH (aX (jF rfl (aJ rfl (aB rfl) aG)) (qo rfl k2)) (bE rfl) rfl) (bE rfl) iE) rfl) (fun h=>absurd h (by decide)) fun _=>az (az (az ?_)))
      exact az (fin C _ .val (by rw [←hC,Ov]) (by omega))
omit hs hp ht Cd in
theorem Pa.len {f:Bool}{a b r:List At}(h:Pa f a b r):r.length≤a.length+b.length:=by
 induction h with
 | nil=>exact Nat.le_refl _
 | p1 _ _ ih=>simp;omega
 | p2 _ _ ih=>simp;omega
 | kk _ ih=>simp;omega
 | dk _ ih=>simp;omega
 | kd _ ih=>simp;omega
 | dd _ ih=>simp;omega
theorem EB (hst:F[aY]?=some eE) (hf:F[bK]?=some (iS aY)) (hd:F[i]?=some (vp kH bK fK aC bx)) (hw:5000<w) (one other:List Pt) (f:Bool) (t:List Nat) (h1:aT one t=true) (h2:aT other t=true) (b1:tot one≤2000) (b2:tot other≤2000) (l1:one.length≤2000) (l2:other.length≤2000)
  (hcl:run F w (n+2) kH [.val (aO one),.val (aO other)]=some (.lst [],[])) :
  ∃ ps,Pa f (av (ay one)) (av (ay other)) (av ps)∧run F w (n+3) i [.val (aO one),.val (aO other),.val (.bl f)]=some (aO (ay ps),[]):=by
 have f1:aE (aA (av (ay one))) t=true:=by rw [←b7,cH,←eK];exact h1
 have f2:aE (aA (av (ay other))) t=true:=by rw [←b7,cH,←eK];exact h2
 obtain ⟨r,hr⟩:=Pa.all f _ _ _ t (Nat.le_refl _) f1 f2
 have c0:=fun fr=>call2 (fr:=fr) hcl
 have c3:=fun fr=>bO (fr:=fr) (eN (F:=F) (w:=w) (n:=n) hst hf one (by omega) (by omega))
 have c4:=fun fr=>bO (fr:=fr) (eN (F:=F) (w:=w) (n:=n) hst hf other (by omega) (by omega))
 have t1:=cV one
 have t2:=cV other
 have g1:=dD (dB (cW one))
 have g2:=dD (dB (cW other))
 have m1:dX ((ay one).map Pt.v).reverse=some (.lst ((ay one).map Pt.v).reverse):=cS (bS (by simp;omega))
 have m2:dX ((ay other).map Pt.v).reverse=some (.lst ((ay other).map Pt.v).reverse):=cS (bS (by simp;omega))
 have key:Wp (exs (run F w (n+2)) w (vp kH bK fK aC bx).body (fy (vp kH bK fK aC bx) [.val (aO one),.val (aO other),.val (.bl f)])) fun g fr=>∃ ps,av ps=r∧g=.ret (aO (ay ps))∧outs 3 fr=[]:=by
  refine ai (aM (b:=false) (aD rfl (aX (aJ rfl (aB rfl) (aJ rfl (aB rfl) aG)) (c0 _)) rfl) (fun h=>absurd h (by decide)) fun _=>az ?_)
  refine ai (gg (l:=((ay one).map Pt.v).reverse) (jQ (qb (aX (aJ rfl (aB rfl) aG) (c3 _)) rfl) m1) rfl rfl ?_)
  refine ai (gg (l:=((ay other).map Pt.v).reverse) (jQ (qb (aX (aJ rfl (aB rfl) aG) (c4 _)) rfl) m2) rfl rfl ?_)
  refine ai (gg (l:=[]) (pX bg pT) rfl rfl ?_)
  refine ai (Gh (pW (U4 one other f r (tot one+tot other)) (fun k fr hI=>?_) w (tot one+tot other) _ (by omega) ⟨ay one,ay other,[],r,none,none,hr,rfl,dB (cW one),dB (cW other),by simp,by omega,.none,.none,rfl⟩))
  obtain ⟨A,B,C,r',a,b,hT,hC,hA,hB,hk,hkk,BV,U7,rfl⟩:=hI
  by_cases hne:A≠[]∨B≠[]
  ·have ht1:aL (run F w (n+2)) (.orr (.v 3) (.v 4)) (fG one other f A B C a b)=.ok true (fG one other f A B C a b):=by
    cases A with
    | cons p A=>unfold fG;rw [List.map_cons,List.reverse_cons];exact pZ (aD rfl (aB rfl) iN)
    | nil=>
     cases B with
     | nil=>simp at hne
     | cons q B=>unfold fG;rw [List.map_cons,List.reverse_cons];exact dZ (aD rfl (aB rfl) rfl) (aD rfl (aB rfl) iN)
   refine ⟨true,_,ht1,?_⟩
   dsimp only
   rw [if_pos rfl]
   refine (Ce hs hp ht Cd (N:=tot one+tot other) (by omega) A B C r' a b hne hT hC hA hB (by omega) BV U7).mono fun g fr ⟨hg,hx⟩=>?_
   subst hg hkk
   exact hx
  ·obtain ⟨rfl,rfl⟩:A=[]∧B=[]:=by simpa using hne
   refine ⟨false,_,dZ (aD rfl (aB rfl) rfl) (aD rfl (aB rfl) rfl),?_⟩
   dsimp only
   rw [if_neg (by decide)]
   cases hT
   rw [List.append_nil] at hC
   subst hC
   have lC:=hr.len
   rw [dz,dz,dz] at lC
   have mt:toT (.lst (C.map Pt.v))=some (aO C):=by rw [qS];exact iR (bS (by simp;omega))
   have c5:=fun fr=>bO (fr:=fr) (eN (F:=F) (w:=w) (n:=n) hst hf C (by omega) (by omega))
   have sh:gq (fG one other f [] [] C a b)=[some (.val (aO one)),some (.val (aO other)),some (.val (.bl f)),some (.val (.lst [])),some (.val (.lst [])),some (.val (.lst (C.map Pt.v))),a,b]:=by
    show _ :: _ :: _ :: _ :: _ :: _ :: [a.map Sl.dj,b.map Sl.dj]=_
    rw [cO BV,cO U7];rfl
   refine ai (bW (v:=aO (ay C)) (af:=[some (.val (aO one)),some (.val (aO other)),some (.val (.bl f)),some (.val (.lst [])),some (.val (.lst [])),some (.val (.lst (C.map Pt.v))),a,b]) ?_ ⟨C,rfl,rfl,rfl⟩)
   rw [sh]
   exact aX (aJ rfl (pY (aB rfl) mt) aG) (c5 _)
 obtain ⟨g,fr,e,ps,hps,hg,ho⟩:=key
 exact ⟨ps,hps▸hr,cC hd rfl ⟨g,fr,e,hg,ho⟩⟩
end
theorem Ow {one other ps:List Pt}{f:Bool}{t:List Nat}(h1:aT one t=true) (h2:aT other t=true) (h:Pa f (av (ay one)) (av (ay other)) (av ps)):aT (ay ps) (aV other t)=true:=by
 obtain ⟨m,W,J⟩:=h.join
 have f1:aE (aA (av (ay one))) t=true:=by rw [←b7,cH,←eK];exact h1
 have f2:aE (aA (av (ay other))) t=true:=by rw [←b7,cH,←eK];exact h2
 rw [iF,eK,b7,←gm other,iG]
 exact (J.ft t f1 f2).2
theorem GB {one other ps qs X Y:List Pt}{f:Bool}{t:List Nat}(h:Pa f (av (ay one)) (av (ay other)) (av ps)) (h2:Pa (!f) (av (ay other)) (av (ay one)) (av qs)) (hX:Tn one (ay qs) X t) (hY:Tn other (ay ps) Y t):X=Y:=by
 obtain ⟨m,W,J⟩:=h.join
 have e:=J.bk.uniq h2
 refine zk hX.vc hY.vc hX.fit hY.fit ?_
 rw [hX.vd,hY.vd,bX,bX,←bX one,←bX other,b8 qs,b8 ps,b8 (ay one),b8 (ay other),←e]
 have a1:=J.t1 0 []
 have a2:=J.t2 0 []
 simp only [List.length_nil,List.nil_append] at a1 a2
 rw [a1,a2]
noncomputable def pS:List At→List Nat
 | []=>[]
 | .p c :: a=>c :: pS a
 | _ :: a=>pS a
theorem kI:∀ a b:List At,pS (a++b)=pS a++pS b
 | [],_=>rfl
 | .k :: a,b=>kI a b
 | .d _ :: a,b=>kI a b
 | .p c :: a,b=>congrArg (c :: ·) (kI a b)
theorem SG (n:Nat):pS (List.replicate n .k)=[]:=by
 induction n with
 | zero=>rfl
 | succ n ih=>exact ih
theorem Pa.zp {f:Bool}{a b r:List At}(h:Pa f a b r):pS r=pS a:=by
 induction h with
 | nil=>rfl
 | p1 _ _ ih=>exact congrArg (List.cons _) ih
 | p2 _ _ ih=>exact ih
 | kk _ ih=>exact ih
 | dk _ ih=>exact ih
 | kd _ ih=>exact ih
 | dd _ ih=>exact ih
noncomputable def Ox:List Tq→List Nat
 | []=>[]
 | .sg c :: a=>c :: Ox a
 | _ :: a=>Ox a
theorem qt:∀ (a:List At) (i:Nat),pS a=Ox (tA i a)
 | [],_=>rfl
 | .k :: a,i=>qt a (i+1)
 | .d _ :: a,i=>qt a (i+1)
 | .p c :: a,i=>congrArg (c :: ·) (qt a i)
theorem Kl (c:List Pt):pS (av (ay c))=pS (av c):=by rw [qt _ 0,qt _ 0,←b8,←b8,bX]
noncomputable def fH:List (List Nat)→List (List Nat)→Nat
 | x :: a,y :: b=>(if x≠[]∧y≠[] then 1 else 0)+fH a b
 | _,_=>0
theorem Pa.cost {f:Bool}{a b r:List At}(h:Pa f a b r):cA a=cA r+fH (aA a) (aA b):=by
 induction h with
 | nil=>rfl
 | p1 _ _ ih=>simp only [cA,aA,ih];omega
 | p2 _ _ ih=>simp only [cA,aA,ih]
 | kk _ ih=>simp only [cA,aA,fH,ih];simp
 | dk _ ih=>simp only [cA,aA,fH,ih];simp;omega
 | kd _ ih=>simp only [cA,aA,fH,ih];simp
 | dd _ ih=>simp only [cA,aA,fH,ih];simp;omega
theorem Pa.sX {f:Bool}:∀ {a:List At},Pa f a (List.replicate (aA a).length .k) a
 | []=>.nil
 | .k :: a=>by simp only [aA,List.length_cons,List.replicate_succ];exact .kk Pa.sX
 | .d c :: a=>by simp only [aA,List.length_cons,List.replicate_succ];exact .dk Pa.sX
 | .p c :: a=>by
  refine .p1 (.inr ?_) Pa.sX
  simp only [aA]
  cases (aA a).length <;> rfl
theorem Pa.moved {f:Bool}:∀ {a:List At},Pa f (List.replicate (aA a).length .k) a (List.replicate (tA 0 a).length .k)
 | []=>.nil
 | .k :: a=>by
  simp only [aA,tA,List.length_cons,List.replicate_succ]
  rw [mX a 1 0];exact .kk Pa.moved
 | .d c :: a=>by
  simp only [aA,tA,List.length_cons,List.replicate_succ]
  rw [mX a 1 0];exact .kd Pa.moved
 | .p c :: a=>by
  simp only [aA,tA,List.length_cons,List.replicate_succ]
  refine .p2 (.inr ?_) Pa.moved
  cases (aA a).length <;> rfl
theorem vt (n:Nat):av (ay [.keep n])=List.replicate n .k:=by
 rw [Et]
 ·simp [av,Pt.av]
 ·have:=Ca n []
  simpa [av,Pt.av,dF] using this
theorem qu {one ps:List Pt}{f:Bool}(h:Pa f (av (ay one)) (av (ay (ay [.keep (aZ one)]))) (av ps)):ay ps=ay one:=by
 rw [gk,vt,←lD,BX] at h
 rw [oZ (h.uniq Pa.sX),gk]
theorem qv {one ps:List Pt}{f:Bool}(h:Pa f (av (ay (ay [.keep (aZ one)]))) (av (ay one)) (av ps)):ay ps=ay [.keep (eF one)]:=by
 rw [gk,vt,←lD,BX] at h
 have e:=h.uniq Pa.moved
 rw [←Oo,oV] at e
 exact oZ (by rw [e];simp [av,Pt.av])
theorem Km {one X:List Pt}{t:List Nat}(h:aT one t=true) (hX:Tn one (ay [.keep (eF one)]) X t):X=ay one:=by
 refine zk hX.vc (gk one) hX.fit (by rw [iF];exact h) ?_
 rw [hX.vd,bX,bX,Ol (kZ one 0)]
theorem EC {one X:List Pt}{t:List Nat}(h:aT one t=true) (hX:Tn (ay [.keep t.length]) (ay one) X t):X=ay one:=by
 refine zk hX.vc (gk one) hX.fit (by rw [iF];exact h) ?_
 rw [hX.vd,bX,bX,idL h]
end Pv
namespace Pv
open Ev (D bZ bP TY BI ME T E Es Eo It S Ss Fn big deep rep cut bL)
theorem Kn (k:List (Int×List Nat)) (p q:Int) (s:List Nat):Ev.eV (Ev.fC k p s) q=if q=p then some s else Ev.eV k q:=by
 unfold Ev.fC
 split
 ·rename_i h
  unfold Ev.eV
  induction k with
  | nil=>simp at h
  | cons x k ih=>
   simp only [List.map_cons,List.find?_cons]
   by_cases hx:x.1=p
   ·rw [if_pos hx]
    by_cases hq:q=p
    ·simp [hx,hq]
    ·have:¬ (x.1=q):=fun z=>hq (by rw [←z,hx])
     simp only [decide_eq_false this,if_neg hq]
     clear ih h
     induction k with
     | nil=>rfl
     | cons y k ih=>
      simp only [List.map_cons,List.find?_cons]
      by_cases hy:y.1=p
      ·rw [if_pos hy]
       have:¬ (y.1=q):=fun z=>hq (by rw [←z,hy])
       simp only [decide_eq_false this];exact ih
      ·rw [if_neg hy]
       by_cases hz:y.1=q
       ·simp [hz]
       ·simp only [decide_eq_false hz];exact ih
   ·rw [if_neg hx]
    by_cases hq:x.1=q
    ·have:¬ q=p:=fun z=>hx (by rw [hq,z])
     simp [hq,this]
    ·simp only [decide_eq_false hq]
     exact ih (by simpa [hx] using h)
 ·rename_i h
  unfold Ev.eV
  rw [List.find?_append]
  by_cases hq:q=p
  ·subst hq
   have:k.find? (fun x=>decide (x.1=q))=none:=by
    rw [List.find?_eq_none]
    intro x hx hz
    exact h (List.any_eq_true.mpr ⟨x,hx,hz⟩)
   rw [this];simp
  ·have:¬ p=q:=fun z=>hq z.symm
   simp [hq,this]
noncomputable def KI (t:List Nat) (k:List (Int×List Nat)):Prop:=∀ p s,Ev.eV k p=some s→∃ (i c:Nat),p=i∧t[i]?=some c∧s=[c]
theorem KI.put {t:List Nat}{k:List (Int×List Nat)}(h:KI t k) {i c:Nat}(hc:t[i]?=some c):KI t (Ev.fC k i [c]):=fun p s e=>by
 rw [Kn] at e
 split at e
 ·rename_i hp;cases e;exact ⟨i,c,hp,hc,rfl⟩
 ·exact h p s e
theorem KI.zp {t:List Nat}:∀ (s:List Nat) {k:List (Int×List Nat)}(i:Nat),KI t k→(t.drop i).take s.length=s→KI t (jA k i s)
 | [],k,i,h,_=>h
 | c :: s,k,i,h,e=>by
  have hl:i<t.length:=by
   refine Nat.lt_of_not_le fun z=>?_
   rw [List.drop_eq_nil_of_le z] at e;simp at e
  rw [List.drop_eq_getElem_cons hl,List.length_cons,List.take_succ_cons,List.cons.injEq] at e
  have:=KI.zp s (i+1) (h.put (i:=i) (c:=c) (by rw [List.getElem?_eq_getElem hl,e.1])) e.2
  exact this
theorem vv:∀ (s:List Nat) (k:List (Int×List Nat)) (p:Int),(jA k p s).length≤k.length+s.length
 | [],k,p=>by simp [jA]
 | c :: s,k,p=>by
  have h1:=vv s (Ev.fC k p [c]) (p+1)
  have h2:(Ev.fC k p [c]).length≤k.length+1:=by unfold Ev.fC;split <;> simp
  rw [jA,List.length_cons];omega
theorem sY:∀ (c:List Pt) (t:List Nat) (i:Nat) (k:List (Int×List Nat)),aT c (t.drop i)=true→KI t k→k.length+tot c≤1000→∃ k',bM (c.map Pt.v) i k=some k'∧KI t k'∧k'.length≤k.length+tot c
 | [],t,i,k,_,h,_=>⟨k,rfl,h,by omega⟩
 | .keep m :: c,t,i,k,hf,h,hb=>by
  have hf':aT c (t.drop (i+m))=true:=by simp only [aT,Bool.and_eq_true] at hf;have:=hf.2;rwa [List.drop_drop] at this
  obtain ⟨k',e1,e2,e3⟩:=sY c t (i+m) k hf' h (by rw [aQ] at hb;omega)
  refine ⟨k',?_,e2,by rw [aQ];omega⟩
  show bM (.tup [.str [107,101,101,112],.int m] :: c.map Pt.v) i k=_
  rw [bM,if_pos rfl,←e1];congr 1
 | .put s :: c,t,i,k,hf,h,hb=>by
  obtain ⟨k',e1,e2,e3⟩:=sY c t i k hf h (by rw [aQ] at hb;omega)
  refine ⟨k',?_,e2,by rw [aQ];omega⟩
  show bM (.tup [.str [112,117,116],.str s] :: c.map Pt.v) i k=_
  rw [bM,if_neg (by decide),if_neg (by decide)];exact e1
 | .drop s :: c,t,i,k,hf,h,hb=>by
  simp only [aT,Bool.and_eq_true,decide_eq_true_eq] at hf
  rw [aQ] at hb
  simp only [Pt.n] at hb
  have hl:=vv s k i
  obtain ⟨k',e1,e2,e3⟩:=sY c t (i+s.length) (jA k i s) (by have:=hf.2;rwa [List.drop_drop] at this) (h.zp s i (List.prefix_iff_eq_take.mp (List.isPrefixOf_iff_prefix.mp hf.1)).symm) (by omega)
  refine ⟨k',?_,e2,by rw [aQ];simp only [Pt.n];omega⟩
  show bM (.tup [.str [100,114,111,112],.str s] :: c.map Pt.v) i k=_
  rw [bM,if_pos rfl,if_pos (by omega),←e1];congr 1
section
variable {F:List Fn}{w n i:Nat}
theorem qw (hd:F[i]?=some jz) (c:List Pt) (t:List Nat) (hf:aT c t=true) (b:tot c≤1000):∃ k,run F w (n+1) i [.val (aO c)]=some (.dct k,[])∧KI t k∧k.length≤tot c:=by
 obtain ⟨k,e1,e2,e3⟩:=sY c t 0 [] hf (fun p s e=>by cases e) (by simpa using b)
 refine ⟨k,?_,e2,by simpa using e3⟩
 have bad:exs (run F w n) w jz.body (fy jz [.val (aO c)])=.bad:=by
  show exs _ _ (.cons (.set 1 .iW) _) _=_
  rw [exs,ex,ev];rfl
 rw [run_eq hd rfl,bad]
 have fb:fin jz [.val (aO c)] .bad=wY jz [.val (aO c)]:=by simp only [fin]
 rw [fb]
 unfold wY
 rw [if_pos rfl]
 show (bM (c.map Pt.v) 0 []).map _=_
 have Mc:bM (c.map Pt.v) 0 []=some k:=e1
 rw [Mc];rfl
theorem ED {l:List Int}{x:Int}(h:x∈Ev.sortI l):x∈l:=by
 have ins:∀ (a:Int) (m:List Int),x∈Ev.insI a m→x=a∨x∈m:=fun a m=>by
  induction m with
  | nil=>intro h;simp [Ev.insI] at h;exact .inl h
  | cons b m ih=>
   intro h
   unfold Ev.insI at h
   split at h
   ·rcases List.mem_cons.mp h with h | h
    ·exact .inl h
    ·exact .inr h
   ·rcases List.mem_cons.mp h with h | h
    ·exact .inr (by rw [h];simp)
    ·rcases ih h with h | h
     ·exact .inl h
     ·exact .inr (.tail _ h)
 induction l with
 | nil=>simp [Ev.sortI] at h
 | cons a l ih=>
  rcases ins a _ h with h | h
  ·rw [h];simp
  ·exact .tail _ (ih h)
theorem EE (l:List Int):(Ev.sortI l).length=l.length:=by
 have ins:∀ (a:Int) (m:List Int),(Ev.insI a m).length=m.length+1:=fun a m=>by
  induction m with
  | nil=>rfl
  | cons b m ih=>unfold Ev.insI;split <;> simp [ih]
 induction l with
 | nil=>rfl
 | cons a l ih=>rw [Ev.sortI,ins,ih];rfl
theorem Ko {k:List (Int×List Nat)}{p:Int}(h:p∈k.map (·.1)):∃ s,Ev.eV k p=some s:=by
 obtain ⟨x,hx,rfl⟩:=List.mem_map.mp h
 unfold Ev.eV
 cases e:k.find? (fun y=>decide (y.1=x.1)) with
 | none=>rw [List.find?_eq_none] at e;exact absurd (decide_eq_true rfl) (e x hx)
 | some y=>exact ⟨y.2,rfl⟩
noncomputable def vz (gn:Nat):S:=.iff (.cmp .ne (.cl gn (.cons (.v 0) .nil)) (.cl gn (.cons (.v 1) .nil))) (.cons (.fk) .nil) .nil
noncomputable def vA (dG:Nat):S:=.set 2 (.cl dG (.cons (.v 0) .nil))
noncomputable def vC (dG:Nat):S:=.set 3 (.cl dG (.cons (.v 1) .nil))
noncomputable def vD:S:=.ret (.comp (.v 4) (.one 4) (.seq (.bi .jK (.cons (.v 2) .nil))) (.yes (.cmp .ne (.lP (.v 3) (.v 4) (.jL (.v 2) (.v 4))) (.jL (.v 2) (.v 4)))))
noncomputable def zq (gn:Nat) (dG:Nat):Fn:=⟨2,5,(.cons (vz gn) (.cons (vA dG) (.cons (vC dG) (.cons vD .nil))))⟩
theorem mY {aC b9 zu:Nat}(hs:F[aC]?=some fc) (hb:F[b9]?=some (jG aC)) (hd:F[zu]?=some jz) (hc:F[i]?=some (zq b9 zu)) (one other:List Pt) (t:List Nat) (h1:aT one t=true) (h2:aT other t=true) (b1:tot one≤60) (b2:tot other≤60) (l1:one.length≤900) (l2:other.length≤900) :
  run F w (n+3) i [.val (aO one),.val (aO other)]=some (.lst [],[]):=by
 obtain ⟨k1,r1,K1,n1⟩:=qw (F:=F) (w:=w) (n:=n+1) hd one t h1 (by omega)
 obtain ⟨k2,r2,K2,n2⟩:=qw (F:=F) (w:=w) (n:=n+1) hd other t h2 (by omega)
 have r1:=fun fr=>bO (fr:=fr) r1
 have r2:=fun fr=>bO (fr:=fr) r2
 have c1:=fun fr=>bO (fr:=fr) (gu (F:=F) (w:=w) (n:=n) hs hb one (by omega) (by omega))
 have c2:=fun fr=>bO (fr:=fr) (gu (F:=F) (w:=w) (n:=n) hs hb other (by omega) (by omega))
 have e1:=fL h1
 have e2:=fL h2
 have ne:cop .ne (.int (aZ one)) (.int (aZ other))=some false:=by rw [sR,←e1,←e2];simp
 have so:cX .jK [.dct k1]=some (.lst ((Ev.sortI (k1.map (·.1))).map V.int)):=by
  delta cX;dsimp only
  show (if k1.length<64 then dX _ else none)=_
  rw [if_pos (by omega)]
  exact cS (bS (by rw [List.length_map,EE,List.length_map];omega))
 refine cC hc rfl ?_
 refine ai (aM (b:=false) (aD rfl (bV (aX (aJ rfl (aB rfl) aG) (c1 _)) (aX (aJ rfl (aB rfl) aG) (c2 _)) ne) rfl) (fun h=>absurd h (by decide)) fun _=>az ?_)
 refine ai (br (aX (aJ rfl (aB rfl) aG) (r1 _)) rfl rfl ?_)
 refine ai (br (aX (aJ rfl (aB rfl) aG) (r2 _)) rfl rfl ?_)
 refine ai (bW (jE (l:=[]) (fJ (fP (aS (aB rfl) bg) so) rfl) rfl ?_ pT) ⟨rfl,rfl⟩)
 have none_:∀ {f:V→Option (Option V)} (l:List Int),(∀ p∈l,f (.int p)=some none)→cG f (l.map V.int)=some []:=fun {f} l h=>by
  have:=gc (f:=f) V.int (fun _=>false) (fun _=>V.bD) l fun a ha=>by rw [h a ha];rfl
  rw [this];simp
 refine none_ _ fun p hp=>?_
 obtain ⟨s,hv⟩:=Ko (ED hp)
 obtain ⟨j,c,rfl,hc1,rfl⟩:=K1 p s hv
 have g1:oO (.dct k1) (.int j)=some (.str [c]):=by simp [oO,hv]
 have g2:oQ (.dct k2) (.int j) (.str [c])=some (.str [c]):=by
  cases e:Ev.eV k2 j with
  | none=>simp [oQ,e]
  | some s2=>
   obtain ⟨j2,c',hj,hc2,rfl⟩:=K2 _ _ e
   have:j2=j:=by omega
   subst this
   rw [hc1] at hc2;cases hc2
   simp [oQ,e]
 exact jq (b:=false) (v:=.bD) (bY:=[]) rfl (aD rfl (bV (So (aB rfl) (aB rfl) (Gg (aB rfl) (aB rfl) g1) g2) (Gg (aB rfl) (aB rfl) g1) (by rw [ig];simp)) rfl) fun h=>absurd h (by decide)
end
noncomputable def xR:Pt→List Nat
 | .put s=>s
 | .drop s=>s
 | .keep _=>[]
theorem Oz:∀ s:List Nat,pS (s.map .p)=s
 | []=>rfl
 | c :: s=>congrArg (c :: ·) (Oz s)
theorem OA:∀ s:List Nat,pS (s.map .d)=[]
 | []=>rfl
 | _ :: s=>OA s
theorem jW:∀ c:List Pt,((c.filter cT).map xR).flatten=pS (av c)
 | []=>rfl
 | .put s :: c=>by rw [bF,kI,Pt.av,Oz,←jW c];rfl
 | .drop s :: c=>by rw [bF,kI,Pt.av,OA,←jW c];rfl
 | .keep n :: c=>by rw [bF,kI,Pt.av,SG,←jW c];rfl
theorem vE:∀ a b:List (List Nat),((a.zip b).filter fun p=>decide (p.1≠[]∧p.2≠[])).length=fH a b
 | [],_=>by simp [fH]
 | _ :: _,[]=>by simp [fH]
 | x :: a,y :: b=>by
  rw [List.zip_cons_cons,List.filter_cons,fH,←vE a b]
  by_cases h:x≠[]∧y≠[]
  ·simp [h];omega
  ·rw [if_neg h];simp only [h,decide_false];simp
end Pv
set_option maxRecDepth 100000
namespace Lw
@[reducible] noncomputable def XG:Ev.S:=.iff (.cmp .eq (.ix (.v 0) (.c (.int 0))) (.c (.str [107,101,101,112]))) (.cons (.ret (.ix (.v 0) (.c (.int 1)))) .nil) .nil
@[reducible] noncomputable def XH:Ev.S:=.ret (.bi .len (.cons (.ix (.v 0) (.c (.int 1))) .nil))
@[reducible] noncomputable def f0:Ev.Fn:=⟨1,1,(.cons XG (.cons XH .nil))⟩
@[reducible] noncomputable def XI:Ev.S:=.ret (.bi .sum (.cons (.comp (.cl 0 (.cons (.v 1) .nil)) (.one 1) (.seq (.v 0)) (.yes (.cmp .ne (.ix (.v 1) (.c (.int 0))) (.c (.str [112,117,116]))))) .nil))
@[reducible] noncomputable def f1:Ev.Fn:=⟨1,2,(.cons XI .nil)⟩
@[reducible] noncomputable def XJ:Ev.S:=.ret (.bi .sum (.cons (.comp (.cl 0 (.cons (.v 1) .nil)) (.one 1) (.seq (.v 0)) (.yes (.cmp .ne (.ix (.v 1) (.c (.int 0))) (.c (.str [100,114,111,112]))))) .nil))
@[reducible] noncomputable def f2:Ev.Fn:=⟨1,2,(.cons XJ .nil)⟩
@[reducible] noncomputable def XM:Ev.S:=.ret (.bi .sum (.cons (.comp (.cl 0 (.cons (.v 1) .nil)) (.one 1) (.seq (.v 0)) (.yes (.cmp .ne (.ix (.v 1) (.c (.int 0))) (.c (.str [107,101,101,112]))))) .nil))
@[reducible] noncomputable def f3:Ev.Fn:=⟨1,2,(.cons XM .nil)⟩
@[reducible] noncomputable def XN:Ev.S:=.set 1 (.lst .nil)
@[reducible] noncomputable def XO:Ev.S:=.set 2 (.c (.int 0))
@[reducible] noncomputable def XQ:Ev.S:=.set 3 (.c (.str []))
@[reducible] noncomputable def XR:Ev.S:=.set 4 (.c (.str []))
@[reducible] noncomputable def XS:Ev.Ss:=(.cons (.iff (.cmp .eq (.v 5) (.c (.str [100,114,111,112]))) (.cons (.set 3 (.bin .add (.v 3) (.v 6))) .nil) (.cons (.iff (.cmp .eq (.v 5) (.c (.str [112,117,116]))) (.cons (.set 4 (.bin .add (.v 4) (.v 6))) .nil) (.cons (.iff (.cmp .gt (.v 6) (.c (.int 0))) (.cons (.iff (.orr (.cmp .ne (.v 3) (.c (.str []))) (.cmp .ne (.v 4) (.c (.str [])))) (.cons (.exp (.me .extend (.v 1) (.cons (.cl 5 (.cons (.v 2) (.cons (.v 3) (.cons (.v 4) .nil)))) .nil))) (.cons (.set 2 (.c (.int 0))) (.cons (.set 3 (.c (.str []))) (.cons (.set 4 (.c (.str []))) .nil)))) .nil) (.cons (.set 2 (.bin .add (.v 2) (.v 6))) .nil)) .nil) .nil)) .nil)) .nil)
@[reducible] noncomputable def XT:Ev.S:=.for (.many [5,6]) (.seq (.v 0)) XS
@[reducible] noncomputable def XU:Ev.S:=.exp (.me .extend (.v 1) (.cons (.cl 5 (.cons (.v 2) (.cons (.v 3) (.cons (.v 4) .nil)))) .nil))
@[reducible] noncomputable def XW:Ev.S:=.ret (.iw (.v 1))
@[reducible] noncomputable def f4:Ev.Fn:=⟨1,7,(.cons XN (.cons XO (.cons XQ (.cons XR (.cons XT (.cons XU (.cons XW .nil)))))))⟩
@[reducible] noncomputable def XX:Ev.S:=.set 3 (.lst .nil)
@[reducible] noncomputable def XY:Ev.S:=.iff (.cmp .gt (.v 0) (.c (.int 0))) (.cons (.exp (.me .append (.v 3) (.cons (.tup (.cons (.c (.str [107,101,101,112])) (.cons (.v 0) .nil))) .nil))) .nil) .nil
@[reducible] noncomputable def XZ:Ev.S:=.iff (.cmp .ne (.v 1) (.c (.str []))) (.cons (.exp (.me .append (.v 3) (.cons (.tup (.cons (.c (.str [100,114,111,112])) (.cons (.v 1) .nil))) .nil))) .nil) .nil
@[reducible] noncomputable def X0:Ev.S:=.iff (.cmp .ne (.v 2) (.c (.str []))) (.cons (.exp (.me .append (.v 3) (.cons (.tup (.cons (.c (.str [112,117,116])) (.cons (.v 2) .nil))) .nil))) .nil) .nil
@[reducible] noncomputable def X3:Ev.S:=.ret (.v 3)
@[reducible] noncomputable def f5:Ev.Fn:=⟨3,4,(.cons XX (.cons XY (.cons XZ (.cons X0 (.cons X3 .nil)))))⟩
@[reducible] noncomputable def X4:Ev.S:=.set 2 (.c (.int 0))
@[reducible] noncomputable def X5:Ev.Ss:=(.cons (.iff (.an (.cmp .eq (.ix (.v 3) (.c (.int 0))) (.c (.str [100,114,111,112]))) (.cmp .ne (.sl (.v 1) (.yes (.v 2)) (.yes (.bin .add (.v 2) (.cl 0 (.cons (.v 3) .nil))))) (.ix (.v 3) (.c (.int 1))))) (.cons (.ret (.c (.bl false))) .nil) .nil) (.cons (.iff (.cmp .ne (.ix (.v 3) (.c (.int 0))) (.c (.str [112,117,116]))) (.cons (.set 2 (.bin .add (.v 2) (.cl 0 (.cons (.v 3) .nil)))) .nil) .nil) .nil))
@[reducible] noncomputable def X6:Ev.S:=.for (.one 3) (.seq (.v 0)) X5
@[reducible] noncomputable def X7:Ev.S:=.ret (.cmp .eq (.v 2) (.bi .len (.cons (.v 1) .nil)))
@[reducible] noncomputable def f6:Ev.Fn:=⟨2,4,(.cons X4 (.cons X6 (.cons X7 .nil)))⟩
@[reducible] noncomputable def X8:Ev.S:=.iff (.nt (.cl 6 (.cons (.v 0) (.cons (.v 1) .nil)))) (.cons (.fk) .nil) .nil
@[reducible] noncomputable def Yb:Ev.S:=.set 2 (.lst .nil)
@[reducible] noncomputable def Yc:Ev.S:=.set 3 (.c (.int 0))
@[reducible] noncomputable def Yd:Ev.Ss:=(.cons (.iff (.cmp .eq (.v 4) (.c (.str [112,117,116]))) (.cons (.exp (.me .append (.v 2) (.cons (.v 5) .nil))) .nil) (.cons (.iff (.cmp .eq (.v 4) (.c (.str [100,114,111,112]))) (.cons (.set 3 (.bin .add (.v 3) (.bi .len (.cons (.v 5) .nil)))) .nil) (.cons (.exp (.me .append (.v 2) (.cons (.sl (.v 1) (.yes (.v 3)) (.yes (.bin .add (.v 3) (.v 5)))) .nil))) (.cons (.set 3 (.bin .add (.v 3) (.v 5))) .nil))) .nil)) .nil)
@[reducible] noncomputable def Ye:Ev.S:=.for (.many [4,5]) (.seq (.v 0)) Yd
@[reducible] noncomputable def Yg:Ev.S:=.ret (.me .join (.c (.str [])) (.cons (.v 2) .nil))
@[reducible] noncomputable def f7:Ev.Fn:=⟨2,6,(.cons X8 (.cons Yb (.cons Yc (.cons Ye (.cons Yg .nil)))))⟩
@[reducible] noncomputable def Yh:Ev.S:=.ret (.cl 4 (.cons (.iw (.comp (.tup (.cons (.iV [(.str [107,101,101,112],.str [107,101,101,112]),(.str [112,117,116],.str [100,114,111,112]),(.str [100,114,111,112],.str [112,117,116])] (.v 1)) (.cons (.v 2) .nil))) (.many [1,2]) (.seq (.v 0)) .no)) .nil))
@[reducible] noncomputable def f8:Ev.Fn:=⟨1,3,(.cons Yh .nil)⟩
@[reducible] noncomputable def Yi:Ev.S:=.ret (.cl 4 (.cons (.tup (.cons (.tup (.cons (.c (.str [107,101,101,112])) (.cons (.v 0) .nil))) .nil)) .nil))
@[reducible] noncomputable def f9:Ev.Fn:=⟨1,1,(.cons Yi .nil)⟩
@[reducible] noncomputable def SH:Ev.S:=.iff (.cmp .ne (.cl 2 (.cons (.v 0) .nil)) (.cl 1 (.cons (.v 1) .nil))) (.cons (.fk) .nil) .nil
@[reducible] noncomputable def SI:Ev.S:=.set 2 (.ee (.rev (.cl 4 (.cons (.v 0) .nil))))
@[reducible] noncomputable def SJ:Ev.S:=.set 3 (.ee (.rev (.cl 4 (.cons (.v 1) .nil))))
@[reducible] noncomputable def SK:Ev.S:=.set 4 (.lst .nil)
@[reducible] noncomputable def SM:Ev.Ss:=(.cons (.iff (.an (.v 2) (.cmp .eq (.ix (.ix (.v 2) (.neg (.c (.int 1)))) (.c (.int 0))) (.c (.str [100,114,111,112])))) (.cons (.exp (.me .append (.v 4) (.cons (.me .pop (.v 2) .nil) .nil))) .nil) (.cons (.iff (.an (.v 3) (.cmp .eq (.ix (.ix (.v 3) (.neg (.c (.int 1)))) (.c (.int 0))) (.c (.str [112,117,116])))) (.cons (.exp (.me .append (.v 4) (.cons (.me .pop (.v 3) .nil) .nil))) .nil) (.cons (.set 5 (.bi .min (.cons (.cl 0 (.cons (.ix (.v 2) (.neg (.c (.int 1)))) .nil)) (.cons (.cl 0 (.cons (.ix (.v 3) (.neg (.c (.int 1)))) .nil)) .nil)))) (.cons (.exp (.me .extend (.v 4) (.cons (.cl 11 (.cons (.cl 12 (.cons (.v 2) (.cons (.v 5) .nil))) (.cons (.cl 12 (.cons (.v 3) (.cons (.v 5) .nil))) .nil))) .nil))) .nil))) .nil)) .nil)
@[reducible] noncomputable def SN:Ev.S:=.mw (.orr (.v 2) (.v 3)) SM
@[reducible] noncomputable def SO:Ev.S:=.ret (.cl 4 (.cons (.iw (.v 4)) .nil))
@[reducible] noncomputable def Fy:Ev.Fn:=⟨2,6,(.cons SH (.cons SI (.cons SJ (.cons SK (.cons SN (.cons SO .nil))))))⟩
@[reducible] noncomputable def SQ:Ev.S:=.iff (.cmp .eq (.ix (.v 1) (.c (.int 0))) (.c (.str [107,101,101,112]))) (.cons (.ret (.lst (.cons (.v 0) .nil))) .nil) .nil
@[reducible] noncomputable def SS:Ev.S:=.iff (.cmp .eq (.ix (.v 0) (.c (.int 0))) (.c (.str [107,101,101,112]))) (.cons (.ret (.lst (.cons (.v 1) .nil))) .nil) .nil
@[reducible] noncomputable def SV:Ev.S:=.iff (.cmp .ne (.ix (.v 0) (.c (.int 1))) (.ix (.v 1) (.c (.int 1)))) (.cons (.fk) .nil) .nil
@[reducible] noncomputable def SW:Ev.S:=.ret (.lst .nil)
@[reducible] noncomputable def U8:Ev.Fn:=⟨2,2,(.cons SQ (.cons SS (.cons SV (.cons SW .nil))))⟩
@[reducible] noncomputable def SX:Ev.S:=.set 2 (.cl 13 (.cons (.me .pop (.v 0) .nil) (.cons (.v 1) .nil)))
@[reducible] noncomputable def SY:Ev.S:=.iff (.cmp .gt (.cl 0 (.cons (.ix (.v 2) (.c (.int 1))) .nil)) (.c (.int 0))) (.cons (.exp (.me .append (.v 0) (.cons (.ix (.v 2) (.c (.int 1))) .nil))) .nil) .nil
@[reducible] noncomputable def S5:Ev.S:=.ret (.ix (.v 2) (.c (.int 0)))
@[reducible] noncomputable def U9:Ev.Fn:=⟨2,3,(.cons SX (.cons SY (.cons S5 .nil)))⟩
@[reducible] noncomputable def S6:Ev.S:=.set 2 (.ix (.v 0) (.c (.int 0)))
@[reducible] noncomputable def S7:Ev.S:=.iff (.cmp .eq (.v 2) (.c (.str [107,101,101,112]))) (.cons (.ret (.tup (.cons (.tup (.cons (.v 2) (.cons (.v 1) .nil))) (.cons (.tup (.cons (.v 2) (.cons (.bin .sub (.ix (.v 0) (.c (.int 1))) (.v 1)) .nil))) .nil)))) .nil) .nil
@[reducible] noncomputable def S8:Ev.S:=.ret (.tup (.cons (.tup (.cons (.v 2) (.cons (.sl (.ix (.v 0) (.c (.int 1))) .no (.yes (.v 1))) .nil))) (.cons (.tup (.cons (.v 2) (.cons (.sl (.ix (.v 0) (.c (.int 1))) (.yes (.v 1)) .no) .nil))) .nil)))
@[reducible] noncomputable def Va:Ev.Fn:=⟨2,3,(.cons S6 (.cons S7 (.cons S8 .nil)))⟩
@[reducible] noncomputable def S9:Ev.S:=.iff (.cl 16 (.cons (.v 0) (.cons (.v 1) .nil))) (.cons (.fk) .nil) .nil
@[reducible] noncomputable def Tc:Ev.S:=.set 3 (.ee (.rev (.cl 4 (.cons (.v 0) .nil))))
@[reducible] noncomputable def Td:Ev.S:=.set 4 (.ee (.rev (.cl 4 (.cons (.v 1) .nil))))
@[reducible] noncomputable def Te:Ev.S:=.set 5 (.lst .nil)
@[reducible] noncomputable def Tf:Ev.Ss:=(.cons (.iff (.an (.cl 15 (.cons (.v 3) .nil)) (.orr (.v 2) (.nt (.cl 15 (.cons (.v 4) .nil))))) (.cons (.exp (.me .append (.v 5) (.cons (.me .pop (.v 3) .nil) .nil))) .nil) (.cons (.iff (.cl 15 (.cons (.v 4) .nil)) (.cons (.exp (.me .append (.v 5) (.cons (.tup (.cons (.c (.str [107,101,101,112])) (.cons (.cl 0 (.cons (.me .pop (.v 4) .nil) .nil)) .nil))) .nil))) .nil) (.cons (.set 6 (.bi .min (.cons (.cl 0 (.cons (.ix (.v 3) (.neg (.c (.int 1)))) .nil)) (.cons (.cl 0 (.cons (.ix (.v 4) (.neg (.c (.int 1)))) .nil)) .nil)))) (.cons (.set 7 (.cl 12 (.cons (.v 3) (.cons (.v 6) .nil)))) (.cons (.iff (.cmp .eq (.ix (.cl 12 (.cons (.v 4) (.cons (.v 6) .nil))) (.c (.int 0))) (.c (.str [107,101,101,112]))) (.cons (.exp (.me .append (.v 5) (.cons (.v 7) .nil))) .nil) .nil) .nil)))) .nil)) .nil)
@[reducible] noncomputable def Tg:Ev.S:=.mw (.orr (.v 3) (.v 4)) Tf
@[reducible] noncomputable def Ti:Ev.S:=.ret (.cl 4 (.cons (.iw (.v 5)) .nil))
@[reducible] noncomputable def Vb:Ev.Fn:=⟨3,8,(.cons S9 (.cons Tc (.cons Td (.cons Te (.cons Tg (.cons Ti .nil))))))⟩
@[reducible] noncomputable def Tj:Ev.S:=.ret (.an (.cmp .gt (.bi .len (.cons (.v 0) .nil)) (.c (.int 0))) (.cmp .eq (.ix (.ix (.v 0) (.neg (.c (.int 1)))) (.c (.int 0))) (.c (.str [112,117,116]))))
@[reducible] noncomputable def Vc:Ev.Fn:=⟨1,1,(.cons Tj .nil)⟩
@[reducible] noncomputable def To:Ev.S:=.iff (.cmp .ne (.cl 1 (.cons (.v 0) .nil)) (.cl 1 (.cons (.v 1) .nil))) (.cons (.fk) .nil) .nil
@[reducible] noncomputable def Tp:Ev.S:=.set 2 (.cl 17 (.cons (.v 0) .nil))
@[reducible] noncomputable def Tt:Ev.S:=.set 3 (.cl 17 (.cons (.v 1) .nil))
@[reducible] noncomputable def Tu:Ev.S:=.ret (.comp (.v 4) (.one 4) (.seq (.bi .jK (.cons (.v 2) .nil))) (.yes (.cmp .ne (.lP (.v 3) (.v 4) (.jL (.v 2) (.v 4))) (.jL (.v 2) (.v 4)))))
@[reducible] noncomputable def Vd:Ev.Fn:=⟨2,5,(.cons To (.cons Tp (.cons Tt (.cons Tu .nil))))⟩
@[reducible] noncomputable def Tv:Ev.S:=.set 1 (.iW)
@[reducible] noncomputable def Tw:Ev.S:=.set 2 (.c (.int 0))
@[reducible] noncomputable def Tz:Ev.Ss:=(.cons (.dput (.v 1) (.v 2) (.v 4)) (.cons (.set 2 (.bin .add (.v 2) (.c (.int 1)))) .nil))
@[reducible] noncomputable def TF:Ev.Ss:=(.cons (.iff (.cmp .eq (.ix (.v 3) (.c (.int 0))) (.c (.str [100,114,111,112]))) (.cons (.for (.one 4) (.seq (.ix (.v 3) (.c (.int 1)))) Tz) .nil) (.cons (.iff (.cmp .eq (.ix (.v 3) (.c (.int 0))) (.c (.str [107,101,101,112]))) (.cons (.set 2 (.bin .add (.v 2) (.ix (.v 3) (.c (.int 1))))) .nil) .nil) .nil)) .nil)
@[reducible] noncomputable def TH:Ev.S:=.for (.one 3) (.seq (.v 0)) TF
@[reducible] noncomputable def TJ:Ev.S:=.ret (.v 1)
@[reducible] noncomputable def Ve:Ev.Fn:=⟨1,5,(.cons Tv (.cons Tw (.cons TH (.cons TJ .nil))))⟩
@[reducible] noncomputable def TL:Ev.S:=.ret (.cl 10 (.cons (.v 0) (.cons (.cl 14 (.cons (.v 1) (.cons (.v 0) (.cons (.c (.bl false)) .nil)))) .nil)))
@[reducible] noncomputable def GC:Ev.Fn:=⟨2,2,(.cons TL .nil)⟩
@[reducible] noncomputable def TM:Ev.S:=.iff (.cmp .eq (.v 0) (.lst .nil)) (.cons (.ret (.bin .mul (.c (.int 7)) (.v 1))) .nil) .nil
@[reducible] noncomputable def TN:Ev.S:=.ret (.bin .add (.ix (.v 0) (.bin .mod (.v 1) (.bi .len (.cons (.v 0) .nil)))) (.bin .mul (.c (.int 6553)) (.bin .fdiv (.v 1) (.bi .len (.cons (.v 0) .nil)))))
@[reducible] noncomputable def Vf:Ev.Fn:=⟨2,2,(.cons TM (.cons TN .nil))⟩
@[reducible] noncomputable def TQ:Ev.S:=.set 3 (.bin .mod (.bin .add (.bin .mul (.bin .mod (.cl 19 (.cons (.v 0) (.cons (.v 1) .nil))) (.c (.int 2147483563))) (.c (.int 69069))) (.bin .mul (.c (.int 104723)) (.bin .add (.v 1) (.c (.int 1))))) (.c (.int 2147483563)))
@[reducible] noncomputable def TR:Ev.S:=.set 3 (.bin .mod (.bin .add (.bin .mul (.v 3) (.v 3)) (.bin .fdiv (.v 3) (.c (.int 3)))) (.c (.int 2147483399)))
@[reducible] noncomputable def TU:Ev.S:=.ret (.bin .mod (.bin .fdiv (.bin .mod (.bin .add (.bin .mul (.v 3) (.v 3)) (.bin .fdiv (.v 3) (.c (.int 7)))) (.c (.int 2147483647))) (.c (.int 11))) (.v 2))
@[reducible] noncomputable def Vg:Ev.Fn:=⟨3,4,(.cons TQ (.cons TR (.cons TU .nil)))⟩
@[reducible] noncomputable def TV:Ev.S:=.ret (.me .join (.c (.str [])) (.cons (.comp (.ix (.c (.str [97,98,99,32])) (.cl 20 (.cons (.v 0) (.cons (.bin .add (.bin .add (.v 1) (.c (.int 1))) (.v 3)) (.cons (.c (.int 4)) .nil))))) (.one 3) (.gy (.cons (.cl 20 (.cons (.v 0) (.cons (.v 1) (.cons (.bin .add (.v 2) (.c (.int 1))) .nil)))) .nil)) .no) .nil))
@[reducible] noncomputable def Vh:Ev.Fn:=⟨3,4,(.cons TV .nil)⟩
@[reducible] noncomputable def TZ:Ev.S:=.set 3 (.tup .nil)
@[reducible] noncomputable def T5:Ev.Ss:=(.cons (.iff (.cmp .eq (.cl 20 (.cons (.v 0) (.cons (.bin .add (.v 1) (.bin .mul (.c (.int 4)) (.v 4))) (.cons (.c (.int 4)) .nil)))) (.c (.int 0))) (.cons (.set 5 (.bin .mul (.ix (.c (.str [97,98,122])) (.cl 20 (.cons (.v 0) (.cons (.bin .add (.bin .add (.v 1) (.bin .mul (.c (.int 4)) (.v 4))) (.c (.int 1))) (.cons (.c (.int 3)) .nil))))) (.bin .add (.c (.int 1)) (.cl 20 (.cons (.v 0) (.cons (.bin .add (.bin .add (.v 1) (.bin .mul (.c (.int 4)) (.v 4))) (.c (.int 2))) (.cons (.c (.int 2)) .nil))))))) (.cons (.set 3 (.bin .add (.v 3) (.tup (.cons (.tup (.cons (.c (.str [112,117,116])) (.cons (.v 5) .nil))) .nil)))) .nil)) .nil) (.cons (.iff (.cmp .lt (.v 4) (.bi .len (.cons (.v 2) .nil))) (.cons (.set 6 (.cmp .gt (.cl 20 (.cons (.v 0) (.cons (.bin .add (.bin .add (.v 1) (.bin .mul (.c (.int 4)) (.v 4))) (.c (.int 3))) (.cons (.c (.int 3)) .nil)))) (.c (.int 0)))) (.cons (.set 3 (.bin .add (.v 3) (.tup (.cons (.lO (.v 6) (.tup (.cons (.c (.str [107,101,101,112])) (.cons (.c (.int 1)) .nil))) (.tup (.cons (.c (.str [100,114,111,112])) (.cons (.ix (.v 2) (.v 4)) .nil)))) .nil)))) .nil)) .nil) .nil))
@[reducible] noncomputable def T7:Ev.S:=.for (.one 4) (.gy (.cons (.bin .add (.bi .len (.cons (.v 2) .nil)) (.c (.int 1))) .nil)) T5
@[reducible] noncomputable def T8:Ev.S:=.ret (.v 3)
@[reducible] noncomputable def Vi:Ev.Fn:=⟨3,7,(.cons TZ (.cons T7 (.cons T8 .nil)))⟩
@[reducible] noncomputable def T9:Ev.S:=.set 1 (.lst .nil)
@[reducible] noncomputable def Ua:Ev.S:=.set 2 (.lst .nil)
@[reducible] noncomputable def Ub:Ev.Ss:=(.cons (.iff (.cmp .eq (.v 3) (.c (.str [107,101,101,112]))) (.cons (.set 2 (.bin .add (.v 2) (.ee (.gy (.cons (.bi .len (.cons (.v 1) .nil)) (.cons (.bin .add (.bi .len (.cons (.v 1) .nil)) (.v 4)) .nil)))))) (.cons (.set 1 (.bin .add (.v 1) (.bin .mul (.lst (.cons (.c (.str [])) .nil)) (.v 4)))) .nil)) (.cons (.iff (.cmp .eq (.v 3) (.c (.str [100,114,111,112]))) (.cons (.set 1 (.bin .add (.v 1) (.ee (.seq (.v 4))))) .nil) (.cons (.set 2 (.bin .add (.v 2) (.ee (.seq (.v 4))))) .nil)) .nil)) .nil)
@[reducible] noncomputable def Uc:Ev.S:=.for (.many [3,4]) (.seq (.v 0)) Ub
@[reducible] noncomputable def Ud:Ev.S:=.ret (.tup (.cons (.v 1) (.cons (.v 2) .nil)))
@[reducible] noncomputable def Vj:Ev.Fn:=⟨1,5,(.cons T9 (.cons Ua (.cons Uc (.cons Ud .nil))))⟩
@[reducible] noncomputable def GD:Ev.S:=.set 1 (.cl 21 (.cons (.v 0) (.cons (.c (.int 0)) (.cons (.c (.int 5)) .nil))))
@[reducible] noncomputable def GF:Ev.S:=.set 2 (.cl 22 (.cons (.v 0) (.cons (.c (.int 10)) (.cons (.v 1) .nil))))
@[reducible] noncomputable def GG:Ev.S:=.set 3 (.cl 22 (.cons (.v 0) (.cons (.c (.int 50)) (.cons (.v 1) .nil))))
@[reducible] noncomputable def zv:Ev.Ss:=(.cons (.set 5 (.cl 14 (.cons (.v 2) (.cons (.v 3) (.cons (.v 4) .nil))))) (.cons (.set 6 (.cl 14 (.cons (.v 3) (.cons (.v 2) (.cons (.nt (.v 4)) .nil))))) (.cons (.set 7 (.cl 10 (.cons (.v 2) (.cons (.v 6) .nil)))) (.cons (.iff (.orr (.cmp .ne (.v 7) (.cl 10 (.cons (.v 3) (.cons (.v 5) .nil)))) (.orr (.cmp .ne (.cl 1 (.cons (.v 5) .nil)) (.cl 2 (.cons (.v 3) .nil))) (.cmp .ne (.cl 1 (.cons (.v 6) .nil)) (.cl 2 (.cons (.v 2) .nil))))) (.cons (.ret (.c (.bl false))) .nil) .nil) (.cons (.iff (.orr (.nt (.cl 6 (.cons (.v 7) (.cons (.v 1) .nil)))) (.an (.v 4) (.cmp .ne (.cl 18 (.cons (.v 2) (.cons (.v 3) .nil))) (.v 7)))) (.cons (.ret (.c (.bl false))) .nil) .nil) (.cons (.set 8 (.me .join (.c (.str [])) (.cons (.comp (.ix (.v 11) (.c (.int 1))) (.one 11) (.seq (.cl 4 (.cons (.v 2) .nil))) (.yes (.cmp .eq (.ix (.v 11) (.c (.int 0))) (.c (.str [112,117,116]))))) .nil))) (.cons (.iff (.cmp .ne (.me .join (.c (.str [])) (.cons (.comp (.ix (.v 12) (.c (.int 1))) (.one 12) (.seq (.v 5)) (.yes (.cmp .eq (.ix (.v 12) (.c (.int 0))) (.c (.str [112,117,116]))))) .nil)) (.v 8)) (.cons (.ret (.c (.bl false))) .nil) .nil) (.cons (.iff (.cmp .gt (.cl 3 (.cons (.v 5) .nil)) (.cl 3 (.cons (.v 2) .nil))) (.cons (.ret (.c (.bl false))) .nil) .nil) (.cons (.set 9 (.comp (.v 13) (.one 13) (.zip (.ix (.cl 23 (.cons (.v 2) .nil)) (.c (.int 0))) (.ix (.cl 23 (.cons (.v 3) .nil)) (.c (.int 0)))) (.yes (.cmp .gD (.c (.str [])) (.v 13))))) (.cons (.iff (.orr (.cmp .ne (.bin .sub (.cl 3 (.cons (.v 2) .nil)) (.cl 3 (.cons (.v 5) .nil))) (.bi .len (.cons (.v 9) .nil))) (.cmp .ne (.bin .sub (.cl 1 (.cons (.v 7) .nil)) (.bi .len (.cons (.v 1) .nil))) (.c (.int 0)))) (.cons (.ret (.c (.bl false))) .nil) .nil) .nil))))))))))
@[reducible] noncomputable def GH:Ev.S:=.for (.one 4) (.seq (.tup (.cons (.c (.bl true)) (.cons (.c (.bl false)) .nil)))) zv
@[reducible] noncomputable def zw:Ev.S:=.set 10 (.cl 9 (.cons (.bi .len (.cons (.v 1) .nil)) .nil))
@[reducible] noncomputable def zx:Ev.S:=.iff (.orr (.cmp .ne (.cl 14 (.cons (.v 2) (.cons (.v 10) (.cons (.c (.bl true)) .nil)))) (.cl 4 (.cons (.v 2) .nil))) (.cmp .ne (.cl 14 (.cons (.v 10) (.cons (.v 2) (.cons (.c (.bl false)) .nil)))) (.cl 9 (.cons (.cl 2 (.cons (.v 2) .nil)) .nil)))) (.cons (.ret (.c (.bl false))) .nil) .nil
@[reducible] noncomputable def zy:Ev.S:=.iff (.orr (.cmp .ne (.cl 16 (.cons (.v 2) (.cons (.v 3) .nil))) (.lst .nil)) (.orr (.cmp .ne (.cl 18 (.cons (.v 2) (.cons (.v 10) .nil))) (.cl 4 (.cons (.v 2) .nil))) (.cmp .ne (.cl 18 (.cons (.v 10) (.cons (.v 2) .nil))) (.cl 4 (.cons (.v 2) .nil))))) (.cons (.ret (.c (.bl false))) .nil) .nil
@[reducible] noncomputable def zz:Ev.S:=.ret (.cmp .eq (.cl 7 (.cons (.cl 8 (.cons (.cl 14 (.cons (.v 2) (.cons (.v 3) (.cons (.c (.bl true)) .nil)))) .nil)) (.cons (.cl 7 (.cons (.cl 18 (.cons (.v 2) (.cons (.v 3) .nil))) (.cons (.v 1) .nil))) .nil))) (.cl 7 (.cons (.v 3) (.cons (.v 1) .nil))))
@[reducible] noncomputable def GI:Ev.Fn:=⟨1,14,(.cons GD (.cons GF (.cons GG (.cons GH (.cons zw (.cons zx (.cons zy (.cons zz .nil))))))))⟩
noncomputable def prog:List Ev.Fn:=[f0,f1,f2,f3,f4,f5,f6,f7,f8,f9,Fy,U8,U9,Va,Vb,Vc,Vd,Ve,GC,Vf,Vg,Vh,Vi,Vj,GI]
end Lw
set_option maxRecDepth 100000
namespace Lw
open PySem PySem.Spec PyProof.Rows L2 Sm
open Ev (D O Hh Fr R aP E Es Eo T S Ss Fl Src bZ bP TY BI ME)
noncomputable def top (i:Nat):Stmt:=PySem.Challenge.pw_pastways_k21_whole_past.main.body.getD i (.Pass ⟨0,0,0,0⟩)
abbrev i0 (a:Nat→Addr) (d:Nat→FuncData):FI:=⟨"size",a 0,d 0,["part"]⟩
abbrev i1 (a:Nat→Addr) (d:Nat→FuncData):FI:=⟨"before",a 1,d 1,["change"]⟩
abbrev i2 (a:Nat→Addr) (d:Nat→FuncData):FI:=⟨"after",a 2,d 2,["change"]⟩
abbrev i3 (a:Nat→Addr) (d:Nat→FuncData):FI:=⟨"cost",a 3,d 3,["change"]⟩
abbrev i4 (a:Nat→Addr) (d:Nat→FuncData):FI:=⟨"form",a 4,d 4,["change"]⟩
abbrev i5 (a:Nat→Addr) (d:Nat→FuncData):FI:=⟨"stretch",a 5,d 5,["kept","gone","new"]⟩
abbrev i6 (a:Nat→Addr) (d:Nat→FuncData):FI:=⟨"fits",a 6,d 6,["change","text"]⟩
abbrev i7 (a:Nat→Addr) (d:Nat→FuncData):FI:=⟨"done",a 7,d 7,["change","text"]⟩
abbrev i8 (a:Nat→Addr) (d:Nat→FuncData):FI:=⟨"undone",a 8,d 8,["change"]⟩
abbrev i9 (a:Nat→Addr) (d:Nat→FuncData):FI:=⟨"nothing",a 9,d 9,["many"]⟩
abbrev GJ (a:Nat→Addr) (d:Nat→FuncData):FI:=⟨"then",a 10,d 10,["one","other"]⟩
abbrev GK (a:Nat→Addr) (d:Nat→FuncData):FI:=⟨"met",a 11,d 11,["left","gone_through"]⟩
abbrev i12 (a:Nat→Addr) (d:Nat→FuncData):FI:=⟨"taken",a 12,d 12,["parts","many"]⟩
abbrev GL (a:Nat→Addr) (d:Nat→FuncData):FI:=⟨"parted",a 13,d 13,["part","many"]⟩
abbrev GN (a:Nat→Addr) (d:Nat→FuncData):FI:=⟨"past",a 14,d 14,["one","other","is_first"]⟩
abbrev GO (a:Nat→Addr) (d:Nat→FuncData):FI:=⟨"puts_next",a 15,d 15,["parts"]⟩
abbrev GP (a:Nat→Addr) (d:Nat→FuncData):FI:=⟨"clashing",a 16,d 16,["one","other"]⟩
abbrev GQ (a:Nat→Addr) (d:Nat→FuncData):FI:=⟨"dropped_signs",a 17,d 17,["change"]⟩
abbrev GR (a:Nat→Addr) (d:Nat→FuncData):FI:=⟨"merged",a 18,d 18,["one","other"]⟩
abbrev GS (a:Nat→Addr) (d:Nat→FuncData):FI:=⟨"_law_cell",a 19,d 19,["_law_script","_law_k"]⟩
abbrev GU (a:Nat→Addr) (d:Nat→FuncData):FI:=⟨"_law_drawn",a 20,d 20,["_law_script","_law_k","_law_many"]⟩
abbrev GV (a:Nat→Addr) (d:Nat→FuncData):FI:=⟨"_law_text",a 21,d 21,["_law_script","_law_at","_law_most"]⟩
abbrev GW (a:Nat→Addr) (d:Nat→FuncData):FI:=⟨"_law_change",a 22,d 22,["_law_script","_law_at","_law_text_here"]⟩
abbrev GX (a:Nat→Addr) (d:Nat→FuncData):FI:=⟨"_law_sense",a 23,d 23,["_law_change_here"]⟩
abbrev Cf (a:Nat→Addr) (d:Nat→FuncData):FI:=⟨"law",a 24,d 24,["_law_script"]⟩
noncomputable def mZ:List Str:=["len","list","min","range","reversed","sorted","sum","tuple","zip"]
theorem Ue:("len" : Str)∈mZ:=by decide +kernel
theorem vF:("list" : Str)∈mZ:=by decide +kernel
theorem Ug:("min" : Str)∈mZ:=by decide +kernel
theorem xS:("range" : Str)∈mZ:=by decide +kernel
theorem zA:("reversed" : Str)∈mZ:=by decide +kernel
theorem EF:("sorted" : Str)∈mZ:=by decide +kernel
theorem Uh:("sum" : Str)∈mZ:=by decide +kernel
theorem Kp:("tuple" : Str)∈mZ:=by decide +kernel
theorem Ui:("zip" : Str)∈mZ:=by decide +kernel
noncomputable def tb (a:Nat→Addr) (d:Nat→FuncData):Tb:=⟨prog,100000,[i0 a d,i1 a d,i2 a d,i3 a d,i4 a d,i5 a d,i6 a d,i7 a d,i8 a d,i9 a d,GJ a d,GK a d,i12 a d,GL a d,GN a d,GO a d,GP a d,GQ a d,GR a d,GS a d,GU a d,GV a d,GW a d,GX a d,Cf a d],mZ,[("__name__",.str [108,97,119,95,112,97,115,116,119,97,121,115,95,107,50,49,95,119,104,111,108,101,95,112,97,115,116])],[("TURNED",[(.str [107,101,101,112],.str [107,101,101,112]),(.str [112,117,116],.str [100,114,111,112]),(.str [100,114,111,112],.str [112,117,116])])]⟩
section
variable {a:Nat→Addr}{d:Nat→FuncData}{n:Nat}
abbrev n0:List Str:=["part"]
theorem s0:bG n0 ["part"] (aq (top 1)):=⟨rfl,rfl,rfl,by decide +kernel,rfl,by decide +kernel,by decide +kernel⟩
abbrev n1:List Str:=["change"]
theorem s1:bG n1 ["change"] (aq (top 2)):=⟨rfl,rfl,rfl,by decide +kernel,rfl,by decide +kernel,by decide +kernel⟩
abbrev n2:List Str:=["change"]
theorem s2:bG n2 ["change"] (aq (top 3)):=⟨rfl,rfl,rfl,by decide +kernel,rfl,by decide +kernel,by decide +kernel⟩
abbrev n3:List Str:=["change"]
theorem s3:bG n3 ["change"] (aq (top 4)):=⟨rfl,rfl,rfl,by decide +kernel,rfl,by decide +kernel,by decide +kernel⟩
abbrev n4:List Str:=["change","parts","kept","gone","new","word","what"]
theorem s4:bG n4 ["change"] (aq (top 5)):=⟨rfl,rfl,rfl,by decide +kernel,rfl,by decide +kernel,by decide +kernel⟩
abbrev n5:List Str:=["kept","gone","new","parts"]
theorem s5:bG n5 ["kept","gone","new"] (aq (top 6)):=⟨rfl,rfl,rfl,by decide +kernel,rfl,by decide +kernel,by decide +kernel⟩
abbrev n6:List Str:=["change","text","place","part"]
theorem s6:bG n6 ["change","text"] (aq (top 13)):=⟨rfl,rfl,rfl,by decide +kernel,rfl,by decide +kernel,by decide +kernel⟩
abbrev n7:List Str:=["change","text","pieces","place","word","what"]
theorem s7:bG n7 ["change","text"] (aq (top 14)):=⟨rfl,rfl,rfl,by decide +kernel,rfl,by decide +kernel,by decide +kernel⟩
abbrev n8:List Str:=["change"]
theorem s8:bG n8 ["change"] (aq (top 15)):=⟨rfl,rfl,rfl,by decide +kernel,rfl,by decide +kernel,by decide +kernel⟩
abbrev n9:List Str:=["many"]
theorem s9:bG n9 ["many"] (aq (top 16)):=⟨rfl,rfl,rfl,by decide +kernel,rfl,by decide +kernel,by decide +kernel⟩
abbrev Vk:List Str:=["one","other","ones","others","parts","many"]
theorem UD:bG Vk ["one","other"] (aq (top 17)):=⟨rfl,rfl,rfl,by decide +kernel,rfl,by decide +kernel,by decide +kernel⟩
abbrev Vl:List Str:=["left","gone_through"]
theorem Fv:bG Vl ["left","gone_through"] (aq (top 18)):=⟨rfl,rfl,rfl,by decide +kernel,rfl,by decide +kernel,by decide +kernel⟩
abbrev Vm:List Str:=["parts","many","halves"]
theorem s12:bG Vm ["parts","many"] (aq (top 19)):=⟨rfl,rfl,rfl,by decide +kernel,rfl,by decide +kernel,by decide +kernel⟩
abbrev Vn:List Str:=["part","many","word"]
theorem s13:bG Vn ["part","many"] (aq (top 20)):=⟨rfl,rfl,rfl,by decide +kernel,rfl,by decide +kernel,by decide +kernel⟩
abbrev Vo:List Str:=["one","other","is_first","ones","others","parts","many","part"]
theorem s14:bG Vo ["one","other","is_first"] (aq (top 22)):=⟨rfl,rfl,rfl,by decide +kernel,rfl,by decide +kernel,by decide +kernel⟩
abbrev Vp:List Str:=["parts"]
theorem s15:bG Vp ["parts"] (aq (top 23)):=⟨rfl,rfl,rfl,by decide +kernel,rfl,by decide +kernel,by decide +kernel⟩
abbrev Vq:List Str:=["one","other","signs","unlike"]
theorem s16:bG Vq ["one","other"] (aq (top 24)):=⟨rfl,rfl,rfl,by decide +kernel,rfl,by decide +kernel,by decide +kernel⟩
abbrev Vr:List Str:=["change","signs","place","part","sign"]
theorem s17:bG Vr ["change"] (aq (top 25)):=⟨rfl,rfl,rfl,by decide +kernel,rfl,by decide +kernel,by decide +kernel⟩
abbrev Vs:List Str:=["one","other"]
theorem s18:bG Vs ["one","other"] (aq (top 26)):=⟨rfl,rfl,rfl,by decide +kernel,rfl,by decide +kernel,by decide +kernel⟩
abbrev Vt:List Str:=["_law_script","_law_k"]
theorem s19:bG Vt ["_law_script","_law_k"] (aq (top 28)):=⟨rfl,rfl,rfl,by decide +kernel,rfl,by decide +kernel,by decide +kernel⟩
abbrev Vu:List Str:=["_law_script","_law_k","_law_many","_law_cell_here"]
theorem s20:bG Vu ["_law_script","_law_k","_law_many"] (aq (top 29)):=⟨rfl,rfl,rfl,by decide +kernel,rfl,by decide +kernel,by decide +kernel⟩
abbrev Vv:List Str:=["_law_script","_law_at","_law_most"]
theorem s21:bG Vv ["_law_script","_law_at","_law_most"] (aq (top 30)):=⟨rfl,rfl,rfl,by decide +kernel,rfl,by decide +kernel,by decide +kernel⟩
abbrev Vw:List Str:=["_law_script","_law_at","_law_text_here","_law_found","_law_k","_law_new","_law_is_kept"]
theorem s22:bG Vw ["_law_script","_law_at","_law_text_here"] (aq (top 31)):=⟨rfl,rfl,rfl,by decide +kernel,rfl,by decide +kernel,by decide +kernel⟩
abbrev Vx:List Str:=["_law_change_here","_law_asks","_law_told","_law_word","_law_what"]
theorem s23:bG Vx ["_law_change_here"] (aq (top 32)):=⟨rfl,rfl,rfl,by decide +kernel,rfl,by decide +kernel,by decide +kernel⟩
abbrev Vy:List Str:=["_law_script","_law_text_here","_law_one","_law_other","_law_is_first","_law_led","_law_back","_law_whole","_law_mine","_law_asks","_law_still"]
theorem s24:bG Vy ["_law_script"] (aq (top 34)):=⟨rfl,rfl,rfl,by decide +kernel,rfl,by decide +kernel,by decide +kernel⟩
set_option maxHeartbeats 0 in
theorem dI:allB (tb a d) n [(f0.body,top 1,n0),(f1.body,top 2,n1),(f2.body,top 3,n2),(f3.body,top 4,n3),(f4.body,top 5,n4),(f5.body,top 6,n5),(f6.body,top 13,n6),(f7.body,top 14,n7),(f8.body,top 15,n8),(f9.body,top 16,n9),(Fy.body,top 17,Vk),(U8.body,top 18,Vl),(U9.body,top 19,Vm),(Va.body,top 20,Vn),(Vb.body,top 22,Vo),(Vc.body,top 23,Vp),(Vd.body,top 24,Vq),(Ve.body,top 25,Vr),(GC.body,top 26,Vs),(Vf.body,top 28,Vt),(Vg.body,top 29,Vu),(Vh.body,top 30,Vv),(Vi.body,top 31,Vw),(Vj.body,top 32,Vx),(GI.body,top 34,Vy)]:=by
 refine ⟨?_,?_,?_,?_,?_,?_,?_,?_,?_,?_,?_,?_,?_,?_,?_,?_,?_,?_,?_,?_,?_,?_,?_,?_,?_,trivial⟩
 all_goals dsimp only
 all_goals repeat (first
  | ((with_reducible show JE _ _ _ _ _ _ _ (.BoolOp _ [_] _));refine LK ?_)
  | ((with_reducible show JE _ _ _ _ _ _ (.v _) _);exact jv (by decide +kernel))
  | ((with_reducible show JA _ _ _ _ _ _ (.cons _ _) _);refine Ip ?_ ?_)
  | ((with_reducible show lQ _ _ _ _ _ _ (.cons _ _) _);refine CO ?_ ?_)
  | ((with_reducible show JA _ _ _ _ _ _ .nil _);refine LG)
  | ((with_reducible show lQ _ _ _ _ _ _ .nil _);refine IA)
  | ((with_reducible show JE _ _ _ _ _ _ (.c (.int _)) _);refine LD)
  | ((with_reducible show JE _ _ _ _ _ _ (.cl _ _) _);refine ZT (by decide +kernel) rfl rfl ?_)
  | ((with_reducible show JE _ _ _ _ _ _ (.c (.str _)) _);refine LF)
  | ((with_reducible show JE _ _ _ _ _ _ (.ix _ _) _);refine RK (fun X g=>RW) ?_ ?_)
  | ((with_reducible show JS _ _ _ _ _ _ (.iff _ _ _) _);refine L3 ?_ ?_ ?_)
  | ((with_reducible show JS _ _ _ _ _ _ (.ret _) _);refine L1 ?_)
  | ((with_reducible show JE _ _ _ _ _ _ (.bin .add _ _) _);refine mz (fun X g=>Ml) ?_ ?_)
  | ((with_reducible show JT _ _ _ _ _ _ (.cmp .ne _ _) _);refine mC (fun X g=>RT g) ?_ ?_ (j8 _))
  | ((with_reducible show JE _ _ _ _ _ _ (.tup _) _);refine LH ?_)
  | ((with_reducible show JT _ _ _ _ _ _ (.cmp .eq _ _) _);refine mC (fun X g=>FH g) ?_ ?_ (j8 _))
  | ((with_reducible show JI _ _ _ _ _ _ (.seq _) _ _);refine LW ?_)
  | ((with_reducible show JS _ _ _ _ _ _ (.exp _) _);refine L0 ?_)
  | ((with_reducible show JE _ _ _ _ _ _ (.c (.bl _)) _);refine RG)
  | ((with_reducible show JE _ _ _ _ _ _ (.bi .len _) _);refine sH (x:="len") (id:="len") (fun X g=>Mx) ?_ (hb:=Ue) (hv:=by decide +kernel))
  | ((with_reducible show JG _ _ _ _ _ _ (.one _) _);exact ZR (by decide +kernel))
  | ((with_reducible show JE _ _ _ _ _ _ (.lst _) _);refine LI ?_)
  | ((with_reducible show JE _ _ _ _ _ _ (.bin .mul _ _) _);refine mz (fun X g=>Mv) ?_ ?_)
  | ((with_reducible show JT _ _ _ _ _ _ (.orr _ _) _);refine Xn ?_ ?_)
  | ((with_reducible show JW _ _ _ _ _ _ (.orr _ _) (.BoolOp _ (_ :: _ :: _) _));refine Ag ?_ ?_)
  | ((with_reducible show JE _ _ _ _ _ _ (.me .append _ (.cons _ _)) _);refine ym PySem.F.plainAttrs_list PySem.F.slot_list_append PySem.F.type_list_append (fun X g=>AE) rfl ?_ ?_)
  | ((with_reducible show JW _ _ _ _ _ _ _ (.BoolOp .Or [_] _));refine Iq ?_)
  | ((with_reducible show JE _ _ _ _ _ _ (.comp _ _ _ _) _);refine R1 (by decide +kernel) (by decide +kernel) ?_ ?_ ?_ ?_)
  | ((with_reducible show JS _ _ _ _ _ _ (.for _ _ _) _);refine L5 ?_ ?_ ?_)
  | ((with_reducible show rL _ _ _ _ _ _ (_ :: _) _);refine ZS (by decide +kernel) ?_)
  | ((with_reducible show JC _ _ _ _ _ _ (.yes _) _);refine L8 ?_)
  | ((with_reducible show JE _ _ _ _ _ _ (.neg _) _);refine LJ ?_)
  | ((with_reducible show JO _ _ _ _ _ _ (.yes _) _);refine LR ?_)
  | ((with_reducible show JE _ _ _ _ _ _ (.bin .mod _ _) _);refine mz (fun X g=>Mn) ?_ ?_)
  | ((with_reducible show JT _ _ _ _ _ _ (.an _ _) _);refine Xm ?_ ?_)
  | ((with_reducible show JW _ _ _ _ _ _ (.an _ _) (.BoolOp _ (_ :: _ :: _) _));refine Fg ?_ ?_)
  | ((with_reducible show JW _ _ _ _ _ _ _ (.BoolOp .And [_] _));refine LN ?_)
  | ((with_reducible show JS _ _ _ _ _ _ .fk _);refine MC)
  | ((with_reducible show JE _ _ _ _ _ _ (.me .pop _ .nil) _);refine LS PySem.F.plainAttrs_list PySem.F.slot_list_pop PySem.F.type_list_pop (fun X g=>Mz) rfl ?_)
  | ((with_reducible show JG _ _ _ _ _ _ (.many _) _);refine Iz ?_)
  | ((with_reducible show rL _ _ _ _ _ _ [] _);refine Iw)
  | ((with_reducible show JT _ _ _ _ _ _ (.cmp .gt _ _) _);refine mC (fun X g=>FJ) ?_ ?_ (j8 _))
  | ((with_reducible show JE _ _ _ _ _ _ (.iw _) _);refine MB ?_ (h1:=Kp))
  | ((with_reducible show JE _ _ _ _ _ _ (.sl _ _ _) _);refine RM (fun X g=>Mu) ?_ ?_ ?_)
  | ((with_reducible show JE _ _ _ _ _ _ (.me .join _ (.cons _ _)) _);refine ym PySem.F.plainAttrs_str PySem.F.slot_str_join PySem.F.type_str_join (fun X g=>IX) rfl ?_ ?_)
  | ((with_reducible show JE _ _ _ _ _ _ (.ee (.rev _)) _);refine Jc ?_ (h1:=vF) (hb:=zA))
  | ((with_reducible show JE _ _ _ _ _ _ (.bin .fdiv _ _) _);refine mz (fun X g=>IS) ?_ ?_)
  | ((with_reducible show JE _ _ _ _ _ _ (.bi .sum _) _);refine sH (x:="sum") (id:="sum") (fun X g=>Mw g) ?_ (hb:=Uh) (hv:=by decide +kernel))
  | ((with_reducible show JE _ _ _ _ _ _ (.me .extend _ (.cons _ _)) _);refine ym PySem.F.plainAttrs_list PySem.F.slot_list_extend PySem.F.type_list_extend (fun X g=>AF) rfl ?_ ?_)
  | ((with_reducible show JE _ _ _ _ _ _ (.cmp .eq _ _) _);refine Af (fun X g=>FH g) ?_ ?_ (j8 _))
  | ((with_reducible show JT _ _ _ _ _ _ (.nt _) _);refine RJ ?_)
  | ((with_reducible show JE _ _ _ _ _ _ (.bin .sub _ _) _);refine mz (fun X g=>Mm) ?_ ?_)
  | ((with_reducible show JC _ _ _ _ _ _ .no _);refine RP)
  | ((with_reducible show JS _ _ _ _ _ _ (.mw _ _) _);refine L4 ?_ ?_)
  | ((with_reducible show JE _ _ _ _ _ _ (.bi .min _) _);refine sH (x:="min") (id:="min") (fun X g=>My g) ?_ (hb:=Ug) (hv:=by decide +kernel))
  | ((with_reducible show JO _ _ _ _ _ _ .no _);refine RL)
  | ((with_reducible show JE _ _ _ _ _ _ (.cmp .gt _ _) _);refine Af (fun X g=>FJ) ?_ ?_ (j8 _))
  | ((with_reducible show JE _ _ _ _ _ _ (.jL _ _) _);refine L6 ?_ ?_)
  | ((with_reducible show JI _ _ _ _ _ _ (.gy (.cons _ .nil)) _ _);refine Iv ?_ (hb:=xS))
  | ((with_reducible show JE _ _ _ _ _ _ (.ee (.seq _)) _);refine MA ?_ (h1:=vF))
  | ((with_reducible show JE _ _ _ _ _ _ (.iV _ _) _);refine Jb (x:="TURNED") (.head _) ?_)
  | ((with_reducible show JE _ _ _ _ _ _ (.an _ _) (.BoolOp _ (_ :: _ :: _) _));refine RI ?_ ?_)
  | ((with_reducible show JE _ _ _ _ _ _ (.bi .jK _) _);refine sH (x:="sorted") (id:="sorted") (fun X g=>C9 g.calm) ?_ (hb:=EF) (hv:=by decide +kernel))
  | ((with_reducible show JE _ _ _ _ _ _ (.lP _ _ _) _);refine L7 ?_ ?_ ?_)
  | ((with_reducible show JE _ _ _ _ _ _ .iW _);exact IG)
  | ((with_reducible show JS _ _ _ _ _ _ (.dput _ _ _) _);refine II ?_ ?_ ?_)
  | ((with_reducible show JT _ _ _ _ _ _ (.cmp .lt _ _) _);refine mC (fun X g=>RU) ?_ ?_ (j8 _))
  | ((with_reducible show JE _ _ _ _ _ _ (.lO _ _ _) _);refine LL ?_ ?_ ?_)
  | ((with_reducible show JE _ _ _ _ _ _ (.ee (.gy (.cons _ (.cons _ .nil)))) _);refine C2 ?_ (h1:=vF) (hb:=xS))
  | ((with_reducible show JE _ _ _ _ _ _ (.nt _) _);refine RH ?_)
  | ((with_reducible show JS _ _ _ _ _ _ (.set _ (.comp _ _ _ _)) _);refine R3 (by decide +kernel) (by decide +kernel) (by decide +kernel) ?_ ?_ ?_ ?_)
  | ((with_reducible show JI _ _ _ _ _ _ (.zip _ _) _ _);refine MG ?_ ?_ (UI:=Ui))
  | ((with_reducible show JT _ _ _ _ _ _ (.cmp .gD _ _) _);refine mC (fun X g=>CZ g) ?_ ?_ (by with_unfolding_all rfl))
  | ((with_reducible show JS _ _ _ _ _ _ (.set _ _) _);refine Xl (by decide +kernel) ?_)
  | ((with_reducible show JT _ _ _ _ _ _ _ _);refine LP ?_))
end
end Lw
set_option maxRecDepth 100000
namespace Lw
open PySem PySem.Spec PyProof.Rows L2 Sm
open Ev (D O Hh Fr R aP E Es Eo T S Ss Fl Src bZ bP TY BI ME)
theorem iY {α:Type _}{l:List α}(h:l.length=1):∃ a,l=[a]:=by
 rcases l with _ | ⟨a,_ | ⟨b,l⟩⟩ <;> simp at h ⊢
theorem j7 {α:Type _}{l:List α}(h:l.length=2):∃ a b,l=[a,b]:=by
 rcases l with _ | ⟨a,l⟩
 ·simp at h
 ·obtain ⟨b,rfl⟩:=iY (l:=l) (by simpa using h);exact ⟨a,b,rfl⟩
theorem vG {α:Type _}{l:List α}(h:l.length=3):∃ a b c,l=[a,b,c]:=by
 rcases l with _ | ⟨a,l⟩
 ·simp at h
 ·obtain ⟨b,c,rfl⟩:=j7 (l:=l) (by simpa using h);exact ⟨a,b,c,rfl⟩
theorem all_mk {l:PySem.W.OpenLaw}{w:World}{K:PySem.W.Frag}{h:Heap}{mg:Str→Option Value}{fa p0 p1 p2 p3 p4 p5 p6 p7 p8 p9 GY GZ G0 G1 G2 G3 G4 G5 G6 G7 G8 Hf Hg Hi Cg:Addr}(X:K.In h) (G:h.Ns mainGlobals mg) (hfa:mg "law" = some (.ref fa))
  {od0 OB od1 Vz od2 VA od3 VB od4 VC od5 VD od6 VE od7 VF od8 VG od9 VH Yj OC Yk OD Yl OE Ym OF Yn OG Yo OH Yp OI Yq OJ Yr OL Ys OM Yt ON Yu OO Yv OP Yw OQ Yx EG:Option Addr} {sl0 sl1 sl2 sl3 sl4 sl5 sl6 sl7 sl8 sl9 Yy Yz YA YB YC YD YE YF YG YH YI YJ YK YL YM:Array (Option Value)} {oc0 OR OS OT Hj OU oc1 VI VJ VL OV VM oc2 VN VO VP OW VQ oc3 VR VS VT OX VU oc4 VV VW VX OY VY oc5 VZ V0 V1 OZ V2 oc6 V3 V4 V5 O0 V6 oc7 V7 V8 V9 O1 Wa oc8 Wb Wc Wd O2 We oc9 Wf Wg Wh O3 Wi YN O4 O5 O6 EH O7 YO O8 O9 Pb EI Pc YQ Pd Pe Pf EJ Pg YR Ph Pj Pk EK Pn YS Po Pp Pq EL Pr YT Pu Pw Px EM Py YU Pz PB PC EN PD YV PF PJ PK EO PL YW PM PN PR ER PU YX PV PX PY ES PZ YY P0 P1 P4 ET P5 YZ P6 P7 P8 EU P9 Y0 Qa Qc Qd EV Qe Y3 Qf Qg Qh EW Qi Y4 EX EY EZ zB E1:Value}
  (a0:PySem.W.nsIn K mainGlobals "size" = some (some (.ref p0))) (l0:K.lookup p0=some ⟨oc0,od0,.func (PySem.W.fnOf "size" "size" (aI (top 1)) (aF (top 1)) (aq (top 1)) .none OR OS OT OB Hj OU),sl0⟩) (c0:PySem.W.codeIn K Hj "size" = true) (k0:PySem.W.keepIn K (.ref p0)=true)
  (a1:PySem.W.nsIn K mainGlobals "before" = some (some (.ref p1))) (l1:K.lookup p1=some ⟨oc1,od1,.func (PySem.W.fnOf "before" "before" (aI (top 2)) (aF (top 2)) (aq (top 2)) .none VI VJ VL Vz OV VM),sl1⟩) (c1:PySem.W.codeIn K OV "before" = true) (k1:PySem.W.keepIn K (.ref p1)=true)
  (a2:PySem.W.nsIn K mainGlobals "after" = some (some (.ref p2))) (l2:K.lookup p2=some ⟨oc2,od2,.func (PySem.W.fnOf "after" "after" (aI (top 3)) (aF (top 3)) (aq (top 3)) .none VN VO VP VA OW VQ),sl2⟩) (c2:PySem.W.codeIn K OW "after" = true) (k2:PySem.W.keepIn K (.ref p2)=true)
  (a3:PySem.W.nsIn K mainGlobals "cost" = some (some (.ref p3))) (l3:K.lookup p3=some ⟨oc3,od3,.func (PySem.W.fnOf "cost" "cost" (aI (top 4)) (aF (top 4)) (aq (top 4)) .none VR VS VT VB OX VU),sl3⟩) (c3:PySem.W.codeIn K OX "cost" = true) (k3:PySem.W.keepIn K (.ref p3)=true)
  (a4:PySem.W.nsIn K mainGlobals "form" = some (some (.ref p4))) (l4:K.lookup p4=some ⟨oc4,od4,.func (PySem.W.fnOf "form" "form" (aI (top 5)) (aF (top 5)) (aq (top 5)) .none VV VW VX VC OY VY),sl4⟩) (c4:PySem.W.codeIn K OY "form" = true) (k4:PySem.W.keepIn K (.ref p4)=true)
  (a5:PySem.W.nsIn K mainGlobals "stretch" = some (some (.ref p5))) (l5:K.lookup p5=some ⟨oc5,od5,.func (PySem.W.fnOf "stretch" "stretch" (aI (top 6)) (aF (top 6)) (aq (top 6)) .none VZ V0 V1 VD OZ V2),sl5⟩) (c5:PySem.W.codeIn K OZ "stretch" = true) (k5:PySem.W.keepIn K (.ref p5)=true)
  (a6:PySem.W.nsIn K mainGlobals "fits" = some (some (.ref p6))) (l6:K.lookup p6=some ⟨oc6,od6,.func (PySem.W.fnOf "fits" "fits" (aI (top 13)) (aF (top 13)) (aq (top 13)) .none V3 V4 V5 VE O0 V6),sl6⟩) (c6:PySem.W.codeIn K O0 "fits" = true) (k6:PySem.W.keepIn K (.ref p6)=true)
  (a7:PySem.W.nsIn K mainGlobals "done" = some (some (.ref p7))) (l7:K.lookup p7=some ⟨oc7,od7,.func (PySem.W.fnOf "done" "done" (aI (top 14)) (aF (top 14)) (aq (top 14)) .none V7 V8 V9 VF O1 Wa),sl7⟩) (c7:PySem.W.codeIn K O1 "done" = true) (k7:PySem.W.keepIn K (.ref p7)=true)
  (a8:PySem.W.nsIn K mainGlobals "undone" = some (some (.ref p8))) (l8:K.lookup p8=some ⟨oc8,od8,.func (PySem.W.fnOf "undone" "undone" (aI (top 15)) (aF (top 15)) (aq (top 15)) .none Wb Wc Wd VG O2 We),sl8⟩) (c8:PySem.W.codeIn K O2 "undone" = true) (k8:PySem.W.keepIn K (.ref p8)=true)
  (a9:PySem.W.nsIn K mainGlobals "nothing" = some (some (.ref p9))) (l9:K.lookup p9=some ⟨oc9,od9,.func (PySem.W.fnOf "nothing" "nothing" (aI (top 16)) (aF (top 16)) (aq (top 16)) .none Wf Wg Wh VH O3 Wi),sl9⟩) (c9:PySem.W.codeIn K O3 "nothing" = true) (k9:PySem.W.keepIn K (.ref p9)=true)
  (Qj:PySem.W.nsIn K mainGlobals "then" = some (some (.ref GY))) (Qk:K.lookup GY=some ⟨YN,Yj,.func (PySem.W.fnOf "then" "then" (aI (top 17)) (aF (top 17)) (aq (top 17)) .none O4 O5 O6 OC EH O7),Yy⟩) (Ql:PySem.W.codeIn K EH "then" = true) (Hl:PySem.W.keepIn K (.ref GY)=true)
  (Qm:PySem.W.nsIn K mainGlobals "met" = some (some (.ref GZ))) (Qn:K.lookup GZ=some ⟨YO,Yk,.func (PySem.W.fnOf "met" "met" (aI (top 18)) (aF (top 18)) (aq (top 18)) .none O8 O9 Pb OD EI Pc),Yz⟩) (Qo:PySem.W.codeIn K EI "met" = true) (Ho:PySem.W.keepIn K (.ref GZ)=true)
  (Qp:PySem.W.nsIn K mainGlobals "taken" = some (some (.ref G0))) (Qq:K.lookup G0=some ⟨YQ,Yl,.func (PySem.W.fnOf "taken" "taken" (aI (top 19)) (aF (top 19)) (aq (top 19)) .none Pd Pe Pf OE EJ Pg),YA⟩) (c12:PySem.W.codeIn K EJ "taken" = true) (Hq:PySem.W.keepIn K (.ref G0)=true)
  (Qs:PySem.W.nsIn K mainGlobals "parted" = some (some (.ref G1))) (Qt:K.lookup G1=some ⟨YR,Ym,.func (PySem.W.fnOf "parted" "parted" (aI (top 20)) (aF (top 20)) (aq (top 20)) .none Ph Pj Pk OF EK Pn),YB⟩) (Qu:PySem.W.codeIn K EK "parted" = true) (Hr:PySem.W.keepIn K (.ref G1)=true)
  (Qv:PySem.W.nsIn K mainGlobals "past" = some (some (.ref G2))) (Qw:K.lookup G2=some ⟨YS,Yn,.func (PySem.W.fnOf "past" "past" (aI (top 22)) (aF (top 22)) (aq (top 22)) .none Po Pp Pq OG EL Pr),YC⟩) (Qx:PySem.W.codeIn K EL "past" = true) (Hs:PySem.W.keepIn K (.ref G2)=true)
  (Qy:PySem.W.nsIn K mainGlobals "puts_next" = some (some (.ref G3))) (Qz:K.lookup G3=some ⟨YT,Yo,.func (PySem.W.fnOf "puts_next" "puts_next" (aI (top 23)) (aF (top 23)) (aq (top 23)) .none Pu Pw Px OH EM Py),YD⟩) (QA:PySem.W.codeIn K EM "puts_next" = true) (Ht:PySem.W.keepIn K (.ref G3)=true)
  (QB:PySem.W.nsIn K mainGlobals "clashing" = some (some (.ref G4))) (QC:K.lookup G4=some ⟨YU,Yp,.func (PySem.W.fnOf "clashing" "clashing" (aI (top 24)) (aF (top 24)) (aq (top 24)) .none Pz PB PC OI EN PD),YE⟩) (QD:PySem.W.codeIn K EN "clashing" = true) (Hu:PySem.W.keepIn K (.ref G4)=true)
  (QE:PySem.W.nsIn K mainGlobals "dropped_signs" = some (some (.ref G5))) (QF:K.lookup G5=some ⟨YV,Yq,.func (PySem.W.fnOf "dropped_signs" "dropped_signs" (aI (top 25)) (aF (top 25)) (aq (top 25)) .none PF PJ PK OJ EO PL),YF⟩) (QG:PySem.W.codeIn K EO "dropped_signs" = true) (Hv:PySem.W.keepIn K (.ref G5)=true)
  (QH:PySem.W.nsIn K mainGlobals "merged" = some (some (.ref G6))) (QI:K.lookup G6=some ⟨YW,Yr,.func (PySem.W.fnOf "merged" "merged" (aI (top 26)) (aF (top 26)) (aq (top 26)) .none PM PN PR OL ER PU),YG⟩) (QJ:PySem.W.codeIn K ER "merged" = true) (Hw:PySem.W.keepIn K (.ref G6)=true)
  (QK:PySem.W.nsIn K mainGlobals "_law_cell" = some (some (.ref G7))) (QL:K.lookup G7=some ⟨YX,Ys,.func (PySem.W.fnOf "_law_cell" "_law_cell" (aI (top 28)) (aF (top 28)) (aq (top 28)) .none PV PX PY OM ES PZ),YH⟩) (QM:PySem.W.codeIn K ES "_law_cell" = true) (Hx:PySem.W.keepIn K (.ref G7)=true)
  (QN:PySem.W.nsIn K mainGlobals "_law_drawn" = some (some (.ref G8))) (QO:K.lookup G8=some ⟨YY,Yt,.func (PySem.W.fnOf "_law_drawn" "_law_drawn" (aI (top 29)) (aF (top 29)) (aq (top 29)) .none P0 P1 P4 ON ET P5),YI⟩) (QS:PySem.W.codeIn K ET "_law_drawn" = true) (Hy:PySem.W.keepIn K (.ref G8)=true)
  (QT:PySem.W.nsIn K mainGlobals "_law_text" = some (some (.ref Hf))) (QU:K.lookup Hf=some ⟨YZ,Yu,.func (PySem.W.fnOf "_law_text" "_law_text" (aI (top 30)) (aF (top 30)) (aq (top 30)) .none P6 P7 P8 OO EU P9),YJ⟩) (QV:PySem.W.codeIn K EU "_law_text" = true) (Hz:PySem.W.keepIn K (.ref Hf)=true)
  (QW:PySem.W.nsIn K mainGlobals "_law_change" = some (some (.ref Hg))) (QX:K.lookup Hg=some ⟨Y0,Yv,.func (PySem.W.fnOf "_law_change" "_law_change" (aI (top 31)) (aF (top 31)) (aq (top 31)) .none Qa Qc Qd OP EV Qe),YK⟩) (QY:PySem.W.codeIn K EV "_law_change" = true) (HA:PySem.W.keepIn K (.ref Hg)=true)
  (QZ:PySem.W.nsIn K mainGlobals "_law_sense" = some (some (.ref Hi))) (Q0:K.lookup Hi=some ⟨Y3,Yw,.func (PySem.W.fnOf "_law_sense" "_law_sense" (aI (top 32)) (aF (top 32)) (aq (top 32)) .none Qf Qg Qh OQ EW Qi),YL⟩) (Q2:PySem.W.codeIn K EW "_law_sense" = true) (HB:PySem.W.keepIn K (.ref Hi)=true)
  (HC:PySem.W.nsIn K mainGlobals "law" = some (some (.ref Cg))) (Q3:K.lookup Cg=some ⟨Y4,Yx,.func (PySem.W.fnOf "law" "law" (aI (top 34)) (aF (top 34)) (aq (top 34)) .none EX EY EZ EG zB E1),YM⟩) (Q4:PySem.W.codeIn K zB "law" = true) (HD:PySem.W.keepIn K (.ref Cg)=true)
  (z0:PySem.W.nsIn K mainGlobals "len" = some none)
  (z1:PySem.W.nsIn K mainGlobals "list" = some none)
  (z2:PySem.W.nsIn K mainGlobals "min" = some none)
  (z3:PySem.W.nsIn K mainGlobals "range" = some none)
  (z4:PySem.W.nsIn K mainGlobals "reversed" = some none)
  (z5:PySem.W.nsIn K mainGlobals "sorted" = some none)
  (z6:PySem.W.nsIn K mainGlobals "sum" = some none)
  (z7:PySem.W.nsIn K mainGlobals "tuple" = some none)
  (z8:PySem.W.nsIn K mainGlobals "zip" = some none)
  {t0:Tok} (q0:PySem.W.nsIn K mainGlobals "__name__" = some (some (.str "law_pastways_k21_whole_past" t0)))
  {HE:Addr} (Q5:PySem.W.nsIn K mainGlobals "TURNED" = some (some (.ref HE))) (Q6:PyProof.Rows.KTD.tabLook PyProof.Rows.KTD.flatLooks (fun b=>K.lookup b) HE [(aN [107,101,101,112],PyData.str (aN [107,101,101,112])),(aN [112,117,116],PyData.str (aN [100,114,111,112])),(aN [100,114,111,112],PyData.str (aN [112,117,116]))]=true) (Q7:PyProof.Rows.KTD.hashesOf (fun b=>K.lookup b) HE=([(aN [107,101,101,112],PyData.str (aN [107,101,101,112])),(aN [112,117,116],PyData.str (aN [100,114,111,112])),(aN [100,114,111,112],PyData.str (aN [112,117,116]))]:List (Str×PyData)).map fun p=>(PySem.strKind l.prog w).hash p.1)
  : ∃ fd:FuncData,(∀ (s:Shared) (v:Value),BindsTo s fd ⟨[v],[]⟩ [("_law_script",v)])∧∀ base:Heap,K.In base→base.Ns mainGlobals mg→iB l.prog w K mg base mq 60 fa fd ["_law_script"] (nP K prog 100000 60 24):=by
 have e:=hfa.symm.trans (PySem.W.mg_of X G HC)
 have e2:Cg=fa:=by injection e with e;injection e with e;exact e.symm
 subst e2
 have F0:=cj (st:=top 1) l0 c0 k0
 have B0:=F0.binds (ps:=["part"]) fun _ _ _ _ _ _ us hl=>by obtain ⟨_,rfl⟩:=iY hl;rfl
 have F1:=cj (st:=top 2) l1 c1 k1
 have B1:=F1.binds (ps:=["change"]) fun _ _ _ _ _ _ us hl=>by obtain ⟨_,rfl⟩:=iY hl;rfl
 have F2:=cj (st:=top 3) l2 c2 k2
 have B2:=F2.binds (ps:=["change"]) fun _ _ _ _ _ _ us hl=>by obtain ⟨_,rfl⟩:=iY hl;rfl
 have F3:=cj (st:=top 4) l3 c3 k3
 have B3:=F3.binds (ps:=["change"]) fun _ _ _ _ _ _ us hl=>by obtain ⟨_,rfl⟩:=iY hl;rfl
 have F4:=cj (st:=top 5) l4 c4 k4
 have B4:=F4.binds (ps:=["change"]) fun _ _ _ _ _ _ us hl=>by obtain ⟨_,rfl⟩:=iY hl;rfl
 have F5:=cj (st:=top 6) l5 c5 k5
 have B5:=F5.binds (ps:=["kept","gone","new"]) fun _ _ _ _ _ _ us hl=>by obtain ⟨_,_,_,rfl⟩:=vG hl;rfl
 have F6:=cj (st:=top 13) l6 c6 k6
 have B6:=F6.binds (ps:=["change","text"]) fun _ _ _ _ _ _ us hl=>by obtain ⟨_,_,rfl⟩:=j7 hl;rfl
 have F7:=cj (st:=top 14) l7 c7 k7
 have B7:=F7.binds (ps:=["change","text"]) fun _ _ _ _ _ _ us hl=>by obtain ⟨_,_,rfl⟩:=j7 hl;rfl
 have F8:=cj (st:=top 15) l8 c8 k8
 have B8:=F8.binds (ps:=["change"]) fun _ _ _ _ _ _ us hl=>by obtain ⟨_,rfl⟩:=iY hl;rfl
 have F9:=cj (st:=top 16) l9 c9 k9
 have B9:=F9.binds (ps:=["many"]) fun _ _ _ _ _ _ us hl=>by obtain ⟨_,rfl⟩:=iY hl;rfl
 have Wj:=cj (st:=top 17) Qk Ql Hl
 have B10:=Wj.binds (ps:=["one","other"]) fun _ _ _ _ _ _ us hl=>by obtain ⟨_,_,rfl⟩:=j7 hl;rfl
 have Wk:=cj (st:=top 18) Qn Qo Ho
 have B11:=Wk.binds (ps:=["left","gone_through"]) fun _ _ _ _ _ _ us hl=>by obtain ⟨_,_,rfl⟩:=j7 hl;rfl
 have Wl:=cj (st:=top 19) Qq c12 Hq
 have B12:=Wl.binds (ps:=["parts","many"]) fun _ _ _ _ _ _ us hl=>by obtain ⟨_,_,rfl⟩:=j7 hl;rfl
 have Wm:=cj (st:=top 20) Qt Qu Hr
 have B13:=Wm.binds (ps:=["part","many"]) fun _ _ _ _ _ _ us hl=>by obtain ⟨_,_,rfl⟩:=j7 hl;rfl
 have Wn:=cj (st:=top 22) Qw Qx Hs
 have B14:=Wn.binds (ps:=["one","other","is_first"]) fun _ _ _ _ _ _ us hl=>by obtain ⟨_,_,_,rfl⟩:=vG hl;rfl
 have Wo:=cj (st:=top 23) Qz QA Ht
 have B15:=Wo.binds (ps:=["parts"]) fun _ _ _ _ _ _ us hl=>by obtain ⟨_,rfl⟩:=iY hl;rfl
 have Wq:=cj (st:=top 24) QC QD Hu
 have B16:=Wq.binds (ps:=["one","other"]) fun _ _ _ _ _ _ us hl=>by obtain ⟨_,_,rfl⟩:=j7 hl;rfl
 have Wr:=cj (st:=top 25) QF QG Hv
 have B17:=Wr.binds (ps:=["change"]) fun _ _ _ _ _ _ us hl=>by obtain ⟨_,rfl⟩:=iY hl;rfl
 have Ws:=cj (st:=top 26) QI QJ Hw
 have B18:=Ws.binds (ps:=["one","other"]) fun _ _ _ _ _ _ us hl=>by obtain ⟨_,_,rfl⟩:=j7 hl;rfl
 have Wt:=cj (st:=top 28) QL QM Hx
 have B19:=Wt.binds (ps:=["_law_script","_law_k"]) fun _ _ _ _ _ _ us hl=>by obtain ⟨_,_,rfl⟩:=j7 hl;rfl
 have Wu:=cj (st:=top 29) QO QS Hy
 have B20:=Wu.binds (ps:=["_law_script","_law_k","_law_many"]) fun _ _ _ _ _ _ us hl=>by obtain ⟨_,_,_,rfl⟩:=vG hl;rfl
 have Wv:=cj (st:=top 30) QU QV Hz
 have B21:=Wv.binds (ps:=["_law_script","_law_at","_law_most"]) fun _ _ _ _ _ _ us hl=>by obtain ⟨_,_,_,rfl⟩:=vG hl;rfl
 have Ww:=cj (st:=top 31) QX QY HA
 have B22:=Ww.binds (ps:=["_law_script","_law_at","_law_text_here"]) fun _ _ _ _ _ _ us hl=>by obtain ⟨_,_,_,rfl⟩:=vG hl;rfl
 have Wx:=cj (st:=top 32) Q0 Q2 HB
 have B23:=Wx.binds (ps:=["_law_change_here"]) fun _ _ _ _ _ _ us hl=>by obtain ⟨_,rfl⟩:=iY hl;rfl
 have Wy:=cj (st:=top 34) Q3 Q4 HD
 have B24:=Wy.binds (ps:=["_law_script"]) fun _ _ _ _ _ _ us hl=>by obtain ⟨_,rfl⟩:=iY hl;rfl
 let aa:Nat→Addr:=fun k=>[p0,p1,p2,p3,p4,p5,p6,p7,p8,p9,GY,GZ,G0,G1,G2,G3,G4,G5,G6,G7,G8,Hf,Hg,Hi,Cg].getD k p0
 let dd:Nat→FuncData:=fun k=>[(PySem.W.fnOf "size" "size" (aI (top 1)) (aF (top 1)) (aq (top 1)) .none OR OS OT OB Hj OU),(PySem.W.fnOf "before" "before" (aI (top 2)) (aF (top 2)) (aq (top 2)) .none VI VJ VL Vz OV VM),(PySem.W.fnOf "after" "after" (aI (top 3)) (aF (top 3)) (aq (top 3)) .none VN VO VP VA OW VQ),(PySem.W.fnOf "cost" "cost" (aI (top 4)) (aF (top 4)) (aq (top 4)) .none VR VS VT VB OX VU),(PySem.W.fnOf "form" "form" (aI (top 5)) (aF (top 5)) (aq (top 5)) .none VV VW VX VC OY VY),(PySem.W.fnOf "stretch" "stretch" (aI (top 6)) (aF (top 6)) (aq (top 6)) .none VZ V0 V1 VD OZ V2),(PySem.W.fnOf "fits" "fits" (aI (top 13)) (aF (top 13)) (aq (top 13)) .none V3 V4 V5 VE O0 V6),(PySem.W.fnOf "done" "done" (aI (top 14)) (aF (top 14)) (aq (top 14)) .none V7 V8 V9 VF O1 Wa),(PySem.W.fnOf "undone" "undone" (aI (top 15)) (aF (top 15)) (aq (top 15)) .none Wb Wc Wd VG O2 We),(PySem.W.fnOf "nothing" "nothing" (aI (top 16)) (aF (top 16)) (aq (top 16)) .none Wf Wg Wh VH O3 Wi),(PySem.W.fnOf "then" "then" (aI (top 17)) (aF (top 17)) (aq (top 17)) .none O4 O5 O6 OC EH O7),(PySem.W.fnOf "met" "met" (aI (top 18)) (aF (top 18)) (aq (top 18)) .none O8 O9 Pb OD EI Pc),(PySem.W.fnOf "taken" "taken" (aI (top 19)) (aF (top 19)) (aq (top 19)) .none Pd Pe Pf OE EJ Pg),(PySem.W.fnOf "parted" "parted" (aI (top 20)) (aF (top 20)) (aq (top 20)) .none Ph Pj Pk OF EK Pn),(PySem.W.fnOf "past" "past" (aI (top 22)) (aF (top 22)) (aq (top 22)) .none Po Pp Pq OG EL Pr),(PySem.W.fnOf "puts_next" "puts_next" (aI (top 23)) (aF (top 23)) (aq (top 23)) .none Pu Pw Px OH EM Py),(PySem.W.fnOf "clashing" "clashing" (aI (top 24)) (aF (top 24)) (aq (top 24)) .none Pz PB PC OI EN PD),(PySem.W.fnOf "dropped_signs" "dropped_signs" (aI (top 25)) (aF (top 25)) (aq (top 25)) .none PF PJ PK OJ EO PL),(PySem.W.fnOf "merged" "merged" (aI (top 26)) (aF (top 26)) (aq (top 26)) .none PM PN PR OL ER PU),(PySem.W.fnOf "_law_cell" "_law_cell" (aI (top 28)) (aF (top 28)) (aq (top 28)) .none PV PX PY OM ES PZ),(PySem.W.fnOf "_law_drawn" "_law_drawn" (aI (top 29)) (aF (top 29)) (aq (top 29)) .none P0 P1 P4 ON ET P5),(PySem.W.fnOf "_law_text" "_law_text" (aI (top 30)) (aF (top 30)) (aq (top 30)) .none P6 P7 P8 OO EU P9),(PySem.W.fnOf "_law_change" "_law_change" (aI (top 31)) (aF (top 31)) (aq (top 31)) .none Qa Qc Qd OP EV Qe),(PySem.W.fnOf "_law_sense" "_law_sense" (aI (top 32)) (aF (top 32)) (aq (top 32)) .none Qf Qg Qh OQ EW Qi),(PySem.W.fnOf "law" "law" (aI (top 34)) (aF (top 34)) (aq (top 34)) .none EX EY EZ EG zB E1)].getD k (PySem.W.fnOf "size" "size" (aI (top 1)) (aF (top 1)) (aq (top 1)) .none OR OS OT OB Hj OU)
 have T:Top l.prog w K mg (tb aa dd):=by
  refine ⟨fun f i hi=>?_,?_,?_,?_⟩
  ·match f,hi with
   | 0,hi=>obtain rfl:i0 aa dd=i:=Option.some.inj hi;exact ⟨PySem.W.mg_of X G a0,k0,B0⟩
   | 1,hi=>obtain rfl:i1 aa dd=i:=Option.some.inj hi;exact ⟨PySem.W.mg_of X G a1,k1,B1⟩
   | 2,hi=>obtain rfl:i2 aa dd=i:=Option.some.inj hi;exact ⟨PySem.W.mg_of X G a2,k2,B2⟩
   | 3,hi=>obtain rfl:i3 aa dd=i:=Option.some.inj hi;exact ⟨PySem.W.mg_of X G a3,k3,B3⟩
   | 4,hi=>obtain rfl:i4 aa dd=i:=Option.some.inj hi;exact ⟨PySem.W.mg_of X G a4,k4,B4⟩
   | 5,hi=>obtain rfl:i5 aa dd=i:=Option.some.inj hi;exact ⟨PySem.W.mg_of X G a5,k5,B5⟩
   | 6,hi=>obtain rfl:i6 aa dd=i:=Option.some.inj hi;exact ⟨PySem.W.mg_of X G a6,k6,B6⟩
   | 7,hi=>obtain rfl:i7 aa dd=i:=Option.some.inj hi;exact ⟨PySem.W.mg_of X G a7,k7,B7⟩
   | 8,hi=>obtain rfl:i8 aa dd=i:=Option.some.inj hi;exact ⟨PySem.W.mg_of X G a8,k8,B8⟩
   | 9,hi=>obtain rfl:i9 aa dd=i:=Option.some.inj hi;exact ⟨PySem.W.mg_of X G a9,k9,B9⟩
   | 10,hi=>obtain rfl:GJ aa dd=i:=Option.some.inj hi;exact ⟨PySem.W.mg_of X G Qj,Hl,B10⟩
   | 11,hi=>obtain rfl:GK aa dd=i:=Option.some.inj hi;exact ⟨PySem.W.mg_of X G Qm,Ho,B11⟩
   | 12,hi=>obtain rfl:i12 aa dd=i:=Option.some.inj hi;exact ⟨PySem.W.mg_of X G Qp,Hq,B12⟩
   | 13,hi=>obtain rfl:GL aa dd=i:=Option.some.inj hi;exact ⟨PySem.W.mg_of X G Qs,Hr,B13⟩
   | 14,hi=>obtain rfl:GN aa dd=i:=Option.some.inj hi;exact ⟨PySem.W.mg_of X G Qv,Hs,B14⟩
   | 15,hi=>obtain rfl:GO aa dd=i:=Option.some.inj hi;exact ⟨PySem.W.mg_of X G Qy,Ht,B15⟩
   | 16,hi=>obtain rfl:GP aa dd=i:=Option.some.inj hi;exact ⟨PySem.W.mg_of X G QB,Hu,B16⟩
   | 17,hi=>obtain rfl:GQ aa dd=i:=Option.some.inj hi;exact ⟨PySem.W.mg_of X G QE,Hv,B17⟩
   | 18,hi=>obtain rfl:GR aa dd=i:=Option.some.inj hi;exact ⟨PySem.W.mg_of X G QH,Hw,B18⟩
   | 19,hi=>obtain rfl:GS aa dd=i:=Option.some.inj hi;exact ⟨PySem.W.mg_of X G QK,Hx,B19⟩
   | 20,hi=>obtain rfl:GU aa dd=i:=Option.some.inj hi;exact ⟨PySem.W.mg_of X G QN,Hy,B20⟩
   | 21,hi=>obtain rfl:GV aa dd=i:=Option.some.inj hi;exact ⟨PySem.W.mg_of X G QT,Hz,B21⟩
   | 22,hi=>obtain rfl:GW aa dd=i:=Option.some.inj hi;exact ⟨PySem.W.mg_of X G QW,HA,B22⟩
   | 23,hi=>obtain rfl:GX aa dd=i:=Option.some.inj hi;exact ⟨PySem.W.mg_of X G QZ,HB,B23⟩
   | 24,hi=>obtain rfl:Cf aa dd=i:=Option.some.inj hi;exact ⟨PySem.W.mg_of X G HC,HD,B24⟩
   | j+25,hi=>exact nomatch (show (none:Option FI)=some i from hi)
  ·exact (show ∀ x∈mZ,mg x=none from List.forall_mem_cons.mpr ⟨PySem.W.mg_none_of X G z0,List.forall_mem_cons.mpr ⟨PySem.W.mg_none_of X G z1,List.forall_mem_cons.mpr ⟨PySem.W.mg_none_of X G z2,List.forall_mem_cons.mpr ⟨PySem.W.mg_none_of X G z3,List.forall_mem_cons.mpr ⟨PySem.W.mg_none_of X G z4,List.forall_mem_cons.mpr ⟨PySem.W.mg_none_of X G z5,List.forall_mem_cons.mpr ⟨PySem.W.mg_none_of X G z6,List.forall_mem_cons.mpr ⟨PySem.W.mg_none_of X G z7,List.forall_mem_cons.mpr ⟨PySem.W.mg_none_of X G z8,fun _ h=>nomatch h⟩⟩⟩⟩⟩⟩⟩⟩⟩)
  ·exact fun x d hx=>(show ∀ y∈(tb aa dd).cs,∃ v u,mg y.1=some u∧RelV v u∧tZ y.2 v from List.forall_mem_cons.mpr ⟨⟨.str "law_pastways_k21_whole_past",_,PySem.W.mg_of X G q0,⟨_,rfl⟩,⟨by decide +kernel,by decide⟩⟩,fun _ h=>nomatch h⟩) (x,d) hx
  ·exact fun x d hx=>(show ∀ y∈(tb aa dd).dk,∃ a,mg y.1=some (.ref a)∧∀ h:Heap,K.In h→StrTab l.prog w h a (tabOf y.2) from List.forall_mem_cons.mpr ⟨⟨HE,PySem.W.mg_of X G Q5,fun h hK=>PySem.W.kt_tab_in l.prog w hK Q6 (by decide +kernel) Q7⟩,fun _ h=>nomatch h⟩) (x,d) hx
 refine ⟨PySem.W.fnOf "law" "law" (aI (top 34)) (aF (top 34)) (aq (top 34)) .none EX EY EZ EG zB E1,fun s v=>.of_eq rfl,fun base _ _=>?_⟩
 refine AK (P:=l.prog) (w:=w) (base:=base) T (fun n A0 f i hi=>?_) 60 24 (Cf aa dd) rfl
 match f,hi with
 | 0,hi=>obtain rfl:i0 aa dd=i:=Option.some.inj hi;exact cK (i:=i0 aa dd) T A0 F0 s0 rfl rfl (dI.get (k:=0) rfl)
 | 1,hi=>obtain rfl:i1 aa dd=i:=Option.some.inj hi;exact cK (i:=i1 aa dd) T A0 F1 s1 rfl rfl (dI.get (k:=1) rfl)
 | 2,hi=>obtain rfl:i2 aa dd=i:=Option.some.inj hi;exact cK (i:=i2 aa dd) T A0 F2 s2 rfl rfl (dI.get (k:=2) rfl)
 | 3,hi=>obtain rfl:i3 aa dd=i:=Option.some.inj hi;exact cK (i:=i3 aa dd) T A0 F3 s3 rfl rfl (dI.get (k:=3) rfl)
 | 4,hi=>obtain rfl:i4 aa dd=i:=Option.some.inj hi;exact cK (i:=i4 aa dd) T A0 F4 s4 rfl rfl (dI.get (k:=4) rfl)
 | 5,hi=>obtain rfl:i5 aa dd=i:=Option.some.inj hi;exact cK (i:=i5 aa dd) T A0 F5 s5 rfl rfl (dI.get (k:=5) rfl)
 | 6,hi=>obtain rfl:i6 aa dd=i:=Option.some.inj hi;exact cK (i:=i6 aa dd) T A0 F6 s6 rfl rfl (dI.get (k:=6) rfl)
 | 7,hi=>obtain rfl:i7 aa dd=i:=Option.some.inj hi;exact cK (i:=i7 aa dd) T A0 F7 s7 rfl rfl (dI.get (k:=7) rfl)
 | 8,hi=>obtain rfl:i8 aa dd=i:=Option.some.inj hi;exact cK (i:=i8 aa dd) T A0 F8 s8 rfl rfl (dI.get (k:=8) rfl)
 | 9,hi=>obtain rfl:i9 aa dd=i:=Option.some.inj hi;exact cK (i:=i9 aa dd) T A0 F9 s9 rfl rfl (dI.get (k:=9) rfl)
 | 10,hi=>obtain rfl:GJ aa dd=i:=Option.some.inj hi;exact cK (i:=GJ aa dd) T A0 Wj UD rfl rfl (dI.get (k:=10) rfl)
 | 11,hi=>obtain rfl:GK aa dd=i:=Option.some.inj hi;exact cK (i:=GK aa dd) T A0 Wk Fv rfl rfl (dI.get (k:=11) rfl)
 | 12,hi=>obtain rfl:i12 aa dd=i:=Option.some.inj hi;exact cK (i:=i12 aa dd) T A0 Wl s12 rfl rfl (dI.get (k:=12) rfl)
 | 13,hi=>obtain rfl:GL aa dd=i:=Option.some.inj hi;exact cK (i:=GL aa dd) T A0 Wm s13 rfl rfl (dI.get (k:=13) rfl)
 | 14,hi=>obtain rfl:GN aa dd=i:=Option.some.inj hi;exact cK (i:=GN aa dd) T A0 Wn s14 rfl rfl (dI.get (k:=14) rfl)
 | 15,hi=>obtain rfl:GO aa dd=i:=Option.some.inj hi;exact cK (i:=GO aa dd) T A0 Wo s15 rfl rfl (dI.get (k:=15) rfl)
 | 16,hi=>obtain rfl:GP aa dd=i:=Option.some.inj hi;exact cK (i:=GP aa dd) T A0 Wq s16 rfl rfl (dI.get (k:=16) rfl)
 | 17,hi=>obtain rfl:GQ aa dd=i:=Option.some.inj hi;exact cK (i:=GQ aa dd) T A0 Wr s17 rfl rfl (dI.get (k:=17) rfl)
 | 18,hi=>obtain rfl:GR aa dd=i:=Option.some.inj hi;exact cK (i:=GR aa dd) T A0 Ws s18 rfl rfl (dI.get (k:=18) rfl)
 | 19,hi=>obtain rfl:GS aa dd=i:=Option.some.inj hi;exact cK (i:=GS aa dd) T A0 Wt s19 rfl rfl (dI.get (k:=19) rfl)
 | 20,hi=>obtain rfl:GU aa dd=i:=Option.some.inj hi;exact cK (i:=GU aa dd) T A0 Wu s20 rfl rfl (dI.get (k:=20) rfl)
 | 21,hi=>obtain rfl:GV aa dd=i:=Option.some.inj hi;exact cK (i:=GV aa dd) T A0 Wv s21 rfl rfl (dI.get (k:=21) rfl)
 | 22,hi=>obtain rfl:GW aa dd=i:=Option.some.inj hi;exact cK (i:=GW aa dd) T A0 Ww s22 rfl rfl (dI.get (k:=22) rfl)
 | 23,hi=>obtain rfl:GX aa dd=i:=Option.some.inj hi;exact cK (i:=GX aa dd) T A0 Wx s23 rfl rfl (dI.get (k:=23) rfl)
 | 24,hi=>obtain rfl:Cf aa dd=i:=Option.some.inj hi;exact cK (i:=Cf aa dd) T A0 Wy s24 rfl rfl (dI.get (k:=24) rfl)
 | j+25,hi=>exact nomatch (show (none:Option FI)=some i from hi)
end Lw
namespace Lg
open Pv
open Lw (prog GC GI zv GD GF GG GH zw zx zy zz)
open Ev (deep big rep cut bL)
theorem HF (ns:List Int) (k:Int) (x:List Nat) (b:Nat) (h:x.length≤b):(chg ns k x).length≤2*b+2∧tot (chg ns k x)≤3*b+3:=by
 have h1:=mT ns k x (x.length+1)
 have h2:=se ns k x (x.length+1)
 simp only [chg];omega
theorem nS (s:List Nat):Pv.cop .ne (.str s) (.str s)=some false:=by rw [ig];simp
theorem nC (c:List Pt):Pv.cop .ne (aO c) (aO c)=some false:=by rw [uL,N9];simp
theorem nI (i:Int):Pv.cop .ne (.int i) (.int i)=some false:=by rw [sR];simp
theorem nN:Pv.cop .ne (.lst []) (.lst [])=some false:=rfl
theorem vH:∀ a b:List (List Nat),dP (a.map V.str) (b.map V.str)=(a.zip b).map fun p=>V.tup [.str p.1,.str p.2]
 | [],_=>by simp [dP]
 | _ :: _,[]=>by simp [dP]
 | x :: a,y :: b=>congrArg (V.tup [.str x,.str y] :: ·) (vH a b)
theorem BW {P:aP}{k:Bool}{a b:Ev.E}{fr af ao:Fr}{x y:V}{s t:List V}(h:src (k&&kf a (bf b)) fr a (ev P (k&&kf a (bf b)) a fr)=.ok x af) (h2:src k af b (ev P k b af)=.ok y ao) (h3:iQ x=some s) (h4:iQ y=some t):cy P k (.zip a b) fr=.ok (dP s t) ao:=by
 rw [xC,h,ak,h2,ak,h3,h4];rfl
structure Sf (c:List Pt) (t:List Nat) (b:Nat):Prop where
 ft:aT c t=true
 tt:tot c≤b
 ln:c.length≤b
structure Pl (f:Bool) (one other l:List Pt) (ps:List Pt):Prop where
 pa:Pa f (av (ay one)) (av (ay other)) (av ps)
 eq:l=ay ps
theorem Pl.uniq {f:Bool}{one other l l' ps ps':List Pt}(h:Pl f one other l ps) (h':Pl f one other l' ps'):l=l':=by rw [h.eq,h'.eq];exact oZ (h.pa.uniq h'.pa)
theorem Pl.sf {f:Bool}{one other l ps:List Pt}{t:List Nat}{a b:Nat}(h:Pl f one other l ps) (h1:Sf one t a) (h2:Sf other t b):Sf l (aV other t) (a+b):=by
 obtain ⟨p,rfl⟩:=h
 have e:=p.len
 rw [dz,dz,dz,cV,cV] at e
 have e2:=h1.tt
 have e3:=h2.tt
 have e4:=dD (dB (cW ps))
 rw [cV] at e4
 exact ⟨Ow h1.ft h2.ft p,by rw [cV];omega,by omega⟩
theorem Kq {one other X Y:List Pt}{t:List Nat}(h:Tn one other X t) (h':Tn one other Y t):X=Y:=zk h.vc h'.vc h.fit h'.fit (by rw [h.vd,h'.vd])
theorem HG {one other X:List Pt}{t:List Nat}{a b:Nat}(h:Tn one other X t) (h1:tot one≤a) (h2:tot other≤b):Sf X t (a+b):=by
 have h3:=h.tt
 have h4:=h.ln
 exact ⟨h.fit,by omega,by omega⟩
section
variable {w n:Nat}{ns:List Int}
theorem xT (hw:5000<w) {one other:List Pt}{t:List Nat}{a b:Nat}(h1:Sf one t a) (h2:Sf other t b) (f:Bool) (ha:a≤60:=by omega) (hb:b≤60:=by omega):∃ l ps,Pl f one other l ps∧run prog w (n+4) 14 [.val (aO one),.val (aO other),.val (.bl f)]=some (aO l,[]):=by
 have z1:=h1.tt
 have z2:=h2.tt
 have z3:=h1.ln
 have z4:=h2.ln
 have hc:=mY (F:=prog) (w:=w) (n:=n) (i:=16) (aC:=0) (b9:=1) (zu:=17) rfl rfl rfl rfl one other t h1.ft h2.ft (by omega) (by omega) (by omega) (by omega)
 obtain ⟨ps,p,r⟩:=EB (F:=prog) (w:=w) (n:=n+1) (i:=14) (aC:=0) (cD:=13) (bx:=12) (fK:=15) (aY:=5) (bK:=4) (kH:=16) rfl rfl rfl rfl rfl rfl rfl hw one other f t h1.ft h2.ft (by omega) (by omega) (by omega) (by omega) hc
 exact ⟨ay ps,ps,⟨p,rfl⟩,r⟩
theorem bB (hw:5000<w) {one other:List Pt}{t:List Nat}{a b:Nat}(h1:Sf one t a) (h2:Sf other (aV one t) b) (ha:a≤600:=by omega) (hb:b≤600:=by omega):∃ c,run prog w (n+3) 10 [.val (aO one),.val (aO other)]=some (aO c,[])∧Tn one other c t:=by
 have z1:=h1.tt
 have z2:=h2.tt
 have z3:=h1.ln
 have z4:=h2.ln
 exact El (F:=prog) (w:=w) (n:=n) (i:=10) (aC:=0) (cD:=13) (bx:=12) (dh:=11) (aY:=5) (bK:=4) (b9:=1) (dU:=2) rfl rfl rfl rfl rfl rfl rfl rfl rfl hw one other t h1.ft h2.ft (by omega) (by omega) (by omega) (by omega)
theorem HH (hw:5000<w) {one other:List Pt}{t:List Nat}{a b:Nat}(h1:Sf one t a) (h2:Sf other t b) (ha:a≤60:=by omega) (hb:b≤60:=by omega):∃ c l ps,Pl false other one l ps∧Tn one l c t∧run prog w (n+5) 18 [.val (aO one),.val (aO other)]=some (aO c,[]):=by
 obtain ⟨l,ps,p,r⟩:=xT (n:=n) hw h2 h1 false
 obtain ⟨c,r2,T⟩:=bB (n:=n+1) hw h1 (p.sf h2 h1)
 have r:=fun fr=>eB (fr:=fr) r
 have r2:=fun fr=>call2 (fr:=fr) r2
 refine ⟨c,l,ps,p,T,cC (fn:=GC) rfl rfl ?_⟩
 exact ai (bW (aX (aJ rfl (aB rfl) (aJ rfl (aX (aJ rfl (aB rfl) (aJ rfl (aB rfl) (aJ rfl (bE rfl) aG))) (r _)) aG)) (r2 _)) ⟨rfl,rfl⟩)
theorem sZ:∀ a:List At,cA a≤a.length
 | []=>Nat.le_refl _
 | .k :: a=>Nat.le_succ_of_le (sZ a)
 | .d _ :: a=>Nat.succ_le_succ (sZ a)
 | .p _ :: a=>Nat.succ_le_succ (sZ a)
theorem Kr (c:List Pt):cst c≤tot c:=by rw [jr,←dz];exact sZ _
theorem tw:∀ a:List At,(pS a).length≤a.length
 | []=>Nat.le_refl _
 | .k :: a=>Nat.le_succ_of_le (tw a)
 | .d _ :: a=>Nat.le_succ_of_le (tw a)
 | .p _ :: a=>Nat.succ_le_succ (tw a)
theorem Q8 {c:List Pt}(h:tot c≤1000):Pv.eW .join (.str []) [.lst ((c.filter cT).map fun p=>V.str (xR p))]=some (.str (pS (av c))):=by
 have e:=jW c
 have l:=tw (av c)
 rw [dz] at l
 have:=yQ (l:=(c.filter cT).map xR) (by rw [e];omega)
 rw [e,List.map_map] at this
 exact this
theorem vI {P:aP}{fr af:Fr}{j:Nat}(p:Pt) (hb:bH (.one j) p.v (pG fr)=some af) (hg:j3 (kf (.v j) (bf (.c (.int 0)))) af j=some p.v) (hg2:j3 (kf (.v j) (bf (.c (.int 1)))) af j=some p.v) :
  jP P (.ix (.v j) (.c (.int 1))) (.one j) (.yes (.cmp .eq (.ix (.v j) (.c (.int 0))) (.c (.str [112,117,116])))) fr p.v=some (if cT p then some (V.str (xR p)) else none):=by
 cases p with
 | keep k=>exact jq (b:=false) (v:=.bD) (bY:=[]) hb (aD rfl (bV (dH (aB hg) (bE rfl) rfl) (bE rfl) iE) rfl) fun h=>absurd h (by decide)
 | drop s=>exact jq (b:=false) (v:=.bD) (bY:=[]) hb (aD rfl (bV (dH (aB hg) (bE rfl) rfl) (bE rfl) iE) rfl) fun h=>absurd h (by decide)
 | put s=>exact jq (b:=true) hb (aD rfl (bV (dH (aB hg) (bE rfl) rfl) (bE rfl) iE) rfl) fun _=>dH (aB hg2) (bE rfl) rfl
theorem nin (x y:List Nat):Pv.cop .gD (.str []) (.tup [.str x,.str y])=some (decide (x≠[]∧y≠[])):=by
 rw [A6]
 show (Pv.mem _ _).map _=_
 rw [Pv.mem_cons,Pv.mem_cons,Pv.Js,ng,ng]
 by_cases hx:x=[] <;> by_cases hy:y=[] <;> simp [hx,hy]
noncomputable def lF (ns:List Int) (t:List Nat) (one other:List Pt) (l:List (Option Sl)):Fr:=some (.val (jD ns)) :: some (.val (.str t)) :: some (.val (aO one)) :: some (.val (aO other)) :: l
theorem Uj (hw:5000<w) {t:List Nat}{one other:List Pt}(ht:t.length≤5) (h1:Sf one t 18) (h2:Sf other t 18) (f:Bool) {a4 a5 a6 a7 a8 a9:Option Sl}(v4:vo a4) (v5:vo a5) (v6:vo a6) (v7:vo a7) (v8:vo a8) (v9:vo a9) :
  Wp (turnF (run prog w (n+5)) w (.one 4) zv (.bl f) (lF ns t one other [a4,a5,a6,a7,a8,a9,none,none,none,none])) fun g fr=>g=.nx∧∃ a4 a5 a6 a7 a8 a9,vo a4∧vo a5∧vo a6∧vo a7∧vo a8∧vo a9∧fr=lF ns t one other [a4,a5,a6,a7,a8,a9,none,none,none,none]:=by
 obtain ⟨led,ps,p1,r1⟩:=xT (n:=n+1) hw h1 h2 f
 obtain ⟨BO,qs,p2,r2⟩:=xT (n:=n+1) hw h2 h1 (!f)
 have s1:=p1.sf h1 h2
 have s2:=p2.sf h2 h1
 obtain ⟨W,r3,T1⟩:=bB (n:=n+2) hw h1 s2
 obtain ⟨X,r4,T2⟩:=bB (n:=n+2) hw h2 s1
 have eX:W=X:=by
  have e1:=p1.eq
  have e2:=p2.eq
  subst e1 e2
  exact GB p1.pa p2.pa T1 T2
 subst eX
 obtain ⟨M,l,rs,p3,T3,r5⟩:=HH (n:=n) hw h1 h2
 have r1:=fun fr=>eB (fr:=fr) r1
 have r2:=fun fr=>eB (fr:=fr) r2
 have r3:=fun fr=>call2 (fr:=fr) r3
 have r4:=fun fr=>call2 (fr:=fr) r4
 have r5:=fun fr=>call2 (fr:=fr) r5
 have z1:=h1.tt
 have z2:=h1.ln
 have z3:=h2.tt
 have z4:=h2.ln
 have z5:=s1.tt
 have z6:=s1.ln
 have z7:=s2.tt
 have z8:=s2.ln
 have sW:=HG T1 z1 z7
 have z9:=sW.tt
 have z10:=sW.ln
 have b1:=fun fr=>bO (fr:=fr) (gu (F:=prog) (aC:=0) (i:=1) (w:=w) (n:=n+3) rfl rfl led (by omega) (by omega))
 have b2:=fun fr=>bO (fr:=fr) (gu (F:=prog) (aC:=0) (i:=1) (w:=w) (n:=n+3) rfl rfl BO (by omega) (by omega))
 have b3:=fun fr=>bO (fr:=fr) (gu (F:=prog) (aC:=0) (i:=1) (w:=w) (n:=n+3) rfl rfl W (by omega) (by omega))
 have a1:=fun fr=>bO (fr:=fr) (jR (F:=prog) (aC:=0) (i:=2) (w:=w) (n:=n+3) rfl rfl one (by omega) (by omega))
 have a2:=fun fr=>bO (fr:=fr) (jR (F:=prog) (aC:=0) (i:=2) (w:=w) (n:=n+3) rfl rfl other (by omega) (by omega))
 have c1:=fun fr=>bO (fr:=fr) (uQ (F:=prog) (aC:=0) (i:=3) (w:=w) (n:=n+3) rfl rfl one (by omega) (by omega))
 have c2:=fun fr=>bO (fr:=fr) (uQ (F:=prog) (aC:=0) (i:=3) (w:=w) (n:=n+3) rfl rfl led (by omega) (by omega))
 have ff:=fun fr=>call2 (fr:=fr) (uZ (F:=prog) (aC:=0) (i:=6) (w:=w) (n:=n+3) rfl rfl W t (by omega) (by omega))
 have fo:=fun fr=>bO (fr:=fr) (eN (F:=prog) (aY:=5) (i:=4) (w:=w) (n:=n+3) rfl rfl one (by omega) (by omega))
 have g1:=fun fr=>bO (fr:=fr) (r8 (F:=prog) (i:=23) (w:=w) (n:=n+4) rfl one (by omega))
 have g2:=fun fr=>bO (fr:=fr) (r8 (F:=prog) (i:=23) (w:=w) (n:=n+4) rfl other (by omega))
 have e1:aZ led=eF other:=by rw [←fL s1.ft,lH h2.ft]
 have e2:aZ BO=eF one:=by rw [←fL s2.ft,lH h1.ft]
 have e3:aZ W=t.length:=(fL sW.ft).symm
 rw [e1] at b1
 rw [e2] at b2
 rw [e3] at b3
 rw [sW.ft] at ff
 have cs:cst one=cst led+fH (asks one) (asks other):=by
  rw [p1.eq,jI,←jI one,jr,jr,p1.pa.cost,←b7,←b7,cH,cH]
 have gt:Pv.cop .gt (.int (cst led:Nat)) (.int (cst one:Nat))=some false:=by rw [yX];exact congrArg some (decide_eq_false (by omega))
 have tf:=cV one
 have pj1:=Q8 (c:=ay one) (by omega)
 have Wz:=Q8 (c:=led) (by omega)
 have pe:pS (av led)=pS (av (ay one)):=by rw [p1.eq,Kl,p1.pa.zp]
 rw [pe] at Wz
 have lf:(ay one).length≤100:=by have:=dD (dB (cW one));omega
 have la:=jH one
 have lb:=fL h1.ft
 have bz:=vE (asks one) (asks other)
 refine d7 (bind1 rfl v4) ?_
 refine ai (br (aX (aJ rfl (aB rfl) (aJ rfl (aB rfl) (aJ rfl (aB rfl) aG))) (r1 _)) rfl (eZ rfl v5) ?_)
 refine ai (br (aX (aJ rfl (aB rfl) (aJ rfl (aB rfl) (aJ rfl (N2 (aB rfl)) aG))) (r2 _)) rfl (eZ rfl v6) ?_)
 refine ai (br (aX (aJ rfl (aB rfl) (aJ rfl (aB rfl) aG)) (r3 _)) rfl (eZ rfl v7) ?_)
 refine ai (aM (b:=false) (dZ (aD rfl (bV (aB rfl) (aX (aJ rfl (aB rfl) (aJ rfl (aB rfl) aG)) (r4 _)) (nC _)) rfl) (dZ (aD rfl (bV (aX (aJ rfl (aB rfl) aG) (b1 _)) (aX (aJ rfl (aB rfl) aG) (a2 _)) (nI _)) rfl) (aD rfl (bV (aX (aJ rfl (aB rfl) aG) (b2 _)) (aX (aJ rfl (aB rfl) aG) (a1 _)) (nI _)) rfl))) (fun h=>absurd h (by decide)) fun _=>az ?_)
 refine ai (aM (b:=false) (dZ (qa (b:=true) (aD rfl (aX (aJ rfl (aB rfl) (aJ rfl (aB rfl) aG)) (ff _)) rfl)) (ao:=lF ns t one other [some (.val (.bl f)),some (.val (aO led)),some (.val (aO BO)),some (.val (aO W)),a8,a9,none,none,none,none]) ?_) (fun h=>absurd h (by decide)) fun _=>az ?_)
 ·cases f with
  | false=>exact mS (aD rfl (aB rfl) rfl)
  | true=>
   have eM:M=W:=by
    have:=p3.uniq p2
    subst this
    exact Kq T3 T1
   subst eM
   exact gf (aD rfl (aB rfl) rfl) (aD rfl (bV (aX (aJ rfl (aB rfl) (aJ rfl (aB rfl) aG)) (r5 _)) (aB rfl) (nC _)) rfl)
 refine ai (br (sQ rfl (bE rfl) (aS (jE (fJ (aX (aJ rfl (aB rfl) aG) (fo _)) rfl) rfl (gc Pt.v cT (fun p=>V.str (xR p)) (ay one) fun p _=>vI p rfl rfl rfl) (cS (bS (Nat.le_trans (by rw [List.length_map];exact List.length_filter_le _ _) (Nat.le_trans lf (by decide)))))) bg) pj1) rfl (eZ rfl v8) ?_)
 refine ai (aM (b:=false) (aD rfl (bV (sQ rfl (bE rfl) (aS (jE (fJ (gr rfl) rfl) rfl (gc Pt.v cT (fun p=>V.str (xR p)) led fun p _=>vI p rfl rfl rfl) (cS (bS (Nat.le_trans (by rw [List.length_map];exact List.length_filter_le _ _) (Nat.le_trans z6 (by decide)))))) bg) Wz) (aB rfl) (nS _)) rfl) (fun h=>absurd h (by decide)) fun _=>az ?_)
 refine ai (aM (b:=false) (aD rfl (bV (aX (aJ rfl (aB rfl) aG) (c2 _)) (aX (aJ rfl (aB rfl) aG) (c1 _)) gt) rfl) (fun h=>absurd h (by decide)) fun _=>az ?_)
 have zl:((((asks one).zip (asks other)).filter fun p=>decide (p.1≠[]∧p.2≠[])).map fun p=>V.tup [.str p.1,.str p.2]).length=fH (asks one) (asks other):=by rw [List.length_map,bz]
 have z20:fH (asks one) (asks other)≤18:=by have:cst one≤tot one:=Kr one;omega
 refine ai (br (jE (BW (x:=.lst (cR one)) (y:=.lst (cR other)) (s:=(asks one).map V.str) (t:=(asks other).map V.str) (show ev _ _ _ _=_ from dH (aX (aJ rfl (aB rfl) aG) (g1 _)) (bE rfl) rfl) (show ev _ _ _ _=_ from dH (aX (aJ rfl (aB rfl) aG) (g2 _)) (bE rfl) rfl) rfl rfl) rfl
  (show cG _ (dP _ _)=some (((((asks one).zip (asks other)).filter fun p=>decide (p.1≠[]∧p.2≠[])).map fun p=>V.tup [.str p.1,.str p.2])) by
   rw [vH]
   exact gc (fun p:List Nat×List Nat=>V.tup [.str p.1,.str p.2]) (fun p=>decide (p.1≠[]∧p.2≠[])) (fun p=>V.tup [.str p.1,.str p.2]) _ fun p _=>jq rfl (aD rfl (bV (bE rfl) (aB rfl) (nin p.1 p.2)) rfl) fun _=>aB rfl) (cS (bS (by rw [zl];omega)))) rfl (eZ rfl v9) ?_)
 have ln:cX .len [.lst ((((asks one).zip (asks other)).filter fun p=>decide (p.1≠[]∧p.2≠[])).map fun p=>V.tup [.str p.1,.str p.2])]=some (.int (fH (asks one) (asks other):Nat)):=by rw [jn,zl]
 have sb:Pv.bR .sub (.int (cst one:Nat)) (.int (cst led:Nat))=some (.int (fH (asks one) (asks other):Nat)):=by rw [oS];congr 2;omega
 have sb2:Pv.bR .sub (.int (t.length:Nat)) (.int (t.length:Nat))=some (.int 0):=by rw [oS];congr 2;omega
 refine ai (aM (b:=false) (dZ (aD rfl (bV (b5 (aX (aJ rfl (aB rfl) aG) (c1 _)) (aX (aJ rfl (aB rfl) aG) (c2 _)) sb) (fP (aS (aB rfl) bg) ln) (nI _)) rfl) (aD rfl (bV (b5 (aX (aJ rfl (aB rfl) aG) (b3 _)) (fP (aS (aB rfl) bg) (len_str (Nat.le_trans ht (by decide)))) sb2) (bE rfl) (nI _)) rfl)) (fun h=>absurd h (by decide)) fun _=>az (az ?_))
 exact ⟨rfl,_,_,_,_,_,_,.val,.val,.val,.val,.val,.val,rfl⟩
noncomputable def G9 (w n:Nat) (ss:Ev.Ss) (fr:Fr):Prop:=Wp (exs (run prog w (n+5)) w ss fr) fun g fr=>g=.ret (.bl true)∧outs 1 fr=[]
noncomputable def s4:Ev.Ss:=.cons zw (.cons zx (.cons zy (.cons zz .nil)))
theorem Ks (t:List Nat) (ht:t.length≤5):Sf (ay [.keep t.length]) t 5:=by
 have h:aT (ay [.keep t.length]) t=true:=by rw [iF];simp [aT]
 have h2:=cV [.keep t.length]
 have h3:=dD (dB (cW [.keep t.length]))
 have h4:tot [.keep t.length]=t.length:=by simp [tot,Pt.n]
 exact ⟨h,by omega,by omega⟩
theorem Y5 (hw:5000<w) {t:List Nat}{one other:List Pt}(ht:t.length≤5) (h1:Sf one t 18) (h2:Sf other t 18) {a4 a5 a6 a7 a8 a9:Option Sl}(v4:vo a4) (v5:vo a5) (v6:vo a6) (v7:vo a7) (v8:vo a8) (v9:vo a9) :
  G9 w n s4 (lF ns t one other [a4,a5,a6,a7,a8,a9,none,none,none,none]):=by
 have hk:=Ks t ht
 have eb:=fL h1.ft
 have z1:=h1.tt
 have z2:=h1.ln
 have z3:=h2.tt
 have z4:=h2.ln
 have no:=fun fr=>bO (fr:=fr) (oh (F:=prog) (aY:=5) (bK:=4) (i:=9) (w:=w) (n:=n+2) rfl rfl rfl t.length (by omega))
 have aac:eF one≤18+5:=by have:=lG one t;rw [lH h1.ft] at this;omega
 have no2:=fun fr=>bO (fr:=fr) (oh (F:=prog) (aY:=5) (bK:=4) (i:=9) (w:=w) (n:=n+2) rfl rfl rfl (eF one) (by omega))
 have fo:=fun fr=>bO (fr:=fr) (eN (F:=prog) (aY:=5) (i:=4) (w:=w) (n:=n+3) rfl rfl one (by omega) (by omega))
 have a1:=fun fr=>bO (fr:=fr) (jR (F:=prog) (aC:=0) (i:=2) (w:=w) (n:=n+3) rfl rfl one (by omega) (by omega))
 obtain ⟨l1,p1,q1,r1⟩:=xT (n:=n+1) hw h1 hk true
 have e1:l1=ay one:=by rw [q1.eq];have:=q1.pa;rw [eb] at this;exact qu this
 subst e1
 obtain ⟨l2,p2,q2,r2⟩:=xT (n:=n+1) hw hk h1 false
 have e2:l2=ay [.keep (eF one)]:=by rw [q2.eq];have:=q2.pa;rw [eb] at this;exact qv this
 subst e2
 have cl:=fun fr=>call2 (fr:=fr) (mY (F:=prog) (w:=w) (n:=n+2) (i:=16) (aC:=0) (b9:=1) (zu:=17) rfl rfl rfl rfl one other t h1.ft h2.ft (by omega) (by omega) (by omega) (by omega))
 obtain ⟨c3,l3,p3,q3,T3,r3⟩:=HH (n:=n) hw h1 hk
 have e3:c3=ay one:=by
  have:l3=ay [.keep (eF one)]:=by rw [q3.eq];have:=q3.pa;rw [eb] at this;exact qv this
  subst this
  exact Km h1.ft T3
 subst e3
 obtain ⟨c4,l4,p4,q4,T4,r4⟩:=HH (n:=n) hw hk h1
 have e4:c4=ay one:=by
  have:l4=ay one:=by rw [q4.eq];have:=q4.pa;rw [eb] at this;exact qu this
  subst this
  exact EC h1.ft T4
 subst e4
 obtain ⟨l5,p5,q5,r5⟩:=xT (n:=n+1) hw h1 h2 true
 have s5:=q5.sf h1 h2
 obtain ⟨c6,l6,p6,q6,T6,r6⟩:=HH (n:=n) hw h1 h2
 obtain ⟨X,_,TX⟩:=bB (n:=n) hw h2 s5
 have eX:c6=X:=by
  have y1:=q5.eq
  have y2:=q6.eq
  subst y1 y2
  exact GB q5.pa q6.pa T6 TX
 subst eX
 have z5:=s5.tt
 have z6:=s5.ln
 have z7:=HG TX z3 z5
 have z8:=z7.tt
 have z9:=z7.ln
 have d1:=fun fr=>call2 (fr:=fr) (oW (F:=prog) (aC:=0) (mV:=6) (i:=7) (w:=w) (n:=n+2) rfl rfl rfl c6 t (by omega) (by omega) (by omega) z7.ft)
 have d2:=fun fr=>call2 (fr:=fr) (oW (F:=prog) (aC:=0) (mV:=6) (i:=7) (w:=w) (n:=n+2) rfl rfl rfl other t (by omega) (by omega) (by omega) h2.ft)
 have ud:=fun fr=>bO (fr:=fr) (ze (F:=prog) (aY:=5) (bK:=4) (i:=8) (w:=w) (n:=n+2) rfl rfl rfl l5 (by omega) (by omega))
 obtain ⟨u1,u2⟩:=En s5.ft
 have tu:tot (jJ l5)=tot l5:=by simp only [jJ];rw [cV,BD]
 have lu:(jJ l5).length≤tot (jJ l5):=by simp only [jJ];exact dD (dB (cW _))
 have dl1:=lG other t
 have dl2:=lG l5 (aV other t)
 have d3:=fun fr=>call2 (fr:=fr) (oW (F:=prog) (aC:=0) (mV:=6) (i:=7) (w:=w) (n:=n+2) rfl rfl rfl (jJ l5) (aV l5 (aV other t)) (by omega) (by omega) (by omega) u1)
 rw [u2] at d3
 rw [TX.dn] at d1
 have r1:=fun fr=>eB (fr:=fr) r1
 have r2:=fun fr=>eB (fr:=fr) r2
 have r3:=fun fr=>call2 (fr:=fr) r3
 have r4:=fun fr=>call2 (fr:=fr) r4
 have r5:=fun fr=>eB (fr:=fr) r5
 have r6:=fun fr=>call2 (fr:=fr) r6
 refine ai (br (aX (aJ rfl (fP (aS (aB rfl) bg) (len_str (Nat.le_trans ht (by decide)))) aG) (no _)) rfl rfl ?_)
 refine ai (aM (b:=false) (dZ (aD rfl (bV (aX (aJ rfl (aB rfl) (aJ rfl (aB rfl) (aJ rfl (bE rfl) aG))) (r1 _)) (aX (aJ rfl (aB rfl) aG) (fo _)) (nC _)) rfl) (aD rfl (bV (aX (aJ rfl (aB rfl) (aJ rfl (aB rfl) (aJ rfl (bE rfl) aG))) (r2 _)) (aX (aJ rfl (aX (aJ rfl (aB rfl) aG) (a1 _)) aG) (no2 _)) (nC _)) rfl)) (fun h=>absurd h (by decide)) fun _=>az ?_)
 refine ai (aM (b:=false) (dZ (aD rfl (bV (aX (aJ rfl (aB rfl) (aJ rfl (aB rfl) aG)) (cl _)) (pX bg pT) nN) rfl) (dZ (aD rfl (bV (aX (aJ rfl (aB rfl) (aJ rfl (aB rfl) aG)) (r3 _)) (aX (aJ rfl (aB rfl) aG) (fo _)) (nC _)) rfl) (aD rfl (bV (aX (aJ rfl (aB rfl) (aJ rfl (aB rfl) aG)) (r4 _)) (aX (aJ rfl (aB rfl) aG) (fo _)) (nC _)) rfl))) (fun h=>absurd h (by decide)) fun _=>az ?_)
 have sh:gq (lF ns t one other [a4,a5,a6,a7,a8,a9,some (.val (aO (ay [.keep t.length]))),none,none,none])=lF ns t one other [a4,a5,a6,a7,a8,a9,some (.val (aO (ay [.keep t.length]))),none,none,none]:=by
  show _ :: _ :: _ :: _ :: [a4.map Sl.dj,a5.map Sl.dj,a6.map Sl.dj,a7.map Sl.dj,a8.map Sl.dj,a9.map Sl.dj,_,_,_,_]=_
  rw [cO v4,cO v5,cO v6,cO v7,cO v8,cO v9];rfl
 refine ai (bW (v:=.bl true) (af:=lF ns t one other [a4,a5,a6,a7,a8,a9,some (.val (aO (ay [.keep t.length]))),none,none,none]) ?_ ⟨rfl,rfl⟩)
 refine (congrArg (ev _ _ _) sh).trans ?_
 have es:Pv.cop .eq (.str (aV other t)) (.str (aV other t))=some true:=by rw [iE];simp
 exact bV (aX (aJ rfl (aX (aJ rfl (aX (aJ rfl (aB rfl) (aJ rfl (aB rfl) (aJ rfl (bE rfl) aG))) (r5 _)) aG) (ud _)) (aJ rfl (aX (aJ rfl (aX (aJ rfl (aB rfl) (aJ rfl (aB rfl) aG)) (r6 _)) (aJ rfl (aB rfl) aG)) (d1 _)) aG)) (d3 _)) (aX (aJ rfl (aB rfl) (aJ rfl (aB rfl) aG)) (d2 _)) es
variable (hn:ns.length≤63)
include hn
theorem Q9 (hw:5000<w):run prog w (n+6) 24 [.val (jD ns)]=some (.bl true,[]):=by
 have ht:(txt ns 0 5).length≤5:=JX ns 0 (most:=5) (by decide)
 have c1:=fun fr=>eB (fr:=fr) (DA (F:=prog) (c:=19) (dr:=20) (t:=21) (w:=w) (n:=n+2) rfl rfl hn rfl 0 5 (by decide) (by decide))
 generalize txt ns 0 5=t at ht c1
 have c2:=fun fr=>eB (fr:=fr) (qc (F:=prog) (c:=19) (dr:=20) (t:=22) (w:=w) (n:=n+2) rfl rfl hn rfl 10 t (by omega))
 have c3:=fun fr=>eB (fr:=fr) (qc (F:=prog) (c:=19) (dr:=20) (t:=22) (w:=w) (n:=n+2) rfl rfl hn rfl 50 t (by omega))
 have b1:=HF ns 10 t 5 ht
 have b2:=HF ns 50 t 5 ht
 have h1:Sf (chg ns 10 t) t 18:=⟨xN ns 10 t,by omega,by omega⟩
 have h2:Sf (chg ns 50 t) t 18:=⟨xN ns 50 t,by omega,by omega⟩
 generalize chg ns 10 t=one at h1 c2
 generalize chg ns 50 t=other at h2 c3
 refine cC (fn:=GI) rfl rfl ?_
 refine ai (br (aX (aJ rfl (aB rfl) (aJ rfl (bE rfl) (aJ rfl (bE rfl) aG))) (c1 _)) rfl rfl ?_)
 refine ai (br (aX (aJ rfl (aB rfl) (aJ rfl (bE rfl) (aJ rfl (aB rfl) aG))) (c2 _)) rfl rfl ?_)
 refine ai (br (aX (aJ rfl (aB rfl) (aJ rfl (bE rfl) (aJ rfl (aB rfl) aG))) (c3 _)) rfl rfl ?_)
 refine ai (nu (vs:=[true,false].map V.bl) (af:=lF ns t one other [none,none,none,none,none,none,none,none,none,none]) (fJ (je (aS (bE rfl) (aS (bE rfl) bg)) nc) rfl) ?_)
 refine gO (e:=V.bl) (fun _ _ fr=>∃ a4 a5 a6 a7 a8 a9,vo a4∧vo a5∧vo a6∧vo a7∧vo a8∧vo a9∧fr=lF ns t one other [a4,a5,a6,a7,a8,a9,none,none,none,none]) (fun _ f _ fr ⟨a4,a5,a6,a7,a8,a9,v4,v5,v6,v7,v8,v9,hfr⟩=>?_) (fun _ fr ⟨a4,a5,a6,a7,a8,a9,v4,v5,v6,v7,v8,v9,hfr⟩=>?_) _ [] _ ⟨_,_,_,_,_,_,.none,.none,.none,.none,.none,.none,rfl⟩
 ·subst hfr
  refine (Uj (w:=w) (n:=n) (ns:=ns) hw ht h1 h2 f v4 v5 v6 v7 v8 v9).mono fun g fr ⟨hg,h⟩=>?_
  subst hg
  exact h
 ·subst hfr
  exact Y5 hw ht h1 h2 v4 v5 v6 v7 v8 v9
end
theorem good:∀ ns:List Int,ns.length≤63→∃ h',Ev.run prog 100000 60 24 [.ref 0] [.bU (ns.map Ev.D.int)]=.ok (.bl true) h':=fun ns h=>Jq (Q9 (w:=100000) (n:=54) h (by decide))
end Lg
theorem Lw.good:∀ ns:List Int,ns.length≤63→∃ h',Ev.run Lw.prog 100000 60 24 [.ref 0] [.bU (ns.map Ev.D.int)]=.ok (.bl true) h':=Lg.good
namespace PySem.W.Fast
theorem tw451862819859669860:True:=⟨⟩
theorem tw4469844120798309588:True:=⟨⟩
theorem tw892842286460227607:True:=⟨⟩
theorem tw1966172575353032411:True:=⟨⟩
theorem tw10357194631123438452:True:=⟨⟩
theorem tw13199896310013275132:True:=⟨⟩
theorem tw7661277476985627135:True:=⟨⟩
theorem tw2993352836397827843:True:=⟨⟩
theorem tw10448902594015514242:True:=⟨⟩
theorem tw13965635534116325509:True:=⟨⟩
theorem tw16199414160576024191:True:=⟨⟩
theorem tw3674202586924465214:True:=⟨⟩
theorem tw3161033986291175188:True:=⟨⟩
theorem tw60107642224403793:True:=⟨⟩
theorem tw17955999530035422516:True:=⟨⟩
theorem tw8972265214524707645:True:=⟨⟩
theorem tw11361789141725175199:True:=⟨⟩
theorem tw12986326412447569193:True:=⟨⟩
theorem tw8710875928903943281:True:=⟨⟩
theorem tw10760749359251120153:True:=⟨⟩
theorem tw2586437662501956229:True:=⟨⟩
theorem tw1295061237953193255:True:=⟨⟩
theorem tw13541337074194795313:True:=⟨⟩
theorem tw8602400423612601813:True:=⟨⟩
theorem tw8162802023683093980:True:=⟨⟩
theorem tw17627322509302795283:True:=⟨⟩
theorem tw9952266205373203289:True:=⟨⟩
theorem tw4117962036928574418:True:=⟨⟩
theorem tw25204680319466565:True:=⟨⟩
theorem tw13645913797851072511:True:=⟨⟩
theorem tw2505237416792123650:True:=⟨⟩
theorem tw11304588044302049458:True:=⟨⟩
theorem tw18423368262007663423:True:=⟨⟩
theorem tw17559394826615466625:True:=⟨⟩
theorem tw14766342179501776500:True:=⟨⟩
theorem tw2926418726802895086:True:=⟨⟩
theorem tw15482171250924080572:True:=⟨⟩
theorem tw9187123683314813719:True:=⟨⟩
theorem tw5758902531947432662:True:=⟨⟩
theorem tw13499725310862135114:True:=⟨⟩
theorem tw4631419063928868617:True:=⟨⟩
theorem tw6760062495966748088:True:=⟨⟩
theorem tw15874266961552664173:True:=⟨⟩
theorem tw13725601982901649798:True:=⟨⟩
theorem tw9049236727662604389:True:=⟨⟩
theorem tw8369734375497932930:True:=⟨⟩
theorem tw2131687079991210974:True:=⟨⟩
theorem tw1197122021867743397:True:=⟨⟩
theorem tw12186741161518702783:True:=⟨⟩
theorem tw11336380213295017864:True:=⟨⟩
theorem tw7213507218271177814:True:=⟨⟩
theorem tw17351197534527865136:True:=⟨⟩
theorem tw15547140877385379023:True:=⟨⟩
theorem tw15792597471518646262:True:=⟨⟩
theorem tw1799260197948343970:True:=⟨⟩
theorem tw15473597317654709251:True:=⟨⟩
theorem tw13214484157146458994:True:=⟨⟩
theorem tw1928373492434297604:True:=⟨⟩
theorem tw3818057112763651677:True:=⟨⟩
theorem tw6181123646681112724:True:=⟨⟩
theorem tw5743480570728069511:True:=⟨⟩
theorem tw11972775885888689759:True:=⟨⟩
theorem tw7275744454124183135:True:=⟨⟩
theorem tw15689752738713231238:True:=⟨⟩
theorem tw11012442997095680531:True:=⟨⟩
theorem tw15529312247220494321:True:=⟨⟩
theorem tw9289926299444532845:True:=⟨⟩
theorem tw12538785798440177009:True:=⟨⟩
theorem tw13178807972684033093:True:=⟨⟩
theorem tw6501308306710363814:True:=⟨⟩
theorem tw4001359753679683018:True:=⟨⟩
theorem tw5258319756286972455:True:=⟨⟩
theorem tw13372687380811200489:True:=⟨⟩
theorem tw3773661058758959440:True:=⟨⟩
theorem tw2642950092413586110:True:=⟨⟩
theorem tw5140653670436828549:True:=⟨⟩
theorem tw11241449018712608311:True:=⟨⟩
theorem tw6564204624830784134:True:=⟨⟩
theorem tw14010927378731020538:True:=⟨⟩
theorem tw18107191204576699868:True:=⟨⟩
theorem tw2881070470421807352:True:=⟨⟩
theorem tw13082185811940897748:True:=⟨⟩
theorem tw13667349809190083713:True:=⟨⟩
theorem tw6623412152000668410:True:=⟨⟩
theorem tw2450656144627168837:True:=⟨⟩
theorem tw16467750204686356108:True:=⟨⟩
theorem tw8356499783649106872:True:=⟨⟩
theorem tw16052619589348769658:True:=⟨⟩
theorem tw13898114421130263871:True:=⟨⟩
theorem tw11081157124014672797:True:=⟨⟩
theorem tw6458993750405378647:True:=⟨⟩
theorem tw7929455072860276916:True:=⟨⟩
theorem tw1237355042132665580:True:=⟨⟩
theorem tw16798165926934695339:True:=⟨⟩
theorem tw5803604496001353715:True:=⟨⟩
theorem tw17663523123279982040:True:=⟨⟩
theorem tw11237838382824164819:True:=⟨⟩
theorem tw1800808013474282113:True:=⟨⟩
theorem tw12655443411855689799:True:=⟨⟩
theorem tw17570592234218934452:True:=⟨⟩
theorem tw9713932613320464607:True:=⟨⟩
theorem tw12388429261058365346:True:=⟨⟩
theorem tw5575042647588068538:True:=⟨⟩
theorem tw6340503412034348541:True:=⟨⟩
theorem tw1279061612713012349:True:=⟨⟩
theorem tw80937123815515920:True:=⟨⟩
theorem tw9525851051246064778:True:=⟨⟩
theorem tw721986571911308532:True:=⟨⟩
theorem tw7419832746325737848:True:=⟨⟩
theorem tw16664185418784369865:True:=⟨⟩
theorem tw11641019516858435415:True:=⟨⟩
theorem tw1595313939775001129:True:=⟨⟩
theorem tw918037405488081871:True:=⟨⟩
theorem tw4319505211072840734:True:=⟨⟩
theorem tw14681200701983619676:True:=⟨⟩
theorem tw10948394404256016047:True:=⟨⟩
theorem tw14140535892436661782:True:=⟨⟩
theorem tw17533074469149380813:True:=⟨⟩
theorem tw12069844857128271398:True:=⟨⟩
theorem tw9432350768119165017:True:=⟨⟩
theorem tw9597198518669872791:True:=⟨⟩
theorem tw11817937293112285367:True:=⟨⟩
theorem tw8475033165488904910:True:=⟨⟩
theorem tw10992058522800503009:True:=⟨⟩
theorem tw100907662030094230:True:=⟨⟩
theorem tw2784517135558130039:True:=⟨⟩
theorem tw17493184786369511527:True:=⟨⟩
theorem tw16776895884952402792:True:=⟨⟩
theorem tw1187885919778883783:True:=⟨⟩
theorem tw6700211411996170688:True:=⟨⟩
theorem tw3716698930789445358:True:=⟨⟩
theorem tw539620670234674494:True:=⟨⟩
theorem tw12469213664673876011:True:=⟨⟩
theorem tw3337686985531214976:True:=⟨⟩
theorem tw4955047351121569139:True:=⟨⟩
theorem tw7527181531276098041:True:=⟨⟩
theorem tw8250563372498378719:True:=⟨⟩
theorem tw8089812484230085948:True:=⟨⟩
theorem tw8363429926371064281:True:=⟨⟩
theorem tw9555840499437645081:True:=⟨⟩
theorem tw13755189091370982556:True:=⟨⟩
theorem tw1984248130626917119:True:=⟨⟩
theorem tw5773807510285586599:True:=⟨⟩
theorem tw16134751591306394611:True:=⟨⟩
theorem tw17877387945109258486:True:=⟨⟩
theorem tw11221980388545541066:True:=⟨⟩
theorem tw2304809064807087334:True:=⟨⟩
theorem tw231626145373390176:True:=⟨⟩
theorem tw8579203202045387292:True:=⟨⟩
theorem tw17992405075307467710:True:=⟨⟩
theorem tw17243723081696975792:True:=⟨⟩
theorem tw14878754136187087977:True:=⟨⟩
theorem tw2085712098838244873:True:=⟨⟩
theorem tw13202808929087140633:True:=⟨⟩
theorem tw3166075235071185619:True:=⟨⟩
theorem tw5429788564316102023:True:=⟨⟩
theorem tw4937484176737358662:True:=⟨⟩
theorem tw13362450904505878541:True:=⟨⟩
theorem tw17273950745885833608:True:=⟨⟩
theorem tw1494737526598869225:True:=⟨⟩
theorem tw2406043152476570698:True:=⟨⟩
theorem tw5454008675292860980:True:=⟨⟩
theorem tw11665788119912086618:True:=⟨⟩
theorem tw11673365721607811321:True:=⟨⟩
theorem tw183567200202083295:True:=⟨⟩
theorem tw13550809234987858074:True:=⟨⟩
theorem tw7154661950303527162:True:=⟨⟩
theorem tw17738672228408431122:True:=⟨⟩
theorem tw3987705245623707999:True:=⟨⟩
theorem tw8490585999654677683:True:=⟨⟩
theorem tw12936584165661512746:True:=⟨⟩
theorem tw18418851573982591759:True:=⟨⟩
theorem tw141646976970820914:True:=⟨⟩
theorem tw17743553351155461780:True:=⟨⟩
theorem tw4490383891145949375:True:=⟨⟩
theorem tw723005380868690898:True:=⟨⟩
theorem tw11300321178552680680:True:=⟨⟩
theorem tw7163075689504120106:True:=⟨⟩
theorem tw16286899648414525648:True:=⟨⟩
theorem tw15821870475682077709:True:=⟨⟩
theorem tw396363921443347819:True:=⟨⟩
theorem tw13947020318856837220:True:=⟨⟩
theorem tw16049805723851821108:True:=⟨⟩
theorem tw4061493644213148715:True:=⟨⟩
theorem tw14218970675011093170:True:=⟨⟩
theorem tw13211376233732840952:True:=⟨⟩
theorem tw5986049298079369171:True:=⟨⟩
theorem tw8565245235643114520:True:=⟨⟩
theorem tw17228040390612477741:True:=⟨⟩
theorem tw17247583591129461662:True:=⟨⟩
theorem tw12532702636819991067:True:=⟨⟩
theorem tw14694717961582898085:True:=⟨⟩
theorem tw17843580904748503193:True:=⟨⟩
theorem tw10947968966807317240:True:=⟨⟩
theorem tw11752252549923950260:True:=⟨⟩
theorem tw16691328388666046561:True:=⟨⟩
theorem tw11845337868285213363:True:=⟨⟩
theorem tw17518175726217264179:True:=⟨⟩
theorem tw3194416336912850920:True:=⟨⟩
theorem tw4988636788800575308:True:=⟨⟩
theorem tw18203668143511284598:True:=⟨⟩
theorem tw16356454940498625180:True:=⟨⟩
theorem tw14426806781235800150:True:=⟨⟩
end PySem.W.Fast
open PySem PySem.W PyProof.Rows
set_option maxRecDepth 100000 in
set_option maxHeartbeats 0 in
theorem PySem.Challenge.cw_pastways_k21_whole_past_holds : PySem.Challenge.rw_pastways_k21_whole_past.Holds := by
 w_on;o_law;k_head;(case hw=>w_witness2)
 k_fill
 refine Sm.Jd (F:=Lw.prog) (wh:=100000) (n:=60) (f:=24) (x:="_law_script") (l:=PySem.Challenge.rw_pastways_k21_whole_past) rfl rfl ⟨rfl,by decide,by decide⟩ (fun w h Y=>PySem.W.kIn_of Y) Lw.good ?F
 case F=>
  intro w mg fa h KX G hmg
  refine' Lw.all_mk KX G hmg ?a0 ?l0 ?c0 ?k0 ?a1 ?l1 ?c1 ?k1 ?a2 ?l2 ?c2 ?k2 ?a3 ?l3 ?c3 ?k3 ?a4 ?l4 ?c4 ?k4 ?a5 ?l5 ?c5 ?k5 ?a6 ?l6 ?c6 ?k6 ?a7 ?l7 ?c7 ?k7 ?a8 ?l8 ?c8 ?k8 ?a9 ?l9 ?c9 ?k9 ?Qj ?Qk ?Ql ?Hl ?Qm ?Qn ?Qo ?Ho ?Qp ?Qq ?c12 ?Hq ?Qs ?Qt ?Qu ?Hr ?Qv ?Qw ?Qx ?Hs ?Qy ?Qz ?QA ?Ht ?QB ?QC ?QD ?Hu ?QE ?QF ?QG ?Hv ?QH ?QI ?QJ ?Hw ?QK ?QL ?QM ?Hx ?QN ?QO ?QS ?Hy ?QT ?QU ?QV ?Hz ?QW ?QX ?QY ?HA ?QZ ?Q0 ?Q2 ?HB ?HC ?Q3 ?Q4 ?HD ?z0 ?z1 ?z2 ?z3 ?z4 ?z5 ?z6 ?z7 ?z8 ?q0 ?Q5 ?Q6 ?Q7
  (case a0=>k_is)
  (case l0=>k_is)
  (case c0=>k_is)
  (case k0=>k_is)
  (case a1=>k_is)
  (case l1=>k_is)
  (case c1=>k_is)
  (case k1=>k_is)
  (case a2=>k_is)
  (case l2=>k_is)
  (case c2=>k_is)
  (case k2=>k_is)
  (case a3=>k_is)
  (case l3=>k_is)
  (case c3=>k_is)
  (case k3=>k_is)
  (case a4=>k_is)
  (case l4=>k_is)
  (case c4=>k_is)
  (case k4=>k_is)
  (case a5=>k_is)
  (case l5=>k_is)
  (case c5=>k_is)
  (case k5=>k_is)
  (case a6=>k_is)
  (case l6=>k_is)
  (case c6=>k_is)
  (case k6=>k_is)
  (case a7=>k_is)
  (case l7=>k_is)
  (case c7=>k_is)
  (case k7=>k_is)
  (case a8=>k_is)
  (case l8=>k_is)
  (case c8=>k_is)
  (case k8=>k_is)
  (case a9=>k_is)
  (case l9=>k_is)
  (case c9=>k_is)
  (case k9=>k_is)
  (case Qj=>k_is)
  (case Qk=>k_is)
  (case Ql=>k_is)
  (case Hl=>k_is)
  (case Qm=>k_is)
  (case Qn=>k_is)
  (case Qo=>k_is)
  (case Ho=>k_is)
  (case Qp=>k_is)
  (case Qq=>k_is)
  (case c12=>k_is)
  (case Hq=>k_is)
  (case Qs=>k_is)
  (case Qt=>k_is)
  (case Qu=>k_is)
  (case Hr=>k_is)
  (case Qv=>k_is)
  (case Qw=>k_is)
  (case Qx=>k_is)
  (case Hs=>k_is)
  (case Qy=>k_is)
  (case Qz=>k_is)
  (case QA=>k_is)
  (case Ht=>k_is)
  (case QB=>k_is)
  (case QC=>k_is)
  (case QD=>k_is)
  (case Hu=>k_is)
  (case QE=>k_is)
  (case QF=>k_is)
  (case QG=>k_is)
  (case Hv=>k_is)
  (case QH=>k_is)
  (case QI=>k_is)
  (case QJ=>k_is)
  (case Hw=>k_is)
  (case QK=>k_is)
  (case QL=>k_is)
  (case QM=>k_is)
  (case Hx=>k_is)
  (case QN=>k_is)
  (case QO=>k_is)
  (case QS=>k_is)
  (case Hy=>k_is)
  (case QT=>k_is)
  (case QU=>k_is)
  (case QV=>k_is)
  (case Hz=>k_is)
  (case QW=>k_is)
  (case QX=>k_is)
  (case QY=>k_is)
  (case HA=>k_is)
  (case QZ=>k_is)
  (case Q0=>k_is)
  (case Q2=>k_is)
  (case HB=>k_is)
  (case HC=>k_is)
  (case Q3=>k_is)
  (case Q4=>k_is)
  (case HD=>k_is)
  (case z0=>k_is)
  (case z1=>k_is)
  (case z2=>k_is)
  (case z3=>k_is)
  (case z4=>k_is)
  (case z5=>k_is)
  (case z6=>k_is)
  (case z7=>k_is)
  (case z8=>k_is)
  (case q0=>k_is)
  (case Q5=>k_is)
  (case Q6=>first | k_is | rfl | decide +kernel | (with_unfolding_all rfl))
  (case Q7=>first | k_is | rfl | decide +kernel | (with_unfolding_all rfl))

import PyProof.Rows.All
import Wide.All
import OpenK.AllK
import Wide.FinOn
import Lean
import PyProof.EqAt
import PyProof.EqKinds
import PyProof.TupleCall
import PyProof.NeKinds
import PyProof.StrLawsIn
import KE.KRevSl
import PyProof.ZipIter
import PyProof.ListRange
import PyProof.Rows.SortStr
import KE.KRevIter
import KE.KDictSum
import PyProof.EnumMake
import PyProof.EnumFor
import PySem.Challenge.RW_pastways_k22_whole_rows_past
set_option Elab.async false
set_option linter.all false
set_option maxRecDepth 100000
namespace L2
open PySem PySem.Spec PyProof.Rows
abbrev Key:=Sum Int Str
noncomputable def nF:Key→Value→Bool
 | .inl k,v=>Value.isInt k v
 | .inr x,v=>Value.isStrOf x v
noncomputable def Xw (w:World):Key→Int
 | .inl k=>hashInt k
 | .inr x=>hashStr w x
theorem dD:∀ {k:Key}{v:Value},nF k v=true→(∃ i t,k=Sum.inl i∧v=Value.int i t)∨(∃ x t,k=Sum.inr x∧v=Value.str x t)
 | .inl i,v,h=>by
  obtain ⟨t,e⟩:=Value.isInt_shape (k:=i) (v:=v) h
  exact .inl ⟨i,t,rfl,e⟩
 | .inr x,v,h=>by
  obtain ⟨t,e⟩:=Value.isStrOf_shape (x:=x) (v:=v) h
  exact .inr ⟨x,t,rfl,e⟩
theorem zY (i:Int) (t:Tok):nF (.inl i) (.int i t)=true:=by simp [nF,Value.isInt]
theorem zZ (x:Str) (t:Tok):nF (.inr x) (.str x t)=true:=by simp [nF,Value.isStrOf]
theorem K9 (a b:Int):decide ((Sum.inl a:Key)=Sum.inl b)=(a==b):=by
 by_cases e:a=b
 ·subst e;simp
 ·have h:¬ (Sum.inl a:Key)=Sum.inl b:=fun q=>e (Sum.inl.inj q)
  rw [decide_eq_false h]
  exact (beq_eq_false_iff_ne.mpr e).symm
theorem La (a b:Str):decide ((Sum.inr a:Key)=Sum.inr b)=decide (a=b):=by
 by_cases e:a=b
 ·subst e;simp
 ·have h:¬ (Sum.inr a:Key)=Sum.inr b:=fun q=>e (Sum.inr.inj q)
  rw [decide_eq_false h,decide_eq_false e]
theorem Lb (a:Int) (b:Str):decide ((Sum.inl a:Key)=Sum.inr b)=false:=decide_eq_false (fun q=>nomatch q)
theorem Lc (a:Str) (b:Int):decide ((Sum.inr a:Key)=Sum.inl b)=false:=decide_eq_false (fun q=>nomatch q)
noncomputable def cI (prog:Program) (w:World):PySem.KeyKind prog w Key where
 is:=nF
 hash:=Xw w
 inj:=fun v a b ha hb=>by
  rcases dD ha with ⟨i,t,rfl,rfl⟩ | ⟨x,t,rfl,rfl⟩
  ·rcases dD hb with ⟨j,u,rfl,e⟩ | ⟨y,u,rfl,e⟩
   ·injection e with e1 _;rw [e1]
   ·exact nomatch e
  ·rcases dD hb with ⟨j,u,rfl,e⟩ | ⟨y,u,rfl,e⟩
   ·exact nomatch e
   ·injection e with e1 _;rw [e1]
 byValue:=fun k v h=>by
  rcases dD h with ⟨i,t,rfl,rfl⟩ | ⟨x,t,rfl,rfl⟩ <;> rfl
 pyHash:=fun hv h=>by
  rcases dD hv with ⟨i,t,rfl,rfl⟩ | ⟨x,t,rfl,rfl⟩
  ·exact wpAny_pyHash_int h
  ·exact wpAny_pyHash_str h
 eqBool:=fun hu hv h=>by
  rcases dD hu with ⟨i,t,rfl,rfl⟩ | ⟨x,t,rfl,rfl⟩
  ·rcases dD hv with ⟨j,u,rfl,rfl⟩ | ⟨y,u,rfl,rfl⟩
   ·rw [K9] at h;exact wpAny_eqBool_int h
   ·rw [Lb] at h;exact SeqAt.EqAt.int_str i t y u _ _ _ _ h
  ·rcases dD hv with ⟨j,u,rfl,rfl⟩ | ⟨y,u,rfl,rfl⟩
   ·rw [Lc] at h;exact SeqAt.EqAt.str_int x t j u _ _ _ _ h
   ·rw [La] at h;exact wpAny_eqBool_str h
 «strs»:=fun k x t v h=>by
  rcases dD h with ⟨i,u,rfl,e⟩ | ⟨y,u,rfl,e⟩
  ·exact nomatch e
  ·injection e with e1 _
   subst e1
   cases v <;> rfl
theorem wg (prog:Program) (w:World) (i:Int) (t:Tok):(cI prog w).is (.inl i) (.int i t)=true:=zY i t
theorem wj (prog:Program) (w:World) (x:Str) (t:Tok):(cI prog w).is (.inr x) (.str x t)=true:=zZ x t
end L2
namespace L2
open PySem PySem.Spec PyProof.Rows
inductive V where
 | bf | bl (b:Bool) | int (i:Int) | str (x:Str) | z9 (b:Array UInt8) | Aa (b:UInt64) | ref (a:Addr) | ty (n:String)
 deriving DecidableEq
noncomputable def RelV:V→Value→Prop
 | .bf,u=>u=Value.none
 | .bl b,u=>u=Value.bool b
 | .int i,u=>∃ t,u=Value.int i t
 | .str x,u=>∃ t,u=Value.str x t
 | .z9 b,u=>∃ t,u=Value.bytes b t
 | .Aa b,u=>∃ t,u=Value.float b t
 | .ref a,u=>u=Value.ref a
 | .ty n,u=>u=Value.type n
abbrev Vals:List V→List Value→Prop:=Paired RelV
theorem Vals.length {xs:List V}{us:List Value}(r:Vals xs us):xs.length=us.length:=Paired.length r
theorem Vals.get:∀ {xs:List V}{us:List Value}{i:Nat}{x:V},Vals xs us→xs[i]?=some x→∃ u,us[i]?=some u∧RelV x u
 | _,_,_,_,.nil,e=>by simp at e
 | _,_,0,_,.cons r _,e=>by simp at e;subst e;exact ⟨_,rfl,r⟩
 | _,_,i+1,x,.cons _ t,e=>by
  obtain ⟨u,h1,h2⟩:=Vals.get (i:=i) (x:=x) t (by simpa using e)
  exact ⟨u,by simpa using h1,h2⟩
theorem Vals.append:∀ {xs ys:List V}{us ws:List Value},Vals xs us→Vals ys ws→Vals (xs++ys) (us++ws)
 | _,_,_,_,.nil,s=>s
 | _,_,_,_,.cons r t,s=>.cons r (Vals.append t s)
theorem Vals.take:∀ {xs:List V}{us:List Value}(n:Nat),Vals xs us→Vals (xs.take n) (us.take n)
 | _,_,0,_=>.nil
 | _,_,_+1,.nil=>.nil
 | _,_,n+1,.cons r t=>.cons r (Vals.take n t)
theorem Vals.drop:∀ {xs:List V}{us:List Value}(n:Nat),Vals xs us→Vals (xs.drop n) (us.drop n)
 | _,_,0,r=>r
 | _,_,_+1,.nil=>.nil
 | _,_,n+1,.cons _ t=>Vals.drop n t
noncomputable def iW:Option V→Option Value→Prop
 | some v,some u=>RelV v u
 | none,none=>True
 | _,_=>False
noncomputable def KV {κ:Type}:List (κ×V)→List (κ×Value)→Prop:=Paired fun (p:κ×V) (q:κ×Value)=>p.1=q.1∧RelV p.2 q.2
noncomputable def kV:Key→V
 | .inl i=>.int i
 | .inr x=>.str x
inductive HO where
 | lst (xs:List V)
 | tup (xs:List V)
 | dK (kvs:List (Key×V)) | dT (kvs:List (List Key×V))
 | set (S:Int→Bool) (n:Nat)
 | ins (C dx:Addr) (fs:List (Str×V))
 | own (x:Addr)
 | xd (fs:List (Str×V))
 | met (f x:Addr)
 | gz (lo hi:Int)
 | bS (o:Obj) (u:HO)
 | tR (ps:Array Value)
 | ext (φ:Heap→Prop)
abbrev Hp:=Addr→Option HO
noncomputable def upd (H:Hp) (a:Addr) (o:HO):Hp:=fun b=>if b=a then some o else H b
theorem eX {H:Hp}{a:Addr}{o:HO}:upd H a o a=some o:=by unfold upd;rw [if_pos rfl]
theorem aV {H:Hp}{a b:Addr}{o:HO}(h:b≠a):upd H a o b=H b:=by unfold upd;rw [if_neg h]
theorem gZ {H:Hp}{a b:Addr}{o u:HO}(h:H a=some o) (h':H b=some u) (d:o≠u):a≠b:=by
 intro e;subst e;rw [h] at h';exact d (Option.some.inj h')
theorem bB {H:Hp}{a b:Addr}{o:HO}(h:H a=some o) (h':H b=none):a≠b:=by
 intro e;subst e;rw [h] at h';cases h'
section
variable (P:Program)(w:World)
noncomputable def dH (H:Hp) (h:Heap) (a:Addr):HO→Prop
 | .lst xs=>xs.length≤sizeLine∧∃ (its:List Value) (n:Nat),Vals xs its∧h.get? a=some { cls:=.type "list",data:=.seq its.toArray n }
 | .tup xs=>xs.length≤sizeLine∧∃ its:List Value,Vals xs its∧IsTup h a its.toArray
 | .dK kvs=>kvs.length≤sizeLine∧(a==sysModules)=false∧∃ vs,KV kvs vs∧h.DictOf (cI P w) a vs
 | .dT kvs=>kvs.length≤sizeLine∧(a==sysModules)=false∧∃ xs:List (List Key×Addr×Value),
   Paired (fun (p:List Key×V) (q:List Key×Addr×Value)=>p.1=q.1∧H q.2.1=some (.tup (p.1.map kV))∧RelV p.2 q.2.2) kvs xs∧
   ∃ o es ep,h.get? a=some o∧o.ExactDict∧o.data=.dict es ep∧es.toList=xs.map (entryOfKey (tupleKind (cI P w)))∧(xs.map (·.1)).Nodup
 | .set S n=>h.SetOf (intKind P w) a S n
 | .ins C dx fs=>H dx=some (.own a)∧fs.length≤1000∧dx≠a∧h.get? a=some (PySem.W.instObj C dx)∧
   ∃ mA,h.Ns1 dx mA∧(∀ f,iW (fs.lookup f) (mA f))∧PySem.Within mA (fs.map (·.1))
 | .own _=>∃ o,h.get? a=some o
 | .xd fs=>∃ mA,h.Ns1 a mA∧∀ f,iW (fs.lookup f) (mA f)
 | .gz lo hi=>∃ t u v,h.get? a=some { cls:=.type "range",data:=.fields #[.int lo t,.int hi u,.int 1 v]}
 | .bS o u=>h.get? a=some o∧dH H h a u
 | .tR ps=>h.get? a=some { cls:=.none,data:=.fields ps }
 | .met f x=>h.get? a=some (PySem.W.methodObj (.ref f) (.ref x))
 | .ext φ=>φ h∧(∃ o,h.get? a=some o)∧∀ h1 h2:Heap,φ h1→(∀ o,h1.get? a=some o→h2.get? a=some o)→φ h2
noncomputable def eL (H:Hp) (h:Heap):Prop:=∀ a o,H a=some o→dH P w H h a o
end
section
variable {P:Program}{w:World}{H H':Hp}{h h':Heap}{a:Addr}{o:HO}
theorem dH.lt (x:dH P w H h a o):a<h.objs.size:=by
 cases o with
 | lst xs=>obtain ⟨_,_,_,_,e⟩:=x;exact Heap.lt_size e
 | tup xs=>obtain ⟨_,_,_,p⟩:=x;exact p.lt
 | dK kvs=>obtain ⟨_,_,_,_,o,_,_,e,_⟩:=x;exact Heap.lt_size e
 | dT kvs=>obtain ⟨_,_,_,_,o,_,_,e,_⟩:=x;exact Heap.lt_size e
 | set S n=>obtain ⟨o,_,_,_,e,_⟩:=x;exact Heap.lt_size e
 | ins C dx fs=>obtain ⟨_,_,_,e,_⟩:=x;exact Heap.lt_size e
 | own y=>obtain ⟨_,e⟩:=x;exact Heap.lt_size e
 | xd fs=>obtain ⟨_,⟨_,_,_,e,_⟩,_⟩:=x;exact Heap.lt_size e
 | gz lo hi=>obtain ⟨_,_,_,e⟩:=x;exact Heap.lt_size e
 | bS ob u=>obtain ⟨e,_⟩:=x;exact Heap.lt_size e
 | tR ps=>exact Heap.lt_size (show h.get? a=some _ from x)
 | met f y=>exact Heap.lt_size (show h.get? a=some _ from x)
 | ext φ=>obtain ⟨_,⟨_,e⟩,_⟩:=x;exact Heap.lt_size e
theorem Paired.CG {α β:Type}{F G:α→β→Prop}:∀ {l₁:List α}{l₂:List β},Paired F l₁ l₂→(∀ a b,F a b→G a b)→Paired G l₁ l₂
 | _,_,.nil,_=>.nil
 | _,_,.cons r t,f=>.cons (f _ _ r) (Paired.CG t f)
theorem dH.stay (x:dH P w H h a o) (k:∀ b u,(b=a∨H b=some (.own a))→h.get? b=some u→h'.get? b=some u)
  (ho:∀ b,H b=some (.own a)→H' b=some (.own a)) (ht:∀ b xs,H b=some (.tup xs)→H' b=some (.tup xs)):dH P w H' h' a o:=by
 induction o with
 | lst xs=>obtain ⟨z,its,n,r,e⟩:=x;exact ⟨z,its,n,r,k _ _ (.inl rfl) e⟩
 | tup xs=>obtain ⟨z,its,r,ob,e,c⟩:=x;exact ⟨z,its,r,ob,k _ _ (.inl rfl) e,c⟩
 | dK kvs=>obtain ⟨z,y,vs,r,ob,es,ep,e,c⟩:=x;exact ⟨z,y,vs,r,ob,es,ep,k _ _ (.inl rfl) e,c⟩
 | dT kvs=>
  obtain ⟨z,y,xs,r,ob,es,ep,e,c⟩:=x
  exact ⟨z,y,xs,Paired.CG r fun p q z=>⟨z.1,ht _ _ z.2.1,z.2.2⟩,ob,es,ep,k _ _ (.inl rfl) e,c⟩
 | set S n=>obtain ⟨ob,es,ep,t,e,c⟩:=x;exact ⟨ob,es,ep,t,k _ _ (.inl rfl) e,c⟩
 | ins C dx fs=>
  obtain ⟨d,z,ne,e,mA,⟨od,es,ep,e2,c⟩,r⟩:=x
  exact ⟨ho _ d,z,ne,k _ _ (.inl rfl) e,mA,⟨od,es,ep,k _ _ (.inr d) e2,c⟩,r⟩
 | own y=>obtain ⟨ob,e⟩:=x;exact ⟨ob,k _ _ (.inl rfl) e⟩
 | xd fs=>obtain ⟨mA,⟨od,es,ep,e,c⟩,r⟩:=x;exact ⟨mA,⟨od,es,ep,k _ _ (.inl rfl) e,c⟩,r⟩
 | gz lo hi=>obtain ⟨t,u,v,e⟩:=x;exact ⟨t,u,v,k _ _ (.inl rfl) e⟩
 | bS ob u ih=>obtain ⟨e,q⟩:=x;exact ⟨k _ _ (.inl rfl) e,ih q⟩
 | tR ps=>
  have e:h.get? a=some { cls:=.none,data:=.fields ps }:=x
  show h'.get? a=some { cls:=.none,data:=.fields ps }
  exact k a _ (.inl rfl) e
 | met f y=>
  have e:h.get? a=some (PySem.W.methodObj (.ref f) (.ref y)):=x
  show h'.get? a=some (PySem.W.methodObj (.ref f) (.ref y))
  exact k a _ (.inl rfl) e
 | ext φ=>obtain ⟨p,⟨o,e⟩,st⟩:=x;exact ⟨st _ _ p fun o q=>k _ _ (.inl rfl) q,⟨o,k _ _ (.inl rfl) e⟩,st⟩
theorem eL.lt (x:eL P w H h) (e:H a=some o):a<h.objs.size:=(x a o e).lt
theorem eL.fresh (x:eL P w H h) (e:h.objs.size≤a):H a=none:=by
 cases q:H a with
 | none=>rfl
 | some u=>exact absurd (Nat.lt_of_lt_of_le (x.lt q) e) (Nat.lt_irrefl _)
theorem eL.kept (x:eL P w H h) (k:∀ b u,h.get? b=some u→h'.get? b=some u):eL P w H h':=fun a o e=>
 (x a o e).stay (fun b u _ q=>k b u q) (fun _ q=>q) fun _ _ q=>q
theorem eL.laid (x:eL P w H h) (k:∀ b u,h.get? b=some u→h'.get? b=some u) (hp:h.objs.size≤a) (new:dH P w (upd H a o) h' a o):eL P w (upd H a o) h':=fun b u e=>by
 have hn:=x.fresh hp
 by_cases hb:b=a
 ·subst hb;rw [eX] at e;cases e;exact new
 ·rw [aV hb] at e
  exact (x b u e).stay (fun c v _ q=>k c v q) (fun c q=>by rw [aV (bB q hn)];exact q) fun c xs q=>by rw [aV (bB q hn)];exact q
end
noncomputable def Rd (H:Hp) (a:Addr) (u:HO):Prop:=H a=some u∨∃ o,H a=some (.bS o u)
theorem Rd.ok {P:Program}{w:World}{H:Hp}{h:Heap}{a:Addr}{u:HO}(r:Rd H a u) (x:eL P w H h):dH P w H h a u:=by
 rcases r with r | ⟨o,r⟩
 ·exact x a u r
 ·obtain ⟨_,q⟩:=x a _ r
  exact q
noncomputable def Ab:Option HO→Prop
 | some (.lst _)=>True
 | some (.dK _)=>True
 | some (.dT _)=>True
 | some (.set _ _)=>True
 | some (.ins _ _ _)=>True
 | some (.ext _)=>True
 | _=>False
section
variable {P:Program}{w:World}{H:Hp}{h h':Heap}{x e:Addr}{o':HO}
theorem eL.write (ok:eL P w H h) (mu:Ab (H x)) (he:e=x∨H e=some (.own x)) (k:∀ b u,b≠e→h.get? b=some u→h'.get? b=some u) (wI:∃ u,h'.get? e=some u)
  (new:dH P w (upd H x o') h' x o'):eL P w (upd H x o') h':=fun b u q=>by
 have Le:∀ c y,H c=some (.own y)→c≠x:=fun c y r z=>by subst z;rw [r] at mu;exact mu
 have Xx:∀ c xs,H c=some (.tup xs)→c≠x:=fun c xs r z=>by subst z;rw [r] at mu;exact mu
 by_cases hb:b=x
 ·subst hb;rw [eX] at q;cases q;exact new
 ·rw [aV hb] at q
  by_cases tS:b=e
  ·have q':H b=some (.own x):=by
    rcases he with z | z
    ·exact absurd (tS.trans z) hb
    ·rw [tS];exact z
   rw [q] at q';cases q'
   obtain ⟨v,hv⟩:=wI
   exact ⟨v,by rw [tS];exact hv⟩
  ·refine (ok b u q).stay (fun c v hc r=>k c v ?_ r) (fun c r=>by rw [aV (Le c b r)];exact r) fun c xs r=>by rw [aV (Xx c xs r)];exact r
   rcases hc with rfl | hc
   ·exact tS
   ·rintro rfl
    rcases he with z | z
    ·exact Le c b hc z
    ·rw [hc] at z;cases z;exact hb rfl
end
structure Un (fs ex:List Addr) (H H':Hp) (h h':Heap):Prop where
 keep:∀ b o,h.get? b=some o→H b=none→b∉fs→b∉ex→h'.get? b=some o
 slot:∀ b o,h.get? b=some o→H b=none→b∈fs→b∉ex→∃ sl,h'.get? b=some { o with slots:=sl }
 free:∀ b o,h.get? b=some o→H b=none→b∉ex→H' b=none
 there:∀ b o,h.get? b=some o→b∉ex→∃ o',h'.get? b=some o'
 tups:∀ b xs,H b=some (.tup xs)→H' b=some (.tup xs)
 kT:∀ b o u,H b=some (.bS o u)→H' b=some (.bS o u)
 mw:∀ b ps,H b=some (.tR ps)→∃ more,H' b=some (.tR (ps++more))
section
variable {fs fs' ex ex':List Addr}{H H1 H2:Hp}{h h1 h2 h':Heap}{a x e:Addr}{o:HO}
theorem Un.any (u:Un fs ex H H1 h h1) {b:Addr}{ob:Obj}(q:h.get? b=some ob) (n:H b=none) (hx:b∉ex):∃ sl,h1.get? b=some { ob with slots:=sl }:=by
 by_cases hb:b∈fs
 ·exact u.slot b ob q n hb hx
 ·exact ⟨ob.slots,u.keep b ob q n hb hx⟩
theorem Un.kept (k:∀ b u,h.get? b=some u→h'.get? b=some u):Un fs ex H H h h':=
 ⟨fun b ob q _ _ _=>k b ob q,fun b ob q _ _ _=>⟨ob.slots,k b ob q⟩,fun _ _ _ n _=>n,fun b ob q _=>⟨ob,k b ob q⟩,fun _ _ q=>q,fun _ _ _ q=>q,fun _ ps q=>⟨#[],by rw [q];simp⟩⟩
theorem Un.refl:Un fs ex H H h h:=Un.kept fun _ _ q=>q
theorem Un.laid (k:∀ b u,h.get? b=some u→h'.get? b=some u) (hp:h.objs.size≤a) (hn:H a=none):Un fs ex H (upd H a o) h h' where
 keep:=fun b u q _ _ _=>k b u q
 slot:=fun b u q _ _ _=>⟨u.slots,k b u q⟩
 free:=fun b u q n _=>by rw [aV (Nat.ne_of_lt (Nat.lt_of_lt_of_le (Heap.lt_size q) hp))];exact n
 there:=fun b u q _=>⟨u,k b u q⟩
 tups:=fun b xs q=>by rw [aV (bB q hn)];exact q
 kT:=fun b u xs q=>by rw [aV (bB q hn)];exact q
 mw:=fun b ps q=>⟨#[],by rw [aV (bB q hn),q];simp⟩
theorem Un.write (mu:Ab (H x)) (he:e=x∨H e=some (.own x)) (k:∀ b u,b≠e→h.get? b=some u→h'.get? b=some u) (wI:∃ u,h'.get? e=some u):Un fs ex H (upd H x o) h h':=by
 have hx:∀ b,H b=none→b≠x:=fun b n z=>by subst z;rw [n] at mu;exact mu
 have hb:∀ b,H b=none→b≠e:=fun b n z=>by
  subst z
  rcases he with r | r
  ·exact hx b n r
  ·rw [n] at r;cases r
 have hm:∀ b u,H b=some u→¬ Ab (some u)→b≠x:=fun b u q nm z=>by subst z;rw [q] at mu;exact nm mu
 refine ⟨fun b u q n _ _=>k b u (hb b n) q,fun b u q n _ _=>⟨u.slots,k b u (hb b n) q⟩,fun b u q n _=>by rw [aV (hx b n)];exact n,fun b u q _=>?_,
  fun b xs q=>by rw [aV (hm b _ q fun z=>z)];exact q,fun b u xs q=>by rw [aV (hm b _ q fun z=>z)];exact q,fun b ps q=>⟨#[],by rw [aV (hm b _ q fun z=>z),q];simp⟩⟩
 by_cases tS:b=e
 ·subst tS;exact wI
 ·exact ⟨u,k b u tS q⟩
end
noncomputable def FD (h:Heap) (H:Hp):List Addr:=(List.range h.objs.size).filter fun a=>(H a).isSome
noncomputable def kU (h:Heap) (H:Hp):Heap:=PySem.W.hideAll h (FD h H)
theorem Ac (h:Heap) (H:Hp):(kU h H).objs.size=h.objs.size:=PySem.W.hideAll_size _ _
theorem CH {h:Heap}{H:Hp}{b:Addr}{o:Obj}(e:h.get? b=some o) (n:H b=none):(kU h H).get? b=some o:=
 PySem.W.hideAll_get _ e fun hm=>by
  have q:(H b).isSome=true:=(List.mem_filter.mp hm).2
  rw [n] at q;simp at q
theorem II {h:Heap}{H:Hp}{b:Addr}{o:Obj}(e:(kU h H).get? b=some o):h.get? b=some o∧H b=none:=by
 have e':h.get? b=some o:=PySem.W.of_hideAll (FD h H) e
 refine ⟨e',?_⟩
 cases q:H b with
 | none=>rfl
 | some x=>
  have hm:b∈FD h H:=List.mem_filter.mpr ⟨List.mem_range.mpr (Heap.lt_size e'),by simp [q]⟩
  have z:(kU h H).get? b=none:=PySem.W.hideAll_none (FD h H) hm
  rw [z] at e;cases e
noncomputable def IJ (g h:Heap) (L:Addr):List (Addr×Obj):=(List.range h.objs.size).filterMap fun a=>if a=L∨(g.get? a).isSome=true then none else (h.get? a).map fun o=>(a,o)
noncomputable def rest (g h:Heap) (L d:Addr):List (Addr×Obj):=(IJ g h L).filter fun p=>decide (p.1≠d)
end L2
namespace L2
open PySem PySem.Spec PyProof.Rows
structure Mod (K:PySem.W.Frag) (mg:Str→Option Value) (base:Heap):Prop where
 FE:K.In base
 glob:base.Ns mainGlobals mg
 blt:∃ mb,base.Ns builtinsNs mb∧∀ x:Str,x≠"__name__" →mb x=bootBuiltins x
 nolimit:base.NoLimit
structure Cx where
 prog:Program
 w:World
 K:PySem.W.Frag
 mg:Str→Option Value
 base:Heap
 A:Around
 N:List Str
 s₀:Shared
 H₀:Hp
 env:Env
 outer:List Env
 stack:List Env
 ex:List Addr
 fn:Str→Bool
 calm:Bool
 pn:List (Addr×Obj)
 xe:Value→Shared→Prop
noncomputable def frs (l:List Env):List Addr:=l.filterMap (·.frame)
noncomputable abbrev Cx.fs (X:Cx):List Addr:=frs X.outer
noncomputable def Ad (sc:Scope) (x:Str):Prop:=sc.names.lookup x=some .local∨sc.names.lookup x=some .cell∨sc.names.lookup x=some .free
noncomputable def Loc (sc:Scope) (x:Str):Prop:=sc.names.lookup x=some .local∨sc.names.lookup x=some .cell
noncomputable def Look (env:Env) (h:Heap) (m:Str→Option Value) (x:Str) (u:Value):Prop:=
 (env.kindOf x=some .local∧m x=some u)∨((env.kindOf x=some .cell∨env.kindOf x=some .free)∧∃ c,env.cells.lookup x=some c∧h.IsCell c (some u))
structure Cx.Ok (X:Cx):Prop where
 mod:Mod X.K X.mg X.base
 kind:X.env.scope.kind=.function
 glob:X.env.globals=mainGlobals
 blt:X.env.builtins=builtinsNs
 above:X.s₀.heap.objs.size≤X.env.locals
 inj:∀ x y c,X.env.cells.lookup x=some c→X.env.cells.lookup y=some c→x=y
 has:∀ x,(X.env.kindOf x=some .cell∨X.env.kindOf x=some .free)→∃ c,X.env.cells.lookup x=some c
 wJ:∀ x c,X.fn x=true→X.env.cells.lookup x=some c→X.s₀.heap.objs.size≤c
 hd:X.calm=true→X.A.handled=none
 frames:X.A.frames=some X.stack
 stk:X.stack=X.outer∨(X.stack=X.env :: X.outer∧X.env.frame=some X.env.locals)
 FF:∀ b∈X.ex,b≠X.env.locals∧∀ x c,X.env.cells.lookup x=some c→c≠b
 bs:∀ b o,X.base.get? b=some o→X.s₀.heap.get? b=some o∧X.H₀ b=none
 rB:X.base.objs.size≤X.s₀.heap.objs.size
 qF:∀ b o,X.base.get? b=some o→b∉X.ex
 qG:∀ b∈X.ex,b∉X.fs
 iX:X.s₀.heap.FunFrames X.base X.outer
 tT:∀ b∈X.fs,X.H₀ b=none
structure Inv (X:Cx) (pins:List (Addr×Obj)) (σ:List (Option V)) (H:Hp) (s:Shared):Prop where
 ok:X.Ok
 os:s.os=X.s₀.os
 bare:AllBare s.gens
 base:Un X.fs X.ex X.H₀ H X.s₀.heap s.heap
 loc:∃ m,s.heap.Ns X.env.locals m∧∀ (i:Nat) (x:Str) (v:V),X.N[i]?=some x→σ[i]?=some (some v)→Ad X.env.scope x→∃ u,RelV v u∧Look X.env s.heap m x u
 cell:∀ x c,X.env.cells.lookup x=some c→∃ v,s.heap.IsCell c v
 free:H X.env.locals=none
 iM:∀ x c,X.env.cells.lookup x=some c→H c=none
 pin:∀ p∈X.pn++pins,s.heap.get? p.1=some p.2∧H p.1=none∧p.1≠X.env.locals∧p.1∉X.fs∧∀ v,p.2.data≠.cell v
 hok:eL X.prog X.w H s.heap
 len:σ.length=X.N.length
section
variable {X:Cx}{pins:List (Addr×Obj)}{σ:List (Option V)}{H H':Hp}{s:Shared}{h':Heap}
theorem Cx.Ok.Xy (ok:X.Ok) {b:Addr}{o:Obj}(e:X.base.get? b=some o):b∉X.fs:=fun hb=>by
 have:=(ok.iX.mem hb).1
 rw [e] at this;cases this
theorem Inv.bs (I:Inv X pins σ H s):∀ b o,X.base.get? b=some o→s.heap.get? b=some o∧H b=none:=fun b o e=>
 ⟨I.base.keep b o (I.ok.bs b o e).1 (I.ok.bs b o e).2 (I.ok.Xy e) (I.ok.qF b o e),I.base.free b o (I.ok.bs b o e).1 (I.ok.bs b o e).2 (I.ok.qF b o e)⟩
theorem Inv.bk (I:Inv X pins σ H s):∀ b o,X.base.get? b=some o→s.heap.get? b=some o:=fun b o e=>(I.bs b o e).1
theorem Inv.mod (I:Inv X pins σ H s):Mod X.K X.mg X.base:=I.ok.mod
theorem Inv.tU (I:Inv X pins σ H s):X.K.In s.heap:=I.ok.mod.FE.keeps I.bk
theorem Inv.lt (I:Inv X pins σ H s):X.env.locals<s.heap.objs.size:=let ⟨_,hn,_⟩:=I.loc;hn.lt
theorem Inv.sz (I:Inv X pins σ H s):X.s₀.heap.objs.size≤s.heap.objs.size:=Nat.le_trans I.ok.above (Nat.le_of_lt I.lt)
theorem Inv.Xz (I:Inv X pins σ H s) {a:Addr}(h:s.heap.objs.size≤a):a∉X.fs:=fun hb=>by
 obtain ⟨_,o,ho,_⟩:=I.ok.iX.mem hb
 exact absurd (Nat.lt_of_lt_of_le (Heap.lt_size ho) (Nat.le_trans I.sz h)) (Nat.lt_irrefl _)
theorem Inv.tV (I:Inv X pins σ H s):∀ x c,X.env.cells.lookup x=some c→c≠X.env.locals:=fun x c e z=>by
 obtain ⟨v,o,ho,hd⟩:=I.cell x c e
 obtain ⟨m,⟨o',es,ep,ho',hd',_⟩,_⟩:=I.loc
 rw [z,ho'] at ho;cases ho;rw [hd'] at hd;cases hd
theorem Inv.iX (I:Inv X pins σ H s):s.heap.FunFrames X.base X.outer:=by
 have all:∀ (l:List Env),(∀ b∈frs l,b∈X.fs)→X.s₀.heap.FunFrames X.base l→s.heap.FunFrames X.base l:=by
  intro l
  induction l with
  | nil=>intro _ _;trivial
  | cons env r ih=>
   intro hs hl
   obtain ⟨hk,⟨L,o,hf,hn,ho,hd⟩,hr⟩:=hl
   have hL:L∈X.fs:=hs L (by unfold frs;rw [List.filterMap_cons,hf];exact List.mem_cons_self)
   obtain ⟨sl,e⟩:=I.base.slot L o ho (I.ok.tT L hL) hL fun z=>I.ok.qG L z hL
   exact ⟨hk,⟨L,_,hf,hn,e,hd⟩,ih (fun b hb=>hs b (by unfold frs;rw [List.filterMap_cons,hf];exact List.mem_cons_of_mem _ hb)) hr⟩
 exact all X.outer (fun _ hb=>hb) I.ok.iX
theorem Inv.stack (I:Inv X pins σ H s):s.heap.FunFrames X.base X.stack:=by
 rcases I.ok.stk with e | ⟨e,hf⟩
 ·rw [e];exact I.iX
 ·rw [e]
  obtain ⟨m,hn,_⟩:=I.loc
  refine .cons (by rw [I.ok.kind];decide) hf hn ?_ I.iX
  exact Heap.get?_none_of_le (Nat.le_trans I.ok.rB I.ok.above)
theorem Inv.tW (I:Inv X pins σ H s):∀ b∈frs X.stack,b∈X.env.locals :: X.fs:=fun b hb=>by
 rcases I.ok.stk with e | ⟨e,hf⟩
 ·rw [e] at hb;exact List.mem_cons_of_mem _ hb
 ·rw [e] at hb
  unfold frs at hb
  rw [List.filterMap_cons,hf] at hb
  exact hb
theorem Inv.wK (I:Inv X pins σ H s):∀ b∈frs X.stack,H b=none:=fun b hb=>by
 rcases List.mem_cons.mp (I.tW b hb) with e | hb
 ·rw [e];exact I.free
 ·obtain ⟨_,o,ho,_⟩:=I.ok.iX.mem hb
  exact I.base.free b o ho (I.ok.tT b hb) fun z=>I.ok.qG b z hb
theorem Inv.step {g':Array GenState}{t':Nat}{d':Drawn}{ch:List Addr}(I:Inv X pins σ H s)
  (hch:∀ b∈ch,(b∈X.ex∨X.s₀.heap.objs.size≤b)∧b≠X.env.locals∧(∀ x c,X.env.cells.lookup x=some c→c≠b)∧∀ p∈X.pn++pins,p.1≠b)
  (keep:∀ b o,b≠X.env.locals→b∉X.fs→b∉ch→s.heap.get? b=some o→H b=none→h'.get? b=some o)
  (slot:∀ b o,b≠X.env.locals→b∈X.fs→b∉ch→s.heap.get? b=some o→H b=none→∃ sl,h'.get? b=some { o with slots:=sl }) (free:∀ b o,b∉ch→s.heap.get? b=some o→H b=none→H' b=none)
  (there:∀ b o,b∉ch→s.heap.get? b=some o→∃ o',h'.get? b=some o')
  (tups:∀ b xs,H b=some (.tup xs)→H' b=some (.tup xs)) (kT:∀ b o u,H b=some (.bS o u)→H' b=some (.bS o u)) (mw:∀ b ps,H b=some (.tR ps)→∃ more,H' b=some (.tR (ps++more)))
  (ns:∀ m,s.heap.Ns X.env.locals m→h'.Ns X.env.locals m) (hok:eL X.prog X.w H' h') (hg:AllBare g') :
  Inv X pins σ H' { s with heap:=h',gens:=g',drawn:=d',toks:=t' }:=by
 have U7:∀ b o,X.s₀.heap.get? b=some o→b≠X.env.locals:=fun b o e=>Nat.ne_of_lt (Nat.lt_of_lt_of_le (Heap.lt_size e) I.ok.above)
 have FG:∀ b o,X.s₀.heap.get? b=some o→b∉X.ex→b∉ch:=fun b o e hx hb=>by
  rcases (hch b hb).1 with z | z
  ·exact hx z
  ·exact absurd (Nat.lt_of_lt_of_le (Heap.lt_size e) z) (Nat.lt_irrefl _)
 have cellK:∀ x c,X.env.cells.lookup x=some c→∀ v,s.heap.IsCell c v→h'.IsCell c v:=fun x c e v ⟨o,ho,hd⟩=>by
  have Ae:c∉ch:=fun z=>(hch c z).2.2.1 x c e rfl
  by_cases hc:c∈X.fs
  ·obtain ⟨sl,q⟩:=slot c o (I.tV x c e) hc Ae ho (I.iM x c e)
   exact ⟨_,q,hd⟩
  ·exact ⟨o,keep c o (I.tV x c e) hc Ae ho (I.iM x c e),hd⟩
 refine ⟨I.ok,I.os,hg,⟨fun b o e n hb hx=>?_,fun b o e n hb hx=>?_,fun b o e n hx=>?_,fun b o e hx=>?_,fun b xs e=>tups b xs (I.base.tups b xs e),fun b o xs e=>kT b o xs (I.base.kT b o xs e),fun b ps e=>?_⟩,?_,fun x c e=>?_,?_,fun x c e=>?_,fun p hp=>?_,hok,I.len⟩
 ·exact keep b o (U7 b o e) hb (FG b o e hx) (I.base.keep b o e n hb hx) (I.base.free b o e n hx)
 ·obtain ⟨sl,e1⟩:=I.base.slot b o e n hb hx
  obtain ⟨sl',e2⟩:=slot b _ (U7 b o e) hb (FG b o e hx) e1 (I.base.free b o e n hx)
  exact ⟨sl',e2⟩
 ·obtain ⟨o',e1⟩:=I.base.there b o e hx
  exact free b o' (FG b o e hx) e1 (I.base.free b o e n hx)
 ·obtain ⟨o',e1⟩:=I.base.there b o e hx
  exact there b o' (FG b o e hx) e1
 ·obtain ⟨m1,e1⟩:=I.base.mw b ps e
  obtain ⟨m2,e2⟩:=mw b _ e1
  exact ⟨m1++m2,by rw [e2,Array.append_assoc]⟩
 ·obtain ⟨m,hn,hl⟩:=I.loc
  refine ⟨m,ns m hn,fun i x v e1 e2 e3=>?_⟩
  obtain ⟨u,r,l⟩:=hl i x v e1 e2 e3
  refine ⟨u,r,?_⟩
  rcases l with l | ⟨k,c,e,z⟩
  ·exact .inl l
  ·exact .inr ⟨k,c,e,cellK x c e _ z⟩
 ·obtain ⟨v,z⟩:=I.cell x c e
  exact ⟨v,cellK x c e v z⟩
 ·obtain ⟨m,⟨o,_,_,ho,_⟩,_⟩:=I.loc
  exact free _ o (fun z=>(hch _ z).2.1 rfl) ho I.free
 ·obtain ⟨v,o,ho,hd⟩:=I.cell x c e
  exact free c o (fun z=>(hch c z).2.2.1 x c e rfl) ho (I.iM x c e)
 ·obtain ⟨e,n,ne,nf,d⟩:=I.pin p hp
  have Ae:p.1∉ch:=fun z=>(hch p.1 z).2.2.2 p hp rfl
  exact ⟨keep p.1 p.2 ne nf Ae e n,free p.1 p.2 Ae e n,ne,nf,d⟩
theorem Inv.un {t':Nat}(I:Inv X pins σ H s) (u:Un X.fs [] H H' s.heap h') (hok:eL X.prog X.w H' h'):Inv X pins σ H' { s with heap:=h',toks:=t' }:=by
 obtain ⟨m,⟨o,es,ep,ho,r⟩,_⟩:=id I.loc
 obtain ⟨sl,hL⟩:=u.any ho I.free (by simp)
 exact I.step (g':=s.gens) (d':=s.drawn) (ch:=[]) (fun _ z=>nomatch z) (fun b o _ hb _ e n=>u.keep b o e n hb (by simp)) (fun b o _ hb _ e n=>u.slot b o e n hb (by simp)) (fun b o _ e n=>u.free b o e n (by simp)) (fun b o _ e=>u.there b o e (by simp)) u.tups u.kT u.mw (fun m' hm=>by
  obtain ⟨o',es',Lf,ho',r'⟩:=hm
  rw [ho] at ho';cases ho'
  exact ⟨_,es',Lf,hL,r'⟩) hok I.bare
theorem Inv.call {g':Array GenState}{t':Nat}{d':Drawn}{ch:List Addr}(I:Inv X pins σ H s) (u:Un (frs X.stack) ch H H' s.heap h') (hok:eL X.prog X.w H' h') (hg:AllBare g')
  (hch:∀ b∈ch,(b∈X.ex∨X.s₀.heap.objs.size≤b)∧b≠X.env.locals∧(∀ x c,X.env.cells.lookup x=some c→c≠b)∧∀ p∈X.pn++pins,p.1≠b) :
  Inv X pins σ H' { s with heap:=h',gens:=g',drawn:=d',toks:=t' }:=by
 obtain ⟨m,⟨o,es,ep,ho,r⟩,_⟩:=id I.loc
 obtain ⟨sl,hL⟩:=u.any ho I.free fun z=>(hch _ z).2.1 rfl
 exact I.step (ch:=ch) hch (fun b o hL hb hc e n=>u.keep b o e n (fun z=>(List.mem_cons.mp (I.tW b z)).elim hL hb) hc) (fun b o _ _ hc e n=>u.any e n hc) (fun b o hc e n=>u.free b o e n hc) (fun b o hc e=>u.there b o e hc) u.tups u.kT u.mw (fun m' hm=>by
  obtain ⟨o',es',Lf,ho',r'⟩:=hm
  rw [ho] at ho';cases ho'
  exact ⟨_,es',Lf,hL,r'⟩) hok hg
theorem Inv.turned {t':Nat}{it:Addr}(I:Inv X pins σ H s)(k:∀ b o,b≠it→s.heap.get? b=some o→h'.get? b=some o)(hn:H it=none)(hL:it≠X.env.locals)
  (h1:it∈X.ex∨X.s₀.heap.objs.size≤it) (h2:∀ x c,X.env.cells.lookup x=some c→c≠it) (h3:∀ p∈X.pn++pins,p.1≠it):Inv X pins σ H { s with heap:=h',toks:=t' }:=by
 have Af:∀ b u,H b=some u→b≠it:=fun b u e z=>by rw [z,hn] at e;cases e
 refine I.step (g':=s.gens) (d':=s.drawn) (ch:=[it]) (fun b hb=>?_) (fun b o _ _ hc e _=>k b o (fun z=>hc (by simp [z])) e) (fun b o _ _ hc e _=>⟨o.slots,k b o (fun z=>hc (by simp [z])) e⟩) (fun _ _ _ _ n=>n)
  (fun b o hc e=>⟨o,k b o (fun z=>hc (by simp [z])) e⟩) (fun _ _ e=>e) (fun _ _ _ e=>e) (fun b ps e=>⟨#[],by rw [e];simp⟩) (fun m hm=>?_) (fun b u e=>?_) I.bare
 ·have e:b=it:=by simpa using hb
  subst e
  exact ⟨h1,hL,h2,h3⟩
 ·obtain ⟨o,es,ep,ho,r⟩:=hm
  exact ⟨o,es,ep,k _ o (Ne.symm hL) ho,r⟩
 ·refine (I.hok b u e).stay (fun c v hc q=>k c v ?_ q) (fun _ q=>q) fun _ _ q=>q
  rcases hc with z | z
  ·rw [z];exact Af b u e
  ·exact Af c _ z
theorem Inv.tok (I:Inv X pins σ H s) (t:Nat):Inv X pins σ H { s with toks:=t }:=I.un (h':=s.heap) (t':=t) Un.refl I.hok
theorem Inv.kept {t':Nat}(I:Inv X pins σ H s) (k:∀ b u,s.heap.get? b=some u→h'.get? b=some u):Inv X pins σ H { s with heap:=h',toks:=t' }:=I.un (Un.kept k) (I.hok.kept k)
theorem Inv.laid {a:Addr}{o:HO}{t':Nat}(I:Inv X pins σ H s) (k:∀ b u,s.heap.get? b=some u→h'.get? b=some u) (hp:s.heap.objs.size≤a) (new:dH X.prog X.w (upd H a o) h' a o) :
  Inv X pins σ (upd H a o) { s with heap:=h',toks:=t' }:=I.un (Un.laid k hp (I.hok.fresh hp)) (I.hok.laid k hp new)
theorem Inv.write {x e:Addr}{o:HO}{t':Nat}(I:Inv X pins σ H s) (mu:Ab (H x)) (he:e=x∨H e=some (.own x)) (k:∀ b u,b≠e→s.heap.get? b=some u→h'.get? b=some u) (wI:∃ u,h'.get? e=some u)
  (new:dH X.prog X.w (upd H x o) h' x o):Inv X pins σ (upd H x o) { s with heap:=h',toks:=t' }:=I.un (Un.write mu he k wI) (I.hok.write mu he k wI new)
theorem Inv.wL {FH:List (Addr×Obj)}(I:Inv X pins σ H s) (h:∀ p∈FH,s.heap.get? p.1=some p.2∧H p.1=none∧p.1≠X.env.locals∧p.1∉X.fs∧∀ v,p.2.data≠.cell v):Inv X FH σ H s:=
 ⟨I.ok,I.os,I.bare,I.base,I.loc,I.cell,I.free,I.iM,fun p hp=>(List.mem_append.mp hp).elim (fun z=>I.pin p (List.mem_append_left _ z)) (h p),I.hok,I.len⟩
theorem tX {N:List Str}(hN:N.Nodup) {i j:Nat}{x:Str}(a:N[i]?=some x) (b:N[j]?=some x):i=j:=by
 obtain ⟨h1,e1⟩:=List.getElem?_eq_some_iff.mp a
 obtain ⟨h2,e2⟩:=List.getElem?_eq_some_iff.mp b
 exact (List.getElem_inj hN).mp (e1.trans e2.symm)
theorem rC {M:Model}{A:Around}{E:Value→Shared→Prop}{i:Nat}{x:Str}{v:V}{u:Value}{Q:Unit→Shared→Prop}(I:Inv X pins σ H s) (hN:X.N.Nodup) (hi:X.N[i]?=some x) (hx:Loc X.env.scope x) (r:RelV v u)
  (h:∀ s',Inv X pins (σ.set i (some v)) H s'→(∃ a,Heap.SameBut a s.heap s'.heap∧(a=X.env.locals∨X.env.cells.lookup x=some a))→Q () s') (hf:X.fn x=true∨X.env.scope.names.lookup x=some .local:=by first | exact .inl rfl | exact .inr rfl | assumption):wpAny M A (storeName X.env x u) Q E s:=by
 obtain ⟨m,hn,hl⟩:=id I.loc
 have hcls:(X.env.scope.kind==.class || (X.env.scope.kind==.module&&X.env.locals != X.env.globals))=false:=by rw [I.ok.kind];rfl
 have Lh:i<σ.length:=by rw [I.len];exact (List.getElem?_eq_some_iff.mp hi).1
 have tV:=I.tV
 have tracked:∀ {a:Addr} {h':Heap},(∃ o,s.heap.get? a=some o∧H a=none)→Heap.SameBut a s.heap h'→eL X.prog X.w H h':=fun {a h'} ha hs b ob e=>by
  obtain ⟨_,_,hfree⟩:=ha
  refine (I.hok b ob e).stay (fun c w' hc q=>(hs.2 c ?_).trans q) (fun _ q=>q) fun _ _ q=>q
  rintro rfl
  rcases hc with rfl | hc
  ·rw [hfree] at e;cases e
  ·rw [hfree] at hc;cases hc
 rcases hx with hk | hk
 ·refine wpAny_storeName_local hk hn (fun h' hn' hs=>?_) hcls
  obtain ⟨oL,_,_,Ag,_⟩:=id hn
  refine h _ ⟨I.ok,I.os,I.bare,⟨fun b o e n hb hx=>?_,fun b o e n hb hx=>?_,I.base.free,fun b o e hx=>?_,I.base.tups,I.base.kT,I.base.mw⟩,⟨_,hn',fun j y v' e1 e2 e3=>?_⟩,fun y c e=>?_,I.free,I.iM,fun p hp=>?_,tracked ⟨oL,Ag,I.free⟩ hs,by simpa using I.len⟩ ⟨_,hs,.inl rfl⟩
  ·exact (hs.2 b (Nat.ne_of_lt (Nat.lt_of_lt_of_le (Heap.lt_size e) I.ok.above))).trans (I.base.keep b o e n hb hx)
  ·obtain ⟨sl,e1⟩:=I.base.slot b o e n hb hx
   exact ⟨sl,(hs.2 b (Nat.ne_of_lt (Nat.lt_of_lt_of_le (Heap.lt_size e) I.ok.above))).trans e1⟩
  ·obtain ⟨o',e1⟩:=I.base.there b o e hx
   exact ⟨o',(hs.2 b (Nat.ne_of_lt (Nat.lt_of_lt_of_le (Heap.lt_size e) I.ok.above))).trans e1⟩
  ·by_cases hj:j=i
   ·subst hj
    rw [hi] at e1;cases e1
    rw [List.getElem?_set_self Lh] at e2
    cases e2
    exact ⟨u,r,.inl ⟨hk,by simp⟩⟩
   ·rw [List.getElem?_set_ne (Ne.symm hj)] at e2
    obtain ⟨u',r',q⟩:=hl j y v' e1 e2 e3
    refine ⟨u',r',?_⟩
    rcases q with ⟨k,e⟩ | ⟨k,c,e,z⟩
    ·refine .inl ⟨k,?_⟩
     have:y≠x:=fun e=>hj (tX hN e1 (e▸hi))
     simp [this,e]
    ·exact .inr ⟨k,c,e,z.sameBut hs (tV y c e)⟩
  ·obtain ⟨w',z⟩:=I.cell y c e
   exact ⟨w',z.sameBut hs (tV y c e)⟩
  ·obtain ⟨e,n,ne,nf,d⟩:=I.pin p hp
   exact ⟨(hs.2 p.1 ne).trans e,n,ne,nf,d⟩
 ·have hfn:X.fn x=true:=by
   rcases hf with z | z
   ·exact z
   ·rw [z] at hk;cases hk
  obtain ⟨c,hc⟩:=I.ok.has x (.inl hk)
  obtain ⟨w',z⟩:=I.cell x c hc
  refine wpAny_storeName_cell I.ok.kind hk hc z (fun h' hc' hs=>?_)
  obtain ⟨oc,hoc,XA⟩:=id z
  refine h { s with heap:=h' } ⟨I.ok,I.os,I.bare,⟨fun b o e n hb hx=>?_,fun b o e n hb hx=>?_,I.base.free,fun b o e hx=>?_,I.base.tups,I.base.kT,I.base.mw⟩,⟨m,hn.sameBut hs (Ne.symm (tV x c hc)),fun j y v' e1 e2 e3=>?_⟩,fun y c' e=>?_,I.free,I.iM,fun p hp=>?_,tracked ⟨oc,hoc,I.iM x c hc⟩ hs,by simpa using I.len⟩ ⟨c,hs,.inr hc⟩
  ·exact (hs.2 b (Nat.ne_of_lt (Nat.lt_of_lt_of_le (Heap.lt_size e) (I.ok.wJ x c hfn hc)))).trans (I.base.keep b o e n hb hx)
  ·obtain ⟨sl,e1⟩:=I.base.slot b o e n hb hx
   exact ⟨sl,(hs.2 b (Nat.ne_of_lt (Nat.lt_of_lt_of_le (Heap.lt_size e) (I.ok.wJ x c hfn hc)))).trans e1⟩
  ·obtain ⟨o',e1⟩:=I.base.there b o e hx
   exact ⟨o',(hs.2 b (Nat.ne_of_lt (Nat.lt_of_lt_of_le (Heap.lt_size e) (I.ok.wJ x c hfn hc)))).trans e1⟩
  ·by_cases hj:j=i
   ·subst hj
    rw [hi] at e1;cases e1
    rw [List.getElem?_set_self Lh] at e2
    cases e2
    exact ⟨u,r,.inr ⟨.inl hk,c,hc,hc'⟩⟩
   ·rw [List.getElem?_set_ne (Ne.symm hj)] at e2
    obtain ⟨u',r',q⟩:=hl j y v' e1 e2 e3
    refine ⟨u',r',?_⟩
    rcases q with q | ⟨k,c',e,z'⟩
    ·exact .inl q
    ·refine .inr ⟨k,c',e,z'.sameBut hs ?_⟩
     rintro rfl
     exact hj (tX hN e1 (I.ok.inj _ _ _ e hc▸hi))
  ·by_cases hcc:c'=c
   ·subst hcc;exact ⟨_,hc'⟩
   ·obtain ⟨w2,z2⟩:=I.cell y c' e
    exact ⟨w2,z2.sameBut hs hcc⟩
  ·obtain ⟨e,n,ne,nf,d⟩:=I.pin p hp
   refine ⟨(hs.2 p.1 ?_).trans e,n,ne,nf,d⟩
   intro q
   rw [q,hoc] at e
   have q':oc=p.2:=Option.some.inj e
   exact d w' (by rw [←q'];exact XA)
theorem tY {M:Model}{A:Around}{E:Value→Shared→Prop}{i:Nat}{x:Str}{v:V}{u:Value}{Q:Unit→Shared→Prop}(I:Inv X pins σ H s) (hN:X.N.Nodup) (hi:X.N[i]?=some x) (hx:Loc X.env.scope x) (r:RelV v u)
  (h:∀ s',Inv X pins (σ.set i (some v)) H s'→Q () s') (hf:X.fn x=true∨X.env.scope.names.lookup x=some .local:=by first | exact .inl rfl | exact .inr rfl | assumption):wpAny M A (storeName X.env x u) Q E s:=
 rC I hN hi hx r (fun s' I' _=>h s' I') hf
theorem Inv.R4 {s':Shared}{ch:List Addr}(I:Inv X pins σ H s) (ho:s'.os=s.os) (u:Un (frs X.stack) ch H H' s.heap s'.heap) (hok:eL X.prog X.w H' s'.heap) (hg:AllBare s'.gens)
  (hch:∀ b∈ch,(b∈X.ex∨X.s₀.heap.objs.size≤b)∧b≠X.env.locals∧(∀ x c,X.env.cells.lookup x=some c→c≠b)∧∀ p∈X.pn++pins,p.1≠b):Inv X pins σ H' s':=by
 obtain ⟨h',g',d',t',o'⟩:=s'
 have e:o'=s.os:=ho
 subst e
 exact I.call (g':=g') (t':=t') (d':=d') u hok hg hch
end
abbrev XK:=Value→Option Addr→Hp→Prop
abbrev St:=List (Option V)
abbrev VK:=V→Hp→Prop
abbrev TE:=St→Hp→VK→Prop
abbrev TT:=St→Hp→(Bool→Hp→Prop)→Prop
abbrev TA:=St→Hp→(List V→Hp→Prop)→Prop
structure Ends where
 nx:St→Hp→Prop
 rt:VK
 bk:St→Hp→Prop:=fun _ _=>False
 ct:St→Hp→Prop:=fun _ _=>False
abbrev TS:=Ends→St→Hp→Prop
noncomputable def EP (X:Cx) (pins:List (Addr×Obj)) (σ:St) (Q:VK) (u:Value) (s':Shared):Prop:=∃ v H',Inv X pins σ H' s'∧RelV v u∧Q v H'
noncomputable def TP (X:Cx) (pins:List (Addr×Obj)) (σ:St) (Q:Bool→Hp→Prop) (b:Bool) (s':Shared):Prop:=∃ H',Inv X pins σ H' s'∧Q b H'
noncomputable def AP (X:Cx) (pins:List (Addr×Obj)) (σ:St) (Q:List V→Hp→Prop) (us:List Value) (s':Shared):Prop:=∃ vs H',Inv X pins σ H' s'∧Vals vs us∧Q vs H'
noncomputable def SP (X:Cx) (pins:List (Addr×Obj)) (D:Ends) (f:Flow) (s':Shared):Prop:=
 match f with
 | .next=>∃ σ' H',Inv X pins σ' H' s'∧D.nx σ' H'
 | .brk=>∃ σ' H',Inv X pins σ' H' s'∧D.bk σ' H'
 | .cont=>∃ σ' H',Inv X pins σ' H' s'∧D.ct σ' H'
 | .ret u=>∃ v σ' H',Inv X pins σ' H' s'∧RelV v u∧D.rt v H'
noncomputable def PE (X:Cx) (e:Expr) (t:TE):Prop:=
 ∀ (pins:List (Addr×Obj)) (s:Shared) (σ:St) (H:Hp) (Q:VK),Inv X pins σ H s→t σ H Q→wpAny (model X.prog X.w) X.A (eval e X.env) (EP X pins σ Q) X.xe s
noncomputable def PT (X:Cx) (e:Expr) (t:TT):Prop:=
 ∀ (pins:List (Addr×Obj)) (s:Shared) (σ:St) (H:Hp) (Q:Bool→Hp→Prop),Inv X pins σ H s→t σ H Q→wpAny (model X.prog X.w) X.A (isTrue e X.env (eval e X.env)) (TP X pins σ Q) X.xe s
noncomputable def PW (X:Cx) (e:Expr) (t:TT):Prop:=
 ∀ (whole:Sem Value) (pins:List (Addr×Obj)) (s:Shared) (σ:St) (H:Hp) (Q:Bool→Hp→Prop),Inv X pins σ H s→t σ H Q→wpAny (model X.prog X.w) X.A (isTrue e X.env whole) (TP X pins σ Q) X.xe s
theorem PW.pt {X:Cx}{e:Expr}{t:TT}(h:PW X e t):PT X e t:=h _
noncomputable def PA (X:Cx) (es:List Expr) (t:TA):Prop:=
 ∀ (pos:Pos) (pins:List (Addr×Obj)) (s:Shared) (σ:St) (H:Hp) (Q:List V→Hp→Prop),Inv X pins σ H s→t σ H Q→wpAny (model X.prog X.w) X.A (spliced (backTo pos (starEach es X.env))) (AP X pins σ Q) X.xe s
noncomputable def PS (X:Cx) (st:Stmt) (t:TS):Prop:=
 ∀ (pins:List (Addr×Obj)) (s:Shared) (σ:St) (H:Hp) (D:Ends),Inv X pins σ H s→t D σ H→wpAny (model X.prog X.w) X.A (exec st X.env) (SP X pins D) X.xe s
noncomputable def iA (X:Cx) (st:List Stmt) (t:TS):Prop:=
 ∀ (pins:List (Addr×Obj)) (s:Shared) (σ:St) (H:Hp) (D:Ends),Inv X pins σ H s→t D σ H→wpAny (model X.prog X.w) X.A (execs st X.env) (SP X pins D) X.xe s
theorem bE {α:Type}{t:Sem α}{Q Q':α→Shared→Prop}{M:Model}{A:Around}{E:Value→Shared→Prop}{s:Shared}(h:wpAny M A t Q E s) (hQ:∀ a s,Q a s→Q' a s):wpAny M A t Q' E s:=wpAny_mono h hQ fun _ _ x=>x
end L2
namespace L2
open PySem PySem.Spec PyProof.Rows
section
variable {X:Cx}
theorem bin {a b:Expr}{ta tb:TE}(ha:PE X a ta) (hb:PE X b tb) {pins:List (Addr×Obj)}{s:Shared}{σ:St}{H:Hp}{R:V→V→Hp→Prop}(I:Inv X pins σ H s) (h:ta σ H fun x H1=>tb σ H1 fun y H2=>R x y H2)
  {α:Type} {Q:α→Shared→Prop} {f:Value→Value→Sem α}
  (hf:∀ v u s2 x y H2,Inv X pins σ H2 s2→RelV x v→RelV y u→R x y H2→wpAny (model X.prog X.w) X.A (f v u) Q X.xe s2) :
  wpAny (model X.prog X.w) X.A (eval a X.env) (fun v s₁=>wpAny (model X.prog X.w) X.A (eval b X.env) (fun u s₂=>wpAny (model X.prog X.w) X.A (f v u) Q X.xe s₂) X.xe s₁) X.xe s:=by
 refine bE (ha pins s σ H _ I h) fun v s1 ⟨x,H1,I1,r1,q1⟩=>?_
 refine bE (hb pins s1 σ H1 _ I1 q1) fun u s2 ⟨y,H2,I2,r2,q2⟩=>?_
 exact hf v u s2 x y H2 I2 r1 r2 q2
noncomputable def Li (i:Nat):TE:=fun σ H Q=>∃ v,σ[i]?=some (some v)∧Q v H
noncomputable def tC (v:V):TE:=fun _ H Q=>Q v H
theorem Ah {i:Nat}{x:Str}{pos:Pos}(hN:X.N[i]?=some x) (hv:Ad X.env.scope x) (hd:(x==("__debug__" : Str))=false:=by decide) (hcd:(x==("__classdict__" : Str))=false:=by decide):PE X (.Name x pos) (Li i):=by
 intro pins s σ H Q I h
 obtain ⟨v,e,h⟩:=h
 obtain ⟨m,hn,hl⟩:=I.loc
 obtain ⟨u,r,l⟩:=hl i x v hN e hv
 have fin:EP X pins σ Q u s:=⟨v,H,I,r,h⟩
 rcases l with ⟨hk,hm⟩ | ⟨hk,c,hc,hcell⟩
 ·exact wpAny_Name (wpAny_loadName_local I.ok.kind hk hn hm fin) hd
 ·rcases hk with hk | hk
  ·exact wpAny_Name (wpAny_loadName_cell I.ok.kind hk hc hcell fin) hd
  ·exact wpAny_Name (wpAny_loadName_free I.ok.kind hk hc hcell fin hcd) hd
theorem Lj {i j pos}:PE X (.Constant (.int i) j pos) (tC (.int i)):=fun _ _ _ H _ I h=>wpAny_Constant_int ⟨.int i,H,I.tok _,⟨_,rfl⟩,h⟩
theorem R5 {b j pos}:PE X (.Constant (.bool b) j pos) (tC (.bl b)):=fun _ _ _ H _ I h=>Constant_bool ⟨.bl b,H,I,rfl,h⟩
theorem Lk {j pos}:PE X (.Constant .none j pos) (tC .bf):=fun _ _ _ H _ I h=>Constant_none ⟨.bf,H,I,rfl,h⟩
theorem Ll {x j pos}:PE X (.Constant (.str x) j pos) (tC (.str x)):=fun _ _ _ H _ I h=>Calls.Constant_str ⟨.str x,H,I.tok _,⟨_,rfl⟩,h⟩
noncomputable def Gl (X:Cx) (x:Str):Prop:=X.env.kindOf x=some .globalImplicit
theorem IK {E:Value→Shared→Prop}{pins:List (Addr×Obj)}{s:Shared}{σ:St}{H:Hp}{x:Str}{u:Value}{pos:Pos}{Q:Value→Shared→Prop}(I:Inv X pins σ H s) (hg:Gl X x) (hm:X.mg x=some u) (h:Q u s)
  (hd:(x==("__debug__" : Str))=false:=by decide):wpAny (model X.prog X.w) X.A (eval (.Name x pos) X.env) Q E s:=
 Calls.Name_function_global I.ok.kind hg (Calls.loadGlobal_global (by rw [I.ok.glob];exact I.mod.glob.keeps I.bk) hm h) hd
theorem jy {E:Value→Shared→Prop}{pins:List (Addr×Obj)}{s:Shared}{σ:St}{H:Hp}{x:Str}{u:Value}{pos:Pos}{Q:Value→Shared→Prop}(I:Inv X pins σ H s) (hg:Gl X x) (hm:X.mg x=none) (hv:bootBuiltins x=some u) (h:Q u s)
  (hn:x≠"__name__" :=by decide) (hd:(x==("__debug__" : Str))=false:=by decide):wpAny (model X.prog X.w) X.A (eval (.Name x pos) X.env) Q E s:=by
 obtain ⟨mb,h1,h2⟩:=I.mod.blt
 exact Calls.Name_function_global I.ok.kind hg (Calls.loadGlobal_builtin (by rw [I.ok.glob];exact I.mod.glob.keeps I.bk) hm (by rw [I.ok.blt];exact h1.keeps I.bk) ((h2 x hn).trans hv) h) hd
variable {a b:Expr}{ta tb:TE}{pos:Pos}
variable {tA FJ:TT}{rest:List Expr}
noncomputable def XC (t u:TT):TT:=fun σ H Q=>t σ H fun c H1=>if c=true then u σ H1 Q else Q false H1
noncomputable def tOr (t u:TT):TT:=fun σ H Q=>t σ H fun c H1=>if c=true then Q true H1 else u σ H1 Q
noncomputable def XD (t:TT):TT:=fun σ H Q=>t σ H fun c H1=>Q (!c) H1
theorem IL (ha:PT X a tA):PW X (.BoolOp .And [a] pos) tA:=by
 intro wh pins s σ H Q I h
 refine isTrue_and (bE (ha pins s σ H Q I h) fun c s1 e=>?_)
 cases c with
 | true=>exact isTrue_and_nil e
 | false=>exact e
theorem Lm (ha:PT X a tA):PW X (.BoolOp .Or [a] pos) tA:=by
 intro wh pins s σ H Q I h
 refine isTrue_or (bE (ha pins s σ H Q I h) fun c s1 e=>?_)
 cases c with
 | false=>exact isTrue_or_nil e
 | true=>exact e
theorem Ln (ha:PT X a tA) (hb:PW X (.BoolOp .And (b :: rest) pos) FJ):PW X (.BoolOp .And (a :: b :: rest) pos) (XC tA FJ):=by
 intro wh pins s σ H Q I h
 refine isTrue_and (bE (ha pins s σ H _ I h) fun c s1 ⟨H1,I1,q1⟩=>?_)
 cases c with
 | true=>exact hb wh pins s1 σ H1 Q I1 q1
 | false=>exact ⟨H1,I1,q1⟩
theorem R6 (ha:PT X a tA) (hb:PW X (.BoolOp .Or (b :: rest) pos) FJ):PW X (.BoolOp .Or (a :: b :: rest) pos) (tOr tA FJ):=by
 intro wh pins s σ H Q I h
 refine isTrue_or (bE (ha pins s σ H _ I h) fun c s1 ⟨H1,I1,q1⟩=>?_)
 cases c with
 | true=>exact ⟨H1,I1,q1⟩
 | false=>exact hb wh pins s1 σ H1 Q I1 q1
theorem Lo (ha:PT X a tA):PT X (.UnaryOp .Not a pos) (XD tA):=by
 intro pins s σ H Q I h
 exact isTrue_not (ha pins s σ H (fun c H1=>Q (!c) H1) I h)
noncomputable def R7 (ta tb:TE):TE:=fun σ H Q=>ta σ H fun x H1=>∃ c,x=.bl c∧if c=true then tb σ H1 Q else Q (.bl false) H1
theorem Lp {op}{t:TE}(h:PE X a t):PE X (.BoolOp op [a] pos) t:=fun pins s σ H Q I hw=>BoolOp_one (h pins s σ H Q I hw)
theorem Lq (ha:PE X a ta) (hb:PE X (.BoolOp .And (b :: rest) pos) tb):PE X (.BoolOp .And (a :: b :: rest) pos) (R7 ta tb):=by
 intro pins s σ H Q I h
 refine BoolOp_and (bE (ha pins s σ H _ I h) fun v s1 ⟨x,H1,I1,r1,q1⟩=>?_)
 obtain ⟨c,rfl,q1⟩:=q1
 cases r1
 refine wpAny_truthy_bool ?_
 cases c with
 | true=>exact hb pins s1 σ H1 Q I1 q1
 | false=>exact ⟨.bl false,H1,I1,rfl,q1⟩
noncomputable def tIf (t:TT) (ta tb:TE):TE:=fun σ H Q=>t σ H fun c H1=>if c=true then ta σ H1 Q else tb σ H1 Q
theorem CJ {c:Expr}(hc:PT X c tA) (ha:PE X a ta) (hb:PE X b tb):PE X (.IfExp c a b pos) (tIf tA ta tb):=by
 intro pins s σ H Q I h
 refine wpAny_IfExp (bE (hc pins s σ H _ I h) fun d s1 ⟨H1,I1,q1⟩=>?_)
 cases d with
 | true=>exact ha pins s1 σ H1 Q I1 q1
 | false=>exact hb pins s1 σ H1 Q I1 q1
end
end L2
namespace L2
open PySem PySem.Spec PyProof.Rows
noncomputable def eO (K:PySem.W.Frag) (H:Hp) (a:Addr) (xs:List V):Prop:=
 Rd H a (.lst xs)∨
  ∃ (o:Obj) (its:Array Value) (n:Nat),K.lookup a=some o∧o.cls=.type "list" ∧o.dict=none∧o.data=.seq its n∧its.size≤sizeLine∧Vals xs its.toList
noncomputable def dI (K:PySem.W.Frag) (H:Hp) (a:Addr) (xs:List V):Prop:=
 Rd H a (.tup xs)∨
  ∃ (o:Obj) (its:Array Value) (n:Nat),K.lookup a=some o∧o.cls=.type "tuple" ∧o.data=.seq its n∧its.size≤sizeLine∧Vals xs its.toList
noncomputable def XE:Value→Option V
 | .none=>some .bf
 | .bool b=>some (.bl b)
 | .int i _=>some (.int i)
 | .str x _=>some (.str x)
 | .bytes b _=>some (.z9 b)
 | .float b _=>some (.Aa b)
 | .ref a=>some (.ref a)
 | .type n=>some (.ty n)
 | _=>none
theorem RelV.abs {x:V}{u:Value}(r:RelV x u):XE u=some x:=by
 cases x with
 | bf=>cases r;rfl
 | bl _=>cases r;rfl
 | int _=>obtain ⟨t,rfl⟩:=r;rfl
 | str _=>obtain ⟨t,rfl⟩:=r;rfl
 | z9 _=>obtain ⟨t,rfl⟩:=r;rfl
 | Aa _=>obtain ⟨t,rfl⟩:=r;rfl
 | ref _=>cases r;rfl
 | ty _=>cases r;rfl
theorem RelV.inj {x y:V}{u:Value}(r:RelV x u) (q:RelV y u):x=y:=Option.some.inj (r.abs.symm.trans q.abs)
theorem Vals.inj:∀ {xs ys:List V}{us:List Value},Vals xs us→Vals ys us→xs=ys
 | _,_,_,.nil,.nil=>rfl
 | _,_,_,.cons r t,.cons r' t'=>by rw [r.inj r',Vals.inj t t']
section
variable {X:Cx}{pins:List (Addr×Obj)}{σ:St}{H:Hp}{s:Shared}{a:Addr}{xs ys:List V}
theorem eO.of {K:PySem.W.Frag}(h:H a=some (.lst xs)):eO K H a xs:=.inl (.inl h)
theorem dI.of {K:PySem.W.Frag}(h:H a=some (.tup xs)):dI K H a xs:=.inl (.inl h)
theorem Inv.list (I:Inv X pins σ H s) (h:eO X.K H a xs):∃ its:List Value,Vals xs its∧PlainL s.heap a its.toArray∧xs.length≤sizeLine:=by
 rcases h with h | ⟨o,its,n,hk,hc,hd,hs,hz,r⟩
 ·obtain ⟨z,its,n,r,e⟩:=h.ok I.hok
  exact ⟨its,r,⟨_,n,e,rfl,rfl,rfl⟩,z⟩
 ·refine ⟨its.toList,r,⟨o,n,I.tU a o hk,hc,hd,by simpa using hs⟩,?_⟩
  have e:=r.length
  simp only [Array.length_toList] at e
  omega
theorem Inv.tuple (I:Inv X pins σ H s) (h:dI X.K H a xs):∃ its:List Value,Vals xs its∧IsTup s.heap a its.toArray∧xs.length≤sizeLine:=by
 rcases h with h | ⟨o,its,n,hk,hc,hs,hz,r⟩
 ·obtain ⟨z,its,r,p⟩:=h.ok I.hok
  exact ⟨its,r,p,z⟩
 ·refine ⟨its.toList,r,⟨o,I.tU a o hk,hc,n,by simpa using hs⟩,?_⟩
  have e:=r.length
  simp only [Array.length_toList] at e
  omega
theorem Inv.tZ (I:Inv X pins σ H s) (h:eO X.K H a xs) (h':eO X.K H a ys):xs=ys:=by
 obtain ⟨its,r,⟨o,n,e,_,_,d⟩,_⟩:=I.list h
 obtain ⟨its',r',⟨o',n',e',_,_,d'⟩,_⟩:=I.list h'
 rw [e] at e';cases e'
 rw [d] at d'
 injection d' with d1 _
 have:its=its':=by simpa using congrArg Array.toList d1
 subst this
 exact r.inj r'
theorem Inv.mz (I:Inv X pins σ H s) (h:dI X.K H a xs) (h':dI X.K H a ys):xs=ys:=by
 obtain ⟨its,r,⟨o,e,_,n,d⟩,_⟩:=I.tuple h
 obtain ⟨its',r',⟨o',e',_,n',d'⟩,_⟩:=I.tuple h'
 rw [e] at e';cases e'
 rw [d] at d'
 injection d' with d1 _
 have:its=its':=by simpa using congrArg Array.toList d1
 subst this
 exact r.inj r'
end
abbrev Cx.j6 (X:Cx) (E:Value→Shared→Prop):Cx:={ X with xe:=E }
abbrev Cx.rD (X:Cx):Cx:=X.j6 fun _ _=>False
theorem Cx.Ok.j6 {X:Cx}(ok:X.Ok) (E:Value→Shared→Prop):(X.j6 E).Ok:=
 ⟨ok.mod,ok.kind,ok.glob,ok.blt,ok.above,ok.inj,ok.has,ok.wJ,ok.hd,ok.frames,ok.stk,ok.FF,ok.bs,ok.rB,ok.qF,ok.qG,ok.iX,ok.tT⟩
theorem Cx.Ok.iT {X:Cx}{E:Value→Shared→Prop}(ok:(X.j6 E).Ok):X.Ok:=
 ⟨ok.mod,ok.kind,ok.glob,ok.blt,ok.above,ok.inj,ok.has,ok.wJ,ok.hd,ok.frames,ok.stk,ok.FF,ok.bs,ok.rB,ok.qF,ok.qG,ok.iX,ok.tT⟩
section
variable {X:Cx}{pins:List (Addr×Obj)}{σ:St}{H:Hp}{s:Shared}{E:Value→Shared→Prop}
theorem Inv.j6 (I:Inv X pins σ H s) (E:Value→Shared→Prop):Inv (X.j6 E) pins σ H s:=⟨I.ok.j6 E,I.os,I.bare,I.base,I.loc,I.cell,I.free,I.iM,I.pin,I.hok,I.len⟩
theorem Inv.iT (I:Inv (X.j6 E) pins σ H s):Inv X pins σ H s:=⟨I.ok.iT,I.os,I.bare,I.base,I.loc,I.cell,I.free,I.iM,I.pin,I.hok,I.len⟩
theorem SP.iT {D:Ends}{f:Flow}{s':Shared}(h:SP (X.j6 E) pins D f s'):SP X pins D f s':=by
 cases f with
 | next=>obtain ⟨σ',H',I,q⟩:=h;exact ⟨σ',H',I.iT,q⟩
 | brk=>obtain ⟨σ',H',I,q⟩:=h;exact ⟨σ',H',I.iT,q⟩
 | cont=>obtain ⟨σ',H',I,q⟩:=h;exact ⟨σ',H',I.iT,q⟩
 | ret u=>obtain ⟨v,σ',H',I,r,q⟩:=h;exact ⟨v,σ',H',I.iT,r,q⟩
theorem iA.rD {st:List Stmt}{t:TS}(h:iA X.rD st t):iA X st t:=fun pins s σ H D I hw=>
 wpAny_mono (h pins s σ H D (I.j6 _) hw) (fun _ _ q=>q.iT) fun _ _ z=>False.elim z
end
section
variable {X:Cx}{st:Stmt}{rest:List Stmt}{t u:TS}{e:Expr}{te:TE}{pos:Pos}
noncomputable def R8:TS:=fun D σ H=>D.nx σ H
noncomputable def XF (t u:TS):TS:=fun D σ H=>t { D with nx:=u D } σ H
theorem IM:iA X [] R8:=fun _ _ σ H _ I h=>wpAny_execs_nil ⟨σ,H,I,h⟩
theorem CK (h1:PS X st t) (h2:iA X rest u):iA X (st :: rest) (XF t u):=by
 intro pins s σ H D I h
 refine wpAny_execs_cons (bE (h1 pins s σ H { D with nx:=u D } I h) fun f s1 q=>?_)
 cases f with
 | next=>
  obtain ⟨σ',H',I',q⟩:=q
  exact h2 pins s1 σ' H' D I' q
 | ret v=>exact q
 | brk=>exact q
 | cont=>exact q
theorem Inv.quiet {pins:List (Addr×Obj)}{σ:St}{H:Hp}{s:Shared}(I:Inv X pins σ H s):interactive X.env=false:=by simp [interactive,I.ok.kind]
noncomputable def R9 (te:TE):TS:=fun D σ H=>te σ H fun _ H1=>D.nx σ H1
theorem IP (he:PE X e te) (hs:swapsWith e none pos.line X.env=pure false:=by rfl):PS X (.Expr e pos) (R9 te):=by
 intro pins s σ H D I h
 exact wpAny_Expr_any (bE (he pins s σ H _ I h) fun v s1 ⟨x,H1,I1,r1,q1⟩=>⟨σ,H1,I1,q1⟩) I.quiet hs
noncomputable def XG (te:TE):TS:=fun D σ H=>te σ H D.rt
theorem Lr (he:PE X e te):PS X (.Return (some e) pos) (XG te):=by
 intro pins s σ H D I h
 exact wpAny_Return_some (bE (he pins s σ H _ I h) fun v s1 ⟨x,H1,I1,r1,q1⟩=>⟨x,σ,H1,I1,r1,q1⟩)
noncomputable def XH (c:TT) (t u:TS):TS:=fun D σ H=>c σ H fun b H1=>if b=true then t D σ H1 else u D σ H1
theorem Sa {c:Expr}{a b:List Stmt}{tc:TT}(hc:PT X c tc) (ha:iA X a t) (hb:iA X b u):PS X (.If c a b pos) (XH tc t u):=by
 intro pins s σ H D I h
 refine wpAny_If (bE (hc pins s σ H _ I h) fun d s1 ⟨H1,I1,q1⟩=>?_)
 cases d with
 | true=>exact ha pins s1 σ H1 D I1 q1
 | false=>exact hb pins s1 σ H1 D I1 q1
noncomputable def Ls:TS:=fun _ _ _=>False
theorem CL:PS X st Ls:=fun _ _ _ _ _ _ h=>h.elim
end
abbrev TG:=V→St→Hp→(St→Hp→Prop)→Prop
abbrev rE:=List V→St→Hp→(St→Hp→Prop)→Prop
noncomputable def PG (X:Cx) (target:Expr) (t:TG):Prop:=
 ∀ (pins:List (Addr×Obj)) (s:Shared) (σ:St) (H:Hp) (v:V) (u:Value) (Q:St→Hp→Prop),Inv X pins σ H s→RelV v u→t v σ H Q→
  wpAny (model X.prog X.w) X.A (assign target X.env u) (fun _ s'=>∃ σ' H',Inv X pins σ' H' s'∧Q σ' H') X.xe s
noncomputable def oq (X:Cx) (ts:List Expr) (t:rE):Prop:=
 ∀ (pins:List (Addr×Obj)) (s:Shared) (σ:St) (H:Hp) (vs:List V) (us:List Value) (Q:St→Hp→Prop),Inv X pins σ H s→Vals vs us→t vs σ H Q→
  wpAny (model X.prog X.w) X.A (assignInOrder ((assignEach ts X.env).map (·.2)) us) (fun _ s'=>∃ σ' H',Inv X pins σ' H' s'∧Q σ' H') X.xe s
section
variable {X:Cx}{pos:Pos}
noncomputable def FL (i:Nat):TG:=fun v σ H Q=>Q (σ.set i (some v)) H
theorem wN {i:Nat}{x:Str}(hN:X.N.Nodup) (hi:X.N[i]?=some x) (hx:Loc X.env.scope x) (hf:X.fn x=true∨X.env.scope.names.lookup x=some .local:=by first | exact .inl rfl | exact .inr rfl | assumption):PG X (.Name x pos) (FL i):=by
 intro pins s σ H v u Q I r h
 exact wpAny_assign_Name (tY I hN hi hx r (fun s' I'=>⟨_,H,I',h⟩) hf)
noncomputable def XI:rE:=fun vs σ H Q=>vs=[]∧Q σ H
noncomputable def Sb (t:TG) (u:rE):rE:=fun vs σ H Q=>∃ v r,vs=v :: r∧t v σ H fun σ' H'=>u r σ' H' Q
theorem IQ:oq X [] XI:=by
 intro pins s σ H vs us Q I r h
 obtain ⟨e,h⟩:=h
 subst e
 cases r
 exact assignInOrder_nil ⟨σ,H,I,h⟩
theorem CM {e:Expr}{es:List Expr}{t:TG}{u:rE}(h1:PG X e t)(h2:oq X es u)
  (hs:(assignEach (e :: es) X.env).map (·.2)=assign e X.env :: (assignEach es X.env).map (·.2):=by rfl):oq X (e :: es) (Sb t u):=by
 intro pins s σ H vs us Q I r h
 obtain ⟨v,vr,e1,h⟩:=h
 subst e1
 cases r with
 | cons r rr=>
  rw [hs]
  refine assignInOrder_cons (bE (h1 pins s σ H _ _ _ I r h) fun _ s1 ⟨σ1,H1,I1,q1⟩=>?_)
  exact h2 pins s1 σ1 H1 _ _ Q I1 rr q1
noncomputable def XJ (K:PySem.W.Frag) (n:Nat) (t:rE):TG:=fun v σ H Q=>∃ a xs,v=.ref a∧dI K H a xs∧xs.length=n∧t xs σ H Q
theorem Lu {es:List Expr}{k:Nat}{t:rE}{n:Nat}(hc:X.calm=true)(h:oq X es t)
  (hn:(assignEach es X.env).length=n:=by rfl) (hst:(assignEach es X.env).findIdx? (·.1)=none:=by rfl):PG X (.Tuple es k pos) (XJ X.K n t):=by
 intro pins s σ H v u Q I r hw
 obtain ⟨a,xs,e1,hq,hl,hw⟩:=hw
 subst e1
 cases r
 obtain ⟨its,rv,ht,hz⟩:=I.tuple hq
 refine assign_Tuple_tuple (I.ok.hd hc) ht (by simp [hn,←hl,rv.length]) hst fun h' hx=>?_
 have I1:Inv X pins σ H { s with heap:=h' }:=I.kept (t':=s.toks) fun b o e=>hx b o (Nat.ne_of_lt (Heap.lt_size e)) e
 exact h pins _ σ H xs _ Q I1 (by simpa using rv) hw
noncomputable def Lv (te:TE) (g:TG):TS:=fun D σ H=>te σ H fun x H1=>g x σ H1 D.nx
theorem Lx {tg e:Expr}{te:TE}{g:TG}(he:PE X e te) (hg:PG X tg g) (hs:swapsWithSole [tg] e pos.line X.env=pure false:=by rfl) (hw:swappedStores [tg] e X.env=pure none:=by rfl)
  (h1:(assignEach [tg] X.env).map (·.2)=[assign tg X.env]:=by rfl):PS X (.Assign [tg] e pos) (Lv te g):=by
 intro pins s σ H D I h
 refine wpAny_Assign_stores (bE (he pins s σ H _ I h) fun v s1 ⟨x,H1,I1,r1,q1⟩=>?_) hs hw
 rw [h1]
 exact bE (hg pins s1 σ H1 x v _ I1 r1 q1) fun _ s2 q=>q
theorem Ai {i:Nat}{x:Str}{e:Expr}{te:TE}{pos':Pos}(hN:X.N.Nodup) (hi:X.N[i]?=some x) (hx:Loc X.env.scope x) (he:PE X e te) (hs:swapsWith e (some (.Name x pos')) pos.line X.env=pure false:=by rfl) (hf:X.fn x=true∨X.env.scope.names.lookup x=some .local:=by first | exact .inl rfl | exact .inr rfl | assumption) :
  PS X (.Assign [.Name x pos'] e pos) (Lv te (FL i)):=by
 intro pins s σ H D I h
 refine wpAny_Assign_Name (bE (he pins s σ H _ I h) fun v s1 ⟨y,H1,I1,r1,q1⟩=>?_) hs
 exact tY I1 hN hi hx r1 (fun s2 I2=>⟨_,H1,I2,q1⟩) hf
end
section
variable {X:Cx}{pos:Pos}
noncomputable def Ly (c:TT) (tb:TS):TS:=fun D σ H=>∃ W:Nat→St→Hp→Prop,(∃ m,W m σ H)∧∀ m σ H,W m σ H→
 c σ H fun b H1=>if b=true then ∃ N:St→Hp→Prop,(∀ σ' H',N σ' H'→∃ m',m'<m∧W m' σ' H')∧tb { D with nx:=N,ct:=N,bk:=D.nx } σ H1 else D.nx σ H1
theorem CN {c:Expr}{body:List Stmt}{tc:TT}{tb:TS}(hp:PassesOwn (model X.prog X.w) X.A X.env X.xe) (hc:PT X c tc) (hb:iA X body tb):PS X (.While c body [] pos) (Ly tc tb):=by
 intro pins s σ H D I h
 obtain ⟨W,⟨m0,w0⟩,turn⟩:=h
 refine wpAny_While (codeAny_whileLoop (fun n s'=>∃ σ' H',Inv X pins σ' H' s'∧W n σ' H') ?_ m0 ⟨σ,H,I,w0⟩)
 rintro n s1 ⟨σ1,H1,I1,w1⟩
 refine wpAny_passesOwn hp (bE (hc pins s1 σ1 H1 _ I1 (turn n σ1 H1 w1)) fun b s2 ⟨H2,I2,q2⟩=>?_)
 cases b with
 | true=>
  obtain ⟨N,hN,q2⟩:=q2
  rw [if_pos rfl]
  refine wpAny_passesOwn hp (bE (hb pins s2 σ1 H2 _ I2 q2) fun f s3 q3=>?_)
  cases f with
  | next=>
   obtain ⟨σ3,H3,I3,n3⟩:=q3
   obtain ⟨m',hm,w3⟩:=hN σ3 H3 n3
   exact ⟨m',hm,σ3,H3,I3,w3⟩
  | cont=>
   obtain ⟨σ3,H3,I3,n3⟩:=q3
   obtain ⟨m',hm,w3⟩:=hN σ3 H3 n3
   exact ⟨m',hm,σ3,H3,I3,w3⟩
  | brk=>exact q3
  | ret v=>exact q3
 | false=>
  rw [if_neg Bool.false_ne_true]
  exact wpAny_execs_nil ⟨σ1,H2,I2,q2⟩
end
structure It where
 go:Nat→Hp→Prop
 FO:Nat→Hp→V→Hp→Prop
 stop:Nat→Hp→Prop
noncomputable def gx (X:Cx) (pins:List (Addr×Obj)) (H:Hp) (b:Addr):Prop:=
 H b=none∧b≠X.env.locals∧b∉X.fs∧(b∈X.ex∨X.s₀.heap.objs.size≤b)∧(∀ x c,X.env.cells.lookup x=some c→c≠b)∧∀ p∈X.pn++pins,p.1≠b
theorem Inv.yp {X:Cx}{pins:List (Addr×Obj)}{σ:St}{H H':Hp}{s:Shared}{b:Addr}(I:Inv X pins σ H s) (hb:s.heap.objs.size≤b) (hn:H' b=none):gx X pins H' b:=by
 refine ⟨hn,Nat.ne_of_gt (Nat.lt_of_lt_of_le I.lt hb),I.Xz hb,.inr (Nat.le_trans I.sz hb),fun x c e z=>?_,fun p hp z=>?_⟩
 ·obtain ⟨v,q⟩:=I.cell x c e
  exact absurd (Nat.lt_of_lt_of_le q.lt (by rw [z];exact hb)) (Nat.lt_irrefl _)
 ·exact absurd (Nat.lt_of_lt_of_le (Heap.lt_size (I.pin p hp).1) (by rw [z];exact hb)) (Nat.lt_irrefl _)
structure Turn (P:Program) (w:World) (K:PySem.W.Frag) (tg:Expr) (J:It) (fp:List Addr) (it:Addr) (tn:Nat→Heap→Prop):Prop where
 mem:it∈fp
 obj:∀ i h,tn i h→∀ b∈fp,∃ o,h.get? b=some o∧∀ v,o.data≠.cell v
 keep:∀ i h h',tn i h→(∀ b∈fp,∀ o,h.get? b=some o→h'.get? b=some o)→tn i h'
 item:∀ (X:Cx),X.prog=P→X.w=w→X.K=K→X.calm=true→∀ (i:Nat) (pins:List (Addr×Obj)) (s:Shared) (σ:St) (H:Hp) (E:Value→Shared→Prop),Inv X pins σ H s→(∀ b∈fp,gx X pins H b)→tn i s.heap→J.go i H→
  wpAny (model P w) X.A (pyNext (.ref it)) (fun r s1=>∃ u,r=some u∧
   wpAny (model P w) X.A (letOwnedTupleGo tg (.ref it) u) (fun _ s2=>∃ x H',Inv X pins σ H' s2∧RelV x u∧J.FO i H x H'∧tn (i+1) s2.heap∧∀ b∈fp,H' b=none) E s1) E s
 done:∀ (X:Cx),X.prog=P→X.w=w→X.K=K→X.calm=true→∀ (i:Nat) (pins:List (Addr×Obj)) (s:Shared) (σ:St) (H:Hp) (E:Value→Shared→Prop),Inv X pins σ H s→(∀ b∈fp,gx X pins H b)→tn i s.heap→J.stop i H→
  wpAny (model P w) X.A (pyNext (.ref it)) (fun r s1=>r=none∧Inv X pins σ H s1) E s
 self:∀ (A:Around) (i:Nat) (s:Shared) (Q:Value→Shared→Prop) (E:Value→Shared→Prop),tn i s.heap→Q (.ref it) s→wpAny (model P w) A (pyIter (.ref it)) Q E s
abbrev TI:=St→Hp→(It→Hp→Prop)→Prop
noncomputable def U8 (X:Cx) (pins:List (Addr×Obj)) (σ:St) (tg:Expr) (R:It→Hp→Prop) (itv:Value) (s2:Shared):Prop:=
 ∃ (it:Addr) (fp:List Addr) (tn:Nat→Heap→Prop) (J:It) (H':Hp),itv=.ref it∧Inv X pins σ H' s2∧Turn X.prog X.w X.K tg J fp it tn∧tn 0 s2.heap∧(∀ b∈fp,gx X pins H' b)∧R J H'
noncomputable def PI (X:Cx) (tg iter:Expr) (wi:TI):Prop:=
 ∀ (pins:List (Addr×Obj)) (s:Shared) (σ:St) (H:Hp) (R:It→Hp→Prop),Inv X pins σ H s→wi σ H R→
  wpAny (model X.prog X.w) X.A (eval iter X.env) (fun v s1=>wpAny (model X.prog X.w) X.A (pyIter v) (U8 X pins σ tg R) X.xe s1) X.xe s
theorem yq {M:Model}{A:Around}{E:Value→Shared→Prop}{s:Shared}{tg:Expr}{it:Addr}{u:Value}{o:Obj}{n:String}{vs:Array Value}{Q:Unit→Shared→Prop}(ho:s.heap.get? it=some o)(hc:o.cls=.type n)(hd:o.data=.fields vs)
    (hn:["enumerate","zip","dict_itemiterator","dict_reverseitemiterator","odict_iterator","itertools.zip_longest","itertools.pairwise"].contains n=false) (hQ:Q () s):wpAny M A (letOwnedTupleGo tg (.ref it) u) Q E s:=by
  unfold letOwnedTupleGo
  cases tg <;> first
    | exact wpAny_pure hQ
    | (cases u <;> first
        | exact wpAny_pure hQ
        | (refine wpAny_bind (wpAny_load ho ?_)
           rw [hc,hd]
           show wpAny M A (if (["enumerate","zip","dict_itemiterator","dict_reverseitemiterator","odict_iterator","itertools.zip_longest","itertools.pairwise"].contains n&&vs[0]?==some (rawInt _))=true then _ else _) Q E s
           rw [if_neg (by intro h;rw [hn,Bool.false_and] at h;cases h)]
           exact wpAny_pure hQ))
noncomputable def U9 (K:PySem.W.Frag) (a:Addr):It:=
 ⟨fun i H=>∃ xs x,eO K H a xs∧xs[i]?=some x,fun i H x H'=>H'=H∧∀ xs,eO K H a xs→xs[i]?=some x,fun i H=>∃ xs,eO K H a xs∧xs.length≤i⟩
noncomputable def Va (K:PySem.W.Frag) (a:Addr):It:=
 ⟨fun i H=>∃ xs x,dI K H a xs∧xs[i]?=some x,fun i H x H'=>H'=H∧∀ xs,dI K H a xs→xs[i]?=some x,fun i H=>∃ xs,dI K H a xs∧xs.length≤i⟩
noncomputable def Aj (lo:Int) (n:Nat):It:=⟨fun i _=>i<n,fun i H x H'=>H'=H∧x=.int (lo+i),fun i _=>n≤i⟩
theorem Ak {P:Program}{w:World}{K:PySem.W.Frag}{tg:Expr}(a it:Addr):Turn P w K tg (U9 K a) [it] it (fun i h=>h.IsListIter it a i) where
 mem:=by simp
 obj:=fun i h st b hb=>by
  have e:b=it:=by simpa using hb
  subst e
  obtain ⟨o,e,c,d⟩:=st
  exact ⟨o,e,fun v z=>by rw [d] at z;cases z⟩
 keep:=fun i h h' st k=>st.at fun o e=>k it (by simp) o e
 item:=by
  intro X hP hw hK hc i pins s σ H E I hf st hg
  subst hP hw hK
  obtain ⟨xs,x,hq,hx⟩:=hg
  obtain ⟨its,rv,p,hz⟩:=I.list hq
  obtain ⟨u,hu,ru⟩:=rv.get hx
  obtain ⟨f0,f1,f2,f3,f4,f5⟩:=hf it (by simp)
  refine wpAny_pyNext_list_item st p.isList (x:=u) (by simpa using hu) fun h' st' sb=>?_
  have I1:Inv X pins σ H { s with heap:=h' }:=I.turned (t':=s.toks) (fun b o hb e=>(sb.2 b hb).trans e) f0 f1 f3 f4 f5
  obtain ⟨o,e,c,d⟩:=id st'
  exact ⟨u,rfl,yq (s:={ s with heap:=h' }) e c d (by decide) ⟨x,H,I1,ru,⟨rfl,fun ys hy=>by rw [I.tZ hy hq];exact hx⟩,st',fun b hb=>(hf b hb).1⟩⟩
 done:=by
  intro X hP hw hK hc i pins s σ H E I hf st hg
  subst hP hw hK
  obtain ⟨xs,hq,hx⟩:=hg
  obtain ⟨its,rv,p,hz⟩:=I.list hq
  obtain ⟨f0,f1,f2,f3,f4,f5⟩:=hf it (by simp)
  have hl:=rv.length
  exact wpAny_pyNext_list_end (I.ok.hd hc) st p.isList (by simp;omega) fun h' eb=>⟨rfl,I.turned (t':=s.toks) (fun b o hb e=>eb b o hb e) f0 f1 f3 f4 f5⟩
 self:=fun _ _ _ _ _ st h=>wpAny_pyIter_listiter st h
theorem yr {P:Program}{w:World}{K:PySem.W.Frag}{tg:Expr}(a it:Addr):Turn P w K tg (Va K a) [it] it (fun i h=>h.IsTupleIter it a i) where
 mem:=by simp
 obj:=fun i h st b hb=>by
  have e:b=it:=by simpa using hb
  subst e
  obtain ⟨o,e,c,d⟩:=st
  exact ⟨o,e,fun v z=>by rw [d] at z;cases z⟩
 keep:=fun i h h' st k=>st.at fun o e=>k it (by simp) o e
 item:=by
  intro X hP hw hK hc i pins s σ H E I hf st hg
  subst hP hw hK
  obtain ⟨xs,x,hq,hx⟩:=hg
  obtain ⟨its,rv,p,hz⟩:=I.tuple hq
  obtain ⟨u,hu,ru⟩:=rv.get hx
  obtain ⟨f0,f1,f2,f3,f4,f5⟩:=hf it (by simp)
  refine wpAny_pyNext_tuple_item st (show s.heap.IsTuple a its.toArray from p) (x:=u) (by simpa using hu) fun h' st' sb=>?_
  have I1:Inv X pins σ H { s with heap:=h' }:=I.turned (t':=s.toks) (fun b o hb e=>(sb.2 b hb).trans e) f0 f1 f3 f4 f5
  obtain ⟨o,e,c,d⟩:=id st'
  exact ⟨u,rfl,yq (s:={ s with heap:=h' }) e c d (by decide) ⟨x,H,I1,ru,⟨rfl,fun ys hy=>by rw [I.mz hy hq];exact hx⟩,st',fun b hb=>(hf b hb).1⟩⟩
 done:=by
  intro X hP hw hK hc i pins s σ H E I hf st hg
  subst hP hw hK
  obtain ⟨xs,hq,hx⟩:=hg
  obtain ⟨its,rv,p,hz⟩:=I.tuple hq
  obtain ⟨f0,f1,f2,f3,f4,f5⟩:=hf it (by simp)
  have hl:=rv.length
  exact wpAny_pyNext_tuple_end (I.ok.hd hc) st (show s.heap.IsTuple a its.toArray from p) (by simp;omega) fun h' eb=>⟨rfl,I.turned (t':=s.toks) (fun b o hb e=>eb b o hb e) f0 f1 f3 f4 f5⟩
 self:=fun _ _ _ _ _ st h=>wpAny_pyIter_tupleiter st h
theorem yt {P:Program}{w:World}{K:PySem.W.Frag}{tg:Expr}(it:Addr) (lo:Int) (n:Nat):Turn P w K tg (Aj lo n) [it] it (fun i h=>IsRangeIter h it (lo+(i:Nat)*1) ((n:Int) - (i:Nat)) 1) where
 mem:=by simp
 obj:=fun i h st b hb=>by
  have e:b=it:=by simpa using hb
  subst e
  exact ⟨_,st,fun v z=>by
   have z':Data.fields _=Data.cell v:=z
   cases z'⟩
 keep:=fun i h h' st k=>k it (by simp) _ st
 item:=by
  intro X hP hw hK hc i pins s σ H E I hf st hg
  subst hP hw hK
  obtain ⟨f0,f1,f2,f3,f4,f5⟩:=hf it (by simp)
  have W:=Walks.range (prog:=X.prog) (w:=X.w) (I.ok.hd hc) it lo 1 n
  refine W.item i s _ _ hg st fun v h' tk hv st' kk=>?_
  obtain ⟨t,rfl⟩:=hv
  have I1:Inv X pins σ H { s with heap:=h',toks:=tk }:=I.turned (fun b o hb e=>kk b o (by simpa using hb) e) f0 f1 f3 f4 f5
  refine ⟨_,rfl,yq (s:={ s with heap:=h',toks:=tk }) (n:="range_iterator") st' rfl rfl (by decide) ⟨.int (lo+i),H,I1,⟨t,?_⟩,⟨rfl,rfl⟩,st',fun b hb=>(hf b hb).1⟩⟩
  rw [Int.mul_one]
 done:=by
  intro X hP hw hK hc i pins s σ H E I hf st hg
  subst hP hw hK
  obtain ⟨f0,f1,f2,f3,f4,f5⟩:=hf it (by simp)
  exact wpAny_pyNext_range_end (I.ok.hd hc) st (by have:n≤i:=hg;omega) fun h' eb=>⟨rfl,I.turned (t':=s.toks) (fun b o hb e=>eb b o hb e) f0 f1 f3 f4 f5⟩
 self:=fun _ _ _ _ _ st h=>wpAny_pyIter_rangeiter st h
end L2
namespace L2
open PySem PySem.Spec PyProof.Rows
section
variable {X:Cx}{tg:Expr}
theorem t6 {pins:List (Addr×Obj)}{σ:St}{H:Hp}{s:Shared}{R:It→Hp→Prop}{E:Value→Shared→Prop}{lo hi:Int}{t u v:Tok}{tk:Nat}(I:Inv X pins σ H s) (h1:-(2 ^ 62)≤lo) (h2:lo<2 ^ 62) (h3:-(2 ^ 62)≤hi) (h4:hi<2 ^ 62)
  (q:R (Aj lo (hi - lo).toNat) H):wpAny (model X.prog X.w) X.A (pyIter (.ref s.heap.objs.size)) (U8 X pins σ tg R) E { s with heap:=s.heap.push { cls:=.type "range",data:=.fields #[.int lo t,.int hi u,.int 1 v]},toks:=tk }:=by
 refine wpAny_pyIter_range (IsRange.new ..) (small_one h1 h2 h3 h4) ?_
 have I1:Inv X pins σ H { s with heap:=s.heap.push { cls:=.type "range",data:=.fields #[.int lo t,.int hi u,.int 1 v]},toks:=tk }:=I.kept fun b o e=>Heap.get?_push_of_some _ e
 refine ⟨(s.heap.push { cls:=.type "range",data:=.fields #[.int lo t,.int hi u,.int 1 v]}).objs.size,[(s.heap.push { cls:=.type "range",data:=.fields #[.int lo t,.int hi u,.int 1 v]}).objs.size],_,_,H,rfl,
  I1.kept (t':=tk) fun b o e=>Heap.get?_push_of_some _ e,yt _ lo (hi - lo).toNat,?_,fun b hb=>?_,q⟩
 ·have e1:lo+((0:Nat):Int)*1=lo:=by simp
  have e2:(((hi - lo).toNat:Nat):Int) - ((0:Nat):Int)=Builtin.Range.rangeSize lo hi 1:=by rw [rangeSize_one];split <;> omega
  show IsRangeIter _ _ (lo+((0:Nat):Int)*1) ((((hi - lo).toNat:Nat):Int) - ((0:Nat):Int)) 1
  rw [e1,e2]
  exact Heap.get?_push_size _ rfl
 ·have e:b=(s.heap.push { cls:=.type "range",data:=.fields #[.int lo t,.int hi u,.int 1 v]}).objs.size:=by simpa using hb
  subst e
  exact I1.yp (Nat.le_refl _) (I1.hok.fresh (Nat.le_refl _))
noncomputable def Sd (ta:TA):TI:=fun σ H R=>ta σ H fun vs H1=>∃ j:Int,vs=[.int j]∧-(2 ^ 62)≤j∧j<2 ^ 62∧R (Aj 0 j.toNat) H1
noncomputable def Se (ta:TA):TI:=fun σ H R=>ta σ H fun vs H1=>∃ i j:Int,vs=[.int i,.int j]∧(-(2 ^ 62)≤i∧i<2 ^ 62∧-(2 ^ 62)≤j∧j<2 ^ 62)∧R (Aj i (j - i).toNat) H1
theorem Am {a:Expr}{ta:TA}{p pos:Pos}(hg:Gl X "range") (hm:X.mg "range" = none) (ha:PA X [a] ta) (hs:starEach [a] X.env=[(false,eval a X.env)]:=by rfl):PI X tg (.Call (.Name "range" p) [a] [] pos) (Sd ta):=by
 intro pins s σ H R I h
 refine Call_ (jy I hg hm boot_range (PyProof.Rows.callWith_type1 (bE (ha pos pins s σ H _ I h) fun us s1 ⟨vs,H1,I1,r1,q1⟩=>?_) hs rfl))
 obtain ⟨j,e,q1,q2,q⟩:=q1
 subst e
 cases r1 with
 | cons r rr=>
  cases rr
  obtain ⟨t,rfl⟩:=r
  exact call_range_1 (t6 I1 (by omega) (by omega) q1 q2 (by simpa using q))
theorem Ao {a b:Expr}{ta:TA}{p pos:Pos}(hg:Gl X "range") (hm:X.mg "range" = none) (ha:PA X [a,b] ta) (hs:starEach [a,b] X.env=[(false,eval a X.env),(false,eval b X.env)]:=by rfl) (hs2:starEach [b] X.env=[(false,eval b X.env)]:=by rfl) :
  PI X tg (.Call (.Name "range" p) [a,b] [] pos) (Se ta):=by
 intro pins s σ H R I h
 refine Call_ (jy I hg hm boot_range (PyProof.Rows.callWith_type1 (bE (ha pos pins s σ H _ I h) fun us s1 ⟨vs,H1,I1,r1,q1⟩=>?_) (by rw [hs,hs2]) (by rw [hs2];rfl)))
 obtain ⟨i,j,e,⟨q1,q2,q3,q4⟩,q⟩:=q1
 subst e
 cases r1 with
 | cons r rr=>
  cases rr with
  | cons r' rr=>
   cases rr
   obtain ⟨t,rfl⟩:=r
   obtain ⟨t',rfl⟩:=r'
   exact call_range_2 (t6 I1 q1 q2 q3 q4 q)
noncomputable def XM (wi:TI) (g:TG) (tb:TS):TS:=fun D σ H=>wi σ H fun J H1=>∃ W:Nat→Nat→St→Hp→Prop,(∃ m,W 0 m σ H1)∧∀ i m σ H,W i m σ H→
 (J.stop i H∧D.nx σ H)∨(J.go i H∧∃ N:St→Hp→Prop,(∀ σ' H',N σ' H'→∃ m',m'<m∧W (i+1) m' σ' H')∧∀ x H',J.FO i H x H'→g x σ H' fun σ2 H2=>tb { D with nx:=N,ct:=N,bk:=D.nx } σ2 H2)
noncomputable def mC (fp:List Addr) (h:Heap):List (Addr×Obj):=fp.filterMap fun b=>(h.get? b).map fun o=>(b,o)
theorem je {fp:List Addr}{h:Heap}{b:Addr}{o:Obj}(hb:b∈fp) (e:h.get? b=some o):(b,o)∈mC fp h:=List.mem_filterMap.mpr ⟨b,hb,by rw [e];rfl⟩
theorem Aq {fp:List Addr}{h:Heap}{p:Addr×Obj}(hp:p∈mC fp h):p.1∈fp∧h.get? p.1=some p.2:=by
 obtain ⟨b,hb,e⟩:=List.mem_filterMap.mp hp
 cases q:h.get? b with
 | none=>rw [q] at e;cases e
 | some o=>
  rw [q] at e
  have e':(b,o)=p:=Option.some.inj e
  subst e'
  exact ⟨hb,q⟩
theorem Inv.pinned {pins:List (Addr×Obj)}{σ:St}{H:Hp}{s:Shared}{fp:List Addr}(I:Inv X pins σ H s) (hf:∀ b∈fp,gx X pins H b) (ho:∀ b∈fp,∃ o,s.heap.get? b=some o∧∀ v,o.data≠.cell v):Inv X (pins++mC fp s.heap) σ H s:=
 I.wL fun p hp=>(List.mem_append.mp hp).elim (fun z=>I.pin p (List.mem_append_right _ z)) fun z=>by
  obtain ⟨hb,e⟩:=Aq z
  obtain ⟨f0,f1,f2,_⟩:=hf p.1 hb
  obtain ⟨o,e',d⟩:=ho p.1 hb
  rw [e] at e';cases e'
  exact ⟨e,f0,f1,f2,d⟩
theorem Inv.kW {pins pl:List (Addr×Obj)}{σ:St}{H:Hp}{s:Shared}(I:Inv X (pins++pl) σ H s):Inv X pins σ H s:=I.wL fun p hp=>I.pin p (List.mem_append_right _ (List.mem_append_left _ hp))
theorem Lz {iter:Expr}{body:List Stmt}{wi:TI}{g:TG}{tb:TS}{pos:Pos}(hp:PassesOwn (model X.prog X.w) X.A X.env X.xe) (hc:X.calm=true) (hi:PI X tg iter wi) (hg:PG X tg g) (hb:iA X body tb)
  (hs:∀ x,foldedSetIterable iter X.env x=pure x:=by intro _;rfl):PS X (.For tg iter body [] pos) (XM wi g tb):=by
 intro pins s σ H D I h
 refine wpAny_For (bE (hi pins s σ H _ I h) fun v s1 h1=>bE h1 fun itv s2 h2=>?_) hs
 obtain ⟨it,fp,tn,J,H2,e,I2,T,st2,f2,W,⟨m0,w0⟩,turn⟩:=h2
 subst e
 have kX:∀ {H':Hp},(∀ b∈fp,H' b=none)→∀ b∈fp,gx X pins H' b:=fun hn b hb=>⟨hn b hb,(f2 b hb).2⟩
 refine codeAny_forLoop_any (fun n s'=>∃ i σ' H',Inv X pins σ' H' s'∧tn i s'.heap∧(∀ b∈fp,H' b=none)∧W i n σ' H') ?_ m0 ⟨0,σ,H2,I2,st2,fun b hb=>(f2 b hb).1,w0⟩
 rintro n s3 ⟨i,σ3,H3,I3,st3,bZ,w3⟩
 rcases turn i n σ3 H3 w3 with ⟨stop,qn⟩ | ⟨go,N,hN,step⟩
 ·refine wpAny_passesOwn hp (bE (T.done X rfl rfl rfl hc i pins s3 σ3 H3 X.xe I3 (kX bZ) st3 stop) fun r s4 ⟨hr,I4⟩=>?_)
  subst hr
  exact wpAny_execs_nil ⟨σ3,H3,I4,qn⟩
 ·refine wpAny_passesOwn hp (bE (T.item X rfl rfl rfl hc i pins s3 σ3 H3 X.xe I3 (kX bZ) st3 go) fun r s4 ⟨u,hr,h4⟩=>?_)
  subst hr
  refine wpAny_passesOwn hp (bE h4 fun _ s5 ⟨x,H5,I5,r5,y5,wO,rF⟩=>?_)
  have I5':=I5.pinned (kX rF) (T.obj _ _ wO)
  refine wpAny_passesOwn hp (bE (hg _ s5 σ3 H5 x u _ I5' r5 (step x H5 y5)) fun _ s6 ⟨σ6,H6,I6,q6⟩=>?_)
  refine wpAny_passesOwn hp (bE (hb _ s6 σ6 H6 _ I6 q6) fun f s7 q7=>?_)
  have again:∀ {mD:St} {H7:Hp},Inv X (pins++mC fp s5.heap) mD H7 s7→N mD H7→∃ m,m<n∧∃ i σ' H',Inv X pins σ' H' s7∧tn i s7.heap∧(∀ b∈fp,H' b=none)∧W i m σ' H':=fun {mD H7} I7 n7=>by
   obtain ⟨m',hm,w7⟩:=hN mD H7 n7
   refine ⟨m',hm,i+1,mD,H7,I7.kW,T.keep _ _ _ wO fun b hb o e=>(I7.pin (b,o) (List.mem_append_right _ (List.mem_append_right _ (je hb e)))).1,fun b hb=>?_,w7⟩
   obtain ⟨o,e,d⟩:=T.obj _ _ wO b hb
   exact (I7.pin (b,o) (List.mem_append_right _ (List.mem_append_right _ (je hb e)))).2.1
  cases f with
  | next=>obtain ⟨mD,H7,I7,n7⟩:=q7;exact again I7 n7
  | cont=>obtain ⟨mD,H7,I7,n7⟩:=q7;exact again I7 n7
  | brk=>obtain ⟨mD,H7,I7,q7⟩:=q7;exact ⟨mD,H7,I7.kW,q7⟩
  | ret v=>obtain ⟨x7,mD,H7,I7,r7,q7⟩:=q7;exact ⟨x7,mD,H7,I7.kW,r7,q7⟩
end
end L2
namespace L2
open PySem PySem.Spec PyProof.Rows
abbrev R2:=V→V→Hp→VK→Prop
noncomputable def d7 (X:Cx) (f:Value→Value→Sem Value) (r:R2):Prop:=
 ∀ (pins:List (Addr×Obj)) (s:Shared) (σ:St) (H:Hp) (x y:V) (v u:Value) (Q:VK),Inv X pins σ H s→RelV x v→RelV y u→r x y H Q→
  wpAny (model X.prog X.w) X.A (f v u) (EP X pins σ Q) X.xe s
noncomputable def LA (X:Cx) (f:Value→Sem Value) (r:V→Hp→VK→Prop):Prop:=
 ∀ (pins:List (Addr×Obj)) (s:Shared) (σ:St) (H:Hp) (x:V) (v:Value) (Q:VK),Inv X pins σ H s→RelV x v→r x H Q→
  wpAny (model X.prog X.w) X.A (f v) (EP X pins σ Q) X.xe s
noncomputable def gK (X:Cx) (f:Value) (r:List V→Hp→VK→Prop):Prop:=
 ∀ (pins:List (Addr×Obj)) (s:Shared) (σ:St) (H:Hp) (xs:List V) (us:List Value) (Q:VK),Inv X pins σ H s→Vals xs us→r xs H Q→
  wpAny (model X.prog X.w) X.A (call f us) (EP X pins σ Q) X.xe s
noncomputable def XN (X:Cx) (r:V→Hp→(Bool→Hp→Prop)→Prop):Prop:=
 ∀ (pins:List (Addr×Obj)) (s:Shared) (σ:St) (H:Hp) (x:V) (v:Value) (Q:Bool→Hp→Prop),Inv X pins σ H s→RelV x v→r x H Q→
  wpAny (model X.prog X.w) X.A (truthy v) (TP X pins σ Q) X.xe s
noncomputable def Ar (r:R2) (ta tb:TE):TE:=fun σ H Q=>ta σ H fun x H1=>tb σ H1 fun y H2=>r x y H2 Q
noncomputable def tUn (r:V→Hp→VK→Prop) (ta:TE):TE:=fun σ H Q=>ta σ H fun x H1=>r x H1 Q
noncomputable def rI (C:Int→Int→Prop) (g:Int→Int→V):R2:=fun x y H Q=>∃ i j,x=.int i∧y=.int j∧C i j∧Q (g i j) H
noncomputable def t7 (g:Int→Int→V):R2:=fun x y H Q=>∃ i j,x=.int i∧y=.int j∧Q (g i j) H
noncomputable def rU (g:Int→V):V→Hp→VK→Prop:=fun x H Q=>∃ i,x=.int i∧Q (g i) H
section
variable {X:Cx}{a b c:Expr}{ta tb tc:TE}{pos:Pos}
theorem CO (ha:PE X a ta) (hb:PE X b tb) {pins:List (Addr×Obj)}{s:Shared}{σ:St}{H:Hp}{R:V→V→Hp→Prop}(I:Inv X pins σ H s)
  (h:ta σ H fun x H1=>tb σ H1 fun y H2=>R x y H2) {Q:Value→Shared→Prop} {f:Value→Value→Sem Value}
  (hf:∀ v u s2 x y H2,Inv X pins σ H2 s2→RelV x v→RelV y u→R x y H2→wpAny (model X.prog X.w) X.A (f v u) Q X.xe s2) :
  wpAny (model X.prog X.w) X.A (eval a X.env) (fun v s₁=>wpAny (model X.prog X.w) X.A (eval b X.env) (fun u s₂=>wpAny (model X.prog X.w) X.A (f v u) Q X.xe s₂) X.xe s₁) X.xe s:=by
 refine bE (ha pins s σ H _ I h) fun v s1 ⟨x,H1,I1,r1,q1⟩=>?_
 refine bE (hb pins s1 σ H1 _ I1 q1) fun u s2 ⟨y,H2,I2,r2,q2⟩=>?_
 exact hf v u s2 x y H2 I2 r1 r2 q2
theorem Sf {op:Operator}{r:R2}(ho:d7 X (binaryOp op) r) (ha:PE X a ta) (hb:PE X b tb):PE X (.BinOp a op b pos) (Ar r ta tb):=by
 intro pins s σ H Q I h
 exact wpAny_BinOp (CO ha hb I h fun v u s2 x y H2 I2 rx ry q=>ho pins s2 σ H2 x y v u Q I2 rx ry q)
theorem Sg {op:UnaryOp}{r:V→Hp→VK→Prop}(ho:LA X (unaryOp op) r) (ha:PE X a ta):PE X (.UnaryOp op a pos) (tUn r ta):=by
 intro pins s σ H Q I h
 exact UnaryOp_ (bE (ha pins s σ H _ I h) fun v s1 ⟨x,H1,I1,r1,q1⟩=>ho pins s1 σ H1 x v Q I1 r1 q1)
theorem LB {f:Value→Value→Sem Value}{C:Int→Int→Prop}{g:Int→Int→Int}
  (rule:∀ (i j:Int) (t u:Tok) (s:Shared) (Q:Value→Shared→Prop) (E:Value→Shared→Prop),C i j→Q (.int (g i j) s.toks) { s with toks:=s.toks+1 }→wpAny (model X.prog X.w) X.A (f (.int i t) (.int j u)) Q E s) :
  d7 X f (rI C fun i j=>.int (g i j)):=by
 intro pins s σ H x y v u Q I rx ry h
 obtain ⟨i,j,rfl,rfl,hc,q⟩:=h
 obtain ⟨t,rfl⟩:=rx
 obtain ⟨t',rfl⟩:=ry
 exact rule i j t t' s _ _ hc ⟨.int (g i j),H,I.tok _,⟨_,rfl⟩,q⟩
theorem LC {f:Value→Value→Sem Value}{g:Int→Int→Int}
  (rule:∀ (i j:Int) (t u:Tok) (s:Shared) (Q:Value→Shared→Prop) (E:Value→Shared→Prop),Q (.int (g i j) s.toks) { s with toks:=s.toks+1 }→wpAny (model X.prog X.w) X.A (f (.int i t) (.int j u)) Q E s) :
  d7 X f (t7 fun i j=>.int (g i j)):=by
 intro pins s σ H x y v u Q I rx ry h
 obtain ⟨i,j,rfl,rfl,q⟩:=h
 obtain ⟨t,rfl⟩:=rx
 obtain ⟨t',rfl⟩:=ry
 exact rule i j t t' s _ _ ⟨.int (g i j),H,I.tok _,⟨_,rfl⟩,q⟩
theorem LD {f:Value→Value→Sem Value}{g:Int→Int→Bool}
  (rule:∀ (i j:Int) (t u:Tok) (s:Shared) (Q:Value→Shared→Prop) (E:Value→Shared→Prop),Q (.bool (g i j)) s→wpAny (model X.prog X.w) X.A (f (.int i t) (.int j u)) Q E s) :
  d7 X f (t7 fun i j=>.bl (g i j)):=by
 intro pins s σ H x y v u Q I rx ry h
 obtain ⟨i,j,rfl,rfl,q⟩:=h
 obtain ⟨t,rfl⟩:=rx
 obtain ⟨t',rfl⟩:=ry
 exact rule i j t t' s _ _ ⟨.bl (g i j),H,I,rfl,q⟩
noncomputable def XO (i j:Int):Prop:=0<j∧j<1073741824
noncomputable def CP (i j:Int):Prop:=(-(2 ^ 64)<i∧i<2 ^ 64)∨(-(2 ^ 64)<j∧j<2 ^ 64)
theorem CP.ok {i j:Int}(h:CP i j):IntMulOk i j:=by
 rcases h with ⟨h1,h2⟩ | ⟨h1,h2⟩
 ·exact .of_left (intBits_le_64 h1 h2)
 ·exact .of_right (intBits_le_64 h1 h2)
theorem LF:d7 X (binaryOp .Add) (t7 fun i j=>.int (i+j)):=LC fun _ _ _ _ _ _ _ q=>add_int q
theorem LG:d7 X (binaryOp .Sub) (t7 fun i j=>.int (i - j)):=LC fun _ _ _ _ _ _ _ q=>sub_int q
theorem LH:d7 X (binaryOp .Mult) (rI CP fun i j=>.int (i*j)):=LB fun _ _ _ _ _ _ _ hc q=>mul_int q hc.ok
theorem IS:d7 X (binaryOp .FloorDiv) (rI XO fun i j=>.int (i / j)):=LB fun i j _ _ _ _ _ hc q=>by
 have h1:(0:Int)<j:=hc.1
 have h2:j<1073741824:=hc.2
 exact floordiv_int (by omega) (by rw [Int.fdiv_eq_ediv_of_nonneg i (by omega)];exact q) (.inl (PyProof.noPylong_small (by omega)))
theorem LI:d7 X (binaryOp .Mod) (rI (fun _ j=>0<j) fun i j=>.int (i % j)):=LB fun i j _ _ _ _ _ hc q=>by
 have h1:(0:Int)<j:=hc
 exact mod_int' (by omega) (by rw [Int.fmod_eq_emod_of_nonneg i (by omega)];exact q)
theorem unI {f:Value→Sem Value}{g:Int→Int}
  (rule:∀ (i:Int) (t:Tok) (s:Shared) (Q:Value→Shared→Prop) (E:Value→Shared→Prop),Q (.int (g i) s.toks) { s with toks:=s.toks+1 }→wpAny (model X.prog X.w) X.A (f (.int i t)) Q E s) :
  LA X f (rU fun i=>.int (g i)):=by
 intro pins s σ H x v Q I rx h
 obtain ⟨i,rfl,q⟩:=h
 obtain ⟨t,rfl⟩:=rx
 exact rule i t s _ _ ⟨.int (g i),H,I.tok _,⟨_,rfl⟩,q⟩
theorem LJ:LA X (unaryOp .USub) (rU fun i=>.int (-i)):=unI fun _ _ _ _ _ q=>neg_int q
end
section
variable {X:Cx}{a b c:Expr}{ta tb tc:TE}{pos:Pos}
theorem Sh:d7 X (compareOp .Lt) (t7 fun i j=>.bl (decide (i<j))):=LD fun _ _ _ _ _ _ _ q=>lt_int q
theorem Si:d7 X (compareOp .Gt) (t7 fun i j=>.bl (decide (j<i))):=LD fun _ _ _ _ _ _ _ q=>gt_int q
theorem kq (b:Expr) {op:CmpOp}(h:op≠.In:=by decide) (h2:op≠.NotIn:=by decide):behindInMarks op b=false:=by
 have e1:(op==CmpOp.In)=false:=by cases op <;> first | rfl | exact absurd rfl h
 have e2:(op==CmpOp.NotIn)=false:=by cases op <;> first | rfl | exact absurd rfl h2
 cases b <;> simp [behindInMarks,e1,e2]
theorem IT {op:CmpOp}{r:R2}(ho:d7 X (compareOp op) r) (ha:PE X a ta) (hb:PE X b tb) (hm:behindInMarks op b=false):PE X (.Compare a [op] [b] pos) (Ar r ta tb):=by
 intro pins s σ H Q I h
 exact wpAny_Compare1 (CO ha hb I h fun v u s2 x y H2 I2 rx ry q=>ho pins s2 σ H2 x y v u Q I2 rx ry q) hm
noncomputable def Sj (t:TE):TT:=fun σ H Q=>t σ H fun x H'=>∃ k,x=.bl k∧Q k H'
theorem IU {op:CmpOp}{r:R2}(ho:d7 X (compareOp op) r) (ha:PE X a ta) (hb:PE X b tb) (hm:behindInMarks op b=false):PT X (.Compare a [op] [b] pos) (Sj (Ar r ta tb)):=by
 intro pins s σ H Q I h
 refine wpAny_isTrue_Compare1 (bE (ha pins s σ H _ I h) fun v s1 ⟨x,H1,I1,r1,q1⟩=>bE (hb pins s1 σ H1 _ I1 q1) fun u s2 ⟨y,H2,I2,r2,q2⟩=>
  bE (ho pins s2 σ H2 x y v u _ I2 r1 r2 q2) fun c s3 ⟨z,H3,I3,r3,k,e,q3⟩=>?_) hm
 subst e
 cases r3
 exact wpAny_truthy_bool ⟨H3,I3,q3⟩
noncomputable def CQ (K:PySem.W.Frag) (x:V) (H:Hp) (k:Bool):Prop:=
 match x with
 | .bf=>k=false
 | .bl b=>k=b
 | .int i=>k=(i != 0)
 | .str y=>y.length≤sizeLine∧k=((y.length:Int) != 0)
 | .z9 y=>y.size≤sizeLine∧k=((y.size:Int) != 0)
 | .ref p=>(∃ xs,eO K H p xs∧k = !xs.isEmpty)∨(∃ xs,dI K H p xs∧k = !xs.isEmpty)∨∃ kvs,H p=some (.dK kvs)∧k = !kvs.isEmpty
 | _=>False
theorem yu {κ:Type}{kvs:List (κ×V)}{vs:List (κ×Value)}(r:KV kvs vs):(!vs.isEmpty) = !kvs.isEmpty:=by
 cases r <;> rfl
theorem pH {xs:List V}{its:List Value}(r:Vals xs its):(!its.toArray.isEmpty) = !xs.isEmpty:=by
 cases r <;> simp
theorem kr:(sizeLine:Nat)<2 ^ 63:=by rw [sizeLine_eq];decide
theorem LK:XN X (fun x H Q=>∃ k,CQ X.K x H k∧Q k H):=by
 intro pins s σ H x v Q I rx h
 obtain ⟨k,e,q⟩:=h
 have hl:=kr
 have hs:sizeLine=16777216:=sizeLine_eq
 cases x with
 | bf=>
  cases rx
  have e':k=false:=e
  subst e'
  exact truthy_none ⟨H,I,q⟩
 | bl b=>
  cases rx
  have e':k=b:=e
  subst e'
  exact wpAny_truthy_bool ⟨H,I,q⟩
 | int i=>
  obtain ⟨t,rfl⟩:=rx
  have e':k=(i != 0):=e
  subst e'
  exact PySem.P.truthy_int ⟨H,I,q⟩
 | str y=>
  obtain ⟨t,rfl⟩:=rx
  obtain ⟨hy,e'⟩:y.length≤sizeLine∧k=((y.length:Int) != 0):=e
  subst e'
  exact PySem.P.truthy_str (by omega) ⟨H,I.tok _,q⟩
 | z9 y=>
  obtain ⟨t,rfl⟩:=rx
  obtain ⟨hy,e'⟩:y.size≤sizeLine∧k=((y.size:Int) != 0):=e
  subst e'
  exact PySem.W.truthy_bytes (by omega) ⟨H,I.tok _,q⟩
 | ref p=>
  cases rx
  have e':(∃ xs,eO X.K H p xs∧k = !xs.isEmpty)∨(∃ xs,dI X.K H p xs∧k = !xs.isEmpty)∨∃ kvs,H p=some (.dK kvs)∧k = !kvs.isEmpty:=e
  rcases e' with ⟨xs,hx,e'⟩ | ⟨xs,hx,e'⟩ | ⟨kvs,hx,e'⟩
  ·subst e'
   obtain ⟨its,r,pl,hz⟩:=I.list hx
   have hlen:=r.length
   exact wpAny_truthy_list pl.isList (by simp only [List.size_toArray];omega) ⟨H,I.tok _,by rw [pH r];exact q⟩
  ·subst e'
   obtain ⟨its,r,pl,hz⟩:=I.tuple hx
   have hlen:=r.length
   exact truthy_tuple pl (by simp only [List.size_toArray];omega) ⟨H,I.tok _,by rw [pH r];exact q⟩
  ·subst e'
   obtain ⟨hz,hS,vs,r,m⟩:kvs.length≤sizeLine∧(p==sysModules)=false∧∃ vs,KV kvs vs∧s.heap.DictOf (cI X.prog X.w) p vs:=I.hok p _ hx
   have hlen:kvs.length=vs.length:=Paired.length r
   exact wpAny_truthy_dict hS m (by omega) ⟨H,I.tok _,by rw [yu r];exact q⟩
 | _=>exact (show False from e).elim
theorem CS (ha:PE X a ta) (he:∀ whole,isTrue a X.env whole=(do let v ←whole;standAt a.pos;holding [v] (truthy v))) :
  PT X a (fun σ H Q=>ta σ H fun x H'=>∃ k,CQ X.K x H' k∧Q k H'):=by
 intro pins s σ H Q I h
 exact isTrue_plain (bE (ha pins s σ H _ I h) fun v s1 ⟨x,H1,I1,r1,q1⟩=>LK pins s1 σ H1 x v Q I1 r1 q1) (he _)
theorem yv:d7 X (binaryOp .Add) (fun x y H Q=>∃ i j,x=.str i∧y=.str j∧i.length+j.length≤sizeLine∧Q (.str (i++j)) H):=by
 intro pins s σ H x y v u Q I rx ry h
 obtain ⟨i,j,rfl,rfl,hz,q⟩:=h
 obtain ⟨t,rfl⟩:=rx
 obtain ⟨t',rfl⟩:=ry
 exact add_str (fun t' tk=>⟨.str (i++j),H,I.tok _,⟨_,rfl⟩,q⟩) hz
theorem vals1 {x:V}{us:List Value}(r:Vals [x] us):∃ u,us=[u]∧RelV x u:=by
 cases r with
 | cons r1 r2=>cases r2;exact ⟨_,rfl,r1⟩
theorem vals2 {x y:V}{us:List Value}(r:Vals [x,y] us):∃ u w',us=[u,w']∧RelV x u∧RelV y w':=by
 cases r with
 | cons r1 r2=>
  cases r2 with
  | cons r3 r4=>cases r4;exact ⟨_,_,rfl,r1,r3⟩
theorem As (hc:X.calm=true):gK X (.builtin "min") (fun xs H Q=>∃ i j,xs=[.int i,.int j]∧Q (.int (if j<i then j else i)) H):=by
 intro pins s σ H xs us Q I r h
 obtain ⟨i,j,rfl,q⟩:=h
 obtain ⟨u,w',rfl,⟨t,rfl⟩,⟨t',rfl⟩⟩:=vals2 r
 refine min_two_ints (I.ok.hd hc) fun h' tk k=>⟨_,H,I.kept k,?_,q⟩
 by_cases hj:j<i
 ·rw [if_pos hj,if_pos hj];exact ⟨_,rfl⟩
 ·rw [if_neg hj,if_neg hj];exact ⟨_,rfl⟩
end
end L2
namespace L2
open PySem PySem.Spec PyProof.Rows
structure aai (h:Heap) (x dx C:Addr) (mA:Str→Option Value):Prop where
 obj:h.get? x=some (PySem.W.instObj C dx)
 ns:h.Ns1 dx mA
 ne:dx≠x
section
variable {prog:Program}{w:World}{A:Around}{E:Value→Shared→Prop}{s:Shared}{K:PySem.W.Frag}{x dx C f:Addr}{mA:Str→Option Value}{name:Str}{v:Value}
end
theorem iW.some_of {v:V}{o:Option Value}(r:iW (some v) o):∃ u,o=some u∧RelV v u:=by
 cases o with
 | none=>exact (show False from r).elim
 | some u=>exact ⟨u,rfl,r⟩
section
variable {P:Program}{w:World}{H H':Hp}{h h':Heap}{a C dx:Addr}{fs fs':List (Str×V)}
end
structure Cls (K:PySem.W.Frag) (C:Addr):Prop where
 pg:PySem.W.plainGet K C Str.empty=true
 hd:PySem.W.hasDictIn K C=true
 po:PySem.W.plainOver K C=true
 sa:PySem.W.findIn K (.ref C) "__setattr__" = some (some (.builtin "object.__setattr__"))
structure Con (K:PySem.W.Frag) (C:Addr) (f:Str) (v:V) (u:Value):Prop where
 at_:PySem.W.findIn K (.ref C) f=some (some u)
 rel:RelV v u
 get:PySem.W.specialIn K u "__get__" = some none
 cp:PySem.W.copiedNames.contains f=false
structure Meth (K:PySem.W.Frag) (C:Addr) (m:Str) (f:Addr):Prop where
 at_:PySem.W.findIn K (.ref C) m=some (some (.ref f))
 fn:PySem.W.isFn K (.ref f)=true
 kp:PySem.W.keepIn K (.ref f)=true
section
variable {X:Cx}{pins:List (Addr×Obj)}{σ:St}{H:Hp}{s:Shared}{a C dx:Addr}{fs:List (Str×V)}{f:Str}{v:V}{A:Around}{E:Value→Shared→Prop}
end
section
variable {X:Cx}{o e value:Expr}{f:Str}{pos pos' tpos:Pos}{ta tv:TE}
end
section
variable {X:Cx}{pins:List (Addr×Obj)}{σ:St}{H:Hp}{s:Shared}{A:Around}{E:Value→Shared→Prop}{Q:Value→Shared→Prop}{c:Value}{b:Bool}
inductive jz (K:PySem.W.Frag) (H:Hp):V→Value→Prop where
 | bf:jz K H .bf (.type "NoneType")
 | bl (x:Bool):jz K H (.bl x) (.type "bool")
 | int (i:Int):jz K H (.int i) (.type "int")
 | str (x:Str):jz K H (.str x) (.type "str")
 | Aa (x:UInt64):jz K H (.Aa x) (.type "float")
 | lst {a:Addr} {xs:List V} (e:H a=some (.lst xs)):jz K H (.ref a) (.type "list")
 | bS {a:Addr} {o:Obj} {xs:List V} (e:H a=some (.bS o (.lst xs))):jz K H (.ref a) (.type "list")
 | tup {a:Addr} {xs:List V} (e:H a=some (.tup xs)):jz K H (.ref a) (.type "tuple")
 | dK {a:Addr} {kvs:List (Key×V)} (e:H a=some (.dK kvs)):jz K H (.ref a) (.type "dict")
 | dT {a:Addr} {kvs:List (List Key×V)} (e:H a=some (.dT kvs)):jz K H (.ref a) (.type "dict")
 | ins {a C dx:Addr} {fs:List (Str×V)} (e:H a=some (.ins C dx fs)) (cl:Cls K C) (ha:PySem.W.findIn K (.ref C) "__class__" = some (some (.builtin "object.__class__")))
   (hn:PySem.W.specialIn K (.builtin "object.__class__") "__get__" = some (some (.builtin "getset_descriptor.__get__"))) (htk:PySem.W.takesIn K (.builtin "object.__class__")=some true)
   (hm:PySem.W.mroIn K C (.type "object")=some true):jz K H (.ref a) (.ref C)
end
end L2
namespace L2
open PySem PySem.Spec PyProof.Rows
structure fX (k:Nat) (A:Around):Prop where
 hd:A.handled=none
 dp:A.depth+3*k+5<recursionLimit
 un:A.units+16*k+200<cLine
theorem fX.deeper {k:Nat}{A:Around}(r:fX (k+1) A) (env:Env):fX k (A.deeper env):=
 ⟨r.hd,by have:=r.dp;show A.depth+1+3*k+5<_;omega,by have:=r.un;show A.units+3+16*k+200<_;omega⟩
theorem fX.depth {k:Nat}{A:Around}(r:fX k A):A.depth<recursionLimit:=by have:=r.dp;omega
theorem fX.units {k:Nat}{A:Around}(r:fX k A):A.units+64<cLine:=by have:=r.un;omega
noncomputable def XQ:TA:=fun _ H Q=>Q [] H
noncomputable def Sk (ta:TE) (tr:TA):TA:=fun σ H Q=>ta σ H fun x H1=>tr σ H1 fun xs H2=>Q (x :: xs) H2
section
variable {X:Cx}{e:Expr}{es:List Expr}{te:TE}{t:TA}{pos:Pos}
theorem pI:PA X [] XQ:=fun _ _ _ _ H Q I h=>Calls.spliced_nil ⟨[],H,I,.nil,h⟩
theorem nG (ha:PE X e te) (hr:PA X es t) (hs:starEach (e :: es) X.env=(false,eval e X.env) :: starEach es X.env:=by rfl):PA X (e :: es) (Sk te t):=by
 intro pos pins s σ H Q I h
 rw [hs]
 show wpAny _ _ (spliced ((false,eval e X.env) :: backTo pos (starEach es X.env))) _ _ s
 refine Calls.spliced_cons (bE (ha pins s σ H _ I h) fun u s1 ⟨x,H1,I1,r1,q1⟩=>?_)
 exact bE (hr pos pins s1 σ H1 _ I1 q1) fun us s2 ⟨xs,H2,I2,r2,q2⟩=>⟨x :: xs,H2,I2,.cons r1 r2,q2⟩
noncomputable def XR (t:TA):TE:=fun σ H Q=>t σ H fun xs H1=>xs.length≤sizeLine∧∀ p,H1 p=none→Q (.ref p) (upd H1 p (.tup xs))
noncomputable def XS (t:TA):TE:=fun σ H Q=>t σ H fun xs H1=>xs.length≤sizeLine∧∀ p,H1 p=none→Q (.ref p) (upd H1 p (.lst xs))
theorem LL {x1}(h:PA X es t):PE X (.Tuple es x1 pos) (XR t):=by
 intro pins s σ H Q I hq
 refine wpAny_Tuple_spliced (bE (h pos pins s σ H _ I hq) fun us s1 ⟨xs,H1,I1,r,z,q⟩=>⟨by rw [←r.length];exact z,?_⟩)
 have hf:H1 s1.heap.objs.size=none:=I1.hok.fresh (Nat.le_refl _)
 refine ⟨.ref s1.heap.objs.size,upd H1 s1.heap.objs.size (.tup xs),I1.laid (t':=s1.toks) (fun b u e=>Heap.get?_push_of_some _ e) (Nat.le_refl _) ?_,rfl,q _ hf⟩
 exact ⟨z,us,r,⟨_,Heap.get?_push_size _ rfl,rfl,_,rfl⟩⟩
theorem LM (h:PA X es t):PE X (.List es pos) (XS t):=by
 intro pins s σ H Q I hq
 refine wpAny_List_spliced (bE (h pos pins s σ H _ I hq) fun us s1 ⟨xs,H1,I1,r,z,q⟩=>⟨by rw [←r.length];exact z,?_⟩)
 have hf:H1 s1.heap.objs.size=none:=I1.hok.fresh (Nat.le_refl _)
 refine ⟨.ref s1.heap.objs.size,upd H1 s1.heap.objs.size (.lst xs),I1.laid (t':=s1.toks) (fun b u e=>Heap.get?_push_of_some _ e) (Nat.le_refl _) ?_,rfl,q _ hf⟩
 exact ⟨z,us,0,r,Heap.get?_push_size _ rfl⟩
end
abbrev Sp:=List V→Hp→VK→XK→Prop
abbrev lX:=List Env→Hp→Shared→XK→Value→Shared→Prop
structure yw (P:Program) (w:World) (K:PySem.W.Frag) (mg:Str→Option Value) (base:Heap) (A:Around) (outer:List Env) (s:Shared) (H:Hp):Prop where
 frames:A.frames=some outer
 mod:Mod K mg base
 bs:∀ b o,base.get? b=some o→s.heap.get? b=some o∧H b=none
 rB:base.objs.size≤s.heap.objs.size
 iX:s.heap.FunFrames base outer
 tT:∀ b∈frs outer,H b=none
 hok:eL P w H s.heap
 bare:AllBare s.gens
noncomputable def CE (outer:List Env) (P:Program) (w:World) (H:Hp) (s:Shared) (Q:VK) (u:Value) (s':Shared):Prop:=
 ∃ v H',s'.os=s.os∧AllBare s'.gens∧Un (frs outer) [] H H' s.heap s'.heap∧eL P w H' s'.heap∧RelV v u∧Q v H'
noncomputable def CR (CX:lX) (outer:List Env) (P:Program) (w:World) (H:Hp) (s:Shared) (Q:VK) (E:XK) (r:Result) (s':Shared):Prop:=
 match r with
 | .ok (.ret u)=>CE outer P w H s Q u s'
 | .ok _=>False
 | .error e=>CX outer H s E e s'
structure iC (P:Program) (w:World) (K:PySem.W.Frag) (mg:Str→Option Value) (base:Heap) (CX:lX) (k:Nat) (f:Addr) (fd:FuncData) (ps:List Str) (sp:Sp):Prop where
 len:∀ vs H Q E,sp vs H Q E→vs.length=ps.length
 run:∀ (A:Around) (outer:List Env) (s:Shared) (H:Hp) (args:Args) (us:List Value) (vs:List V) (Q:VK) (E:XK),fX k A→yw P w K mg base A outer s H→BindsTo s fd args (ps.zip us)→Vals vs us→sp vs H Q E→
  codeAny (model P w) A (.call (.ref f) args) (CR CX outer P w H s Q E) s
section
variable {X:Cx}{pins:List (Addr×Obj)}{σ:St}{H:Hp}{s s':Shared}
theorem Inv.XT (I:Inv X pins σ H s):yw X.prog X.w X.K X.mg X.base X.A X.stack s H:=
 ⟨I.ok.frames,I.ok.mod,I.bs,Nat.le_trans I.ok.rB I.sz,I.stack,I.wK,I.hok,I.bare⟩
theorem Inv.after {Q:VK}{u:Value}(I:Inv X pins σ H s) (h:CE X.stack X.prog X.w H s Q u s'):EP X pins σ Q u s':=by
 obtain ⟨v,H',os,bare,un,hok,r,q⟩:=h
 obtain ⟨hh,g,d,t,os'⟩:=s'
 obtain rfl:os'=s.os:=os
 exact ⟨v,H',I.call (h':=hh) (g':=g) (d':=d) (t':=t) (ch:=[]) un hok bare (fun b z=>absurd z (by simp)),r,q⟩
end
noncomputable def Sn (sp:Sp) (jA:List V) (E:XK) (t:TA):TE:=fun σ H Q=>t σ H fun vs H1=>sp (vs++jA) H1 Q E
noncomputable def Binds (K:PySem.W.Frag) (fd:FuncData) (ps:List Str) (ds:List Value):Prop:=
 ∀ (s:Shared) (us:List Value),K.In s.heap→(us++ds).length=ps.length→BindsTo s fd ⟨us,[]⟩ (ps.zip (us++ds))
theorem Binds.all {K:PySem.W.Frag}{fd:FuncData}{ps:List Str}(h:∀ us:List Value,us.length=ps.length→bindArgs fd ⟨us,[]⟩=pure (ps.zip us)):Binds K fd ps []:=fun s us _ hl=>by
 rw [List.append_nil] at hl ⊢
 exact .of_eq (h us hl)
noncomputable def Passes (CX:lX) (X:Cx) (E:XK):Prop:=∀ (pins:List (Addr×Obj)) (σ:St) (H:Hp) (s:Shared) (e:Value) (s':Shared),Inv X pins σ H s→CX X.stack H s E e s'→X.xe e s'
section
variable {X:Cx}{CX:lX}{k:Nat}{f C:Addr}{fd:FuncData}{ps:List Str}{sp:Sp}{jA:List V}{ds:List Value}{E:XK}{x m:Str}{p pos apos:Pos}{e o:Expr}{es:List Expr}{ta:TE}{t:TA}
theorem LN {pins:List (Addr×Obj)}{σ:St}{H:Hp}{s:Shared}{Q:VK}{us:List Value}{vs:List V}(F:iC X.prog X.w X.K X.mg X.base CX k f fd ps sp) (hr:fX k X.A) (hb:Binds X.K fd ps ds) (hd:Vals jA ds) (hx:Passes CX X E)
  (I:Inv X pins σ H s) (r:Vals vs us) (h:sp (vs++jA) H Q E):wpAny (model X.prog X.w) X.A (call (.ref f) us) (EP X pins σ Q) X.xe s:=by
 have r2:Vals (vs++jA) (us++ds):=r.append hd
 have hl:(us++ds).length=ps.length:=by rw [←r2.length];exact F.len _ _ _ _ h
 refine wpAny_call (codeAny_mono (F.run X.A X.stack s H ⟨us,[]⟩ (us++ds) (vs++jA) Q E hr I.XT (hb s us I.tU hl) r2 h) fun r s' hq=>?_)
 cases r with
 | error e=>exact hx pins σ H s e s' I hq
 | ok fl=>
  cases fl with
  | ret u=>exact I.after hq
  | next=>exact False.elim hq
  | brk=>exact False.elim hq
  | cont=>exact False.elim hq
theorem IV (F:iC X.prog X.w X.K X.mg X.base CX k f fd ps sp) (hr:fX k X.A) (hg:Gl X x) (hm:X.mg x=some (.ref f)) (hk:PySem.W.keepIn X.K (.ref f)=true) (hb:Binds X.K fd ps ds) (hd:Vals jA ds) (hx:Passes CX X E)
  (ha:PA X (e :: es) t) (hdb:(x==("__debug__" : Str))=false:=by decide) (he:starEach (e :: es) X.env=(false,eval e X.env) :: starEach es X.env:=by rfl) (hpl:(backTo pos (starEach es X.env)).any (·.1)=false:=by rfl) :
  PE X (.Call (.Name x p) (e :: es) [] pos) (Sn sp jA E t):=by
 intro pins s σ H Q I h
 refine wpAny_Call_Name_kw (IK I hg hm ?_ hdb)
 refine PySem.W.callWith_K (h₀:=X.base) I.ok.mod.FE hk (bE (ha pos pins s σ H _ I h) fun us s1 ⟨vs,H1,I1,r,q⟩=>⟨I1.tU,?_⟩) he hpl
 exact LN F hr hb hd hx I1 r q
structure Mk (K:PySem.W.Frag) (C f:Addr):Prop where
 makes:PySem.W.makesIn K C=true
 init:PySem.W.findIn K (.ref C) "__init__" = some (some (.ref f))
 fn:PySem.W.isFn K (.ref f)=true
 kp:PySem.W.keepIn K (.ref C)=true
end
section
variable {X:Cx}{CX:lX}{k:Nat}{f C:Addr}{fd:FuncData}{ps ks:List Str}{sp:Sp}{E:XK}{x m:Str}{p pos apos kpos:Pos}{e o:Expr}{es:List Expr}{kws:List Keyword}{te ta:TE}{t tk:TA}{nm:Option Str}
structure aab (K:PySem.W.Frag) (fd:FuncData) (ps ks:List Str) (g:List Value→List Value→List Value) (gV:List V→List V→List V):Prop where
 to:∀ (s:Shared) (us ws:List Value),K.In s.heap→(g us ws).length=ps.length→BindsTo s fd ⟨us,ks.zip ws⟩ (ps.zip (g us ws))
 rel:∀ {vs:List V} {us:List Value} {zs:List V} {ws:List Value},Vals vs us→Vals zs ws→Vals (gV vs zs) (g us ws)
variable {g:List Value→List Value→List Value}{gV:List V→List V→List V}
end
structure bz (N P:List Str) (sc:Scope):Prop where
 kind:sc.kind=.function
 co:sc.isCoroutine=false
 gen:sc.isGenerator=false
 nd:N.Nodup
 pre:N.take P.length=P
 par:∀ x∈P,sc.names.lookup x=some .local∨sc.names.lookup x=some .cell
 LO:∀ y∈sc.names,y.2≠.free
theorem rG {kindOf:Str→Option NameKind}{x:Str}:∀ {binds:List (Str×Value)}{m:Str→Option Value},(∀ v,(x,v)∉binds)→bindL kindOf binds m x=m x
 | [],_,_=>rfl
 | (n,v) :: r,m,h=>by
  unfold bindL
  rw [rG fun w hw=>h w (List.mem_cons_of_mem _ hw)]
  split
  ·have:x≠n:=by rintro rfl;exact h v List.mem_cons_self
   simp [this]
  ·rfl
theorem rH {kindOf:Str→Option NameKind}{x:Str}:∀ {binds:List (Str×Value)}{m:Str→Option Value},(∀ v,(x,v)∉binds)→bindC kindOf binds m x=m x
 | [],_,_=>rfl
 | (n,v) :: r,m,h=>by
  unfold bindC
  rw [rH fun w hw=>h w (List.mem_cons_of_mem _ hw)]
  split
  ·rfl
  ·have:x≠n:=by rintro rfl;exact h v List.mem_cons_self
   simp [this]
theorem rJ {kindOf:Str→Option NameKind}{x:Str}{v:Value}:∀ {P:List Str}{vs:List Value}{i:Nat}{m:Str→Option Value},P.Nodup→P[i]?=some x→vs[i]?=some v→kindOf x=some .local→
  bindL kindOf (P.zip vs) m x=some v
 | [],_,_,_,_,h,_,_=>by simp at h
 | _ :: _,[],_,_,_,_,h,_=>by simp at h
 | p :: P,w :: vs,0,m,nd,h1,h2,hk=>by
  simp at h1 h2;subst h1;subst h2
  show bindL kindOf ((p,w) :: P.zip vs) m p=_
  unfold bindL
  rw [rG fun v hv=>(List.nodup_cons.mp nd).1 (List.of_mem_zip hv).1,if_pos hk]
  simp
 | p :: P,w :: vs,i+1,m,nd,h1,h2,hk=>by
  show bindL kindOf ((p,w) :: P.zip vs) m x=_
  unfold bindL
  exact rJ (i:=i) (List.nodup_cons.mp nd).2 (by simpa using h1) (by simpa using h2) hk
theorem rK {kindOf:Str→Option NameKind}{x:Str}{v:Value}:∀ {P:List Str}{vs:List Value}{i:Nat}{m:Str→Option Value},P.Nodup→P[i]?=some x→vs[i]?=some v→kindOf x≠some .local→
  bindC kindOf (P.zip vs) m x=some v
 | [],_,_,_,_,h,_,_=>by simp at h
 | _ :: _,[],_,_,_,_,h,_=>by simp at h
 | p :: P,w :: vs,0,m,nd,h1,h2,hk=>by
  simp at h1 h2;subst h1;subst h2
  show bindC kindOf ((p,w) :: P.zip vs) m p=_
  unfold bindC
  rw [rH fun v hv=>(List.nodup_cons.mp nd).1 (List.of_mem_zip hv).1,if_neg hk]
  simp
 | p :: P,w :: vs,i+1,m,nd,h1,h2,hk=>by
  show bindC kindOf ((p,w) :: P.zip vs) m x=_
  unfold bindC
  exact rK (i:=i) (List.nodup_cons.mp nd).2 (by simpa using h1) (by simpa using h2) hk
noncomputable def start (N:List Str) (vs:List V):St:=vs.map some++List.replicate (N.length - vs.length) none
noncomputable def oV (CX:lX) (P:Program) (w:World) (K:PySem.W.Frag) (mg:Str→Option Value) (base:Heap) (N:List Str) (qual:Str) (scope:Scope) (f:Addr) (cd:Value) (A:Around) (outer:List Env) (s:Shared) (H:Hp) (E:XK):Cx where
 prog:=P
 w:=w
 K:=K
 mg:=mg
 base:=base
 A:=A.deeper (envOfC qual scope s.heap.objs.size f cd)
 N:=N
 s₀:=s
 H₀:=H
 env:=envOfC qual scope s.heap.objs.size f cd
 outer:=outer
 stack:=envOfC qual scope s.heap.objs.size f cd :: outer
 ex:=[]
 calm:=true
 fn:=fun _=>true
 pn:=[]
 xe:=fun e s'=>wpAny (model P w) (A.deeper (envOfC qual scope s.heap.objs.size f cd)) (leaving (envOfC qual scope s.heap.objs.size f cd) e) (fun _ s''=>CX outer H s E e s'') (fun e' s''=>CX outer H s E e' s'') s'
theorem t8 {sc:Scope}{n:Nat}{x:Str}(h:sc.names.lookup x=some .cell):∃ c,(cellsFrom n sc.names []).lookup x=some c:=by
 have q:=PySem.W.cellsFrom_some sc.names n [] (.inl h)
 exact Option.isSome_iff_exists.mp q
theorem Au {CX:lX}{P:Program}{w:World}{K:PySem.W.Frag}{mg:Str→Option Value}{base:Heap}{N ps:List Str}{qual:Str}{scope:Scope}{f:Addr}{cd:Value}{A:Around}{outer:List Env}{s s1:Shared}{H:Hp}{E:XK}{us:List Value}{vs:List V}
  (S:bz N ps scope) (hd:A.handled=none) (e0:yw P w K mg base A outer s H) (hl:vs.length=ps.length) (r:Vals vs us)
  (x:InCallC s s.heap.objs.size (bindL (envOfC qual scope s.heap.objs.size f cd).kindOf (ps.zip us) fun _=>none) (cellsFrom (s.heap.objs.size+1) scope.names []) (bindC (envOfC qual scope s.heap.objs.size f cd).kindOf (ps.zip us) fun _=>none) s1) :
  Inv (oV CX P w K mg base N qual scope f cd A outer s H E) [] (start N vs) H s1:=by
 have hpl:ps.length≤N.length:=by have:=congrArg List.length S.pre;rw [List.length_take] at this;omega
 obtain ⟨h1,tk,rfl,hk⟩:=x.done
 have Av:∀ b:Addr,b∉(oV CX P w K mg base N qual scope f cd A outer s H E).ex:=fun b z=>absurd (show b∈([]:List Addr) from z) (by simp)
 refine ⟨⟨e0.mod,S.kind,rfl,rfl,Nat.le_refl _,fun y z c h1 h2=>?_,fun y hy=>?_,fun y c _ h=>?_,fun _=>hd,Around.frames_deeper e0.frames,.inr ⟨rfl,rfl⟩,fun b z=>absurd z (Av b),e0.bs,e0.rB,fun b _ _=>Av b,fun b z=>absurd z (Av b),e0.iX,e0.tT⟩,
  rfl,e0.bare,Un.kept hk,⟨_,x.toInCall.ns,fun i y v h1 h2 h3=>?_⟩,fun y c h=>⟨_,x.cell y c h⟩,e0.hok.fresh (Nat.le_refl _),fun y c h=>?_,fun p hp=>absurd (show p∈([]:List (Addr×Obj)) from hp) (by simp),e0.hok.kept hk,?_⟩
 ·exact name_of_addr x.apart (PySem.mem_of_lookup h1) (PySem.mem_of_lookup h2)
 ·have hy:scope.names.lookup y=some .cell∨scope.names.lookup y=some .free:=hy
  rcases hy with hy | hy
  ·exact t8 hy
  ·exact absurd rfl (S.LO _ (PySem.mem_of_lookup hy))
 ·exact Nat.le_of_lt (x.above y c (PySem.mem_of_lookup h))
 ·have hi:i<vs.length:=by
   unfold start at h2
   by_cases hi:i<vs.length
   ·exact hi
   ·rw [List.getElem?_append_right (by simpa using hi)] at h2
    rw [List.getElem?_replicate] at h2
    split at h2 <;> cases h2
  have ha:vs[i]?=some v:=by
   unfold start at h2
   rw [List.getElem?_append_left (by simpa using hi),List.getElem?_map] at h2
   cases e:vs[i]? with
   | none=>rw [e] at h2;cases h2
   | some a=>rw [e] at h2;cases h2;rfl
  obtain ⟨u,hu,rv⟩:=r.get ha
  have hp:ps[i]?=some y:=by
   rw [←S.pre,List.getElem?_take_of_lt (by omega)];exact h1
  have Vb:ps.Nodup:=by rw [←S.pre];exact S.nd.sublist (List.take_sublist _ _)
  refine ⟨u,rv,?_⟩
  rcases S.par y (List.mem_of_getElem? hp) with k | k
  ·exact .inl ⟨k,rJ Vb hp hu k⟩
  ·obtain ⟨c,e⟩:=t8 (n:=s.heap.objs.size+1) k
   refine .inr ⟨.inl k,c,e,?_⟩
   have q:=x.cell y c e
   rw [rK Vb hp hu (by show scope.names.lookup y≠_;rw [k];decide)] at q
   exact q
 ·exact e0.hok.fresh (Nat.le_of_lt (x.above y c (PySem.mem_of_lookup h)))
 ·unfold start
  show _=N.length
  rw [List.length_append,List.length_map,List.length_replicate]
  omega
theorem So {CX:lX}{P:Program}{w:World}{K:PySem.W.Frag}{mg:Str→Option Value}{base:Heap}{k:Nat}{f:Addr}{name qual:Str}{params:Arguments}{body:List Stmt}{scope:Scope}{dV kV doc pm cdv ct oc:Value}{an od:Option Addr}
  {osl:Array (Option Value)} {N ps:List Str} {sp:Sp} (lk:K.lookup f=some ⟨oc,od,.func (PySem.W.fnOf name qual params body scope dV kV doc pm an cdv ct),osl⟩) (hcd:PySem.W.codeIn K cdv qual=true) (S:bz N ps scope)
  (len:∀ vs H Q E,sp vs H Q E→vs.length=ps.length)
  (hbody:∀ (A:Around) (outer:List Env) (s:Shared) (H:Hp) (vs:List V) (Q:VK) (E:XK),fX k (A.deeper (envOfC qual scope s.heap.objs.size f cdv))→sp vs H Q E→
   ∃ t,iA (oV CX P w K mg base N qual scope f cdv A outer s H E) body t∧t { nx:=fun _ H'=>Q .bf H',rt:=Q } (start N vs) H) :
  iC P w K mg base CX (k+1) f (PySem.W.fnOf name qual params body scope dV kV doc pm an cdv ct) ps sp:=by
 refine ⟨len,fun A outer s H args us vs Q E hr e0 hb r ku=>?_⟩
 have hl:=len _ _ _ _ ku
 have KX:K.In s.heap:=e0.mod.FE.keeps fun b o e=>(e0.bs b o e).1
 have lim:s.heap.NoLimit:=e0.mod.nolimit.keeps fun b o e=>(e0.bs b o e).1
 have hkind:∀ y∈ps.zip us,scope.names.lookup y.1=some .local∨(scope.names.lookup y.1=some .cell∧((cellsFrom (s.heap.objs.size+1) scope.names []).lookup y.1).isSome=true):=fun ⟨n,v⟩ hy=>by
  rcases S.par n (List.of_mem_zip hy).1 with q | q
  ·exact .inl q
  ·exact .inr ⟨q,PySem.W.cellsFrom_some _ _ _ (.inl q)⟩
 refine codeAny_call_function hr.depth (KX _ _ lk) rfl S.co S.gen rfl (PySem.W.codeRec_of KX hcd) (hb _ _ _ _ ?_)
 refine wpAny_newFunctionEnv_cells S.kind hkind fun env he s1 x=>?_
 subst he
 refine ⟨lim.keeps x.toInCall.keep,codeAny_func ?_⟩
 obtain ⟨t,ht,hq⟩:=hbody A outer s H vs Q E (hr.deeper _) ku
 have I:Inv (oV CX P w K mg base N qual scope f cdv A outer s H E) [] (start N vs) H s1:=Au S hr.hd e0 hl r x
 refine wpAny_mono (ht [] s1 (start N vs) H _ I hq) (fun fl s' hs=>?_) fun e s' hs=>hs
 have fin:∀ {σ':St} {H':Hp} {v:V} {u:Value},Inv (oV CX P w K mg base N qual scope f cdv A outer s H E) [] σ' H' s'→RelV v u→Q v H'→CE outer P w H s Q u s':=
  fun {σ' H' v u} J rv q=>⟨v,H',J.os,J.bare,J.base,J.hok,rv,q⟩
 cases fl with
 | ret u=>
  obtain ⟨v,σ',H',J,rv,q⟩:=hs
  exact fin J rv q
 | next=>
  obtain ⟨σ',H',J,q⟩:=hs
  exact fin (v:=V.bf) (u:=Value.none) J rfl q
 | brk=>
  obtain ⟨_,_,_,q⟩:=hs
  exact False.elim q
 | cont=>
  obtain ⟨_,_,_,q⟩:=hs
  exact False.elim q
end L2
namespace L2
open PySem PySem.Spec PyProof.Rows
section
variable {X:Cx}{x:Str}{p pos:Pos}{e:Expr}{es:List Expr}{t:TA}{id T:String}{r:List V→Hp→VK→Prop}
noncomputable def LP (r:List V→Hp→VK→Prop) (t:TA):TE:=fun σ H Q=>t σ H fun vs H1=>r vs H1 Q
theorem CT (hc:gK X (.builtin id) r) (hg:Gl X x) (hm:X.mg x=none) (hv:bootBuiltins x=some (.builtin id)) (ha:PA X (e :: es) t) (hn:x≠"__name__" :=by decide) (hdb:(x==("__debug__" : Str))=false:=by decide)
  (he:starEach (e :: es) X.env=(false,eval e X.env) :: starEach es X.env:=by rfl) (hpl:(backTo pos (starEach es X.env)).any (·.1)=false:=by rfl):PE X (.Call (.Name x p) (e :: es) [] pos) (LP r t):=by
 intro pins s σ H Q I h
 refine wpAny_Call_Name_kw (jy I hg hm hv ?_ hn hdb)
 exact PyProof.Rows.callWith_builtin1 (bE (ha pos pins s σ H _ I h) fun us s1 ⟨vs,H1,I1,r1,q1⟩=>hc pins s1 σ H1 vs us Q I1 r1 q1) he hpl
theorem Aw (hc:gK X (.type T) r) (hg:Gl X x) (hm:X.mg x=none) (hv:bootBuiltins x=some (.type T)) (ha:PA X (e :: es) t) (hn:x≠"__name__" :=by decide) (hdb:(x==("__debug__" : Str))=false:=by decide)
  (he:starEach (e :: es) X.env=(false,eval e X.env) :: starEach es X.env:=by rfl) (hpl:(backTo pos (starEach es X.env)).any (·.1)=false:=by rfl):PE X (.Call (.Name x p) (e :: es) [] pos) (LP r t):=by
 intro pins s σ H Q I h
 refine wpAny_Call_Name_kw (jy I hg hm hv ?_ hn hdb)
 exact PyProof.Rows.callWith_type1 (bE (ha pos pins s σ H _ I h) fun us s1 ⟨vs,H1,I1,r1,q1⟩=>hc pins s1 σ H1 vs us Q I1 r1 q1) he hpl
end
end L2
namespace HT
open PySem PyProof.Rows
section
open PySem.SeqAt
open PySem.AutoSeq1 (wpAny_loadPart')
open PySem.MeetsSeq PySem.MeetsSeq2 PySem.MeetsSeq3
end
section
variable {prog:Program}{w:World}{A:Around}{E:Value→Shared→Prop}{s:Shared}
theorem IW {t b:Addr}{vs ws:List Value}{Q:Value→Shared→Prop}(ht:IsTup s.heap t vs.toArray) (hb:IsTup s.heap b ws.toArray) (hv:vs≠[])
  (h1:ws=[]→Q (.ref t) s) (h2:ws≠[]→Q (.ref s.heap.objs.size) { s with heap:=s.heap.push { cls:=.type "tuple",data:=.seq (vs++ws).toArray }})
  (hsz:vs.length+ws.length≤sizeLine):wpAny (model prog w) A (binaryOp .Add (.ref t) (.ref b)) Q E s:=by
 obtain ⟨⟨cls,dd,data,sl⟩,ho,hc,n,hd⟩:=id ht
 obtain ⟨⟨XU,dd2,data2,sl2⟩,ho2,hc2,n2,hd2⟩:=id hb
 simp only at hc hd hc2 hd2
 subst hc hd hc2 hd2
 have e:vs.toArray++ws.toArray=(vs++ws).toArray:=by simp
 by_cases hw:ws=[]
 ·exact concat_meets ⟨_,ho,rfl⟩ ⟨_,ho2,rfl⟩ noFill_tuple_add seq_tuple_add PySem.F.slot_tuple_add PySem.F.entry_tuple_add (PySem.F.args_tuple_add_2 _ _)
   (tuple_addW1 t b vs.toArray ws.toArray n n2 dd dd2 sl sl2 (by simpa using hv) (by simp [hw])) ⟨ho,ho2,h1 hw⟩
 ·refine concat_meets ⟨_,ho,rfl⟩ ⟨_,ho2,rfl⟩ noFill_tuple_add seq_tuple_add PySem.F.slot_tuple_add PySem.F.entry_tuple_add (PySem.F.args_tuple_add_2 _ _)
   (tuple_addW2 t b vs.toArray ws.toArray n n2 dd dd2 sl sl2 (by simpa using hv) (by simpa using hw) (by rw [List.size_toArray,List.size_toArray];exact hsz)) ⟨ho,ho2,?_⟩
  rw [e]
  exact h2 hw
noncomputable def aU (n d:Nat):Option Int→Nat
 | none=>d
 | some v=>if v<0 then (v+(n:Int)).toNat else min v.toNat n
theorem t9 (n d:Nat) (hd:d≤n) (o:Option Int):aU n d o≤n:=by
 cases o with
 | none=>exact hd
 | some v=>
  show (if v<0 then (v+(n:Int)).toNat else min v.toNat n)≤n
  by_cases hv:v<0
  ·rw [if_pos hv];omega
  ·rw [if_neg hv];exact Nat.min_le_right _ _
theorem wQ (v:Int) (n d:Nat):(if v<0 then max (v+(n:Int)) 0 else min v (n:Int))=((aU n d (some v):Nat):Int):=by
 show (if v<0 then max (v+(n:Int)) 0 else min v (n:Int))=(((if v<0 then (v+(n:Int)).toNat else min v.toNat n):Nat):Int)
 by_cases hv:v<0
 ·simp only [if_pos hv];omega
 ·simp only [if_neg hv];omega
theorem yx (lo hi:Option Int) (n:Nat):Builtin.Slice.sliceAdjust lo hi 1 (n:Int)=(((aU n 0 lo:Nat):Int),((aU n n hi:Nat):Int)):=by
 have h1:¬ ((1:Int)<0):=by omega
 unfold Builtin.Slice.sliceAdjust
 simp only [h1,if_false]
 refine Prod.ext ?_ ?_
 ·cases lo with
  | none=>rfl
  | some v=>exact wQ v n 0
 ·cases hi with
  | none=>rfl
  | some v=>exact wQ v n n
theorem yy (i j:Nat):Builtin.Slice.slicePlaces (i:Int) (j:Int) 1=j - i:=by
 unfold Builtin.Slice.slicePlaces
 have h1:(1:Int) > 0:=by omega
 simp only [h1,if_true,Int.ediv_one]
 split <;> omega
theorem pJ {v:Value}{o:Option Int}{Q:Option Int→Shared→Prop}(p:IsPart v o) (h:Q o s):wpAny (model prog w) A (Builtin.Slice.slicePartIndex v) Q E s:=by
 cases p with
 | none=>exact slicePart_none h
 | int i t=>exact slicePart_int h
theorem jB {sl:Addr}{vl vu:Value}{lo hi:Option Int}{n:Nat}{Q:Int×Int×Nat→Shared→Prop}(hs:s.heap.IsSliceOf sl vl vu .none)(pl:IsPart vl lo)(pu:IsPart vu hi)
  (h:Q (((aU n 0 lo:Nat):Int),1,aU n n hi - aU n 0 lo) s):wpAny (model prog w) A (Builtin.Slice.sliceApplied (.ref sl) (pure (n:Int))) Q E s:=by
 obtain ⟨os,hos,hcs,hds⟩:=id hs
 unfold Builtin.Slice.sliceApplied Builtin.Slice.sliceFields
 refine wpAny_bind (wpAny_bind (wpAny_field hos hds (x:=vl) rfl (wpAny_bind (wpAny_field hos hds (x:=vu) rfl (wpAny_bind (wpAny_field hos hds (x:=.none) rfl (wpAny_pure ?_)))))))
 refine wpAny_bind (slicePart_none ?_)
 show wpAny _ _ (if ((1:Int)==0)=true then _ else _) _ _ s
 rw [if_neg (by decide)]
 refine wpAny_bind (pJ pl (wpAny_bind (pJ pu (wpAny_bind (wpAny_pure ?_)))))
 show wpAny _ _ (match Builtin.Slice.sliceAdjust lo hi 1 (n:Int) with | (lo,hi)=>pure (lo,(1:Int),Builtin.Slice.slicePlaces lo hi 1)) _ _ s
 rw [yx lo hi n]
 show wpAny _ _ (pure (((aU n 0 lo:Nat):Int),(1:Int),Builtin.Slice.slicePlaces ((aU n 0 lo:Nat):Int) ((aU n n hi:Nat):Int) 1)) _ _ s
 rw [yy]
 exact wpAny_pure h
theorem CU (xs:Array Value) (i k:Nat):((List.range k).filterMap fun (m:Nat)=>xs[((i:Int)+(m:Int)*1).toNat]?).toArray=((xs.toList.drop i).take k).toArray:=by
 have e:(fun (m:Nat)=>xs[((i:Int)+(m:Int)*1).toNat]?)=fun m=>xs[i+m]?:=by
  funext m
  have:((i:Int)+(m:Int)*1).toNat=i+m:=by omega
  rw [this]
 rw [e]
 have:=pick_run xs i k
 rw [List.filterMap_map] at this
 have e2:((fun x=>xs[x]?) ∘ fun x=>i+x)=fun m=>xs[i+m]?:=rfl
 rw [e2] at this
 rw [this]
theorem om {t sl:Addr}{items:Array Value}{vl vu:Value}{lo hi:Option Int}{Q:Value→Shared→Prop}(ht:IsTup s.heap t items)(hs:s.heap.IsSliceOf sl vl vu .none)(pl:IsPart vl lo)(pu:IsPart vu hi)
  (hw:¬ (aU items.size 0 lo=0∧aU items.size items.size hi=items.size))
  (h:Q (.ref s.heap.objs.size) { s with heap:=s.heap.push { cls:=.type "tuple",data:=.seq ((items.toList.drop (aU items.size 0 lo)).take (aU items.size items.size hi - aU items.size 0 lo)).toArray }})
  (hsz:items.size≤sizeLine):wpAny (model prog w) A (getItem (.ref t) (.ref sl)) Q E s:=by
 have sQ:sizeOk (.seq ((items.toList.drop (aU items.size 0 lo)).take (aU items.size items.size hi - aU items.size 0 lo)).toArray):=by
  show ((items.toList.drop (aU items.size 0 lo)).take (aU items.size items.size hi - aU items.size 0 lo)).toArray.size≤sizeLine
  rw [List.size_toArray,List.length_take,List.length_drop,Array.length_toList]
  omega
 have hj:aU items.size items.size hi≤items.size:=t9 _ _ (Nat.le_refl _) hi
 obtain ⟨os,hos,hcs,hds⟩:=id hs
 have LQ:s.TypeIs (.ref sl) "slice" :=⟨os,hos,hcs⟩
 unfold getItem
 try with_reducible refine wpAny_holding ?_
 first | refine wpAny_bind (wpAny_pure ?_) | skip
 refine wpAny_bind (wpAny_sequenceKey ht.typeIs (by decide) ?_)
 refine wpAny_bind (wpAny_callSpecial?_slot (name:=Str.ofString "__getitem__") ht.typeIs PyProof.Rows.slot_tuple_getitem
  (wpAny_call_entry PyProof.Rows.slot_tuple_getitem ht.typeIs entry_tuple_getitem ?_ (args_tuple_getitem _ _)))
 show wpAny _ _ (Builtin.Tuple.tupleItemsOf (.ref t) >>= _) _ _ s
 refine wpAny_bind (tupleItemsOf_ ht ?_)
 refine wpAny_bind (wpAny_typeOf LQ ?_)
 rw [if_pos (by decide)]
 refine wpAny_bind (jB hs pl pu ?_)
 have hno:¬ ((((aU items.size 0 lo:Nat):Int)==0&&(1:Int)==1&&(aU items.size items.size hi - aU items.size 0 lo)==items.size)=true):=by
  intro q
  rw [Bool.and_eq_true,Bool.and_eq_true] at q
  have q1:((aU items.size 0 lo:Nat):Int)=0:=eq_of_beq q.1.1
  have q2:aU items.size items.size hi - aU items.size 0 lo=items.size:=eq_of_beq q.2
  exact hw ⟨by omega,by omega⟩
 show wpAny _ _ (if (((aU items.size 0 lo:Nat):Int)==0&&(1:Int)==1&&(aU items.size items.size hi - aU items.size 0 lo)==items.size)=true then _ else _) _ _ s
 rw [if_neg hno,CU]
 first
  | exact wpAny_bind (m:=Builtin.Tuple.tupleExact _) (wpAny_newObj_type (wpAny_pure ⟨_,rfl,wpAny_pure h⟩) sQ)
  | exact wpAny_bind (m:=Builtin.Tuple.tupleExact _) (wpAny_newObj_type (wpAny_bind (wpAny_pure (wpAny_pure ⟨_,rfl,wpAny_pure h⟩))) sQ)
  | exact wpAny_bind (wpAny_bind (m:=Builtin.Tuple.tupleExact _) (wpAny_newObj_type (wpAny_pure (wpAny_pure ⟨_,rfl,wpAny_pure h⟩)) sQ))
  | exact wpAny_bind (wpAny_bind (m:=Builtin.Tuple.tupleExact _) (wpAny_newObj_type (wpAny_pure ⟨_,rfl,wpAny_pure h⟩) sQ))
end
end HT
namespace L2
open PySem PySem.Spec PyProof.Rows
abbrev TO:=St→Hp→(Option Int→Hp→Prop)→Prop
noncomputable def PO (X:Cx) (e:Option Expr) (t:TO):Prop:=
 ∀ (pins:List (Addr×Obj)) (s:Shared) (σ:St) (H:Hp) (Q:Option Int→Hp→Prop),Inv X pins σ H s→t σ H Q→
  wpAny (model X.prog X.w) X.A (evalPart e X.env) (fun u s'=>∃ o H',Inv X pins σ H' s'∧IsPart u o∧Q o H') X.xe s
noncomputable def IX:TO:=fun _ H Q=>Q none H
noncomputable def Sq (t:TE):TO:=fun σ H Q=>t σ H fun x H1=>∃ i,x=.int i∧Q (some i) H1
section
variable {X:Cx}{e:Expr}{te:TE}{lo hi:Option Expr}{tl th:TO}{pos p2:Pos}
theorem IY:PO X none IX:=by
 intro pins s σ H Q I h
 rw [evalPart_none]
 exact wpAny_pure ⟨none,H,I,.none,h⟩
theorem IZ (h:PE X e te):PO X (some e) (Sq te):=by
 intro pins s σ H Q I hw
 rw [evalPart_some]
 refine bE (h pins s σ H _ I hw) fun u s1 ⟨x,H1,I1,r1,q1⟩=>?_
 obtain ⟨i,rfl,q⟩:=q1
 obtain ⟨t,rfl⟩:=r1
 exact ⟨some i,H1,I1,.int i t,q⟩
noncomputable def kB (X:Cx) (r:V→Option Int→Option Int→Hp→VK→Prop):Prop:=
 ∀ (pins:List (Addr×Obj)) (s:Shared) (σ:St) (H:Hp) (x:V) (v vl vu:Value) (lo hi:Option Int) (sl:Addr) (Q:VK),Inv X pins σ H s→RelV x v→s.heap.IsSliceOf sl vl vu .none→IsPart vl lo→IsPart vu hi→r x lo hi H Q→
  ∃ T id,typeLookup (.type T) "__getitem__" = pure (some (.builtin id))∧s.TypeIs v T∧wpAny (model X.prog X.w) X.A (getItem v (.ref sl)) (EP X pins σ Q) X.xe s
noncomputable def tSl (r:V→Option Int→Option Int→Hp→VK→Prop) (te:TE) (tl th:TO):TE:=fun σ H Q=>te σ H fun x H1=>tl σ H1 fun l H2=>th σ H2 fun u H3=>r x l u H3 Q
theorem CV {r:V→Option Int→Option Int→Hp→VK→Prop}(hr:kB X r) (he:PE X e te) (hl:PO X lo tl) (hu:PO X hi th):PE X (.Subscript e (.Slice lo hi none p2) pos) (tSl r te tl th):=by
 intro pins s σ H Q I h
 refine Subscript_ (bE (he pins s σ H _ I h) fun v s1 ⟨x,H1,I1,r1,q1⟩=>?_)
 refine wpAny_Slice (bE (hl pins s1 σ H1 _ I1 q1) fun vl s2 ⟨l,H2,I2,pl,q2⟩=>bE (hu pins s2 σ H2 _ I2 q2) fun vu s3 ⟨u,H3,I3,pu,q3⟩=>?_)
 rw [evalPart_none]
 refine wpAny_pure ?_
 have I4:Inv X pins σ H3 { s3 with heap:=s3.heap.push { cls:=.type "slice",data:=.fields #[vl,vu,.none]}}:=I3.kept (t':=s3.toks) fun b ob q=>Heap.get?_push_of_some _ q
 obtain ⟨T,id,hT,ht,hg⟩:=hr pins { s3 with heap:=s3.heap.push { cls:=.type "slice",data:=.fields #[vl,vu,.none]}} σ H3 x v vl vu l u s3.heap.objs.size Q I4 r1 (Heap.IsSliceOf.new ..) pl pu q3
 show wpAny (model X.prog X.w) X.A (subscriptTail e (.Slice lo hi none p2) v (.ref s3.heap.objs.size)) (EP X pins σ Q) X.xe { s3 with heap:=s3.heap.push { cls:=.type "slice",data:=.fields #[vl,vu,.none]}}
 exact tail_any (ops:=[.ref s3.heap.objs.size,v]) ht hT hg (by with_unfolding_all rfl)
noncomputable def mE (xs:List V) (lo hi:Option Int):List V:=(xs.drop (HT.aU xs.length 0 lo)).take (HT.aU xs.length xs.length hi - HT.aU xs.length 0 lo)
theorem oz (xs:List V) (lo hi:Option Int):(mE xs lo hi).length≤xs.length:=by
 unfold mE
 rw [List.length_take,List.length_drop]
 omega
noncomputable def XW (K:PySem.W.Frag):V→Option Int→Option Int→Hp→VK→Prop:=fun x lo hi H Q=>∃ a xs,x=.ref a∧dI K H a xs∧
 ¬ (HT.aU xs.length 0 lo=0∧HT.aU xs.length xs.length hi=xs.length)∧∀ p,H p=none→Q (.ref p) (upd H p (.tup (mE xs lo hi)))
theorem LR:kB X (XW X.K):=by
 intro pins s σ H x v vl vu lo hi sl Q I rx hs pl pu h
 obtain ⟨a,xs,rfl,hx,hw,q⟩:=h
 cases rx
 obtain ⟨its,r,ht,hz⟩:=I.tuple hx
 have hlen:its.toArray.size=xs.length:=by rw [List.size_toArray];exact r.length.symm
 refine ⟨"tuple",_,PyProof.Rows.slot_tuple_getitem.lookup,ht.typeIs,?_⟩
 refine HT.om ht hs pl pu (by rw [hlen];exact hw) ?_ (by rw [hlen];exact hz)
 rw [hlen]
 refine ⟨.ref s.heap.objs.size,_,I.laid (t':=s.toks) (o:=.tup (mE xs lo hi)) (fun b ob q=>Heap.get?_push_of_some _ q) (Nat.le_refl _) ?_,rfl,q _ (I.hok.fresh (Nat.le_refl _))⟩
 exact ⟨Nat.le_trans (oz xs lo hi) hz,_,(r.drop (HT.aU xs.length 0 lo)).take (HT.aU xs.length xs.length hi - HT.aU xs.length 0 lo),IsTup.new _ _⟩
noncomputable def Su (K:PySem.W.Frag):R2:=fun x y H Q=>∃ a b xs ys,x=.ref a∧y=.ref b∧dI K H a xs∧dI K H b ys∧xs≠[]∧xs.length+ys.length≤sizeLine∧
 (ys=[]→Q (.ref a) H)∧(ys≠[]→∀ p,H p=none→Q (.ref p) (upd H p (.tup (xs++ys))))
theorem Vals.qH {xs:List V}{us:List Value}(r:Vals xs us):us=[]↔xs=[]:=by
 cases r with
 | nil=>simp
 | cons _ _=>simp
theorem Ja:d7 X (binaryOp .Add) (Su X.K):=by
 intro pins s σ H x y v u Q I rx ry h
 obtain ⟨a,b,xs,ys,rfl,rfl,ha,hb,hx,hz,q1,q2⟩:=h
 cases rx
 cases ry
 obtain ⟨its,r1,p1,_⟩:=I.tuple ha
 obtain ⟨its2,r2,p2,_⟩:=I.tuple hb
 refine HT.IW p1 p2 (fun z=>hx (r1.qH.mp z)) (fun z=>⟨.ref a,H,I,rfl,q1 (r2.qH.mp z)⟩) (fun z=>?_) (by rw [←r1.length,←r2.length];exact hz)
 refine ⟨.ref s.heap.objs.size,_,I.laid (t':=s.toks) (o:=.tup (xs++ys)) (fun b ob q=>Heap.get?_push_of_some _ q) (Nat.le_refl _) ?_,rfl,q2 (fun w=>z (r2.qH.mpr w)) _ (I.hok.fresh (Nat.le_refl _))⟩
 exact ⟨by rw [List.length_append];exact hz,_,r1.append r2,IsTup.new _ _⟩
end
end L2
namespace L2
open PySem PySem.Spec PyProof.Rows
noncomputable def dP (n:Nat) (i:Int):Option Nat:=if 0≤i then (if i<n then some i.toNat else none) else if -(n:Int)≤i then some (i+n).toNat else none
noncomputable def bL {α:Type}(xs:List α) (i:Int):Option α:=(dP xs.length i).bind fun j=>xs[j]?
theorem Jb {n:Nat}{i:Int}{j:Nat}(h:dP n i=some j):seqIndex? i n=some j∧j<n∧-(n:Int)≤i∧i<n:=by
 unfold dP at h
 by_cases h0:0≤i
 ·rw [if_pos h0] at h
  by_cases h1:i<n
  ·rw [if_pos h1] at h
   have e:i.toNat=j:=Option.some.inj h
   exact ⟨by rw [seqIndex_of h0 h1,e],by omega,by omega,h1⟩
  ·rw [if_neg h1] at h;cases h
 ·rw [if_neg h0] at h
  by_cases h1:-(n:Int)≤i
  ·rw [if_pos h1] at h
   have e:(i+n).toNat=j:=Option.some.inj h
   exact ⟨by rw [seqIndex_neg (by omega) h1,e],by omega,h1,by omega⟩
  ·rw [if_neg h1] at h;cases h
theorem qI {α:Type}{xs:List α}{i:Int}{v:α}(h:bL xs i=some v):∃ j,seqIndex? i xs.length=some j∧xs[j]?=some v∧j<xs.length∧-(xs.length:Int)≤i∧i<xs.length:=by
 unfold bL at h
 cases e:dP xs.length i with
 | none=>rw [e] at h;cases h
 | some j=>
  rw [e] at h
  obtain ⟨h1,h2,h3,h4⟩:=Jb e
  exact ⟨j,h1,h,h2,h3,h4⟩
theorem wR {α:Type}{xs:List α}{j:Nat}{v:α}(h:xs[j]?=some v):bL xs (j:Int)=some v:=by
 have hj:j<xs.length:=(List.getElem?_eq_some_iff.mp h).1
 have e:dP xs.length (j:Int)=some j:=by
  unfold dP
  rw [if_pos (by omega),if_pos (by omega)];simp
 unfold bL;rw [e];exact h
noncomputable def wU (b:Expr):Prop:=∀ o i,subscripted b false o i=operate [o,i] (getItem o i)
noncomputable def wV (X:Cx) (r:R2):Prop:=
 ∀ (value slice:Expr) (pins:List (Addr×Obj)) (s:Shared) (σ:St) (H:Hp) (x y:V) (v u:Value) (Q:VK),Inv X pins σ H s→RelV x v→RelV y u→r x y H Q→
  subscripted slice false v u=operate [v,u] (getItem v u)→wpAny (model X.prog X.w) X.A (subscriptTail value slice v u) (EP X pins σ Q) X.xe s
noncomputable def rL (X:Cx) (id:String) (r:V→List V→Hp→VK→Prop):Prop:=
 ∀ (pins:List (Addr×Obj)) (s:Shared) (σ:St) (H:Hp) (x:V) (xs:List V) (v:Value) (us:List Value) (Q:VK),Inv X pins σ H s→RelV x v→Vals xs us→r x xs H Q→
  wpAny (model X.prog X.w) X.A (call (.builtin id) (v :: us)) (EP X pins σ Q) X.xe s
section
variable {X:Cx}{a b:Expr}{ta tb:TE}{pos:Pos}
theorem Sv {r:R2}(hr:wV X r) (ha:PE X a ta) (hb:PE X b tb) (hs:wU b):PE X (.Subscript a b pos) (Ar r ta tb):=by
 intro pins s σ H Q I h
 exact Subscript_ (CO ha hb I h fun v u s2 x y H2 I2 rx ry q=>hr a b pins s2 σ H2 x y v u Q I2 rx ry q (hs _ _))
noncomputable def XX (K:PySem.W.Frag):R2:=fun x y H Q=>∃ p xs i v,x=.ref p∧y=.int i∧eO K H p xs∧bL xs i=some v∧Q v H
noncomputable def XY (K:PySem.W.Frag):R2:=fun x y H Q=>∃ p xs i v,x=.ref p∧y=.int i∧dI K H p xs∧bL xs i=some v∧Q v H
noncomputable def XZ:R2:=fun x y H Q=>∃ z i c,x=.str z∧y=.int i∧z.length≤sizeLine∧bL z.cps.toList i=some c∧Q (.str ⟨#[c]⟩) H
theorem Jc:wV X (XX X.K):=by
 intro value slice pins s σ H x y v u Q I rx ry h hs
 obtain ⟨p,xs,i,z,rfl,rfl,hq,he,q⟩:=h
 cases rx
 obtain ⟨t,rfl⟩:=ry
 obtain ⟨its,r,pl,hz⟩:=I.list hq
 obtain ⟨j,h1,h2,h3,h4,h5⟩:=qI he
 obtain ⟨w,ew,rw'⟩:=r.get h2
 have hl:=r.length
 have hn:=kr
 have fin:EP X pins σ Q w s:=⟨z,H,I,rw',q⟩
 by_cases h0:0≤i
 ·have hj:i.toNat=j:=by
   rw [seqIndex_of h0 h5] at h1
   exact Option.some.inj h1
  exact item_listR pl.isList h0 (by omega) (by rw [hj];simpa using ew) fin hs
 ·have hj:(i+(its.toArray.size:Int)).toNat=j:=by
   rw [seqIndex_neg (by omega) h4] at h1
   rw [List.size_toArray,←hl]
   exact Option.some.inj h1
  exact subscriptTail_builtinR (x:=w) pl.isList.typeIs slot_list_getitem.lookup
   (wpAny_getItem_list_neg (Q:=fun r s'=>r=w∧EP X pins σ Q r s') pl.isList (by omega) (by rw [List.size_toArray] <;> omega) (by omega) (by rw [hj];simpa using ew) ⟨rfl,fin⟩) hs
theorem LS:wV X (XY X.K):=by
 intro value slice pins s σ H x y v u Q I rx ry h hs
 obtain ⟨p,xs,i,z,rfl,rfl,hq,he,q⟩:=h
 cases rx
 obtain ⟨t,rfl⟩:=ry
 obtain ⟨its,r,pl,hz⟩:=I.tuple hq
 obtain ⟨j,h1,h2,h3,h4,h5⟩:=qI he
 obtain ⟨w,ew,rw'⟩:=r.get h2
 have hl:=r.length
 have hn:=kr
 have fin:EP X pins σ Q w s:=⟨z,H,I,rw',q⟩
 exact subscriptTail_builtinR (x:=w) pl.typeIs slot_tuple_getitem.lookup
  (getItem_tuple (j:=j) (Q:=fun r s'=>r=w∧EP X pins σ Q r s') pl (by omega) (by omega) (by rw [List.size_toArray,←hl];exact h1) (by simpa using ew) ⟨rfl,fin⟩) hs
theorem LU:wV X XZ:=by
 intro value slice pins s σ H x y v u Q I rx ry h hs
 obtain ⟨z,i,c,rfl,rfl,hz,he,q⟩:=h
 obtain ⟨t,rfl⟩:=rx
 obtain ⟨t',rfl⟩:=ry
 obtain ⟨j,h1,h2,h3,h4,h5⟩:=qI he
 have hl:z.cps.toList.length=z.length:=by simp [Str.length]
 rw [hl] at h1 h4 h5
 have hn:=kr
 exact tail_any (typeIs_str s z t) slot_str_getitem.lookup (getItem_str (c:=c) (by
  have e1:decide (i < -(2 ^ 63:Int))=false:=decide_eq_false (by omega)
  have e2:decide (i≥2 ^ 63)=false:=decide_eq_false (by omega)
  rw [e1,e2,Bool.or_false]) (by rw [h1];simpa using h2) ⟨.str ⟨#[c]⟩,H,I.tok _,⟨_,rfl⟩,q⟩) hs
theorem ua (lo hi:Option Int) (n:Nat):(sliceBounds lo hi none n).1=((HT.aU n 0 lo:Nat):Int)∧(sliceBounds lo hi none n).2.1=((HT.aU n n hi:Nat):Int)∧(sliceBounds lo hi none n).2.2=1:=by
 refine ⟨?_,?_,rfl⟩
 ·cases lo with
  | none=>simp [sliceBounds,HT.aU]
  | some i=>
   simp only [sliceBounds,HT.aU,Option.getD_none,show (1:Int) > 0 by decide,if_true]
   by_cases h:i<0
   ·simp only [h,if_true] <;> omega
   ·simp only [h,if_false] <;> omega
 ·cases hi with
  | none=>simp [sliceBounds,HT.aU]
  | some i=>
   simp only [sliceBounds,HT.aU,Option.getD_none,show (1:Int) > 0 by decide,if_true]
   by_cases h:i<0
   ·simp only [h,if_true] <;> omega
   ·simp only [h,if_false] <;> omega
theorem sM (its:List Value) (lo hi:Option Int):slicePick its.toArray lo hi none=((its.drop (HT.aU its.length 0 lo)).take (HT.aU its.length its.length hi - HT.aU its.length 0 lo)).toArray:=by
 obtain ⟨h1,h2,h3⟩:=ua lo hi its.toArray.size
 unfold slicePick
 rw [h1,h2,h3]
 simp only [sliceRange_one,pick_run,List.size_toArray] <;> rfl
noncomputable def X0 (K:PySem.W.Frag):V→Option Int→Option Int→Hp→VK→Prop:=fun x lo hi H Q=>∃ a xs,x=.ref a∧eO K H a xs∧∀ p,H p=none→Q (.ref p) (upd H p (.lst (mE xs lo hi)))
theorem Jd:kB X (X0 X.K):=by
 intro pins s σ H x v vl vu lo hi sl Q I rx hs pl pu h
 obtain ⟨a,xs,rfl,hx,q⟩:=h
 cases rx
 obtain ⟨its,r,ht,hz⟩:=I.list hx
 have hlen:=r.length
 refine ⟨"list",_,slot_list_getitem.lookup,ht.isList.typeIs,?_⟩
 refine wpAny_getItem_list_slice ht.isList hs pl pu .none (by simp) ?_ (by rw [List.size_toArray] <;> omega)
 rw [sM,←hlen]
 refine ⟨.ref s.heap.objs.size,_,I.laid (t':=s.toks) (o:=.lst (mE xs lo hi)) (fun b ob q=>Heap.get?_push_of_some _ q) (Nat.le_refl _) ?_,rfl,q _ (I.hok.fresh (Nat.le_refl _))⟩
 exact ⟨Nat.le_trans (oz xs lo hi) hz,_,0,(r.drop (HT.aU xs.length 0 lo)).take (HT.aU xs.length xs.length hi - HT.aU xs.length 0 lo),Heap.get?_push_size _ rfl⟩
noncomputable def sR:V→Bool
 | .bf=>true
 | .bl _=>true
 | .int _=>true
 | .str _=>true
 | _=>false
theorem mF:gK X (.builtin "len") (fun xs H Q=>∃ p ys,xs=[.ref p]∧(eO X.K H p ys∨dI X.K H p ys)∧Q (.int ys.length) H):=by
 intro pins s σ H xs us Q I r h
 obtain ⟨p,ys,rfl,hq,q⟩:=h
 obtain ⟨u,rfl,rx⟩:=vals1 r
 cases rx
 have hn:=kr
 rcases hq with hq | hq
 ·obtain ⟨its,r',pl,hz⟩:=I.list hq
  have hlen:=r'.length
  exact Calls.call_len_list pl.isList (by simp only [List.size_toArray] <;> omega) ⟨.int ys.length,H,I.tok _,⟨s.toks+1,by rw [List.size_toArray,hlen]⟩,q⟩
 ·obtain ⟨its,r',pl,hz⟩:=I.tuple hq
  have hlen:=r'.length
  exact len_tuple pl (by simp only [List.size_toArray] <;> omega) ⟨.int ys.length,H,I.tok _,⟨s.toks+1,by rw [List.size_toArray,hlen]⟩,q⟩
theorem uc:gK X (.builtin "len") (fun xs H Q=>∃ z,xs=[.str z]∧z.length≤sizeLine∧Q (.int z.length) H):=by
 intro pins s σ H xs us Q I r h
 obtain ⟨z,rfl,hz,q⟩:=h
 obtain ⟨u,rfl,t,rfl⟩:=vals1 r
 have hn:=kr
 exact len_str (by omega) ⟨.int z.length,H,I.tok _,⟨_,rfl⟩,q⟩
theorem lY:gK X (.type "tuple") (fun xs H Q=>∃ p ys,xs=[.ref p]∧((eO X.K H p ys∧∀ l,H l=none→Q (.ref l) (upd H l (.tup ys)))∨(dI X.K H p ys∧Q (.ref p) H))):=by
 intro pins s σ H xs us Q I r h
 obtain ⟨p,ys,rfl,h⟩:=h
 obtain ⟨u,rfl,rx⟩:=vals1 r
 cases rx
 rcases h with ⟨hq,q⟩ | ⟨hq,q⟩
 ·obtain ⟨its,r',pl,hz⟩:=I.list hq
  have hlen:=r'.length
  refine call_tuple_list pl.isList (fun h' kp=>?_) (by simp only [List.size_toArray] <;> omega)
  have I1:Inv X pins σ H { s with heap:=h' }:=I.kept (t':=s.toks) kp
  have I2:Inv X pins σ (upd H h'.objs.size (.tup ys)) { s with heap:=h'.push { cls:=.type "tuple",data:=.seq its.toArray }}:=
   I1.laid (t':=s.toks) (fun b o e=>Heap.get?_push_of_some _ e) (Nat.le_refl _) (show dH X.prog X.w _ _ _ (.tup ys) from ⟨hz,its,r',IsTup.new _ _⟩)
  exact ⟨.ref h'.objs.size,_,I2,rfl,q _ (I1.hok.fresh (Nat.le_refl _))⟩
 ·obtain ⟨its,r',pl,hz⟩:=I.tuple hq
  exact call_tuple_same pl ⟨.ref p,H,I,rfl,q⟩
noncomputable def Ax (K:PySem.W.Frag) (T:String) (x:V) (H:Hp):Prop:=match x with
 | .str _=>T = "str"
 | .int _=>T = "int"
 | .ref p=>(T = "list" ∧∃ xs,eO K H p xs)∨(T = "tuple" ∧∃ o,K.lookup p=some o∧o.cls=.type "tuple" ∧o.dict=none)∨
   (T = "dict" ∧((∃ kvs,H p=some (.dK kvs))∨∃ kvs,H p=some (.dT kvs)))∨(T = "set" ∧∃ S n,H p=some (.set S n))
 | _=>False
theorem Ay {pins:List (Addr×Obj)}{σ:St}{H:Hp}{s:Shared}{T:String}{x:V}{v:Value}(I:Inv X pins σ H s) (r:RelV x v) (ty:Ax X.K T x H) :
  s.TypeIs v T∧∀ a,v=.ref a→∃ ob,s.heap.get? a=some ob∧ob.dict=none:=by
 cases x with
 | str z=>
  obtain ⟨t,rfl⟩:=r
  cases (show T = "str" from ty)
  exact ⟨typeIs_str s z t,fun _ e=>nomatch e⟩
 | int i=>
  obtain ⟨t,rfl⟩:=r
  cases (show T = "int" from ty)
  exact ⟨typeIs_int s i t,fun _ e=>nomatch e⟩
 | ref p=>
  cases r
  rcases ty with ⟨rfl,xs,hq⟩ | ⟨rfl,o,hk,hc,hd⟩ | ⟨rfl,hk⟩ | ⟨rfl,S,n,hk⟩
  ·obtain ⟨its,_,pl,_⟩:=I.list hq
   refine ⟨pl.isList.typeIs,fun a e=>?_⟩
   cases e
   obtain ⟨o,n,e,c,hd,_⟩:=pl
   exact ⟨o,e,hd⟩
  ·refine ⟨⟨o,I.tU p o hk,hc⟩,fun a e=>?_⟩
   cases e
   exact ⟨o,I.tU _ o hk,hd⟩
  ·have z:∃ o,s.heap.get? p=some o∧o.ExactDict:=by
    rcases hk with ⟨kvs,hk⟩ | ⟨kvs,hk⟩
    ·obtain ⟨_,_,_,_,o,_,_,e,ex,_⟩:=I.hok p _ hk
     exact ⟨o,e,ex⟩
    ·obtain ⟨_,_,_,_,o,_,_,e,ex,_⟩:=I.hok p _ hk
     exact ⟨o,e,ex⟩
   obtain ⟨o,e,ex⟩:=z
   refine ⟨⟨o,e,ex.1⟩,fun a e2=>?_⟩
   cases e2
   exact ⟨o,e,ex.2.1⟩
  ·obtain ⟨o,_,_,_,e,ex,_⟩:=I.hok p _ hk
   refine ⟨⟨o,e,ex.1⟩,fun a e2=>?_⟩
   cases e2
   exact ⟨o,e,ex.2.1⟩
 | _=>exact False.elim ty
noncomputable def X3 (K:PySem.W.Frag) (T:String) (r:V→List V→Hp→VK→Prop) (to:TE):TE:=fun σ H Q=>to σ H fun x H1=>Ax K T x H1∧r x [] H1 Q
noncomputable def tBM (K:PySem.W.Frag) (T:String) (r:V→List V→Hp→VK→Prop) (to:TE) (t:TA):TE:=fun σ H Q=>to σ H fun x H1=>Ax K T x H1∧t σ H1 fun xs H2=>r x xs H2 Q
variable {o e:Expr}{es:List Expr}{to:TE}{t:TA}{name:Str}{apos cpos:Pos}{T id:String}{r:V→List V→Hp→VK→Prop}
theorem LV (pa:PlainAttrs T) (slot:Slot T name id) (hty:typeOf (.builtin id)=pure (.type "method_descriptor")) (hm:rL X id r) (ho:PE X o to)
  (hbase:attributeBase o name X.env (eval o X.env)=eval o X.env:=by rfl) (hline:(apos.endLine==cpos.line)=true:=by rfl):PE X (.Call (.Attribute o name apos) [] [] cpos) (X3 X.K T r to):=by
 intro pins s σ H Q I h
 refine wpAny_Call_method0_late hbase hline (bE (ho pins s σ H _ I h) fun v s1 ⟨x,H1,I1,r1,ty,q1⟩=>?_)
 obtain ⟨h1,h2⟩:=Ay I1 r1 ty
 exact ⟨T,id,pa,slot,hty,h1,h2,Calls.callWith_builtin rfl (PySem.evalArgs_none (hm pins s1 σ H1 x [] v [] Q I1 r1 .nil q1))⟩
theorem Sw (pa:PlainAttrs T) (slot:Slot T name id) (hty:typeOf (.builtin id)=pure (.type "method_descriptor")) (hm:rL X id r) (ho:PE X o to) (ha:PA X (e :: es) t)
  (hbase:attributeBase o name X.env (eval o X.env)=eval o X.env:=by rfl)
  (hfew:((backTo cpos (starEach (e :: es) X.env)).all (fun x=>!x.1)&&(backToKw cpos (keywordEach [] X.env)).all (fun x=>x.1.isSome)
   &&decide ((e :: es).length+([]:List Keyword).length+(if ([]:List Keyword).isEmpty then 0 else 1)<30))=true:=by rfl)
  (hline:(apos.endLine==cpos.line)=true:=by rfl) (hs:starEach (e :: es) X.env=(false,eval e X.env) :: starEach es X.env:=by rfl) (hplain:(backTo cpos (starEach es X.env)).any (·.1)=false:=by rfl) :
  PE X (.Call (.Attribute o name apos) (e :: es) [] cpos) (tBM X.K T r to t):=by
 intro pins s σ H Q I h
 refine wpAny_Call_method_late hbase hfew hline rfl (bE (ho pins s σ H _ I h) fun v s1 ⟨x,H1,I1,r1,ty,q1⟩=>?_)
 obtain ⟨h1,h2⟩:=Ay I1 r1 ty
 refine ⟨T,id,pa,slot,hty,h1,h2,?_⟩
 have hA:=ha cpos pins s1 σ H1 _ I1 q1
 rw [hs] at hA ⊢
 refine Calls.callWith_builtin (by show (false || (backTo cpos (starEach es X.env)).any (·.1))=false;rw [hplain] <;> rfl) (Calls.evalArgs_plain ?_)
 exact bE hA fun us s2 ⟨vs,H2,I2,r2,q2⟩=>hm pins s2 σ H2 x vs v us Q I2 r1 r2 q2
end
end L2
namespace L2
open PySem PySem.Spec PyProof.Rows
noncomputable def LW (X:Cx) (id:String) (r:V→List V→Hp→VK→Prop):Prop:=
 ∀ (pins:List (Addr×Obj)) (s:Shared) (σ:St) (H:Hp) (x:V) (xs:List V) (v:Value) (us:List Value) (Q:VK),Inv X pins σ H s→RelV x v→Vals xs us→r x xs H Q→
  wpAny (model X.prog X.w) X.A (call (.builtin id) (v :: us)) (EP X pins σ Q) X.xe s
theorem Vals.one:∀ {x:V}{us:List Value},Vals [x] us→∃ u,us=[u]∧RelV x u
 | _,_,.cons r .nil=>⟨_,rfl,r⟩
theorem Vals.zero:∀ {us:List Value},Vals [] us→us=[]
 | _,.nil=>rfl
theorem Vals.dropLast {xs:List V}{us:List Value}(h:Vals xs us):Vals xs.dropLast us.dropLast:=by
 induction h with
 | nil=>exact .nil
 | cons r t ih=>
  cases t with
  | nil=>exact .nil
  | cons q t'=>exact .cons r ih
theorem Vals.reverse {xs:List V}{us:List Value}(h:Vals xs us):Vals xs.reverse us.reverse:=by
 induction h with
 | nil=>exact .nil
 | cons r t ih=>rw [List.reverse_cons,List.reverse_cons];exact Vals.append ih (.cons r .nil)
theorem Vals.rep {xs:List V}{us:List Value}(h:Vals xs us):∀ k:Nat,Vals (List.replicate k xs).flatten (List.replicate k us).flatten
 | 0=>.nil
 | k+1=>by
  rw [List.replicate_succ,List.replicate_succ,List.flatten_cons,List.flatten_cons]
  exact Vals.append h (Vals.rep h k)
theorem yz {α:Type}(l:List α):l.eraseIdx (l.length - 1)=l.dropLast:=by
 induction l with
 | nil=>rfl
 | cons a r ih=>
  cases r with
  | nil=>rfl
  | cons b r=>
   have e:(a :: b :: r).length - 1=((b :: r).length - 1)+1:=by
    have h1:(a :: b :: r).length=r.length+2:=rfl
    have h2:(b :: r).length=r.length+1:=rfl
    omega
   rw [e,List.eraseIdx_cons_succ,ih]
   all_goals rfl
theorem foldl_rep (its:List Value):∀ (k:Nat) (acc:List Value),
  List.foldl (fun x1 x2=>x1++x2) acc.toArray (List.replicate k its.toArray)=(acc++(List.replicate k its).flatten).toArray
 | 0,acc=>by simp
 | k+1,acc=>by
  have e:acc.toArray++its.toArray=(acc++its).toArray:=by simp
  have e2:(acc++its)++(List.replicate k its).flatten=acc++(List.replicate (k+1) its).flatten:=by
   rw [List.replicate_succ,List.flatten_cons,List.append_assoc]
  rw [←e2,←foldl_rep its k (acc++its),←e,List.replicate_succ,List.foldl_cons]
section
variable {X:Cx}{pins:List (Addr×Obj)}{σ:St}{H:Hp}{s:Shared}{l b:Addr}{xs ys zs:List V}
theorem Inv.CW {its its':List Value}{n:Nat}{f:Array Value→Array Value}{t':Nat}(I:Inv X pins σ H s) (hH:H l=some (.lst xs))
  (e:s.heap.get? l=some { cls:=.type "list",data:=.seq its.toArray n }) (hf:f its.toArray=its'.toArray) (hv:Vals ys its') (hz:ys.length≤sizeLine) :
  Inv X pins σ (upd H l (.lst ys)) { s with heap:=s.heap.update l (Obj.mapSeq f),toks:=t' }:=by
 have q:=PySem.IsL.update e f
 rw [hf] at q
 refine I.write (x:=l) (e:=l) (by rw [hH];exact trivial) (.inl rfl) (fun b' u hb hu=>(Heap.get?_update_other s.heap (Obj.mapSeq f) (Ne.symm hb)).trans hu) ⟨_,q⟩ ?_
 exact ⟨hz,its',_,hv,q⟩
theorem Inv.CY {its:List Value}{t':Nat}(I:Inv X pins σ H s) (hv:Vals ys its) (hz:ys.length≤sizeLine) :
  Inv X pins σ (upd H s.heap.objs.size (.lst ys)) { s with heap:=s.heap.push { cls:=.type "list",data:=.seq its.toArray },toks:=t' }:=
 I.laid (fun _ _ q=>Heap.get?_push_of_some _ q) (Nat.le_refl _) ⟨hz,its,0,hv,Heap.get?_push_size _ rfl⟩
theorem Inv.fresh (I:Inv X pins σ H s):H s.heap.objs.size=none:=I.hok.fresh (Nat.le_refl _)
theorem Inv.oW (I:Inv X pins σ H s) (hH:H l=some (.lst xs)):xs.length≤sizeLine∧∃ (its:List Value) (n:Nat),Vals xs its∧xs.length=its.length∧s.heap.get? l=some { cls:=.type "list",data:=.seq its.toArray n }:=by
 obtain ⟨z,its,n,r,e⟩:=I.hok l _ hH
 exact ⟨z,its,n,r,r.length,e⟩
theorem ud {n:Nat}(h:n≤sizeLine):Builtin.List.listTooLong n=false:=by
 unfold Builtin.List.listTooLong
 exact decide_eq_false (by omega)
end
section
variable {X:Cx}
noncomputable def Je:V→List V→Hp→VK→Prop:=fun x vs H Q=>∃ l xs y,x=.ref l∧vs=[y]∧H l=some (.lst xs)∧xs.length<sizeLine∧Q .bf (upd H l (.lst (xs++[y])))
theorem rM:LW X "list.append" Je:=by
 intro pins s σ H x vs v us Q I rx rv h
 obtain ⟨l,xs,y,rfl,rfl,hH,hz,q⟩:=h
 cases rx
 obtain ⟨u,rfl,ru⟩:=rv.one
 obtain ⟨z,its,n,r,hl,e⟩:=I.oW hH
 refine call_meets F.slot_list_append ⟨_,e,rfl⟩ F.entry_list_append (F.args_list_append_2 _ _) (PySem.list_append l its.toArray n u (by rw [List.size_toArray];omega)) ⟨e,?_⟩
 refine ⟨.bf,_,I.CW (its':=its++[u]) hH e (by simp) (r.append (.cons ru .nil)) ?_,rfl,q⟩
 rw [List.length_append,List.length_singleton]
 omega
noncomputable def Jf:V→List V→Hp→VK→Prop:=fun x vs H Q=>∃ l b xs zs,x=.ref l∧vs=[.ref b]∧H l=some (.lst xs)∧H b=some (.lst zs)∧xs.length+zs.length≤sizeLine∧Q .bf (upd H l (.lst (xs++zs)))
theorem Az:LW X "list.extend" Jf:=by
 intro pins s σ H x vs v us Q I rx rv h
 obtain ⟨l,b,xs,zs,rfl,rfl,hH,hB,hz,q⟩:=h
 cases rx
 obtain ⟨u,rfl,ru⟩:=rv.one
 cases ru
 obtain ⟨z,its,n,r,hl,e⟩:=I.oW hH
 obtain ⟨z2,its2,n2,r2,hl2,e2⟩:=I.oW hB
 have hsz:its.toArray.size+its2.toArray.size≤sizeLine:=by rw [List.size_toArray,List.size_toArray];omega
 have yC:¬ (!its.toArray.isEmpty&&Builtin.List.listTooLong (its.toArray.size+its2.toArray.size))=true:=by
  rw [ud hsz,Bool.and_false]
  exact Bool.false_ne_true
 refine call_meets F.slot_list_extend ⟨_,e,rfl⟩ F.entry_list_extend (F.args_list_extend_2 _ _)
  (AutoSeq1.list_extend_list_list_0 l its.toArray n b its2.toArray n2 yC (by rw [List.size_toArray];omega) (by omega)) ⟨e,e2,?_⟩
 refine ⟨.bf,_,I.CW (its':=its++its2) hH e (by simp) (r.append r2) ?_,rfl,q⟩
 rw [List.length_append]
 omega
noncomputable def X4:V→List V→Hp→VK→Prop:=fun x vs H Q=>∃ l xs y,x=.ref l∧vs=[]∧H l=some (.lst xs)∧xs[xs.length - 1]?=some y∧Q y (upd H l (.lst xs.dropLast))
theorem LX:LW X "list.pop" X4:=by
 intro pins s σ H x vs v us Q I rx rv h
 obtain ⟨l,xs,y,rfl,rfl,hH,hy,q⟩:=h
 cases rx
 have hus:=rv.zero
 subst hus
 obtain ⟨z,its,n,r,hl,e⟩:=I.oW hH
 obtain ⟨u,hu,ru⟩:=r.get hy
 have hy':its.toArray[its.toArray.size - 1]?=some u:=by
  show its.toArray[its.length - 1]?=some u
  rw [←Array.getElem?_toList,←hl]
  exact hu
 refine call_meets F.slot_list_pop ⟨_,e,rfl⟩ F.entry_list_pop (F.args_list_pop_1 _) (MeetsSeq.list_pop_last l its.toArray n u hy' (by rw [List.size_toArray];omega)) ⟨e,?_⟩
 refine ⟨y,_,I.CW (its':=its.dropLast) hH e ?_ r.dropLast ?_,ru,q⟩
 ·show its.toArray.eraseIdxIfInBounds (its.toArray.size - 1)=its.dropLast.toArray
  rw [List.size_toArray,List.eraseIdxIfInBounds_toArray,yz]
 ·rw [List.length_dropLast]
  omega
noncomputable def X5:R2:=fun x y H Q=>∃ l b xs zs,x=.ref l∧y=.ref b∧H l=some (.lst xs)∧H b=some (.lst zs)∧xs.length+zs.length≤sizeLine∧∀ p,H p=none→Q (.ref p) (upd H p (.lst (xs++zs)))
theorem LY:d7 X (binaryOp .Add) X5:=by
 intro pins s σ H x y v u Q I rx ry h
 obtain ⟨l,b,xs,zs,rfl,rfl,hH,hB,hz,q⟩:=h
 cases rx
 cases ry
 obtain ⟨z,its,n,r,hl,e⟩:=I.oW hH
 obtain ⟨z2,its2,n2,r2,hl2,e2⟩:=I.oW hB
 refine PySem.P.add_list e e2 ?_ (by rw [List.size_toArray,List.size_toArray];omega)
 have ea:its.toArray++its2.toArray=(its++its2).toArray:=by simp
 rw [ea]
 exact ⟨.ref _,_,I.CY (t':=s.toks) (r.append r2) (by rw [List.length_append];omega),rfl,q _ I.fresh⟩
noncomputable def X6:R2:=fun x y H Q=>∃ l k xs,x=.ref l∧y=.int k∧H l=some (.lst xs)∧-(2 ^ 63)≤k∧k<2 ^ 63∧xs.length*k.toNat≤sizeLine∧
 ∀ p,H p=none→Q (.ref p) (upd H p (.lst (List.replicate k.toNat xs).flatten))
theorem len_rep {α:Type}(xs:List α) (k:Nat):(List.replicate k xs).flatten.length=k*xs.length:=by
 induction k with
 | zero=>simp
 | succ k ih=>rw [List.replicate_succ,List.flatten_cons,List.length_append,ih,Nat.succ_mul,Nat.add_comm]
theorem LZ:d7 X (binaryOp .Mult) X6:=by
 intro pins s σ H x y v u Q I rx ry h
 obtain ⟨l,k,xs,rfl,rfl,hH,h1,h2,hz,q⟩:=h
 cases rx
 obtain ⟨t,rfl⟩:=ry
 obtain ⟨z,its,n,r,hl,e⟩:=I.oW hH
 have hlen:its.toArray.size*k.toNat≤sizeLine:=by rw [List.size_toArray,←hl];exact hz
 have hcap:¬ its.toArray.size*k.toNat > (2 ^ 63 - 1) / 8:=by
  have:(sizeLine:Nat)≤(2 ^ 63 - 1) / 8:=by decide
  omega
 have hfit:¬ (!Builtin.List.listFitsIndex k)=true:=by
  rw [fitsIndex_both h1 h2]
  exact Bool.false_ne_true
 have yC:¬ Builtin.List.listTooLong (its.toArray.size*k.toNat)=true:=by
  rw [ud hlen]
  exact Bool.false_ne_true
 have hnew:List.foldl (fun x1 x2=>x1++x2) #[] (List.replicate (if its.toArray.isEmpty=true then 0 else k.toNat) its.toArray)=(List.replicate k.toNat its).flatten.toArray:=by
  have f0:∀ m:Nat,List.foldl (fun x1 x2=>x1++x2) #[] (List.replicate m its.toArray)=(List.replicate m its).flatten.toArray:=fun m=>by
   have:=foldl_rep its m []
   rw [List.nil_append] at this
   exact this
  rw [f0]
  cases its with
  | nil=>simp
  | cons a r'=>rw [if_neg (by simp)]
 refine wpAny_binaryOp_repeat_ref (T:="list") (U:="int") (by decide) ⟨_,e,rfl⟩ (fun s'=>typeIs_int s' k t) noFill_list_mul F.fills_int_mul F.slot_int_rmul repeat_list F.slot_int_index.lookup
  (call_meets F.slot_int_rmul (typeIs_int s k t) F.entry_int_rmul (F.args_int_rmul_2 _ _) (int___rmul___int_list k t l its.toArray n)
   ⟨e,rfl,⟨_,e,rfl⟩,call_meets F.slot_list_mul ⟨_,e,rfl⟩ F.entry_list_mul (F.args_list_mul_2 _ _) (AutoListH.list___mul___list_int_3 l its.toArray n k t hfit hcap yC) ⟨e,?_⟩⟩)
 rw [hnew]
 exact ⟨.ref _,_,I.CY (t':=s.toks) (r.rep k.toNat) (by rw [len_rep,Nat.mul_comm];exact hz),rfl,q _ I.fresh⟩
end
section
variable {prog:Program}{w:World}{A:Around}{E:Value→Shared→Prop}{s:Shared}
end
section
variable {X:Cx}
end
end L2
namespace Vc
open PySem PySem.W PySem.Calls PyProof.Rows
theorem pK {P:Params}{h:Heap}:∀ (ns:List Int) (vs:List Value),WellAll P h vs (ns.map WData.int)→IntsAre vs ns:=by
 intro ns
 induction ns with
 | nil=>
  intro vs w
  rw [List.map_nil] at w
  cases w
  exact .nil
 | cons n ns ih=>
  intro vs w
  rw [List.map_cons] at w
  cases w with
  | cons a b=>
   cases a
   exact .cons _ _ (ih _ b)
theorem AA {l:OpenLaw}{n:Nat}(hn:l.most=some n){P:Params}{h:Heap}{args:List WData}{vals:List Value}
  (hpre:l.row.toRowW.claim.pre args=true) (hwl:WellAll P h vals args) :
  ∃ a vs ns,vals=[Value.ref a]∧args=[WData.list (ns.map WData.int)]∧h.get? a=some { cls:=.type "list",data:=.seq vs.toArray }∧IntsAre vs ns∧ns.length≤n:=by
 have hsh:WShape.hasAll [] args [.list .int]=true:=(pre_splitW hpre).1
 have hc:l.pre.holds [] { args:=args }=true:=(pre_splitW hpre).2
 obtain ⟨d,r,rfl,h1,h2⟩:=hasAllW_cons hsh
 obtain rfl:=hasAllW_nil h2
 obtain ⟨xs,rfl,h3⟩:=hasW_list h1
 obtain ⟨ns,rfl⟩:=items_int h3
 have hlen:ns.length≤n:=by
  unfold OpenLaw.pre at hc
  have h4:(WTm.not (.lt (.lit (.int (n:Int))) (.len (.arg 0)))).holds [] { args:=[.list (ns.map .int)]}=true:=by
   have h4:=(holds_andW hc).1
   rw [hn] at h4
   exact h4
  have h5:=condW_of h4 (w_not (w_lt w_lit (w_len_list (w_arg rfl))))
  rw [List.length_map] at h5
  refine Nat.le_of_not_lt fun q=>?_
  have q':(n:Int)<((ns.length:Nat):Int):=by omega
  first
   | (rw [decide_eq_true q'] at h5;exact absurd h5 (by decide))
   | (simp at h5;omega)
 cases hwl with
 | cons w1 w2=>
  cases w2
  cases w1 with
  | list ho hall=>exact ⟨_,_,ns,rfl,rfl,ho,pK ns _ hall,hlen⟩
theorem AB (l:OpenLaw) (args:List WData):l.row.toRowW.claim.post args (.bool true) args=true:=
 postW_of (r:=l.row.toRowW) (X:=(true==true))
  (show WShape.has [] (.bool true) .bool=true by first | rfl | decide | simp [WShape.has,WShape.arms,WShape.armsAll])
  (show (WTm.eq .res (.lit (.bool true))).value [] { args:=args,res:=some (.bool true),after:=args }=some (.bool (true==true)) from w_eq_bool (w_res rfl) w_lit) rfl
theorem wk {l:OpenLaw}{n:Nat}{q:Program}{loose:List Str}{XP:(Str→Option Value)→Heap→Prop}{YP:World→Heap→Prop}{d:DefRec}
  (hn:l.most=some n) (hdf:d.params.defaults=[])
  (call:∀ (w:World) (s₀ s₁:Shared) (mg mb:Str→Option Value) (fa:Addr) (o:Obj) (pm cd doc:Value) (a:Addr) (vs:List Value) (ns:List Int),
   Ground q loose [] XP w s₀ mg mb s₁.heap→YP w s₁.heap→
   s₁.heap.get? fa=some o→o.data=.func (docDef d.name d.params d.body d.scope pm cd doc)→s₁.heap.CodeRec cd d.name→mg d.name=some (.ref fa)→
   s₁.heap.get? a=some { cls:=.type "list",data:=.seq vs.toArray }→IntsAre vs ns→ns.length≤n→s₁.gens = #[]→
   codeAny (model l.prog w) callerA (.call (.ref fa) ⟨[.ref a],[]⟩) (fun r s'=>r=.ok (.ret (.bool true))∧OldK s₁.heap s'.heap∧s'.os=s₁.os∧AllBare s'.gens) s₁) :
  WalkO q loose XP YP l.row.toRowW d [] (fun f vs=>PySem.call f vs):=by
 intro w s₀ s₁ mg mb G Y fa o pm cd doc dV kV ho hd hcd hD hmg hg args vals as hpre hlay hrd hwl hlo
 obtain rfl:dV=.none:=Dflts.none hD hdf
 obtain rfl:kV=.none:=Dflts.noKw hD
 obtain ⟨a,vs,ns,rfl,rfl,hobj,hints,hlen⟩:=AA hn hpre hwl
 refine enter_call (codeAny_mono (call w s₀ s₁ mg mb fa o pm cd doc a vs ns G Y ho (fd_plain hd) hcd hmg hobj hints hlen hg) fun r s' hq=>?_)
 obtain ⟨rfl,h2,h3,h4⟩:=hq
 exact ⟨.inl ⟨.bool true,.bool true,[],rfl,fun _=>rfl,.bool true,AB l _,fun _=>⟨List.Pairwise.nil,fun _ hm=>(nomatch hm)⟩⟩,h2,h3,h4⟩
section
variable {prog:Program}{w:World}{A:Around}{E:Value→Shared→Prop}{s:Shared}{K:Frag}
end
end Vc
namespace L2
open PySem PySem.Spec PyProof.Rows
theorem rN:∀ {vs:List Value}{ns:List Int},IntsAre vs ns→Vals (ns.map V.int) vs
 | _,_,.nil=>.nil
 | _,_,.cons n t h=>.cons ⟨t,rfl⟩ (rN h)
noncomputable def qJ (H:Hp):Prop:=∀ b,H b=none∨∃ o xs,H b=some (.bS o (.lst xs))
theorem CZ {P:Program}{w:World}{K:PySem.W.Frag}{mg mb:Str→Option Value}{CX:lX}{k:Nat}{fa a:Addr}{fd:FuncData}{x:Str}{sp:Sp}{s₁:Shared}{vs:List Value}{ns:List Int}
  (KX:K.In s₁.heap) (hns:s₁.heap.Ns mainGlobals mg) (hb:s₁.heap.Ns builtinsNs mb) (L0:∀ x:Str,x≠"__name__" →mb x=bootBuiltins x) (hlim:s₁.heap.NoLimit) (hg:s₁.gens = #[])
  (ha:s₁.heap.get? a=some { cls:=.type "list",data:=.seq vs.toArray }) (hi:IntsAre vs ns) (hl:ns.length≤sizeLine) (hr:fX k callerA)
  (F:∀ base:Heap,K.In base→base.Ns mainGlobals mg→iC P w K mg base CX k fa fd [x] sp) (hbind:∀ (s:Shared) (u:Value),BindsTo s fd ⟨[u],[]⟩ [(x,u)])
  (ku:∀ H:Hp,qJ H→eO K H a (ns.map V.int)→sp [.ref a] H (fun v _=>v=.bl true) fun _ _ _=>False)
  (AD:∀ H e s',CX [] H s₁ (fun _ _ _=>False) e s'→False) :
  codeAny (model P w) callerA (.call (.ref fa) ⟨[.ref a],[]⟩) (fun r s'=>r=.ok (.ret (.bool true))∧OldK s₁.heap s'.heap∧s'.os=s₁.os∧AllBare s'.gens) s₁:=by
 have rv:=rN hi
 have X7:=hi.length
 have core:∀ H:Hp,qJ H→eO K H a (ns.map V.int)→eL P w H s₁.heap→(∀ b,H b≠none→b=a)→(H a≠none→K.lookup a=none)→
   codeAny (model P w) callerA (.call (.ref fa) ⟨[.ref a],[]⟩) (fun r s'=>r=.ok (.ret (.bool true))∧OldK s₁.heap s'.heap∧s'.os=s₁.os∧AllBare s'.gens) s₁:=by
  intro H hO hS hok hA hK
  have wW:∀ {b:Addr} {o:Obj},s₁.heap.get? b=some o→H b=none→(kU s₁.heap H).get? b=some o:=fun e n=>CH e n
  have Av:∀ {b:Addr} {o:Obj} {es:Array DictEntry} {ep:Nat},s₁.heap.get? b=some o→o.data=.dict es ep→H b=none:=fun {b o es ep} e d=>by
   cases q:H b with
   | none=>rfl
   | some u=>
    have e':b=a:=hA b (by rw [q];simp)
    subst e'
    rw [ha] at e;cases e
    have d':Data.seq vs.toArray _=Data.dict es ep:=d
    cases d'
  have FP:∀ {b:Addr} {m:Str→Option Value},s₁.heap.Ns b m→(kU s₁.heap H).Ns b m:=fun {b m} ⟨o,es,ep,e,d,r⟩=>⟨o,es,ep,wW e (Av e d),d,r⟩
  have Vd:K.In (kU s₁.heap H):=fun b o e=>wW (KX b o e) (by
   cases q:H b with
   | none=>rfl
   | some u=>
    have e':b=a:=hA b (by rw [q];simp)
    subst e'
    rw [hK (by rw [q];simp)] at e;cases e)
  have hM:Mod K mg (kU s₁.heap H):=⟨Vd,FP hns,⟨mb,FP hb,L0⟩,let ⟨mc,h1,h2⟩:=hlim;⟨mc,FP h1,h2⟩⟩
  have e0:yw P w K mg (kU s₁.heap H) callerA [] s₁ H:=⟨rfl,hM,fun b o e=>II e,Nat.le_of_eq (Ac _ _),trivial,fun b hb=>absurd (show b∈([]:List Addr) from hb) (by simp),hok,.of_eq hg⟩
  refine codeAny_mono ((F _ Vd (FP hns)).run callerA [] s₁ H ⟨[.ref a],[]⟩ [.ref a] [.ref a] _ _ hr e0 (hbind s₁ (.ref a)) (.cons rfl .nil) (ku H hO hS)) fun r s' h=>?_
  cases r with
  | error e=>exact (AD H e s' h).elim
  | ok fl=>
   cases fl with
   | next=>exact False.elim h
   | brk=>exact False.elim h
   | cont=>exact False.elim h
   | ret u=>
    obtain ⟨v,H',os,bare,un,X8,r',q⟩:=h
    have q':v=.bl true:=q
    subst q'
    obtain rfl:u=Value.bool true:=r'
    refine ⟨rfl,OldK.of_keep fun b o e=>?_,os,bare⟩
    cases q:H b with
    | none=>exact un.keep b o e q (by intro z;exact absurd (show b∈([]:List Addr) from z) (by simp)) (by simp)
    | some u=>
     rcases hO b with z | ⟨ob,xs,z⟩
     ·rw [q] at z;cases z
     ·have z2:=un.kT b ob _ z
      obtain ⟨e1,_⟩:=hok b _ z
      obtain ⟨e2,_⟩:=X8 b _ z2
      rw [e] at e1;cases e1
      exact e2
 cases hk:K.lookup a with
 | some o=>
  have e:=KX a o hk
  rw [ha] at e
  cases e
  refine core (fun _=>none) (fun _=>.inl rfl) (.inr ⟨_,vs.toArray,_,hk,rfl,rfl,rfl,by rw [List.size_toArray,X7];exact hl,by simpa using rv⟩) (fun b u z=>by have z':(none:Option HO)=some u:=z;cases z') (fun b z=>absurd rfl z) fun z=>absurd rfl z
 | none=>
  refine core (fun b=>if b=a then some (.bS { cls:=.type "list",data:=.seq vs.toArray } (.lst (ns.map V.int))) else none) (fun b=>?_) (.inl (.inr ⟨{ cls:=.type "list",data:=.seq vs.toArray },if_pos rfl⟩)) (fun b u z=>?_) (fun b z=>?_) fun _=>hk
  ·by_cases hb:b=a
   ·exact .inr ⟨_,_,if_pos hb⟩
   ·exact .inl (if_neg hb)
  ·by_cases hb:b=a
   ·have z':=(if_pos hb).symm.trans z
    cases z'
    subst hb
    exact ⟨ha,by rw [List.length_map];exact hl,vs,_,rv,ha⟩
   ·have z':=(if_neg hb).symm.trans z
    cases z'
  ·by_cases hb:b=a
   ·exact hb
   ·exact absurd (if_neg hb) z
end L2
namespace L2
open PySem PySem.Spec PyProof.Rows
theorem Jg {l:PySem.W.OpenLaw}{n k:Nat}{q:Program}{loose:List Str}{XP:(Str→Option Value)→Heap→Prop}{YP:World→Heap→Prop}{d:DefRec}{K:Params→PySem.W.Frag}{CX:World→lX}{sp:World→Sp}{x:Str}
  (hn:l.most=some n) (hn2:n≤sizeLine) (hdf:d.params.defaults=[]) (hr:fX k callerA)
  (hY:∀ (w:World) (h:Heap),YP w h→(K w.params).In h)
  (F:∀ (w:World) (mg:Str→Option Value) (fa:Addr) (h:Heap),(K w.params).In h→h.Ns mainGlobals mg→mg d.name=some (.ref fa)→
   ∃ fd:FuncData,(∀ (s:Shared) (u:Value),BindsTo s fd ⟨[u],[]⟩ [(x,u)])∧
    ∀ base:Heap,(K w.params).In base→base.Ns mainGlobals mg→iC l.prog w (K w.params) mg base (CX w) k fa fd [x] (sp w))
  (ku:∀ (w:World) (H:Hp) (a:Addr) (ns:List Int),ns.length≤n→qJ H→eO (K w.params) H a (ns.map V.int)→sp w [.ref a] H (fun v _=>v=.bl true) fun _ _ _=>False)
  (AD:∀ (w:World) (H:Hp) (s:Shared) (e:Value) (s':Shared),CX w [] H s (fun _ _ _=>False) e s'→False) :
  PySem.W.WalkO q loose XP YP l.row.toRowW d [] (fun f vs=>PySem.call f vs):=by
 refine Vc.wk hn hdf fun w s₀ s₁ mg mb fa o pm cd doc a vs ns G Y ho hd hcd hmg hobj hints hlen hg=>?_
 have KX:=hY w _ Y
 obtain ⟨fd,hb,hF⟩:=F w mg fa _ KX G.T.g hmg
 exact CZ KX G.T.g G.T.b G.T.builtins G.T.nolimit hg hobj hints (Nat.le_trans hlen hn2) hr hF hb (fun H hO hS=>ku w H a ns hlen hO hS) fun H e s'=>AD w H s₁ e s'
theorem C0 {l:PySem.W.OpenLaw}{n k:Nat}{q:Program}{loose:List Str}{XP:(Str→Option Value)→Heap→Prop}{YP:World→Heap→Prop}{d:DefRec}{K:Params→PySem.W.Frag}{CX:lX}{sp:PySem.W.Frag→Sp}{x:Str}
  (hn:l.most=some n) (hn2:n≤sizeLine) (hdf:d.params.defaults=[]) (hr:fX k callerA)
  (hY:∀ (w:World) (h:Heap),YP w h→(K w.params).In h)
  (F:∀ (w:World) (mg:Str→Option Value) (fa:Addr) (h:Heap),(K w.params).In h→h.Ns mainGlobals mg→mg d.name=some (.ref fa)→
   ∃ fd:FuncData,(∀ (s:Shared) (u:Value),BindsTo s fd ⟨[u],[]⟩ [(x,u)])∧
    ∀ base:Heap,(K w.params).In base→base.Ns mainGlobals mg→iC l.prog w (K w.params) mg base CX k fa fd [x] (sp (K w.params)))
  (ku:∀ (K:PySem.W.Frag) (H:Hp) (a:Addr) (ns:List Int),ns.length≤n→qJ H→eO K H a (ns.map V.int)→sp K [.ref a] H (fun v _=>v=.bl true) fun _ _ _=>False)
  (AD:∀ (H:Hp) (s:Shared) (e:Value) (s':Shared),CX [] H s (fun _ _ _=>False) e s'→False) :
  PySem.W.WalkO q loose XP YP l.row.toRowW d [] (fun f vs=>PySem.call f vs):=
 Jg (K:=K) (CX:=fun _=>CX) (sp:=fun w=>sp (K w.params)) hn hn2 hdf hr hY F (fun w H a ns h1 h2 h3=>ku (K w.params) H a ns h1 h2 h3) fun _ H s e s'=>AD H s e s'
end L2
namespace L2
open PySem PySem.Spec PyProof.Rows
noncomputable def aG (s:Stmt):Arguments:=match s with
 | .FunctionDef _ a _ _ _ _ _ _ _ _=>a
 | _=>{ posonlyargs:=[],args:=[],vararg:=none,kwonlyargs:=[],kw_defaults:=[],kwarg:=none,defaults:=[]}
noncomputable def aE (s:Stmt):List Stmt:=match s with
 | .FunctionDef _ _ b _ _ _ _ _ _ _=>b
 | _=>[]
noncomputable def aq (s:Stmt):Scope:=match s with
 | .FunctionDef _ _ _ _ _ _ sc _ _ _=>sc
 | _=>{ kind:=.function,names:=[],isGenerator:=false,isCoroutine:=false }
abbrev mG:lX:=fun _ _ _ _ _ _=>False
abbrev E0:XK:=fun _ _ _=>False
theorem Sx {X:Cx}:Passes mG X E0:=fun _ _ _ _ _ _ _ h=>h.elim
structure ue (K:PySem.W.Frag) (x qual:Str) (st:Stmt) (f:Addr) (fd:FuncData):Prop where
 ex:∃ (oc:Value) (od:Option Addr) (kV doc pm:Value) (an:Option Addr) (cdv ct:Value) (osl:Array (Option Value)),
  fd=PySem.W.fnOf x qual (aG st) (aE st) (aq st) .none kV doc pm an cdv ct∧K.lookup f=some ⟨oc,od,.func fd,osl⟩∧PySem.W.codeIn K cdv qual=true
 kp:PySem.W.keepIn K (.ref f)=true
section
variable {P:Program}{w:World}{K:PySem.W.Frag}{mg:Str→Option Value}{base:Heap}
theorem ue.ok {x qual:Str}{st:Stmt}{f:Addr}{fd:FuncData}{N ps:List Str}{k:Nat}{sp:Sp}(F:ue K x qual st f fd) (S:bz N ps (aq st)) (len:∀ vs H Q E,sp vs H Q E→vs.length=ps.length)
  (hbody:∀ (cdv:Value) (A:Around) (outer:List Env) (s:Shared) (H:Hp) (vs:List V) (Q:VK) (E:XK),fX k (A.deeper (envOfC qual (aq st) s.heap.objs.size f cdv))→sp vs H Q E→
   ∃ t,iA (oV mG P w K mg base N qual (aq st) f cdv A outer s H E).rD (aE st) t∧t { nx:=fun _ H'=>Q .bf H',rt:=Q } (start N vs) H):iC P w K mg base mG (k+1) f fd ps sp:=by
 obtain ⟨oc,od,kV,doc,pm,an,cdv,ct,osl,rfl,lk,hcd⟩:=F.ex
 refine So lk hcd S len fun A outer s H vs Q E hr ku=>?_
 obtain ⟨t,h,q⟩:=hbody cdv A outer s H vs Q E hr ku
 exact ⟨t,h.rD,q⟩
theorem ue.binds {x qual:Str}{st:Stmt}{f:Addr}{fd:FuncData}{ps:List Str}(F:ue K x qual st f fd)
  (h:∀ (kV doc pm:Value) (an:Option Addr) (cdv ct:Value) (us:List Value),us.length=ps.length→bindArgs (PySem.W.fnOf x qual (aG st) (aE st) (aq st) .none kV doc pm an cdv ct) ⟨us,[]⟩=pure (ps.zip us)):Binds K fd ps []:=by
 obtain ⟨oc,od,kV,doc,pm,an,cdv,ct,osl,rfl,lk,hcd⟩:=F.ex
 exact .all (h kV doc pm an cdv ct)
theorem b5 {x qual:Str}{st:Stmt}{f:Addr}{oc:Value}{od an:Option Addr}{osl:Array (Option Value)}{kV doc pm cdv ct:Value}(l:K.lookup f=some ⟨oc,od,.func (PySem.W.fnOf x qual (aG st) (aE st) (aq st) .none kV doc pm an cdv ct),osl⟩)
  (c:PySem.W.codeIn K cdv qual=true) (k:PySem.W.keepIn K (.ref f)=true):ue K x qual st f (PySem.W.fnOf x qual (aG st) (aE st) (aq st) .none kV doc pm an cdv ct):=⟨⟨oc,od,kV,doc,pm,an,cdv,ct,osl,rfl,l,c⟩,k⟩
end
theorem yD {A:Around}{k:Nat}(hr:fX k A):A.units+1<cLine:=Nat.lt_of_le_of_lt (Nat.add_le_add_left (by decide:1≤64) _) hr.units
section
variable {X:Cx}
theorem pv (i:Nat) {x:Str}{pos:Pos}(hN:X.N[i]?=some x:=by rfl) (hv:Ad X.env.scope x:=by first | exact Or.inl rfl | exact Or.inr (Or.inl rfl) | exact Or.inr (Or.inr rfl)) (hd:(x==("__debug__" : Str))=false:=by decide)
  (hcd:(x==("__classdict__" : Str))=false:=by decide):PE X (.Name x pos) (Li i):=Ah hN hv hd hcd
end
end L2
set_option maxRecDepth 100000
namespace L2
open PySem PySem.Spec PyProof.Rows
section
variable {κ:Type} [DecidableEq κ]
noncomputable def iD (kvs:List (κ×V)) (k:κ):Option V:=(kvs.find? fun kv=>decide (kv.1=k)).map (·.2)
noncomputable def putK (kvs:List (κ×V)) (k:κ) (v:V):List (κ×V):=
 if (kvs.any fun kv=>decide (kv.1=k))=true then kvs.map (fun kv=>if kv.1=k then (kv.1,v) else kv) else kvs++[(k,v)]
theorem oX {p:κ×V}{r:List (κ×V)}{k:κ}(e:p.1=k):iD (p :: r) k=some p.2:=by simp [iD,List.find?_cons,e]
theorem oY {p:κ×V}{r:List (κ×V)}{k:κ}(e:¬ p.1=k):iD (p :: r) k=iD r k:=by simp [iD,List.find?_cons,e]
theorem uf (k:κ):∀ kvs:List (κ×V),(kvs.any fun kv=>decide (kv.1=k))=(iD kvs k).isSome
 | []=>rfl
 | p :: r=>by
  rw [List.any_cons]
  by_cases e:p.1=k
  ·simp only [oX e,decide_eq_true e,Bool.true_or,Option.isSome_some]
  ·rw [oY e,decide_eq_false e,Bool.false_or];exact uf k r
theorem oA (kvs:List (κ×V)) (k:κ) (v:V):(putK kvs k v).length≤kvs.length+1:=by
 unfold putK
 split
 ·rw [List.length_map];omega
 ·rw [List.length_append,List.length_cons,List.length_nil];omega
theorem iW.AE {o:Option V}{u:Option Value}(r:iW o u):o.isSome=u.isSome:=by
 cases o with
 | none=>cases u with
  | none=>rfl
  | some _=>exact (show False from r).elim
 | some _=>cases u with
  | none=>exact (show False from r).elim
  | some _=>rfl
theorem iW.getD {o:Option V}{u:Option Value}{d:V}{d':Value}(r:iW o u) (rd:RelV d d'):RelV (o.getD d) (u.getD d'):=by
 cases o with
 | none=>cases u with
  | none=>exact rd
  | some _=>exact (show False from r).elim
 | some _=>cases u with
  | none=>exact (show False from r).elim
  | some _=>exact r
theorem KV.val {kvs:List (κ×V)}{vs:List (κ×Value)}(r:KV kvs vs) (k:κ):iW (iD kvs k) (valueAt vs k):=by
 unfold KV at r
 induction r with
 | nil=>exact True.intro
 | @cons p q ps qs h t ih=>
  obtain ⟨h1,h2⟩:=h
  by_cases e:p.1=k
  ·have e':q.1=k:=h1.symm.trans e
   have b:valueAt (q :: qs) k=some q.2:=by simp [valueAt,List.find?_cons,e']
   rw [oX e,b];exact h2
  ·have e':¬ q.1=k:=fun z=>e (h1.trans z)
   have b:valueAt (q :: qs) k=valueAt qs k:=by simp [valueAt,List.find?_cons,e']
   rw [oY e,b];exact ih
theorem KV.any {kvs:List (κ×V)}{vs:List (κ×Value)}(r:KV kvs vs) (k:κ):(kvs.any fun kv=>decide (kv.1=k))=vs.any fun kv=>decide (kv.1=k):=by
 unfold KV at r
 induction r with
 | nil=>rfl
 | cons h t ih=>rw [List.any_cons,List.any_cons,ih,h.1]
theorem KV.repl {kvs:List (κ×V)}{vs:List (κ×Value)}(r:KV kvs vs) (k:κ) {y:V}{u:Value}(ry:RelV y u) :
  KV (kvs.map fun kv=>if kv.1=k then (kv.1,y) else kv) (vs.map fun kv=>if kv.1=k then (kv.1,u) else kv):=by
 unfold KV at r ⊢
 induction r with
 | nil=>exact .nil
 | @cons p q ps qs h t ih=>
  rw [List.map_cons,List.map_cons]
  refine .cons ?_ ih
  obtain ⟨h1,h2⟩:=h
  by_cases e:p.1=k
  ·rw [if_pos e,if_pos (h1.symm.trans e)];exact ⟨h1,ry⟩
  ·rw [if_neg e,if_neg (fun z=>e (h1.trans z))];exact ⟨h1,h2⟩
theorem KV.put {kvs:List (κ×V)}{vs:List (κ×Value)}(r:KV kvs vs) (k:κ) {y:V}{u:Value}(ry:RelV y u):KV (putK kvs k y) (stored vs k u):=by
 unfold putK stored
 rw [r.any k]
 by_cases e:(vs.any fun kv=>decide (kv.1=k))=true
 ·rw [if_pos e,if_pos e];exact r.repl k ry
 ·rw [if_neg e,if_neg e];exact Paired.snoc r ⟨rfl,ry⟩
theorem KV.length {kvs:List (κ×V)}{vs:List (κ×Value)}(r:KV kvs vs):kvs.length=vs.length:=Paired.length r
end
theorem sS {P:Program}{w:World}{k:Key}{u:Value}(r:RelV (kV k) u):(cI P w).is k u=true:=by
 cases k with
 | inl i=>obtain ⟨t,e⟩:=(show ∃ t,u=Value.int i t from r);subst e;exact wg P w i t
 | inr x=>obtain ⟨t,e⟩:=(show ∃ t,u=Value.str x t from r);subst e;exact wj P w x t
theorem rP {P:Program}{w:World}:∀ {ks:List Key}{us:List Value},Vals (ks.map kV) us→ItemsAre (cI P w) ks us
 | [],_,r=>by rw [List.map_nil] at r;cases r;exact .nil
 | k :: ks,_,r=>by
  rw [List.map_cons] at r
  cases r with
  | cons h t=>exact .cons (sS h) (rP t)
abbrev KT (H:Hp):List (List Key×V)→List (List Key×Addr×Value)→Prop:=Paired fun p q=>p.1=q.1∧H q.2.1=some (.tup (p.1.map kV))∧RelV p.2 q.2.2
theorem KT.val {H:Hp}{kvs:List (List Key×V)}{xs:List (List Key×Addr×Value)}(r:KT H kvs xs) (k:List Key):iW (iD kvs k) ((atKey xs k).map (·.2)):=by
 induction r with
 | nil=>exact True.intro
 | @cons p q ps qs h t ih=>
  obtain ⟨h1,_,h2⟩:=h
  by_cases e:p.1=k
  ·have e':q.1=k:=h1.symm.trans e
   have b:atKey (q :: qs) k=some q.2:=by simp [atKey,List.find?_cons,e']
   rw [oX e,b];exact h2
  ·have e':¬ q.1=k:=fun z=>e (h1.trans z)
   have b:atKey (q :: qs) k=atKey qs k:=by simp [atKey,List.find?_cons,e']
   rw [oY e,b];exact ih
theorem KT.repl {H:Hp}{kvs:List (List Key×V)}{xs:List (List Key×Addr×Value)}(r:KT H kvs xs) (k:List Key) {y:V}{u:Value}(ry:RelV y u) :
  KT H (kvs.map fun kv=>if kv.1=k then (kv.1,y) else kv) (xs.map (putAt k u)):=by
 induction r with
 | nil=>exact .nil
 | @cons p q ps qs h t ih=>
  rw [List.map_cons,List.map_cons]
  refine .cons ?_ ih
  obtain ⟨h1,h2,h3⟩:=h
  unfold putAt
  by_cases e:p.1=k
  ·rw [if_pos e,if_pos (h1.symm.trans e)];exact ⟨h1,h2,ry⟩
  ·rw [if_neg e,if_neg (fun z=>e (h1.trans z))];exact ⟨h1,h2,h3⟩
theorem KT.put {H:Hp}{kvs:List (List Key×V)}{xs:List (List Key×Addr×Value)}(r:KT H kvs xs) (k:List Key) {b:Addr}{y:V}{u:Value}(hb:H b=some (.tup (k.map kV))) (ry:RelV y u) :
  KT H (putK kvs k y) (storedH xs k b u):=by
 have e:(kvs.any fun kv=>decide (kv.1=k))=(atKey xs k).isSome:=by
  rw [uf,(r.val k).AE,Option.isSome_map]
 unfold putK storedH
 rw [e]
 by_cases q:(atKey xs k).isSome=true
 ·rw [if_pos q,if_pos q];exact r.repl k ry
 ·rw [if_neg q,if_neg q];exact Paired.snoc r ⟨rfl,hb,ry⟩
theorem KT.keeps {H H':Hp}{kvs:List (List Key×V)}{xs:List (List Key×Addr×Value)}(r:KT H kvs xs) (ht:∀ b ys,H b=some (.tup ys)→H' b=some (.tup ys)):KT H' kvs xs:=
 Paired.CG r fun _ _ z=>⟨z.1,ht _ _ z.2.1,z.2.2⟩
section
variable {P:Program}{w:World}{H:Hp}{h:Heap}{a:Addr}
theorem FQ {u:HO}(ok:eL P w H h) (e:Rd H a u):dH P w H h a u:=e.ok ok
theorem pL {kvs:List (Key×V)}(ok:eL P w H h) (e:Rd H a (.dK kvs)):kvs.length≤sizeLine∧(a==sysModules)=false∧∃ vs,KV kvs vs∧h.DictOf (cI P w) a vs:=
 show dH P w H h a (.dK kvs) from FQ ok e
theorem FT {kvs:List (Key×V)}(ok:eL P w H h) (e:H a=some (.dK kvs)):kvs.length≤sizeLine∧(a==sysModules)=false∧∃ vs,KV kvs vs∧h.DictOf (cI P w) a vs:=pL ok (.inl e)
theorem pM {ks:List Key}(ok:eL P w H h) (e:H a=some (.tup (ks.map kV))):(tupleKind (cI P w)).is h ks a:=by
 obtain ⟨_,its,r,o,h1,h2,n,h3⟩:=(show dH P w H h a (.tup (ks.map kV)) from ok a _ e)
 exact ⟨o,its.toArray,n,h1,h2,h3,by simpa using rP r⟩
theorem pN {kvs:List (List Key×V)}(ok:eL P w H h) (e:Rd H a (.dT kvs)):kvs.length≤sizeLine∧(a==sysModules)=false∧
  ∃ xs,KT H kvs xs∧h.DictOfH (tupleKind (cI P w)) a xs:=by
 obtain ⟨z,y,xs,r,o,es,ep,h1,h2,h3,h4,h5⟩:=(show dH P w H h a (.dT kvs) from FQ ok e)
 refine ⟨z,y,xs,r,o,es,ep,h1,h2,h3,h4,fun x hx=>?_,h5⟩
 have all:∀ {l:List (List Key×V)} {m:List (List Key×Addr×Value)},KT H l m→∀ x∈m,(tupleKind (cI P w)).is h x.1 x.2.1:=by
  intro l m q
  induction q with
  | nil=>intro x hx;exact nomatch hx
  | @cons p q ps qs hq t ih=>
   intro x hx
   rcases List.mem_cons.mp hx with e | hx
   ·subst e
    exact pM ok (by rw [←hq.1];exact hq.2.1)
   ·exact ih x hx
 exact all r x hx
theorem Sy {kvs:List (List Key×V)}(ok:eL P w H h) (e:H a=some (.dT kvs)):kvs.length≤sizeLine∧(a==sysModules)=false∧
  ∃ xs,KT H kvs xs∧h.DictOfH (tupleKind (cI P w)) a xs:=pN ok (.inl e)
end
noncomputable def kY (H:Hp) (a:Addr) (y:V) (r:Option V):Prop:=
 (∃ kvs k,Rd H a (.dK kvs)∧y=kV k∧r=iD kvs k)∨∃ kvs k b,Rd H a (.dT kvs)∧y=.ref b∧H b=some (.tup (k.map kV))∧r=iD kvs k
noncomputable def ug (H:Hp) (a:Addr) (y v:V) (H':Hp):Prop:=
 (∃ kvs k,H a=some (.dK kvs)∧y=kV k∧kvs.length<sizeLine∧H'=upd H a (.dK (putK kvs k v)))∨
 ∃ kvs k b,H a=some (.dT kvs)∧y=.ref b∧H b=some (.tup (k.map kV))∧kvs.length<sizeLine∧H'=upd H a (.dT (putK kvs k v))
theorem kY.k {H:Hp}{a:Addr}{kvs:List (Key×V)}{k:Key}(e:H a=some (.dK kvs)):kY H a (kV k) (iD kvs k):=.inl ⟨kvs,k,.inl e,rfl,rfl⟩
theorem ug.k {H:Hp}{a:Addr}{kvs:List (Key×V)}{k:Key}{v:V}(e:H a=some (.dK kvs)) (hl:kvs.length<sizeLine):ug H a (kV k) v (upd H a (.dK (putK kvs k v))):=.inl ⟨kvs,k,e,rfl,hl,rfl⟩
section
variable {X:Cx}{pins:List (Addr×Obj)}{σ:St}{H:Hp}{s:Shared}{a:Addr}{y v:V}{u r:Value}{o:Option V}{A:Around}{E:Value→Shared→Prop}
theorem Inv.big (I:Inv X pins σ H s):sysModules<s.heap.objs.size:=by
 have h:mainGlobals<s.heap.objs.size:=(I.mod.glob.keeps I.bk).lt
 exact Nat.lt_trans (by decide) h
theorem AF {Q:Value→Shared→Prop}(hu:A.units+1<cLine) (I:Inv X pins σ H s) (g:kY H a y (some v)) (ry:RelV y u) (h:∀ w' s',Inv X pins σ H s'→RelV v w'→Q w' s') :
  wpAny (model X.prog X.w) A (getItem (.ref a) u) Q E s:=by
 rcases g with ⟨kvs,k,e,ey,l⟩ | ⟨kvs,k,b,e,ey,eb,l⟩
 ·subst ey
  obtain ⟨z,hd,vs,rel,dd⟩:=pL I.hok e
  obtain ⟨w',hw,rw'⟩:=iW.some_of (v:=v) (o:=valueAt vs k) (by rw [l];exact rel.val k)
  exact wpAny_getItem_of (sS ry) dd.mapOf hw (h w' _ (I.tok _) rw')
 ·subst ey
  cases (show u=Value.ref b from ry)
  obtain ⟨z,hd,xs,rel,dd⟩:=pN I.hok e
  obtain ⟨w',hw,rw'⟩:=iW.some_of (v:=v) (o:=(atKey xs k).map (·.2)) (by rw [l];exact rel.val k)
  obtain ⟨p,hp,hp2⟩:=Option.map_eq_some_iff.mp hw
  refine wpAny_getItem_heap (tupleKind_room_in1 hu) (pM I.hok eb) dd hp ?_
  rw [hp2]
  exact h w' _ (I.tok _) rw'
theorem wX {h':Heap}{t':Nat}{ob:HO}(I:Inv X pins σ H s) (mu:Ab (H a)) (hs:Heap.SameBut a s.heap h') (he:∃ q,h'.get? a=some q) (new:dH X.prog X.w (upd H a ob) h' a ob) :
  Inv X pins σ (upd H a ob) { s with heap:=h',toks:=t' }:=
 I.write (x:=a) (e:=a) mu (.inl rfl) (fun b q hb z=>(hs.2 b hb).trans z) he new
theorem L1 {P:Program}{w:World}{H':Hp}{h':Heap}{kvs:List (Key×V)}{vs:List (Key×Value)}(z:kvs.length≤sizeLine) (hd:(a==sysModules)=false) (rel:KV kvs vs) (dd:h'.DictOf (cI P w) a vs) :
  dH P w H' h' a (.dK kvs):=⟨z,hd,vs,rel,dd⟩
theorem AG {H':Hp}{Q:Unit→Shared→Prop}(hu:A.units+1<cLine) (I:Inv X pins σ H s) (g:ug H a y v H') (ry:RelV y u) (rv:RelV v r) (h:∀ s',Inv X pins σ H' s'→Q () s') :
  wpAny (model X.prog X.w) A (setItem (.ref a) u r) Q E s:=by
 rcases g with ⟨kvs,k,e,ey,l,eH⟩ | ⟨kvs,k,b,e,ey,eb,l,eH⟩
 ·subst ey eH
  obtain ⟨z,hd,vs,rel,dd⟩:=FT I.hok e
  have hz:vs.length≤sizeLine:=by rw [←rel.length];exact z
  have hl:(putK kvs k v).length≤sizeLine:=by have:=oA kvs k v;omega
  refine wpAny_setItem_pairs (hsz:=hz) (sS ry) dd fun h' FU hs=>h _ ?_
  have he:∃ q,h'.get? a=some q:=let ⟨q,_,_,hq,_⟩:=FU;⟨q,hq⟩
  exact wX I (by rw [e];exact True.intro) hs he (L1 hl hd (rel.put k rv) FU)
 ·subst ey eH
  cases (show u=Value.ref b from ry)
  obtain ⟨z,hd,xs,rel,dd⟩:=Sy I.hok e
  have hz:xs.length≤sizeLine:=by rw [←Paired.length rel];exact z
  have hl:(putK kvs k v).length≤sizeLine:=by have:=oA kvs k v;omega
  refine wpAny_setItem_heap (hsz:=hz) (tupleKind_room_in1 hu) (pM I.hok eb) dd fun h' FU hs=>h _ ?_
  obtain ⟨q,es,ep,hq,h2,h3,h4,_,h5⟩:=FU
  refine wX I (by rw [e];exact True.intro) hs ⟨q,hq⟩ ⟨hl,hd,_,(rel.put k eb rv).keeps fun c ys ec=>?_,q,es,ep,hq,h2,h3,h4,h5⟩
  rw [aV (gZ ec e (fun z=>nomatch z))]
  exact ec
end
section
variable {X:Cx}{pins:List (Addr×Obj)}{σ:St}{H:Hp}{s:Shared}{a:Addr}{kvs:List (Key×V)}{k:Key}{u:Value}{A:Around}{E:Value→Shared→Prop}
end
noncomputable def C1 (i:Expr):Prop:=∀ ov iv,subscripted i false ov iv=operate [ov,iv] (getItem ov iv)
theorem Jh {prog:Program}{w:World}{A:Around}{E:Value→Shared→Prop}{s:Shared}{env:Env}{value slice:Expr}{pos:Pos}{T id:String}{Q:Value→Shared→Prop}
  (hl:typeLookup (.type T) "__getitem__" = pure (some (.builtin id))) (hs:C1 slice)
  (h:wpAny (model prog w) A (eval value env) (fun o s₁=>wpAny (model prog w) A (eval slice env) (fun i s₂=>s₂.TypeIs o T∧wpAny (model prog w) A (getItem o i) Q E s₂) E s₁) E s) :
  wpAny (model prog w) A (eval (.Subscript value slice pos) env) Q E s:=by
 refine Subscript_ (wpAny_mono h (fun o s₁ h₁=>wpAny_mono h₁ (fun i s₂ h₂=>?_) fun _ _ x=>x) fun _ _ x=>x)
 obtain ⟨hT,h₂⟩:=h₂
 unfold subscriptTail
 refine wpAny_bind ?_
 rw [getitemInPython_of_ne hT.not_modules]
 refine wpAny_bind (wpAny_specialOf hT hl ?_)
 have fin:wpAny (model prog w) A (subscripted slice false o i) (fun r s₃=>wpAny (model prog w) A (letTemporaryGo value o r >>= fun _=>pure r) Q E s₃) E s₂:=by
  rw [hs o i]
  exact wpAny_operating (wpAny_mono h₂ (fun r s₃ h₃=>wpAny_bind (wpAny_letTemporaryGo (wpAny_pure h₃))) fun _ _ x=>x)
 first
  | exact wpAny_pure (wpAny_bind fin)
  | exact wpAny_bind (wpAny_pure (wpAny_bind fin))
  | exact wpAny_bind fin
theorem wm {X:Cx}{pins:List (Addr×Obj)}{σ:St}{H:Hp}{s:Shared}{a:Addr}{y:V}{o:Option V}(I:Inv X pins σ H s) (g:kY H a y o):s.TypeIs (.ref a) "dict" :=by
 rcases g with ⟨kvs,k,e,_,_⟩ | ⟨kvs,k,b,e,_,_,_⟩
 ·obtain ⟨_,_,vs,_,dd⟩:=pL I.hok e
  exact dd.typeIs
 ·obtain ⟨_,_,xs,_,dd⟩:=pN I.hok e
  exact dd.typeIs
noncomputable def SA (td ty:TE):TE:=fun σ H Q=>td σ H fun x H1=>ty σ H1 fun y H2=>∃ a v,x=.ref a∧kY H2 a y (some v)∧Q v H2
noncomputable def SD (td ty tv:TE):TS:=fun D σ H=>tv σ H fun v H1=>td σ H1 fun x H2=>ty σ H2 fun y H3=>∃ a H4,x=.ref a∧ug H3 a y v H4∧D.nx σ H4
section
variable {X:Cx}{o i e value:Expr}{pos pos' tpos:Pos}{td ty tv:TE}
theorem Ji (hu:X.A.units+1<cLine) (ho:PE X o td) (hi:PE X i ty) (hs:C1 i):PE X (.Subscript o i pos) (SA td ty):=by
 intro pins s σ H Q I h
 refine Jh PySem.F.slot_dict_getitem.lookup hs (bE (ho pins s σ H _ I h) fun u s1 ⟨x,H1,I1,rx,q1⟩=>bE (hi pins s1 σ H1 _ I1 q1) fun iv s2 ⟨y,H2,I2,ry,a,v,ex,g,q2⟩=>?_)
 subst ex
 obtain rfl:u=Value.ref a:=rx
 exact ⟨wm I2 g,AF hu I2 g ry fun w' s3 I3 rw'=>⟨v,H2,I3,rw',q2⟩⟩
theorem Jj (hu:X.A.units+1<cLine) (ho:PE X o td) (hi:PE X i ty) (hv:PE X value tv) (hs:swapsWith value (some (.Subscript o i pos')) pos.line X.env=pure false) :
  PS X (.Assign [.Subscript o i pos'] value pos) (SD td ty tv):=by
 intro pins s σ H D I h
 refine wpAny_Assign_Subscript (bE (hv pins s σ H _ I h) fun r s1 ⟨v,H1,I1,rv,q1⟩=>bE (ho pins s1 σ H1 _ I1 q1) fun u s2 ⟨x,H2,I2,rx,q2⟩=>bE (hi pins s2 σ H2 _ I2 q2) fun iv s3 ⟨y,H3,I3,ry,a,H4,ex,g,q3⟩=>?_) hs
 subst ex
 obtain rfl:u=Value.ref a:=rx
 exact AG hu I3 g ry rv fun s4 I4=>⟨σ,H4,I4,q3⟩
end
theorem C2 {P:Program}{w:World}{H:Hp}(h:Heap) (hb:sysModules<h.objs.size):dH P w H (h.push { cls:=.type "dict",data:=.dict #[]}) h.objs.size (.dK []):=
 ⟨Nat.zero_le _,beq_eq_false_iff_ne.mpr (Ne.symm (Nat.ne_of_lt hb)),[],.nil,Heap.DictOf.new h⟩
noncomputable def L3:TE:=fun _ H Q=>∀ p,H p=none→Q (.ref p) (upd H p (.dK []))
section
variable {X:Cx}{pos:Pos}
theorem C3:PE X (.Dict [] [] pos) L3:=fun pins s σ H Q I h=>
 wpAny_Dict_empty ⟨.ref s.heap.objs.size,_,I.laid (a:=s.heap.objs.size) (o:=.dK []) (t':=s.toks) (fun _ _ q=>Heap.get?_push_of_some _ q) (Nat.le_refl _) (C2 s.heap I.big),rfl,h _ (I.hok.fresh (Nat.le_refl _))⟩
end
structure M1 (X:Cx) (o:Expr) (m:Str) (apos:Pos) (e:Expr) (cpos:Pos):Prop where
 base:attributeBase o m X.env (eval o X.env)=eval o X.env
 few:((backTo cpos (starEach [e] X.env)).all (fun x=>!x.1)&&(backToKw cpos (keywordEach [] X.env)).all (fun x=>x.1.isSome)
  &&decide (([e]:List Expr).length+([]:List Keyword).length+(if ([]:List Keyword).isEmpty then 0 else 1)<30))=true
 line:(apos.endLine==cpos.line)=true
 trees:backTo cpos (starEach [e] X.env)=[(false,eval e X.env)]
structure M2 (X:Cx) (o:Expr) (m:Str) (apos:Pos) (e f:Expr) (cpos:Pos):Prop where
 base:attributeBase o m X.env (eval o X.env)=eval o X.env
 few:((backTo cpos (starEach [e,f] X.env)).all (fun x=>!x.1)&&(backToKw cpos (keywordEach [] X.env)).all (fun x=>x.1.isSome)
  &&decide (([e,f]:List Expr).length+([]:List Keyword).length+(if ([]:List Keyword).isEmpty then 0 else 1)<30))=true
 line:(apos.endLine==cpos.line)=true
 trees:backTo cpos (starEach [e,f] X.env)=[(false,eval e X.env),(false,eval f X.env)]
noncomputable def Ve (H:Hp) (a:Addr):Prop:=(∃ kvs,Rd H a (.dK kvs))∨∃ kvs,Rd H a (.dT kvs)
theorem L4 {X:Cx}{pins:List (Addr×Obj)}{σ:St}{H:Hp}{s:Shared}{a:Addr}(I:Inv X pins σ H s) (d:Ve H a) :
  s.TypeIs (.ref a) "dict" ∧(∀ b,Value.ref a=.ref b→∃ ob,s.heap.get? b=some ob∧ob.dict=none)∧(a==sysModules)=false:=by
 rcases d with ⟨kvs,e⟩ | ⟨kvs,e⟩
 ·obtain ⟨_,hd,vs,_,dd⟩:=pL I.hok e
  refine ⟨dd.typeIs,fun b q=>?_,hd⟩
  cases q
  obtain ⟨ob,_,_,h1,h2,_⟩:=dd
  exact ⟨ob,h1,h2.2.1⟩
 ·obtain ⟨_,hd,xs,_,dd⟩:=pN I.hok e
  refine ⟨dd.typeIs,fun b q=>?_,hd⟩
  cases q
  obtain ⟨ob,_,_,h1,h2,_⟩:=dd
  exact ⟨ob,h1,h2.2.1⟩
section
variable {X:Cx}{pins:List (Addr×Obj)}{σ:St}{H:Hp}{s:Shared}{a:Addr}{y d:V}{u r:Value}{o:Option V}{A:Around}{E:Value→Shared→Prop}
theorem L5 {Q:Value→Shared→Prop}(hu:A.units+1<cLine) (I:Inv X pins σ H s) (g:kY H a y o) (ry:RelV y u) (rd:RelV d r) (h:∀ w' s',Inv X pins σ H s'→RelV (o.getD d) w'→Q w' s') :
  wpAny (model X.prog X.w) A (call (.builtin "dict.get") [.ref a,u,r]) Q E s:=by
 rcases g with ⟨kvs,k,e,ey,l⟩ | ⟨kvs,k,b,e,ey,eb,l⟩
 ·subst ey
  obtain ⟨z,hd,vs,rel,dd⟩:=pL I.hok e
  refine call_meetsIn PySem.F.slot_dict_get dd.typeIs PySem.F.entry_dict_get (PySem.F.args_dict_get_3 _ _ _) (meets_dict_get_default (cI X.prog X.w) a (sS ry) hd r) ⟨_,dd.mapOf,h _ _ (I.tok _) ?_⟩
  rw [l]
  exact (rel.val k).getD rd
 ·subst ey
  cases (show u=Value.ref b from ry)
  obtain ⟨z,hd,xs,rel,dd⟩:=pN I.hok e
  refine call_meetsIn PySem.F.slot_dict_get dd.typeIs PySem.F.entry_dict_get (PySem.F.args_dict_get_3 _ _ _) (meetsH_dict_get_default (tupleKind (cI X.prog X.w)) a b hd r) ⟨tupleKind_room_in1 hu,k,xs,pM I.hok eb,dd,h _ _ (I.tok _) ?_⟩
  rw [l]
  exact (rel.val k).getD rd
end
noncomputable def L6 (td ty tx:TE):TE:=fun σ H Q=>td σ H fun x H1=>∃ a,x=.ref a∧Ve H1 a∧ty σ H1 fun y H2=>tx σ H2 fun z H3=>∃ o,kY H3 a y o∧Q (o.getD z) H3
section
variable {X:Cx}{o e f:Expr}{apos cpos:Pos}{td ty tx:TE}
theorem C4 (hu:X.A.units+1<cLine) (ho:PE X o td) (he:PE X e ty) (hf:PE X f tx) (m:M2 X o "get" apos e f cpos):PE X (.Call (.Attribute o "get" apos) [e,f] [] cpos) (L6 td ty tx):=by
 intro pins s σ H Q I h
 refine wpAny_Call_method m.base m.few m.line PySem.F.plainAttrs_dict PySem.F.slot_dict_get PySem.F.type_dict_get (bE (ho pins s σ H _ I h) fun u s1 ⟨x,H1,I1,rx,a,ex,d,q1⟩=>?_)
 subst ex
 obtain rfl:u=Value.ref a:=rx
 obtain ⟨t1,t2,_⟩:=L4 I1 d
 refine ⟨t1,t2,?_⟩
 rw [m.trees]
 refine Calls.callWith_builtin rfl (Calls.evalArgs_plain (Calls.spliced_cons (bE (he pins s1 σ H1 _ I1 q1) fun iv s2 ⟨y,H2,I2,ry,q2⟩=>
  Calls.spliced_cons (bE (hf pins s2 σ H2 _ I2 q2) fun fv s3 ⟨z,H3,I3,rz,ov,g,q3⟩=>Calls.spliced_nil ?_))))
 exact L5 hu I3 g ry rz fun w' s4 I4 rw'=>⟨_,H3,I4,rw',q3⟩
end
end L2
namespace Ev
inductive D where
 | bf | bl (b:Bool) | int (i:Int) | str (s:List Nat) | tup (ds:List D) | ref (n:Nat)
inductive O where
 | lst (ds:List D) | bS (ds:List D)
 | dct (kvs:List (Int×List Nat))
abbrev Hh:=List O
abbrev Fr:=List (Option D)
inductive R (α:Type) where
 | ok (a:α) (h:Hh)
 | bad
noncomputable def R.bind {α β:Type}(r:R α) (f:α→Hh→R β):R β:=
 match r with
 | .ok a h=>f a h
 | .bad=>.bad
@[simp] theorem ao {α β:Type} (a:α) (h:Hh) (f:α→Hh→R β):(R.ok a h).bind f=f a h:=rfl
@[simp] theorem C5 {α β:Type} (f:α→Hh→R β):(R.bad:R α).bind f=.bad:=rfl
theorem ai {α β:Type}{r:R α}{f:α→Hh→R β}{b:β}{h:Hh}(e:r.bind f=.ok b h):∃ a h1,r=.ok a h1∧f a h1=.ok b h:=by
 cases r with
 | ok a h1=>exact ⟨a,h1,rfl,e⟩
 | bad=>cases e
noncomputable def R.of {α:Type}(o:Option α) (h:Hh):R α:=match o with
 | some a=>.ok a h
 | none=>.bad
@[simp] theorem dJ {α:Type} (a:α) (h:Hh):R.of (some a) h=.ok a h:=rfl
@[simp] theorem of_none {α:Type} (h:Hh):R.of (none:Option α) h=.bad:=rfl
theorem aQ {α:Type}{o:Option α}{h h':Hh}{a:α}(e:R.of o h=.ok a h'):o=some a∧h'=h:=by
 cases o with
 | none=>cases e
 | some b=>cases e;exact ⟨rfl,rfl⟩
inductive bU where
 | add | sub | mul | fdiv | mod
inductive bN where
 | eq | ne | lt | gt
inductive TY where
 | int | bool | str | tuple | list
inductive BI where
 | len | sum | min
 | yE
 | jV
inductive ME where
 | join | append | extend | pop
inductive T where
 | one (i:Nat) | many (l:List Nat)
mutual
inductive E where
 | c (d:D) | v (i:Nat) | tup (es:Es) | lst (es:Es)
 | bin (o:bU) (a b:E) | cmp (o:bN) (a b:E)
 | nt (a:E) | neg (a:E) | an (a b:E) | orr (a b:E) | jW (t a b:E)
 | ix (a b:E) | sl (a:E) (lo hi:Eo)
 | cl (f:Nat) (es:Es) | bi (b:BI) (es:Es) | me (m:ME) (o:E) (es:Es)
 | comp (elt:E) (t:T) (it:It) (cond:Eo)
 | gQ (it:It)
 | mH (kvs:List (D×D)) (a:E) | jb (a:E)
 | iY | jX (a k:E) | lZ (a k x:E)
inductive Es where
 | nil | cons (e:E) (es:Es)
inductive Eo where
 | no | yes (e:E)
inductive It where
 | seq (e:E) | gz (es:Es)
 | enum (a:E) | rev (a:E)
end
mutual
inductive S where
 | set (i:Nat) (e:E) | j7 (l:List Nat) (e:E)
 | dput (o i e:E)
 | exp (e:E) | ret (e:E) | iff (t:E) (a b:Ss) | for (t:T) (it:It) (b:Ss) | mJ (t:E) (b:Ss)
 | fj
inductive Ss where
 | nil | cons (s:S) (ss:Ss)
end
inductive Fl where
 | nx | bk | ct | ret (d:D)
noncomputable def big:Nat:=16777216
noncomputable def cF (f:D→D→Option Bool):List D→List D→Option Bool
 | [],[]=>some true
 | x :: xs,y :: ys=>do
  let b ←f x y
  let c ←cF f xs ys
  pure (b&&c)
 | _,_=>some false
noncomputable def bx (h:Hh) (n:Nat):Option (List D):=match h[n]? with
 | some (.lst ds)=>some ds
 | some (.bS ds)=>some ds
 | _=>none
noncomputable def b2i (b:Bool):Int:=if b then 1 else 0
noncomputable def jC (h:Hh) (f:D→D→Option Bool) (a b:Nat):Option Bool:=if a=b then (bx h a).map fun _=>true else match h[a]?,h[b]? with
 | some (.lst x),some (.lst y)=>cF f x y
 | some (.bS x),some (.lst y)=>cF f x y
 | some (.lst x),some (.bS y)=>cF f x y
 | _,_=>none
noncomputable def gA (h:Hh):Nat→D→D→Option Bool
 | 0,_,_=>none
 | _+1,.bf,_=>none
 | _+1,.bl _,_=>none
 | _+1,_,.bf=>none
 | _+1,_,.bl _=>none
 | _+1,.int a,.int b=>some (a==b)
 | _+1,.str a,.str b=>some (a==b)
 | n+1,.tup a,.tup b=>cF (gA h n) a b
 | n+1,.ref a,.ref b=>jC h (gA h n) a b
 | _+1,.ref a,_=>(bx h a).map fun _=>false
 | _+1,_,.ref a=>(bx h a).map fun _=>false
 | _+1,_,_=>some false
noncomputable def deep:Nat:=20
noncomputable def truthy (h:Hh):D→Option Bool
 | .bf=>some false
 | .bl b=>some b
 | .int i=>some (i != 0)
 | .str s=>some (!s.isEmpty)
 | .tup ds=>some (!ds.isEmpty)
 | .ref n=>match h[n]? with
  | some (.dct kvs)=>some (!kvs.isEmpty)
  | _=>(bx h n).map fun ds=>!ds.isEmpty
noncomputable def alloc (ds:List D) (h:Hh):R D:=if ds.length≤big then .ok (.ref h.length) (h++[.lst ds]) else .bad
noncomputable def rep {α:Type}(k:Nat) (l:List α):List α:=(List.replicate k l).flatten
noncomputable def cz (i j:Int):Bool:=(decide (-(2 ^ 64)<i)&&decide (i<2 ^ 64)) || (decide (-(2 ^ 64)<j)&&decide (j<2 ^ 64))
noncomputable def bQ:bU→D→D→Hh→R D
 | .add,.int i,.int j,h=>.ok (.int (i+j)) h
 | .add,.str a,.str b,h=>if a.length+b.length≤big then .ok (.str (a++b)) h else .bad
 | .add,.tup a,.tup b,h=>if a.length+b.length≤big then .ok (.tup (a++b)) h else .bad
 | .add,.ref a,.ref b,h=>match h[a]?,h[b]? with
  | some (.lst x),some (.lst y)=>alloc (x++y) h
  | _,_=>.bad
 | .sub,.int i,.int j,h=>.ok (.int (i - j)) h
 | .mul,.int i,.int j,h=>if cz i j then .ok (.int (i*j)) h else .bad
 | .mul,.str a,.int k,h=>if 0≤k∧k≤1000∧a.length≤1000 then .ok (.str (rep k.toNat a)) h else .bad
 | .mul,.tup a,.int k,h=>if 0≤k∧k≤1000∧a.length≤1000 then .ok (.tup (rep k.toNat a)) h else .bad
 | .mul,.ref a,.int k,h=>match h[a]? with
  | some (.lst x)=>if 0≤k∧k≤1000∧x.length≤1000 then alloc (rep k.toNat x) h else .bad
  | _=>.bad
 | .fdiv,.int i,.int j,h=>if 0<j∧j<1073741824 then .ok (.int (i / j)) h else .bad
 | .mod,.int i,.int j,h=>if 0<j then .ok (.int (i % j)) h else .bad
 | _,_,_,_=>.bad
noncomputable def cop (o:bN) (x y:D) (h:Hh):Option Bool:=match o,x,y with
 | .eq,x,y=>gA h deep x y
 | .ne,x,y=>(gA h deep x y).map (!·)
 | .lt,.int i,.int j=>some (decide (i<j))
 | .gt,.int i,.int j=>some (decide (j<i))
 | _,_,_=>none
noncomputable def dP (n:Nat) (i:Int):Option Nat:=if 0≤i then (if i<n then some i.toNat else none) else if -(n:Int)≤i then some (i+n).toNat else none
noncomputable def bL {α:Type}(xs:List α) (i:Int):Option α:=(dP xs.length i).bind fun j=>xs[j]?
noncomputable def eF (x y:D) (h:Hh):Option D:=match x,y with
 | .tup ds,.int i=>bL ds i
 | .str s,.int i=>(bL s i).map fun c=>.str [c]
 | .ref n,.int i=>(bx h n).bind fun ds=>bL ds i
 | _,_=>none
noncomputable def aU (n d:Nat):Option Int→Nat
 | none=>d
 | some v=>if v<0 then (v+n).toNat else min v.toNat n
noncomputable def cut {α:Type}(xs:List α) (lo hi:Option Int):List α:=(xs.drop (aU xs.length 0 lo)).take (aU xs.length xs.length hi - aU xs.length 0 lo)
noncomputable def gc (x:D) (lo hi:Option Int) (h:Hh):R D:=match x with
 | .tup ds=>.ok (.tup (cut ds lo hi)) h
 | .str s=>.ok (.str (cut s lo hi)) h
 | .ref n=>match bx h n with
  | some ds=>alloc (cut ds lo hi) h
  | none=>.bad
 | _=>.bad
noncomputable def boolsOf:List D→Option (List Bool)
 | []=>some []
 | .bl b :: ds=>(boolsOf ds).map fun r=>b :: r
 | _=>none
noncomputable def intsOf:List D→Option (List Int)
 | []=>some []
 | .int i :: ds=>(intsOf ds).map fun r=>i :: r
 | _=>none
noncomputable def strsOf:List D→Option (List (List Nat))
 | []=>some []
 | .str s :: ds=>(strsOf ds).map fun r=>s :: r
 | _=>none
noncomputable def cS (sep:List Nat):List (List Nat)→List Nat
 | []=>[]
 | [s]=>s
 | s :: t :: r=>s++sep++cS sep (t :: r)
noncomputable def lexLe:List Nat→List Nat→Bool
 | [],_=>true
 | _ :: _,[]=>false
 | x :: xs,y :: ys=>if x=y then lexLe xs ys else decide (x<y)
noncomputable def L7 (x:List Nat):List (List Nat)→List (List Nat)
 | []=>[x]
 | y :: ys=>if lexLe x y then x :: y :: ys else y :: L7 x ys
noncomputable def ek:List (List Nat)→List (List Nat)
 | []=>[]
 | x :: xs=>L7 x (ek xs)
noncomputable def fk (kvs:List (Int×List Nat)) (k:Int):Option (List Nat):=(kvs.find? fun p=>decide (p.1=k)).map (·.2)
noncomputable def fK (kvs:List (Int×List Nat)) (k:Int) (s:List Nat):List (Int×List Nat):=if (kvs.any fun p=>decide (p.1=k))=true then kvs.map (fun p=>if p.1=k then (p.1,s) else p) else kvs++[(k,s)]
noncomputable def gf (h:Hh):D→Option (List (Int×List Nat))
 | .ref n=>match h[n]? with
  | some (.dct kvs)=>some kvs
  | _=>none
 | _=>none
noncomputable def uh (x y:D) (h:Hh):Option D:=match gf h x,y with
 | some kvs,.int k=>(fk kvs k).map .str
 | _,_=>none
noncomputable def um (x y z:D) (h h0:Hh):Option D:=match gf h0 x,gf h x,y with
 | some _,some kvs,.int k=>some (match fk kvs k with | some s=>.str s | none=>z)
 | _,_,_=>none
noncomputable def sU (x y z:D) (h:Hh):Option Hh:=match x,y,z with
 | .ref n,.int k,.str s=>match h[n]? with
  | some (.dct kvs)=>if kvs.length<big then some (h.set n (.dct (fK kvs k s))) else none
  | _=>none
 | _,_,_=>none
noncomputable def insI (x:Int):List Int→List Int
 | []=>[x]
 | y :: ys=>if x≤y then x :: y :: ys else y :: insI x ys
noncomputable def sortI:List Int→List Int
 | []=>[]
 | x :: xs=>insI x (sortI xs)
noncomputable def cX (b:BI) (xs:List D) (h:Hh):R D:=match b,xs with
 | .len,[.str s]=>if s.length≤big then .ok (.int s.length) h else .bad
 | .len,[.tup ds]=>.ok (.int ds.length) h
 | .len,[.ref n]=>R.of ((bx h n).map fun ds=>.int ds.length) h
 | .sum,[.ref n]=>R.of (((bx h n).bind intsOf).map fun is=>.int is.sum) h
 | .min,[.int i,.int j]=>.ok (.int (if j<i then j else i)) h
 | .yE,[.ref n]=>match (bx h n).bind intsOf with
  | some ss=>if ss.length<64 then alloc ((sortI ss).map .int) h else .bad
  | none=>.bad
 | .jV,[x]=>match gf h x with
  | some kvs=>if kvs.length<64 then alloc ((sortI (kvs.map (·.1))).map .int) h else .bad
  | none=>.bad
 | _,_=>.bad
noncomputable def fF (m:ME) (o:D) (xs:List D) (h:Hh):R D:=match m,o,xs with
 | .join,.str sep,[.ref n]=>match (bx h n).bind strsOf with
  | some ss=>if (ss.map (·.length)).sum+ss.length*sep.length≤big then .ok (.str (cS sep ss)) h else .bad
  | none=>.bad
 | .append,.ref n,[x]=>match h[n]? with
  | some (.lst ds)=>if ds.length<big then .ok .bf (h.set n (.lst (ds++[x]))) else .bad
  | _=>.bad
 | .extend,.ref n,[.ref m]=>match h[n]?,h[m]? with
  | some (.lst ds),some (.lst es)=>if ds.length+es.length≤big then .ok .bf (h.set n (.lst (ds++es))) else .bad
  | _,_=>.bad
 | .pop,.ref n,[]=>match h[n]? with
  | some (.lst ds)=>match ds[ds.length - 1]? with
   | some x=>.ok x (h.set n (.lst ds.dropLast))
   | none=>.bad
  | _=>.bad
 | _,_,_=>.bad
noncomputable def wY (m:ME) (x:D) (h:Hh):Bool:=match m,x with
 | .join,.str _=>true
 | .join,_=>false
 | _,.ref n=>(bx h n).isSome
 | _,_=>false
noncomputable def g6 (x:D):List (D×D)→Option D
 | []=>none
 | (k,v) :: r=>match gA [] 1 k x with
  | some true=>some v
  | some false=>g6 x r
  | none=>none
abbrev Src:=List D×List (Nat×List D)
noncomputable def fL (h:Hh):D→Option Src
 | .tup ds=>some (ds,[])
 | .str s=>some (s.map fun c=>.str [c],[])
 | .ref n=>(bx h n).map fun ds=>(ds,[(n,ds)])
 | _=>none
noncomputable def range (lo:Int) (n:Nat):List D:=(List.range n).map fun (i:Nat)=>.int (lo+i)
noncomputable def er:List D→Option Src
 | [.int j]=>if -(2 ^ 62)≤j∧j<2 ^ 62 then some (range 0 j.toNat,[]) else none
 | [.int i,.int j]=>if -(2 ^ 62)≤i∧i<2 ^ 62∧-(2 ^ 62)≤j∧j<2 ^ 62 then some (range i (j - i).toNat,[]) else none
 | _=>none
noncomputable def cJ:Int→List D→List D
 | _,[]=>[]
 | k,x :: xs=>.tup [.int k,x] :: cJ (k+1) xs
noncomputable def yF (a b:List D):Bool:=@decide (a=b) (Classical.propDecidable _)
theorem rQ (a b:List D):yF a b=true↔a=b:=@decide_eq_true_iff _ (Classical.propDecidable _)
@[simp] theorem yG (a:List D):yF a a=true:=(rQ a a).mpr rfl
noncomputable def stays (h:Hh):List (Nat×List D)→Bool
 | []=>true
 | (n,ds) :: r=>(match bx h n with | some es=>yF es ds | none=>false)&&stays h r
noncomputable def cR:List Nat→List D→Fr→Option Fr
 | [],[],fr=>some fr
 | i :: is,d :: ds,fr=>cR is ds (fr.set i (some d))
 | _,_,_=>none
noncomputable def bD:T→D→Fr→Option Fr
 | .one i,d,fr=>some (fr.set i (some d))
 | .many l,.tup ds,fr=>cR l ds fr
 | _,_,_=>none
noncomputable def slots:T→List Nat
 | .one i=>[i]
 | .many l=>l
noncomputable def undef (t:T) (fr:Fr):Bool:=(slots t).all fun i=>(fr[i]?.join).isNone
noncomputable def C6:D→Option (List D)
 | .tup ds=>some ds
 | _=>none
noncomputable def qK:D→Hh→R D
 | .tup ds,h=>.ok (.tup ds) h
 | .ref n,h=>match bx h n with
  | some ds=>if ds.length≤big then .ok (.tup ds) h else .bad
  | none=>.bad
 | _,_=>.bad
noncomputable def yH (h:Hh):D→Option Src
 | .ref n=>(bx h n).map fun ds=>(ds,[(n,ds)])
 | _=>none
noncomputable def cT (f:D→Hh→R (Option D)) (ck:List (Nat×List D)):List D→Hh→R (List D)
 | [],h=>if stays h ck then .ok [] h else .bad
 | d :: ds,h=>if stays h ck then (f d h).bind fun o h1=>(cT f ck ds h1).bind fun r h2=>.ok (o.toList++r) h2 else .bad
noncomputable def forL (f:D→Fr→Hh→R (Fl×Fr)) (ck:List (Nat×List D)):List D→Fr→Hh→R (Fl×Fr)
 | [],fr,h=>if stays h ck then .ok (.nx,fr) h else .bad
 | d :: ds,fr,h=>if stays h ck then (f d fr h).bind fun p h1=>match p.1 with
   | .nx=>forL f ck ds p.2 h1
   | .ct=>forL f ck ds p.2 h1
   | .bk=>.ok (.nx,p.2) h1
   | .ret x=>.ok (.ret x,p.2) h1
  else .bad
noncomputable def d8 (t:Fr→Hh→R Bool) (f:Fr→Hh→R (Fl×Fr)):Nat→Fr→Hh→R (Fl×Fr)
 | 0,_,_=>.bad
 | n+1,fr,h=>(t fr h).bind fun b h1=>if b then (f fr h1).bind fun p h2=>match p.1 with
   | .nx=>d8 t f n p.2 h2
   | .ct=>d8 t f n p.2 h2
   | .bk=>.ok (.nx,p.2) h2
   | .ret x=>.ok (.ret x,p.2) h2
  else .ok (.nx,fr) h1
abbrev aT:=Nat→List D→Hh→R D
noncomputable def intOf:D→Option Int
 | .int i=>some i
 | _=>none
mutual
noncomputable def ev (P:aT):E→Fr→Hh→R D
 | .c d,_,h=>.ok d h
 | .v i,fr,h=>R.of (fr[i]?.join) h
 | .tup es,fr,h=>(cj P es fr h).bind fun ds h1=>if ds.length≤big then .ok (.tup ds) h1 else .bad
 | .lst es,fr,h=>(cj P es fr h).bind fun ds h1=>alloc ds h1
 | .bin o a b,fr,h=>(ev P a fr h).bind fun x h1=>(ev P b fr h1).bind fun y h2=>bQ o x y h2
 | .cmp o a b,fr,h=>(ev P a fr h).bind fun x h1=>(ev P b fr h1).bind fun y h2=>R.of ((cop o x y h2).map .bl) h2
 | .nt a,fr,h=>(ev P a fr h).bind fun x h1=>match x with
   | .bl b=>.ok (.bl (!b)) h1
   | _=>.bad
 | .neg a,fr,h=>(ev P a fr h).bind fun x h1=>match x with
   | .int i=>.ok (.int (-i)) h1
   | _=>.bad
 | .an a b,fr,h=>(ev P a fr h).bind fun x h1=>match x with
   | .bl true=>ev P b fr h1
   | .bl false=>.ok (.bl false) h1
   | _=>.bad
 | .orr a b,fr,h=>(ev P a fr h).bind fun x h1=>match x with
   | .bl true=>.ok (.bl true) h1
   | .bl false=>ev P b fr h1
   | _=>.bad
 | .jW t a b,fr,h=>(aM P t fr h).bind fun k h1=>if k then ev P a fr h1 else ev P b fr h1
 | .ix a b,fr,h=>(ev P a fr h).bind fun x h1=>(ev P b fr h1).bind fun y h2=>R.of (eF x y h2) h2
 | .sl a lo hi,fr,h=>(ev P a fr h).bind fun x h1=>(gg P lo fr h1).bind fun l h2=>(gg P hi fr h2).bind fun u h3=>gc x l u h3
 | .cl f es,fr,h=>(cj P es fr h).bind fun ds h1=>P f ds h1
 | .bi b es,fr,h=>(cj P es fr h).bind fun ds h1=>cX b ds h1
 | .me m o es,fr,h=>(ev P o fr h).bind fun x h1=>if wY m x h1 then (cj P es fr h1).bind fun ds h2=>fF m x ds h2 else .bad
 | .comp elt t it cond,fr,h=>(cL P it fr h).bind fun s h1=>if undef t fr then
   (cT (fun d h2=>match bD t d fr with
    | none=>.bad
    | some au=>(g7 P cond au h2).bind fun k h3=>if k then (ev P elt au h3).bind fun x h4=>.ok (some x) h4 else .ok none h3) s.2 s.1 h1).bind fun ds h2=>alloc ds h2 else .bad
 | .gQ it,fr,h=>(cL P it fr h).bind fun s h1=>alloc s.1 h1
 | .mH kvs a,fr,h=>(ev P a fr h).bind fun x h1=>R.of (g6 x kvs) h1
 | .iY,_,h=>.ok (.ref h.length) (h++[.dct []])
 | .jX a k,fr,h=>(ev P a fr h).bind fun x h1=>(ev P k fr h1).bind fun y h2=>R.of (uh x y h2) h2
 | .lZ a k z,fr,h=>(ev P a fr h).bind fun x h1=>(ev P k fr h1).bind fun y h2=>(ev P z fr h2).bind fun w h3=>R.of (um x y w h3 h1) h3
 | .jb a,fr,h=>(ev P a fr h).bind fun x h1=>qK x h1
noncomputable def cj (P:aT):Es→Fr→Hh→R (List D)
 | .nil,_,h=>.ok [] h
 | .cons e es,fr,h=>(ev P e fr h).bind fun d h1=>(cj P es fr h1).bind fun ds h2=>.ok (d :: ds) h2
noncomputable def gg (P:aT):Eo→Fr→Hh→R (Option Int)
 | .no,_,h=>.ok none h
 | .yes e,fr,h=>(ev P e fr h).bind fun d h1=>R.of ((intOf d).map some) h1
noncomputable def g7 (P:aT):Eo→Fr→Hh→R Bool
 | .no,_,h=>.ok true h
 | .yes e,fr,h=>aM P e fr h
noncomputable def aM (P:aT):E→Fr→Hh→R Bool
 | .an a b,fr,h=>(aM P a fr h).bind fun k h1=>if k then aM P b fr h1 else .ok false h1
 | .orr a b,fr,h=>(aM P a fr h).bind fun k h1=>if k then .ok true h1 else aM P b fr h1
 | .nt a,fr,h=>(aM P a fr h).bind fun k h1=>.ok (!k) h1
 | e,fr,h=>(ev P e fr h).bind fun x h1=>R.of (truthy h1 x) h1
noncomputable def cL (P:aT):It→Fr→Hh→R Src
 | .seq e,fr,h=>(ev P e fr h).bind fun x h1=>R.of (fL h1 x) h1
 | .gz es,fr,h=>(cj P es fr h).bind fun ds h1=>R.of (er ds) h1
 | .enum a,fr,h=>(ev P a fr h).bind fun x h1=>R.of ((yH h1 x).map fun s=>(cJ 0 s.1,s.2)) h1
 | .rev a,fr,h=>(ev P a fr h).bind fun x h1=>R.of ((C6 x).map fun ds=>(ds.reverse,[])) h1
end
mutual
noncomputable def ex (P:aT) (w:Nat):S→Fr→Hh→R (Fl×Fr)
 | .set i e,fr,h=>(ev P e fr h).bind fun x h1=>.ok (.nx,fr.set i (some x)) h1
 | .j7 l e,fr,h=>(ev P e fr h).bind fun x h1=>match bD (.many l) x fr with
   | some au=>.ok (.nx,au) h1
   | none=>.bad
 | .dput o i e,fr,h=>(ev P e fr h).bind fun x h1=>(ev P o fr h1).bind fun y h2=>(ev P i fr h2).bind fun z h3=>match sU y z x h3 with
   | some h4=>.ok (.nx,fr) h4
   | none=>.bad
 | .exp e,fr,h=>(ev P e fr h).bind fun _ h1=>.ok (.nx,fr) h1
 | .ret e,fr,h=>(ev P e fr h).bind fun x h1=>.ok (.ret x,fr) h1
 | .iff t a b,fr,h=>(aM P t fr h).bind fun k h1=>if k then exs P w a fr h1 else exs P w b fr h1
 | .for t it b,fr,h=>(cL P it fr h).bind fun s h1=>forL (fun d au h2=>match bD t d au with
   | some bZ=>exs P w b bZ h2
   | none=>.bad) s.2 s.1 fr h1
 | .mJ t b,fr,h=>d8 (fun au h2=>aM P t au h2) (fun au h2=>exs P w b au h2) w fr h
 | .fj,_,_=>.bad
noncomputable def exs (P:aT) (w:Nat):Ss→Fr→Hh→R (Fl×Fr)
 | .nil,fr,h=>.ok (.nx,fr) h
 | .cons s ss,fr,h=>(ex P w s fr h).bind fun p h1=>match p.1 with
   | .nx=>exs P w ss p.2 h1
   | _=>.ok p h1
end
structure Fn where
 np:Nat
 ns:Nat
 body:Ss
noncomputable def eS (fn:Fn) (ds:List D):Fr:=ds.map some++List.replicate (fn.ns - fn.np) none
noncomputable def endOf (r:R (Fl×Fr)):R D:=r.bind fun p h=>match p.1 with
 | .ret d=>.ok d h
 | .nx=>.ok .bf h
 | _=>.bad
noncomputable def run (F:List Fn) (w:Nat):Nat→aT
 | 0,_,_,_=>.bad
 | n+1,f,ds,h=>match F[f]? with
  | some fn=>if ds.length=fn.np then endOf (exs (run F w n) w fn.body (eS fn ds) h) else .bad
  | none=>.bad
end Ev
set_option maxRecDepth 100000
namespace Sm
open PySem PySem.Spec PyProof.Rows L2
noncomputable def bu (l:List Nat):Str:=⟨l.toArray⟩
theorem cV (l:List Nat):(bu l).length=l.length:=by simp [bu,Str.length]
theorem wZ {a b:List Nat}(h:bu a=bu b):a=b:=by
 have h1:a.toArray=b.toArray:=congrArg Str.cps h
 simpa using congrArg Array.toList h1
theorem jD:Ev.big=sizeLine:=by rw [sizeLine_eq];rfl
section
variable (K:PySem.W.Frag)
mutual
noncomputable def RV (H:Hp) (r:List Addr):Ev.D→V→Prop
 | .bf,v=>v=.bf
 | .bl b,v=>v=.bl b
 | .int i,v=>v=.int i
 | .str s,v=>v=.str (bu s)∧s.length≤sizeLine
 | .ref n,v=>∃ a,v=.ref a∧r[n]?=some a
 | .tup ds,v=>∃ a vs,v=.ref a∧dI K H a vs∧aK H r ds vs
noncomputable def aK (H:Hp) (r:List Addr):List Ev.D→List V→Prop
 | [],vs=>vs=[]
 | d :: ds,vs=>∃ v w,vs=v :: w∧RV H r d v∧aK H r ds w
end
noncomputable def yI (H:Hp) (a:Addr) (vs:List V):Prop:=(∃ o,H a=some (.bS o (.lst vs)))∨
 ∃ (o:Obj) (its:Array Value) (n:Nat),K.lookup a=some o∧o.cls=.type "list" ∧o.dict=none∧o.data=.seq its n∧its.size≤sizeLine∧Vals vs its.toList
noncomputable def fZ (kvs:List (Int×List Nat)):List (Key×V):=kvs.map fun p=>(Sum.inl p.1,V.str (bu p.2))
noncomputable def RO (H:Hp) (r:List Addr):Ev.O→Addr→Prop
 | .lst ds,a=>∃ vs,H a=some (.lst vs)∧aK K H r ds vs
 | .bS ds,a=>∃ vs,yI K H a vs∧aK K H r ds vs
 | .dct kvs,a=>H a=some (.dK (fZ kvs))∧∀ p∈kvs,p.2.length≤sizeLine
structure HR (H:Hp) (r:List Addr) (h:Ev.Hh):Prop where
 len:r.length=h.length
 ob:∀ (n:Nat) o,h[n]?=some o→∃ a,r[n]?=some a∧RO K H r o a
 inj:∀ (n m:Nat) a x y,r[n]?=some a→r[m]?=some a→h[n]?=some (.lst x)→h[m]?=some (.lst y)→n=m
 kC:∀ (n m:Nat) a x y,r[n]?=some a→r[m]?=some a→h[n]?=some (.dct x)→h[m]?=some (.dct y)→n=m
structure Fm (r r':List Addr) (H H':Hp):Prop where
 pre:∀ (n:Nat) a,r[n]?=some a→r'[n]?=some a
 new:∀ a∈r',a∈r∨H a=none
 keep:∀ a o,H a=some o→a∉r→H' a=some o
 tups:∀ a vs,dI K H a vs→dI K H' a vs
end
section
variable {K:PySem.W.Frag}{H H1 H2:Hp}{r r1 r2:List Addr}{h:Ev.Hh}
theorem Fm.refl:Fm K r r H H:=⟨fun _ _ e=>e,fun _ e=>.inl e,fun _ _ e _=>e,fun _ _ e=>e⟩
theorem Fm.trans (a:Fm K r r1 H H1) (b:Fm K r1 r2 H1 H2):Fm K r r2 H H2 where
 pre:=fun n x e=>b.pre n x (a.pre n x e)
 new:=fun x e=>by
  rcases b.new x e with q | q
  ·exact a.new x q
  ·by_cases z:x∈r
   ·exact .inl z
   ·refine .inr ?_
    cases w:H x with
    | none=>rfl
    | some o=>rw [a.keep x o w z] at q;cases q
 keep:=fun x o e n=>by
  refine b.keep x o (a.keep x o e n) fun z=>?_
  rcases a.new x z with q | q
  ·exact n q
  ·rw [e] at q;cases q
 tups:=fun x vs e=>b.tups x vs (a.tups x vs e)
mutual
theorem RV.grow (f:∀ (n:Nat) a,r[n]?=some a→r1[n]?=some a) (g:∀ a vs,dI K H a vs→dI K H1 a vs):∀ {d:Ev.D}{v:V},RV K H r d v→RV K H1 r1 d v
 | .bf,_,e=>e
 | .bl _,_,e=>e
 | .int _,_,e=>e
 | .str _,_,e=>e
 | .ref n,_,⟨a,e,z⟩=>⟨a,e,f n a z⟩
 | .tup ds,_,⟨a,vs,e,z,q⟩=>⟨a,vs,e,g a vs z,aK.grow f g q⟩
theorem aK.grow (f:∀ (n:Nat) a,r[n]?=some a→r1[n]?=some a) (g:∀ a vs,dI K H a vs→dI K H1 a vs):∀ {ds:List Ev.D}{vs:List V},aK K H r ds vs→aK K H1 r1 ds vs
 | [],_,e=>e
 | _ :: _,_,⟨v,w,e,z,q⟩=>⟨v,w,e,RV.grow f g z,aK.grow f g q⟩
end
theorem RV.mono (f:Fm K r r1 H H1) {d:Ev.D}{v:V}(q:RV K H r d v):RV K H1 r1 d v:=q.grow f.pre f.tups
theorem aK.mono (f:Fm K r r1 H H1) {ds:List Ev.D}{vs:List V}(q:aK K H r ds vs):aK K H1 r1 ds vs:=q.grow f.pre f.tups
theorem aK.nil:aK K H r [] []:=by simp [aK]
theorem aK.cons {d:Ev.D}{v:V}{ds:List Ev.D}{vs:List V}(a:RV K H r d v) (b:aK K H r ds vs):aK K H r (d :: ds) (v :: vs):=by
 simp only [aK];exact ⟨v,vs,rfl,a,b⟩
theorem aK.length:∀ {ds:List Ev.D}{vs:List V},aK K H r ds vs→vs.length=ds.length
 | [],_,e=>by simp only [aK] at e;subst e;rfl
 | _ :: _,_,e=>by
  simp only [aK] at e
  obtain ⟨v,w,rfl,_,q⟩:=e
  simp [aK.length q]
theorem aK.get:∀ {ds:List Ev.D}{vs:List V}{i:Nat}{d:Ev.D},aK K H r ds vs→ds[i]?=some d→∃ v,vs[i]?=some v∧RV K H r d v
 | [],_,_,_,_,e=>by simp at e
 | _ :: _,_,0,_,h,e=>by
  simp only [aK] at h
  obtain ⟨v,w,rfl,z,q⟩:=h
  simp at e;subst e
  exact ⟨v,by simp,z⟩
 | _ :: _,_,i+1,_,h,e=>by
  simp only [aK] at h
  obtain ⟨v,w,rfl,z,q⟩:=h
  obtain ⟨u,a,b⟩:=aK.get (i:=i) q (by simpa using e)
  exact ⟨u,by simpa using a,b⟩
theorem aK.append:∀ {ds es:List Ev.D}{vs ws:List V},aK K H r ds vs→aK K H r es ws→aK K H r (ds++es) (vs++ws)
 | [],_,_,_,a,b=>by simp only [aK] at a;subst a;simpa using b
 | _ :: _,_,_,_,a,b=>by
  simp only [aK] at a
  obtain ⟨v,w,rfl,z,q⟩:=a
  simp only [List.cons_append]
  exact .cons z (aK.append q b)
theorem aK.take:∀ {ds:List Ev.D}{vs:List V}(n:Nat),aK K H r ds vs→aK K H r (ds.take n) (vs.take n)
 | _,_,0,_=>by simp [aK]
 | [],_,_+1,a=>by simp only [aK] at a;subst a;simp [aK]
 | _ :: _,_,n+1,a=>by
  simp only [aK] at a
  obtain ⟨v,w,rfl,z,q⟩:=a
  simp only [List.take_succ_cons]
  exact .cons z (aK.take n q)
theorem aK.drop:∀ {ds:List Ev.D}{vs:List V}(n:Nat),aK K H r ds vs→aK K H r (ds.drop n) (vs.drop n)
 | _,_,0,a=>by simpa using a
 | [],_,_+1,a=>by simp only [aK] at a;subst a;simp [aK]
 | _ :: _,_,n+1,a=>by
  simp only [aK] at a
  obtain ⟨v,w,rfl,z,q⟩:=a
  simp only [List.drop_succ_cons]
  exact aK.drop n q
theorem aK.reverse:∀ {ds:List Ev.D}{vs:List V},aK K H r ds vs→aK K H r ds.reverse vs.reverse
 | [],_,a=>by simp only [aK] at a;subst a;simp [aK]
 | _ :: _,_,a=>by
  simp only [aK] at a
  obtain ⟨v,w,rfl,z,q⟩:=a
  simp only [List.reverse_cons]
  exact (aK.reverse q).append (.cons z .nil)
theorem aK.rep {ds:List Ev.D}{vs:List V}(a:aK K H r ds vs):∀ k:Nat,aK K H r (Ev.rep k ds) (Ev.rep k vs)
 | 0=>by simp [Ev.rep,aK]
 | k+1=>by
  have h:=aK.rep a k
  simp only [Ev.rep,List.replicate_succ,List.flatten_cons] at h ⊢
  exact a.append h
theorem Fm.laid {p:Addr}{o:HO}(hp:H p=none):Fm K r (r++[p]) H (upd H p o) where
 pre:=fun n a e=>by rw [List.getElem?_append_left (List.getElem?_eq_some_iff.mp e).1];exact e
 new:=fun a e=>by
  rcases List.mem_append.mp e with q | q
  ·exact .inl q
  ·rw [List.mem_singleton] at q;subst q;exact .inr hp
 keep:=fun a ob e _=>by rw [aV (bB e hp)];exact e
 tups:=fun a vs e=>by
  rcases e with (e | ⟨ob,e⟩) | e
  ·exact .inl (.inl (by rw [aV (bB e hp)];exact e))
  ·exact .inl (.inr ⟨ob,by rw [aV (bB e hp)];exact e⟩)
  ·exact .inr e
theorem Fm.tup {p:Addr}{o:HO}(hp:H p=none):Fm K r r H (upd H p o) where
 pre:=fun n a e=>e
 new:=fun a e=>.inl e
 keep:=fun a ob e _=>by rw [aV (bB e hp)];exact e
 tups:=(Fm.laid (r:=r) hp).tups
theorem RO.mono {o:Ev.O}{a:Addr}(f:Fm K r r1 H H1) (q:RO K H r o a) (hl:∀ ds vs,o=.lst ds→H a=some (.lst vs)→H1 a=some (.lst vs)) (hf:∀ ob vs,H a=some (.bS ob vs)→H1 a=some (.bS ob vs))
  (hd:∀ kvs vs,o=.dct kvs→H a=some (.dK vs)→H1 a=some (.dK vs))
  : RO K H1 r1 o a:=by
 cases o with
 | lst ds=>
  obtain ⟨vs,e,z⟩:=q
  exact ⟨vs,hl ds vs rfl e,z.mono f⟩
 | bS ds=>
  obtain ⟨vs,e,z⟩:=q
  refine ⟨vs,?_,z.mono f⟩
  rcases e with ⟨ob,e⟩ | e
  ·exact .inl ⟨ob,hf _ _ e⟩
  ·exact .inr e
 | dct kvs=>exact ⟨hd kvs _ rfl q.1,q.2⟩
theorem HR.tup {p:Addr}{o:HO}(hr:HR K H r h) (hp:H p=none):HR K (upd H p o) r h where
 len:=hr.len
 ob:=fun n ob e=>by
  obtain ⟨a,e1,q⟩:=hr.ob n ob e
  exact ⟨a,e1,q.mono (Fm.tup hp) (fun _ vs _ z=>by rw [aV (bB z hp)];exact z) (fun _ _ z=>by rw [aV (bB z hp)];exact z)
   (fun _ _ _ z=>by rw [aV (bB z hp)];exact z)
   ⟩
 inj:=hr.inj
 kC:=hr.kC
theorem HR.L8 {p:Addr}{ds:List Ev.D}(hr:HR K H r h):∀ (n m:Nat) a x y,(r++[p])[n]?=some a→(r++[p])[m]?=some a→(h++[Ev.O.lst ds])[n]?=some (.dct x)→(h++[Ev.O.lst ds])[m]?=some (.dct y)→n=m:=fun n m a x y e1 e2 e3 e4=>by
 have out:∀ (k:Nat) z,(h++[Ev.O.lst ds])[k]?=some (.dct z)→(r++[p])[k]?=some a→r[k]?=some a∧h[k]?=some (.dct z):=fun k z q1 q2=>by
  by_cases hk:k<h.length
  ·rw [List.getElem?_append_left hk] at q1
   rw [List.getElem?_append_left (by rw [hr.len];exact hk)] at q2
   exact ⟨q2,q1⟩
  ·have e5:=(List.getElem?_eq_some_iff.mp q1).1
   simp only [List.length_append,List.length_singleton] at e5
   have e6:k=h.length:=by omega
   subst e6
   simp at q1
 exact hr.kC n m a x y (out n x e3 e1).1 (out m y e4 e2).1 (out n x e3 e1).2 (out m y e4 e2).2
theorem HR.lst {p:Addr}{ds:List Ev.D}{vs:List V}(hr:HR K H r h) (hp:H p=none) (q:aK K H r ds vs):HR K (upd H p (.lst vs)) (r++[p]) (h++[.lst ds]) where
 len:=by simp [hr.len]
 ob:=fun n ob e=>by
  by_cases hn:n<h.length
  ·rw [List.getElem?_append_left hn] at e
   obtain ⟨a,e1,z⟩:=hr.ob n ob e
   exact ⟨a,(Fm.laid (K:=K) (o:=.lst vs) hp).pre n a e1,z.mono (Fm.laid hp) (fun _ vs _ z=>by rw [aV (bB z hp)];exact z) (fun _ _ z=>by rw [aV (bB z hp)];exact z)
    (fun _ _ _ z=>by rw [aV (bB z hp)];exact z)
    ⟩
  ·have e2:=(List.getElem?_eq_some_iff.mp e).1
   simp only [List.length_append,List.length_singleton] at e2
   have e3:n=h.length:=by omega
   subst e3
   simp at e
   subst e
   exact ⟨p,by rw [←hr.len];simp,vs,eX,q.mono (Fm.laid hp)⟩
 inj:=fun n m a x y e1 e2 e3 e4=>by
  have out:∀ (k:Nat) z,(h++[Ev.O.lst ds])[k]?=some (.lst z)→(r++[p])[k]?=some a→(k<h.length∧r[k]?=some a∧h[k]?=some (.lst z)∧a≠p)∨(k=h.length∧a=p):=fun k z q1 q2=>by
   by_cases hk:k<h.length
   ·rw [List.getElem?_append_left hk] at q1
    rw [List.getElem?_append_left (by rw [hr.len];exact hk)] at q2
    obtain ⟨b,e5,vs',e6,_⟩:=hr.ob k _ q1
    rw [q2] at e5;cases e5
    exact .inl ⟨hk,q2,q1,bB e6 hp⟩
   ·have e5:=(List.getElem?_eq_some_iff.mp q1).1
    simp only [List.length_append,List.length_singleton] at e5
    have e6:k=r.length:=by rw [hr.len];omega
    subst e6
    simp at q2
    exact .inr ⟨hr.len,q2.symm⟩
  rcases out n x e3 e1 with ⟨h1,h2,h3,h4⟩ | ⟨h1,h2⟩
  ·rcases out m y e4 e2 with ⟨k1,k2,k3,k4⟩ | ⟨k1,k2⟩
   ·exact hr.inj n m a x y h2 k2 h3 k3
   ·exact absurd k2 h4
  ·rcases out m y e4 e2 with ⟨k1,k2,k3,k4⟩ | ⟨k1,k2⟩
   ·exact absurd h2 k4
   ·rw [h1,k1]
 kC:=hr.L8
theorem HR.dct {n:Nat}{kvs:List (Int×List Nat)}(hr:HR K H r h) (e:h[n]?=some (.dct kvs)):∃ a,r[n]?=some a∧H a=some (.dK (fZ kvs))∧∀ p∈kvs,p.2.length≤sizeLine:=by
 obtain ⟨a,e1,e2,e3⟩:=hr.ob n _ e
 exact ⟨a,e1,e2,e3⟩
theorem HR.read {n:Nat}{ds:List Ev.D}(hr:HR K H r h) (e:Ev.bx h n=some ds):∃ a vs,r[n]?=some a∧eO K H a vs∧aK K H r ds vs:=by
 unfold Ev.bx at e
 split at e
 ·rename_i z
  cases e
  obtain ⟨a,e1,vs,e2,e3⟩:=hr.ob n _ z
  exact ⟨a,vs,e1,.inl (.inl e2),e3⟩
 ·rename_i z
  cases e
  obtain ⟨a,e1,vs,e2,e3⟩:=hr.ob n _ z
  refine ⟨a,vs,e1,?_,e3⟩
  rcases e2 with ⟨ob,e2⟩ | e2
  ·exact .inl (.inr ⟨ob,e2⟩)
  ·exact .inr e2
 ·cases e
theorem Fm.write {a:Addr}{vs ws:List V}(ha:H a=some (.lst vs)) (hm:a∈r):Fm K r r H (upd H a (.lst ws)) where
 pre:=fun n b e=>e
 new:=fun b e=>.inl e
 keep:=fun b ob e n=>by rw [aV (fun z=>n (by rw [z];exact hm))];exact e
 tups:=fun b us e=>by
  rcases e with (e | ⟨ob,e⟩) | e
  ·exact .inl (.inl (by rw [aV (gZ e ha (by intro z;cases z))];exact e))
  ·exact .inl (.inr ⟨ob,by rw [aV (gZ e ha (by intro z;cases z))];exact e⟩)
  ·exact .inr e
theorem HR.write {n:Nat}{a:Addr}{ds es:List Ev.D}{vs ws:List V}(hr:HR K H r h) (hn:h[n]?=some (.lst ds)) (uo:r[n]?=some a) (ha:H a=some (.lst vs)) (q:aK K H r es ws) :
  HR K (upd H a (.lst ws)) r (h.set n (.lst es)) where
 len:=by simp [hr.len]
 ob:=fun m ob e=>by
  have f:=Fm.write (K:=K) (ws:=ws) ha (List.mem_of_getElem? uo)
  by_cases hm:m=n
  ·subst hm
   rw [List.getElem?_set_self (List.getElem?_eq_some_iff.mp hn).1] at e
   cases e
   exact ⟨a,uo,ws,eX,q.mono f⟩
  ·rw [List.getElem?_set_ne (fun z=>hm z.symm)] at e
   obtain ⟨b,e1,z⟩:=hr.ob m ob e
   refine ⟨b,e1,z.mono f (fun ds2 us z3 z2=>?_) (fun ob' us z2=>by rw [aV (gZ z2 ha (by intro z;cases z))];exact z2)
    (fun _ us _ z2=>by rw [aV (gZ z2 ha (by intro z;cases z))];exact z2)
    ⟩
   by_cases hb:b=a
   ·subst hb
    subst z3
    exact absurd (hr.inj m n b ds2 ds e1 uo e hn) hm
   ·rw [aV hb];exact z2
 inj:=fun k m b x y e1 e2 e3 e4=>by
  have back:∀ (j:Nat) z,(h.set n (Ev.O.lst es))[j]?=some (.lst z)→∃ z',h[j]?=some (.lst z'):=fun j z w=>by
   by_cases hj:j=n
   ·subst hj;exact ⟨ds,hn⟩
   ·rw [List.getElem?_set_ne (fun z=>hj z.symm)] at w;exact ⟨z,w⟩
  obtain ⟨x',e5⟩:=back k x e3
  obtain ⟨y',e6⟩:=back m y e4
  exact hr.inj k m b x' y' e1 e2 e5 e6
 kC:=fun k m b x y e1 e2 e3 e4=>by
  have back:∀ (j:Nat) z,(h.set n (Ev.O.lst es))[j]?=some (.dct z)→h[j]?=some (.dct z):=fun j z w=>by
   by_cases hj:j=n
   ·subst hj
    rw [List.getElem?_set_self (List.getElem?_eq_some_iff.mp hn).1] at w
    cases w
   ·rw [List.getElem?_set_ne (fun z=>hj z.symm)] at w;exact w
  exact hr.kC k m b x y e1 e2 (back k x e3) (back m y e4)
theorem g8 {p:Addr}{vs ws:List V}(hp:H p=some (.lst vs)):∀ a us,dI K H a us→dI K (upd H p (.lst ws)) a us:=fun b us e=>by
 rcases e with (e | ⟨ob,e⟩) | e
 ·exact .inl (.inl (by rw [aV (gZ e hp (by intro z;cases z))];exact e))
 ·exact .inl (.inr ⟨ob,by rw [aV (gZ e hp (by intro z;cases z))];exact e⟩)
 ·exact .inr e
theorem HR.other {p:Addr}{vs ws:List V}(hr:HR K H r h) (hp:H p=some (.lst vs)) (hn:p∉r):HR K (upd H p (.lst ws)) r h where
 len:=hr.len
 ob:=fun n ob e=>by
  obtain ⟨a,e1,q⟩:=hr.ob n ob e
  have ha:a≠p:=fun z=>hn (by rw [←z];exact List.mem_of_getElem? e1)
  refine ⟨a,e1,?_⟩
  cases ob with
  | lst ds=>
   obtain ⟨us,e2,e3⟩:=q
   exact ⟨us,by rw [aV ha];exact e2,e3.grow (fun _ _ z=>z) (g8 hp)⟩
  | bS ds=>
   obtain ⟨us,e2,e3⟩:=q
   refine ⟨us,?_,e3.grow (fun _ _ z=>z) (g8 hp)⟩
   rcases e2 with ⟨o,e2⟩ | e2
   ·exact .inl ⟨o,by rw [aV ha];exact e2⟩
   ·exact .inr e2
  | dct kvs=>exact ⟨by rw [aV ha];exact q.1,q.2⟩
 inj:=hr.inj
 kC:=hr.kC
theorem Fm.other {p:Addr}{vs ws:List V}(f:Fm K r r1 H H1) (h0:H p=none) (hp:H1 p=some (.lst vs)):Fm K r r1 H (upd H1 p (.lst ws)) where
 pre:=f.pre
 new:=f.new
 keep:=fun a o e n=>by rw [aV (bB e h0)];exact f.keep a o e n
 tups:=fun a us e=>g8 hp a us (f.tups a us e)
theorem Fm.yJ {p:Addr}{o:HO}(f:Fm K r r1 H H1) (hp:H p=some o) (hn:p∉r):p∉r1∧H1 p=some o:=by
 refine ⟨fun z=>?_,f.keep p o hp hn⟩
 rcases f.new p z with q | q
 ·exact hn q
 ·rw [hp] at q;cases q
theorem HR.known {p:Addr}{ds:List Ev.D}{vs:List V}(hr:HR K H r h) (hp:H p=some (.lst vs)) (hn:p∉r) (q:aK K H r ds vs):HR K H (r++[p]) (h++[.lst ds]):=by
 have pre:∀ (n:Nat) a,r[n]?=some a→(r++[p])[n]?=some a:=fun n a e=>by rw [List.getElem?_append_left (List.getElem?_eq_some_iff.mp e).1];exact e
 refine ⟨by simp [hr.len],fun n ob e=>?_,fun n m a x y e1 e2 e3 e4=>?_
  ,hr.L8
  ⟩
 ·by_cases hk:n<h.length
  ·rw [List.getElem?_append_left hk] at e
   obtain ⟨a,e1,z⟩:=hr.ob n ob e
   refine ⟨a,pre n a e1,?_⟩
   cases ob with
   | lst ds=>obtain ⟨us,e2,e3⟩:=z;exact ⟨us,e2,e3.grow pre fun _ _ z=>z⟩
   | bS ds=>obtain ⟨us,e2,e3⟩:=z;exact ⟨us,e2,e3.grow pre fun _ _ z=>z⟩
   | dct kvs=>exact z
  ·have e2:=(List.getElem?_eq_some_iff.mp e).1
   simp only [List.length_append,List.length_singleton] at e2
   have e3:n=h.length:=by omega
   subst e3
   simp at e
   subst e
   exact ⟨p,by rw [←hr.len];simp,vs,hp,q.grow pre fun _ _ z=>z⟩
 ·have out:∀ (k:Nat) z,(h++[Ev.O.lst ds])[k]?=some (.lst z)→(r++[p])[k]?=some a→(k<h.length∧r[k]?=some a∧h[k]?=some (.lst z)∧a≠p)∨(k=h.length∧a=p):=fun k z q1 q2=>by
   by_cases hk:k<h.length
   ·rw [List.getElem?_append_left hk] at q1
    rw [List.getElem?_append_left (by rw [hr.len];exact hk)] at q2
    exact .inl ⟨hk,q2,q1,fun z=>hn (by rw [←z];exact List.mem_of_getElem? q2)⟩
   ·have e5:=(List.getElem?_eq_some_iff.mp q1).1
    simp only [List.length_append,List.length_singleton] at e5
    have e6:k=r.length:=by rw [hr.len];omega
    subst e6
    simp at q2
    exact .inr ⟨hr.len,q2.symm⟩
  rcases out n x e3 e1 with ⟨h1,h2,h3,h4⟩ | ⟨h1,h2⟩
  ·rcases out m y e4 e2 with ⟨k1,k2,k3,k4⟩ | ⟨k1,k2⟩
   ·exact hr.inj n m a x y h2 k2 h3 k3
   ·exact absurd k2 h4
  ·rcases out m y e4 e2 with ⟨k1,k2,k3,k4⟩ | ⟨k1,k2⟩
   ·exact absurd h2 k4
   ·rw [h1,k1]
theorem Fm.known {p:Addr}(f:Fm K r r1 H H1) (h0:H p=none):Fm K r (r1++[p]) H H1 where
 pre:=fun n a e=>by
  have e':=f.pre n a e
  rw [List.getElem?_append_left (List.getElem?_eq_some_iff.mp e').1];exact e'
 new:=fun a e=>by
  rcases List.mem_append.mp e with q | q
  ·exact f.new a q
  ·rw [List.mem_singleton] at q;subst q;exact .inr h0
 keep:=f.keep
 tups:=f.tups
end
end Sm
set_option maxRecDepth 100000
namespace Sm
open PySem PySem.Spec PyProof.Rows L2
open Ev (D O Hh Fr R aT E Es Eo It T S Ss Fl Src bU bN TY BI ME)
section
variable (K:PySem.W.Frag)
noncomputable def Res (r:List Addr) (H:Hp) (h':Hh) (d:D) (Q:VK):Prop:=∀ v H' r',RV K H' r' d v→HR K H' r' h'→Fm K r r' H H'→Q v H'
structure SR (m:List Nat) (H:Hp) (r:List Addr) (fr:Fr) (s:L2.St):Prop where
 len:s.length=m.length
 sl:∀ (j i:Nat) d,m[j]?=some i→fr[i]?=some (some d)→∃ v,s[j]?=some (some v)∧RV K H r d v
inductive tJ (m:List Nat) (P:aT) (e:E) (s:L2.St) (H:Hp) (Q:VK):Prop
 | mk (r:List Addr) (fr:Fr) (h:Hh) (d:D) (h':Hh) (c0:SR K m H r fr s) (c1:HR K H r h) (c2:Ev.ev P e fr h=.ok d h') (c3:Res K r H h' d Q):tJ m P e s H Q
inductive Ma (m:List Nat) (P:aT) (e:E) (s:L2.St) (H:Hp) (Q:Bool→Hp→Prop):Prop
 | mk (r:List Addr) (fr:Fr) (h:Hh) (k:Bool) (h':Hh) (c0:SR K m H r fr s) (c1:HR K H r h) (c2:Ev.aM P e fr h=.ok k h') (c3:∀ H' r',HR K H' r' h'→Fm K r r' H H'→Q k H'):Ma m P e s H Q
inductive Mb (m:List Nat) (P:aT) (es:Es) (s:L2.St) (H:Hp) (Q:List V→Hp→Prop):Prop
 | mk (r:List Addr) (fr:Fr) (h:Hh) (ds:List D) (h':Hh) (c0:SR K m H r fr s) (c1:HR K H r h) (c2:Ev.cj P es fr h=.ok ds h') (c3:∀ vs H' r',aK K H' r' ds vs→HR K H' r' h'→Fm K r r' H H'→Q vs H'):Mb m P es s H Q
inductive Vf (m:List Nat) (P:aT) (e:Eo) (s:L2.St) (H:Hp) (Q:Option Int→Hp→Prop):Prop
 | mk (r:List Addr) (fr:Fr) (h:Hh) (o:Option Int) (h':Hh) (c0:SR K m H r fr s) (c1:HR K H r h) (c2:Ev.gg P e fr h=.ok o h') (c3:∀ H' r',HR K H' r' h'→Fm K r r' H H'→Q o H'):Vf m P e s H Q
inductive iU (f:D→D→Hh→R D) (x:V) (y:V) (H:Hp) (Q:VK):Prop
 | mk (r:List Addr) (h:Hh) (a:D) (b:D) (d:D) (h':Hh) (c0:HR K H r h) (c1:RV K H r a x) (c2:RV K H r b y) (c3:f a b h=.ok d h') (c4:Res K r H h' d Q):iU f x y H Q
inductive rD1 (f:D→Hh→R D) (x:V) (H:Hp) (Q:VK):Prop
 | mk (r:List Addr) (h:Hh) (a:D) (d:D) (h':Hh) (c0:HR K H r h) (c1:RV K H r a x) (c2:f a h=.ok d h') (c3:Res K r H h' d Q):rD1 f x H Q
inductive uq (f:List D→Hh→R D) (xs:List V) (H:Hp) (Q:VK):Prop
 | mk (r:List Addr) (h:Hh) (as:List D) (d:D) (h':Hh) (c0:HR K H r h) (c1:aK K H r as xs) (c2:f as h=.ok d h') (c3:Res K r H h' d Q):uq f xs H Q
inductive ur (f:D→List D→Hh→R D) (x:V) (xs:List V) (H:Hp) (Q:VK):Prop
 | mk (r:List Addr) (h:Hh) (a:D) (as:List D) (d:D) (h':Hh) (c0:HR K H r h) (c1:RV K H r a x) (c2:aK K H r as xs) (c3:f a as h=.ok d h') (c4:Res K r H h' d Q):ur f x xs H Q
inductive Mc  (x:V) (lo:Option Int) (hi:Option Int) (H:Hp) (Q:VK):Prop
 | mk (r:List Addr) (h:Hh) (a:D) (d:D) (h':Hh) (c0:HR K H r h) (c1:RV K H r a x) (c2:Ev.gc a lo hi h=.ok d h') (c3:Res K r H h' d Q):Mc x lo hi H Q
end
section
variable {K:PySem.W.Frag}{m:List Nat}{H H':Hp}{r r':List Addr}{fr:Fr}{s:L2.St}{h h':Hh}{d:D}{Q:VK}
theorem SR.mono (a:SR K m H r fr s) (f:Fm K r r' H H'):SR K m H' r' fr s:=⟨a.len,fun j i d e1 e2=>by
 obtain ⟨v,q,z⟩:=a.sl j i d e1 e2
 exact ⟨v,q,z.mono f⟩⟩
theorem Res.here {v:V}(q:Res K r H h d Q) (a:RV K H r d v) (b:HR K H r h):Q v H:=q v H r a b .refl
theorem Res.later (q:Res K r H h' d Q) (f:Fm K r r' H H'):Res K r' H' h' d Q:=fun v H2 r2 a b g=>q v H2 r2 a b (f.trans g)
theorem Res.lst {ds:List D}{vs:List V}(q:Res K r H h' d Q) (e:Ev.alloc ds h=.ok d h') (a:aK K H r ds vs) (b:HR K H r h):vs.length≤sizeLine∧∀ p,H p=none→Q (.ref p) (upd H p (.lst vs)):=by
 unfold Ev.alloc at e
 split at e
 ·rename_i z
  cases e
  refine ⟨by rw [a.length,←jD];exact z,fun p hp=>?_⟩
  exact q _ _ (r++[p]) ⟨p,rfl,by rw [←b.len];simp⟩ (b.lst hp a) (.laid hp)
 ·cases e
theorem Res.tup {ds:List D}{vs:List V}(q:Res K r H h (.tup ds) Q) (a:aK K H r ds vs) (b:HR K H r h) {p:Addr}(hp:H p=none):Q (.ref p) (upd H p (.tup vs)):=
 q _ _ r ⟨p,vs,rfl,.of eX,a.mono (.tup hp)⟩ (b.tup hp) (.tup hp)
end
theorem PE.of {X:Cx}{e:Expr}{t t':TE}(h:PE X e t) (w:∀ s H Q,t' s H Q→t s H Q):PE X e t':=fun pins s σ H Q I q=>h pins s σ H Q I (w _ _ _ q)
theorem PT.of {X:Cx}{e:Expr}{t t':TT}(h:PT X e t) (w:∀ s H Q,t' s H Q→t s H Q):PT X e t':=fun pins s σ H Q I q=>h pins s σ H Q I (w _ _ _ q)
theorem PW.of {X:Cx}{e:Expr}{t t':TT}(h:PW X e t) (w:∀ s H Q,t' s H Q→t s H Q):PW X e t':=fun wh pins s σ H Q I q=>h wh pins s σ H Q I (w _ _ _ q)
theorem PA.of {X:Cx}{es:List Expr}{t t':TA}(h:PA X es t) (w:∀ s H Q,t' s H Q→t s H Q):PA X es t':=fun pos pins s σ H Q I q=>h pos pins s σ H Q I (w _ _ _ q)
theorem PO.of {X:Cx}{e:Option Expr}{t t':TO}(h:PO X e t) (w:∀ s H Q,t' s H Q→t s H Q):PO X e t':=fun pins s σ H Q I q=>h pins s σ H Q I (w _ _ _ q)
structure FI where
 name:Str
 addr:Addr
 fd:FuncData
 ps:List Str
noncomputable def oB (K:PySem.W.Frag) (F:List Ev.Fn) (w n f:Nat):Sp:=fun vs H Q _=>∃ r h ds d h',aK K H r ds vs∧HR K H r h∧Ev.run F w n f ds h=.ok d h'∧Res K r H h' d Q
noncomputable def uu:D→V→Prop
 | .bf,v=>v=.bf
 | .bl b,v=>v=.bl b
 | .int i,v=>v=.int i
 | .str s,v=>v=.str (bu s)∧s.length≤sizeLine
 | _,_=>False
theorem uu.rv {K:PySem.W.Frag}{H:Hp}{r:List Addr}{d:D}{v:V}(h:uu d v):RV K H r d v:=by
 cases d <;> simp only [uu] at h <;> simp only [RV] <;> first | exact h | exact h.elim
structure Tb where
 F:List Ev.Fn
 w:Nat
 fi:List FI
 bl:List Str
 cs:List (Str×D)
 dk:List (Str×List (D×D))
noncomputable def tabOf:List (D×D)→List (PyData×PyData)
 | (.str k,.str v) :: r=>(.str (bu k),.str (bu v)) :: tabOf r
 | _=>[]
structure Good (G:Tb) (n:Nat) (sc:Scope) (N:List Str) (df:Bool) (X:Cx):Prop where
 nm:X.N=N
 sc:X.env.scope=sc
 calm:X.calm=true
 own:df=true→∀ x,X.fn x=true
 room:fX n X.A
 xe:X.xe=fun _ _=>False
 fn:∀ (f:Nat) i,G.fi[f]?=some i→X.mg i.name=some (.ref i.addr)∧PySem.W.keepIn X.K (.ref i.addr)=true∧Binds X.K i.fd i.ps []∧iC X.prog X.w X.K X.mg X.base mG n i.addr i.fd i.ps (oB X.K G.F G.w n f)
 bl:∀ x∈G.bl,X.mg x=none
 cs:∀ x d,(x,d)∈G.cs→∃ v u,X.mg x=some u∧RelV v u∧uu d v
 dk:∀ x kvs,(x,kvs)∈G.dk→∃ a,X.mg x=some (.ref a)∧∀ h:Heap,X.K.In h→StrTab X.prog X.w h a (tabOf kvs)
section
variable (G:Tb)(n:Nat)(sc:Scope)(N:List Str)(df:Bool)(m:List Nat)
noncomputable def JE (e:E) (x:Expr):Prop:=∀ X,Good G n sc N df X→PE X x (tJ X.K m (Ev.run G.F G.w n) e)
noncomputable def JT (e:E) (x:Expr):Prop:=∀ X,Good G n sc N df X→PT X x (Ma X.K m (Ev.run G.F G.w n) e)
noncomputable def JW (e:E) (x:Expr):Prop:=∀ X,Good G n sc N df X→PW X x (Ma X.K m (Ev.run G.F G.w n) e)
noncomputable def JA (es:Es) (xs:List Expr):Prop:=∀ X,Good G n sc N df X→PA X xs (Mb X.K m (Ev.run G.F G.w n) es)
noncomputable def JO (e:Eo) (x:Option Expr):Prop:=∀ X,Good G n sc N df X→PO X x (Vf X.K m (Ev.run G.F G.w n) e)
end
section
variable {G:Tb}{n:Nat}{sc:Scope}{N:List Str}{df:Bool}{m:List Nat}{a b c:E}{xa xb xc:Expr}{pos:Pos}
theorem Good.vis {X:Cx}(g:Good G n sc N df X) {x:Str}(h:sc.names.lookup x=some .local∨sc.names.lookup x=some .cell∨sc.names.lookup x=some .free):Ad X.env.scope x:=by
 rw [g.sc];exact h
theorem Good.gl {X:Cx}(g:Good G n sc N df X) {x:Str}(h:sc.names.lookup x=some .globalImplicit):Gl X x:=by
 unfold Gl Env.kindOf;rw [g.sc];exact h
theorem Yb (j i:Nat) {x:Str}(hj:m[j]?=some i:=by rfl) (hN:N[j]?=some x:=by rfl)
  (hv:sc.names.lookup x=some .local∨sc.names.lookup x=some .cell∨sc.names.lookup x=some .free:=by first | exact Or.inl rfl | exact Or.inr (Or.inl rfl) | exact Or.inr (Or.inr rfl))
  (hd:(x==("__debug__" : Str))=false:=by decide) (hcd:(x==("__classdict__" : Str))=false:=by decide):JE G n sc N df m (.v i) (.Name x pos):=by
 intro X g
 refine PE.of (Ah (i:=j) (by rw [g.nm];exact hN) (g.vis hv) hd hcd) fun s H Q q=>?_
 obtain ⟨r,fr,h,d,h',sr,hr,e,q⟩:=q
 simp only [Ev.ev] at e
 obtain ⟨e2,e3⟩:=Ev.aQ e
 subst e3
 obtain ⟨v,q1,q2⟩:=sr.sl j i d hj (by
  cases z:fr[i]? with
  | none=>rw [z] at e2;cases e2
  | some o=>
   rw [z] at e2
   have e':o=some d:=e2
   rw [e'])
 exact ⟨v,q1,q.here q2 hr⟩
theorem sV {K:PySem.W.Frag}{P:aT}{d:D}{v:V}(hc:uu d v):∀ s H Q,tJ K m P (.c d) s H Q→tC v s H Q:=fun s H Q q=>by
 obtain ⟨r,fr,h,d',h',sr,hr,e,q⟩:=q
 simp only [Ev.ev] at e
 cases e
 exact q.here hc.rv hr
theorem Me {i:Int}{j}:JE G n sc N df m (.c (.int i)) (.Constant (.int i) j pos):=fun X g=>PE.of Lj (sV rfl)
theorem SE {k:Bool}{j}:JE G n sc N df m (.c (.bl k)) (.Constant (.bool k) j pos):=fun X g=>PE.of R5 (sV rfl)
theorem Mf {j}:JE G n sc N df m (.c .bf) (.Constant .none j pos):=fun X g=>PE.of Lk (sV rfl)
theorem Mg {l:List Nat}{x:Str}{j}(hx:x=bu l:=by decide +kernel) (hl:l.length≤sizeLine:=by decide):JE G n sc N df m (.c (.str l)) (.Constant (.str x) j pos):=
 fun X g=>PE.of Ll (sV (by subst hx;exact ⟨rfl,hl⟩))
theorem Mh:JA G n sc N df m .nil []:=fun X g=>PA.of pI fun s H Q q=>by
 obtain ⟨r,fr,h,ds,h',sr,hr,e,q⟩:=q
 simp only [Ev.cj] at e
 cases e
 exact q [] H r .nil hr .refl
theorem Jk {es:Es}{xs:List Expr}(ha:JE G n sc N df m a xa) (hs:JA G n sc N df m es xs) (hst:∀ env:Env,starEach (xa :: xs) env=(false,eval xa env) :: starEach xs env:=by intro _;rfl):JA G n sc N df m (.cons a es) (xa :: xs):=
 fun X g=>PA.of (nG (ha X g) (hs X g) (hst _)) fun s H Q q=>by
  obtain ⟨r,fr,h,ds,h',sr,hr,e,q⟩:=q
  simp only [Ev.cj] at e
  obtain ⟨d,h1,e1,e⟩:=Ev.ai e
  obtain ⟨ds',h2,e2,e⟩:=Ev.ai e
  cases e
  refine ⟨r,fr,h,d,h1,sr,hr,e1,fun v H1 r1 v1 hr1 f1=>?_⟩
  refine ⟨r1,fr,h1,ds',_,sr.mono f1,hr1,e2,fun vs H2 r2 v2 hr2 f2=>?_⟩
  exact q _ H2 r2 (.cons (v1.mono f2) v2) hr2 (f1.trans f2)
theorem Mi {es:Es}{xs:List Expr}{k}(hs:JA G n sc N df m es xs):JE G n sc N df m (.tup es) (.Tuple xs k pos):=fun X g=>PE.of (LL (hs X g)) fun s H Q q=>by
 obtain ⟨r,fr,h,d,h',sr,hr,e,q⟩:=q
 simp only [Ev.ev] at e
 obtain ⟨ds,h1,e1,e⟩:=Ev.ai e
 split at e
 ·rename_i z
  cases e
  refine ⟨r,fr,h,ds,_,sr,hr,e1,fun vs H1 r1 v1 hr1 f1=>⟨by rw [v1.length,←jD];exact z,fun p hp=>?_⟩⟩
  exact (q.later f1).tup v1 hr1 hp
 ·cases e
theorem Mj {es:Es}{xs:List Expr}(hs:JA G n sc N df m es xs):JE G n sc N df m (.lst es) (.List xs pos):=fun X g=>PE.of (LM (hs X g)) fun s H Q q=>by
 obtain ⟨r,fr,h,d,h',sr,hr,e,q⟩:=q
 simp only [Ev.ev] at e
 obtain ⟨ds,h1,e1,e⟩:=Ev.ai e
 refine ⟨r,fr,h,ds,h1,sr,hr,e1,fun vs H1 r1 v1 hr1 f1=>?_⟩
 exact (q.later f1).lst e v1 hr1
theorem pP {K:PySem.W.Frag}{P:aT}{f:D→D→Hh→R D}{e':E}(he:∀ fr h,Ev.ev P e' fr h=(Ev.ev P a fr h).bind fun x h1=>(Ev.ev P b fr h1).bind fun y h2=>f x y h2) :
  ∀ s H Q,tJ K m P e' s H Q→Ar (iU K f) (tJ K m P a) (tJ K m P b) s H Q:=fun s H Q q=>by
 obtain ⟨r,fr,h,d,h',sr,hr,e,q⟩:=q
 rw [he] at e
 obtain ⟨x,h1,e1,e⟩:=Ev.ai e
 obtain ⟨y,h2,e2,e⟩:=Ev.ai e
 refine ⟨r,fr,h,x,h1,sr,hr,e1,fun v H1 r1 v1 hr1 f1=>?_⟩
 refine ⟨r1,fr,h1,y,h2,sr.mono f1,hr1,e2,fun u H2 r2 v2 hr2 f2=>?_⟩
 exact ⟨r2,h2,x,y,d,h',hr2,v1.mono f2,v2,e,q.later (f1.trans f2)⟩
theorem mK {o:bU}{op:Operator}(ho:∀ X,Good G n sc N df X→d7 X (binaryOp op) (iU X.K (Ev.bQ o))) (ha:JE G n sc N df m a xa) (hb:JE G n sc N df m b xb):JE G n sc N df m (.bin o a b) (.BinOp xa op xb pos):=
 fun X g=>PE.of (Sf (ho X g) (ha X g) (hb X g)) (pP fun fr h=>by simp only [Ev.ev])
noncomputable def iE (o:bN):D→D→Hh→R D:=fun x y h=>R.of ((Ev.cop o x y h).map .bl) h
theorem AH {o:bN}{op:CmpOp}(ho:∀ X,Good G n sc N df X→d7 X (compareOp op) (iU X.K (iE o))) (ha:JE G n sc N df m a xa) (hb:JE G n sc N df m b xb) (hm:behindInMarks op xb=false):JE G n sc N df m (.cmp o a b) (.Compare xa [op] [xb] pos):=
 fun X g=>PE.of (IT (ho X g) (ha X g) (hb X g) hm) (pP fun fr h=>by simp only [Ev.ev,iE])
theorem nH {o:bN}{x y d:D}{h h':Hh}(e:iE o x y h=.ok d h'):∃ k,Ev.cop o x y h=some k∧d=.bl k∧h'=h:=by
 unfold iE at e
 obtain ⟨e1,rfl⟩:=Ev.aQ e
 cases z:Ev.cop o x y h' with
 | none=>rw [z] at e1;cases e1
 | some k=>rw [z] at e1;cases e1;exact ⟨k,rfl,rfl,rfl⟩
theorem pQ {o:bN}{op:CmpOp}(ho:∀ X,Good G n sc N df X→d7 X (compareOp op) (iU X.K (iE o))) (ha:JE G n sc N df m a xa) (hb:JE G n sc N df m b xb) (hm:behindInMarks op xb=false):JT G n sc N df m (.cmp o a b) (.Compare xa [op] [xb] pos):=
 fun X g=>PT.of (IU (ho X g) (ha X g) (hb X g) hm) fun s H Q q=>by
  obtain ⟨r,fr,h,k,h',sr,hr,e,q⟩:=q
  simp only [Ev.aM] at e
  obtain ⟨d,h1,e1,e⟩:=Ev.ai e
  have e0:=e1
  simp only [Ev.ev] at e0
  obtain ⟨x,h2,_,e0⟩:=Ev.ai e0
  obtain ⟨y,h3,_,e0⟩:=Ev.ai e0
  obtain ⟨k',e2,e3,e4⟩:=nH (o:=o) (show iE o x y h3=_ from e0)
  subst e3
  simp only [Ev.truthy] at e
  cases e
  refine pP (e':=.cmp o a b) (f:=iE o) (fun fr h=>by simp only [Ev.ev,iE]) s H _ ⟨r,fr,h,.bl k,_,sr,hr,e1,fun v H1 r1 v1 hr1 f1=>?_⟩
  exact ⟨k,v1,q H1 r1 hr1 f1⟩
end
end Sm
set_option maxRecDepth 100000
namespace Sm
open PySem PySem.Spec PyProof.Rows L2
open Ev (D O Hh Fr R aT E Es Eo It T S Ss Fl Src bU bN TY BI ME)
section
variable {G:Tb}{n:Nat}{sc:Scope}{N:List Str}{df:Bool}{m:List Nat}{a b c:E}{xa xb xc:Expr}{pos:Pos}
theorem Ml (ha:JE G n sc N df m a xa):JE G n sc N df m (.neg a) (.UnaryOp .USub xa pos):=fun X g=>PE.of (Sg LJ (ha X g)) fun s H Q q=>by
 obtain ⟨r,fr,h,d,h',sr,hr,e,q⟩:=q
 simp only [Ev.ev] at e
 obtain ⟨x,h1,e1,e⟩:=Ev.ai e
 split at e
 ·cases e
  exact ⟨r,fr,h,_,_,sr,hr,e1,fun v H1 r1 v1 hr1 f1=>⟨_,v1,(q.later f1).here rfl hr1⟩⟩
 ·cases e
theorem Mm {op}(ha:JE G n sc N df m a xa):JE G n sc N df m a (.BoolOp op [xa] pos):=fun X g=>Lp (ha X g)
theorem SG {rest:List Expr}(ha:JE G n sc N df m a xa) (hb:JE G n sc N df m b (.BoolOp .And (xb :: rest) pos)):JE G n sc N df m (.an a b) (.BoolOp .And (xa :: xb :: rest) pos):=fun X g=>PE.of (Lq (ha X g) (hb X g)) fun s H Q q=>by
 obtain ⟨r,fr,h,d,h',sr,hr,e,q⟩:=q
 simp only [Ev.ev] at e
 obtain ⟨x,h1,e1,e⟩:=Ev.ai e
 refine ⟨r,fr,h,x,h1,sr,hr,e1,fun v H1 r1 v1 hr1 f1=>?_⟩
 split at e
 ·exact ⟨true,v1,r1,fr,h1,d,h',sr.mono f1,hr1,e,q.later f1⟩
 ·cases e
  exact ⟨false,v1,(q.later f1).here rfl hr1⟩
 ·cases e
theorem Mn (ha:JT G n sc N df m a xa) (hb:JE G n sc N df m b xb) (hc:JE G n sc N df m c xc):JE G n sc N df m (.jW a b c) (.IfExp xa xb xc pos):=fun X g=>PE.of (CJ (ha X g) (hb X g) (hc X g)) fun s H Q q=>by
 obtain ⟨r,fr,h,d,h',sr,hr,e,q⟩:=q
 simp only [Ev.ev] at e
 obtain ⟨k,h1,e1,e⟩:=Ev.ai e
 refine ⟨r,fr,h,k,h1,sr,hr,e1,fun H1 r1 hr1 f1=>?_⟩
 cases k with
 | true=>exact ⟨r1,fr,h1,d,h',sr.mono f1,hr1,e,q.later f1⟩
 | false=>exact ⟨r1,fr,h1,d,h',sr.mono f1,hr1,e,q.later f1⟩
theorem Mp (h:JW G n sc N df m a xa):JT G n sc N df m a xa:=fun X g=>(h X g).pt
theorem Mq (ha:JT G n sc N df m a xa):JW G n sc N df m a (.BoolOp .And [xa] pos):=fun X g=>IL (ha X g)
theorem Jl (ha:JT G n sc N df m a xa):JW G n sc N df m a (.BoolOp .Or [xa] pos):=fun X g=>Lm (ha X g)
theorem FY {rest:List Expr}(ha:JT G n sc N df m a xa) (hb:JW G n sc N df m b (.BoolOp .And (xb :: rest) pos)):JW G n sc N df m (.an a b) (.BoolOp .And (xa :: xb :: rest) pos):=fun X g=>PW.of (Ln (ha X g) (hb X g)) fun s H Q q=>by
 obtain ⟨r,fr,h,k,h',sr,hr,e,q⟩:=q
 simp only [Ev.aM] at e
 obtain ⟨k1,h1,e1,e⟩:=Ev.ai e
 refine ⟨r,fr,h,k1,h1,sr,hr,e1,fun H1 r1 hr1 f1=>?_⟩
 cases k1 with
 | true=>exact ⟨r1,fr,h1,k,h',sr.mono f1,hr1,e,fun H2 r2 hr2 f2=>q H2 r2 hr2 (f1.trans f2)⟩
 | false=>
  have e':R.ok false h1=R.ok k h':=e
  cases e'
  exact q H1 r1 hr1 f1
theorem AI {rest:List Expr}(ha:JT G n sc N df m a xa) (hb:JW G n sc N df m b (.BoolOp .Or (xb :: rest) pos)):JW G n sc N df m (.orr a b) (.BoolOp .Or (xa :: xb :: rest) pos):=fun X g=>PW.of (R6 (ha X g) (hb X g)) fun s H Q q=>by
 obtain ⟨r,fr,h,k,h',sr,hr,e,q⟩:=q
 simp only [Ev.aM] at e
 obtain ⟨k1,h1,e1,e⟩:=Ev.ai e
 refine ⟨r,fr,h,k1,h1,sr,hr,e1,fun H1 r1 hr1 f1=>?_⟩
 cases k1 with
 | false=>exact ⟨r1,fr,h1,k,h',sr.mono f1,hr1,e,fun H2 r2 hr2 f2=>q H2 r2 hr2 (f1.trans f2)⟩
 | true=>
  have e':R.ok true h1=R.ok k h':=e
  cases e'
  exact q H1 r1 hr1 f1
theorem SH (ha:JT G n sc N df m a xa):JT G n sc N df m (.nt a) (.UnaryOp .Not xa pos):=fun X g=>PT.of (Lo (ha X g)) fun s H Q q=>by
 obtain ⟨r,fr,h,k,h',sr,hr,e,q⟩:=q
 simp only [Ev.aM] at e
 obtain ⟨k1,h1,e1,e⟩:=Ev.ai e
 cases e
 exact ⟨r,fr,h,k1,_,sr,hr,e1,fun H1 r1 hr1 f1=>q H1 r1 hr1 f1⟩
theorem Mr {K:PySem.W.Frag}{H:Hp}{r:List Addr}{h:Hh}{d:D}{v:V}{k:Bool}(hr:HR K H r h) (v1:RV K H r d v) (e:Ev.truthy h d=some k):CQ K v H k:=by
 cases d with
 | bf=>simp only [RV] at v1;subst v1;cases e;rfl
 | bl x=>simp only [RV] at v1;subst v1;cases e;rfl
 | int x=>simp only [RV] at v1;subst v1;cases e;rfl
 | str x=>
  simp only [RV] at v1
  obtain ⟨rfl,z⟩:=v1
  cases e
  refine ⟨by rw [cV];exact z,?_⟩
  rw [cV]
  cases x with
  | nil=>rfl
  | cons c l=>simp;omega
 | tup ds=>
  simp only [RV] at v1
  obtain ⟨p,vs,rfl,z,q⟩:=v1
  cases e
  refine .inr (.inl ⟨vs,z,?_⟩)
  have hl:=q.length
  cases ds <;> cases vs <;> simp_all
 | ref i=>
  simp only [RV] at v1
  obtain ⟨p,rfl,z⟩:=v1
  by_cases Vg:∃ kvs,h[i]?=some (.dct kvs)
  ·obtain ⟨kvs,e1⟩:=Vg
   simp only [Ev.truthy,e1] at e
   obtain ⟨p',z1,z2,_⟩:=hr.dct e1
   rw [z] at z1;cases z1
   refine .inr (.inr ⟨_,z2,?_⟩)
   cases e
   cases kvs <;> rfl
  have et:Ev.truthy h (.ref i)=(Ev.bx h i).map fun ds=>!ds.isEmpty:=by
   simp only [Ev.truthy]
   split
   ·rename_i kvs z;exact (Vg ⟨kvs,z⟩).elim
   ·rfl
  rw [et] at e
  simp only [Option.map_eq_some_iff] at e
  obtain ⟨ds,e1,rfl⟩:=e
  obtain ⟨p',vs,e2,q1,q2⟩:=hr.read e1
  rw [z] at e2;cases e2
  refine .inl ⟨vs,q1,?_⟩
  have hl:=q2.length
  cases ds <;> cases vs <;> simp_all
theorem Ms (ha:JE G n sc N df m a xa) (he:∀ (P:aT) fr h,Ev.aM P a fr h=(Ev.ev P a fr h).bind fun x h1=>R.of (Ev.truthy h1 x) h1:=by intros;simp only [Ev.aM])
  (hx:∀ (env:Env) whole,isTrue xa env whole=(do let v ←whole;standAt xa.pos;holding [v] (truthy v)):=by intro _ _;rfl):JT G n sc N df m a xa:=fun X g=>PT.of (CS (ha X g) (hx _)) fun s H Q q=>by
 obtain ⟨r,fr,h,k,h',sr,hr,e,q⟩:=q
 rw [he] at e
 obtain ⟨d,h1,e1,e⟩:=Ev.ai e
 obtain ⟨e,rfl⟩:=Ev.aQ e
 refine ⟨r,fr,h,d,_,sr,hr,e1,fun v H1 r1 v1 hr1 f1=>⟨k,Mr hr1 v1 e,q H1 r1 hr1 f1⟩⟩
noncomputable def rR:D→D→Hh→R D:=fun x y h=>R.of (Ev.eF x y h) h
theorem SI (ho:∀ X,Good G n sc N df X→wV X (iU X.K rR)) (ha:JE G n sc N df m a xa) (hb:JE G n sc N df m b xb) (hs:wU xb:=by intro _ _;rfl):JE G n sc N df m (.ix a b) (.Subscript xa xb pos):=
 fun X g=>PE.of (Sv (ho X g) (ha X g) (hb X g) hs) (pP fun fr h=>by simp only [Ev.ev,rR])
theorem SJ:JO G n sc N df m .no none:=fun X g=>PO.of IY fun s H Q q=>by
 obtain ⟨r,fr,h,o,h',sr,hr,e,q⟩:=q
 simp only [Ev.gg] at e
 cases e
 exact q H r hr .refl
theorem Mt (ha:JE G n sc N df m a xa):JO G n sc N df m (.yes a) (some xa):=fun X g=>PO.of (IZ (ha X g)) fun s H Q q=>by
 obtain ⟨r,fr,h,o,h',sr,hr,e,q⟩:=q
 simp only [Ev.gg] at e
 obtain ⟨d,h1,e1,e⟩:=Ev.ai e
 obtain ⟨e,rfl⟩:=Ev.aQ e
 cases d with
 | int i=>
  cases e
  exact ⟨r,fr,h,.int i,_,sr,hr,e1,fun v H1 r1 v1 hr1 f1=>⟨i,v1,q H1 r1 hr1 f1⟩⟩
 | _=>cases e
theorem SK {lo hi:Eo}{xl xh:Option Expr}{p2}(ho:∀ X,Good G n sc N df X→kB X (Mc X.K)) (ha:JE G n sc N df m a xa) (hl:JO G n sc N df m lo xl) (hu:JO G n sc N df m hi xh):JE G n sc N df m (.sl a lo hi) (.Subscript xa (.Slice xl xh none p2) pos):=
 fun X g=>PE.of (CV (ho X g) (ha X g) (hl X g) (hu X g)) fun s H Q q=>by
  obtain ⟨r,fr,h,d,h',sr,hr,e,q⟩:=q
  simp only [Ev.ev] at e
  obtain ⟨x,h1,e1,e⟩:=Ev.ai e
  obtain ⟨l,h2,e2,e⟩:=Ev.ai e
  obtain ⟨u,h3,e3,e⟩:=Ev.ai e
  refine ⟨r,fr,h,x,h1,sr,hr,e1,fun v H1 r1 v1 hr1 f1=>?_⟩
  refine ⟨r1,fr,h1,l,h2,sr.mono f1,hr1,e2,fun H2 r2 hr2 f2=>?_⟩
  refine ⟨r2,fr,h2,u,h3,(sr.mono f1).mono f2,hr2,e3,fun H3 r3 jc f3=>?_⟩
  exact ⟨r3,h3,x,d,h',jc,(v1.mono f2).mono f3,e,q.later ((f1.trans f2).trans f3)⟩
theorem Jm {K:PySem.W.Frag}{P:aT}{es:Es}{f:List D→Hh→R D}{e':E}(he:∀ fr h,Ev.ev P e' fr h=(Ev.cj P es fr h).bind f) :
  ∀ s H Q,tJ K m P e' s H Q→LP (uq K f) (Mb K m P es) s H Q:=fun s H Q q=>by
 obtain ⟨r,fr,h,d,h',sr,hr,e,q⟩:=q
 rw [he] at e
 obtain ⟨ds,h1,e1,e⟩:=Ev.ai e
 exact ⟨r,fr,h,ds,h1,sr,hr,e1,fun vs H1 r1 v1 hr1 f1=>⟨r1,h1,ds,d,h',hr1,v1,e,q.later f1⟩⟩
theorem sW {k:BI}{es:Es}{x:Str}{id:String}{e0:Expr}{xs:List Expr}{p:Pos}(hc:∀ X,Good G n sc N df X→gK X (.builtin id) (uq X.K (Ev.cX k))) (hs:JA G n sc N df m es (e0 :: xs)) (hb:x∈G.bl:=by decide +kernel)
  (hg:sc.names.lookup x=some .globalImplicit:=by rfl) (hv:bootBuiltins x=some (.builtin id)) (hn:x≠"__name__" :=by decide) (hd:(x==("__debug__" : Str))=false:=by decide)
  (hst:∀ env:Env,starEach (e0 :: xs) env=(false,eval e0 env) :: starEach xs env:=by intro _;rfl) (hpl:∀ env:Env,(backTo pos (starEach xs env)).any (·.1)=false:=by intro _;rfl) :
  JE G n sc N df m (.bi k es) (.Call (.Name x p) (e0 :: xs) [] pos):=
 fun X g=>PE.of (CT (hc X g) (g.gl hg) (g.bl x hb) hv (hs X g) hn hd (hst _) (hpl _)) (Jm fun fr h=>by simp only [Ev.ev])
theorem SM {f:Nat}{i:FI}{es:Es}{e0:Expr}{xs:List Expr}{p:Pos}(hf:G.fi[f]?=some i) (hs:JA G n sc N df m es (e0 :: xs))
  (hg:sc.names.lookup i.name=some .globalImplicit:=by rfl) (hd:(i.name==("__debug__" : Str))=false:=by decide)
  (hst:∀ env:Env,starEach (e0 :: xs) env=(false,eval e0 env) :: starEach xs env:=by intro _;rfl) (hpl:∀ env:Env,(backTo pos (starEach xs env)).any (·.1)=false:=by intro _;rfl) :
  JE G n sc N df m (.cl f es) (.Call (.Name i.name p) (e0 :: xs) [] pos):=fun X g=>by
 obtain ⟨h1,h2,h3,h4⟩:=g.fn f i hf
 refine PE.of (IV h4 g.room (g.gl hg) h1 h2 h3 .nil Sx (hs X g) hd (hst _) (hpl _)) fun s H Q q=>?_
 obtain ⟨r,fr,h,d,h',sr,hr,e,q⟩:=q
 simp only [Ev.ev] at e
 obtain ⟨ds,h5,e1,e⟩:=Ev.ai e
 refine ⟨r,fr,h,ds,h5,sr,hr,e1,fun vs H1 r1 v1 hr1 f1=>?_⟩
 exact ⟨r1,h5,ds,d,h',by rw [List.append_nil];exact v1,hr1,e,q.later f1⟩
noncomputable def C7:ME→String
 | .join=>"str"
 | _=>"list"
theorem AJ {K:PySem.W.Frag}{H:Hp}{r:List Addr}{h:Hh}{k:ME}{d:D}{v:V}{ty:String}(hr:HR K H r h) (v1:RV K H r d v) (e:Ev.wY k d h=true) (ht:ty=C7 k):Ax K ty v H:=by
 subst ht
 have lst:∀ i,d=.ref i→(Ev.bx h i).isSome=true→Ax K "list" v H:=fun i ed es=>by
  subst ed
  obtain ⟨ds,e1⟩:=Option.isSome_iff_exists.mp es
  obtain ⟨p,vs,e2,q1,q2⟩:=hr.read e1
  simp only [RV] at v1
  obtain ⟨p',rfl,e3⟩:=v1
  rw [e2] at e3;cases e3
  exact .inl ⟨rfl,vs,q1⟩
 cases k with
 | join=>
  cases d with
  | str l=>simp only [RV] at v1;obtain ⟨rfl,_⟩:=v1;rfl
  | _=>cases e
 | append=>cases d with | ref i=>exact lst i rfl e | _=>cases e
 | extend=>cases d with | ref i=>exact lst i rfl e | _=>cases e
 | pop=>cases d with | ref i=>exact lst i rfl e | _=>cases e
theorem yK {k:ME}{es:Es}{e0:Expr}{xs:List Expr}{name:Str}{apos:Pos}{ty id:String}(pa:PlainAttrs ty) (slot:Slot ty name id) (hty:typeOf (.builtin id)=pure (.type "method_descriptor"))
  (hm:∀ X,Good G n sc N df X→rL X id (ur X.K (Ev.fF k))) (ht:ty=C7 k) (ha:JE G n sc N df m a xa) (hs:JA G n sc N df m es (e0 :: xs))
  (hbase:∀ env:Env,attributeBase xa name env (eval xa env)=eval xa env:=by intro _;rfl)
  (hfew:∀ env:Env,((backTo pos (starEach (e0 :: xs) env)).all (fun x=>!x.1)&&(backToKw pos (keywordEach [] env)).all (fun x=>x.1.isSome)
   &&decide ((e0 :: xs).length+([]:List Keyword).length+(if ([]:List Keyword).isEmpty then 0 else 1)<30))=true:=by intro _;rfl)
  (hline:(apos.endLine==pos.line)=true:=by rfl) (hst:∀ env:Env,starEach (e0 :: xs) env=(false,eval e0 env) :: starEach xs env:=by intro _;rfl) (hpl:∀ env:Env,(backTo pos (starEach xs env)).any (·.1)=false:=by intro _;rfl) :
  JE G n sc N df m (.me k a es) (.Call (.Attribute xa name apos) (e0 :: xs) [] pos):=fun X g=>
 PE.of (Sw pa slot hty (hm X g) (ha X g) (hs X g) (hbase _) (hfew _) hline (hst _) (hpl _)) fun s H Q q=>by
  obtain ⟨r,fr,h,d,h',sr,hr,e,q⟩:=q
  simp only [Ev.ev] at e
  obtain ⟨x,h1,e1,e⟩:=Ev.ai e
  split at e
  ·rename_i hk
   obtain ⟨ds,h2,e2,e⟩:=Ev.ai e
   refine ⟨r,fr,h,x,h1,sr,hr,e1,fun v H1 r1 v1 hr1 f1=>⟨AJ hr1 v1 hk ht,?_⟩⟩
   refine ⟨r1,fr,h1,ds,h2,sr.mono f1,hr1,e2,fun vs H2 r2 v2 hr2 f2=>?_⟩
   exact ⟨r2,h2,x,ds,d,h',hr2,v1.mono f2,v2,e,q.later (f1.trans f2)⟩
  ·cases e
theorem Mu {k:ME}{name:Str}{apos:Pos}{ty id:String}(pa:PlainAttrs ty) (slot:Slot ty name id) (hty:typeOf (.builtin id)=pure (.type "method_descriptor"))
  (hm:∀ X,Good G n sc N df X→rL X id (ur X.K (Ev.fF k))) (ht:ty=C7 k) (ha:JE G n sc N df m a xa)
  (hbase:∀ env:Env,attributeBase xa name env (eval xa env)=eval xa env:=by intro _;rfl) (hline:(apos.endLine==pos.line)=true:=by rfl) :
  JE G n sc N df m (.me k a .nil) (.Call (.Attribute xa name apos) [] [] pos):=fun X g=>
 PE.of (LV pa slot hty (hm X g) (ha X g) (hbase _) hline) fun s H Q q=>by
  obtain ⟨r,fr,h,d,h',sr,hr,e,q⟩:=q
  simp only [Ev.ev] at e
  obtain ⟨x,h1,e1,e⟩:=Ev.ai e
  split at e
  ·rename_i hk
   simp only [Ev.cj,Ev.ao] at e
   refine ⟨r,fr,h,x,h1,sr,hr,e1,fun v H1 r1 v1 hr1 f1=>⟨AJ hr1 v1 hk ht,?_⟩⟩
   exact ⟨r1,h1,x,[],d,h',hr1,v1,.nil,e,q.later f1⟩
  ·cases e
end
end Sm
set_option maxRecDepth 100000
namespace Sm
open PySem PySem.Spec PyProof.Rows L2
open Ev (D O Hh Fr R aT E Es Eo T S Ss Fl Src bU bN TY BI ME)
noncomputable def oZ (K:PySem.W.Frag) (r0:List Addr) (H0:Hp) (s:Src) (J:L2.It):Prop:=∀ (i:Nat) H1 r1 h1,HR K H1 r1 h1→Fm K r0 r1 H0 H1→Ev.stays h1 s.2=true→
 (∀ d,s.1[i]?=some d→J.go i H1∧∀ x H2,J.FO i H1 x H2→∃ r2,RV K H2 r2 d x∧HR K H2 r2 h1∧Fm K r1 r2 H1 H2)∧(s.1.length≤i→J.stop i H1)
inductive Vh (K:PySem.W.Frag) (m:List Nat) (P:aT) (it:Ev.It) (s:L2.St) (H:Hp) (Rr:L2.It→Hp→Prop):Prop
 | mk (r:List Addr) (fr:Fr) (h:Hh) (src:Src) (h':Hh) (c0:SR K m H r fr s) (c1:HR K H r h) (c2:Ev.cL P it fr h=.ok src h') (c3:∀ J H' r',HR K H' r' h'→Fm K r r' H H'→oZ K r' H' src J→Rr J H'):Vh K m P it s H Rr
noncomputable def JI (G:Tb) (n:Nat) (sc:Scope) (N:List Str) (df:Bool) (m:List Nat) (it:Ev.It) (tg x:Expr):Prop:=∀ X,Good G n sc N df X→PI X tg x (Vh X.K m (Ev.run G.F G.w n) it)
noncomputable def FZ (z:Str):L2.It:=⟨fun i _=>i<z.length,fun i H x H'=>H'=H∧∃ c,z.cps[i]?=some c∧x=.str ⟨#[c]⟩,fun i _=>z.length≤i⟩
theorem Mv {M:Model}{A:Around}{E:Value→Shared→Prop}{s:Shared}{tg:Expr}{it:Value}{x:Str}{t:Tok}{Q:Unit→Shared→Prop}(hQ:Q () s):wpAny M A (letOwnedTupleGo tg it (.str x t)) Q E s:=by
 unfold letOwnedTupleGo
 cases tg <;> first
  | exact wpAny_pure hQ
  | (cases it <;> exact wpAny_pure hQ)
theorem uv {P:Program}{w:World}{K:PySem.W.Frag}{tg:Expr}(z:Str) (t:Tok) (it:Addr) (ty:String) (hty:ty = "str_ascii_iterator" ∨ty = "str_iterator") :
  Turn P w K tg (FZ z) [it] it (fun i h=>h.IsStrIter it ty z t i) where
 mem:=by simp
 obj:=fun i h st b hb=>by
  have e:b=it:=by simpa using hb
  subst e
  obtain ⟨o,e,c,d⟩:=st
  exact ⟨o,e,fun v z=>by rw [d] at z;cases z⟩
 keep:=fun i h h' st k=>by
  obtain ⟨o,e,c,d⟩:=st
  exact ⟨o,k it (by simp) o e,c,d⟩
 item:=by
  intro X hP hw hK hc i pins s σ H E I hf st hg
  subst hP hw hK
  obtain ⟨f0,f1,f2,f3,f4,f5⟩:=hf it (by simp)
  have W:Walks X.prog X.w X.A it [it] [it] z.cps.size (SignAt z) (fun i h=>h.IsStrIter it ty z t i):=by
   rcases hty with e | e
   ·subst e;exact Walks.strAscii (I.ok.hd hc) it z t
   ·subst e;exact Walks.strWide (I.ok.hd hc) it z t
  refine W.item i s _ _ hg st fun v h' tk hv st' kk=>?_
  obtain ⟨c,u,hc',rfl⟩:=hv
  have I1:Inv X pins σ H { s with heap:=h',toks:=tk }:=I.turned (fun b o hb e=>kk b o (by simpa using hb) e) f0 f1 f3 f4 f5
  exact ⟨_,rfl,Mv ⟨.str ⟨#[c]⟩,H,I1,⟨u,rfl⟩,⟨rfl,c,hc',rfl⟩,st',fun b hb=>(hf b hb).1⟩⟩
 done:=by
  intro X hP hw hK hc i pins s σ H E I hf st hg
  subst hP hw hK
  obtain ⟨f0,f1,f2,f3,f4,f5⟩:=hf it (by simp)
  rcases hty with e | e
  ·subst e
   exact wpAny_pyNext_ascii_end (I.ok.hd hc) st (by simpa [Str.length,FZ] using hg) fun h' eb=>⟨rfl,I.turned (t':=s.toks) (fun b o hb e=>eb b o hb e) f0 f1 f3 f4 f5⟩
  ·subst e
   exact wpAny_pyNext_wide_end (I.ok.hd hc) st (by simpa [Str.length,FZ] using hg) fun h' eb=>⟨rfl,I.turned (t':=s.toks) (fun b o hb e=>eb b o hb e) f0 f1 f3 f4 f5⟩
 self:=fun _ _ _ _ _ st h=>by
  rcases hty with e | e
  ·subst e;exact wpAny_pyIter_striter_ascii st h
  ·subst e;exact wpAny_pyIter_striter_wide st h
noncomputable def Ga (K:PySem.W.Frag) (x:V) (H:Hp) (Rr:L2.It→Hp→Prop):Prop:=
 (∃ a xs,x=.ref a∧eO K H a xs∧Rr (U9 K a) H)∨(∃ a xs,x=.ref a∧dI K H a xs∧Rr (Va K a) H)∨∃ z,x=.str z∧Rr (FZ z) H
theorem Mw {X:Cx}{tg l:Expr}{tl:TE}{wi:TI}(hl:PE X l tl) (hw:∀ s H Rr,wi s H Rr→tl s H fun x H1=>Ga X.K x H1 Rr):PI X tg l wi:=by
 intro pins s σ H Rr I h
 refine bE (hl pins s σ H _ I (hw _ _ _ h)) fun v s1 ⟨x,H1,I1,r1,q1⟩=>?_
 have fp:∀ (o:Obj) b,b∈[s1.heap.objs.size]→gx X pins H1 b:=fun o b hb=>by
  have e:b=s1.heap.objs.size:=by simpa using hb
  subst e
  exact I1.yp (Nat.le_refl _) (I1.hok.fresh (Nat.le_refl _))
 rcases q1 with ⟨a,xs,rfl,hq,q⟩ | ⟨a,xs,rfl,hq,q⟩ | ⟨z,rfl,q⟩
 ·cases r1
  obtain ⟨its,rv,p,hz⟩:=I1.list hq
  refine wpAny_pyIter_list p.isList ?_
  exact ⟨s1.heap.objs.size,[s1.heap.objs.size],_,_,H1,rfl,I1.kept (t':=s1.toks) fun b o e=>Heap.get?_push_of_some _ e,Ak a _,⟨_,Heap.get?_push_size _ rfl,rfl,rfl⟩,fp default,q⟩
 ·cases r1
  obtain ⟨its,rv,p,hz⟩:=I1.tuple hq
  refine wpAny_pyIter_tuple (show s1.heap.IsTuple a its.toArray from p) ?_
  exact ⟨s1.heap.objs.size,[s1.heap.objs.size],_,_,H1,rfl,I1.kept (t':=s1.toks) fun b o e=>Heap.get?_push_of_some _ e,yr a _,⟨_,Heap.get?_push_size _ rfl,rfl,rfl⟩,fp default,q⟩
 ·obtain ⟨t,rfl⟩:=r1
  cases ha:z.cps.all (· < 128)
  ·refine wpAny_pyIter_wide ha ?_
   exact ⟨s1.heap.objs.size,[s1.heap.objs.size],_,_,H1,rfl,I1.kept (t':=s1.toks) fun b o e=>Heap.get?_push_of_some _ e,uv z t _ _ (.inr rfl),⟨_,Heap.get?_push_size _ rfl,rfl,rfl⟩,fp default,q⟩
  ·refine wpAny_pyIter_ascii ha ?_
   exact ⟨s1.heap.objs.size,[s1.heap.objs.size],_,_,H1,rfl,I1.kept (t':=s1.toks) fun b o e=>Heap.get?_push_of_some _ e,uv z t _ _ (.inl rfl),⟨_,Heap.get?_push_size _ rfl,rfl,rfl⟩,fp default,q⟩
theorem rS {h:Hh}{n:Nat}{ds:List D}(e:Ev.stays h [(n,ds)]=true):Ev.bx h n=some ds:=by
 simp only [Ev.stays,Bool.and_true] at e
 split at e
 ·rename_i es q
  rw [q,(Ev.rQ _ _).mp e]
 ·cases e
theorem Jo {K:PySem.W.Frag}{H:Hp}{r:List Addr}{h:Hh}{d:D}{v:V}{src:Src}{Rr:L2.It→Hp→Prop}(hr:HR K H r h) (v1:RV K H r d v) (e:Ev.fL h d=some src) (q:∀ J,oZ K r H src J→Rr J H):Ga K v H Rr:=by
 cases d with
 | tup ds=>
  simp only [RV] at v1
  obtain ⟨a,vs,rfl,z,w⟩:=v1
  cases e
  refine .inr (.inl ⟨a,vs,rfl,z,q _ fun i H1 r1 h1 hr1 f1 st=>⟨fun d' e'=>?_,fun hl=>?_⟩⟩)
  ·obtain ⟨u,e1,e2⟩:=w.get e'
   refine ⟨⟨vs,u,f1.tups _ _ z,e1⟩,fun x H2 y=>?_⟩
   obtain ⟨rfl,y⟩:=y
   have:=y vs (f1.tups _ _ z)
   rw [e1] at this;cases this
   exact ⟨r1,e2.mono f1,hr1,.refl⟩
  ·exact ⟨vs,f1.tups _ _ z,by rw [w.length];exact hl⟩
 | str l=>
  simp only [RV] at v1
  obtain ⟨rfl,z⟩:=v1
  cases e
  refine .inr (.inr ⟨_,rfl,q _ fun i H1 r1 h1 hr1 f1 st=>⟨fun d' e'=>?_,fun hl=>?_⟩⟩)
  ·rw [List.getElem?_map] at e'
   cases e2:l[i]? with
   | none=>rw [e2] at e';cases e'
   | some c=>
    rw [e2] at e'
    cases e'
    refine ⟨by show i<(bu l).length;rw [cV];exact (List.getElem?_eq_some_iff.mp e2).1,fun x H2 y=>?_⟩
    obtain ⟨rfl,c',y1,rfl⟩:=y
    have e3:(bu l).cps[i]?=some c:=by simp [bu,e2]
    rw [e3] at y1;cases y1
    exact ⟨r1,⟨rfl,by show 1≤sizeLine;decide⟩,hr1,.refl⟩
  ·show (bu l).length≤i
   rw [cV];simpa using hl
 | ref k=>
  simp only [RV] at v1
  obtain ⟨a,rfl,z⟩:=v1
  simp only [Ev.fL,Option.map_eq_some_iff] at e
  obtain ⟨ds,e1,rfl⟩:=e
  obtain ⟨a',vs,e2,e3,e4⟩:=hr.read e1
  rw [z] at e2;cases e2
  refine .inl ⟨a,vs,rfl,e3,q _ fun i H1 r1 h1 hr1 f1 st=>?_⟩
  obtain ⟨a',us,e5,e6,e7⟩:=hr1.read (rS st)
  rw [f1.pre _ _ z] at e5;cases e5
  refine ⟨fun d' e'=>?_,fun hl=>⟨us,e6,by rw [e7.length];exact hl⟩⟩
  obtain ⟨u,g1,g2⟩:=e7.get e'
  refine ⟨⟨us,u,e6,g1⟩,fun x H2 y=>?_⟩
  obtain ⟨rfl,y⟩:=y
  have:=y us e6
  rw [g1] at this;cases this
  exact ⟨r1,g2,hr1,.refl⟩
 | _=>cases e
section
variable {G:Tb}{n:Nat}{sc:Scope}{N:List Str}{df:Bool}{m:List Nat}{a b c:E}{xa xb xc tg:Expr}{pos:Pos}
theorem Mx (ha:JE G n sc N df m a xa):JI G n sc N df m (.seq a) tg xa:=fun X g=>Mw (ha X g) fun s H Rr q=>by
 obtain ⟨r,fr,h,src,h',sr,hr,e,q⟩:=q
 simp only [Ev.cL] at e
 obtain ⟨d,h1,e1,e⟩:=Ev.ai e
 obtain ⟨e,rfl⟩:=Ev.aQ e
 refine ⟨r,fr,h,d,_,sr,hr,e1,fun v H1 r1 v1 hr1 f1=>?_⟩
 exact Jo hr1 v1 e fun J hJ=>q J H1 r1 hr1 f1 hJ
theorem PI.of {X:Cx}{tg l:Expr}{t t':TI}(h:PI X tg l t) (w:∀ s H Q,t' s H Q→t s H Q):PI X tg l t':=fun pins s σ H Q I q=>h pins s σ H Q I (w _ _ _ q)
theorem AK {K:PySem.W.Frag}{r:List Addr}{H:Hp}(lo:Int) (k:Nat):oZ K r H (Ev.range lo k,[]) (Aj lo k):=fun i H1 r1 h1 hr1 f1 st=>by
 refine ⟨fun d e=>?_,fun hl=>?_⟩
 ·simp only [Ev.range,List.getElem?_map] at e
  cases e2:(List.range k)[i]? with
  | none=>rw [e2] at e;cases e
  | some j=>
   rw [e2] at e
   cases e
   have hi:i<k:=by simpa using (List.getElem?_eq_some_iff.mp e2).1
   have hj:j=i:=by
    rw [List.getElem?_range hi] at e2
    exact (Option.some.inj e2).symm
   subst hj
   refine ⟨hi,fun x H2 y=>?_⟩
   obtain ⟨rfl,rfl⟩:=y
   exact ⟨r1,rfl,hr1,.refl⟩
 ·have:(Ev.range lo k).length=k:=by simp [Ev.range]
  show k≤i
  have hl':(Ev.range lo k).length≤i:=hl
  omega
theorem Jp {e1:E}{p:Pos}(hs:JA G n sc N df m (.cons e1 .nil) [xa]) (hg:sc.names.lookup ("range" : Str)=some .globalImplicit:=by rfl) (hb:("range" : Str)∈G.bl:=by decide +kernel)
  (hst:∀ env:Env,starEach [xa] env=[(false,eval xa env)]:=by intro _;rfl):JI G n sc N df m (.gz (.cons e1 .nil)) tg (.Call (.Name "range" p) [xa] [] pos):=fun X g=>
 PI.of (Am (g.gl hg) (g.bl _ hb) (hs X g) (hst _)) fun s H Rr q=>by
  obtain ⟨r,fr,h,src,h',sr,hr,e,q⟩:=q
  simp only [Ev.cL] at e
  obtain ⟨ds,h1,e1,e⟩:=Ev.ai e
  obtain ⟨e,rfl⟩:=Ev.aQ e
  refine ⟨r,fr,h,ds,_,sr,hr,e1,fun vs H1 r1 v1 hr1 f1=>?_⟩
  unfold Ev.er at e
  split at e
  ·rename_i j
   split at e
   ·rename_i hj
    cases e
    simp only [aK,RV] at v1
    obtain ⟨v,w,rfl,rfl,rfl⟩:=v1
    exact ⟨_,rfl,hj.1,hj.2,q _ H1 r1 hr1 f1 (AK 0 _)⟩
   ·cases e
  ·exfalso
   simp only [Ev.cj] at e1
   obtain ⟨d,_,_,e1⟩:=Ev.ai e1
   simp only [Ev.ao] at e1
   cases e1
  ·cases e
theorem Jq {e1 e2:E}{p:Pos}(hs:JA G n sc N df m (.cons e1 (.cons e2 .nil)) [xa,xb]) (hg:sc.names.lookup ("range" : Str)=some .globalImplicit:=by rfl) (hb:("range" : Str)∈G.bl:=by decide +kernel)
  (hst:∀ env:Env,starEach [xa,xb] env=[(false,eval xa env),(false,eval xb env)]:=by intro _;rfl) (Yc:∀ env:Env,starEach [xb] env=[(false,eval xb env)]:=by intro _;rfl) :
  JI G n sc N df m (.gz (.cons e1 (.cons e2 .nil))) tg (.Call (.Name "range" p) [xa,xb] [] pos):=fun X g=>
 PI.of (Ao (g.gl hg) (g.bl _ hb) (hs X g) (hst _) (Yc _)) fun s H Rr q=>by
  obtain ⟨r,fr,h,src,h',sr,hr,e,q⟩:=q
  simp only [Ev.cL] at e
  obtain ⟨ds,h1,e1,e⟩:=Ev.ai e
  obtain ⟨e,rfl⟩:=Ev.aQ e
  refine ⟨r,fr,h,ds,_,sr,hr,e1,fun vs H1 r1 v1 hr1 f1=>?_⟩
  unfold Ev.er at e
  split at e
  ·exfalso
   simp only [Ev.cj] at e1
   obtain ⟨d,_,_,e1⟩:=Ev.ai e1
   obtain ⟨d2,_,e2,e1⟩:=Ev.ai e1
   obtain ⟨d3,_,e3,e2⟩:=Ev.ai e2
   simp only [Ev.ao] at e2
   cases e2
   cases e1
  ·rename_i i j
   split at e
   ·rename_i hj
    cases e
    simp only [aK,RV] at v1
    obtain ⟨v,w,rfl,rfl,v',w',rfl,rfl,rfl⟩:=v1
    exact ⟨_,_,rfl,hj,q _ H1 r1 hr1 f1 (AK _ _)⟩
   ·cases e
  ·cases e
inductive gJ (K:PySem.W.Frag) (m:List Nat) (t:T) (v:V) (s:L2.St) (H:Hp) (Q:L2.St→Hp→Prop):Prop
 | mk (r:List Addr) (fr:Fr) (h:Hh) (d:D) (aj:Fr) (c0:SR K m H r fr s) (c1:HR K H r h) (c2:RV K H r d v) (c3:Ev.bD t d fr=some aj) (c4:∀ s',SR K m H r aj s'→Q s' H):gJ K m t v s H Q
noncomputable def JG (G:Tb) (n:Nat) (sc:Scope) (N:List Str) (df:Bool) (m:List Nat) (t:T) (x:Expr):Prop:=∀ X,Good G n sc N df X→PG X x (gJ X.K m t)
theorem PG.of {X:Cx}{e:Expr}{t t':TG}(h:PG X e t) (w:∀ v s H Q,t' v s H Q→t v s H Q):PG X e t':=fun pins s σ H v u Q I r q=>h pins s σ H v u Q I r (w _ _ _ _ q)
theorem SR.set {K:PySem.W.Frag}{m:List Nat}{H:Hp}{r:List Addr}{fr:Fr}{s:L2.St}(sr:SR K m H r fr s) (hm:m.Nodup) {j i:Nat}(hj:m[j]?=some i) {d:D}{v:V}(v1:RV K H r d v):SR K m H r (fr.set i (some d)) (s.set j (some v)):=by
 refine ⟨by simp [sr.len],fun j' i' d' e1 e2=>?_⟩
 by_cases hi:i'=i
 ·subst hi
  have:j'=j:=AL hm e1 hj
  subst this
  have hlt:i'<fr.length:=by
   have:=(List.getElem?_eq_some_iff.mp e2).1
   simpa using this
  rw [List.getElem?_set_self hlt] at e2
  cases e2
  refine ⟨v,List.getElem?_set_self ?_,v1⟩
  rw [sr.len]
  exact (List.getElem?_eq_some_iff.mp hj).1
 ·rw [List.getElem?_set_ne (fun z=>hi z.symm)] at e2
  obtain ⟨u,q1,q2⟩:=sr.sl j' i' d' e1 e2
  refine ⟨u,?_,q2⟩
  rw [List.getElem?_set_ne]
  ·exact q1
  ·intro z
   subst z
   rw [hj] at e1;cases e1
   exact hi rfl
where
 AL {l:List Nat} (hl:l.Nodup) {i j:Nat} {x:Nat} (a:l[i]?=some x) (b:l[j]?=some x):i=j:=by
  have ha:=(List.getElem?_eq_some_iff.mp a)
  have hb:=(List.getElem?_eq_some_iff.mp b)
  obtain ⟨h1,e1⟩:=ha
  obtain ⟨h2,e2⟩:=hb
  exact (List.getElem_inj hl).mp (e1.trans e2.symm)
theorem Good.loc {X:Cx}(g:Good G n sc N df X) {x:Str}(h:sc.names.lookup x=some .local∨(df=true∧sc.names.lookup x=some .cell)):Loc X.env.scope x∧(X.fn x=true∨X.env.scope.names.lookup x=some .local):=by
 rw [show Loc X.env.scope x↔Loc sc x by rw [g.sc],g.sc]
 rcases h with h | ⟨h1,h⟩
 ·exact ⟨.inl h,.inr h⟩
 ·exact ⟨.inr h,.inl (g.own h1 x)⟩
theorem My (j i:Nat) {x:Str}(hm:m.Nodup) (hN:N.Nodup) (hj:m[j]?=some i:=by rfl) (rT:N[j]?=some x:=by rfl)
  (hl:sc.names.lookup x=some .local∨(df=true∧sc.names.lookup x=some .cell):=by first | exact Or.inl rfl | exact Or.inr ⟨rfl,rfl⟩):JG G n sc N df m (.one i) (.Name x pos):=fun X g=>by
 obtain ⟨h1,h2⟩:=g.loc hl
 refine PG.of (wN (i:=j) (by rw [g.nm];exact hN) (by rw [g.nm];exact rT) h1 h2) fun v s H Q q=>?_
 obtain ⟨r,fr,h,d,aj,sr,hr,v1,e,q⟩:=q
 cases e
 exact q _ (sr.set hm hj v1)
inductive Vi (K:PySem.W.Frag) (m:List Nat) (l:List Nat) (vs:List V) (s:L2.St) (H:Hp) (Q:L2.St→Hp→Prop):Prop
 | mk (r:List Addr) (fr:Fr) (h:Hh) (ds:List D) (aj:Fr) (c0:SR K m H r fr s) (c1:HR K H r h) (c2:aK K H r ds vs) (c3:Ev.cR l ds fr=some aj) (c4:∀ s',SR K m H r aj s'→Q s' H):Vi K m l vs s H Q
noncomputable def rW (G:Tb) (n:Nat) (sc:Scope) (N:List Str) (df:Bool) (m:List Nat) (l:List Nat) (xs:List Expr):Prop:=∀ X,Good G n sc N df X→oq X xs (Vi X.K m l)
theorem oq.of {X:Cx}{e:List Expr}{t t':rE}(h:oq X e t) (w:∀ v s H Q,t' v s H Q→t v s H Q):oq X e t':=fun pins s σ H v u Q I r q=>h pins s σ H v u Q I r (w _ _ _ _ q)
theorem Jr:rW G n sc N df m [] []:=fun X g=>oq.of IQ fun vs s H Q q=>by
 obtain ⟨r,fr,h,ds,aj,sr,hr,v1,e,q⟩:=q
 cases ds with
 | nil=>simp only [aK] at v1;subst v1;cases e;exact ⟨rfl,q _ sr⟩
 | cons _ _=>cases e
theorem C8 (j i:Nat) {x:Str}{l:List Nat}{xs:List Expr}(hm:m.Nodup) (hN:N.Nodup) (hs:rW G n sc N df m l xs) (hj:m[j]?=some i:=by rfl) (rT:N[j]?=some x:=by rfl)
  (hl:sc.names.lookup x=some .local∨(df=true∧sc.names.lookup x=some .cell):=by first | exact Or.inl rfl | exact Or.inr ⟨rfl,rfl⟩)
  (hst:∀ env:Env,(assignEach (.Name x pos :: xs) env).map (·.2)=assign (.Name x pos) env :: (assignEach xs env).map (·.2):=by intro _;rfl):rW G n sc N df m (i :: l) (.Name x pos :: xs):=fun X g=>by
 obtain ⟨h1,h2⟩:=g.loc hl
 refine oq.of (CM (wN (i:=j) (by rw [g.nm];exact hN) (by rw [g.nm];exact rT) h1 h2) (hs X g) (hst _)) fun vs s H Q q=>?_
 obtain ⟨r,fr,h,ds,aj,sr,hr,v1,e,q⟩:=q
 cases ds with
 | nil=>cases e
 | cons d ds=>
  simp only [aK] at v1
  obtain ⟨v,w,rfl,v2,v3⟩:=v1
  exact ⟨v,w,rfl,r,_,h,ds,aj,sr.set hm hj v2,hr,v3,e,q⟩
theorem Js {l:List Nat}{xs:List Expr}{k:Nat}(hs:rW G n sc N df m l xs) (hn:∀ env:Env,(assignEach xs env).length=l.length:=by intro _;rfl) (hst:∀ env:Env,(assignEach xs env).findIdx? (·.1)=none:=by intro _;rfl) :
  JG G n sc N df m (.many l) (.Tuple xs k pos):=fun X g=>PG.of (Lu (n:=l.length) g.calm (hs X g) (hn _) (hst _)) fun v s H Q q=>by
 obtain ⟨r,fr,h,d,aj,sr,hr,v1,e,q⟩:=q
 cases d with
 | tup ds=>
  simp only [RV] at v1
  obtain ⟨p,vs,rfl,z,w⟩:=v1
  have hlen:∀ (l:List Nat) (ds:List D) fr aj,Ev.cR l ds fr=some aj→ds.length=l.length:=by
   intro l
   induction l with
   | nil=>intro ds fr aj e;cases ds with | nil=>rfl | cons _ _=>cases e
   | cons i l ih=>intro ds fr aj e;cases ds with | nil=>cases e | cons d ds=>simp [ih ds _ _ e]
  exact ⟨p,vs,rfl,z,by rw [w.length];exact hlen _ _ _ _ e,r,fr,h,ds,aj,sr,hr,w,e,q⟩
 | _=>cases e
end
end Sm
set_option maxRecDepth 100000
namespace Sm
open PySem PySem.Spec PyProof.Rows L2
open Ev (D O Hh Fr R aT E Es Eo T S Ss Fl Src bU bN TY BI ME)
noncomputable def Fin (K:PySem.W.Frag) (m:List Nat) (r:List Addr) (H:Hp) (h':Hh) (fl:Fl) (aj:Fr) (Q:Ends):Prop:=match fl with
 | .nx=>∀ s' H' r',SR K m H' r' aj s'→HR K H' r' h'→Fm K r r' H H'→Q.nx s' H'
 | .bk=>∀ s' H' r',SR K m H' r' aj s'→HR K H' r' h'→Fm K r r' H H'→Q.bk s' H'
 | .ct=>∀ s' H' r',SR K m H' r' aj s'→HR K H' r' h'→Fm K r r' H H'→Q.ct s' H'
 | .ret d=>Res K r H h' d Q.rt
theorem Fin.later {K:PySem.W.Frag}{m:List Nat}{r r':List Addr}{H H':Hp}{h':Hh}{fl:Fl}{aj:Fr}{Q:Ends}(q:Fin K m r H h' fl aj Q) (f:Fm K r r' H H'):Fin K m r' H' h' fl aj Q:=by
 cases fl with
 | nx=>exact fun s2 H2 r2 a b g=>q s2 H2 r2 a b (f.trans g)
 | bk=>exact fun s2 H2 r2 a b g=>q s2 H2 r2 a b (f.trans g)
 | ct=>exact fun s2 H2 r2 a b g=>q s2 H2 r2 a b (f.trans g)
 | ret d=>exact Res.later q f
inductive Vj (K:PySem.W.Frag) (m:List Nat) (P:aT) (w:Nat) (st:S) (Q:Ends) (s:L2.St) (H:Hp):Prop
 | mk (r:List Addr) (fr:Fr) (h:Hh) (fl:Fl) (aj:Fr) (h':Hh) (c0:SR K m H r fr s) (c1:HR K H r h) (c2:Ev.ex P w st fr h=.ok (fl,aj) h') (c3:Fin K m r H h' fl aj Q):Vj K m P w st Q s H
inductive C9 (K:PySem.W.Frag) (m:List Nat) (P:aT) (w:Nat) (ss:Ss) (Q:Ends) (s:L2.St) (H:Hp):Prop
 | mk (r:List Addr) (fr:Fr) (h:Hh) (fl:Fl) (aj:Fr) (h':Hh) (c0:SR K m H r fr s) (c1:HR K H r h) (c2:Ev.exs P w ss fr h=.ok (fl,aj) h') (c3:Fin K m r H h' fl aj Q):C9 K m P w ss Q s H
theorem PS.of {X:Cx}{st:Stmt}{t t':TS}(h:PS X st t) (w:∀ Q s H,t' Q s H→t Q s H):PS X st t':=fun pins s σ H Q I q=>h pins s σ H Q I (w _ _ _ q)
theorem iA.of {X:Cx}{st:List Stmt}{t t':TS}(h:iA X st t) (w:∀ Q s H,t' Q s H→t Q s H):iA X st t':=fun pins s σ H Q I q=>h pins s σ H Q I (w _ _ _ q)
section
variable (G:Tb)(n:Nat)(sc:Scope)(N:List Str)(df:Bool)(m:List Nat)
noncomputable def JS (st:S) (x:Stmt):Prop:=∀ X,Good G n sc N df X→PS X x (Vj X.K m (Ev.run G.F G.w n) G.w st)
noncomputable def mh (ss:Ss) (xs:List Stmt):Prop:=∀ X,Good G n sc N df X→iA X xs (C9 X.K m (Ev.run G.F G.w n) G.w ss)
end
section
variable {G:Tb}{n:Nat}{sc:Scope}{N:List Str}{df:Bool}{m:List Nat}{a b c:E}{xa xb xc tg:Expr}{pos:Pos}
theorem Jt:mh G n sc N df m .nil []:=fun X g=>iA.of IM fun Q s H q=>by
 obtain ⟨r,fr,h,fl,aj,h',sr,hr,e,q⟩:=q
 simp only [Ev.exs] at e
 cases e
 exact q s H r sr hr .refl
theorem Dc {st:S}{ss:Ss}{x:Stmt}{xs:List Stmt}(h1:JS G n sc N df m st x) (h2:mh G n sc N df m ss xs):mh G n sc N df m (.cons st ss) (x :: xs):=fun X g=>iA.of (CK (h1 X g) (h2 X g)) fun Q s H q=>by
 obtain ⟨r,fr,h,fl,aj,h',sr,hr,e,q⟩:=q
 simp only [Ev.exs] at e
 obtain ⟨⟨gR,af⟩,h1,e1,e⟩:=Ev.ai e
 refine ⟨r,fr,h,gR,af,h1,sr,hr,e1,?_⟩
 cases gR with
 | nx=>exact fun s1 H1 r1 AM hr1 f1=>⟨r1,af,h1,fl,aj,h',AM,hr1,e,q.later f1⟩
 | bk=>cases e;exact q
 | ct=>cases e;exact q
 | ret d=>cases e;exact q
theorem Mz (j i:Nat) {x:Str}{pos':Pos}(hm:m.Nodup) (hN:N.Nodup) (ha:JE G n sc N df m a xa) (hs:∀ env:Env,swapsWith xa (some (.Name x pos')) pos.line env=pure false:=by intro _;rfl) (hj:m[j]?=some i:=by rfl) (rT:N[j]?=some x:=by rfl)
  (hl:sc.names.lookup x=some .local∨(df=true∧sc.names.lookup x=some .cell):=by first | exact Or.inl rfl | exact Or.inr ⟨rfl,rfl⟩):JS G n sc N df m (.set i a) (.Assign [.Name x pos'] xa pos):=fun X g=>by
 obtain ⟨h1,h2⟩:=g.loc hl
 refine PS.of (Ai (i:=j) (by rw [g.nm];exact hN) (by rw [g.nm];exact rT) h1 (ha X g) (hs _) h2) fun Q s H q=>?_
 obtain ⟨r,fr,h,fl,aj,h',sr,hr,e,q⟩:=q
 simp only [Ev.ex] at e
 obtain ⟨d,h1,e1,e⟩:=Ev.ai e
 cases e
 exact ⟨r,fr,h,d,_,sr,hr,e1,fun v H1 r1 v1 hr1 f1=>q _ H1 r1 ((sr.mono f1).set hm hj v1) hr1 f1⟩
theorem Ju {l:List Nat}(ha:JE G n sc N df m a xa) (hg:JG G n sc N df m (.many l) tg) (hs:∀ env:Env,swapsWithSole [tg] xa pos.line env=pure false:=by intro _;rfl) (hw:∀ env:Env,swappedStores [tg] xa env=pure none:=by intro _;rfl)
  (h1:∀ env:Env,(assignEach [tg] env).map (·.2)=[assign tg env]:=by intro _;rfl):JS G n sc N df m (.j7 l a) (.Assign [tg] xa pos):=fun X g=>PS.of (Lx (ha X g) (hg X g) (hs _) (hw _) (h1 _)) fun Q s H q=>by
 obtain ⟨r,fr,h,fl,aj,h',sr,hr,e,q⟩:=q
 simp only [Ev.ex] at e
 obtain ⟨d,h2,e1,e⟩:=Ev.ai e
 split at e
 ·rename_i au e2
  cases e
  exact ⟨r,fr,h,d,_,sr,hr,e1,fun v H1 r1 v1 hr1 f1=>⟨r1,fr,_,d,_,sr.mono f1,hr1,v1,e2,fun s' sr'=>q s' H1 r1 sr' hr1 f1⟩⟩
 ·cases e
theorem MA (ha:JE G n sc N df m a xa) (hs:∀ env:Env,swapsWith xa none pos.line env=pure false:=by intro _;rfl):JS G n sc N df m (.exp a) (.Expr xa pos):=fun X g=>PS.of (IP (ha X g) (hs _)) fun Q s H q=>by
 obtain ⟨r,fr,h,fl,aj,h',sr,hr,e,q⟩:=q
 simp only [Ev.ex] at e
 obtain ⟨d,h1,e1,e⟩:=Ev.ai e
 cases e
 exact ⟨r,fr,h,d,_,sr,hr,e1,fun v H1 r1 v1 hr1 f1=>q s H1 r1 (sr.mono f1) hr1 f1⟩
theorem MB (ha:JE G n sc N df m a xa):JS G n sc N df m (.ret a) (.Return (some xa) pos):=fun X g=>PS.of (Lr (ha X g)) fun Q s H q=>by
 obtain ⟨r,fr,h,fl,aj,h',sr,hr,e,q⟩:=q
 simp only [Ev.ex] at e
 obtain ⟨d,h1,e1,e⟩:=Ev.ai e
 cases e
 exact ⟨r,fr,h,d,_,sr,hr,e1,q⟩
theorem MC {ta tb:Ss}{ya yb:List Stmt}(hc:JT G n sc N df m a xa) (h1:mh G n sc N df m ta ya) (h2:mh G n sc N df m tb yb):JS G n sc N df m (.iff a ta tb) (.If xa ya yb pos):=fun X g=>PS.of (Sa (hc X g) (h1 X g) (h2 X g)) fun Q s H q=>by
 obtain ⟨r,fr,h,fl,aj,h',sr,hr,e,q⟩:=q
 simp only [Ev.ex] at e
 obtain ⟨k,h3,e1,e⟩:=Ev.ai e
 refine ⟨r,fr,h,k,h3,sr,hr,e1,fun H1 r1 hr1 f1=>?_⟩
 cases k with
 | true=>exact ⟨r1,fr,h3,fl,aj,h',sr.mono f1,hr1,e,q.later f1⟩
 | false=>exact ⟨r1,fr,h3,fl,aj,h',sr.mono f1,hr1,e,q.later f1⟩
theorem Good.pass {X:Cx}(g:Good G n sc N df X):PassesOwn (model X.prog X.w) X.A X.env X.xe:=by
 rw [g.xe];exact PassesOwn.never
noncomputable def FN (K:PySem.W.Frag) (m:List Nat) (gR:Fl) (jd:Fr) (h4:Hh) (r1:List Addr) (H1:Hp) (s5:L2.St) (H5:Hp):Prop:=(gR=.nx∨gR=.ct)∧∃ r5,SR K m H5 r5 jd s5∧HR K H5 r5 h4∧Fm K r1 r5 H1 H5
section
variable {K:PySem.W.Frag}{r r1 r2:List Addr}{H H1 H2:Hp}{h4 h':Hh}{fl gR:Fl}{jd aj:Fr}{Q:Ends}
noncomputable def yL (L:R (Fl×Fr)) (p:Fl×Fr) (h1:Hh):R (Fl×Fr):=match p.1 with
 | .nx=>L
 | .ct=>L
 | .bk=>.ok (.nx,p.2) h1
 | .ret x=>.ok (.ret x,p.2) h1
theorem w9 {L:R (Fl×Fr)}(e:yL L (gR,jd) h4=.ok (fl,aj) h') (z:gR=.nx∨gR=.ct):L=.ok (fl,aj) h':=by rcases z with rfl | rfl <;> exact e
theorem uw {L:R (Fl×Fr)}(e:yL L (gR,jd) h4=.ok (fl,aj) h') (q:Fin K m r H h' fl aj Q) (f:Fm K r r1 H H1) (f2:Fm K r1 r2 H1 H2):Fin K m r2 H2 h4 gR jd { Q with nx:=FN K m gR jd h4 r1 H1,ct:=FN K m gR jd h4 r1 H1,bk:=Q.nx }:=by
 cases gR with
 | nx=>exact fun s6 H6 r6 AN AO f6=>⟨.inl rfl,r6,AN,AO,f2.trans f6⟩
 | ct=>exact fun s6 H6 r6 AN AO f6=>⟨.inr rfl,r6,AN,AO,f2.trans f6⟩
 | bk=>
  cases e
  exact fun s6 H6 r6 AN AO f6=>q s6 H6 r6 AN AO ((f.trans f2).trans f6)
 | ret d=>
  cases e
  exact Res.later q (f.trans f2)
noncomputable def ux (P:aT) (w:Nat) (t:T) (tb:Ss):D→Fr→Hh→R (Fl×Fr):=fun d au h2=>match Ev.bD t d au with
 | some bZ=>Ev.exs P w tb bZ h2
 | none=>.bad
theorem uy (P:aT) (w:Nat) (t:T) (it:Ev.It) (tb:Ss) (fr:Fr) (h:Hh):Ev.ex P w (.for t it tb) fr h=(Ev.cL P it fr h).bind fun s h1=>Ev.forL (ux P w t tb) s.2 s.1 fr h1:=by simp only [Ev.ex];rfl
theorem rY (f:D→Fr→Hh→R (Fl×Fr)) (ck:List (Nat×List D)) (d:D) (ds:List D) (fr:Fr) (h:Hh):Ev.forL f ck (d :: ds) fr h=if Ev.stays h ck then (f d fr h).bind fun p h1=>yL (Ev.forL f ck ds p.2 h1) p h1 else .bad:=rfl
noncomputable def FW (K:PySem.W.Frag) (m:List Nat) (f:D→Fr→Hh→R (Fl×Fr)) (src:Src) (r1:List Addr) (H1:Hp) (o:Fl×Fr) (h':Hh) (i k:Nat) (s3:L2.St) (H3:Hp):Prop:=
 k=src.1.length - i∧i≤src.1.length∧∃ r3 bZ h3,SR K m H3 r3 bZ s3∧HR K H3 r3 h3∧Fm K r1 r3 H1 H3∧Ev.forL f src.2 (src.1.drop i) bZ h3=.ok o h'
theorem De {P:aT}{w:Nat}{t:T}{tb:Ss}{src:Src}{J:L2.It}{i k:Nat}{s3:L2.St}{H3:Hp}(hJ:oZ K r1 H1 src J) (q:Fin K m r H h' fl aj Q) (f1:Fm K r r1 H H1) (hW:FW K m (ux P w t tb) src r1 H1 (fl,aj) h' i k s3 H3) :
  (J.stop i H3∧Q.nx s3 H3)∨(J.go i H3∧∃ N:L2.St→Hp→Prop,(∀ σ' H',N σ' H'→∃ m',m'<k∧FW K m (ux P w t tb) src r1 H1 (fl,aj) h' (i+1) m' σ' H')∧∀ x H',J.FO i H3 x H'→gJ K m t x s3 H' fun σ2 H2=>C9 K m P w tb { Q with nx:=N,ct:=N,bk:=Q.nx } σ2 H2):=by
 obtain ⟨rfl,hle,r3,bZ,h3,xg,jc,f3,e3⟩:=hW
 rcases Nat.lt_or_ge i src.1.length with hlt | hge
 ·rw [List.drop_eq_getElem_cons hlt,rY] at e3
  split at e3
  ·rename_i hst
   obtain ⟨g1,g2⟩:=(hJ i H3 r3 h3 jc f3 hst).1 src.1[i] (List.getElem?_eq_getElem hlt)
   obtain ⟨⟨gR,jd⟩,h4,e4,e3⟩:=Ev.ai e3
   unfold ux at e4
   split at e4
   ·rename_i rF e5
    exact .inr ⟨g1,FN K m gR jd h4 r1 H1,fun s5 H5 ⟨hfl,r5,AQ,rZ,f5⟩=>⟨_,Nat.sub_lt_sub_left hlt (Nat.lt_succ_self i),rfl,hlt,r5,jd,h4,AQ,rZ,f5,w9 e3 hfl⟩,fun x H4 y=>
     let ⟨r4,v4,Vk,f4⟩:=g2 x H4 y
     ⟨r4,bZ,h3,_,rF,xg.mono f4,Vk,v4,e5,fun s5 AQ=>⟨r4,rF,h3,gR,jd,h4,AQ,Vk,e4,uw e3 q f1 (f3.trans f4)⟩⟩⟩
   ·cases e4
  ·cases e3
 ·have hi:i=src.1.length:=Nat.le_antisymm hle hge
  subst hi
  rw [List.drop_length] at e3
  unfold Ev.forL at e3
  split at e3
  ·rename_i hst
   cases e3
   exact .inl ⟨(hJ _ H3 r3 _ jc f3 hst).2 (Nat.le_refl _),q s3 H3 r3 xg jc (f1.trans f3)⟩
  ·cases e3
end
theorem AR (t:Fr→Hh→R Bool) (f:Fr→Hh→R (Fl×Fr)) (n:Nat) (fr:Fr) (h:Hh):Ev.d8 t f (n+1) fr h=(t fr h).bind fun b h1=>if b then (f fr h1).bind fun p h2=>yL (Ev.d8 t f n p.2 h2) p h2 else .ok (.nx,fr) h1:=rfl
noncomputable def WW (K:PySem.W.Frag) (m:List Nat) (P:aT) (w:Nat) (a:E) (tb:Ss) (r:List Addr) (H:Hp) (o:Fl×Fr) (h':Hh) (k:Nat) (s1:L2.St) (H1:Hp):Prop:=
 ∃ r1 af h1,SR K m H1 r1 af s1∧HR K H1 r1 h1∧Fm K r r1 H H1∧Ev.d8 (fun au h2=>Ev.aM P a au h2) (fun au h2=>Ev.exs P w tb au h2) k af h1=.ok o h'
theorem MD {tb:Ss}{yb:List Stmt}(hc:JT G n sc N df m a xa) (h1:mh G n sc N df m tb yb):JS G n sc N df m (.mJ a tb) (.While xa yb [] pos):=fun X g=>PS.of (CN g.pass (hc X g) (h1 X g)) fun Q s H q=>by
 obtain ⟨r,fr,h,fl,aj,h',sr,hr,e,q⟩:=q
 simp only [Ev.ex] at e
 refine ⟨WW X.K m (Ev.run G.F G.w n) G.w a tb r H (fl,aj) h',⟨_,r,fr,h,sr,hr,.refl,e⟩,fun k s1 H1 hW=>?_⟩
 obtain ⟨r1,af,h1,AM,hr1,f1,e1⟩:=hW
 cases k with
 | zero=>cases e1
 | succ k=>
  rw [AR] at e1
  obtain ⟨bb,h2,e2,e1⟩:=Ev.ai e1
  refine ⟨r1,af,h1,bb,h2,AM,hr1,e2,fun H2 r2 hr2 f2=>?_⟩
  cases bb with
  | false=>
   cases e1
   exact q s1 H2 r2 (AM.mono f2) hr2 (f1.trans f2)
  | true=>
   rw [if_pos rfl] at e1
   obtain ⟨⟨gR,au⟩,h3,e3,e1⟩:=Ev.ai e1
   exact ⟨FN X.K m gR au h3 r H,fun s3 H3 ⟨hfl,r3,xg,jc,f3⟩=>⟨k,Nat.lt_succ_self k,r3,au,h3,xg,jc,f3,w9 e1 hfl⟩,r2,af,h2,gR,au,h3,AM.mono f2,hr2,e3,uw e1 q .refl (f1.trans f2)⟩
theorem MF {t:T}{it:Ev.It}{tb:Ss}{yb:List Stmt}(hi:JI G n sc N df m it tg xa) (hg:JG G n sc N df m t tg) (h1:mh G n sc N df m tb yb) (hs:∀ (env:Env) x,foldedSetIterable xa env x=pure x:=by intro _ _;rfl) :
  JS G n sc N df m (.for t it tb) (.For tg xa yb [] pos):=fun X g=>PS.of (Lz g.pass g.calm (hi X g) (hg X g) (h1 X g) (hs _)) fun Q s H q=>by
 obtain ⟨r,fr,h,fl,aj,h',sr,hr,e,q⟩:=q
 rw [uy] at e
 obtain ⟨src,h2,e1,e⟩:=Ev.ai e
 exact ⟨r,fr,h,src,h2,sr,hr,e1,fun J H1 r1 hr1 f1 hJ=>⟨FW X.K m (ux (Ev.run G.F G.w n) G.w t tb) src r1 H1 (fl,aj) h',⟨src.1.length,rfl,Nat.zero_le _,r1,fr,h2,sr.mono f1,hr1,.refl,by rw [List.drop_zero];exact e⟩,fun i k s3 H3 hW=>De hJ q f1 hW⟩⟩
end
theorem getElem?_range' {k j i:Nat}(h:(List.range k)[j]?=some i):i=j:=by
 obtain ⟨h1,h2⟩:=List.getElem?_eq_some_iff.mp h
 simpa using h2.symm
theorem Df {K:PySem.W.Frag}{H:Hp}{r:List Addr}{ds:List D}{vs:List V}{N:List Str}{fn:Ev.Fn}(v1:aK K H r ds vs) (hN:vs.length≤N.length):SR K (List.range N.length) H r (Ev.eS fn ds) (L2.start N vs):=by
 refine ⟨by unfold L2.start;simp;omega,fun j i d e1 e2=>?_⟩
 have e3:=getElem?_range' e1
 subst e3
 unfold Ev.eS at e2
 by_cases hj:i<ds.length
 ·rw [List.getElem?_append_left (by simpa using hj),List.getElem?_map] at e2
  cases e4:ds[i]? with
  | none=>rw [e4] at e2;cases e2
  | some d'=>
   rw [e4] at e2
   cases e2
   obtain ⟨v,q1,q2⟩:=v1.get e4
   refine ⟨v,?_,q2⟩
   unfold L2.start
   rw [List.getElem?_append_left (by have:=v1.length;simpa using (by omega:i<vs.length)),List.getElem?_map,q1]
   rfl
 ·rw [List.getElem?_append_right (by simpa using Nat.not_lt.mp hj),List.getElem?_replicate] at e2
  split at e2 <;> cases e2
section
variable {P:Program}{w:World}{K:PySem.W.Frag}{mg:Str→Option Value}{base:Heap}{G:Tb}
noncomputable def sX (P:Program) (w:World) (K:PySem.W.Frag) (mg:Str→Option Value) (base:Heap) (G:Tb) (n:Nat):Prop:=∀ (f:Nat) i,G.fi[f]?=some i→iC P w K mg base mG n i.addr i.fd i.ps (oB K G.F G.w n f)
structure Top (P:Program) (w:World) (K:PySem.W.Frag) (mg:Str→Option Value) (G:Tb):Prop where
 fn:∀ (f:Nat) i,G.fi[f]?=some i→mg i.name=some (.ref i.addr)∧PySem.W.keepIn K (.ref i.addr)=true∧Binds K i.fd i.ps []
 bl:∀ x∈G.bl,mg x=none
 cs:∀ x d,(x,d)∈G.cs→∃ v u,mg x=some u∧RelV v u∧uu d v
 dk:∀ x kvs,(x,kvs)∈G.dk→∃ a,mg x=some (.ref a)∧∀ h:Heap,K.In h→StrTab P w h a (tabOf kvs)
theorem Jv {f:Addr}{fd:FuncData}{ps:List Str}{k:Nat}:iC P w K mg base mG 0 f fd ps (oB K G.F G.w 0 k):=by
 have no:∀ vs H Q E,¬ oB K G.F G.w 0 k vs H Q E:=fun vs H Q E h=>by
  obtain ⟨r,h,ds,d,h',_,_,e,_⟩:=h
  cases e
 exact ⟨fun vs H Q E h=>absurd h (no vs H Q E),fun A outer s H args us vs Q E _ _ _ _ h=>absurd h (no vs H Q E)⟩
theorem cK {x qual:Str}{st:Stmt}{i:FI}{N:List Str}{n f:Nat}{fn:Ev.Fn}(T:Top P w K mg G) (A0:sX P w K mg base G n) (F:ue K x qual st i.addr i.fd) (S:bz N i.ps (aq st)) (hf:G.F[f]?=some fn) (hp:i.ps.length=fn.np)
  (hb:mh G n (aq st) N true (List.range N.length) fn.body (aE st)):iC P w K mg base mG (n+1) i.addr i.fd i.ps (oB K G.F G.w (n+1) f):=by
 have hlen:∀ vs H Q E,oB K G.F G.w (n+1) f vs H Q E→vs.length=i.ps.length:=fun vs H Q E h=>by
  obtain ⟨r,h,ds,d,h',v1,_,e,_⟩:=h
  simp only [Ev.run,hf] at e
  split at e
  ·rename_i z
   rw [v1.length,z,hp]
  ·cases e
 refine F.ok S hlen fun cdv A outer s H vs Q E hr ku=>?_
 have hl:=hlen vs H Q E ku
 have hN:vs.length≤N.length:=by
  have:=congrArg List.length S.pre
  rw [List.length_take] at this
  omega
 have g:Good G n (aq st) N true (oV mG P w K mg base N qual (aq st) i.addr cdv A outer s H E).rD:=
  ⟨rfl,rfl,rfl,fun _ _=>rfl,hr,rfl,fun f i hi=>⟨(T.fn f i hi).1,(T.fn f i hi).2.1,(T.fn f i hi).2.2,A0 f i hi⟩,T.bl,T.cs,T.dk⟩
 refine ⟨_,hb _ g,?_⟩
 obtain ⟨r,h,ds,d,h',v1,hr1,e,q⟩:=ku
 simp only [Ev.run,hf] at e
 split at e
 ·unfold Ev.endOf at e
  obtain ⟨⟨fl,aj⟩,h2,e1,e⟩:=Ev.ai e
  refine ⟨r,Ev.eS fn ds,h,fl,aj,h2,Df v1 hN,hr1,e1,?_⟩
  cases fl with
  | nx=>
   cases e
   exact fun s' H' r' _ hr' f'=>q _ H' r' rfl hr' f'
  | ret d'=>
   cases e
   exact q
  | bk=>cases e
  | ct=>cases e
 ·cases e
end
end Sm
set_option maxRecDepth 100000
namespace Sm
open PySem PySem.Spec PyProof.Rows L2 PySem.SeqAt
open Ev (D O Hh Fr R aT E Es Eo T S Ss Fl Src bU bN TY BI ME)
theorem Dg (kvs:List (Int×List Nat)) (k:Int):((fZ kvs).find? fun kv=>decide (kv.1=(Sum.inl k:Key)))=(kvs.find? fun p=>decide (p.1=k)).map fun p=>(Sum.inl p.1,V.str (bu p.2)):=by
 induction kvs with
 | nil=>rfl
 | cons p kvs ih=>
  simp only [fZ,List.map_cons,List.find?_cons] at ih ⊢
  by_cases h:p.1=k
  ·simp [h]
  ·rw [decide_eq_false (by simpa using h),decide_eq_false h];exact ih
theorem xj (kvs:List (Int×List Nat)) (k:Int):iD (fZ kvs) (Sum.inl k:Key)=(Ev.fk kvs k).map fun s=>V.str (bu s):=by
 unfold iD Ev.fk
 rw [Dg,Option.map_map,Option.map_map];rfl
theorem Jw (kvs:List (Int×List Nat)) (k:Int) (s:List Nat):putK (fZ kvs) (Sum.inl k:Key) (V.str (bu s))=fZ (Ev.fK kvs k s):=by
 have ha:((fZ kvs).any fun kv=>decide (kv.1=(Sum.inl k:Key)))=(kvs.any fun p=>decide (p.1=k)):=by
  unfold fZ;rw [List.any_map];congr 1;funext p;simp
 unfold putK Ev.fK
 rw [ha]
 split
 ·unfold fZ
  rw [List.map_map,List.map_map]
  refine List.map_congr_left fun p _=>?_
  by_cases h:p.1=k <;> simp [h]
 ·unfold fZ;rw [List.map_append];rfl
theorem xm {kvs:List (Int×List Nat)}{k:Int}{s:List Nat}(h:Ev.fk kvs k=some s):∃ p∈kvs,p.2=s:=by
 unfold Ev.fk at h
 obtain ⟨p,e,rfl⟩:=Option.map_eq_some_iff.mp h
 exact ⟨p,List.mem_of_find?_eq_some e,rfl⟩
theorem Jx {kvs:List (Int×List Nat)}{k:Int}{s:List Nat}{p:Int×List Nat}(h:p∈Ev.fK kvs k s):p∈kvs∨p.2=s:=by
 unfold Ev.fK at h
 split at h
 ·obtain ⟨q,hq,rfl⟩:=List.mem_map.mp h
  split
  ·exact .inr rfl
  ·exact .inl hq
 ·rcases List.mem_append.mp h with h | h
  ·exact .inl h
  ·rw [List.mem_singleton] at h;subst h;exact .inr rfl
section
variable {K:PySem.W.Frag}{H:Hp}{r:List Addr}{h:Hh}
theorem HR.iY {p:Addr}(hr:HR K H r h) (hp:H p=none):HR K (upd H p (.dK [])) (r++[p]) (h++[.dct []]) where
 len:=by simp [hr.len]
 ob:=fun n ob e=>by
  by_cases hn:n<h.length
  ·rw [List.getElem?_append_left hn] at e
   obtain ⟨a,e1,z⟩:=hr.ob n ob e
   exact ⟨a,(Fm.laid (K:=K) (o:=.dK []) hp).pre n a e1,z.mono (Fm.laid hp) (fun _ vs _ z=>by rw [aV (bB z hp)];exact z) (fun _ _ z=>by rw [aV (bB z hp)];exact z) (fun _ _ _ z=>by rw [aV (bB z hp)];exact z)⟩
  ·have e2:=(List.getElem?_eq_some_iff.mp e).1
   simp only [List.length_append,List.length_singleton] at e2
   have e3:n=h.length:=by omega
   subst e3
   simp at e
   subst e
   exact ⟨p,by rw [←hr.len];simp,eX,fun q hq=>by cases hq⟩
 inj:=fun n m a x y e1 e2 e3 e4=>by
  have out:∀ (k:Nat) z,(h++[O.dct []])[k]?=some (.lst z)→(r++[p])[k]?=some a→r[k]?=some a∧h[k]?=some (.lst z):=fun k z q1 q2=>by
   by_cases hk:k<h.length
   ·rw [List.getElem?_append_left hk] at q1
    rw [List.getElem?_append_left (by rw [hr.len];exact hk)] at q2
    exact ⟨q2,q1⟩
   ·have e5:=(List.getElem?_eq_some_iff.mp q1).1
    simp only [List.length_append,List.length_singleton] at e5
    have e6:k=h.length:=by omega
    subst e6
    simp at q1
  exact hr.inj n m a x y (out n x e3 e1).1 (out m y e4 e2).1 (out n x e3 e1).2 (out m y e4 e2).2
 kC:=fun n m a x y e1 e2 e3 e4=>by
  have out:∀ (k:Nat) z,(h++[O.dct []])[k]?=some (.dct z)→(r++[p])[k]?=some a→(r[k]?=some a∧h[k]?=some (.dct z)∧a≠p)∨(k=h.length∧a=p):=fun k z q1 q2=>by
   by_cases hk:k<h.length
   ·rw [List.getElem?_append_left hk] at q1
    rw [List.getElem?_append_left (by rw [hr.len];exact hk)] at q2
    obtain ⟨b,e5,e6,_⟩:=hr.dct q1
    rw [q2] at e5;cases e5
    exact .inl ⟨q2,q1,bB e6 hp⟩
   ·have e5:=(List.getElem?_eq_some_iff.mp q1).1
    simp only [List.length_append,List.length_singleton] at e5
    have e6:k=r.length:=by rw [hr.len];omega
    subst e6
    simp at q2
    exact .inr ⟨hr.len,q2.symm⟩
  rcases out n x e3 e1 with ⟨h2,h3,h4⟩ | ⟨h1,h2⟩
  ·rcases out m y e4 e2 with ⟨k2,k3,k4⟩ | ⟨k1,k2⟩
   ·exact hr.kC n m a x y h2 k2 h3 k3
   ·exact absurd k2 h4
  ·rcases out m y e4 e2 with ⟨k2,k3,k4⟩ | ⟨k1,k2⟩
   ·exact absurd h2 k4
   ·rw [h1,k1]
theorem Fm.dput {a:Addr}{vs ws:List (Key×V)}(ha:H a=some (.dK vs)) (hm:a∈r):Fm K r r H (upd H a (.dK ws)) where
 pre:=fun n b e=>e
 new:=fun b e=>.inl e
 keep:=fun b ob e n=>by rw [aV (fun z=>n (by rw [z];exact hm))];exact e
 tups:=fun b us e=>by
  rcases e with (e | ⟨ob,e⟩) | e
  ·exact .inl (.inl (by rw [aV (gZ e ha (by intro z;cases z))];exact e))
  ·exact .inl (.inr ⟨ob,by rw [aV (gZ e ha (by intro z;cases z))];exact e⟩)
  ·exact .inr e
theorem HR.dput {n:Nat}{a:Addr}{ds es:List (Int×List Nat)}(hr:HR K H r h) (hn:h[n]?=some (.dct ds)) (uo:r[n]?=some a) (ha:H a=some (.dK (fZ ds))) (q:∀ p∈es,p.2.length≤sizeLine) :
  HR K (upd H a (.dK (fZ es))) r (h.set n (.dct es)) where
 len:=by simp [hr.len]
 ob:=fun m ob e=>by
  have f:=Fm.dput (K:=K) (ws:=fZ es) ha (List.mem_of_getElem? uo)
  by_cases hm:m=n
  ·subst hm
   rw [List.getElem?_set_self (List.getElem?_eq_some_iff.mp hn).1] at e
   cases e
   exact ⟨a,uo,eX,q⟩
  ·rw [List.getElem?_set_ne (fun z=>hm z.symm)] at e
   obtain ⟨b,e1,z⟩:=hr.ob m ob e
   refine ⟨b,e1,z.mono f (fun _ us _ z2=>by rw [aV (gZ z2 ha (by intro z;cases z))];exact z2) (fun ob' us z2=>by rw [aV (gZ z2 ha (by intro z;cases z))];exact z2) (fun kvs us z3 z2=>?_)⟩
   by_cases hb:b=a
   ·subst hb
    subst z3
    exact absurd (hr.kC m n b kvs ds e1 uo e hn) hm
   ·rw [aV hb];exact z2
 inj:=fun k m b x y e1 e2 e3 e4=>by
  have back:∀ (j:Nat) z,(h.set n (O.dct es))[j]?=some (.lst z)→h[j]?=some (.lst z):=fun j z w=>by
   by_cases hj:j=n
   ·subst hj
    rw [List.getElem?_set_self (List.getElem?_eq_some_iff.mp hn).1] at w
    cases w
   ·rw [List.getElem?_set_ne (fun z=>hj z.symm)] at w;exact w
  exact hr.inj k m b x y e1 e2 (back k x e3) (back m y e4)
 kC:=fun k m b x y e1 e2 e3 e4=>by
  have back:∀ (j:Nat) z,(h.set n (O.dct es))[j]?=some (.dct z)→∃ z',h[j]?=some (.dct z'):=fun j z w=>by
   by_cases hj:j=n
   ·subst hj;exact ⟨ds,hn⟩
   ·rw [List.getElem?_set_ne (fun z=>hj z.symm)] at w;exact ⟨z,w⟩
  obtain ⟨x',e5⟩:=back k x e3
  obtain ⟨y',e6⟩:=back m y e4
  exact hr.kC k m b x' y' e1 e2 e5 e6
end
theorem kZ {h:Hh}{x:D}{kvs:List (Int×List Nat)}(e:Ev.gf h x=some kvs):∃ n,x=.ref n∧h[n]?=some (.dct kvs):=by
 cases x with
 | ref n=>
  simp only [Ev.gf] at e
  split at e
  ·rename_i k z;cases e;exact ⟨n,rfl,z⟩
  ·cases e
 | _=>cases e
theorem Jy {h:Hh}{x y d:D}(e:Ev.uh x y h=some d):∃ n kvs k s,x=.ref n∧h[n]?=some (.dct kvs)∧y=.int k∧Ev.fk kvs k=some s∧d=.str s:=by
 unfold Ev.uh at e
 cases hx:Ev.gf h x with
 | none=>rw [hx] at e;cases e
 | some kvs=>
  rw [hx] at e
  obtain ⟨n,rfl,z⟩:=kZ hx
  cases y with
  | int k=>
   obtain ⟨w,ew,rfl⟩:=Option.map_eq_some_iff.mp e
   exact ⟨n,kvs,k,w,rfl,z,rfl,ew,rfl⟩
  | _=>cases e
theorem Jz {h h0:Hh}{x y z d:D}(e:Ev.um x y z h h0=some d):∃ n Gb kvs k,x=.ref n∧h0[n]?=some (.dct Gb)∧h[n]?=some (.dct kvs)∧y=.int k∧d=(match Ev.fk kvs k with | some s=>.str s | none=>z):=by
 unfold Ev.um at e
 cases hx:Ev.gf h0 x with
 | none=>rw [hx] at e;cases e
 | some Gb=>
  rw [hx] at e
  obtain ⟨n,rfl,w⟩:=kZ hx
  cases hy:Ev.gf h (.ref n) with
  | none=>rw [hy] at e;cases e
  | some kvs=>
   rw [hy] at e
   obtain ⟨n',en,w'⟩:=kZ hy
   cases en
   cases y with
   | int k=>cases e;exact ⟨n,Gb,kvs,k,rfl,w,w',rfl,rfl⟩
   | _=>cases e
theorem Dh {h h':Hh}{x y z:D}(e:Ev.sU x y z h=some h'):∃ n kvs k s,x=.ref n∧y=.int k∧z=.str s∧h[n]?=some (.dct kvs)∧kvs.length<Ev.big∧h'=h.set n (.dct (Ev.fK kvs k s)):=by
 unfold Ev.sU at e
 cases x with
 | ref n=>
  cases y with
  | int k=>
   cases z with
   | str s=>
    simp only at e
    cases hn:h[n]? with
    | none=>rw [hn] at e;cases e
    | some o=>
     rw [hn] at e
     cases o with
     | dct kvs=>
      simp only at e
      by_cases hl:kvs.length<Ev.big
      ·rw [if_pos hl] at e;cases e;exact ⟨n,kvs,k,s,rfl,rfl,rfl,hn,hl,rfl⟩
      ·rw [if_neg hl] at e;cases e
     | _=>cases e
   | _=>cases e
  | _=>cases e
 | _=>cases e
section
variable {G:Tb}{n:Nat}{sc:Scope}{N:List Str}{df:Bool}{m:List Nat}{a b c:E}{xa xb xc:Expr}{pos:Pos}
theorem JB:JE G n sc N df m .iY (.Dict [] [] pos):=fun X g=>PE.of C3 fun s H Q q=>by
 obtain ⟨r,fr,h,d,h',sr,hr,e,q⟩:=q
 simp only [Ev.ev] at e
 cases e
 intro p hp
 exact q _ _ (r++[p]) ⟨p,rfl,by rw [←hr.len];simp⟩ (hr.iY hp) (Fm.laid hp)
theorem MG (ha:JE G n sc N df m a xa) (hb:JE G n sc N df m b xb) (hs:C1 xb:=by intro _ _;rfl):JE G n sc N df m (.jX a b) (.Subscript xa xb pos):=fun X g=>PE.of (Ji (yD g.room) (ha X g) (hb X g) hs) fun s H Q q=>by
 obtain ⟨r,fr,h,d,h',sr,hr,e,q⟩:=q
 simp only [Ev.ev] at e
 obtain ⟨x,h1,e1,e⟩:=Ev.ai e
 obtain ⟨y,h2,e2,e⟩:=Ev.ai e
 obtain ⟨e,rfl⟩:=Ev.aQ e
 refine ⟨r,fr,h,x,h1,sr,hr,e1,fun v H1 r1 v1 hr1 f1=>?_⟩
 refine ⟨r1,fr,h1,y,_,sr.mono f1,hr1,e2,fun u H2 r2 v2 hr2 f2=>?_⟩
 obtain ⟨i,kvs,k,w,rfl,z,rfl,ew,rfl⟩:=Jy e
 obtain ⟨p,z1,z2,z3⟩:=hr2.dct z
 obtain ⟨p',rfl,z4⟩:=v1.mono f2
 rw [z1] at z4;cases z4
 cases v2
 obtain ⟨q0,AS,rfl⟩:=xm ew
 refine ⟨p,.str (bu q0.2),rfl,?_,q _ H2 r2 ⟨rfl,z3 q0 AS⟩ hr2 (f1.trans f2)⟩
 have:=kY.k (k:=Sum.inl k) z2
 rw [xj,ew] at this
 exact this
theorem MH {apos:Pos}(ha:JE G n sc N df m a xa) (hb:JE G n sc N df m b xb) (hc:JE G n sc N df m c xc) (hM:∀ X:Cx,M2 X xa "get" apos xb xc pos:=by intro X;exact ⟨rfl,rfl,rfl,rfl⟩):JE G n sc N df m (.lZ a b c) (.Call (.Attribute xa "get" apos) [xb,xc] [] pos):=fun X g=>PE.of (C4 (yD g.room) (ha X g) (hb X g) (hc X g) (hM X)) fun s H Q q=>by
 obtain ⟨r,fr,h,d,h',sr,hr,e,q⟩:=q
 simp only [Ev.ev] at e
 obtain ⟨x,h1,e1,e⟩:=Ev.ai e
 obtain ⟨y,h2,e2,e⟩:=Ev.ai e
 obtain ⟨z,h3,e3,e⟩:=Ev.ai e
 obtain ⟨e,rfl⟩:=Ev.aQ e
 obtain ⟨i,Gb,kvs,k,rfl,y0,y1,rfl,rfl⟩:=Jz e
 refine ⟨r,fr,h,.ref i,h1,sr,hr,e1,fun v H1 r1 v1 hr1 f1=>?_⟩
 obtain ⟨p0,w1,w2,w3⟩:=hr1.dct y0
 obtain ⟨p,rfl,z4⟩:=id v1
 rw [w1] at z4;cases z4
 refine ⟨p0,rfl,.inl ⟨_,.inl w2⟩,r1,fr,h1,.int k,h2,sr.mono f1,hr1,e2,fun u H2 r2 v2 hr2 f2=>?_⟩
 refine ⟨r2,fr,h2,z,_,(sr.mono f1).mono f2,hr2,e3,fun t H3 r3 v3 jc f3=>?_⟩
 obtain ⟨p1,x1,x2,x3⟩:=jc.dct y1
 have x4:=f3.pre _ _ (f2.pre _ _ w1)
 rw [x1] at x4;cases x4
 cases v2
 have g:=kY.k (k:=Sum.inl k) x2
 rw [xj] at g
 refine ⟨_,g,?_⟩
 cases ev:Ev.fk kvs k with
 | none=>rw [ev] at q;exact q _ H3 r3 v3 jc ((f1.trans f2).trans f3)
 | some s2=>
  rw [ev] at q
  obtain ⟨q0,AS,rfl⟩:=xm ev
  exact q _ H3 r3 ⟨rfl,x3 q0 AS⟩ jc ((f1.trans f2).trans f3)
theorem JD {tp:Pos}(ho:JE G n sc N df m a xa)(hi:JE G n sc N df m b xb)(hv:JE G n sc N df m c xc)
  (hs:∀ env:Env,swapsWith xc (some (.Subscript xa xb tp)) pos.line env=pure false:=by intro _;rfl):JS G n sc N df m (.dput a b c) (.Assign [.Subscript xa xb tp] xc pos):=fun X g=>PS.of (Jj (yD g.room) (ho X g) (hi X g) (hv X g) (hs _)) fun Q s H q=>by
 obtain ⟨r,fr,h,fl,aj,h',sr,hr,e,q⟩:=q
 simp only [Ev.ex] at e
 obtain ⟨x,h2,e1,e⟩:=Ev.ai e
 obtain ⟨y,h3,e2,e⟩:=Ev.ai e
 obtain ⟨z,h4,e3,e⟩:=Ev.ai e
 refine ⟨r,fr,h,x,h2,sr,hr,e1,fun v H1 r1 v1 hr1 f1=>?_⟩
 refine ⟨r1,fr,h2,y,h3,sr.mono f1,hr1,e2,fun u H2 r2 v2 hr2 f2=>?_⟩
 refine ⟨r2,fr,h3,z,h4,(sr.mono f1).mono f2,hr2,e3,fun t H3 r3 v3 jc f3=>?_⟩
 split at e
 ·rename_i h5 e5
  cases e
  obtain ⟨i,kvs,k,w,rfl,rfl,rfl,z5,hl,rfl⟩:=Dh e5
  obtain ⟨p1,x1,x2,x3⟩:=jc.dct z5
  obtain ⟨p,rfl,x4⟩:=v2.mono f3
  rw [x1] at x4;cases x4
  cases v3
  obtain ⟨rfl,lw⟩:=(v1.mono f2).mono f3
  have lk:(fZ kvs).length<sizeLine:=by unfold fZ;rw [List.length_map];exact hl
  have g:=ug.k (k:=Sum.inl k) (v:=V.str (bu w)) x2 lk
  rw [Jw] at g
  refine ⟨p1,_,rfl,g,?_⟩
  have fp:=Fm.dput (K:=X.K) (ws:=fZ (Ev.fK kvs k w)) x2 (List.mem_of_getElem? x1)
  exact q _ _ r3 ((((sr.mono f1).mono f2).mono f3).mono fp) (jc.dput z5 x1 x2 fun p hp=>(Jx hp).elim (x3 p) fun z=>by rw [z];exact lw) (((f1.trans f2).trans f3).trans fp)
 ·cases e
end
end Sm
set_option maxRecDepth 100000
namespace Sm
open PySem PySem.Spec PyProof.Rows L2
open Ev (D O Hh Fr R aT E Es Eo T S Ss Fl Src bU bN TY BI ME)
theorem qL (env:Env):∀ (names:List (Str×NameKind)) (acc:List (Str×Addr)),(∀ x,(x,NameKind.free)∈names→∃ c,env.cells.lookup x=some c)→(∀ x c,acc.lookup x=some c→env.cells.lookup x=some c)→
  ∃ cl,(forIn names acc (fun (x:Str×NameKind) cs=>if (x.2==NameKind.free)=true then (do let c ←cellOf env x.1;pure (ForInStep.yield ((x.1,c) :: cs))) else pure (ForInStep.yield cs)):Sem (List (Str×Addr)))=pure cl∧
   (∀ x c,cl.lookup x=some c→env.cells.lookup x=some c)∧(∀ x,(x,NameKind.free)∈names→(cl.lookup x).isSome=true)∧(∀ x,(acc.lookup x).isSome=true→(cl.lookup x).isSome=true)
 | [],acc,_,h2=>⟨acc,rfl,h2,(fun x h=>by simp at h),fun _ h=>h⟩
 | (y,k) :: r,acc,h1,h2=>by
  by_cases hk:k=.free
  ·subst hk
   obtain ⟨c,hc⟩:=h1 y (List.mem_cons_self ..)
   have h2':∀ x c',((y,c) :: acc).lookup x=some c'→env.cells.lookup x=some c':=fun x c' e=>by
    rw [List.lookup_cons] at e
    split at e
    ·rename_i hx
     have hx':x=y:=by simpa using hx
     cases e;rw [hx'];exact hc
    ·exact h2 x c' e
   obtain ⟨cl,e1,e2,e3,e4⟩:=qL env r ((y,c) :: acc) (fun x hx=>h1 x (List.mem_cons_of_mem _ hx)) h2'
   refine ⟨cl,?_,e2,fun x hx=>?_,fun x hx=>e4 x ?_⟩
   ·rw [List.forIn_cons]
    simp only [beq_self_eq_true,if_true]
    unfold cellOf
    rw [hc]
    exact e1
   ·rcases List.mem_cons.mp hx with z | z
    ·cases z
     exact e4 y (by simp [List.lookup_cons])
    ·exact e3 x z
   ·rw [List.lookup_cons]
    split
    ·rfl
    ·exact hx
  ·have hk':(k==NameKind.free)=false:=by simpa using hk
   obtain ⟨cl,e1,e2,e3,e4⟩:=qL env r acc (fun x hx=>h1 x (List.mem_cons_of_mem _ hx)) h2
   refine ⟨cl,?_,e2,fun x hx=>?_,e4⟩
   ·rw [List.forIn_cons]
    simp only [hk',Bool.false_eq_true,if_false]
    exact e1
   ·rcases List.mem_cons.mp hx with z | z
    ·cases z;exact absurd rfl hk
    ·exact e3 x z
theorem JF {scope:Scope}{env:Env}(h:∀ x,(x,NameKind.free)∈scope.names→∃ c,env.cells.lookup x=some c) :
  ∃ cl,closureFor scope env=pure cl∧(∀ x c,cl.lookup x=some c→env.cells.lookup x=some c)∧∀ x,(x,NameKind.free)∈scope.names→∃ c,cl.lookup x=some c:=by
 obtain ⟨cl,e1,e2,e3,_⟩:=qL env scope.names [] h (fun x c e=>by simp at e)
 refine ⟨cl,?_,e2,fun x hx=>Option.isSome_iff_exists.mp (e3 x hx)⟩
 unfold closureFor
 show (forIn scope.names [] _ >>= fun cs=>pure cs:Sem (List (Str×Addr)))=pure cl
 have e:(forIn scope.names [] (fun (x:Str×NameKind) cs=>if (x.2==NameKind.free)=true then (do let c ←cellOf env x.1;pure (ForInStep.yield ((x.1,c) :: cs))) else pure (ForInStep.yield cs)):Sem (List (Str×Addr)))=pure cl:=e1
 exact congrArg (fun t:Sem (List (Str×Addr))=>t >>= fun cs=>pure cs) e
noncomputable def fq (sc scope:Scope):Scope:={ scope with names:=scope.names.map fun (n,k)=>if (k==.free&&sc.kind==.function&&sc.names.lookup n==some .cell) then (n,.cell) else (n,k)}
theorem qM {env:Env}{sc scope:Scope}(h:env.scope=sc):relabel scope env=fq sc scope:=by
 subst h;rfl
theorem r8 {sc:Scope}:∀ {names:List (Str×NameKind)}{x:Str},(∀ y∈names,y.2≠.cell)→
  ((names.map fun (n,k)=>if (k==NameKind.free&&sc.kind==.function&&sc.names.lookup n==some .cell) then (n,NameKind.cell) else (n,k)).lookup x=some .cell∨
   (names.map fun (n,k)=>if (k==NameKind.free&&sc.kind==.function&&sc.names.lookup n==some .cell) then (n,NameKind.cell) else (n,k)).lookup x=some .free)→(x,NameKind.free)∈names
 | [],_,_,h=>by rcases h with h | h <;> simp at h
 | (n,k) :: r,x,hc,h=>by
  have ih:=@r8 sc r x fun y hy=>hc y (List.mem_cons_of_mem _ hy)
  simp only [List.map_cons] at h
  have nk:∀ (k':NameKind),(if (k==NameKind.free&&sc.kind==.function&&sc.names.lookup n==some .cell) then (n,NameKind.cell) else (n,k))=(n,k')→k'=.cell∨k'=.free→k=.free:=fun k' e hk'=>by
   split at e
   ·rename_i z
    simp only [Bool.and_eq_true,beq_iff_eq] at z
    exact z.1.1
   ·cases e
    rcases hk' with z | z
    ·exact absurd z (hc (n,_) (List.mem_cons_self ..))
    ·exact z
  generalize hg:(if (k==NameKind.free&&sc.kind==.function&&sc.names.lookup n==some .cell) then (n,NameKind.cell) else (n,k))=p at h nk
  have hp:p.1=n:=by rw [←hg];split <;> rfl
  obtain ⟨p1,p2⟩:=p
  simp only at hp
  subst hp
  simp only [List.lookup_cons] at h
  cases hx:(x==p1) with
  | true=>
   have hx':x=p1:=by simpa using hx
   rw [hx] at h
   have:=nk p2 rfl (by rcases h with h | h <;> simp at h <;> simp [h])
   subst this
   rw [hx']
   exact List.mem_cons_self ..
  | false=>
   rw [hx] at h
   exact List.mem_cons_of_mem _ (ih h)
section
variable {prog:Program}{w:World}{A:Around}{R':Result→Shared→Prop}{s:Shared}
abbrev fj:Value→Shared→Prop:=fun _ _=>False
noncomputable def xo (ifs:List Expr) (env:Env):Sem Bool:=forIn ifs true fun c r=>if r=true then do let ok ←isTrue c env (eval c env);pure (ForInStep.yield ok) else pure (ForInStep.yield r)
theorem uz {elt target iter:Expr}{ifs:List Expr}{scope:Scope}{pos:Pos}{it acc:Value}{env:Env}(I:Nat→Shared→Prop)
  (turn:∀ n s,I n s→wpAny (model prog w) A (pyNext it) (fun r s₁=>match r with
   | none=>R' (.ok .next) s₁
   | some v=>wpAny (model prog w) A (letOwnedTupleGo target it v) (fun _ s₂=>wpAny (model prog w) A (assign target env v) (fun _ s₃=>
     wpAny (model prog w) A (xo ifs env) (fun ok s₄=>
      if ok=true then wpAny (model prog w) A (eval elt env) (fun x s₅=>
       wpAny (model prog w) A (call (.builtin "list.append") [acc,x]) (fun _ s₆=>∃ m,m<n∧I m s₆) fj s₅) fj s₄
      else ∃ m,m<n∧I m s₄) fj s₃) fj s₂) fj s₁) fj s)
  (n:Nat) (h:I n s):codeAny (model prog w) A (.compLoop (.ListComp elt [⟨target,iter,ifs,0⟩] scope pos) 0 it acc env) R' s:=by
 refine codeAny_loop rfl I (fun n s hI=>?_) n h
 show wpAny _ A ((compTurn (.ListComp elt [⟨target,iter,ifs,0⟩] scope pos) 0 it acc env).onRaise (fun x=>do noteFrame x env;theTreesLotGoes x)) _ _ s
 refine wpAny_noted ?_
 rw [compTurn_list]
 refine wpAny_bind (wpAny_standAt (wpAny_bind (wpAny_mono (turn n s hI) (fun r s₁ h₁=>?_) fun _ _ h'=>h'.elim)))
 cases r with
 | none=>exact wpAny_pure h₁
 | some v=>
  refine wpAny_bind (wpAny_mono h₁ (fun _ s₂ h₂=>?_) fun _ _ h'=>h'.elim)
  refine wpAny_bind (wpAny_mono h₂ (fun _ s₃ h₃=>wpAny_bind (wpAny_mono h₃ (fun ok s₄ h₄=>?_) fun _ _ h'=>h'.elim)) fun _ _ h'=>h'.elim)
  cases ok with
  | false=>exact wpAny_pure ⟨rfl,h₄⟩
  | true=>
   exact wpAny_bind (wpAny_bind (wpAny_mono h₄ (fun x s₅ h₅=>wpAny_bind (wpAny_mono h₅ (fun _ s₆ h₆=>wpAny_pure (wpAny_pure ⟨rfl,h₆⟩)) fun _ _ h'=>h'.elim)) fun _ _ h'=>h'.elim))
end
inductive Vl (K:PySem.W.Frag) (m:List Nat) (P:aT) (e:Eo) (s:L2.St) (H:Hp) (Q:Bool→Hp→Prop):Prop
 | mk (r:List Addr) (fr:Fr) (h:Hh) (k:Bool) (h':Hh) (c0:SR K m H r fr s) (c1:HR K H r h) (c2:Ev.g7 P e fr h=.ok k h') (c3:∀ H' r',HR K H' r' h'→Fm K r r' H H'→Q k H'):Vl K m P e s H Q
noncomputable def JC (G:Tb) (n:Nat) (sc:Scope) (N:List Str) (df:Bool) (m:List Nat) (e:Eo) (ifs:List Expr):Prop:=∀ X,Good G n sc N df X→∀ (pins:List (Addr×Obj)) (s:Shared) (σ:L2.St) (H:Hp) (Q:Bool→Hp→Prop),Inv X pins σ H s→
 Vl X.K m (Ev.run G.F G.w n) e σ H Q→wpAny (model X.prog X.w) X.A (xo ifs X.env) (TP X pins σ Q) X.xe s
section
variable {G:Tb}{n:Nat}{sc:Scope}{N:List Str}{df:Bool}{m:List Nat}{a b c:E}{xa xb xc tg:Expr}{pos:Pos}
theorem SN:JC G n sc N df m .no []:=fun X g pins s σ H Q I q=>by
 obtain ⟨r,fr,h,k,h',sr,hr,e,q⟩:=q
 simp only [Ev.g7] at e
 cases e
 exact wpAny_pure ⟨H,I,q H r hr .refl⟩
theorem MI (hc:JT G n sc N df m a xa):JC G n sc N df m (.yes a) [xa]:=fun X g pins s σ H Q I q=>by
 obtain ⟨r,fr,h,k,h',sr,hr,e,q⟩:=q
 simp only [Ev.g7] at e
 exact wpAny_tests_one (hc X g pins s σ H Q I ⟨r,fr,h,k,h',sr,hr,e,q⟩)
end
noncomputable def pR (X:Cx) (N':List Str) (scope:Scope) (cl:List (Str×Addr)) (C:Addr) (s3:Shared) (H3:Hp) (fp:List Addr):Cx:=
 { X with N:=N',s₀:=s3,H₀:=H3,env:=compEnvC scope cl C X.env,outer:=X.stack,stack:=X.stack,ex:=fp,fn:=fun _=>false,pn:=[],xe:=fun _ _=>False }
noncomputable def namesOk (sc:Scope) (N:List Str) (m:List Nat) (scope:Scope) (t:T) (N':List Str) (m':List Nat):Prop:=m'.length=N'.length∧
 ∀ (j:Nat) x i,N'[j]?=some x→m'[j]?=some i→i∈Ev.slots t∨((x,NameKind.free)∈scope.names∧∃ jo:Nat,N[jo]?=some x∧m[jo]?=some i)
noncomputable def pT (sc:Scope) (N:List Str) (m:List Nat) (scope:Scope) (t:T) (N':List Str) (m':List Nat):Bool:=m'.length==N'.length&&
 (List.range N'.length).all fun j=>match N'[j]?,m'[j]? with
  | some x,some i=>(Ev.slots t).contains i || (scope.names.contains (x,NameKind.free)&&(List.range N.length).any fun jo=>N[jo]?==some x&&m[jo]?==some i)
  | _,_=>true
theorem namesOk.of {sc:Scope}{N:List Str}{m:List Nat}{scope:Scope}{t:T}{N':List Str}{m':List Nat}(h:pT sc N m scope t N' m'=true):namesOk sc N m scope t N' m':=by
 unfold pT at h
 rw [Bool.and_eq_true] at h
 refine ⟨by simpa using h.1,fun j x i e1 e2=>?_⟩
 have hj:j<N'.length:=(List.getElem?_eq_some_iff.mp e1).1
 have q:=List.all_eq_true.mp h.2 j (List.mem_range.mpr hj)
 rw [e1,e2] at q
 simp only [Bool.or_eq_true,Bool.and_eq_true,List.any_eq_true] at q
 rcases q with q | ⟨q1,jo,_,q2⟩
 ·exact .inl (by simpa using q)
 ·exact .inr ⟨by simpa using q1,jo,by simpa using q2.1,by simpa using q2.2⟩
theorem wo {t:T}{d:D}{fr au:Fr}(e:Ev.bD t d fr=some au) {i:Nat}(hi:i∉Ev.slots t):au[i]?=fr[i]?:=by
 have go:∀ (l:List Nat) (ds:List D) (fr au:Fr),Ev.cR l ds fr=some au→i∉l→au[i]?=fr[i]?:=by
  intro l
  induction l with
  | nil=>
   intro ds fr au e _
   cases ds with
   | nil=>cases e;rfl
   | cons _ _=>cases e
  | cons j l ih=>
   intro ds fr au e hj
   cases ds with
   | nil=>cases e
   | cons d ds=>
    rw [ih ds _ _ e fun z=>hj (List.mem_cons_of_mem _ z),List.getElem?_set_ne]
    intro z
    exact hj (by rw [z];exact List.mem_cons_self ..)
 cases t with
 | one j=>
  cases e
  rw [List.getElem?_set_ne]
  intro z
  exact hi (by simp [Ev.slots,z])
 | many l=>
  cases d with
  | tup ds=>exact go l ds fr au e hi
  | _=>cases e
theorem SR.unbind {K:PySem.W.Frag}{m:List Nat}{H:Hp}{r:List Addr}{t:T}{d:D}{fr au:Fr}{s:L2.St}(sr:SR K m H r au s) (e:Ev.bD t d fr=some au) (hu:Ev.undef t fr=true):SR K m H r fr s:=by
 refine ⟨sr.len,fun j i d' e1 e2=>sr.sl j i d' e1 ?_⟩
 rw [wo e]
 ·exact e2
 ·intro hi
  have q:=List.all_eq_true.mp hu i hi
  rw [e2] at q
  cases q
end Sm
set_option maxRecDepth 100000
namespace Sm
open PySem PySem.Spec PyProof.Rows L2
open Ev (D O Hh Fr R aT E Es Eo T S Ss Fl Src bU bN TY BI ME)
structure j8 (sc scope:Scope):Prop where
 kind:scope.kind=.function
 AU:∀ y∈scope.names,y.2≠.cell
 free:∀ x,(x,NameKind.free)∈scope.names→(sc.names.lookup x=some .cell∨sc.names.lookup x=some .free)∧scope.names.lookup x=some .free
 loc:∀ y∈scope.names,y.2=.local→scope.names.lookup y.1=some .local
noncomputable def Gd (sc scope:Scope):Bool:=scope.kind==.function&&scope.names.all fun y=>y.2 != .cell&&(y.2 != .free || ((sc.names.lookup y.1==some .cell || sc.names.lookup y.1==some .free)&&scope.names.lookup y.1==some .free))&&(y.2 != .local || scope.names.lookup y.1==some .local)
theorem j8.of {sc scope:Scope}(h:Gd sc scope=true):j8 sc scope:=by
 unfold Gd at h
 rw [Bool.and_eq_true] at h
 have q:∀ y∈scope.names,y.2≠.cell∧(y.2=.free→(sc.names.lookup y.1=some .cell∨sc.names.lookup y.1=some .free)∧scope.names.lookup y.1=some .free)∧(y.2=.local→scope.names.lookup y.1=some .local):=fun y hy=>by
  have z:=List.all_eq_true.mp h.2 y hy
  simp only [Bool.and_eq_true,Bool.or_eq_true,bne_iff_ne,beq_iff_eq,ne_eq] at z
  refine ⟨z.1.1,fun e=>?_,fun e=>?_⟩
  ·rcases z.1.2 with w | w
   ·exact absurd e w
   ·exact w
  ·rcases z.2 with w | w
   ·exact absurd e w
   ·exact w
 exact ⟨by simpa using h.1,fun y hy=>(q y hy).1,fun x hx=>(q _ hx).2.1 rfl,fun y hy=>(q y hy).2.2⟩
theorem sd {sc:Scope}:∀ {names:List (Str×NameKind)}{x:Str},names.lookup x=some .free→
  ((names.map fun (n,k)=>if (k==NameKind.free&&sc.kind==.function&&sc.names.lookup n==some .cell) then (n,NameKind.cell) else (n,k)).lookup x=some .cell∨
   (names.map fun (n,k)=>if (k==NameKind.free&&sc.kind==.function&&sc.names.lookup n==some .cell) then (n,NameKind.cell) else (n,k)).lookup x=some .free)
 | [],_,h=>by simp at h
 | (n,k) :: r,x,h=>by
  have ih:=@sd sc r x
  simp only [List.map_cons]
  simp only [List.lookup_cons] at h
  by_cases hc:(k==NameKind.free&&sc.kind==.function&&sc.names.lookup n==some .cell)=true
  ·rw [if_pos hc]
   simp only [List.lookup_cons]
   cases hx:(x==n) with
   | true=>exact .inl rfl
   | false=>rw [hx] at h;exact ih h
  ·rw [if_neg hc]
   simp only [List.lookup_cons]
   cases hx:(x==n) with
   | true=>rw [hx] at h;exact .inr h
   | false=>rw [hx] at h;exact ih h
section
variable {G:Tb}{n:Nat}{sc scope:Scope}{N N':List Str}{df:Bool}{m m':List Nat}{elt:E}{t:T}{it:Ev.It}{cond:Eo}{xe xi tg:Expr}{ifs:List Expr}{pos:Pos}{X:Cx}
theorem Good.comp (g:Good G n sc N df X) {cl:List (Str×Addr)}{C:Addr}{s3:Shared}{H3:Hp}{fp:List Addr}:Good G n (fq sc scope) N' false (pR X N' scope cl C s3 H3 fp):=
 ⟨rfl,qM g.sc,g.calm,(fun h=>by cases h),g.room,rfl,g.fn,g.bl,g.cs,g.dk⟩
theorem JH {pins:List (Addr×Obj)}{σ:L2.St}{H3:Hp}{s3:Shared}(g:Good G n sc N df X) (I:Inv X pins σ H3 s3) (hs:j8 sc scope) {cl:List (Str×Addr)}(g9:∀ x c,cl.lookup x=some c→X.env.cells.lookup x=some c)
  (j9:∀ x,(x,NameKind.free)∈scope.names→∃ c,cl.lookup x=some c) {fp:List Addr} (hfp:∀ b∈fp,gx X pins H3 b) (hfl:∀ b∈fp,b<s3.heap.objs.size):(pR X N' scope cl s3.heap.objs.size s3 H3 fp).Ok where
 mod:=I.ok.mod
 kind:=hs.kind
 glob:=I.ok.glob
 blt:=I.ok.blt
 above:=Nat.le_refl _
 inj:=fun x y c h1 h2=>I.ok.inj x y c (g9 x c h1) (g9 y c h2)
 has:=fun x h=>by
  have h':(fq sc scope).names.lookup x=some .cell∨(fq sc scope).names.lookup x=some .free:=by
   rw [←qM (scope:=scope) g.sc];exact h
  exact j9 x (r8 hs.AU h')
 wJ:=fun x c h=>by cases h
 hd:=I.ok.hd
 frames:=I.ok.frames
 stk:=.inl rfl
 FF:=fun b hb=>⟨Nat.ne_of_lt (hfl b hb),fun x c e=>(hfp b hb).2.2.2.2.1 x c (g9 x c e)⟩
 bs:=I.bs
 rB:=Nat.le_trans I.ok.rB I.sz
 qF:=fun b o e hb=>by
  rcases (hfp b hb).2.2.2.1 with z | z
  ·exact I.ok.qF b o e z
  ·have:=Heap.lt_size (I.ok.bs b o e).1
   exact absurd (Nat.lt_of_lt_of_le this z) (Nat.lt_irrefl _)
 qG:=fun b hb z=>by
  rcases List.mem_cons.mp (I.tW b z) with q | q
  ·exact (hfp b hb).2.1 q
  ·exact (hfp b hb).2.2.1 q
 iX:=I.stack
 tT:=I.wK
open Classical in
noncomputable def sig (scope:Scope) (N N':List Str) (m':List Nat) (K:PySem.W.Frag) (H:Hp) (r:List Addr) (fr:Fr) (σ:L2.St):L2.St:=
 (List.range N'.length).map fun j=>if h:∃ v,∃ x i,N'[j]?=some x∧m'[j]?=some i∧(x,NameKind.free)∈scope.names∧(∃ jo:Nat,N[jo]?=some x∧σ[jo]?=some (some v))∧∀ d,fr[i]?=some (some d)→RV K H r d v then some h.choose else none
theorem MJ {K:PySem.W.Frag}{H:Hp}{r:List Addr}{fr:Fr}{σ:L2.St}{j:Nat}{v:V}(h:(sig scope N N' m' K H r fr σ)[j]?=some (some v)) :
  ∃ x i,N'[j]?=some x∧m'[j]?=some i∧(x,NameKind.free)∈scope.names∧(∃ jo:Nat,N[jo]?=some x∧σ[jo]?=some (some v))∧∀ d,fr[i]?=some (some d)→RV K H r d v:=by
 unfold sig at h
 rw [List.getElem?_map] at h
 cases e:(List.range N'.length)[j]? with
 | none=>rw [e] at h;cases h
 | some j'=>
  have:=getElem?_range' e
  subst this
  rw [e] at h
  simp only [Option.map_some,Option.some.injEq] at h
  split at h
  ·rename_i hh
   cases h
   exact hh.choose_spec
  ·cases h
theorem MK {K:PySem.W.Frag}{H:Hp}{r:List Addr}{fr:Fr}{σ:L2.St}(sr:SR K m H r fr σ) (hn:namesOk sc N m scope t N' m') (hu:Ev.undef t fr=true):SR K m' H r fr (sig scope N N' m' K H r fr σ):=by
 refine ⟨by unfold sig;simp [hn.1],fun j i d e1 e2=>?_⟩
 have hj:j<N'.length:=by rw [←hn.1];exact (List.getElem?_eq_some_iff.mp e1).1
 have hx:N'[j]?=some N'[j]:=List.getElem?_eq_getElem hj
 rcases hn.2 j _ i hx e1 with hi | ⟨h1,jo,h2,h3⟩
 ·exfalso
  have q:=List.all_eq_true.mp hu i hi
  rw [e2] at q
  cases q
 ·obtain ⟨v,h4,h5⟩:=sr.sl jo i d h3 e2
  have ex:∃ v,∃ x i,N'[j]?=some x∧m'[j]?=some i∧(x,NameKind.free)∈scope.names∧(∃ jo:Nat,N[jo]?=some x∧σ[jo]?=some (some v))∧∀ d,fr[i]?=some (some d)→RV K H r d v:=
   ⟨v,N'[j],i,hx,e1,h1,⟨jo,h2,h4⟩,fun d' e'=>by rw [e2] at e';cases e';exact h5⟩
  refine ⟨ex.choose,?_,?_⟩
  ·unfold sig
   rw [List.getElem?_map,List.getElem?_range hj]
   simp only [Option.map_some]
   rw [dif_pos ex]
  ·obtain ⟨x',i',q1,q2,q3,q4,q5⟩:=ex.choose_spec
   rw [e1] at q2;cases q2
   exact q5 d e2
theorem Di {pins:List (Addr×Obj)}{σ:L2.St}{H3:Hp}{s3:Shared}(g:Good G n sc N df X) (I:Inv X pins σ H3 s3) (hs:j8 sc scope) {cl:List (Str×Addr)}(g9:∀ x c,cl.lookup x=some c→X.env.cells.lookup x=some c)
  (j9:∀ x,(x,NameKind.free)∈scope.names→∃ c,cl.lookup x=some c) {fp:List Addr} (hfp:∀ b∈fp,gx X pins H3 b) (hfl:∀ b∈fp,b<s3.heap.objs.size) {h1:Heap} {tk:Nat} {mm:Str→Option Value}
  (hns:h1.Ns s3.heap.objs.size mm) (hk:∀ b o,s3.heap.get? b=some o→h1.get? b=some o) {r:List Addr} {fr:Fr} :
  Inv (pR X N' scope cl s3.heap.objs.size s3 H3 fp) [] (sig scope N N' m' X.K H3 r fr σ) H3 { s3 with heap:=h1,toks:=tk }:=by
 refine ⟨JH g I hs g9 j9 hfp hfl,rfl,I.bare,Un.kept hk,⟨mm,hns,fun j x v e1 e2 e3=>?_⟩,fun x c e=>?_,I.hok.fresh (Nat.le_refl _),fun x c e=>I.iM x c (g9 x c e),(fun p hp=>by simp [pR] at hp),I.hok.kept hk,(by unfold sig;simp [pR])⟩
 ·obtain ⟨x',i,q1,q2,q3,⟨jo,q4,q5⟩,_⟩:=MJ e2
  have oE:N'[j]?=some x:=e1
  rw [oE] at q1;cases q1
  obtain ⟨f1,f2⟩:=hs.free x q3
  obtain ⟨mO,hnO,AV⟩:=I.loc
  obtain ⟨u,ru,lk⟩:=AV jo x v (by rw [g.nm];exact q4) q5 (by rw [g.sc];rcases f1 with z | z <;> simp [Ad,z])
  refine ⟨u,ru,?_⟩
  have hkd:X.env.kindOf x=some .cell∨X.env.kindOf x=some .free:=by unfold Env.kindOf;rw [g.sc];exact f1
  rcases lk with ⟨z,_⟩ | ⟨_,c,hc,hcell⟩
  ·rcases hkd with w | w <;> (rw [z] at w;cases w)
  ·obtain ⟨c',hc'⟩:=j9 x q3
   have:c'=c:=by
    have:=g9 x c' hc'
    rw [hc] at this;cases this;rfl
   subst this
   refine .inr ⟨?_,c',hc',?_⟩
   ·show (relabel scope X.env).names.lookup x=some .cell∨(relabel scope X.env).names.lookup x=some .free
    rw [qM (scope:=scope) g.sc]
    exact sd f2
   ·obtain ⟨o,ho,hd⟩:=hcell
    exact ⟨o,hk _ _ ho,hd⟩
 ·obtain ⟨v,o,ho,hd⟩:=I.cell x c (g9 x c e)
  exact ⟨v,o,hk _ _ ho,hd⟩
end
end Sm
set_option maxRecDepth 100000
namespace Sm
open PySem PySem.Spec PyProof.Rows L2
open Ev (D O Hh Fr R aT E Es Eo T S Ss Fl Src bU bN TY BI ME)
section
variable {G:Tb}{n:Nat}{sc scope:Scope}{N N':List Str}{df:Bool}{m m':List Nat}{elt:E}{t:T}{it:Ev.It}{cond:Eo}{xe xi tg:Expr}{ifs:List Expr}{pos:Pos}{X:Cx}
noncomputable def yN (P:aT) (elt:E) (t:T) (cond:Eo) (fr:Fr):D→Hh→R (Option D):=fun d h2=>match Ev.bD t d fr with
 | none=>.bad
 | some au=>(Ev.g7 P cond au h2).bind fun k h3=>if k then (Ev.ev P elt au h3).bind fun x h4=>.ok (some x) h4 else .ok none h3
theorem qN (P:aT) (elt:E) (t:T) (it:Ev.It) (cond:Eo) (fr:Fr) (h:Hh):Ev.ev P (.comp elt t it cond) fr h=(Ev.cL P it fr h).bind fun s h1=>if Ev.undef t fr then
  (Ev.cT (yN P elt t cond fr) s.2 s.1 h1).bind fun ds h2=>Ev.alloc ds h2 else .bad:=by
 simp only [Ev.ev]
 rfl
noncomputable def CI (Y:Cx) (m':List Nat) (f:D→Hh→R (Option D)) (fr:Fr) (src:Src) (fp:List Addr) (tn:Nat→Heap→Prop) (r2:List Addr) (H2:Hp) (Dd:Addr) (ds:List D) (h2:Hh) (k:Nat) (s:Shared):Prop:=
 ∃ i oF Hc rc hc dn vs rest,Inv Y [] oF Hc s∧tn i s.heap∧(∀ b∈fp,Hc b=none)∧k=src.1.length - i∧i≤src.1.length∧
  SR Y.K m' Hc rc fr oF∧HR Y.K Hc rc hc∧Fm Y.K r2 rc H2 Hc∧Hc Dd=some (.lst vs)∧Dd∉rc∧aK Y.K Hc rc dn vs∧Ev.cT f src.2 (src.1.drop i) hc=.ok rest h2∧dn++rest=ds
section
variable {Y:Cx}{sc':Scope}{J:L2.It}{fp:List Addr}{ita:Addr}{tn:Nat→Heap→Prop}{fr:Fr}{src:Src}{r2:List Addr}{H2:Hp}{Dd:Addr}{ds:List D}{h2:Hh}
theorem yO (gC:Good G n sc' N' false Y) {α:Type}{tt:Sem α}{Q:α→Shared→Prop}{s:Shared}(hw:wpAny (model Y.prog Y.w) Y.A tt Q Y.xe s):wpAny (model Y.prog Y.w) Y.A tt Q fj s:=by rw [gC.xe] at hw;exact hw
theorem xq {i:Nat}{mj:L2.St}{H9:Hp}{r9:List Addr}{h9:Hh}{dn:List D}{vs:List V}{rest':List D}{s9:Shared}{p:List (Addr×Obj)}{f:D→Hh→R (Option D)}(hlt:i<src.1.length) (I9:Inv Y ([]++p) mj H9 s9) (bk:tn (i+1) s9.heap∧∀ b∈fp,H9 b=none) (q:SR Y.K m' H9 r9 fr mj) (se:HR Y.K H9 r9 h9) (fm:Fm Y.K r2 r9 H2 H9) (yP:H9 Dd=some (.lst vs)) (yQ:Dd∉r9) (rv:aK Y.K H9 r9 dn vs) (e7:Ev.cT f src.2 (src.1.drop (i+1)) h9=.ok rest' h2) (ed:dn++rest'=ds) :
  ∃ k,k<src.1.length - i∧CI Y m' f fr src fp tn r2 H2 Dd ds h2 k s9:=
 ⟨src.1.length - (i+1),Nat.sub_lt_sub_left hlt (Nat.lt_succ_self i),i+1,mj,H9,r9,h9,dn,vs,rest',I9.kW,bk.1,bk.2,rfl,hlt,q,se,fm,yP,yQ,rv,e7,ed⟩
theorem ML {i:Nat}{mj:L2.St}{H9:Hp}{r9:List Addr}{h9:Hh}{dn:List D}{vs:List V}{xd:D}{v10:V}{Ge:Value}{rest':List D}{s9:Shared}{p:List (Addr×Obj)}{f:D→Hh→R (Option D)}(hlt:i<src.1.length) (mq:H2 Dd=none) (hsz:ds.length≤sizeLine) (gC:Good G n sc' N' false Y) (I9:Inv Y ([]++p) mj H9 s9) (Dj:RelV v10 Ge) (bk:∀ {σ':L2.St}{H':Hp}{s':Shared},Inv Y ([]++p) σ' H' s'→tn (i+1) s'.heap∧∀ b∈fp,H' b=none) (q:SR Y.K m' H9 r9 fr mj) (se:HR Y.K H9 r9 h9) (fm:Fm Y.K r2 r9 H2 H9) (oG:H9 Dd=some (.lst vs)) (uA:Dd∉r9) (rv:aK Y.K H9 r9 dn vs) (Dk:RV Y.K H9 r9 xd v10) (e7:Ev.cT f src.2 (src.1.drop (i+1)) h9=.ok rest' h2) (ed:dn++xd :: rest'=ds) :
  wpAny (model Y.prog Y.w) Y.A (call (.builtin "list.append") [.ref Dd,Ge]) (fun _ Gf=>∃ k,k<src.1.length - i∧CI Y m' f fr src fp tn r2 H2 Dd ds h2 k Gf) fj s9:=by
 have hlen:vs.length<sizeLine:=by
  have h1:=rv.length
  have h2:=congrArg List.length ed
  simp at h2
  omega
 refine bE (yO gC (rM _ s9 mj H9 (.ref Dd) [v10] (.ref Dd) [Ge] (fun _ Vm=>Vm=upd H9 Dd (.lst (vs++[v10]))) I9 rfl (.cons Dj .nil) ⟨Dd,vs,v10,rfl,rfl,oG,hlen,rfl⟩)) fun _ Gf ⟨_,Vm,Vn,_,Yd⟩=>?_
 subst Yd
 refine xq (dn:=dn++[xd]) (vs:=vs++[v10]) hlt Vn (bk Vn) ?_ (se.other oG uA) (fm.other mq oG) eX uA ?_ e7 ?_
 ·exact ⟨q.len,fun j i' d' a1 a2=>by
   obtain ⟨w,b1,b2⟩:=q.sl j i' d' a1 a2
   exact ⟨w,b1,b2.grow (fun _ _ z=>z) (g8 oG)⟩⟩
 ·exact (rv.append (.cons Dk .nil)).grow (fun _ _ z=>z) (g8 oG)
 ·rw [←ed];simp
theorem AW (gC:Good G n sc' N' false Y) (hg:JG G n sc' N' false m' t tg) (hc:JC G n sc' N' false m' cond ifs) (he:JE G n sc' N' false m' elt xe) (Tn:Turn Y.prog Y.w Y.K tg J fp ita tn) (kX:∀ {Hc:Hp},(∀ b∈fp,Hc b=none)→∀ b∈fp,gx Y [] Hc b)
  (hu:Ev.undef t fr=true) (hJ:oZ Y.K r2 H2 src J) (mq:H2 Dd=none) (hsz:ds.length≤sizeLine) {R':Result→Shared→Prop}
  (Ye:∀ s6 oF Hc rc vs,Inv Y [] oF Hc s6→HR Y.K Hc rc h2→Fm Y.K r2 rc H2 Hc→Hc Dd=some (.lst vs)→Dd∉rc→aK Y.K Hc rc ds vs→R' (.ok .next) s6) {k:Nat} {s:Shared}
  (h:CI Y m' (yN (Ev.run G.F G.w n) elt t cond fr) fr src fp tn r2 H2 Dd ds h2 k s):codeAny (model Y.prog Y.w) Y.A (.compLoop (.ListComp xe [⟨tg,xi,ifs,0⟩] scope pos) 0 (.ref ita) (.ref Dd) Y.env) R' s:=by
 refine uz (CI Y m' (yN (Ev.run G.F G.w n) elt t cond fr) fr src fp tn r2 H2 Dd ds h2) ?_ k h
 rintro k s5 ⟨i,oF,Hc,rc,hc',dn,vs,rest,I5,wO,rF,rfl,hle,AQ,rZ,uB,oG,uA,AX,e5,Gg⟩
 rcases Nat.lt_or_ge i src.1.length with hlt | hge
 ·rw [List.drop_eq_getElem_cons hlt] at e5
  simp only [Ev.cT] at e5
  split at e5
  ·rename_i hst
   obtain ⟨hgo,_⟩:=hJ i Hc rc hc' rZ uB hst
   obtain ⟨g1,g2⟩:=hgo src.1[i] (List.getElem?_eq_getElem hlt)
   obtain ⟨o,h6,e6,e5⟩:=Ev.ai e5
   obtain ⟨rest',h7,e7,e5⟩:=Ev.ai e5
   cases e5
   refine bE (Tn.item Y rfl rfl rfl gC.calm i [] s5 oF Hc fj I5 (kX rF) wO g1) fun rr s6 ⟨u,hru,h8⟩=>?_
   subst hru
   refine bE h8 fun _ s7 ⟨x,H7,I7,rx,y7,MM,fr7⟩=>?_
   obtain ⟨r7,v7,Vo,xr⟩:=g2 x H7 y7
   obtain ⟨Yg,Yh⟩:=xr.yJ oG uA
   unfold yN at e6
   split at e6
   ·cases e6
   ·rename_i au eb
    obtain ⟨kk,h9,e9,e6⟩:=Ev.ai e6
    have I7':=I7.pinned (kX fr7) (Tn.obj _ _ MM)
    refine bE (yO gC (hg _ gC _ s7 oF H7 x u (fun mj H8=>H8=H7∧SR Y.K m' H7 r7 au mj) I7' rx ⟨r7,fr,hc',_,au,AQ.mono xr,Vo,v7,eb,fun s' q=>⟨rfl,q⟩⟩)) fun _ s8 ⟨mj,H8,I8,hH8,Gh⟩=>?_
    subst hH8
    refine bE (yO gC (hc _ gC _ s8 mj _ (fun b H9=>b=kk∧∃ r9,HR Y.K H9 r9 h9∧Fm Y.K r7 r9 _ H9) I8 ⟨r7,au,hc',kk,h9,Gh,Vo,e9,fun H9 r9 se f9=>⟨rfl,r9,se,f9⟩⟩)) fun bb s9 ⟨H9,I9,L0,r9,se,sj⟩=>?_
    subst L0
    obtain ⟨yQ,yP⟩:=sj.yJ Yh Yg
    have back:∀ {σ':L2.St} {H':Hp} {s':Shared},Inv Y ([]++mC fp s7.heap) σ' H' s'→tn (i+1) s'.heap∧∀ b∈fp,H' b=none:=fun {σ' H' s'} I'=>
     ⟨Tn.keep _ _ _ MM fun b hb o e=>(I'.pin (b,o) (List.mem_append_right _ (List.mem_append_right _ (je hb e)))).1,fun b hb=>
      let ⟨o,e,_⟩:=Tn.obj _ _ MM b hb
      (I'.pin (b,o) (List.mem_append_right _ (List.mem_append_right _ (je hb e)))).2.1⟩
    cases bb with
    | false=>
     simp only [Bool.false_eq_true,if_false] at e6 ⊢
     cases e6
     exact xq hlt I9 (back I9) ((Gh.mono sj).unbind eb hu) se ((uB.trans xr).trans sj) yP yQ ((AX.mono xr).mono sj) e7 Gg
    | true=>
     simp only [if_true] at e6 ⊢
     obtain ⟨xd,h10,e10,e6⟩:=Ev.ai e6
     cases e6
     refine bE (yO gC (he _ gC _ s9 mj H9 (fun v AY=>∃ xu,RV Y.K AY xu xd v∧HR Y.K AY xu _∧Fm Y.K r9 xu H9 AY) I9 ⟨r9,au,h9,xd,_,Gh.mono sj,se,e10,fun v AY xu v10 Dl Gi=>⟨xu,v10,Dl,Gi⟩⟩)) fun Ge Vp ⟨v10,AY,I10,Dj,xu,Dk,Dl,yR⟩=>?_
     obtain ⟨SO,SQ⟩:=yR.yJ yP yQ
     exact ML hlt mq hsz gC I10 Dj back (((Gh.mono sj).mono yR).unbind eb hu) Dl (((uB.trans xr).trans sj).trans yR) SQ SO (((AX.mono xr).mono sj).mono yR) Dk e7 Gg
  ·cases e5
 ·have hi':i=src.1.length:=Nat.le_antisymm hle hge
  subst hi'
  rw [List.drop_length] at e5
  simp only [Ev.cT] at e5
  split at e5
  ·rename_i hst
   cases e5
   refine bE (Tn.done Y rfl rfl rfl gC.calm _ [] s5 oF Hc fj I5 (kX rF) wO ((hJ _ Hc rc _ rZ uB hst).2 (Nat.le_refl _))) fun rr s6 ⟨hrr,I6⟩=>?_
   subst hrr
   rw [List.append_nil] at Gg
   subst Gg
   exact Ye s6 oF Hc rc vs I6 rZ uB oG uA AX
  ·cases e5
end
theorem sq (g:Good G n sc N df X) (hi:JI G n sc N df m it tg xi) (hg:JG G n (fq sc scope) N' false m' t tg) (hc:JC G n (fq sc scope) N' false m' cond ifs) (he:JE G n (fq sc scope) N' false m' elt xe)
  (hn:namesOk sc N m scope t N' m') (hs:j8 sc scope) {cl:List (Str×Addr)} (g9:∀ x c,cl.lookup x=some c→X.env.cells.lookup x=some c) (j9:∀ x,(x,NameKind.free)∈scope.names→∃ c,cl.lookup x=some c)
  {pins:List (Addr×Obj)} {σ:L2.St} {H:Hp} {s:Shared} (I:Inv X pins σ H s) {r:List Addr} {fr:Fr} {h:Hh} {d:D} {h':Hh} (sr:SR X.K m H r fr σ) (hr:HR X.K H r h)
  (e:Ev.ev (Ev.run G.F G.w n) (.comp elt t it cond) fr h=.ok d h') (post:Value→Addr→Result→Shared→Prop)
  (hpost:∀ Dd C s' H' r',Inv X pins σ H' s'→(∃ mm,s'.heap.Ns C mm)→gx X pins H' C→RV X.K H' r' d (.ref Dd)→HR X.K H' r' h'→Fm X.K r r' H H'→post (.ref Dd) C (.ok .next) s') {E:Value→Shared→Prop} (hE:X.xe=fun _ _=>False) :
  wpAny (model X.prog X.w) X.A (eval xi X.env) (fun x s₁=>wpAny (model X.prog X.w) X.A (pyIter x) (fun itv s₂=>wpAny (model X.prog X.w) X.A (newList []) (fun acc s₃=>
   wpAny (model X.prog X.w) X.A (newFunctionEnv scope X.env.globals cl [] X.env.qual none .none (some X.env)) (fun cenv s₄=>
    codeAny (model X.prog X.w) X.A (.compStart (.ListComp xe [⟨tg,xi,ifs,0⟩] scope pos) 0 itv acc { cenv with scope:=relabel scope X.env }) (post acc cenv.locals) s₄) E s₃) E s₂) E s₁) E s:=by
 rw [qN] at e
 obtain ⟨src,h1,e1,e⟩:=Ev.ai e
 split at e
 ·rename_i hu
  obtain ⟨ds,h2,e2,e⟩:=Ev.ai e
  have rD:∀ {α:Type} {tt:Sem α} {Q:α→Shared→Prop} {s:Shared},wpAny (model X.prog X.w) X.A tt Q X.xe s→wpAny (model X.prog X.w) X.A tt Q E s:=fun {α tt Q s} hw=>wpAny_mono hw (fun _ _ q=>q) fun _ _ q=>by rw [hE] at q;exact q.elim
  refine bE (rD (hi X g pins s σ H (fun J H2=>∃ r2,HR X.K H2 r2 h1∧Fm X.K r r2 H H2∧oZ X.K r2 H2 src J) I ⟨r,fr,h,src,h1,sr,hr,e1,fun J H2 r2 hr2 f2 hJ=>⟨r2,hr2,f2,hJ⟩⟩)) fun v s1 q1=>?_
  refine bE (rD q1) fun itv s2 q2=>?_
  obtain ⟨ita,fp,tn,J,H2,rfl,I2,Tn,st2,f2,r2,hr2,Gj,hJ⟩:=q2
  refine wpAny_newObj_type ?_
  generalize Gk:s2.heap.objs.size=Dd
  have mq:H2 Dd=none:=by rw [←Gk];exact I2.fresh
  have I3:Inv X pins σ (upd H2 Dd (.lst [])) { s2 with heap:=s2.heap.push { cls:=.type "list",data:=.seq ([]:List Value).toArray }}:=by
   have:=I2.CY (ys:=[]) (its:=[]) (t':=s2.toks) .nil (Nat.zero_le _)
   rw [Gk] at this
   exact this
  have MN:∀ b∈fp,b<s2.heap.objs.size:=fun b hb=>by
   obtain ⟨o,e,_⟩:=Tn.obj 0 _ st2 b hb
   exact Heap.lt_size e
  generalize MO:({ s2 with heap:=s2.heap.push { cls:=.type "list",data:=.seq ([]:List Value).toArray }}:Shared)=s3 at I3
  have Yi:s3.heap.objs.size=s2.heap.objs.size+1:=by rw [←MO];exact Heap.size_push ..
  have k3:∀ b o,s2.heap.get? b=some o→s3.heap.get? b=some o:=fun b o e=>by rw [←MO];exact Heap.get?_push_of_some _ e
  have MP:∀ b∈fp,b<s3.heap.objs.size:=fun b hb=>Nat.lt_of_lt_of_le (MN b hb) (by rw [Yi];exact Nat.le_succ _)
  have qO:∀ b∈fp,gx X pins (upd H2 Dd (.lst [])) b:=fun b hb=>⟨by rw [aV (fun z=>absurd (MN b hb) (by rw [z,Gk];exact Nat.lt_irrefl _))];exact (f2 b hb).1,(f2 b hb).2⟩
  refine wpAny_newFunctionEnv (hs.AU) (fun y hy=>by simp at hy) (fun MQ Yj Yk=>?_) hs.kind
  have k4:∀ b o,s3.heap.get? b=some o→MQ.get? b=some o:=fun b o e=>Yk.extBut b o (Nat.ne_of_lt (Heap.lt_size e)) (Heap.get?_push_of_some _ e)
  have gC:Good G n (fq sc scope) N' false (pR X N' scope cl s3.heap.objs.size s3 (upd H2 Dd (.lst [])) fp):=g.comp
  have I4:Inv (pR X N' scope cl s3.heap.objs.size s3 (upd H2 Dd (.lst [])) fp) [] (sig scope N N' m' X.K (upd H2 Dd (.lst [])) r2 fr σ) (upd H2 Dd (.lst [])) { s3 with heap:=MQ,toks:=s3.toks+0 }:=
   Di g I3 hs g9 j9 qO MP Yj k4
  have xg:SR X.K m' (upd H2 Dd (.lst [])) r2 fr (sig scope N N' m' X.K (upd H2 Dd (.lst [])) r2 fr σ):=MK (((sr.mono Gj).mono (Fm.tup mq))) hn hu
  have jc:HR X.K (upd H2 Dd (.lst [])) r2 h1:=hr2.tup mq
  have Vq:Dd∉r2:=fun hm=>by
   obtain ⟨k,hk⟩:=List.getElem?_of_mem hm
   have hlt:k<h1.length:=by rw [←hr2.len];exact (List.getElem?_eq_some_iff.mp hk).1
   obtain ⟨a,e3,e4⟩:=hr2.ob k _ (List.getElem?_eq_getElem hlt)
   rw [hk] at e3;cases e3
   cases eo:h1[k] with
   | lst dd=>rw [eo] at e4;obtain ⟨us,e5,_⟩:=e4;rw [mq] at e5;cases e5
   | bS dd=>
    rw [eo] at e4
    obtain ⟨us,e5,_⟩:=e4
    rcases e5 with ⟨ob,e5⟩ | ⟨ob,_,_,e5,_⟩
    ·rw [mq] at e5;cases e5
    ·have:=Heap.lt_size (I2.tU _ _ e5)
     rw [Gk] at this
     exact absurd this (Nat.lt_irrefl _)
   | dct kvs=>rw [eo] at e4;have e5:=e4.1;rw [mq] at e5;cases e5
  have hDH:H Dd=none:=by
   cases z:H Dd with
   | none=>rfl
   | some o=>
    have hnr:Dd∉r:=fun hm=>by
     obtain ⟨k,hk⟩:=List.getElem?_of_mem hm
     exact Vq (List.mem_of_getElem? (Gj.pre _ _ hk))
    have:=Gj.keep _ _ z hnr
    rw [mq] at this;cases this
  have kX:∀ {Hc:Hp},(∀ b∈fp,Hc b=none)→∀ b∈fp,gx (pR X N' scope cl s3.heap.objs.size s3 (upd H2 Dd (.lst [])) fp) [] Hc b:=fun {Hc} hz b hb=>by
   refine ⟨hz b hb,Nat.ne_of_lt (MP b hb),(I4.ok).qG b hb,.inl hb,fun x c e=>((I4.ok).FF b hb).2 x c e,fun p hp=>?_⟩
   simp [pR] at hp
  have hsz:ds.length≤sizeLine:=by
   unfold Ev.alloc at e
   split at e
   ·rename_i z;rw [←jD];exact z
   ·cases e
  have fin:codeAny (model X.prog X.w) X.A (.compLoop (.ListComp xe [⟨tg,xi,ifs,0⟩] scope pos) 0 (.ref ita) (.ref Dd) (compEnvC scope cl s3.heap.objs.size X.env)) (post (.ref Dd) s3.heap.objs.size) { s3 with heap:=MQ,toks:=s3.toks+0 }:=by
   refine AW gC hg hc he Tn kX hu hJ mq hsz (fun s6 oF Hc rc vs I6 rZ uB oG uA AX=>?_) ⟨0,_,_,r2,h1,[],[],ds,I4,Tn.keep _ _ _ st2 fun b hb o eo=>k4 b o (k3 b o eo),fun b hb=>(qO b hb).1,rfl,Nat.zero_le _,xg,jc,Fm.tup mq,eX,Vq,.nil,by rw [List.drop_zero];exact e2,rfl⟩
   unfold Ev.alloc at e
   split at e
   ·cases e
    obtain ⟨mm6,Yl,_⟩:=I6.loc
    refine hpost Dd _ s6 Hc (rc++[Dd]) ?_ ⟨mm6,Yl⟩ ?_ ⟨Dd,rfl,?_⟩ (rZ.known oG uA AX) ((Gj.trans uB).known ?_)
    ·exact I3.R4 (ch:=fp) (I6.os) I6.base I6.hok I6.bare fun b hb=>⟨(qO b hb).2.2.2.1,(qO b hb).2.1,(qO b hb).2.2.2.2.1,(qO b hb).2.2.2.2.2⟩
    ·exact I3.yp (Nat.le_refl _) I6.free
    ·rw [←rZ.len];simp
    ·exact hDH
   ·cases e
  subst MO
  exact codeAny_compStart_list fin (Tn.self _ 0 _ _ _ (Tn.keep _ _ _ st2 fun b hb o eo=>k4 b o (k3 b o eo)) fin)
 ·cases e
end
end Sm
set_option maxRecDepth 100000
namespace Sm
open PySem PySem.Spec PyProof.Rows L2
open Ev (D O Hh Fr R aT E Es Eo T S Ss Fl Src bU bN TY BI ME)
section
variable {G:Tb}{n:Nat}{sc scope:Scope}{N N':List Str}{df:Bool}{m m':List Nat}{elt:E}{t:T}{it:Ev.It}{cond:Eo}{xe xi tg:Expr}{ifs:List Expr}{pos:Pos}
theorem Good.cells {X:Cx}{pins:List (Addr×Obj)}{σ:L2.St}{H:Hp}{s:Shared}(g:Good G n sc N df X) (I:Inv X pins σ H s) (hs:j8 sc scope) :
  ∃ cl,closureFor scope X.env=pure cl∧(∀ x c,cl.lookup x=some c→X.env.cells.lookup x=some c)∧∀ x,(x,NameKind.free)∈scope.names→∃ c,cl.lookup x=some c:=
 JF fun x hx=>I.ok.has x (by unfold Env.kindOf;rw [g.sc];exact (hs.free x hx).1)
theorem AZ {X:Cx}{pins:List (Addr×Obj)}{σ:L2.St}{H:Hp}{s:Shared}(I:Inv X pins σ H s) {C:Addr}(fp:gx X pins H C) {h':Heap}(hs:Heap.SameBut C s.heap h'):Inv X pins σ H { s with heap:=h' }:=
 I.turned (t':=s.toks) (fun b o hb e=>hs.extBut b o hb e) fp.1 fp.2.1 fp.2.2.2.1 fp.2.2.2.2.1 fp.2.2.2.2.2
theorem xw (hi:JI G n sc N df m it tg xi) (hg:JG G n (fq sc scope) N' false m' t tg) (hc:JC G n (fq sc scope) N' false m' cond ifs) (he:JE G n (fq sc scope) N' false m' elt xe)
  (hn:namesOk sc N m scope t N' m') (hs:j8 sc scope) (hf:∀ (env:Env) x,foldedSetIterable xi env x=pure x:=by intro _ _;rfl):JE G n sc N df m (.comp elt t it cond) (.ListComp xe [⟨tg,xi,ifs,0⟩] scope pos):=fun X g pins s σ H Q I q=>by
 obtain ⟨r,fr,h,d,h',sr,hr,e,q⟩:=q
 obtain ⟨cl,hcl,g9,j9⟩:=g.cells I hs
 rw [eval_ListComp]
 refine wpAny_comprehension_free (use:=none) (Q:=EP X pins σ Q) rfl (hf _) hcl hs.kind hs.loc ?_
 refine sq g hi hg hc he hn hs g9 j9 I sr hr e (fun acc C=>compPost (model X.prog X.w) X.A X.xe none (EP X pins σ Q) acc C) (fun Dd C s' H' r' I' hC fp rv hr' Gm=>?_) g.xe
 obtain ⟨mm,hC⟩:=hC
 exact ⟨mm,hC,fun h'' A3=>⟨.ref Dd,H',AZ I' fp A3,rfl,q _ H' r' rv hr' Gm⟩⟩
theorem JJ (j i:Nat) {x:Str}{pos' cpos:Pos}(hm:m.Nodup) (hN:N.Nodup) (hi:JI G n sc N df m it tg xi) (hg:JG G n (fq sc scope) N' false m' t tg) (hc:JC G n (fq sc scope) N' false m' cond ifs) (he:JE G n (fq sc scope) N' false m' elt xe)
  (hn:namesOk sc N m scope t N' m') (hs:j8 sc scope) (hj:m[j]?=some i:=by rfl) (rT:N[j]?=some x:=by rfl)
  (hl:sc.names.lookup x=some .local∨(df=true∧sc.names.lookup x=some .cell):=by first | exact Or.inl rfl | exact Or.inr ⟨rfl,rfl⟩) (hf:∀ (env:Env) x,foldedSetIterable xi env x=pure x:=by intro _ _;rfl) :
  JS G n sc N df m (.set i (.comp elt t it cond)) (.Assign [.Name x pos'] (.ListComp xe [⟨tg,xi,ifs,0⟩] scope cpos) pos):=fun X g=>by
 obtain ⟨h1,h2⟩:=g.loc hl
 have hsw:swapsWith (.ListComp xe [⟨tg,xi,ifs,0⟩] scope cpos) (some (.Name x pos')) pos.line X.env=pure (X.env.blockKind==.function&&X.env.kindOf x==some .local&&pos'.line==(Expr.ListComp xe [⟨tg,xi,ifs,0⟩] scope cpos).pos.line&&!(scope.names.any fun (n,k)=>n==x&&(k==.local || k==.cell))):=rfl
 generalize hb:(X.env.blockKind==.function&&X.env.kindOf x==some .local&&pos'.line==(Expr.ListComp xe [⟨tg,xi,ifs,0⟩] scope cpos).pos.line&&!(scope.names.any fun (n,k)=>n==x&&(k==.local || k==.cell)))=b at hsw
 cases b with
 | false=>
  refine PS.of (Ai (i:=j) (by rw [g.nm];exact hN) (by rw [g.nm];exact rT) h1 (xw hi hg hc he hn hs hf X g) hsw h2) fun Q s H q=>?_
  obtain ⟨r,fr,h,fl,aj,h',sr,hr,e,q⟩:=q
  simp only [Ev.ex] at e
  obtain ⟨d,h1,e1,e⟩:=Ev.ai e
  cases e
  exact ⟨r,fr,h,d,_,sr,hr,e1,fun v H1 r1 v1 hr1 f1=>q _ H1 r1 ((sr.mono f1).set hm hj v1) hr1 f1⟩
 | true=>
  have hkl:X.env.kindOf x=some .local:=by
   simp only [Bool.and_eq_true,beq_iff_eq] at hb
   exact hb.1.1.2
  intro pins s σ H Q I q
  obtain ⟨r,fr,h,fl,aj,h',sr,hr,e,q⟩:=q
  simp only [Ev.ex] at e
  obtain ⟨d,h3,e1,e⟩:=Ev.ai e
  cases e
  obtain ⟨cl,hcl,g9,j9⟩:=g.cells I hs
  rw [exec_Assign_Name_used _ _ _ _ hsw]
  refine wpAny_bind (wpAny_standAt (wpAny_bind ?_))
  show wpAny _ X.A (do let _ ←comprehension (.ListComp xe [⟨tg,xi,ifs,0⟩] scope cpos) scope X.env _ (newList []) false (eval xi X.env) (some (assign (.Name x pos') X.env))) _ _ s
  refine wpAny_bind (wpAny_mono (wpAny_comprehension_free (use:=some (assign (.Name x pos') X.env)) (Q:=fun _ s'=>SP X pins Q .next s') rfl (hf _) hcl hs.kind hs.loc ?_) (fun _ s' hq=>wpAny_pure (wpAny_pure hq)) fun _ _ e=>e)
  refine sq g hi hg hc he hn hs g9 j9 I sr hr e1 (fun acc C=>compPost (model X.prog X.w) X.A X.xe (some (assign (.Name x pos') X.env)) (fun _ s'=>SP X pins Q .next s') acc C) (fun Dd C s' H' r' I' hC fp rv hr' Gm=>?_) g.xe
  obtain ⟨mm,hC⟩:=hC
  show wpAny _ X.A (assign (.Name x pos') X.env (.ref Dd)) _ _ s'
  refine wpAny_assign_Name (rC (v:=.ref Dd) I' (by rw [g.nm];exact hN) (i:=j) (by rw [g.nm];exact rT) h1 rfl (fun s'' I'' A3=>?_) h2)
  obtain ⟨a,A3,ha⟩:=A3
  have hCa:C≠a:=by
   rcases ha with z | z
   ·rw [z];exact fp.2.1
   ·exact fun w=>fp.2.2.2.2.1 x a z w.symm
  refine ⟨mm,hC.sameBut A3 hCa,fun h'' Ym=>?_⟩
  exact ⟨_,H',AZ I'' ⟨fp.1,fp.2⟩ Ym,q _ H' r' ((sr.mono Gm).set hm hj rv) hr' Gm⟩
end
end Sm
set_option maxRecDepth 100000
namespace Sm
open PySem PySem.Spec PyProof.Rows L2 PySem.SeqAt
open Ev (D O Hh Fr R aT E Es Eo T S Ss Fl Src bU bN TY BI ME)
structure uC (A:Around) (s:Shared) (u w:Value) (k:Bool):Prop where
 eq:EqAt A s u w k
 rc:RcAt A s u w k
 ne:RcNeAt A s u w (!k)
theorem qP {f:D→D→Option Bool}:∀ {x y:List D},x.length≠y.length→∀ {k},Ev.cF f x y=some k→k=false
 | [],[],h,_,_=>absurd rfl h
 | [],_ :: _,_,_,e=>by cases e;rfl
 | _ :: _,[],_,_,e=>by cases e;rfl
 | a :: x,b :: y,h,k,e=>by
  simp only [Ev.cF,Option.bind_eq_bind,Option.bind_eq_some_iff] at e
  obtain ⟨p,_,q,e2,e3⟩:=e
  have:=qP (x:=x) (y:=y) (by simpa using h) e2
  subst this
  cases e3
  simp
theorem xx {f:D→D→Option Bool}:∀ {x y:List D}{k},Ev.cF f x y=some k→x.length=y.length→∃ e:Nat→Bool,(∀ (j:Nat) a b,x[j]?=some a→y[j]?=some b→f a b=some (e j))∧(List.range x.length).all e=k
 | [],[],_,h,_=>⟨fun _=>true,(fun j a b h1=>by simp at h1),by cases h;simp⟩
 | [],_ :: _,_,_,h=>by simp at h
 | _ :: _,[],_,_,h=>by simp at h
 | a :: x,b :: y,k,h,hl=>by
  simp only [Ev.cF,Option.bind_eq_bind,Option.bind_eq_some_iff] at h
  obtain ⟨p,e1,q,e2,e3⟩:=h
  cases e3
  obtain ⟨e,h1,h2⟩:=xx e2 (by simpa using hl)
  refine ⟨fun j=>match j with | 0=>p | j+1=>e j,fun j a' b' g1 g2=>?_,?_⟩
  ·cases j with
   | zero=>simp at g1 g2;subst g1 g2;exact e1
   | succ j=>exact h1 j a' b' (by simpa using g1) (by simpa using g2)
  ·rw [List.length_cons,List.range_succ_eq_map,List.all_cons,List.all_map,←h2]
   rfl
theorem xy {f:D→D→Option Bool}:∀ {x y:List D}{k},Ev.cF f x y=some k→∃ e:Nat→Bool,∀ (j:Nat) a b,x[j]?=some a→y[j]?=some b→f a b=some (e j)
 | [],_,_,_=>⟨fun _=>true,fun j a b h1=>by simp at h1⟩
 | _ :: _,[],_,_=>⟨fun _=>true,fun j a b _ h1=>by simp at h1⟩
 | a :: x,b :: y,k,h=>by
  simp only [Ev.cF,Option.bind_eq_bind,Option.bind_eq_some_iff] at h
  obtain ⟨p,e1,q,e2,e3⟩:=h
  obtain ⟨e,h1⟩:=xy e2
  refine ⟨fun j=>match j with | 0=>p | j+1=>e j,fun j a' b' g1 g2=>?_⟩
  cases j with
  | zero=>simp at g1 g2;subst g1 g2;exact e1
  | succ j=>exact h1 j a' b' (by simpa using g1) (by simpa using g2)
section
variable {X:Cx}{pins:List (Addr×Obj)}{σ:L2.St}{H:Hp}{s:Shared}{r:List Addr}{h:Hh}
theorem nJ (I:Inv X pins σ H s) {a b:Addr}{vs ws:List V}(h1:yI X.K H a vs) (h2:H b=some (.lst ws)):a≠b:=by
 rintro rfl
 rcases h1 with ⟨o,h1⟩ | ⟨o,_,_,h1,_⟩
 ·rw [h2] at h1;cases h1
 ·have:=(I.bs a o (I.ok.mod.FE a o h1)).2
  rw [h2] at this;cases this
theorem su {x y:List D}{vs ws:List V}{us zs:List Value}{f:D→D→Option Bool}{A:Around}{k:Bool}(v1:aK X.K H r x vs)(v2:aK X.K H r y ws)(p1:Vals vs us)(p2:Vals ws zs)
  (ih:∀ a b va vb u w k,RV X.K H r a va→RV X.K H r b vb→RelV va u→RelV vb w→f a b=some k→uC A s u w k) (hl:x.length=y.length) (e:Ev.cF f x y=some k) :
  ∃ e':Nat→Bool,(∀ j (h1:j<us.toArray.size) (h2:j<zs.toArray.size),EqAt A s us.toArray[j] zs.toArray[j] (e' j))∧(List.range us.toArray.size).all e'=k∧us.length=zs.length:=by
 obtain ⟨e',h1,h2⟩:=xx e hl
 have l1:=v1.length
 have l2:=v2.length
 have l3:=p1.length
 have l4:=p2.length
 refine ⟨e',fun j g1 g2=>?_,?_,by omega⟩
 ·have g1':j<us.length:=by simpa using g1
  have g2':j<zs.length:=by simpa using g2
  have ha:x[j]?=some x[j]:=List.getElem?_eq_getElem (by omega)
  have hb:y[j]?=some y[j]:=List.getElem?_eq_getElem (by omega)
  obtain ⟨va,a1,a2⟩:=v1.get ha
  obtain ⟨vb,b1,b2⟩:=v2.get hb
  obtain ⟨u,a3,a4⟩:=p1.get a1
  obtain ⟨w,b3,b4⟩:=p2.get b1
  have eu:us.toArray[j]=u:=by
   have:=(List.getElem?_eq_some_iff.mp a3).2
   simpa using this
  have ew:zs.toArray[j]=w:=by
   have:=(List.getElem?_eq_some_iff.mp b3).2
   simpa using this
  rw [eu,ew]
  exact (ih _ _ _ _ _ _ _ a2 b2 a4 b4 (h1 j _ _ ha hb)).eq
 ·rw [←h2]
  have:us.toArray.size=x.length:=by simp;omega
  rw [this]
noncomputable def gD (K:PySem.W.Frag) (H:Hp) (r:List Addr):D→V→Prop
 | .bf,v=>v=.bf
 | .bl b,v=>v=.bl b
 | .int i,v=>v=.int i
 | .str l,v=>v=.str (bu l)
 | .ref n,v=>∃ a,v=.ref a∧r[n]?=some a
 | .tup ds,v=>∃ a vs,v=.ref a∧dI K H a vs∧aK K H r ds vs
theorem RV.shape {d:D}{v:V}(h:RV X.K H r d v):gD X.K H r d v:=by
 cases d <;> simp only [RV] at h <;> simp only [gD] <;> first | exact h | exact h.1
theorem JK {a b:List Nat}:(bu a==bu b)=(a==b):=by
 by_cases e:a=b
 ·subst e;simp
 ·have e1:(bu a==bu b)=false:=beq_eq_false_iff_ne.mpr fun z=>e (wZ z)
  have e2:(a==b)=false:=beq_eq_false_iff_ne.mpr e
  rw [e1,e2]
theorem o5 {n:Nat}{A:Around}{x y:List D}{a b:Addr}{vs ws:List V}{k:Bool}(I:Inv X pins σ H s)(hu:A.units<cLine)(q1:eO X.K H a vs)(q2:eO X.K H b ws)(v1:aK X.K H r x vs)(v2:aK X.K H r y ws)(hab:a≠b)
  (ih:∀ a b va vb u w k,RV X.K H r a va→RV X.K H r b vb→RelV va u→RelV vb w→Ev.gA h n a b=some k→uC A.in1 s u w k) (e:Ev.cF (Ev.gA h n) x y=some k):uC A s (.ref a) (.ref b) k:=by
 obtain ⟨us,p1,oH,_⟩:=I.list q1
 obtain ⟨zs,p2,oJ,_⟩:=I.list q2
 by_cases hl:x.length=y.length
 ·obtain ⟨e',h1,h2,h3⟩:=su v1 v2 p1 p2 ih hl e
  have hs:us.toArray.size=zs.toArray.size:=by simpa using h3
  have rc:=RcAt.lists oH.isList oJ.isList hs hu h1
  have ne:=RcNeAt.lists oH.isList oJ.isList hs hu h1
  rw [h2] at rc ne
  exact ⟨.of_refs hab rc,rc,ne⟩
 ·have hk:=qP hl e
  subst hk
  have hs:(us.toArray.size != zs.toArray.size)=true:=by
   have l1:=v1.length
   have l2:=v2.length
   have l3:=p1.length
   have l4:=p2.length
   simp only [List.size_toArray,bne_iff_ne,ne_eq]
   omega
  exact ⟨.of_refs hab (.lists_lengths oH.isList oJ.isList hs hu),.lists_lengths oH.isList oJ.isList hs hu,.lists_lengths oH.isList oJ.isList hs hu⟩
theorem A4 (I:Inv X pins σ H s) (hr:HR X.K H r h) {n:Nat}{a:Addr}{ds:List D}(e:Ev.bx h n=some ds) (ha:r[n]?=some a):∃ us:List Value,PlainL s.heap a us.toArray:=by
 obtain ⟨a',vs,e1,e2,e3⟩:=hr.read e
 rw [ha] at e1;cases e1
 obtain ⟨us,_,pl,_⟩:=I.list e2
 exact ⟨us,pl⟩
theorem A5 (I:Inv X pins σ H s) (hr:HR X.K H r h):∀ (n:Nat) (a b:D) (v:V) (k:Bool),RV X.K H r a v→RV X.K H r b v→Ev.gA h n a b=some k→k=true:=by
 intro n
 induction n with
 | zero=>intro a b v k _ _ e;cases e
 | succ n ih=>
  have items:∀ (x y:List D) (vs:List V) (k:Bool),aK X.K H r x vs→aK X.K H r y vs→Ev.cF (Ev.gA h n) x y=some k→k=true:=by
   intro x
   induction x with
   | nil=>
    intro y vs k h1 h2 e
    simp only [aK] at h1
    subst h1
    cases y with
    | nil=>cases e;rfl
    | cons _ _=>simp only [aK] at h2;obtain ⟨_,_,h2,_⟩:=h2;cases h2
   | cons d x ihx=>
    intro y vs k h1 h2 e
    simp only [aK] at h1
    obtain ⟨v,w,rfl,h3,h4⟩:=h1
    cases y with
    | nil=>simp only [aK] at h2;cases h2
    | cons d' y=>
     simp only [aK] at h2
     obtain ⟨v',w',e2,h5,h6⟩:=h2
     cases e2
     simp only [Ev.cF,Option.bind_eq_bind,Option.bind_eq_some_iff] at e
     obtain ⟨p,e1,q,e2,e3⟩:=e
     cases e3
     rw [ih d d' v p h3 h5 e1,ihx y w q h4 h6 e2]
     rfl
  have lt:∀ (a:Addr) (vs:List V) (i:Nat) (ds:List D),dI X.K H a vs→r[i]?=some a→Ev.bx h i=some ds→False:=fun a vs i ds h1 h2 h3=>by
   obtain ⟨us,pl⟩:=A4 I hr h3 h2
   obtain ⟨zs,_,pt,_⟩:=I.tuple h1
   exact ne_of_list_tuple pl.isList pt rfl
  intro a b v k h1 h2 e
  have s1:=h1.shape
  have s2:=h2.shape
  clear h1 h2
  cases a with
  | bf=>cases e
  | bl _=>cases e
  | int x=>simp only [gD] at s1;cases b with
   | int y=>simp only [gD] at s2;rw [s1] at s2;cases s2;cases e;simp
   | ref m=>obtain ⟨p,z,_⟩:=s2;rw [s1] at z;cases z
   | tup y=>obtain ⟨p,_,z,_⟩:=s2;rw [s1] at z;cases z
   | _=>simp only [gD] at s2;rw [s1] at s2;cases s2
  | str x=>simp only [gD] at s1;cases b with
   | str y=>
    simp only [gD] at s2
    rw [s1] at s2
    have:x=y:=wZ (by injection s2)
    subst this
    cases e;simp
   | ref m=>obtain ⟨p,z,_⟩:=s2;rw [s1] at z;cases z
   | tup y=>obtain ⟨p,_,z,_⟩:=s2;rw [s1] at z;cases z
   | _=>simp only [gD] at s2;rw [s1] at s2;cases s2
  | tup x=>
   obtain ⟨p,vs,rfl,z,w⟩:=s1
   cases b with
   | tup y=>
    obtain ⟨p',vs',z',z2,w2⟩:=s2
    cases z'
    rw [I.mz z2 z] at w2
    exact items x y vs k w w2 e
   | ref m=>
    obtain ⟨p',z',z2⟩:=s2
    cases z'
    obtain ⟨ds,e1,_⟩:=Option.map_eq_some_iff.mp e
    exact (lt _ _ _ _ z z2 e1).elim
   | _=>cases s2
  | ref i=>
   obtain ⟨p,rfl,z⟩:=s1
   cases b with
   | ref m=>
    obtain ⟨p',z',z2⟩:=s2
    cases z'
    replace e:Ev.jC h (Ev.gA h n) i m=some k:=e
    unfold Ev.jC at e
    split at e
    ·simp only [Option.map_eq_some_iff] at e
     obtain ⟨_,_,e⟩:=e
     exact e.symm
    ·rename_i hne
     split at e
     ·rename_i x y g1 g2
      exact absurd (hr.inj _ _ _ _ _ z z2 g1 g2) hne
     ·rename_i x y g1 g2
      obtain ⟨p1,q1,Gn,q2,_⟩:=hr.ob _ _ g1
      obtain ⟨p2,q3,Gp,q4,_⟩:=hr.ob _ _ g2
      rw [z] at q1;cases q1
      rw [z2] at q3;cases q3
      exact absurd rfl (nJ I q2 q4)
     ·rename_i x y g1 g2
      obtain ⟨p1,q1,Gn,q2,_⟩:=hr.ob _ _ g1
      obtain ⟨p2,q3,Gp,q4,_⟩:=hr.ob _ _ g2
      rw [z] at q1;cases q1
      rw [z2] at q3;cases q3
      exact absurd rfl (nJ I q4 q2)
     ·cases e
   | tup y=>
    obtain ⟨p',vs',z',z2,w2⟩:=s2
    cases z'
    obtain ⟨ds,e1,_⟩:=Option.map_eq_some_iff.mp e
    exact (lt _ _ _ _ z2 z e1).elim
   | _=>cases s2
theorem JL {n:Nat}{A:Around}{x y:List D}{a b:Addr}{vs ws:List V}{k:Bool}(I:Inv X pins σ H s)(hr:HR X.K H r h)(hu:A.units<cLine)(q1:dI X.K H a vs)(q2:dI X.K H b ws)(v1:aK X.K H r x vs)(v2:aK X.K H r y ws)
  (ih:∀ a b va vb u w k,RV X.K H r a va→RV X.K H r b vb→RelV va u→RelV vb w→Ev.gA h n a b=some k→uC A.in1 s u w k) (e:Ev.cF (Ev.gA h n) x y=some k):uC A s (.ref a) (.ref b) k:=by
 obtain ⟨us,p1,oH,_⟩:=I.tuple q1
 obtain ⟨zs,p2,oJ,_⟩:=I.tuple q2
 have l1:=v1.length
 have l2:=v2.length
 have l3:=p1.length
 have l4:=p2.length
 have both:RcAt A s (.ref a) (.ref b) k∧RcNeAt A s (.ref a) (.ref b) (!k):=by
  by_cases hl:x.length=y.length
  ·obtain ⟨e',h1,h2,h3⟩:=su v1 v2 p1 p2 ih hl e
   have rc:=RcAt.tuples oH oJ hu h1
   have ne:=RcNeAt.tuples oH oJ hu h1
   have hs:us.toArray.size=zs.toArray.size:=by simpa using h3
   have hb:((List.range (min us.toArray.size zs.toArray.size)).all e'&&us.toArray.size==zs.toArray.size)=k:=by
    rw [←hs,Nat.min_self,h2];simp
   rw [hb] at rc ne
   exact ⟨rc,ne⟩
  ·have hk:=qP hl e
   subst hk
   have hcl:∃ e':Nat→Bool,∀ j (h1:j<us.toArray.size) (h2:j<zs.toArray.size),EqAt A.in1 s us.toArray[j] zs.toArray[j] (e' j):=by
    obtain ⟨e',h1⟩:=xy e
    refine ⟨e',fun j g1 g2=>?_⟩
    have g1':j<us.length:=by simpa using g1
    have g2':j<zs.length:=by simpa using g2
    have ha:x[j]?=some x[j]:=List.getElem?_eq_getElem (by omega)
    have hb:y[j]?=some y[j]:=List.getElem?_eq_getElem (by omega)
    obtain ⟨va,a1,a2⟩:=v1.get ha
    obtain ⟨vb,b1,b2⟩:=v2.get hb
    obtain ⟨u,a3,a4⟩:=p1.get a1
    obtain ⟨w,b3,b4⟩:=p2.get b1
    have eu:us.toArray[j]=u:=by
     have:=(List.getElem?_eq_some_iff.mp a3).2
     simpa using this
    have ew:zs.toArray[j]=w:=by
     have:=(List.getElem?_eq_some_iff.mp b3).2
     simpa using this
    rw [eu,ew]
    exact (ih _ _ _ _ _ _ _ a2 b2 a4 b4 (h1 j _ _ ha hb)).eq
   obtain ⟨e',h1⟩:=hcl
   have rc:=RcAt.tuples oH oJ hu h1
   have ne:=RcNeAt.tuples oH oJ hu h1
   have hs:(us.toArray.size==zs.toArray.size)=false:=by
    simp only [List.size_toArray,beq_eq_false_iff_ne,ne_eq];omega
   rw [hs,Bool.and_false] at rc ne
   exact ⟨rc,ne⟩
 by_cases hab:a=b
 ·subst hab
  rw [I.mz q2 q1] at v2
  have hk:k=true:=A5 I hr (n+1) (.tup x) (.tup y) (.ref a) k ⟨a,vs,rfl,q1,v1⟩ ⟨a,vs,rfl,q1,v2⟩ e
  subst hk
  exact ⟨.same _,both.1,both.2⟩
 ·exact ⟨.of_refs hab both.1,both.1,both.2⟩
end
end Sm
set_option maxRecDepth 100000
namespace Sm
open PySem PySem.Spec PyProof.Rows L2 PySem.SeqAt
open Ev (D O Hh Fr R aT E Es Eo T S Ss Fl Src bU bN TY BI ME)
section
variable {X:Cx}{pins:List (Addr×Obj)}{σ:L2.St}{H:Hp}{s:Shared}{r:List Addr}{h:Hh}
theorem Gq (I:Inv X pins σ H s) (hr:HR X.K H r h):∀ (n:Nat) (A:Around) (a b:D) (va vb:V) (u w:Value) (k:Bool),A.units+n<cLine→RV X.K H r a va→RV X.K H r b vb→RelV va u→RelV vb w→Ev.gA h n a b=some k→uC A s u w k:=by
 intro n
 induction n with
 | zero=>intro A a b va vb u w k _ _ _ _ _ e;cases e
 | succ n ih=>
  intro A a b va vb u w k hu h1 h2 r1 r2 e
  have dB:A.units<cLine:=by omega
  have ih':∀ a b va vb u w k,RV X.K H r a va→RV X.K H r b vb→RelV va u→RelV vb w→Ev.gA h n a b=some k→uC A.in1 s u w k:=fun a b va vb u w k=>ih A.in1 a b va vb u w k (by show A.units+1+n<cLine;omega)
  have s1:=h1.shape
  have s2:=h2.shape
  have lst:∀ {i:Nat} {v:V} {u:Value} {ds:List D},gD X.K H r (.ref i) v→RelV v u→Ev.bx h i=some ds→∃ p us,u=.ref p∧PlainL s.heap p (List.toArray us):=fun {i v u ds} hv ru el=>by
   obtain ⟨p,rfl,z⟩:=hv
   cases ru
   obtain ⟨us,pl⟩:=A4 I hr el z
   exact ⟨p,us,rfl,pl⟩
  have tup:∀ {ds:List D} {v:V} {u:Value},gD X.K H r (.tup ds) v→RelV v u→∃ p us,u=.ref p∧s.heap.IsTuple p (List.toArray us):=fun {ds v u} hv ru=>by
   obtain ⟨p,vs,rfl,z,_⟩:=hv
   cases ru
   obtain ⟨us,_,pt,_⟩:=I.tuple z
   exact ⟨p,us,rfl,pt⟩
  cases a with
  | bf=>cases e
  | bl _=>cases e
  | int x=>
   simp only [gD] at s1;subst s1;obtain ⟨t0,rfl⟩:=r1
   cases b with
   | bf=>cases e
   | bl _=>cases e
   | int y=>simp only [gD] at s2;subst s2;obtain ⟨t,rfl⟩:=r2;cases e;exact ⟨.int_int _ _ _ _,.int_int _ _ _ _,.int_int _ _ _ _⟩
   | str y=>simp only [gD] at s2;subst s2;obtain ⟨t,rfl⟩:=r2;cases e;exact ⟨.int_str _ _ _ _,.int_str _ _ _ _,.int_str _ _ _ _⟩
   | tup y=>obtain ⟨p,us,rfl,pt⟩:=tup s2 r2;cases e;exact ⟨.int_tuple _ _ pt dB,.int_tuple _ _ pt dB,.int_tuple _ _ pt dB⟩
   | ref m=>
    obtain ⟨ds,e1,rfl⟩:=Option.map_eq_some_iff.mp e
    obtain ⟨p,us,rfl,pl⟩:=lst s2 r2 e1
    exact ⟨.int_list _ _ pl.isList dB,.int_list _ _ pl.isList dB,.int_list _ _ pl.isList dB⟩
  | str x=>
   simp only [gD] at s1;subst s1;obtain ⟨t0,rfl⟩:=r1
   cases b with
   | bf=>cases e
   | bl _=>cases e
   | int y=>simp only [gD] at s2;subst s2;obtain ⟨t,rfl⟩:=r2;cases e;exact ⟨.str_int _ _ _ _,.str_int _ _ _ _,.str_int _ _ _ _⟩
   | str y=>
    simp only [gD] at s2;subst s2;obtain ⟨t,rfl⟩:=r2
    cases e
    rw [←JK]
    exact ⟨.str_str _ _ _ _,.str_str _ _ _ _,.str_str _ _ _ _⟩
   | tup y=>obtain ⟨p,us,rfl,pt⟩:=tup s2 r2;cases e;exact ⟨.str_tuple _ _ pt dB,.str_tuple _ _ pt dB,.str_tuple _ _ pt dB⟩
   | ref m=>
    obtain ⟨ds,e1,rfl⟩:=Option.map_eq_some_iff.mp e
    obtain ⟨p,us,rfl,pl⟩:=lst s2 r2 e1
    exact ⟨.str_list _ _ pl.isList dB,.str_list _ _ pl.isList dB,.str_list _ _ pl.isList dB⟩
  | tup x=>
   cases b with
   | tup y=>
    obtain ⟨p,vs,rfl,z,w1⟩:=s1
    obtain ⟨p',vs',rfl,z',w2⟩:=s2
    cases r1;cases r2
    exact JL I hr dB z z' w1 w2 ih' e
   | bf=>cases e
   | bl _=>cases e
   | int y=>obtain ⟨p,us,rfl,pt⟩:=tup s1 r1;simp only [gD] at s2;subst s2;obtain ⟨t,rfl⟩:=r2;cases e;exact ⟨.tuple_int _ _ pt dB,.tuple_int _ _ pt dB,.tuple_int _ _ pt dB⟩
   | str y=>obtain ⟨p,us,rfl,pt⟩:=tup s1 r1;simp only [gD] at s2;subst s2;obtain ⟨t,rfl⟩:=r2;cases e;exact ⟨.tuple_str _ _ pt dB,.tuple_str _ _ pt dB,.tuple_str _ _ pt dB⟩
   | ref m=>
    obtain ⟨p,us,rfl,pt⟩:=tup s1 r1
    obtain ⟨ds,e1,rfl⟩:=Option.map_eq_some_iff.mp e
    obtain ⟨p',us',rfl,pl⟩:=lst s2 r2 e1
    exact ⟨.tuple_list pt pl.isList dB,.tuple_list pt pl.isList dB,.tuple_list pt pl.isList dB⟩
  | ref i=>
   cases b with
   | ref m=>
    replace e:Ev.jC h (Ev.gA h n) i m=some k:=e
    unfold Ev.jC at e
    split at e
    ·rename_i him
     subst him
     simp only [Option.map_eq_some_iff] at e
     obtain ⟨ds,e1,rfl⟩:=e
     obtain ⟨p,us,rfl,pl⟩:=lst s1 r1 e1
     obtain ⟨p0,rfl,z⟩:=s1
     obtain ⟨p1,rfl,z'⟩:=s2
     rw [z] at z';cases z'
     cases r1;cases r2
     have q:(List.range (List.toArray us).size).all (fun _=>true)=true:=by simp
     have rc:=RcAt.lists (A:=A) (e:=fun _=>true) pl.isList pl.isList rfl dB fun j _ _=>EqAt.same _
     have ne:=RcNeAt.lists (A:=A) (e:=fun _=>true) pl.isList pl.isList rfl dB fun j _ _=>EqAt.same _
     rw [q] at rc ne
     exact ⟨.same _,rc,ne⟩
    ·rename_i hne
     obtain ⟨p0,rfl,z⟩:=s1
     obtain ⟨p1,rfl,z'⟩:=s2
     cases r1;cases r2
     split at e
     ·rename_i x y g1 g2
      obtain ⟨q0,q1,Gn,q2,q3⟩:=hr.ob _ _ g1
      obtain ⟨q4,q5,Gp,q6,q7⟩:=hr.ob _ _ g2
      rw [z] at q1;cases q1
      rw [z'] at q5;cases q5
      exact o5 I dB (.of q2) (.of q6) q3 q7 (fun w=>hne (hr.inj _ _ _ _ _ z (by rw [w];exact z') g1 g2)) ih' e
     ·rename_i x y g1 g2
      obtain ⟨q0,q1,Gn,q2,q3⟩:=hr.ob _ _ g1
      obtain ⟨q4,q5,Gp,q6,q7⟩:=hr.ob _ _ g2
      rw [z] at q1;cases q1
      rw [z'] at q5;cases q5
      exact o5 I dB (Gr q2) (.of q6) q3 q7 (nJ I q2 q6) ih' e
     ·rename_i x y g1 g2
      obtain ⟨q0,q1,Gn,q2,q3⟩:=hr.ob _ _ g1
      obtain ⟨q4,q5,Gp,q6,q7⟩:=hr.ob _ _ g2
      rw [z] at q1;cases q1
      rw [z'] at q5;cases q5
      exact o5 I dB (.of q2) (Gr q6) q3 q7 (nJ I q6 q2).symm ih' e
     ·cases e
   | bf=>cases e
   | bl _=>cases e
   | int y=>obtain ⟨ds,e1,rfl⟩:=Option.map_eq_some_iff.mp e;obtain ⟨p,us,rfl,pl⟩:=lst s1 r1 e1;simp only [gD] at s2;subst s2;obtain ⟨t,rfl⟩:=r2;exact ⟨.list_int _ _ pl.isList dB,.list_int _ _ pl.isList dB,.list_int _ _ pl.isList dB⟩
   | str y=>obtain ⟨ds,e1,rfl⟩:=Option.map_eq_some_iff.mp e;obtain ⟨p,us,rfl,pl⟩:=lst s1 r1 e1;simp only [gD] at s2;subst s2;obtain ⟨t,rfl⟩:=r2;exact ⟨.list_str _ _ pl.isList dB,.list_str _ _ pl.isList dB,.list_str _ _ pl.isList dB⟩
   | tup y=>
    obtain ⟨ds,e1,rfl⟩:=Option.map_eq_some_iff.mp e
    obtain ⟨p,us,rfl,pl⟩:=lst s1 r1 e1
    obtain ⟨p',us',rfl,pt⟩:=tup s2 r2
    exact ⟨.list_tuple pl.isList pt dB,.list_tuple pl.isList pt dB,.list_tuple pl.isList pt dB⟩
where
 Gr {K:PySem.W.Frag} {H:Hp} {a:Addr} {vs:List V} (q:yI K H a vs):eO K H a vs:=by
  rcases q with ⟨ob,e2⟩ | e2
  ·exact .inl (.inr ⟨ob,e2⟩)
  ·exact .inr e2
end
theorem Good.units {G:Tb}{n:Nat}{sc:Scope}{N:List Str}{df:Bool}{X:Cx}(g:Good G n sc N df X):X.A.units+1+Ev.deep<cLine:=by
 have:=g.room.un
 have:Ev.deep=20:=rfl
 omega
section
variable {G:Tb}{n:Nat}{sc:Scope}{N:List Str}{df:Bool}{X:Cx}
theorem xA {pins:List (Addr×Obj)}{σ:L2.St}{H:Hp}{s:Shared}{Q:VK}{r:List Addr}{h:Hh}{k:Bool}(I:Inv X pins σ H s) (hr:HR X.K H r h) (q:Res X.K r H h (.bl k) Q):EP X pins σ Q (.bool k) s:=
 ⟨.bl k,H,I,rfl,q.here rfl hr⟩
theorem Gs (g:Good G n sc N df X):d7 X (compareOp .Eq) (iU X.K (iE .eq)):=by
 intro pins s σ H x y v u Q I rx ry q
 obtain ⟨r,h,a,b,d,h',hr,v1,v2,e,q⟩:=q
 obtain ⟨k,e1,rfl,rfl⟩:=nH e
 have:=g.units
 exact (Gq I hr Ev.deep X.A a b x y v u k (by omega) v1 v2 rx ry e1).rc _ _ _ _ (xA I hr q)
theorem SS (g:Good G n sc N df X):d7 X (compareOp .NotEq) (iU X.K (iE .ne)):=by
 intro pins s σ H x y v u Q I rx ry q
 obtain ⟨r,h,a,b,d,h',hr,v1,v2,e,q⟩:=q
 obtain ⟨k,e1,rfl,rfl⟩:=nH e
 have:=g.units
 delta Ev.cop at e1;dsimp only at e1;simp only [Option.map_eq_some_iff] at e1
 obtain ⟨k',e2,rfl⟩:=e1
 exact (Gq I hr Ev.deep X.A a b x y v u k' (by omega) v1 v2 rx ry e2).ne _ _ _ _ (xA I hr q)
theorem A6 {op:CmpOp}{o:bN}{p:Int→Int→Bool}(ho:d7 X (compareOp op) (t7 fun i j=>.bl (p i j))) (hc:∀ a b h k,Ev.cop o a b h=some k→∃ i j,a=.int i∧b=.int j∧k=p i j):d7 X (compareOp op) (iU X.K (iE o)):=by
 intro pins s σ H x y v u Q I rx ry q
 obtain ⟨r,h,a,b,d,h',hr,v1,v2,e,q⟩:=q
 obtain ⟨k,e1,rfl,rfl⟩:=nH e
 obtain ⟨i,j,rfl,rfl,rfl⟩:=hc _ _ _ _ e1
 exact ho pins s σ H x y v u Q I rx ry ⟨i,j,v1,v2,q.here rfl hr⟩
theorem SV:d7 X (compareOp .Lt) (iU X.K (iE .lt)):=A6 Sh fun a b h k e=>by
 cases a <;> cases b <;> (delta Ev.cop at e;dsimp only at e) <;> first | (cases e;exact ⟨_,_,rfl,rfl,rfl⟩) | cases e
theorem Gu:d7 X (compareOp .Gt) (iU X.K (iE .gt)):=A6 Si fun a b h k e=>by
 cases a <;> cases b <;> (delta Ev.cop at e;dsimp only at e) <;> first | (cases e;exact ⟨_,_,rfl,rfl,rfl⟩) | cases e
end
end Sm
set_option maxRecDepth 100000
namespace Sm
open PySem PySem.Spec PyProof.Rows L2 PySem.SeqAt
open Ev (D O Hh Fr R aT E Es Eo T S Ss Fl Src bU bN TY BI ME)
section
variable {X:Cx}{pins:List (Addr×Obj)}{σ:L2.St}{H:Hp}{s:Shared}{r:List Addr}{h:Hh}
end
section
variable {G:Tb}{n:Nat}{sc:Scope}{N:List Str}{df:Bool}{X:Cx}
theorem qQ (a b:List Nat):bu a++bu b=bu (a++b):=by
 show Str.append (bu a) (bu b)=_
 simp [Str.append,bu]
theorem JM {pins:List (Addr×Obj)}{σ:L2.St}{H:Hp}{s:Shared}{Q:Value→Shared→Prop}{E:Value→Shared→Prop}(I:Inv X pins σ H s) {a b:Addr}{ys:List V}(h1:dI X.K H a []) (h2:dI X.K H b ys) (q:Q (.ref b) s):wpAny (model X.prog X.w) X.A (binaryOp .Add (.ref a) (.ref b)) Q E s:=by
 obtain ⟨us,p1,pt1,_⟩:=I.tuple h1
 obtain ⟨zs,p2,pt2,_⟩:=I.tuple h2
 cases p1
 obtain ⟨⟨cls,dd,data,sl⟩,ho,hc,n,hd⟩:=id pt1
 obtain ⟨⟨XU,dd2,data2,sl2⟩,ho2,hc2,n2,hd2⟩:=id pt2
 simp only at hc hd hc2 hd2
 subst hc hd hc2 hd2
 exact concat_meets ⟨_,ho,rfl⟩ ⟨_,ho2,rfl⟩ noFill_tuple_add seq_tuple_add PySem.F.slot_tuple_add PySem.F.entry_tuple_add (PySem.F.args_tuple_add_2 _ _)
  (tuple_addW0 a b _ _ n n2 dd dd2 sl sl2 (by simp)) ⟨ho,ho2,q⟩
theorem MR:d7 X (binaryOp .Add) (iU X.K (Ev.bQ .add)):=by
 intro pins s σ H x y v u Q I rx ry q
 obtain ⟨r,h,a,b,d,h',hr,v1,v2,e,q⟩:=q
 have s1:=v1.shape
 have s2:=v2.shape
 cases a with
 | int i=>cases b with
  | int j=>cases e;exact LF pins s σ H x y v u Q I rx ry ⟨i,j,s1,s2,q.here rfl hr⟩
  | _=>cases e
 | str i=>cases b with
  | str j=>
   delta Ev.bQ at e;dsimp only at e
   split at e
   ·rename_i hz
    cases e
    rw [jD] at hz
    refine yv pins s σ H x y v u Q I rx ry ⟨bu i,bu j,s1,s2,by rw [cV,cV];exact hz,?_⟩
    rw [qQ]
    exact q.here ⟨rfl,by rw [List.length_append];exact hz⟩ hr
   ·cases e
  | _=>cases e
 | tup i=>cases b with
  | tup j=>
   delta Ev.bQ at e;dsimp only at e
   split at e
   ·rename_i hz
    cases e
    rw [jD] at hz
    obtain ⟨pa,vs,rfl,z1,w1⟩:=s1
    obtain ⟨pb,ws,rfl,z2,w2⟩:=s2
    have l1:=w1.length
    have l2:=w2.length
    cases vs with
    | nil=>
     cases rx;cases ry
     refine JM I z1 z2 ⟨.ref pb,H,I,rfl,q.here ?_ hr⟩
     have:i=[]:=by cases i with | nil=>rfl | cons _ _=>simp at l1
     subst this
     exact ⟨pb,ws,rfl,z2,by simpa using w2⟩
    | cons v0 vs=>
     refine Ja pins s σ H _ _ v u Q I rx ry ⟨pa,pb,v0 :: vs,ws,rfl,rfl,z1,z2,by simp,by rw [l1,l2];exact hz,fun hw=>?_,fun hw p hp=>?_⟩
     ·subst hw
      have:j=[]:=by cases j with | nil=>rfl | cons _ _=>simp at l2
      subst this
      exact q.here ⟨pa,v0 :: vs,rfl,z1,by simpa using w1⟩ hr
     ·exact q.tup (w1.append w2) hr hp
   ·cases e
  | _=>cases e
 | ref i=>cases b with
  | ref j=>
   delta Ev.bQ at e;dsimp only at e
   split at e
   ·rename_i ds es e1 e2
    obtain ⟨pa,rfl,z1⟩:=s1
    obtain ⟨pb,rfl,z2⟩:=s2
    cases rx;cases ry
    obtain ⟨p1,g1,vs,g2,g3⟩:=hr.ob _ _ e1
    obtain ⟨p2,k1,ws,k2,k3⟩:=hr.ob _ _ e2
    rw [z1] at g1;cases g1
    rw [z2] at k1;cases k1
    obtain ⟨hz,q2⟩:=q.lst e (g3.append k3) hr
    exact LY pins s σ H (.ref pa) (.ref pb) _ _ Q I rfl rfl ⟨_,_,vs,ws,rfl,rfl,g2,k2,by rw [List.length_append] at hz;exact hz,q2⟩
   ·cases e
  | _=>cases e
 | _=>cases b <;> cases e
theorem MS:d7 X (binaryOp .Sub) (iU X.K (Ev.bQ .sub)):=by
 intro pins s σ H x y v u Q I rx ry q
 obtain ⟨r,h,a,b,d,h',hr,v1,v2,e,q⟩:=q
 cases a with
 | int i=>cases b with
  | int j=>cases e;exact LG pins s σ H x y v u Q I rx ry ⟨i,j,v1,v2,q.here rfl hr⟩
  | _=>cases e
 | _=>cases b <;> cases e
theorem JN:d7 X (binaryOp .FloorDiv) (iU X.K (Ev.bQ .fdiv)):=by
 intro pins s σ H x y v u Q I rx ry q
 obtain ⟨r,h,a,b,d,h',hr,v1,v2,e,q⟩:=q
 cases a with
 | int i=>cases b with
  | int j=>
   delta Ev.bQ at e;dsimp only at e
   split at e
   ·rename_i hz;cases e;exact IS pins s σ H x y v u Q I rx ry ⟨i,j,v1,v2,hz,q.here rfl hr⟩
   ·cases e
  | _=>cases e
 | _=>cases b <;> cases e
theorem MT:d7 X (binaryOp .Mod) (iU X.K (Ev.bQ .mod)):=by
 intro pins s σ H x y v u Q I rx ry q
 obtain ⟨r,h,a,b,d,h',hr,v1,v2,e,q⟩:=q
 cases a with
 | int i=>cases b with
  | int j=>
   delta Ev.bQ at e;dsimp only at e
   split at e
   ·rename_i hz;cases e;exact LI pins s σ H x y v u Q I rx ry ⟨i,j,v1,v2,hz,q.here rfl hr⟩
   ·cases e
  | _=>cases e
 | _=>cases b <;> cases e
end
end Sm
set_option maxRecDepth 100000
namespace Sm
open PySem PySem.Spec PyProof.Rows L2 PySem.SeqAt
open Ev (D O Hh Fr R aT E Es Eo T S Ss Fl Src bU bN TY BI ME)
section
variable {X:Cx}
theorem MU (n:Nat) (i:Int):Ev.dP n i=L2.dP n i:=rfl
theorem MV {α:Type}(xs:List α) (i:Int):Ev.bL xs i=L2.bL xs i:=rfl
theorem aK.bL {K:PySem.W.Frag}{H:Hp}{r:List Addr}{ds:List D}{vs:List V}{i:Int}{d:D}(w:aK K H r ds vs) (e:Ev.bL ds i=some d):∃ v,L2.bL vs i=some v∧RV K H r d v:=by
 unfold Ev.bL at e
 obtain ⟨j,e1,e2⟩:=Option.bind_eq_some_iff.mp e
 obtain ⟨v,e3,e4⟩:=w.get e2
 exact ⟨v,by unfold L2.bL;rw [w.length,←MU,e1];exact e3,e4⟩
theorem SW:wV X (iU X.K rR):=by
 intro value slice pins s σ H x y v u Q I rx ry q hs
 obtain ⟨r,h,a,b,d,h',hr,v1,v2,e,q⟩:=q
 obtain ⟨e,rfl⟩:=Ev.aQ e
 cases b with
 | int i=>
  have s2:=v2.shape
  cases a with
  | tup ds=>
   obtain ⟨p,vs,rfl,z,w⟩:=v1.shape
   obtain ⟨v',g1,g2⟩:=w.bL e
   exact LS value slice pins s σ H _ y v u Q I rx ry ⟨p,vs,i,v',rfl,s2,z,g1,q.here g2 hr⟩ hs
  | str l=>
   simp only [RV] at v1
   obtain ⟨rfl,hl⟩:=v1
   simp only [Ev.eF,Option.map_eq_some_iff] at e
   obtain ⟨c,e1,rfl⟩:=e
   exact LU value slice pins s σ H _ y v u Q I rx ry ⟨bu l,i,c,rfl,s2,by rw [cV];exact hl,by simpa [bu,MV] using e1,q.here ⟨rfl,by show 1≤sizeLine;decide⟩ hr⟩ hs
  | ref m=>
   simp only [Ev.eF,Option.bind_eq_some_iff] at e
   obtain ⟨ds,e1,e2⟩:=e
   obtain ⟨p,rfl,z⟩:=v1.shape
   obtain ⟨p',vs,z',q1,w⟩:=hr.read e1
   rw [z] at z';cases z'
   obtain ⟨v',g1,g2⟩:=w.bL e2
   exact Jc value slice pins s σ H _ y v u Q I rx ry ⟨p,vs,i,v',rfl,s2,q1,g1,q.here g2 hr⟩ hs
  | _=>cases e
 | _=>cases a <;> cases e
theorem aK.cut {K:PySem.W.Frag}{H:Hp}{r:List Addr}{ds:List D}{vs:List V}(w:aK K H r ds vs) (lo hi:Option Int):aK K H r (Ev.cut ds lo hi) (mE vs lo hi):=by
 unfold Ev.cut mE
 rw [w.length]
 exact (w.drop _).take _
theorem sy {α:Type}(xs:List α) (lo hi:Option Int) (h:Ev.aU xs.length 0 lo=0∧Ev.aU xs.length xs.length hi=xs.length):Ev.cut xs lo hi=xs:=by
 unfold Ev.cut
 rw [h.1,h.2]
 simp
theorem JP {α:Type}(xs:List α) (lo hi:Option Int):(Ev.cut xs lo hi).length≤xs.length:=by
 unfold Ev.cut
 rw [List.length_take,List.length_drop]
 omega
theorem sN {prog:Program}{w:World}{A:Around}{E:Value→Shared→Prop}{s:Shared}{t sl:Addr}{items:Array Value}{vl vu:Value}{lo hi:Option Int}{Q:Value→Shared→Prop}(ht:IsTup s.heap t items)(hs:s.heap.IsSliceOf sl vl vu .none)(pl:IsPart vl lo)(pu:IsPart vu hi)
  (hw:HT.aU items.size 0 lo=0∧HT.aU items.size items.size hi=items.size) (h:Q (.ref t) s):wpAny (model prog w) A (getItem (.ref t) (.ref sl)) Q E s:=by
 obtain ⟨os,hos,hcs,hds⟩:=id hs
 have LQ:s.TypeIs (.ref sl) "slice" :=⟨os,hos,hcs⟩
 unfold getItem
 try with_reducible refine wpAny_holding ?_
 first | refine wpAny_bind (wpAny_pure ?_) | skip
 refine wpAny_bind (wpAny_sequenceKey ht.typeIs (by decide) ?_)
 refine wpAny_bind (wpAny_callSpecial?_slot (name:=Str.ofString "__getitem__") ht.typeIs PyProof.Rows.slot_tuple_getitem
  (wpAny_call_entry PyProof.Rows.slot_tuple_getitem ht.typeIs entry_tuple_getitem ?_ (args_tuple_getitem _ _)))
 show wpAny _ _ (Builtin.Tuple.tupleItemsOf (.ref t) >>= _) _ _ s
 refine wpAny_bind (tupleItemsOf_ ht ?_)
 refine wpAny_bind (wpAny_typeOf LQ ?_)
 rw [if_pos (by decide)]
 refine wpAny_bind (HT.jB hs pl pu ?_)
 have hyes:(((HT.aU items.size 0 lo:Nat):Int)==0&&(1:Int)==1&&(HT.aU items.size items.size hi - HT.aU items.size 0 lo)==items.size)=true:=by
  rw [hw.1,hw.2];simp
 show wpAny _ _ (if (((HT.aU items.size 0 lo:Nat):Int)==0&&(1:Int)==1&&(HT.aU items.size items.size hi - HT.aU items.size 0 lo)==items.size)=true then _ else _) _ _ s
 rw [if_pos hyes]
 refine wpAny_bind (m:=Builtin.Tuple.tupleIsExact (.ref t)) (wpAny_bind (wpAny_typeOf ht.typeIs (wpAny_pure ?_)))
 show wpAny _ _ (if ((Value.type "tuple" ==Value.type "tuple")=true) then _ else _) _ _ s
 rw [if_pos (by decide)]
 exact wpAny_bind (wpAny_rule (wpAny_bind (wpAny_pure (wpAny_pure ⟨_,rfl,wpAny_pure h⟩))))
theorem A7 (lo hi:Option Int) (n:Nat):Builtin.Str.strSliceIndices lo hi 1 n=(List.range (Ev.aU n n hi - Ev.aU n 0 lo)).map (fun k=>Ev.aU n 0 lo+k):=by
 have MW:∀ o:Option Int,((match o with | none=>(0:Int) | some i=>max 0 (min (if i<0 then i+(n:Int) else i) (n:Int))))=((Ev.aU n 0 o:Nat):Int):=fun o=>by
  cases o with
  | none=>rfl
  | some i=>simp only [Ev.aU];split <;> omega
 have MX:∀ o:Option Int,((match o with | none=>(n:Int) | some i=>max 0 (min (if i<0 then i+(n:Int) else i) (n:Int))))=((Ev.aU n n o:Nat):Int):=fun o=>by
  cases o with
  | none=>rfl
  | some i=>simp only [Ev.aU];split <;> omega
 have e:Builtin.Str.strSliceIndices lo hi 1 n=sliceRange (match lo with | none=>(0:Int) | some i=>max 0 (min (if i<0 then i+(n:Int) else i) (n:Int))) (match hi with | none=>(n:Int) | some i=>max 0 (min (if i<0 then i+(n:Int) else i) (n:Int))) 1:=by
  unfold Builtin.Str.strSliceIndices
  cases lo <;> cases hi <;> simp
 rw [e,MW,MX,sliceRange_one]
theorem MZ (l:List Nat) (lo hi:Option Int):((Builtin.Str.strSliceIndices lo hi 1 (bu l).length).filterMap ((bu l).cps[·]?)).toArray=(Ev.cut l lo hi).toArray:=by
 rw [cV,A7,pick_run]
 simp [bu,Ev.cut]
theorem M4:kB X (Mc X.K):=by
 intro pins s σ H x v vl vu lo hi sl Q I rx hs pl pu q
 obtain ⟨r,h,a,d,h',hr,v1,e,q⟩:=q
 cases a with
 | tup ds=>
  cases e
  obtain ⟨p,vs,rfl,z,w⟩:=v1.shape
  by_cases hw:HT.aU vs.length 0 lo=0∧HT.aU vs.length vs.length hi=vs.length
  ·cases rx
   obtain ⟨us,pv,pt,hz⟩:=I.tuple z
   have hl:=pv.length
   have hw':Ev.aU ds.length 0 lo=0∧Ev.aU ds.length ds.length hi=ds.length:=by rw [←w.length];exact hw
   refine ⟨"tuple",_,PyProof.Rows.slot_tuple_getitem.lookup,pt.typeIs,?_⟩
   refine sN pt hs pl pu (by rw [List.size_toArray,←hl];exact hw) ⟨.ref p,H,I,rfl,q.here ?_ hr⟩
   rw [sy ds lo hi hw']
   exact ⟨p,vs,rfl,z,w⟩
  ·exact LR pins s σ H _ v vl vu lo hi sl Q I rx hs pl pu ⟨p,vs,rfl,z,hw,fun p' hp=>q.tup (w.cut lo hi) hr hp⟩
 | str l=>
  simp only [RV] at v1
  obtain ⟨rfl,hl⟩:=v1
  obtain ⟨t,rfl⟩:=rx
  cases e
  refine ⟨"str",_,PySem.F.slot_str_getitem.lookup,typeIs_str s _ t,?_⟩
  have part:∀ {v:Value} {o:Option Int},IsPart v o→∃ p:Option (Int×Tok),v=partValue p∧p.map (·.1)=o:=fun {v o} hp=>by
   cases hp with
   | none=>exact ⟨none,rfl,rfl⟩
   | int i t=>exact ⟨some (i,t),rfl,rfl⟩
  obtain ⟨l1,e1,e2⟩:=part pl
  obtain ⟨u1,e3,e4⟩:=part pu
  subst e1 e3
  obtain ⟨os,hos,hcs,hds⟩:=hs
  refine wpAny_getItem_str_slice (l:=l1) (u:=u1) (st:=none) ⟨os,hos,hcs,hds⟩ rfl ?_
  have Gv:((slicePicked (bu l) l1 u1 none).filterMap ((bu l).cps[·]?)).toArray=(Ev.cut l lo hi).toArray:=by
   show ((Builtin.Str.strSliceIndices (l1.map (·.1)) (u1.map (·.1)) 1 (bu l).length).filterMap ((bu l).cps[·]?)).toArray=_
   rw [e2,e4]
   exact MZ l lo hi
  have hcl:=JP l lo hi
  unfold sliceMade
  refine post_val_or_made (fun _=>?_) fun t' k=>?_
  ·rw [Gv]
   show (Ev.cut l lo hi).toArray.size≤sizeLine
   simp only [List.size_toArray]
   omega
  ·have hres:(if (((none:Option (Int×Tok)).map (·.1)).getD 1==1&&(slicePicked (bu l) l1 u1 none).length==(bu l).length)=true then bu l else (⟨((slicePicked (bu l) l1 u1 none).filterMap ((bu l).cps[·]?)).toArray⟩:Str))=bu (Ev.cut l lo hi):=by
    split
    ·rename_i hc
     rw [Bool.and_eq_true] at hc
     have hlen:(slicePicked (bu l) l1 u1 none).length=(bu l).length:=eq_of_beq hc.2
     have hlen2:(slicePicked (bu l) l1 u1 none).length=Ev.aU l.length l.length hi - Ev.aU l.length 0 lo:=by
      show (Builtin.Str.strSliceIndices (l1.map (·.1)) (u1.map (·.1)) 1 (bu l).length).length=_
      rw [e2,e4,A7,cV]
      simp
     rw [cV] at hlen
     have hb:Ev.aU l.length l.length hi≤l.length:=HT.t9 _ _ (Nat.le_refl _) hi
     have ha:Ev.aU l.length 0 lo≤l.length:=HT.t9 _ _ (Nat.zero_le _) lo
     rw [sy l lo hi ⟨by omega,by omega⟩]
    ·rw [Gv];rfl
   rw [hres]
   exact ⟨.str (bu (Ev.cut l lo hi)),H,I.tok _,⟨_,rfl⟩,q.here ⟨rfl,by omega⟩ hr⟩
 | ref m=>
  simp only [Ev.gc] at e
  split at e
  ·rename_i ds e1
   obtain ⟨p,rfl,z⟩:=v1.shape
   obtain ⟨p',vs,z',q1,w⟩:=hr.read e1
   rw [z] at z';cases z'
   obtain ⟨hz,q2⟩:=q.lst e (w.cut lo hi) hr
   exact Jd pins s σ H _ v vl vu lo hi sl Q I rx hs pl pu ⟨p,vs,rfl,q1,q2⟩
  ·cases e
 | _=>cases e
theorem uD:∀ (k:Nat) (l:List Nat) (acc:List Nat),(List.replicate k l.toArray).foldl (·++·) acc.toArray=(acc++Ev.rep k l).toArray
 | 0,l,acc=>by simp [Ev.rep]
 | k+1,l,acc=>by
  rw [List.replicate_succ,List.foldl_cons]
  have:acc.toArray++l.toArray=(acc++l).toArray:=by simp
  rw [this,uD k l (acc++l)]
  simp [Ev.rep,List.replicate_succ]
theorem nK {α:Type}(k:Nat) (l:List α):(Ev.rep k l).length=k*l.length:=by
 unfold Ev.rep
 exact len_rep l k
theorem JQ {l:List Nat}{k:Int}(h:0≤k):Txt.mul (bu l) k=bu (Ev.rep k.toNat l):=by
 unfold Txt.mul
 by_cases h1:k<1
 ·have:k=0:=by omega
  subst this
  rw [if_pos (by decide)]
  rfl
 ·rw [if_neg h1]
  split
  ·rename_i hc
   rw [Bool.or_eq_true] at hc
   rcases hc with hc | hc
   ·have:k=1:=by simpa using hc
    subst this
    simp [Ev.rep]
   ·rw [cV] at hc
    have:l=[]:=by cases l with | nil=>rfl | cons _ _=>simp at hc
    subst this
    simp [Ev.rep,bu]
  ·show (⟨(List.replicate k.toNat (bu l).cps).foldl (·++·) #[]⟩:Str)=_
   have:=uD k.toNat l []
   simp only [List.nil_append] at this
   exact congrArg Str.mk this
theorem jY {a b:Nat}(h1:a≤1000) (h2:b≤1000):a*b≤sizeLine:=Nat.le_trans (Nat.mul_le_mul h1 h2) (by decide)
theorem JR {pins:List (Addr×Obj)}{σ:L2.St}{H:Hp}{s:Shared}{Q:VK}(I:Inv X pins σ H s) {l:List Nat}{k:Int}{t u:Tok}(hk:0≤k∧k≤1000∧l.length≤1000) (q:Q (.str (bu (Ev.rep k.toNat l))) H) :
  wpAny (model X.prog X.w) X.A (binaryOp .Mult (.str (bu l) t) (.int k u)) (EP X pins σ Q) X.xe s:=by
 have hok:MulOk (bu l) k:=mulOk_of 1000 1000 (by rw [cV];exact hk.2.2) (by exact hk.2.1) (by omega) (by decide) (by decide)
 refine SB.mul hok fun t' k'=>?_
 rw [JQ hk.1]
 exact ⟨.str _,H,I.tok _,⟨_,rfl⟩,q⟩
theorem o6:fillsNumberSlot (.type "tuple") "mul" = pure false:=
 PySem.fillsNumberSlot_seq (id:="tuple.__mul__") (r:=some (.builtin "tuple.__rmul__")) PySem.F.slot_tuple_mul.lookup (by decide +kernel) PySem.F.slot_tuple_rmul.lookup (by decide +kernel)
theorem uE:seqRepeat? (.type "tuple")=pure (some (.builtin "tuple.__mul__")):=by
 unfold seqRepeat?
 rw [PySem.seqSlot_of (T:="tuple") (name:="__mul__") (id:="tuple.__mul__") PySem.F.slot_tuple_mul.lookup (by decide +kernel),PySem.seqSlot_of (T:="tuple") (name:="__rmul__") (id:="tuple.__rmul__") PySem.F.slot_tuple_rmul.lookup (by decide +kernel)]
 rfl
theorem yS (a:Int) (t:Tok) (l:Addr) (items:Array Value) (n:Nat) (dd:Option Addr) (sl:Array (Option Value)) :
  Meets (Builtin.«int.__rmul__» ⟨[.int a t,.ref l],[]⟩) (fun _ R s=>s.heap.get? l=some { cls:=.type "tuple",dict:=dd,data:=.seq items n,slots:=sl }∧R (.ok (.ret Value.notImplemented)) s):=
 .of_wp fun prog w A R s h=>by obtain ⟨hp,g,d,tk,os⟩:=s;obtain ⟨hl,h⟩:=h;wp_walk;exact ⟨_,rfl,h⟩
theorem yT (l:Addr) (items:Array Value) (n:Nat) (dd:Option Addr) (sl:Array (Option Value)) (k:Int) (u:Tok) (h1:¬ (decide (k < -2 ^ 63) || decide (k≥2 ^ 63))=true) (h3:(items.isEmpty || k==1)=true) :
  Meets (Builtin.«tuple.__mul__» ⟨[.ref l,.int k u],[]⟩) (fun _ R s=>s.heap.get? l=some { cls:=.type "tuple",dict:=dd,data:=.seq items n,slots:=sl }∧R (.ok (.ret (.ref l))) s):=
 .of_wp fun prog w A R s h=>by obtain ⟨hp,g,d,tk,os⟩:=s;obtain ⟨hl,h⟩:=h;have f1:=AutoSeq1.idx_int;wp_walk using AutoSeq1.wpAny_loadPart' hl;rw [if_neg h1];wp_walk using AutoSeq1.wpAny_loadPart' hl;exact ⟨_,rfl,h⟩
theorem yU (l:Addr) (items:Array Value) (n:Nat) (dd:Option Addr) (sl:Array (Option Value)) (k:Int) (u:Tok) (h1:¬ (decide (k < -2 ^ 63) || decide (k≥2 ^ 63))=true) (h3:¬ (items.isEmpty || k==1)=true) (h4:(decide (k≤0) || items.isEmpty)=true) :
  Meets (Builtin.«tuple.__mul__» ⟨[.ref l,.int k u],[]⟩) (fun _ R s=>s.heap.get? l=some { cls:=.type "tuple",dict:=dd,data:=.seq items n,slots:=sl }∧R (.ok (.ret (Value.ref s.heap.objs.size))) { s with heap:=s.heap.push { cls:=Value.type "tuple",data:=Data.seq #[]},toks:=s.toks }):=
 .of_wp fun prog w A R s h=>by obtain ⟨hp,g,d,tk,os⟩:=s;obtain ⟨hl,h⟩:=h;have f1:=AutoSeq1.idx_int;wp_walk using AutoSeq1.wpAny_loadPart' hl;rw [if_neg h1];wp_walk using AutoSeq1.wpAny_loadPart' hl;exact ⟨_,rfl,h⟩
theorem yV (l:Addr) (items:Array Value) (n:Nat) (dd:Option Addr) (sl:Array (Option Value)) (k:Int) (u:Tok) (h1:¬ (decide (k < -2 ^ 63) || decide (k≥2 ^ 63))=true) (h3:¬ (items.isEmpty || k==1)=true) (h4:¬ (decide (k≤0) || items.isEmpty)=true)
  (h5:¬ (items.size*k > (2 ^ 63 - 1) / 8)) (h6:¬ Builtin.Tuple.tupleTooMany (items.size*k)=true) (hsz:(List.foldl (fun x1 x2=>x1++x2) #[] (List.replicate k.toNat items)).size≤sizeLine) :
  Meets (Builtin.«tuple.__mul__» ⟨[.ref l,.int k u],[]⟩) (fun _ R s=>s.heap.get? l=some { cls:=.type "tuple",dict:=dd,data:=.seq items n,slots:=sl }∧R (.ok (.ret (Value.ref s.heap.objs.size))) { s with heap:=s.heap.push { cls:=Value.type "tuple",data:=Data.seq (List.foldl (fun x1 x2=>x1++x2) #[] (List.replicate k.toNat items))},toks:=s.toks }):=
 .of_wp fun prog w A R s h=>by obtain ⟨hp,g,d,tk,os⟩:=s;obtain ⟨hl,h⟩:=h;have f1:=AutoSeq1.idx_int;wp_walk using AutoSeq1.wpAny_loadPart' hl;rw [if_neg h1];wp_walk using AutoSeq1.wpAny_loadPart' hl;rw [if_neg h5];wp_walk using AutoSeq1.wpAny_loadPart' hl;exact ⟨_,rfl,h⟩
theorem sA:∀ (k:Nat) (l acc:List Value),(List.replicate k l.toArray).foldl (·++·) acc.toArray=(acc++Ev.rep k l).toArray
 | 0,l,acc=>by simp [Ev.rep]
 | k+1,l,acc=>by
  rw [List.replicate_succ,List.foldl_cons]
  have:acc.toArray++l.toArray=(acc++l).toArray:=by simp
  rw [this,sA k l (acc++l)]
  simp [Ev.rep,List.replicate_succ]
theorem JU {pins:List (Addr×Obj)}{σ:L2.St}{H:Hp}{s:Shared}{Q:VK}(I:Inv X pins σ H s) {p:Addr}{vs:List V}{k:Int}{u:Tok}(hk:0≤k∧k≤1000∧vs.length≤1000) (hp:dI X.K H p vs)
  (q1:Ev.rep k.toNat vs=vs→Q (.ref p) H) (q2:∀ p',H p'=none→Q (.ref p') (upd H p' (.tup (Ev.rep k.toNat vs)))) :
  wpAny (model X.prog X.w) X.A (binaryOp .Mult (.ref p) (.int k u)) (EP X pins σ Q) X.xe s:=by
 obtain ⟨us,pv,pt,hz⟩:=I.tuple hp
 obtain ⟨⟨cls,dd,data,sl⟩,ho,hc,n,hd⟩:=id pt
 simp only at hc hd
 subst hc hd
 have hl:=pv.length
 have h1:¬ (decide (k < -2 ^ 63) || decide (k≥2 ^ 63))=true:=by simp;omega
 refine wpAny_binaryOp_repeat_ref (T:="tuple") (U:="int") (by decide) ⟨_,ho,rfl⟩ (fun s'=>typeIs_int s' k u) o6 PySem.F.fills_int_mul PySem.F.slot_int_rmul uE PySem.F.slot_int_index.lookup
  (call_meets PySem.F.slot_int_rmul (typeIs_int s k u) PySem.F.entry_int_rmul (PySem.F.args_int_rmul_2 _ _) (yS k u p us.toArray n dd sl) ⟨ho,rfl,⟨_,ho,rfl⟩,?_⟩)
 have hrep:∀ m:Nat,(Ev.rep m us).length=m*us.length:=fun m=>nK m us
 by_cases h3:(us.toArray.isEmpty || k==1)=true
 ·refine call_meets PySem.F.slot_tuple_mul ⟨_,ho,rfl⟩ PySem.F.entry_tuple_mul (PySem.F.args_tuple_mul_2 _ _) (yT p us.toArray n dd sl k u h1 h3) ⟨ho,?_⟩
  refine ⟨.ref p,H,I,rfl,q1 ?_⟩
  rw [Bool.or_eq_true] at h3
  rcases h3 with h3 | h3
  ·have:us=[]:=by simpa using h3
   subst this
   cases pv
   simp [Ev.rep]
  ·have:k=1:=by simpa using h3
   subst this
   simp [Ev.rep]
 ·have laid:∀ m:Nat,m=k.toNat→EP X pins σ Q (.ref s.heap.objs.size) { s with heap:=s.heap.push { cls:=.type "tuple",data:=.seq (Ev.rep m us).toArray }}:=fun m hm=>by
   subst hm
   refine ⟨.ref s.heap.objs.size,_,I.laid (t':=s.toks) (o:=.tup (Ev.rep k.toNat vs)) (fun b ob q=>Heap.get?_push_of_some _ q) (Nat.le_refl _) ?_,rfl,q2 _ (I.hok.fresh (Nat.le_refl _))⟩
   exact ⟨by rw [nK];exact jY (by omega) hk.2.2,_,pv.rep k.toNat,IsTup.new _ _⟩
  by_cases h4:(decide (k≤0) || us.toArray.isEmpty)=true
  ·refine call_meets PySem.F.slot_tuple_mul ⟨_,ho,rfl⟩ PySem.F.entry_tuple_mul (PySem.F.args_tuple_mul_2 _ _) (yU p us.toArray n dd sl k u h1 h3 h4) ⟨ho,?_⟩
   have hk0:k=0:=by
    rw [Bool.or_eq_true] at h4 h3
    rcases h4 with h4 | h4
    ·have:k≤0:=of_decide_eq_true h4
     omega
    ·exact absurd (.inl h4) h3
   have:=laid 0 (by rw [hk0];rfl)
   exact this
  ·have hm:us.toArray.size*k.toNat≤1000000:=by
    rw [List.size_toArray]
    exact Nat.mul_le_mul (by omega:us.length≤1000) (by omega:k.toNat≤1000)
   have hm':(us.toArray.size:Int)*k≤1000000:=by
    have e:(us.toArray.size:Int)*k=((us.toArray.size*k.toNat:Nat):Int):=by
     rw [Int.natCast_mul,Int.toNat_of_nonneg hk.1]
    rw [e];omega
   have hf:List.foldl (fun x1 x2=>x1++x2) #[] (List.replicate k.toNat us.toArray)=(Ev.rep k.toNat us).toArray:=by
    have:=sA k.toNat us []
    simpa using this
   refine call_meets PySem.F.slot_tuple_mul ⟨_,ho,rfl⟩ PySem.F.entry_tuple_mul (PySem.F.args_tuple_mul_2 _ _) (yV p us.toArray n dd sl k u h1 h3 h4 (by omega) ?_ ?_) ⟨ho,?_⟩
   ·unfold Builtin.Tuple.tupleTooMany
    simp only [decide_eq_true_eq]
    have:(sizeLine:Int)=16777216:=by rw [sizeLine_eq];rfl
    omega
   ·rw [hf]
    simp only [List.size_toArray]
    rw [nK]
    exact jY (by omega) (by omega)
   ·rw [hf]
    exact laid _ rfl
theorem M5:d7 X (binaryOp .Mult) (iU X.K (Ev.bQ .mul)):=by
 intro pins s σ H x y v u Q I rx ry q
 obtain ⟨r,h,a,b,d,h',hr,v1,v2,e,q⟩:=q
 cases b with
 | int k=>
  have s2:=v2.shape
  simp only [gD] at s2
  subst s2
  cases a with
  | int i=>
   delta Ev.bQ at e;dsimp only at e
   split at e
   ·rename_i hz
    cases e
    refine LH pins s σ H x _ v u Q I rx ry ⟨i,k,v1,rfl,?_,q.here rfl hr⟩
    unfold Ev.cz at hz
    simp only [Bool.or_eq_true,Bool.and_eq_true,decide_eq_true_eq] at hz
    exact hz
   ·cases e
  | str l=>
   delta Ev.bQ at e;dsimp only at e
   split at e
   ·rename_i hz
    cases e
    simp only [RV] at v1
    obtain ⟨rfl,hl⟩:=v1
    obtain ⟨t,rfl⟩:=rx
    obtain ⟨t',rfl⟩:=ry
    exact JR I hz (q.here ⟨rfl,by rw [nK];exact jY (by omega) hz.2.2⟩ hr)
   ·cases e
  | tup ds=>
   delta Ev.bQ at e;dsimp only at e
   split at e
   ·rename_i hz
    cases e
    obtain ⟨p,vs,rfl,z,w⟩:=v1.shape
    cases rx
    obtain ⟨t',rfl⟩:=ry
    refine JU I ⟨hz.1,hz.2.1,by rw [w.length];exact hz.2.2⟩ z (fun hrp=>q.here ⟨p,vs,rfl,z,?_⟩ hr) fun p' hp=>q.tup (w.rep k.toNat) hr hp
    have:=w.rep k.toNat
    rw [hrp] at this
    exact this
   ·cases e
  | ref i=>
   delta Ev.bQ at e;dsimp only at e
   split at e
   ·rename_i ds e1
    split at e
    ·rename_i hz
     obtain ⟨p,rfl,z⟩:=v1.shape
     obtain ⟨p',g1,vs,g2,g3⟩:=hr.ob _ _ e1
     rw [z] at g1;cases g1
     obtain ⟨hz2,q2⟩:=q.lst e (g3.rep k.toNat) hr
     exact LZ pins s σ H (.ref p) _ v u Q I rx ry ⟨p,k,vs,rfl,rfl,g2,by omega,by omega,jY (by rw [g3.length];exact hz.2.2) (by omega),q2⟩
    ·cases e
   ·cases e
  | _=>cases e
 | _=>cases a <;> cases e
end
end Sm
set_option maxRecDepth 100000
namespace Sm
open PySem PySem.Spec PyProof.Rows L2 PySem.SeqAt
open Ev (D O Hh Fr R aT E Es Eo T S Ss Fl Src bU bN TY BI ME)
section
variable {X:Cx}
theorem xB {K:PySem.W.Frag}{H:Hp}{r:List Addr}:∀ {ds:List D}{is:List Int}{vs:List V}{us:List Value},Ev.intsOf ds=some is→aK K H r ds vs→Vals vs us→IntsAre us is
 | [],bs,vs,us,e,w,p=>by
  cases e
  simp only [aK] at w;subst w;cases p;exact .nil
 | d :: ds,bs,vs,us,e,w,p=>by
  cases d with
  | int b=>
   simp only [Ev.intsOf,Option.map_eq_some_iff] at e
   obtain ⟨bs',e1,rfl⟩:=e
   simp only [aK,RV] at w
   obtain ⟨v,w',rfl,rfl,w2⟩:=w
   cases p with
   | cons p1 p2=>
    obtain ⟨t,rfl⟩:=p1
    exact .cons _ _ (xB e1 w2 p2)
  | _=>cases e
theorem xC {K:PySem.W.Frag}{H:Hp}{r:List Addr}:∀ {ds:List D}{ss:List (List Nat)}{vs:List V}{us:List Value},Ev.strsOf ds=some ss→aK K H r ds vs→Vals vs us→StrsAre us (ss.map bu)∧∀ l∈ss,l.length≤sizeLine
 | [],bs,vs,us,e,w,p=>by
  cases e
  simp only [aK] at w;subst w;cases p;exact ⟨.nil,fun l h=>nomatch h⟩
 | d :: ds,bs,vs,us,e,w,p=>by
  cases d with
  | str b=>
   simp only [Ev.strsOf,Option.map_eq_some_iff] at e
   obtain ⟨bs',e1,rfl⟩:=e
   simp only [aK,RV] at w
   obtain ⟨v,w',rfl,⟨rfl,hb⟩,w2⟩:=w
   cases p with
   | cons p1 p2=>
    obtain ⟨t,rfl⟩:=p1
    obtain ⟨g1,g2⟩:=xC e1 w2 p2
    refine ⟨.cons _ _ g1,fun l hl=>?_⟩
    rcases List.mem_cons.mp hl with z | z
    ·subst z;exact hb
    ·exact g2 l z
  | _=>cases e
variable {G:Tb}{n:Nat}{sc:Scope}{N:List Str}{df:Bool}
theorem M6 (g:Good G n sc N df X):gK X (.builtin "sum") (uq X.K (Ev.cX .sum)):=by
 intro pins s σ H xs us Q I r q
 obtain ⟨rr,h,as,d,h',hr,v1,e,q⟩:=q
 match as,e with
 | [.ref m],e=>
  obtain ⟨e,rfl⟩:=Ev.aQ e
  simp only [Option.map_eq_some_iff,Option.bind_eq_some_iff] at e
  obtain ⟨is,⟨ds,e1,e2⟩,rfl⟩:=e
  simp only [aK,RV] at v1
  obtain ⟨v,w,rfl,⟨p,rfl,z⟩,rfl⟩:=v1
  obtain ⟨u,rfl,ru⟩:=vals1 r
  cases ru
  obtain ⟨p',vs,z',q1,w⟩:=hr.read e1
  rw [z] at z';cases z'
  obtain ⟨zs,pv,pl,_⟩:=I.list q1
  have hi:=xB e2 w pv
  obtain ⟨ys,hys⟩:=(hi.allInts).items
  have hl:s.heap.IsList p (intItems ys):=by rw [←hys];exact pl.isList
  refine sum_intListG (I.ok.hd g.calm) hl fun h'' tk t' hk=>?_
  have hsum:preSum (numAt ys) ys.size=is.sum:=by
   have h1:numsOf zs.toArray.toList=is:=by rw [show zs.toArray.toList=zs from rfl];exact hi.numsOf
   rw [hys,nums_intItems] at h1
   rw [preSum_eq,List.take_of_length_le (by simp),h1]
  rw [hsum]
  exact ⟨.int is.sum,H,I.kept hk,⟨_,rfl⟩,q.here rfl hr⟩
theorem M7:gK X (.builtin "len") (uq X.K (Ev.cX .len)):=by
 intro pins s σ H xs us Q I r q
 obtain ⟨rr,h,as,d,h',hr,v1,e,q⟩:=q
 match as,e with
 | [.str l],e=>
  delta Ev.cX at e;dsimp only at e
  split at e
  ·cases e
   simp only [aK,RV] at v1
   obtain ⟨v,w,rfl,⟨rfl,hl⟩,rfl⟩:=v1
   refine uc pins s σ H _ us Q I r ⟨_,rfl,by rw [cV];exact hl,?_⟩
   rw [cV]
   exact q.here rfl hr
  ·cases e
 | [.tup ds],e=>
  cases e
  simp only [aK,RV] at v1
  obtain ⟨v,w,rfl,⟨p,vs,rfl,z,w'⟩,rfl⟩:=v1
  refine mF pins s σ H _ us Q I r ⟨p,vs,rfl,.inr z,?_⟩
  rw [w'.length]
  exact q.here rfl hr
 | [.ref m],e=>
  obtain ⟨e,rfl⟩:=Ev.aQ e
  simp only [Option.map_eq_some_iff] at e
  obtain ⟨ds,e1,rfl⟩:=e
  simp only [aK,RV] at v1
  obtain ⟨v,w,rfl,⟨p,rfl,z⟩,rfl⟩:=v1
  obtain ⟨p',vs,z',q1,w⟩:=hr.read e1
  rw [z] at z';cases z'
  refine mF pins s σ H _ us Q I r ⟨p,vs,rfl,.inl q1,?_⟩
  rw [w.length]
  exact q.here rfl hr
theorem M8 (g:Good G n sc N df X):gK X (.builtin "min") (uq X.K (Ev.cX .min)):=by
 intro pins s σ H xs us Q I r q
 obtain ⟨rr,h,as,d,h',hr,v1,e,q⟩:=q
 match as,e with
 | [.int i,.int j],e=>
  cases e
  simp only [aK,RV] at v1
  obtain ⟨v,w,rfl,rfl,v',w',rfl,rfl,rfl⟩:=v1
  exact As g.calm pins s σ H _ us Q I r ⟨i,j,rfl,q.here rfl hr⟩
theorem A8:rL X "list.append" (ur X.K (Ev.fF .append)):=by
 intro pins s σ H x xs v us Q I rx rs q
 obtain ⟨r,h,a,as,d,h',hr,v1,v2,e,q⟩:=q
 cases a with
 | ref m=>
  match as,e with
  | [b],e=>
   delta Ev.fF at e;dsimp only at e
   split at e
   ·rename_i ds e1
    split at e
    ·rename_i hz
     cases e
     rw [jD] at hz
     obtain ⟨p,rfl,z⟩:=v1.shape
     simp only [aK] at v2
     obtain ⟨y,w,rfl,v3,rfl⟩:=v2
     obtain ⟨p',g1,vs,g2,g3⟩:=hr.ob _ _ e1
     rw [z] at g1;cases g1
     refine rM pins s σ H _ _ v us Q I rx rs ⟨p,vs,y,rfl,rfl,g2,by rw [g3.length];exact hz,?_⟩
     have f:=Fm.write (K:=X.K) (ws:=vs++[y]) g2 (List.mem_of_getElem? z)
     exact q _ _ r rfl (hr.write e1 z g2 (g3.append (.cons v3 .nil))) f
    ·cases e
   ·cases e
  | [],e=>cases e
  | _ :: _ :: _,e=>cases e
 | _=>cases e
theorem A9:rL X "list.extend" (ur X.K (Ev.fF .extend)):=by
 intro pins s σ H x xs v us Q I rx rs q
 obtain ⟨r,h,a,as,d,h',hr,v1,v2,e,q⟩:=q
 cases a with
 | ref m=>
  match as,e with
  | [.ref k],e=>
   delta Ev.fF at e;dsimp only at e
   split at e
   ·rename_i ds es e1 e2
    split at e
    ·rename_i hz
     cases e
     rw [jD] at hz
     obtain ⟨p,rfl,z⟩:=v1.shape
     simp only [aK,RV] at v2
     obtain ⟨y,w,rfl,⟨p2,rfl,z2⟩,rfl⟩:=v2
     obtain ⟨p',g1,vs,g2,g3⟩:=hr.ob _ _ e1
     rw [z] at g1;cases g1
     obtain ⟨p'',k1,ws,k2,k3⟩:=hr.ob _ _ e2
     rw [z2] at k1;cases k1
     refine Az pins s σ H _ _ v us Q I rx rs ⟨p,p2,vs,ws,rfl,rfl,g2,k2,by rw [g3.length,k3.length];exact hz,?_⟩
     have f:=Fm.write (K:=X.K) (ws:=vs++ws) g2 (List.mem_of_getElem? z)
     exact q _ _ r rfl (hr.write e1 z g2 (g3.append k3)) f
    ·cases e
   ·cases e
 | _=>cases e
theorem M9:rL X "list.pop" (ur X.K (Ev.fF .pop)):=by
 intro pins s σ H x xs v us Q I rx rs q
 obtain ⟨r,h,a,as,d,h',hr,v1,v2,e,q⟩:=q
 cases a with
 | ref m=>
  match as,e with
  | [],e=>
   delta Ev.fF at e;dsimp only at e
   split at e
   ·rename_i ds e1
    split at e
    ·rename_i y e2
     cases e
     obtain ⟨p,rfl,z⟩:=v1.shape
     simp only [aK] at v2
     subst v2
     obtain ⟨p',g1,vs,g2,g3⟩:=hr.ob _ _ e1
     rw [z] at g1;cases g1
     obtain ⟨vy,g4,g5⟩:=g3.get e2
     refine LX pins s σ H _ _ v us Q I rx rs ⟨p,vs,vy,rfl,rfl,g2,by rw [g3.length];exact g4,?_⟩
     have f:=Fm.write (K:=X.K) (ws:=vs.dropLast) g2 (List.mem_of_getElem? z)
     have hd:aK X.K H r ds.dropLast vs.dropLast:=by
      rw [List.dropLast_eq_take,List.dropLast_eq_take,g3.length]
      exact g3.take _
     exact q _ _ r (g5.mono f) (hr.write e1 z g2 hd) f
    ·cases e
   ·cases e
  | _ :: _,e=>cases e
 | _=>cases e
theorem o7 (sep:List Nat):∀ ss:List (List Nat),Str.join (bu sep) (ss.map bu)=bu (Ev.cS sep ss)
 | []=>rfl
 | [s]=>rfl
 | s :: t :: r=>by
  have ih:=o7 sep (t :: r)
  show bu s++bu sep++Str.join (bu sep) ((t :: r).map bu)=_
  rw [ih,qQ,qQ]
  rfl
theorem join_eq (sep:List Nat) (ss:List (List Nat)):Txt.join (bu sep) (ss.map bu)=bu (Ev.cS sep ss):=by
 rw [←o7]
 exact PySem.StrLaws.glued_eq_join _ _
theorem JV:rL X "str.join" (ur X.K (Ev.fF .join)):=by
 intro pins s σ H x xs v us Q I rx rs q
 obtain ⟨r,h,a,as,d,h',hr,v1,v2,e,q⟩:=q
 cases a with
 | str sep=>
  match as,e with
  | [.ref k],e=>
   delta Ev.fF at e;dsimp only at e
   split at e
   ·rename_i ss e1
    split at e
    ·rename_i hz
     cases e
     simp only [Option.bind_eq_some_iff] at e1
     obtain ⟨ds,e1,e2⟩:=e1
     simp only [RV] at v1
     obtain ⟨rfl,hl⟩:=v1
     obtain ⟨t,rfl⟩:=rx
     simp only [aK,RV] at v2
     obtain ⟨y,w,rfl,⟨p2,rfl,z2⟩,rfl⟩:=v2
     obtain ⟨u,rfl,ru⟩:=vals1 rs
     cases ru
     obtain ⟨p',vs,z',q1,w⟩:=hr.read e1
     rw [z2] at z';cases z'
     obtain ⟨zs,pv,pl,_⟩:=I.list q1
     obtain ⟨g1,g2⟩:=xC e2 w pv
     have hlen:((ss.map bu).map (·.length)).sum+(ss.map bu).length*(bu sep).length≤16777216:=by
      rw [List.map_map,List.length_map,cV]
      have:(fun x:Str=>x.length) ∘ bu=fun l:List Nat=>l.length:=funext fun l=>cV l
      rw [this]
      exact hz
     refine join_list pl.isList g1 hlen fun t' k'=>?_
     rw [join_eq]
     refine ⟨.str _,H,I.tok _,⟨_,rfl⟩,q.here ⟨rfl,?_⟩ hr⟩
     have hj:=PySem.StrLaws.join_length_le (bu sep) (ss.map bu)
     rw [o7,cV] at hj
     have:sizeLine=16777216:=sizeLine_eq
     omega
    ·cases e
   ·cases e
 | _=>cases e
end
end Sm
set_option maxRecDepth 100000
namespace Sm
open PySem PySem.Spec PyProof.Rows L2 PySem.SeqAt
open Ev (D O Hh Fr R aT E Es Eo T S Ss Fl Src bU bN TY BI ME)
section
variable {X:Cx}{G:Tb}{n:Nat}{sc:Scope}{N:List Str}{df:Bool}{m:List Nat}{a b c:E}{xa xb xc tg:Expr}{pos:Pos}
end
end Sm
set_option maxRecDepth 100000
namespace Sm
open PySem PySem.Spec PyProof.Rows L2 PySem.SeqAt
open Ev (D O Hh Fr R aT E Es Eo T S Ss Fl Src bU bN TY BI ME)
section
variable {X:Cx}{G:Tb}{n:Nat}{sc:Scope}{N:List Str}{df:Bool}{m:List Nat}{a b c:E}{xa xb xc tg:Expr}{pos:Pos}
theorem Vals.reverse {vs:List V}{us:List Value}(w:Vals vs us):Vals vs.reverse us.reverse:=by
 induction w with
 | nil=>exact .nil
 | cons a _ ih=>rw [List.reverse_cons,List.reverse_cons];exact ih.append (.cons a .nil)
end
end Sm
set_option maxRecDepth 100000
namespace Sm
open PySem PySem.Spec PyProof.Rows L2 PySem.SeqAt
open Ev (D O Hh Fr R aT E Es Eo T S Ss Fl Src bU bN TY BI ME)
section
variable {G:Tb}{n:Nat}{sc:Scope}{N:List Str}{df:Bool}{m:List Nat}{a b c:E}{xa xb xc tg:Expr}{pos:Pos}
theorem Dm (g:Good G n sc N df X):gK X (.type "tuple") (fun xs H Q=>∃ r h d x d' h',HR X.K H r h∧RV X.K H r d x∧xs=[x]∧Ev.qK d h=.ok d' h'∧Res X.K r H h' d' Q):=by
 intro pins s σ H xs us Q I rv q
 obtain ⟨r,h,d,x,d',h',hr,v1,rfl,e,q⟩:=q
 cases d with
 | tup ds=>
  cases e
  have v2:=v1
  obtain ⟨p,vs,rfl,z,w⟩:=v1.shape
  exact lY pins s σ H _ us Q I rv ⟨p,vs,rfl,.inr ⟨z,q.here v2 hr⟩⟩
 | ref i=>
  simp only [Ev.qK] at e
  split at e
  ·rename_i ds e1
   split at e
   ·cases e
    obtain ⟨p,rfl,z⟩:=v1.shape
    obtain ⟨p',vs,z',q1,w⟩:=hr.read e1
    rw [z] at z';cases z'
    exact lY pins s σ H _ us Q I rv ⟨p,vs,rfl,.inl ⟨q1,fun l hl=>q.tup w hr hl⟩⟩
   ·cases e
  ·cases e
 | _=>cases e
theorem Na {p:Pos}(ha:JE G n sc N df m a xa) (h1:("tuple" : Str)∈G.bl:=by decide +kernel) (Nb:sc.names.lookup ("tuple" : Str)=some .globalImplicit:=by rfl)
  (hst:∀ env:Env,starEach [xa] env=[(false,eval xa env)]:=by intro _;rfl):JE G n sc N df m (.jb a) (.Call (.Name "tuple" p) [xa] [] pos):=fun X g=>by
 refine PE.of (Aw (Dm g) (g.gl Nb) (g.bl _ h1) (by decide +kernel) (nG (ha X g) pI (hst _)) (by decide) (by decide) (hst _) rfl) fun s H Q q=>?_
 obtain ⟨r,fr,h,d,h',sr,hr,e,q⟩:=q
 simp only [Ev.ev] at e
 obtain ⟨x,h3,e1,e⟩:=Ev.ai e
 refine ⟨r,fr,h,x,_,sr,hr,e1,fun v H1 r1 v1 hr1 f1=>?_⟩
 exact ⟨r1,h3,x,v,d,h',hr1,v1,rfl,e,q.later f1⟩
theorem Nc {st:Stmt}:JS G n sc N df m .fj st:=fun X g=>PS.of CL fun Q s H q=>by
 obtain ⟨r,fr,h,fl,aj,h',sr,hr,e,q⟩:=q
 simp only [Ev.ex] at e
 cases e
end
theorem xD {X:Cx}{pins:List (Addr×Obj)}{σ:L2.St}{H:Hp}{s:Shared}{h':Heap}{t':Nat}{ch:List Addr}(I:Inv X pins σ H s) (k:∀ b o,b∉ch→s.heap.get? b=some o→h'.get? b=some o) (hf:∀ b∈ch,gx X pins H b):Inv X pins σ H { s with heap:=h',toks:=t' }:=by
 have Af:∀ b u,H b=some u→b∉ch:=fun b u e z=>by rw [(hf b z).1] at e;cases e
 refine I.step (g':=s.gens) (d':=s.drawn) (ch:=ch) (fun b hb=>?_) (fun b o _ _ hc e _=>k b o hc e) (fun b o _ _ hc e _=>⟨o.slots,k b o hc e⟩) (fun _ _ _ _ n=>n)
  (fun b o hc e=>⟨o,k b o hc e⟩) (fun _ _ e=>e) (fun _ _ _ e=>e) (fun b ps e=>⟨#[],by rw [e];simp⟩) (fun m hm=>?_) (fun b u e=>?_) I.bare
 ·obtain ⟨f0,f1,f2,f3,f4,f5⟩:=hf b hb
  exact ⟨f3,f1,f4,f5⟩
 ·obtain ⟨o,es,ep,ho,r⟩:=hm
  exact ⟨o,es,ep,k _ o (fun z=>(hf _ z).2.1 rfl) ho,r⟩
 ·refine (I.hok b u e).stay (fun c v hc q=>k c v ?_ q) (fun _ q=>q) fun _ _ q=>q
  rcases hc with z | z
  ·rw [z];exact Af b u e
  ·exact Af c _ z
section
variable {prog:Program}{w:World}{A:Around}{E:Value→Shared→Prop}{s:Shared}
end
end Sm
set_option maxRecDepth 100000
namespace Sm
open PySem PySem.Spec PyProof.Rows L2 PySem.SeqAt
open Ev (D O Hh Fr R aT E Es Eo T S Ss Fl Src bU bN TY BI ME)
section
variable {G:Tb}{n:Nat}{sc:Scope}{N:List Str}{df:Bool}{m:List Nat}{a b c:E}{xa xb xc:Expr}{pos:Pos}
end
end Sm
set_option maxRecDepth 100000
namespace Sm
open PySem PySem.Spec PyProof.Rows L2 PySem.SeqAt
open Ev (D O Hh Fr R aT E Es Eo T S Ss Fl Src bU bN TY BI ME)
section
variable {G:Tb}{n:Nat}{sc:Scope}{N:List Str}{df:Bool}{m:List Nat}{a b c:E}{xa xb xc:Expr}{pos:Pos}
end
end Sm
set_option maxRecDepth 100000
namespace Sm
open PySem PySem.Spec PyProof.Rows L2 PySem.SeqAt
open Ev (D O Hh Fr R aT E Es Eo T S Ss Fl Src bU bN TY BI ME)
section
variable {X:Cx}{G:Tb}{n:Nat}{sc:Scope}{N:List Str}{df:Bool}{m:List Nat}{a b c:E}{xa xb xc xd tg:Expr}{pos:Pos}
end
end Sm
set_option maxRecDepth 100000
namespace Rv
open PySem PyProof.Rows
theorem mL:Manifest.owners.lookup (String.ofList ['d','e','s','r','e','v','e','r'].reverse)=some Manifest.sig_reversed:=by kernel_rfl
theorem slot_next:Slot "reversed" "__next__" "reversed.__next__" :=
 .of (owner:="reversed") (n:="__next__") (by rw [typeLookup_type,builtinLookup_eq_fast];kernel_rfl) (by decide +kernel) (by decide +kernel) (by decide +kernel)
  (by first | exact .inl (by decide +kernel) | exact .inr (by decide +kernel)) (by rw [isSubtype_type];kernel_rfl)
theorem entry_next:entryFor table "reversed.__next__" = some Builtin.«reversed.__next__»:=entryFor_of_tree (by kernel_rfl)
theorem args_next (a:Value):argsOk "reversed.__next__" ⟨[a],[]⟩:=by
 unfold argsOk;rw [signature?_of (id:="reversed.__next__") (n:=['_','_','t','x','e','n','_','_']) (o:=['d','e','s','r','e','v','e','r']) (by kernel_rfl) mL];kernel_rfl
theorem sC:Slot "reversed" "__iter__" "reversed.__iter__" :=
 .of (owner:="reversed") (n:="__iter__") (by rw [typeLookup_type,builtinLookup_eq_fast];kernel_rfl) (by decide +kernel) (by decide +kernel) (by decide +kernel)
  (by first | exact .inl (by decide +kernel) | exact .inr (by decide +kernel)) (by rw [isSubtype_type];kernel_rfl)
theorem Ba (a:Value):argsOk "reversed.__iter__" ⟨[a],[]⟩:=by
 unfold argsOk;rw [signature?_of (id:="reversed.__iter__") (n:=['_','_','r','e','t','i','_','_']) (o:=['d','e','s','r','e','v','e','r']) (by kernel_rfl) mL];kernel_rfl
theorem yW:entryFor table "reversed.__iter__" = some Builtin.«dict_keyiterator.__iter__»:=
 entryFor_alias (id':="dict_keyiterator.__iter__") (by kernel_rfl) (by first | rfl | decide +kernel | (unfold String.splitOn;simp +decide [String.splitOnAux])) (by decide +kernel) (by kernel_rfl)
theorem mP:Slot "reversed" "__length_hint__" "reversed.__length_hint__" :=
 .of (owner:="reversed") (n:="__length_hint__") (by rw [typeLookup_type,builtinLookup_eq_fast];kernel_rfl) (by decide +kernel) (by decide +kernel) (by decide +kernel)
  (by first | exact .inl (by decide +kernel) | exact .inr (by decide +kernel)) (by rw [isSubtype_type];kernel_rfl)
theorem yX:entryFor table "reversed.__length_hint__" = some Builtin.«reversed.__length_hint__»:=entryFor_of_tree (by kernel_rfl)
theorem Bb (a:Value):argsOk "reversed.__length_hint__" ⟨[a],[]⟩:=by
 unfold argsOk;rw [signature?_of (id:="reversed.__length_hint__") (n:=['_','_','t','n','i','h','_','h','t','g','n','e','l','_','_']) (o:=['d','e','s','r','e','v','e','r']) (by kernel_rfl) mL];kernel_rfl
theorem Nd:typeLookup (.type "reversed") "__len__" = pure none:=by rw [typeLookup_type,builtinLookup_eq_fast];kernel_rfl
theorem Nf:typeLookup (.type "tuple") "__reversed__" = pure none:=by rw [typeLookup_type,builtinLookup_eq_fast];kernel_rfl
section
variable {prog:Program}{w:World}{A:Around}{E:Value→Shared→Prop}{s:Shared}
theorem Bc:Slot "reversed" "__init__" "object.__init__" :=
 .of (owner:="object") (n:="__init__") (by rw [typeLookup_type,builtinLookup_eq_fast];kernel_rfl) (by decide +kernel) (by decide +kernel) (by decide +kernel)
  (by first | exact .inl (by decide +kernel) | exact .inr (by decide +kernel)) (by rw [isSubtype_type];kernel_rfl)
theorem called:TypeCalled "reversed" "reversed.__new__" "object.__init__" :=
 ⟨by decide +kernel,by decide +kernel,⟨_,_,F.mro_reversed⟩,F.made_reversed,by decide +kernel,F.sub_reversed_self,Bc⟩
noncomputable def gy (h:Heap) (a t:Addr) (i:Int):Prop:=∃ o,h.get? a=some o∧o.cls=.type "reversed" ∧o.data=.fields #[.ref t,rawInt i]
theorem gy.typeIs {a l:Addr}{i:Int}(x:gy s.heap a l i):s.TypeIs (.ref a) "reversed" :=let ⟨o,ho,hc,_⟩:=x;⟨o,ho,hc⟩
theorem gy.at {h h':Heap}{a l:Addr}{i:Int}(x:gy h a l i) (e:∀ o,h.get? a=some o→h'.get? a=some o):gy h' a l i:=let ⟨o,ho,r⟩:=x;⟨o,e _ ho,r⟩
noncomputable def nL (l:Addr) (i:Int):Obj:={ cls:=.type "reversed",data:=.fields #[.ref l,rawInt i]}
theorem nM {h h':Heap}{t:Addr}{items:Array Value}(x:IsTup h t items) (e:∀ o,h.get? t=some o→h'.get? t=some o):IsTup h' t items:=let ⟨o,ho,r⟩:=x;⟨o,e _ ho,r⟩
theorem Dn {t:Addr}{items:Array Value}{Q₁:Value→Shared→Prop}(ht:IsTup s.heap t items) (hfit:(items.size:Int)<2 ^ 63)
  (h:Q₁ (.ref s.heap.objs.size) { s with heap:=s.heap.push (nL t ((items.size:Int) - 1)),toks:=s.toks+1+1 }) :
  codeAny (model prog w) A (.call (.builtin "reversed.__new__") ⟨[.type "reversed",.ref t],[]⟩) (wants Q₁ E) s:=by
 refine codeAny_of_tree ?_
 show wpAny _ A.in1 (do checkBuiltinCall "reversed.__new__" ⟨[.type "reversed",.ref t],[]⟩;again (.builtin "reversed.__new__" ⟨[.type "reversed",.ref t],[]⟩)) _ _ s
 refine wpAny_bind (wpAny_of_eq (F.newCall_reversed_1 _) (wpAny_pure ⟨plainId_quiet F.plain_reversed_new _,codeAny_builtin F.entry_reversed_new ?_⟩))
 rw [Around.under_plainId F.plain_reversed_new _]
 unfold Builtin.«reversed.__new__»
 refine wpAny_bind (wpAny_of_eq (newClass_reversed _) ?_)
 try dsimp only
 refine wpAny_bind (wpAny_of_eq (a:=()) (by first | rfl | kernel_rfl) ?_)
 refine wpAny_bind (wpAny_of_eq (a:=()) (by first | rfl | kernel_rfl) ?_)
 try dsimp only
 refine wpAny_bind (wpAny_specialOf ht.typeIs Nf ?_)
 try dsimp only
 refine wpAny_bind ?_
 wp_delta
 refine wpAny_bind (wpAny_isInstance (T:="tuple") (b:=false) ht.typeIs (by rw [isSubtype_type];kernel_rfl) ?_)
 refine wpAny_ite_split (fun hab=>absurd hab (by decide)) (fun _=>?_)
 refine wpAny_bind (wpAny_specialOf ht.typeIs slot_tuple_getitem.lookup ?_)
 try dsimp only
 refine wpAny_ite_split (fun _=>?_) (fun hab=>absurd (by decide) hab)
 refine wpAny_pure ?_
 refine wpAny_ite_split (fun hab=>absurd hab (by decide)) (fun _=>?_)
 refine wpAny_bind (len_tuple ht hfit ?_)
 refine wpAny_bind (m:=asInt? _) (wpAny_pure ?_)
 try dsimp only
 refine wpAny_bind (m:=Builtin.SmallTypes.newRecord _ _) ?_
 unfold Builtin.SmallTypes.newRecord
 refine wpAny_newObj_type ?_ (by size_fits)
 exact wpAny_pure h
theorem Dp {t:Addr}{items:Array Value}{Q:Value→Shared→Prop}(ht:IsTup s.heap t items) (hfit:(items.size:Int)<2 ^ 63)
  (h:Q (.ref s.heap.objs.size) { s with heap:=s.heap.push (nL t ((items.size:Int) - 1)),toks:=s.toks+1+1 }):wpAny (model prog w) A (call (.type "reversed") [.ref t]) Q E s:=by
 refine callType_codes (Q₁:=fun obj s₁=>obj=.ref s.heap.objs.size∧s₁={ s with heap:=s.heap.push (nL t ((items.size:Int) - 1)),toks:=s.toks+1+1 }) called (F.typeCall_reversed_1 _) F.entry_object_init (Dn ht hfit ⟨rfl,rfl⟩) ?_
 rintro obj s₁ ⟨rfl,rfl⟩
 have hT:({ s with heap:=s.heap.push (nL t ((items.size:Int) - 1)),toks:=s.toks+1+1 }:Shared).TypeIs (.ref s.heap.objs.size) "reversed" :=⟨_,Heap.get?_push_size _ rfl,rfl⟩
 refine ⟨hT,F.args_object_init_2 _ _,?_⟩
 exact object_init_meets (self:=Value.ref s.heap.objs.size) (rest:=[Value.ref t]) called.init.lookup called.made (by decide) prog w A.in1 _ _ ⟨hT,rfl,h⟩
theorem next_item {it t:Addr}{i:Nat}{items:Array Value}{x:Value}{Q:Option Value→Shared→Prop}(hit:gy s.heap it t (i:Int)) (ht:IsTup s.heap t items) (hx:items[i]?=some x) (hfit:(items.size:Int)<2 ^ 62)
  (hQ:∀ h' tk,gy h' it t ((i:Int) - 1)→Heap.SameBut it s.heap h'→Q (some x) { s with heap:=h',toks:=tk }):wpAny (model prog w) A (pyNext (.ref it)) Q E s:=by
 obtain ⟨o,ho,hc,hd⟩:=id hit
 have hi:i<items.size:=(Array.getElem?_eq_some_iff.mp hx).1
 unfold pyNext
 refine wpAny_bind (wpAny_attempt (wpAny_callSpecial?_slot (name:=Str.ofString "__next__") hit.typeIs slot_next
  (wpAny_call_entry slot_next hit.typeIs entry_next ?_ (args_next _))))
 unfold Builtin.«reversed.__next__»
 refine wpAny_bind (wpAny_of_eq (a:=(Value.ref it,[])) rfl ?_)
 try dsimp only
 refine wpAny_bind (wpAny_field ho hd (x:=.ref t) rfl ?_)
 refine wpAny_bind (wpAny_field ho hd (x:=rawInt (i:Int)) rfl ?_)
 show wpAny _ _ (if (i:Int)<0 then _ else _) _ _ s
 rw [if_neg (by omega)]
 try dsimp only
 refine wpAny_bind (wpAny_specialOf ht.typeIs slot_tuple_getitem.lookup ?_)
 try dsimp only
 refine wpAny_ite_split (fun hab=>absurd hab (by decide)) (fun _=>?_)
 refine wpAny_bind (wpAny_mkInt ?_)
 refine wpAny_bind (wpAny_attempt (getItem_tuple (j:=i) ht (by omega) (by omega) (by unfold seqIndex?;simp;omega) hx ?_))
 try dsimp only
 refine wpAny_bind (wpAny_field ho hd (x:=rawInt (i:Int)) rfl ?_)
 show wpAny _ _ (setField (.ref it) 1 (rawInt ((i:Int) - 1)) >>= _) _ _ _
 refine wpAny_bind (wpAny_setField ho hd (by simp) ?_)
 refine wpAny_pure ⟨x,rfl,wpAny_pure (hQ _ _ ?_ (Heap.SameBut.update ..))⟩
 exact ⟨_,Heap.get?_update_self _ ho (Obj.isFreed_of_fields (Obj.data_mapFields hd _)),(Obj.cls_mapFields ..).trans hc,by
  rw [Obj.data_mapFields hd];simp⟩
theorem next_end {it t:Addr}{Q:Option Value→Shared→Prop}(hh:A.handled=none) (hit:gy s.heap it t (-1))
  (hQ:∀ h',Heap.ExtBut it s.heap h'→Q none { s with heap:=h' }):wpAny (model prog w) A (pyNext (.ref it)) Q E s:=by
 obtain ⟨o,ho,hc,hd⟩:=id hit
 unfold pyNext
 refine wpAny_bind (wpAny_attempt (wpAny_callSpecial?_slot (name:=Str.ofString "__next__") hit.typeIs slot_next
  (wpAny_call_entry slot_next hit.typeIs entry_next ?_ (args_next _))))
 unfold Builtin.«reversed.__next__»
 refine wpAny_bind (wpAny_of_eq (a:=(Value.ref it,[])) rfl ?_)
 try dsimp only
 refine wpAny_bind (wpAny_field ho hd (x:=.ref t) rfl ?_)
 refine wpAny_bind (wpAny_field ho hd (x:=rawInt (-1)) rfl ?_)
 show wpAny _ _ (if (-1:Int)<0 then _ else _) _ _ s
 rw [if_pos (by decide)]
 refine wpAny_bind (wpAny_rule ?_)
 refine wpAny_bind ?_
 wp_delta
 refine wpAny_bind (wpAny_setField ho hd (by simp) ?_)
 have ho2:=Heap.get?_update_self (Obj.mapFields fun x=>x.setIfInBounds 1 (rawInt (-1))) ho (Obj.isFreed_of_fields (Obj.data_mapFields hd _))
 refine wpAny_setField ho2 (Obj.data_mapFields hd _) (by simp) ?_
 refine wpAny_bind ?_
 unfold Builtin.SmallTypes.stopIteration
 first
 | show wpAny _ _ (newExc (.type "StopIteration") [] >>= _) _ _ _
 | (refine wpAny_bind ?_;show wpAny _ _ (newExc (.type "StopIteration") [] >>= _) _ _ _)
 refine wpAny_bind ?_
 simp only [newExc,newTuple]
 refine wpAny_bind (wpAny_newObj_type ?_ (by size_fits))
 refine wpAny_bind (m:=firstArgMember _ _) (wpAny_of_eq (a:=Value.none) (by first | rfl | (simp only [firstArgMember];rfl)) ?_)
 refine wpAny_newObj_type ?_ (by size_fits)
 simp only [raiseNew]
 refine wpAny_bind (wpAny_handled ?_)
 first | rw [show A.in1.handled=none from hh] | rw [hh]
 refine wpAny_bind (wpAny_pure (wpAny_throw ?_))
 refine wpAny_bind (wpAny_isInstance (T:="StopIteration") (b:=true) ⟨_,Heap.get?_push_size _ rfl,rfl⟩ isSubtype_stop ?_)
 exact wpAny_pure (hQ _ ((((Heap.SameBut.update ..).extBut.trans (Heap.SameBut.update ..).extBut).push _).push _))
theorem uF {it t:Addr}{i:Int}{Q:Value→Shared→Prop}(hit:gy s.heap it t i) (h:Q (.ref it) s):wpAny (model prog w) A (pyIter (.ref it)) Q E s:=by
 refine wpAny_pyIter_slot hit.typeIs sC (wpAny_call_entry sC hit.typeIs yW ?_ (Ba _))
 show wpAny _ _ (ret (.ref it)) _ _ s
 exact wpAny_pure ⟨_,rfl,"reversed",_,hit.typeIs,slot_next.lookup,h⟩
theorem Dq {it t:Addr}{items:Array Value}{Q:Bool→Shared→Prop}(hit:gy s.heap it t ((items.size:Int) - 1)) (ht:IsTup s.heap t items) (hfit:items.size≤sizeLine)
  (h:∀ tk,Q ((items.size:Int) != 0) { s with toks:=tk }):wpAny (model prog w) A (Builtin.List.listLengthHint (.ref it)) Q E s:=by
 obtain ⟨o,ho,hc,hd⟩:=id hit
 unfold Builtin.List.listLengthHint
 refine wpAny_bind (wpAny_specialOf hit.typeIs Nd ?_)
 refine wpAny_ite_split (fun hab=>absurd hab (by decide +kernel)) (fun _=>?_)
 refine wpAny_ite_split (fun hab=>absurd hab (by decide)) (fun _=>?_)
 refine wpAny_bind (wpAny_specialOf hit.typeIs mP.lookup ?_)
 generalize hid:("reversed.__length_hint__" : String)=id0
 dsimp only
 rw [show splitId id0=some ("reversed","__length_hint__") from by subst hid;decide +kernel]
 subst hid
 dsimp only
 refine wpAny_bind (wpAny_isInstance (T:="reversed") (b:=true) hit.typeIs (by rw [isSubtype_type];kernel_rfl) ?_)
 refine wpAny_ite_split (fun hab=>absurd hab (by decide)) (fun _=>?_)
 refine wpAny_ite_split (fun hab=>absurd hab (by decide +kernel)) (fun _=>?_)
 refine wpAny_bind (wpAny_rule ?_)
 refine wpAny_bind (wpAny_of_eq (mP.bind _) ?_)
 refine wpAny_bind (wpAny_attempt (wpAny_call_entry mP hit.typeIs yX ?_ (Bb _)))
 unfold Builtin.«reversed.__length_hint__»
 refine wpAny_bind (wpAny_of_eq (a:=Value.ref it) rfl ?_)
 refine wpAny_bind (wpAny_field ho hd (x:=.ref t) rfl ?_)
 refine wpAny_ite_split (fun hab=>absurd hab Bool.false_ne_true) (fun _=>?_)
 have hf2:(items.size:Int)<2 ^ 63:=by rw [sizeLine_eq] at hfit;omega
 refine wpAny_bind (len_tuple ht hf2 ?_)
 refine wpAny_bind (m:=asInt? _) (wpAny_pure ?_)
 refine wpAny_bind (wpAny_field ho hd (x:=rawInt ((items.size:Int) - 1)) rfl ?_)
 show wpAny _ _ (if (items.size:Int)<(items.size:Int) - 1+1 then _ else _) _ _ _
 rw [if_neg (by omega)]
 have e1:(items.size:Int) - 1+1=(items.size:Int):=by omega
 rw [e1]
 unfold retInt
 refine wpAny_bind (wpAny_mkInt (wpAny_pure ⟨_,rfl,?_⟩))
 generalize s.toks+1+1=tk
 show wpAny _ _ (asInt? (Value.int (items.size:Int) tk) >>= _) _ _ _
 refine wpAny_bind ?_
 refine wpAny_pure (a:=some (items.size:Int)) ?_
 have hfi:Builtin.List.listFitsIndex (items.size:Int)=true:=by unfold Builtin.List.listFitsIndex;rw [decide_eq_true (by omega),decide_eq_true (by omega)];rfl
 show wpAny _ _ (if (!Builtin.List.listFitsIndex (items.size:Int))=true then _ else _) _ _ _
 rw [if_neg (by rw [hfi];decide)]
 show wpAny _ _ (if (items.size:Int)<0 then _ else _) _ _ _
 rw [if_neg (by omega)]
 have htl:Builtin.List.listTooLong ((items.size:Int).toNat)=false:=by unfold Builtin.List.listTooLong;rw [Int.toNat_natCast];exact decide_eq_false (by omega)
 show wpAny _ _ (if Builtin.List.listTooLong ((items.size:Int).toNat)=true then _ else _) _ _ _
 rw [if_neg (by rw [htl];decide)]
 exact wpAny_pure (h _)
theorem _root_.PySem.Walks.Ng (hh:A.handled=none) (I t:Addr) (hne:t≠I) (items:Array Value) (hfit:(items.size:Int)<2 ^ 62) :
  Walks prog w A I [I,t] [I] items.size (fun i v=>items[items.size - 1 - i]?=some v) (fun i h=>i≤items.size∧gy h I t ((items.size:Int) - 1 - (i:Int))∧IsTup h t items) where
 sub:=fun b hb=>by simp at hb;simp [hb]
 frame:=fun _ _ _ x hk=>⟨x.1,x.2.1.at fun o e=>hk I (by simp) o e,nM x.2.2 fun o e=>hk t (by simp) o e⟩
 item:=fun i s Q E hi x hQ=>by
  have e:(items.size:Int) - 1 - (i:Int)=((items.size - 1 - i:Nat):Int):=by omega
  have hit:=x.2.1
  rw [e] at hit
  have hx:items[items.size - 1 - i]?=some (items[items.size - 1 - i]'(by omega)):=Array.getElem?_eq_getElem (by omega)
  refine next_item hit x.2.2 hx hfit fun h' tk Nh hs'=>?_
  have e2:((items.size - 1 - i:Nat):Int) - 1=(items.size:Int) - 1 - ((i+1:Nat):Int):=by omega
  rw [e2] at Nh
  exact hQ _ h' tk hx ⟨hi,Nh,nM x.2.2 fun o eo=>(hs'.2 t hne).trans eo⟩ fun b o hb eo=>hs'.extBut b o (fun h=>hb (by simp [h])) eo
 done:=fun s Q E x hQ=>by
  have e:(items.size:Int) - 1 - (items.size:Int) = -1:=by omega
  have hit:=x.2.1
  rw [e] at hit
  exact next_end hh hit fun h' he'=>hQ h' s.toks fun b o hb eo=>he' b o (fun h=>hb (by simp [h])) eo
 self:=fun _ _ _ _ x hQ=>uF x.2.1 hQ
theorem yY {R:Result→Shared→Prop}{I t:Addr}{items:Array Value}(hh:A.handled=none) (hit:gy s.heap I t ((items.size:Int) - 1)) (ht:IsTup s.heap t items) (hne:t≠I) (hlen:items.size≤sizeLine)
  (S:Addr) (hSI:S≠I) (hSt:S≠t) (res:Value) (c₀:Nat) (hS:s.heap.get? S=some { cls:=.type "list",data:=.seq #[] c₀ })
  (hR:∀ h' tk acc' c',(∀ b o,b≠S→b≠I→s.heap.get? b=some o→h'.get? b=some o)→h'.get? S=some { cls:=.type "list",dict:=none,data:=.seq acc' c',slots:=#[]}→
   ItemsOf (fun i v=>items[items.size - 1 - i]?=some v) acc' items.size→R (.ok (.ret res)) { s with heap:=h',toks:=tk }) :
  wpAny (model prog w) A.in1 (Builtin.List.listExtendWith (.ref S) (.ref I) res)
   (fun fin s'=>match fin with | .done f=>R (.ok f) s' | .again c'=>c'.quiet=true∧codeAny (model prog w) A c' R s') (fun e s'=>R (.error e) s') s:=by
 have hf:(items.size:Int)<2 ^ 62:=by rw [sizeLine_eq] at hlen;omega
 have hSf:S∉[I,t]:=fun hm=>by rcases List.mem_cons.mp hm with e | e;exact hSI e;exact hSt (List.mem_singleton.mp e)
 have W:=(Walks.Ng (prog:=prog) (w:=w) (A:=A.in1) hh I t hne items hf).toS
 have key:∀ (h:Heap) (c₁ tk:Nat),gy h I t ((items.size:Int) - 1 - ((0:Nat):Int))→IsTup h t items→(∀ b o,b≠S→s.heap.get? b=some o→h.get? b=some o)→
   h.get? S=some { cls:=.type "list",data:=.seq #[] c₁ }→codeAny (model prog w) A (.builtin "list.extend.loop" ⟨[.ref S,.ref I,res],[]⟩) R { s with heap:=h,toks:=tk }:=by
  intro h c₁ tk hit ht hk SX
  refine codeAny_extend_loopS W hlen S hSf res items.size 0 _ #[] c₁ rfl (Nat.zero_le _) ⟨Nat.zero_le _,hit,ht⟩ SX (ItemsOf.nil _) fun s' acc' c' hm hS' hacc=>?_
  rw [Moved.eq_with hm]
  refine hR s'.heap s'.toks acc' c' (fun b o hb hb2 e=>hm.heap b o (fun hmem=>?_) (hk b o hb e)) hS' hacc
  rcases List.mem_cons.mp hmem with e' | hmem
  ·exact hb e'
  ·exact hb2 (List.mem_singleton.mp hmem)
 unfold Builtin.List.listExtendWith
 refine wpAny_bind (wpAny_typeOf (T:="reversed") hit.typeIs ?_)
 have h1:Builtin.List.listSameRef (.ref S) (.ref I)=false:=by simp [Builtin.List.listSameRef,hSI]
 have h2:(Value.type "reversed" ==Value.type "list")=false:=by decide
 have h3:(Value.type "reversed" ==Value.type "tuple")=false:=by decide
 simp only [h1,h2,h3,Bool.or_false,Bool.false_eq_true,if_false]
 refine wpAny_bind (uF hit ?_)
 refine wpAny_bind (wpAny_holding (Dq hit ht hlen fun tk=>?_))
 have Ni:gy s.heap I t ((items.size:Int) - 1 - ((0:Nat):Int)):=by simpa using hit
 refine wpAny_ite_split (fun _=>?_) (fun _=>wpAny_pure ⟨plainId_quiet F.plain_extend_loop _,key _ c₀ _ Ni ht (fun b o _ e=>e) hS⟩)
 refine wpAny_bind (wpAny_rule ?_)
 refine wpAny_bind ?_
 show wpAny _ _ (updateSeq S (·.push .none) >>= fun _=>updateSeq S (·.pop)) _ _ _
 refine wpAny_bind (wpAny_updateSeq hS rfl ?_)
 have sY:=Heap.get?_update_self (Obj.mapSeq (·.push Value.none)) hS rfl
 refine wpAny_updateSeq (hz:=by seq_fits) sY rfl ?_
 have SY:=Heap.get?_update_self (Obj.mapSeq (·.pop)) sY rfl
 have ot:∀ b o,b≠S→s.heap.get? b=some o→((s.heap.update S (Obj.mapSeq (·.push Value.none))).update S (Obj.mapSeq (·.pop))).get? b=some o:=fun b o hb e=>(Heap.get?_update_other _ _ (Ne.symm hb)).trans ((Heap.get?_update_other _ _ (Ne.symm hb)).trans e)
 exact wpAny_pure ⟨plainId_quiet F.plain_extend_loop _,key _ _ _ (Ni.at fun o e=>ot _ _ (Ne.symm hSI) e) (nM ht fun o e=>ot _ _ (Ne.symm hSt) e) ot SY⟩
theorem Dr {R:Result→Shared→Prop}{I t:Addr}{items:Array Value}(hh:A.handled=none) (hit:gy s.heap I t ((items.size:Int) - 1)) (ht:IsTup s.heap t items) (hne:t≠I) (hlen:items.size≤sizeLine)
  (S:Addr) (hSI:S≠I) (hSt:S≠t) (hS:s.heap.get? S=some { cls:=.type "list",data:=.seq #[]})
  (hR:∀ h' tk acc' c',(∀ b o,b≠S→b≠I→s.heap.get? b=some o→h'.get? b=some o)→h'.get? S=some { cls:=.type "list",dict:=none,data:=.seq acc' c',slots:=#[]}→
   ItemsOf (fun i v=>items[items.size - 1 - i]?=some v) acc' items.size→R (.ok (.ret .none)) { s with heap:=h',toks:=tk }) :
  wpAny (model prog w) A.in1 (Builtin.«list.__init__» ⟨[.ref S,.ref I],[]⟩)
   (fun fin s'=>match fin with | .done f=>R (.ok f) s' | .again c'=>c'.quiet=true∧codeAny (model prog w) A c' R s') (fun e s'=>R (.error e) s') s:=by
 show wpAny _ _ (do let old ←Builtin.List.listItems (.ref S);Builtin.List.listUpdate (.ref S) (fun _=>#[]);letGo old.toList.reverse;Builtin.List.listExtendWith (.ref S) (.ref I) .none) _ _ s
 refine wpAny_bind ?_
 unfold Builtin.List.listItems
 refine wpAny_bind (wpAny_seqItems hS rfl (wpAny_pure ?_))
 show wpAny _ _ (updateSeq S (fun _=>#[]) >>= fun _=>letGo (#[]:Array Value).toList.reverse >>= fun _=>Builtin.List.listExtendWith (.ref S) (.ref I) .none) _ _ s
 refine wpAny_bind (wpAny_updateSeq hS rfl ?_)
 have sY:=Heap.get?_update_self (Obj.mapSeq (fun _=>(#[]:Array Value))) hS rfl
 have Nj:∀ b o,b≠S→s.heap.get? b=some o→(s.heap.update S (Obj.mapSeq (fun _=>(#[]:Array Value)))).get? b=some o:=
  fun b o hb e=>(Heap.get?_update_other _ _ (Ne.symm hb)).trans e
 refine wpAny_bind (wpAny_letGo ?_)
 refine yY hh (hit.at fun o e=>Nj _ _ (Ne.symm hSI) e) (nM ht fun o e=>Nj _ _ (Ne.symm hSt) e) hne hlen S hSI hSt .none _ sY fun h' tk acc' c' hk hS' hacc=>?_
 exact hR h' tk acc' c' (fun b o hb hb2 e=>hk b o hb hb2 (Nj b o hb e)) hS' hacc
theorem sO {Q:Value→Shared→Prop}{I t:Addr}{items:Array Value}(hh:A.handled=none) (hit:gy s.heap I t ((items.size:Int) - 1)) (ht:IsTup s.heap t items) (hne:t≠I) (hlen:items.size≤sizeLine)
  (hQ:∀ h' tk acc' c',(∀ b o,b≠I→s.heap.get? b=some o→h'.get? b=some o)→
   h'.get? s.heap.objs.size=some { cls:=.type "list",dict:=none,data:=.seq acc' c',slots:=#[]}→ItemsOf (fun i v=>items[items.size - 1 - i]?=some v) acc' items.size→Q (.ref s.heap.objs.size) { s with heap:=h',toks:=tk }) :
  wpAny (model prog w) A (call (.type "list") [.ref I]) Q E s:=by
 refine callType_codes (Q₁:=fun obj s₁=>obj=.ref s.heap.objs.size∧s₁={ s with heap:=s.heap.push { cls:=.type "list",data:=.seq #[]}}) F.called_list (F.typeCall_list_1 _) F.entry_list_init
  (code_list_new _ ⟨rfl,rfl⟩) fun obj s₁ h₁=>?_
 obtain ⟨rfl,rfl⟩:=h₁
 have hS:(s.heap.push { cls:=.type "list",data:=.seq #[]}).get? s.heap.objs.size=some { cls:=.type "list",data:=.seq #[]}:=Heap.get?_push_size _ rfl
 have hI:I<s.heap.objs.size:=by obtain ⟨o,ho,_⟩:=hit;exact Heap.lt_size ho
 have hT:t<s.heap.objs.size:=by obtain ⟨o,ho,_⟩:=ht;exact Heap.lt_size ho
 refine ⟨⟨_,hS,rfl⟩,F.args_list_init_2 _ _,Dr (A:=A.in1) hh (hit.at fun o e=>Heap.get?_push_of_some _ e) (nM ht fun o e=>Heap.get?_push_of_some _ e) hne hlen _ (Nat.ne_of_gt hI) (Nat.ne_of_gt hT) hS fun h' tk acc' c' hk hS' hacc=>?_⟩
 exact ⟨rfl,hQ h' tk acc' c' (fun b o hb e=>hk b o (Nat.ne_of_lt (Heap.lt_size e)) hb (Heap.get?_push_of_some _ e)) hS' hacc⟩
end
end Rv
namespace Sm
open PySem PySem.Spec PyProof.Rows L2 PySem.SeqAt
open Ev (D O Hh Fr R aT E Es Eo T S Ss Fl Src bU bN TY BI ME)
section
variable {X:Cx}{G:Tb}{n:Nat}{sc:Scope}{N:List Str}{df:Bool}{m:List Nat}{a b c:E}{xa xb xc tg:Expr}{pos:Pos}
theorem Ds {vs:List V}{us:List Value}(r:Vals vs us) {acc:Array Value}(h:ItemsOf (fun i v=>us.toArray[us.toArray.size - 1 - i]?=some v) acc us.toArray.size):Vals vs.reverse acc.toList:=by
 obtain ⟨h1,h2⟩:=h
 have e:acc.toList=us.reverse:=by
  apply List.ext_getElem?
  intro i
  by_cases hi:i<us.length
  ·have ha:i<acc.size:=by rw [h1];simpa using hi
   have:=h2 i _ (Array.getElem?_eq_getElem ha)
   rw [List.getElem?_reverse hi]
   simp only [List.size_toArray,List.getElem?_toArray] at this
   rw [this]
   simp [ha]
  ·have hs:acc.size=us.length:=by rw [h1];simp
   rw [List.getElem?_eq_none (by rw [Array.length_toList];omega),List.getElem?_eq_none (by rw [List.length_reverse];omega)]
 rw [e];exact Vals.reverse r
theorem JX {p p2 pos2:Pos}(ha:JE G n sc N df m a xa) (h1:("list" : Str)∈G.bl:=by decide +kernel) (Nb:sc.names.lookup ("list" : Str)=some .globalImplicit:=by rfl)
  (hg:sc.names.lookup ("reversed" : Str)=some .globalImplicit:=by rfl) (hb:("reversed" : Str)∈G.bl:=by decide +kernel)
  (hst:∀ env:Env,starEach [xa] env=[(false,eval xa env)]:=by intro _;rfl)
  (Nk:∀ env:Env,starEach [Expr.Call (.Name "reversed" p2) [xa] [] pos2] env=[(false,eval (Expr.Call (.Name "reversed" p2) [xa] [] pos2) env)]:=by intro _;rfl) :
  JE G n sc N df m (.gQ (.rev a)) (.Call (.Name "list" p) [.Call (.Name "reversed" p2) [xa] [] pos2] [] pos):=fun X g=>by
 intro pins s σ H Q I q
 obtain ⟨r,fr,h,d,h',sr,hr,e,q⟩:=q
 rw [Ev.ev,Ev.cL] at e
 replace e:=Ev.ai e;obtain ⟨src,h3,e1,e⟩:=e
 replace e1:=Ev.ai e1;obtain ⟨x,h4,e2,e1⟩:=e1
 replace e1:=Ev.aQ e1;obtain ⟨e1,y0⟩:=e1;subst y0
 refine wpAny_Call_Name_kw (jy I (g.gl Nb) (g.bl _ h1) (show bootBuiltins ("list" : Str)=some (.type "list") by decide +kernel) ?_ (by decide) (by decide))
 refine PyProof.Rows.callWith_type1 ?_ (Nk _) rfl
 rw [Nk]
 show wpAny _ _ (spliced ((false,eval (Expr.Call (.Name "reversed" p2) [xa] [] pos2) X.env) :: backTo pos [])) _ _ s
 refine Calls.spliced_cons ?_
 have Nl:PA X [xa] _:=nG (ha X g) pI (by rw [hst];rfl)
 refine Call_ (jy I (g.gl hg) (g.bl _ hb) (show bootBuiltins ("reversed" : Str)=some (.type "reversed") by decide +kernel) (PyProof.Rows.callWith_type1 (bE (Nl pos2 pins s σ H (fun vs H1=>∃ r1 u,vs=[u]∧RV X.K H1 r1 x u∧HR X.K H1 r1 h3∧Fm X.K r r1 H H1) I ⟨r,fr,h,x,h3,sr,hr,e2,fun u H1 r1 v1 hr1 f1=>⟨r1,u,rfl,v1,hr1,f1⟩⟩) fun us s1 z=>?_) (hst _) rfl))
 obtain ⟨vs,H1,I1,rv,r1,u,rfl,v1,hr1,f1⟩:=z
 cases x <;> simp only [Ev.C6,Option.map,reduceCtorEq] at e1
 rename_i ds
 cases e1
 obtain ⟨t,ws,rfl,z,w⟩:=v1.shape
 cases rv with
 | cons ra rb=>
 cases rb
 cases ra
 obtain ⟨its,pv,pt,hz⟩:=I1.tuple z
 have hlen:its.toArray.size≤sizeLine:=by rw [List.size_toArray,←pv.length];exact hz
 have hf:(its.toArray.size:Int)<2 ^ 63:=by rw [sizeLine_eq] at hlen;omega
 refine Rv.Dp pt hf ?_
 refine Calls.spliced_nil ?_
 have I2:Inv X pins σ H1 { s1 with heap:=s1.heap.push (Rv.nL t ((its.toArray.size:Int) - 1)),toks:=s1.toks+1+1 }:=I1.kept fun b o e=>Heap.get?_push_of_some _ e
 have hne:t≠s1.heap.objs.size:=by obtain ⟨o,ho,_⟩:=pt;exact Nat.ne_of_lt (Heap.lt_size ho)
 refine Rv.sO (I1.ok.hd g.calm) ⟨_,Heap.get?_push_size _ rfl,rfl,rfl⟩ (Rv.nM pt fun o e=>Heap.get?_push_of_some _ e) hne hlen fun h' tk acc' c' hk hS' hacc=>?_
 obtain ⟨hz2,q2⟩:=(q.later f1).lst e w.reverse hr1
 have hp:s1.heap.objs.size≤(s1.heap.push (Rv.nL t ((its.toArray.size:Int) - 1))).objs.size:=by rw [size_push'];exact Nat.le_succ _
 refine ⟨.ref _,_,I1.laid (t':=tk) (o:=.lst ws.reverse) (fun b u e=>hk b u (Nat.ne_of_lt (Heap.lt_size e)) (Heap.get?_push_of_some _ e)) hp ?_,rfl,q2 _ (I1.hok.fresh hp)⟩
 exact ⟨by simpa using hz,acc'.toList,c',Ds pv hacc,by simpa using hS'⟩
end
end Sm
set_option maxRecDepth 100000
set_option maxRecDepth 100000
namespace Sm
open PySem PySem.Spec PyProof.Rows L2 PySem.SeqAt
open Ev (D O Hh Fr R aT E Es Eo T S Ss Fl Src bU bN TY BI ME)
theorem insI_perm (x:Int):∀ l,(Ev.insI x l).Perm (x :: l)
 | []=>.refl _
 | y :: l=>by
  unfold Ev.insI
  split
  ·exact .refl _
  ·exact ((insI_perm x l).cons y).trans (.swap x y l)
theorem sortI_perm:∀ l,(Ev.sortI l).Perm l
 | []=>.refl _
 | x :: l=>(insI_perm x _).trans ((sortI_perm l).cons x)
theorem oK (x:Int):∀ {l},l.Pairwise (·≤·)→(Ev.insI x l).Pairwise (·≤·)
 | [],_=>List.pairwise_singleton _ _
 | y :: l,h=>by
  unfold Ev.insI
  obtain ⟨h1,h2⟩:=List.pairwise_cons.mp h
  split
  ·rename_i hx
   exact List.pairwise_cons.mpr ⟨fun z hz=>by
    rcases List.mem_cons.mp hz with rfl | hz
    ·exact hx
    ·exact Int.le_trans hx (h1 z hz),h⟩
  ·rename_i hx
   refine List.pairwise_cons.mpr ⟨fun z hz=>?_,oK x h2⟩
   rcases List.mem_cons.mp ((insI_perm x l).mem_iff.mp hz) with rfl | hz
   ·omega
   ·exact h1 z hz
theorem mQ:∀ l,(Ev.sortI l).Pairwise (·≤·)
 | []=>.nil
 | x :: l=>oK x (mQ l)
theorem yZ {l m:List Int}(h:m.Perm l) (s:m.Pairwise (·≤·)):m=Ev.sortI l:=
 (h.trans (sortI_perm l).symm).eq_of_pairwise (fun a b _ _ h1 h2=>Int.le_antisymm h1 h2) s (mQ l)
theorem xE:∀ {us:List Value}{is:List Int},IntsAre us is→Vals (is.map V.int) us
 | _,_,.nil=>.nil
 | _,_,.cons _ _ h=>.cons ⟨_,rfl⟩ (xE h)
theorem aK.Nn {K:PySem.W.Frag}{H:Hp}{r:List Addr}:∀ {ss:List Int},aK K H r (ss.map D.int) (ss.map V.int)
 | []=>.nil
 | l :: ss=>.cons rfl aK.Nn
end Sm
set_option maxRecDepth 100000
namespace Sm
open PySem PySem.Spec PyProof.Rows L2 PySem.SeqAt
open Ev (D O Hh Fr R aT E Es Eo T S Ss Fl Src bU bN TY BI ME)
theorem uG {kvs:List (Key×Value)}{ns:List Int}(hk:kvs.map (·.1)=ns.map Sum.inl) {P:Program}{w:World}:∀ {vs:List Value},vs.length=kvs.length→(∀ (j:Nat) v,vs[j]?=some v→∃ k x,kvs[j]?=some (k,x)∧(cI P w).is k v=true)→IntsAre vs ns:=by
 induction kvs generalizing ns with
 | nil=>
  intro vs hl _
  have:ns=[]:=by cases ns with | nil=>rfl | cons n ns=>simp at hk
  subst this
  rw [List.eq_nil_of_length_eq_zero hl];exact .nil
 | cons p kvs ih=>
  intro vs hl hv
  cases ns with
  | nil=>simp at hk
  | cons n ns=>
   simp only [List.map_cons,List.cons.injEq] at hk
   cases vs with
   | nil=>simp at hl
   | cons v vs=>
    obtain ⟨k,x,e1,e2⟩:=hv 0 v rfl
    simp at e1
    subst e1
    have hkn:k=Sum.inl n:=hk.1
    subst hkn
    have e3:Value.isInt n v=true:=e2
    obtain ⟨t,rfl⟩:∃ t,v=.int n t:=by
     cases v <;> simp [Value.isInt] at e3
     exact ⟨_,by rw [e3]⟩
    refine .cons n t (ih hk.2 (by simpa using hl) fun j u hu=>?_)
    obtain ⟨k',x',e4,e5⟩:=hv (j+1) u (by simpa using hu)
    exact ⟨k',x',by simpa using e4,e5⟩
theorem wu {prog:Program}{w:World}{A:Around}{E:Value→Shared→Prop}{s:Shared}{d:Addr}{kvs:List (Key×Value)}{ns:List Int}{Q:Value→Shared→Prop}(hd:s.heap.DictOf (cI prog w) d kvs) (lo:(d==sysModules)=false) (hh:A.handled=none) (hk:kvs.map (·.1)=ns.map Sum.inl) (h64:kvs.length<64)
  (h:∀ (h1 h2:Heap) (tk:Nat) (out:Array Value) (ns':List Int) (e:Nat),(∀ b o,s.heap.get? b=some o→h1.get? b=some o)→(∀ b o,h1.get? b=some o→h2.get? b=some o)→h2.get? h1.objs.size=some (seqObj "list" out e)→IntsAre out.toList ns'→ns'.Perm ns→ns'.Pairwise (·≤·)→Q (.ref h1.objs.size) { s with heap:=h2,toks:=tk }) :
  wpAny (model prog w) A (call (.builtin "sorted") [.ref d]) Q E s:=by
 obtain ⟨ep,hat⟩:=hd.dictAt
 have hsz:kvs.length≤sizeLine:=Nat.le_trans (Nat.le_of_lt h64) (by decide)
 refine Calls.call_function_entry kind_sorted plain_sorted entry_sorted (args_sorted1 _) ?_
 unfold Builtin.«sorted»
 refine wpAny_bind (m:=checkCount "sorted" 1 1 _) (wpAny_pure ?_)
 refine wpAny_bind (PySem.W.kdu_collect (A:=A.in1) (PySem.W.kdl_dict (knd:=cI prog w) (kvs:=kvs) (ep:=ep) lo) hh hat hsz fun h' tk acc hk' hacc=>?_)
 have hl:acc.toList.length=kvs.length:=by rw [Array.length_toList];exact hacc.1
 refine wpAny_bind (wpAny_newList ?_ (by rw [hl];exact hsz))
 have hI:IntsAre acc.toList ns:=uG hk hl fun j v e=>hacc.2 j v (by rw [←Array.getElem?_toList];exact e)
 have Ag:(h'.push (seqObj "list" acc.toList.toArray 0)).get? h'.objs.size=some (seqObj "list" acc.toList.toArray 0):=Heap.get?_push_size _ rfl
 refine wpAny_bind (wpAny_holding (wpAny_call_entry slot_list_sort ⟨_,Ag,rfl⟩ entry_list_sort (list_sort_tree Ag hI (by rw [hl];exact h64) fun out ns' a1 a2 a3=>⟨_,rfl,?_⟩) (args_list_sort _)))
 obtain ⟨e,he⟩:=sortedHeap_at (out:=out) Ag
 exact wpAny_pure ⟨_,rfl,h h' _ tk out ns' e hk' (fun b o e2=>by
  have lt:=Heap.lt_size e2
  rw [sortedHeap_old (Nat.ne_of_lt lt) (by rw [size_push'];exact Nat.lt_succ_of_lt lt),Heap.get?_push_ne _ _ _ (Nat.ne_of_lt lt)];exact e2) he a1 a2 a3⟩
theorem xF:∀ {kvs:List (Int×List Nat)}{vs:List (Key×Value)},KV (fZ kvs) vs→vs.map (·.1)=(kvs.map (·.1)).map Sum.inl∧vs.length=kvs.length
 | [],vs,h=>by cases h;exact ⟨rfl,rfl⟩
 | p :: kvs,vs,h=>by
  cases h with
  | cons h1 h2=>
   obtain ⟨e1,e2⟩:=xF h2
   exact ⟨by simp only [List.map_cons,e1,←h1.1],by simp [e2]⟩
theorem Dt {X:Cx}(hc:X.calm=true):gK X (.builtin "sorted") (uq X.K (Ev.cX .jV)):=by
 intro pins s σ H xs us Q I r q
 obtain ⟨rr,h,as,d,h',hr,v1,e,q⟩:=q
 match as,e with
 | [x],e=>
  delta Ev.cX at e;dsimp only at e
  cases hx:Ev.gf h x with
  | none=>rw [hx] at e;cases e
  | some kvs=>
   rw [hx] at e
   dsimp only at e
   by_cases h64:kvs.length<64
   ·rw [if_pos h64] at e
    obtain ⟨n,rfl,z⟩:=kZ hx
    obtain ⟨p,z1,z2,z3⟩:=hr.dct z
    simp only [aK,RV] at v1
    obtain ⟨v,w,rfl,⟨p',rfl,z4⟩,rfl⟩:=v1
    rw [z1] at z4;cases z4
    obtain ⟨u,rfl,ru⟩:=vals1 r
    cases ru
    obtain ⟨_,lo,vs,kv,hd⟩:=FT I.hok z2
    obtain ⟨k1,k2⟩:=xF kv
    refine wu hd lo (I.ok.hd hc) k1 (by rw [k2];exact h64) fun h1 h2 tk out ns' e2 c1 c2 c3 a1 a2 a3=>?_
    have hq:=yZ a2 a3
    subst hq
    obtain ⟨hz2,q2⟩:=q.lst e aK.Nn hr
    have I1:Inv X pins σ H { s with heap:=h1,toks:=tk }:=I.kept c1
    refine ⟨.ref h1.objs.size,_,I1.laid (t':=tk) (o:=.lst ((Ev.sortI (kvs.map (·.1))).map V.int)) c2 (Nat.le_refl _) ?_,rfl,q2 _ (I1.hok.fresh (Nat.le_refl _))⟩
    exact ⟨hz2,out.toList,e2,xE a1,by simpa [seqObj] using c3⟩
   ·rw [if_neg h64] at e;cases e
end Sm
set_option maxRecDepth 100000
namespace Sm
open PySem PySem.Spec PyProof.Rows L2 PySem.SeqAt
open Ev (D O Hh Fr R aT E Es Eo T S Ss Fl Src bU bN TY BI ME)
noncomputable def Vr (K:PySem.W.Frag) (a:Addr):L2.It:=
  ⟨fun i H=>∃ xs x,eO K H a xs∧xs[i]?=some x,
   fun i H x H'=>∃ p u,H p=none∧x=.ref p∧H'=upd H p (.tup [.int i,u])∧∀ xs,eO K H a xs→xs[i]?=some u,
   fun i H=>∃ xs,eO K H a xs∧xs.length≤i⟩
theorem Bd {P:Program}{w:World}{K:PySem.W.Frag}{elts:List Expr}{x1}{pos:Pos}{l e it:Addr}(hne:e≠it) :
  Turn P w K (.Tuple elts x1 pos) (Vr K l) [e,it] e (fun i h=>(∃ old,IsEnum h e it i old)∧h.IsListIter it l i) where
 mem:=by simp
 obj:=fun i h st b hb=>by
  obtain ⟨⟨old,s1⟩,s2⟩:=st
  simp only [List.mem_cons,List.mem_nil_iff,or_false] at hb
  rcases hb with rfl | rfl
  ·exact ⟨_,s1,fun v z=>by have z':Data.fields _=Data.cell v:=z;cases z'⟩
  ·obtain ⟨o,e,c,d⟩:=s2;exact ⟨o,e,fun v z=>by rw [d] at z;cases z⟩
 keep:=fun i h h' st k=>by
  obtain ⟨⟨old,s1⟩,s2⟩:=st
  exact ⟨⟨old,k e (by simp) _ s1⟩,s2.at fun o e=>k it (by simp) o e⟩
 item:=by
  intro X hP hw hK hc i pins s σ H E I hf st hg
  subst hP hw hK
  obtain ⟨⟨old,s1⟩,s2⟩:=st
  obtain ⟨xs,x,hx,ex⟩:=hg
  obtain ⟨xt,rx,px,_⟩:=I.list hx
  obtain ⟨u,hu,ru⟩:=rx.get ex
  refine wpAny_pyNext_enum_item s1 s2 px.isList (x:=u) (by simpa using hu) hne fun h' a1 a2 a3 a4 hk=>?_
  refine ⟨_,rfl,wpAny_letOwnedTupleGo_enum (s:={ s with heap:=h',toks:=s.toks+1 }) a1 fun h'' b1 b2=>?_⟩
  have lt:∀ {c o},s.heap.get? c=some o→c≠s.heap.objs.size:=fun e=>Nat.ne_of_lt (Heap.lt_size e)
  have hT:H s.heap.objs.size=none:=I.hok.fresh (Nat.le_refl _)
  have I0:Inv X pins σ (upd H s.heap.objs.size (.tup [.int i,x])) { s with heap:=s.heap.push { cls:=.type "tuple",data:=.seq #[.int i s.toks,u]},toks:=s.toks+1 }:=
   I.laid (fun b o e=>Heap.get?_push_of_some _ e) (Nat.le_refl _) ⟨by show 2≤sizeLine;decide,[.int i s.toks,u],.cons ⟨_,rfl⟩ (.cons ru .nil),⟨_,Heap.get?_push_size _ rfl,rfl,_,rfl⟩⟩
  have ne:∀ b∈[e,it],b≠s.heap.objs.size:=fun b hb=>by
   simp only [List.mem_cons,List.mem_nil_iff,or_false] at hb
   rcases hb with rfl | rfl
   ·exact lt s1
   ·obtain ⟨o,e,_⟩:=s2;exact lt e
  have fp:∀ b∈[e,it],gx X pins (upd H s.heap.objs.size (.tup [.int i,x])) b:=fun b hb=>⟨by rw [aV (ne b hb)];exact (hf b hb).1,(hf b hb).2⟩
  have I1:Inv X pins σ (upd H s.heap.objs.size (.tup [.int i,x])) { s with heap:=h'',toks:=s.toks+1 }:=by
   refine xD (s:={ s with heap:=s.heap.push { cls:=.type "tuple",data:=.seq #[.int i s.toks,u]},toks:=s.toks+1 }) (ch:=[e,it]) I0 (fun b o hb e=>?_) fp
   simp only [List.mem_cons,List.mem_nil_iff,or_false,not_or] at hb
   refine b2.extBut _ _ hb.1 ?_
   by_cases hT:b=s.heap.objs.size
   ·subst hT
    have e':(s.heap.push { cls:=.type "tuple",data:=.seq #[.int i s.toks,u]}).get? s.heap.objs.size=some o:=e
    rw [Heap.get?_push_size _ rfl] at e'
    cases e'
    exact a3
   ·refine hk b o hb.1 hb.2 ?_
    have e':(s.heap.push { cls:=.type "tuple",data:=.seq #[.int i s.toks,u]}).get? b=some o:=e
    rw [Heap.get?_push_ne _ _ _ hT] at e';exact e'
  refine ⟨.ref s.heap.objs.size,_,I1,rfl,⟨s.heap.objs.size,x,hT,rfl,rfl,fun xs' h=>by rw [I.tZ h hx];exact ex⟩,?_,fun b hb=>(fp b hb).1⟩
  exact ⟨⟨_,by simpa using b1⟩,a2.extBut b2.extBut (Ne.symm hne)⟩
 done:=by
  intro X hP hw hK hc i pins s σ H E I hf st hg
  subst hP hw hK
  obtain ⟨⟨old,s1⟩,s2⟩:=st
  obtain ⟨xs,hx,hl⟩:=hg
  obtain ⟨xt,rx,px,_⟩:=I.list hx
  have hl1:=rx.length
  refine wpAny_pyNext_enum_end (I.ok.hd hc) s1 s2 px.isList (by simp;omega) fun h' hk=>⟨rfl,?_⟩
  refine xD (ch:=[e,it]) (t':=s.toks) I (fun b o hb e=>?_) hf
  simp only [List.mem_cons,List.mem_nil_iff,or_false,not_or] at hb
  exact hk b o hb.2 e
 self:=fun _ _ _ _ _ st h=>by obtain ⟨⟨old,s1⟩,s2⟩:=st;exact wpAny_pyIter_enum s1 h
theorem uH:∀ {ds:List D}{k:Int}{i:Nat}{d:D},(Ev.cJ k ds)[i]?=some d→∃ x,ds[i]?=some x∧d=.tup [.int (k+i),x]
 | [],_,_,_,e=>by simp [Ev.cJ] at e
 | x :: ds,k,0,d,e=>by simp [Ev.cJ] at e;exact ⟨x,by simp,by simp [e]⟩
 | x :: ds,k,i+1,d,e=>by
  simp only [Ev.cJ,List.getElem?_cons_succ] at e
  obtain ⟨y,h1,h2⟩:=uH e
  refine ⟨y,by simpa using h1,?_⟩
  rw [h2]
  have:k+1+(i:Int)=k+((i+1:Nat):Int):=by omega
  rw [this]
theorem uI:∀ (ds:List D) (k:Int),(Ev.cJ k ds).length=ds.length
 | [],_=>rfl
 | _ :: ds,k=>by simp [Ev.cJ,uI ds]
theorem JY {K:PySem.W.Frag}{r:List Addr}{H:Hp}{h:Hh}{n1:Nat}{a1:Addr}{ds:List D}(z1:r[n1]?=some a1):oZ K r H (Ev.cJ 0 ds,[(n1,ds)]) (Vr K a1):=fun i H1 r1 h1 hr1 f1 st=>by
 obtain ⟨b1,vs,e1,e2,e3⟩:=hr1.read (rS st)
 rw [f1.pre _ _ z1] at e1;cases e1
 refine ⟨fun d e=>?_,fun hl=>?_⟩
 ·obtain ⟨x,k1,rfl⟩:=uH e
  obtain ⟨u,p1,p2⟩:=e3.get k1
  refine ⟨⟨vs,u,e2,p1⟩,fun X H2 y=>?_⟩
  obtain ⟨p,u',hp,rfl,rfl,hu⟩:=y
  have Vs:=hu vs e2
  rw [p1] at Vs;cases Vs
  exact ⟨r1,⟨p,[.int i,u],rfl,.of eX,.cons (by simp [RV]) (.cons (p2.mono (.tup hp)) .nil)⟩,hr1.tup hp,.tup hp⟩
 ·refine ⟨vs,e2,?_⟩
  have:=e3.length
  have hl':(Ev.cJ 0 ds).length≤i:=hl
  rw [uI] at hl'
  omega
section
variable {G:Tb}{n:Nat}{sc:Scope}{N:List Str}{df:Bool}{m:List Nat}{a b c:E}{xa xb xc:Expr}{pos:Pos}
theorem JZ {elts:List Expr}{x1}{tpos p:Pos}(ha:JE G n sc N df m a xa) (hg:sc.names.lookup ("enumerate" : Str)=some .globalImplicit:=by rfl) (Vt:("enumerate" : Str)∈G.bl:=by decide +kernel)
  (hst:∀ env:Env,starEach [xa] env=[(false,eval xa env)]:=by intro _;rfl) :
  JI G n sc N df m (.enum a) (.Tuple elts x1 tpos) (.Call (.Name "enumerate" p) [xa] [] pos):=fun X g=>by
 intro pins s σ H Rr I q
 obtain ⟨r,fr,h,src,h',sr,hr,e,q⟩:=q
 rw [Ev.cL] at e
 replace e:=Ev.ai e;obtain ⟨x,h1,e1,e⟩:=e
 replace e:=Ev.aQ e;obtain ⟨e,y0⟩:=e;subst y0
 have Nl:PA X [xa] _:=nG (ha X g) pI (by rw [hst];rfl)
 refine Call_ (jy I (g.gl hg) (g.bl _ Vt) (show bootBuiltins ("enumerate" : Str)=some (.type "enumerate") by decide +kernel) (PyProof.Rows.callWith_type1 (bE (Nl pos pins s σ H (fun vs H1=>∃ r1 u,vs=[u]∧RV X.K H1 r1 x u∧HR X.K H1 r1 h'∧Fm X.K r r1 H H1) I ⟨r,fr,h,x,h',sr,hr,e1,fun u H1 r1 v1 hr1 f1=>⟨r1,u,rfl,v1,hr1,f1⟩⟩) fun us s1 z=>?_) (hst _) rfl))
 obtain ⟨vs,H1,I1,rv,r1,u,rfl,v1,hr1,f1⟩:=z
 simp only [Option.map_eq_some_iff] at e
 obtain ⟨s1',k1,rfl⟩:=e
 cases x <;> simp only [Ev.yH,reduceCtorEq,Option.map_eq_some_iff] at k1
 rename_i n1
 obtain ⟨ds,k1,rfl⟩:=k1
 obtain ⟨a1,rfl,z1⟩:=v1.shape
 obtain ⟨b1,xs,w1,w2,w3⟩:=hr1.read k1
 rw [z1] at w1;cases w1
 cases rv with
 | cons ra rb=>
 cases rb
 cases ra
 obtain ⟨xt,_,px,_⟩:=I1.list w2
 refine call_enumerate_list px.isList fun hp c1 c2 c3 c4=>?_
 have I2:Inv X pins σ H1 { s1 with heap:=hp,toks:=s1.toks }:=I1.kept c4
 have nb:∀ b∈[s1.heap.objs.size+1,s1.heap.objs.size],s1.heap.objs.size≤b:=fun b hb=>by
  simp only [List.mem_cons,List.mem_nil_iff,or_false] at hb
  rcases hb with rfl | rfl
  ·exact Nat.le_succ _
  ·exact Nat.le_refl _
 exact wpAny_pyIter_enum c1 ⟨_,[s1.heap.objs.size+1,s1.heap.objs.size],_,_,H1,rfl,I2,Bd (Nat.succ_ne_self _),⟨⟨_,c1⟩,c2⟩,fun b hb=>I1.yp (nb b hb) (I1.hok.fresh (nb b hb)),q _ H1 r1 hr1 f1 (JY (h:=h') z1)⟩
end
end Sm
set_option maxRecDepth 100000
namespace Sm
open PySem PySem.Spec PyProof.Rows L2 PySem.SeqAt
open Ev (D O Hh Fr R aT E Es Eo T S Ss Fl Src bU bN TY BI ME)
theorem aK.ofInts {K:PySem.W.Frag}{H:Hp}{r:List Addr}:∀ ns:List Int,aK K H r (ns.map D.int) (ns.map V.int)
 | []=>.nil
 | _ :: l=>.cons rfl (aK.ofInts l)
theorem Np {K:PySem.W.Frag}{H:Hp}{a:Addr}{vs:List V}(hO:qJ H) (hS:eO K H a vs):yI K H a vs:=by
 rcases hS with h | h
 ·rcases h with h | ⟨o,h⟩
  ·rcases hO a with q | ⟨o,xs,q⟩
   ·rw [q] at h;cases h
   ·rw [q] at h;cases h
  ·exact .inl ⟨o,h⟩
 ·exact .inr h
theorem S5 {K:PySem.W.Frag}{F:List Ev.Fn}{w n f:Nat}{H:Hp}{a:Addr}{ns:List Int}(hO:qJ H) (hS:eO K H a (ns.map V.int)) {h':Hh}(e:Ev.run F w n f [.ref 0] [.bS (ns.map D.int)]=.ok (.bl true) h') :
  oB K F w n f [.ref a] H (fun v _=>v=.bl true) fun _ _ _=>False:=by
 refine ⟨[a],[.bS (ns.map D.int)],[.ref 0],.bl true,h',.cons (show RV K H [a] (.ref 0) (.ref a) from ⟨a,rfl,rfl⟩) .nil,⟨rfl,fun k o hk=>?_,fun k l b x y _ _ hk _=>?_
  ,fun k l b x y _ _ hk _=>by cases k with | zero=>simp at hk | succ k=>simp at hk
  ⟩,e,fun v H' r' v1 _ _=>v1⟩
 ·cases k with
  | zero=>
   simp at hk
   subst hk
   exact ⟨a,rfl,_,Np hO hS,aK.ofInts ns⟩
  | succ k=>simp at hk
 ·cases k with
  | zero=>simp at hk
  | succ k=>simp at hk
theorem J0 {F:List Ev.Fn}{wh n f:Nat}{l:PySem.W.OpenLaw}{q:Program}{loose:List Str}{XP:(Str→Option Value)→Heap→Prop}{YP:World→Heap→Prop}{d:DefRec}{K:Params→PySem.W.Frag}{x:Str}(hn:l.most=some 63) (hdf:d.params.defaults=[]) (hr:fX n callerA)
  (hY:∀ (w:World) (h:Heap),YP w h→(K w.params).In h) (good:∀ ns:List Int,ns.length≤63→∃ h',Ev.run F wh n f [.ref 0] [.bS (ns.map D.int)]=.ok (.bl true) h')
  (Fo:∀ (w:World) (mg:Str→Option Value) (fa:Addr) (h:Heap),(K w.params).In h→h.Ns mainGlobals mg→mg d.name=some (.ref fa)→
   ∃ fd:FuncData,(∀ (s:Shared) (u:Value),BindsTo s fd ⟨[u],[]⟩ [(x,u)])∧∀ base:Heap,(K w.params).In base→base.Ns mainGlobals mg→iC l.prog w (K w.params) mg base mG n fa fd [x] (oB (K w.params) F wh n f)) :
  PySem.W.WalkO q loose XP YP l.row.toRowW d [] (fun f vs=>PySem.call f vs):=
 L2.C0 (n:=63) (k:=n) (x:=x) (CX:=mG) (sp:=fun K=>oB K F wh n f) hn (by decide) hdf hr hY Fo (fun K H a ns hl hO hS=>by
  obtain ⟨h',e⟩:=good ns hl
  exact S5 hO hS e) fun _ _ _ _ z=>z
theorem Be {P:Program}{w:World}{K:PySem.W.Frag}{mg:Str→Option Value}{base:Heap}{G:Tb}(T:Top P w K mg G)
  (st:∀ n,sX P w K mg base G n→sX P w K mg base G (n+1)):∀ n,sX P w K mg base G n
 | 0=>fun f i _=>Jv
 | n+1=>st n (Be T st n)
structure At (K:PySem.W.Frag) (x:Str) (st:Stmt) (i:FI):Prop where
 name:i.name=x
 ns:PySem.W.nsIn K mainGlobals x=some (some (.ref i.addr))
 fu:ue K x x st i.addr i.fd
 bd:Binds K i.fd i.ps []
end Sm
set_option maxRecDepth 100000
namespace Sm
open PySem PySem.Spec PyProof.Rows L2
open Ev (D O Hh Fr R aT E Es Eo It T S Ss Fl Src bU bN TY BI ME)
section
variable {G:Tb}{n:Nat}{sc:Scope}{N:List Str}{df:Bool}{m:List Nat}{a b c:E}{xa xb xc:Expr}{pos:Pos}
noncomputable def hasB (N:List Str) (m:List Nat) (x:Str) (i:Nat):Bool:=(List.range N.length).any fun j=>m[j]?==some i&&N[j]?==some x
theorem hasB.of {x:Str}{i:Nat}(h:hasB N m x i=true):∃ j:Nat,m[j]?=some i∧N[j]?=some x:=by
 obtain ⟨j,_,q⟩:=List.any_eq_true.mp h
 rw [Bool.and_eq_true] at q
 exact ⟨j,by simpa using q.1,by simpa using q.2⟩
noncomputable def vB (sc:Scope) (N:List Str) (m:List Nat) (x:Str) (i:Nat):Bool:=hasB N m x i&&(sc.names.lookup x==some .local || sc.names.lookup x==some .cell || sc.names.lookup x==some .free)&&!(x==("__debug__" : Str))&&!(x==("__classdict__" : Str))
theorem jv {x:Str}{i:Nat}(h:vB sc N m x i=true):JE G n sc N df m (.v i) (.Name x pos):=by
 unfold vB at h
 simp only [Bool.and_eq_true,Bool.not_eq_true',Bool.or_eq_true] at h
 obtain ⟨⟨⟨h1,h2⟩,h3⟩,h4⟩:=h
 obtain ⟨j,e1,e2⟩:=hasB.of h1
 exact Yb j i e1 e2 (by rcases h2 with (h2 | h2) | h2;exact .inl (by simpa using h2);exact .inr (.inl (by simpa using h2));exact .inr (.inr (by simpa using h2))) h3 h4
noncomputable def gB (sc:Scope) (N:List Str) (df:Bool) (m:List Nat) (x:Str) (i:Nat):Bool:=hasB N m x i&&(sc.names.lookup x==some .local || (df&&sc.names.lookup x==some .cell))&&decide m.Nodup&&decide N.Nodup
theorem gB.of {x:Str}{i:Nat}(h:gB sc N df m x i=true):∃ j:Nat,m[j]?=some i∧N[j]?=some x∧(sc.names.lookup x=some .local∨(df=true∧sc.names.lookup x=some .cell))∧m.Nodup∧N.Nodup:=by
 unfold gB at h
 simp only [Bool.and_eq_true,Bool.or_eq_true] at h
 obtain ⟨⟨⟨h1,h2⟩,h3⟩,h4⟩:=h
 obtain ⟨j,e1,e2⟩:=hasB.of h1
 exact ⟨j,e1,e2,by rcases h2 with h2 | ⟨h2,h5⟩;exact .inl (by simpa using h2);exact .inr ⟨h2,by simpa using h5⟩,of_decide_eq_true h3,of_decide_eq_true h4⟩
theorem jg1 {x:Str}{i:Nat}(h:gB sc N df m x i=true):JG G n sc N df m (.one i) (.Name x pos):=by
 obtain ⟨j,e1,e2,e3,e4,e5⟩:=gB.of h
 exact My j i e4 e5 e1 e2 e3
theorem jgc {x:Str}{i:Nat}{l:List Nat}{xs:List Expr}(h:gB sc N df m x i=true) (hs:rW G n sc N df m l xs):rW G n sc N df m (i :: l) (.Name x pos :: xs):=by
 obtain ⟨j,e1,e2,e3,e4,e5⟩:=gB.of h
 exact C8 j i e4 e5 hs e1 e2 e3
theorem Yn {i:Nat}{x:Str}{pos':Pos}(h:gB sc N df m x i=true) (ha:JE G n sc N df m a xa) (hs:∀ env:Env,swapsWith xa (some (.Name x pos')) pos.line env=pure false:=by intro _;rfl):JS G n sc N df m (.set i a) (.Assign [.Name x pos'] xa pos):=by
 obtain ⟨j,e1,e2,e3,e4,e5⟩:=gB.of h
 exact Mz j i e4 e5 ha hs e1 e2 e3
noncomputable def Vu (sc:Scope) (x:Str):Bool:=sc.names.lookup x==some .globalImplicit&&!(x==("__debug__" : Str))
theorem jcl {f:Nat}{i:FI}{es:Es}{x:Str}{e0:Expr}{xs:List Expr}{p:Pos}(h:Vu sc x=true) (hf:G.fi[f]?=some i) (hx:i.name=x) (hs:JA G n sc N df m es (e0 :: xs))
  (hst:∀ env:Env,starEach (e0 :: xs) env=(false,eval e0 env) :: starEach xs env:=by intro _;rfl) (hpl:∀ env:Env,(backTo pos (starEach xs env)).any (·.1)=false:=by intro _;rfl) :
  JE G n sc N df m (.cl f es) (.Call (.Name x p) (e0 :: xs) [] pos):=by
 subst hx
 unfold Vu at h
 simp only [Bool.and_eq_true,Bool.not_eq_true'] at h
 exact SM hf hs (by simpa using h.1) h.2 hst hpl
noncomputable def tgN:Expr→List Str
 | .Name x _=>[x]
 | .Tuple xs _ _=>xs.filterMap fun y=>match y with | .Name x _=>some x | _=>none
 | _=>[]
noncomputable def Vv (N:List Str) (m:List Nat) (scope:Scope):List (Str×Nat):=(N.zip m).filter fun p=>scope.names.contains (p.1,NameKind.free)
noncomputable def cN (N:List Str) (m:List Nat) (scope:Scope) (tg:Expr):List Str:=tgN tg++(Vv N m scope).map (·.1)
noncomputable def cM (N:List Str) (m:List Nat) (scope:Scope) (t:T):List Nat:=Ev.slots t++(Vv N m scope).map (·.2)
theorem S6 {elt:E}{t:T}{it:Ev.It}{cond:Eo}{tg xi xe:Expr}{ifs:List Expr}{scope:Scope}(hn:pT sc N m scope t (cN N m scope tg) (cM N m scope t)=true) (hs:Gd sc scope=true)
  (hi:JI G n sc N df m it tg xi) (hg:JG G n (fq sc scope) (cN N m scope tg) false (cM N m scope t) t tg) (hc:JC G n (fq sc scope) (cN N m scope tg) false (cM N m scope t) cond ifs)
  (he:JE G n (fq sc scope) (cN N m scope tg) false (cM N m scope t) elt xe) (hf:∀ (env:Env) x,foldedSetIterable xi env x=pure x:=by intro _ _;rfl):JE G n sc N df m (.comp elt t it cond) (.ListComp xe [⟨tg,xi,ifs,0⟩] scope pos):=
 xw hi hg hc he (namesOk.of hn) (j8.of hs) hf
theorem S7 {i:Nat}{x:Str}{pos' cpos:Pos}{elt:E}{t:T}{it:Ev.It}{cond:Eo}{tg xi xe:Expr}{ifs:List Expr}{scope:Scope}(h:gB sc N df m x i=true) (hn:pT sc N m scope t (cN N m scope tg) (cM N m scope t)=true) (hs:Gd sc scope=true)
  (hi:JI G n sc N df m it tg xi) (hg:JG G n (fq sc scope) (cN N m scope tg) false (cM N m scope t) t tg) (hc:JC G n (fq sc scope) (cN N m scope tg) false (cM N m scope t) cond ifs)
  (he:JE G n (fq sc scope) (cN N m scope tg) false (cM N m scope t) elt xe) (hf:∀ (env:Env) x,foldedSetIterable xi env x=pure x:=by intro _ _;rfl) :
  JS G n sc N df m (.set i (.comp elt t it cond)) (.Assign [.Name x pos'] (.ListComp xe [⟨tg,xi,ifs,0⟩] scope cpos) pos):=by
 obtain ⟨j,e1,e2,e3,e4,e5⟩:=gB.of h
 exact JJ j i e4 e5 hi hg hc he (namesOk.of hn) (j8.of hs) e1 e2 e3 hf
theorem Yo {rest:List Expr}(ha:JT G n sc N df m a xa) (hb:JW G n sc N df m b (.BoolOp .And (xb :: rest) pos)):JT G n sc N df m (.an a b) (.BoolOp .And (xa :: xb :: rest) pos):=Mp (FY ha hb)
theorem Yp {rest:List Expr}(ha:JT G n sc N df m a xa) (hb:JW G n sc N df m b (.BoolOp .Or (xb :: rest) pos)):JT G n sc N df m (.orr a b) (.BoolOp .Or (xa :: xb :: rest) pos):=Mp (AI ha hb)
noncomputable def allB (G:Tb) (n:Nat):List (Ss×Stmt×List Str)→Prop
 | []=>True
 | p :: r=>mh G n (aq p.2.1) p.2.2 true (List.range p.2.2.length) p.1 (aE p.2.1)∧allB G n r
theorem allB.get:∀ {l:List (Ss×Stmt×List Str)}{k:Nat}{p:Ss×Stmt×List Str},allB G n l→l[k]?=some p→mh G n (aq p.2.1) p.2.2 true (List.range p.2.2.length) p.1 (aE p.2.1)
 | [],_,_,_,e=>nomatch e
 | _ :: _,0,_,h,e=>by cases e;exact h.1
 | _ :: r,k+1,p,h,e=>allB.get (l:=r) (k:=k) h.2 (by simpa using e)
end
end Sm
namespace Pv
open Ev (D bU bN TY BI ME T E Es Eo It S Ss Fn big deep b2i rep cz dP bL aU cut cS ek slots)
theorem nd {α:Type _}{a b:α}(h:a=b):a=b:=h
inductive V where
 | bf | bl (b:Bool) | int (i:Int) | str (s:List Nat) | tup (l:List V) | lst (l:List V) | bS (l:List V)
 | dct (kvs:List (Int×List Nat))
inductive Sl where
 | val (v:V) | own (l:List V) | bor (l:List V) | ro (l:List V)
abbrev Fr:=List (Option Sl)
inductive R (α:Type) where
 | ok (a:α) (fr:Fr)
 | bad
noncomputable def R.bind {α β:Type}(r:R α) (f:α→Fr→R β):R β:=
 match r with
 | .ok a h=>f a h
 | .bad=>.bad
@[simp] theorem ao {α β:Type} (a:α) (h:Fr) (f:α→Fr→R β):(R.ok a h).bind f=f a h:=nd rfl
@[simp] theorem C5 {α β:Type} (f:α→Fr→R β):(R.bad:R α).bind f=.bad:=nd rfl
theorem ai {α β:Type}{r:R α}{f:α→Fr→R β}{b:β}{h:Fr}(e:r.bind f=.ok b h):∃ a h1,r=.ok a h1∧f a h1=.ok b h:=by
 cases r with
 | ok a h1=>exact ⟨a,h1,rfl,e⟩
 | bad=>cases e
noncomputable def R.of {α:Type}(o:Option α) (h:Fr):R α:=match o with
 | some a=>.ok a h
 | none=>.bad
@[simp] theorem dJ {α:Type} (a:α) (h:Fr):R.of (some a) h=.ok a h:=nd rfl
@[simp] theorem of_none {α:Type} (h:Fr):R.of (none:Option α) h=.bad:=nd rfl
theorem aQ {α:Type}{o:Option α}{h h':Fr}{a:α}(e:R.of o h=.ok a h'):o=some a∧h'=h:=by
 cases o with
 | none=>cases e
 | some b=>cases e;exact ⟨rfl,rfl⟩
inductive Fl where
 | nx | bk | ct | ret (v:V)
mutual
noncomputable def ofD:D→Option V
 | .bf=>some .bf
 | .bl b=>some (.bl b)
 | .int i=>some (.int i)
 | .str s=>some (.str s)
 | .tup ds=>(uJ ds).map .tup
 | .ref _=>none
noncomputable def uJ:List D→Option (List V)
 | []=>some []
 | d :: ds=>(ofD d).bind fun v=>(uJ ds).map fun vs=>v :: vs
end
noncomputable def cF (f:V→V→Option Bool):List V→List V→Option Bool
 | [],[]=>some true
 | x :: xs,y :: ys=>(f x y).bind fun b=>(cF f xs ys).bind fun c=>some (b&&c)
 | _,_=>some false
noncomputable def dF:Nat→V→V→Option Bool
 | 0,_,_=>none
 | _+1,.bf,_=>none
 | _+1,.bl _,_=>none
 | _+1,_,.bf=>none
 | _+1,_,.bl _=>none
 | _+1,.int a,.int b=>some (a==b)
 | _+1,.str a,.str b=>some (a==b)
 | n+1,.tup a,.tup b=>cF (dF n) a b
 | n+1,.lst a,.lst b=>cF (dF n) a b
 | n+1,.bS a,.lst b=>cF (dF n) a b
 | n+1,.lst a,.bS b=>cF (dF n) a b
 | _+1,.bS _,.bS _=>none
 | _+1,.dct _,_=>none
 | _+1,_,.dct _=>none
 | _+1,_,_=>some false
noncomputable def truthy:V→Bool
 | .bf=>false
 | .bl b=>b
 | .int i=>i != 0
 | .str s=>!s.isEmpty
 | .tup ds=>!ds.isEmpty
 | .lst ds=>!ds.isEmpty
 | .bS ds=>!ds.isEmpty
 | .dct kvs=>!kvs.isEmpty
noncomputable def dG (l:List V):Option V:=if l.length≤big then some (.lst l) else none
noncomputable def jE (l:List V):Option V:=if l.length≤big then some (.tup l) else none
noncomputable def bQ:bU→V→V→Option V
 | .add,.int i,.int j=>some (.int (i+j))
 | .add,.str a,.str b=>if a.length+b.length≤big then some (.str (a++b)) else none
 | .add,.tup a,.tup b=>if a.length+b.length≤big then some (.tup (a++b)) else none
 | .add,.lst a,.lst b=>dG (a++b)
 | .sub,.int i,.int j=>some (.int (i - j))
 | .mul,.int i,.int j=>if cz i j then some (.int (i*j)) else none
 | .mul,.str a,.int k=>if 0≤k∧k≤1000∧a.length≤1000 then some (.str (rep k.toNat a)) else none
 | .mul,.tup a,.int k=>if 0≤k∧k≤1000∧a.length≤1000 then some (.tup (rep k.toNat a)) else none
 | .mul,.lst a,.int k=>if 0≤k∧k≤1000∧a.length≤1000 then dG (rep k.toNat a) else none
 | .fdiv,.int i,.int j=>if 0<j∧j<1073741824 then some (.int (i / j)) else none
 | .mod,.int i,.int j=>if 0<j then some (.int (i % j)) else none
 | _,_,_=>none
noncomputable def cop (o:bN) (x y:V):Option Bool:=match o,x,y with
 | .eq,x,y=>dF deep x y
 | .ne,x,y=>(dF deep x y).map (!·)
 | .lt,.int i,.int j=>some (decide (i<j))
 | .gt,.int i,.int j=>some (decide (j<i))
 | _,_,_=>none
noncomputable def o8:V→V→Option V
 | .dct kvs,.int k=>(Ev.fk kvs k).map .str
 | _,_=>none
noncomputable def o9:V→V→V→Option V
 | .dct kvs,.int k,z=>some (match Ev.fk kvs k with | some s=>.str s | none=>z)
 | _,_,_=>none
noncomputable def eF (x y:V):Option V:=match x,y with
 | .tup ds,.int i=>bL ds i
 | .str s,.int i=>(bL s i).map fun c=>.str [c]
 | .lst ds,.int i=>bL ds i
 | .bS ds,.int i=>bL ds i
 | _,_=>none
noncomputable def gc (x:V) (lo hi:Option Int):Option V:=match x with
 | .tup ds=>some (.tup (cut ds lo hi))
 | .str s=>some (.str (cut s lo hi))
 | .lst ds=>dG (cut ds lo hi)
 | .bS ds=>dG (cut ds lo hi)
 | _=>none
noncomputable def toT:V→Option V
 | .tup l=>some (.tup l)
 | .lst l=>jE l
 | .bS l=>jE l
 | _=>none
noncomputable def boolsOf:List V→Option (List Bool)
 | []=>some []
 | .bl b :: ds=>(boolsOf ds).map fun r=>b :: r
 | _=>none
noncomputable def intsOf:List V→Option (List Int)
 | []=>some []
 | .int i :: ds=>(intsOf ds).map fun r=>i :: r
 | _=>none
noncomputable def strsOf:List V→Option (List (List Nat))
 | []=>some []
 | .str s :: ds=>(strsOf ds).map fun r=>s :: r
 | _=>none
noncomputable def mR:V→Option (List V)
 | .lst l=>some l
 | .bS l=>some l
 | _=>none
noncomputable def Nq:V→Option (List (Int×List Nat))
 | .dct kvs=>some kvs
 | _=>none
noncomputable def cX (b:BI) (xs:List V):Option V:=match b,xs with
 | .len,[.str s]=>if s.length≤big then some (.int s.length) else none
 | .len,[.tup ds]=>some (.int ds.length)
 | .len,[x]=>(mR x).map fun ds=>.int ds.length
 | .sum,[x]=>((mR x).bind intsOf).map fun is=>.int is.sum
 | .min,[.int i,.int j]=>some (.int (if j<i then j else i))
 | .yE,[x]=>((mR x).bind intsOf).bind fun ss=>if ss.length<64 then dG ((Ev.sortI ss).map .int) else none
 | .jV,[x]=>(Nq x).bind fun kvs=>if kvs.length<64 then dG ((Ev.sortI (kvs.map (·.1))).map .int) else none
 | _,_=>none
noncomputable def fF (m:ME) (o:V) (xs:List V):Option V:=match m,o,xs with
 | .join,.str sep,[x]=>((mR x).bind strsOf).bind fun ss=>if (ss.map (·.length)).sum+ss.length*sep.length≤big then some (.str (cS sep ss)) else none
 | _,_,_=>none
noncomputable def jZ (m:ME) (l:List V) (xs:List V):Option (V×List V):=match m,xs with
 | .append,[x]=>if l.length<big then some (.bf,l++[x]) else none
 | .extend,[.lst es]=>if l.length+es.length≤big then some (.bf,l++es) else none
 | .pop,[]=>match l[l.length - 1]? with
  | some x=>some (x,l.dropLast)
  | none=>none
 | _,_=>none
noncomputable def Bf:ME→Bool
 | .extend=>true
 | _=>false
noncomputable def iN:ME→Bool
 | .append=>true
 | .extend=>true
 | .pop=>true
 | _=>false
noncomputable def sR:V→Bool
 | .bf=>true
 | .bl _=>true
 | .int _=>true
 | .str _=>true
 | _=>false
noncomputable def y9 (x:V):List (D×D)→Option V
 | []=>none
 | (k,v) :: r=>match (ofD k).bind fun k'=>dF 1 k' x with
  | some true=>ofD v
  | some false=>y9 x r
  | none=>none
noncomputable def g6 (x:V) (kvs:List (D×D)):Option V:=if sR x then y9 x kvs else none
noncomputable def fL:V→Option (List V)
 | .tup ds=>some ds
 | .str s=>some (s.map fun c=>.str [c])
 | .lst ds=>some ds
 | .bS ds=>some ds
 | _=>none
noncomputable def zb:V→Option (List V)
 | .tup ds=>some ds
 | _=>none
noncomputable def range (lo:Int) (n:Nat):List V:=(List.range n).map fun (i:Nat)=>.int (lo+i)
noncomputable def er:List V→Option (List V)
 | [.int j]=>if -(2 ^ 62)≤j∧j<2 ^ 62 then some (range 0 j.toNat) else none
 | [.int i,.int j]=>if -(2 ^ 62)≤i∧i<2 ^ 62∧-(2 ^ 62)≤j∧j<2 ^ 62 then some (range i (j - i).toNat) else none
 | _=>none
noncomputable def cJ:Int→List V→List V
 | _,[]=>[]
 | k,x :: xs=>.tup [.int k,x] :: cJ (k+1) xs
noncomputable def put (fr:Fr) (i:Nat) (s:Sl):Option Fr:=match fr[i]? with
 | some (some (.bor _))=>none
 | some (some (.ro _))=>none
 | _=>some (fr.set i (some s))
noncomputable def cR:List Nat→List V→Fr→Option Fr
 | [],[],fr=>some fr
 | i :: is,d :: ds,fr=>(put fr i (.val d)).bind (cR is ds)
 | _,_,_=>none
noncomputable def bD:T→V→Fr→Option Fr
 | .one i,d,fr=>put fr i (.val d)
 | .many l,.tup ds,fr=>cR l ds fr
 | _,_,_=>none
noncomputable def undef (t:T) (fr:Fr):Bool:=(slots t).all fun i=>(fr[i]?.join).isNone
noncomputable def Sl.read:Sl→Sl
 | .own l=>.ro l
 | .bor l=>.ro l
 | s=>s
noncomputable def sD (fr:Fr):Fr:=fr.map (Option.map Sl.read)
noncomputable def Sl.dm:Sl→Sl
 | .own l=>.val (.lst l)
 | s=>s
noncomputable def eT (fr:Fr):Fr:=fr.map (Option.map Sl.dm)
noncomputable def Sl.walk:Sl→Sl
 | .own l=>.val (.lst l)
 | .bor l=>.ro l
 | s=>s
noncomputable def sZ (is:List Nat) (fr:Fr):Fr:=is.foldl (fun fr i=>match fr[i]? with
 | some (some s)=>fr.set i (some s.walk)
 | _=>fr) fr
noncomputable def Sl.out:Sl→Option (List V)
 | .bor l=>some l
 | .ro l=>some l
 | _=>none
noncomputable def Sl.lend:Sl→Option Sl
 | .own l=>some (.bor l)
 | .bor l=>some (.bor l)
 | .ro l=>some (.ro l)
 | .val _=>none
noncomputable def lent (fr:Fr) (i:Nat):Option Sl:=match fr[i]? with
 | some (some s)=>s.lend
 | _=>none
noncomputable def Sl.with:Sl→List V→Sl
 | .own _,l=>.own l
 | .bor _,l=>.bor l
 | s,_=>s
noncomputable def back:List Nat→List (List V)→Fr→Option Fr
 | [],[],fr=>some fr
 | i :: is,l :: ls,fr=>match fr[i]? with
  | some (some s)=>back is ls (fr.set i (some (s.with l)))
  | _=>none
 | _,_,_=>none
noncomputable def cT (f:V→Option (Option V)):List V→Option (List V)
 | []=>some []
 | d :: ds=>(f d).bind fun o=>(cT f ds).bind fun r=>some (o.toList++r)
noncomputable def forL (f:V→Fr→R Fl):List V→Fr→R Fl
 | [],fr=>.ok .nx fr
 | d :: ds,fr=>(f d fr).bind fun p af=>match p with
   | .nx=>forL f ds af
   | .ct=>forL f ds af
   | .bk=>.ok .nx af
   | .ret x=>.ok (.ret x) af
noncomputable def d8 (t:Fr→R Bool) (f:Fr→R Fl):Nat→Fr→R Fl
 | 0,_=>.bad
 | n+1,fr=>(t fr).bind fun b af=>if b then (f af).bind fun p au=>match p with
   | .nx=>d8 t f n au
   | .ct=>d8 t f n au
   | .bk=>.ok .nx au
   | .ret x=>.ok (.ret x) au
  else .ok .nx af
noncomputable def jA:Es→List Nat
 | .nil=>[]
 | .cons (.v i) es=>i :: jA es
 | .cons _ es=>jA es
noncomputable def Vw (m:ME):E→List Nat
 | .v i=>if iN m then [i] else []
 | _=>[]
mutual
noncomputable def bF:E→List Nat
 | .c _=>[] | .v _=>[] | .tup es=>gj es | .lst es=>gj es
 | .bin _ a b=>bF a++bF b | .cmp _ a b=>bF a++bF b
 | .nt a=>bF a | .neg a=>bF a | .an a b=>bF a++bF b | .orr a b=>bF a++bF b | .jW t a b=>bF t++(bF a++bF b)
 | .ix a b=>bF a++bF b | .sl a lo hi=>bF a++(kc lo++kc hi)
 | .cl _ es=>gj es++jA es | .bi _ es=>gj es | .me m o es=>bF o++(gj es++Vw m o)
 | .comp _ _ it _=>Du it
 | .gQ it=>Du it
 | .mH _ a=>bF a
 | .iY=>[] | .jX a k=>bF a++bF k | .lZ a k x=>bF a++(bF k++bF x)
 | .jb a=>bF a
noncomputable def gj:Es→List Nat
 | .nil=>[]
 | .cons e es=>bF e++gj es
noncomputable def kc:Eo→List Nat
 | .no=>[]
 | .yes e=>bF e
noncomputable def Du:It→List Nat
 | .seq e=>bF e | .gz es=>gj es
 | .enum a=>bF a | .rev a=>bF a
end
noncomputable def kf (a:E) (l:List Nat):Bool:=match a with
 | .v i=>!l.contains i
 | _=>l.isEmpty
noncomputable def itv:It→List Nat
 | .seq (.v i)=>[i]
 | .enum (.v i)=>[i]
 | .rev (.v i)=>[i]
 | _=>[]
abbrev aT:=Nat→List Sl→Option (V×List (List V))
noncomputable def intOf:V→Option Int
 | .int i=>some i
 | _=>none
noncomputable def qR (k:Bool) (fr:Fr) (i:Nat):Option V:=match fr[i]? with
 | some (some (.val v))=>some v
 | some (some (.own l))=>if k then some (.lst l) else none
 | some (some (.bor l))=>if k then some (.lst l) else none
 | some (some (.ro l))=>if k then some (.lst l) else none
 | _=>none
noncomputable def zd (k:Bool) (fr:Fr) (i:Nat):Option V:=match fr[i]? with
 | some (some (.ro l))=>some (.lst l)
 | _=>qR k fr i
noncomputable def src (k:Bool) (fr:Fr) (e:E) (r:R V):R V:=match e with
 | .v i=>R.of (zd k fr i) fr
 | _=>r
noncomputable def kD (fr:Fr):E→Option Nat
 | .v i=>if (lent fr i).isSome then some i else none
 | _=>none
noncomputable def args (fr:Fr):List (Nat ⊕ V)→Option (List Sl)
 | []=>some []
 | .inl i :: r=>(lent fr i).bind fun s=>(args fr r).map fun l=>s :: l
 | .inr v :: r=>(args fr r).map fun l=>.val v :: l
noncomputable def bR:List (Nat ⊕ V)→List Nat
 | []=>[]
 | .inl i :: r=>i :: bR r
 | .inr _ :: r=>bR r
noncomputable def ez (P:aT) (f:Nat) (as:List (Nat ⊕ V)) (fr:Fr):R V:=
 if (bR as).Nodup then match args fr as with
  | some sl=>match P f sl with
   | some (v,outs)=>R.of ((back (bR as) outs fr).map fun af=>(v,af)) fr |>.bind fun p _=>.ok p.1 p.2
   | none=>.bad
  | none=>.bad
 else .bad
mutual
noncomputable def ev (P:aT):Bool→E→Fr→R V
 | _,.c d,fr=>R.of (ofD d) fr
 | k,.v i,fr=>R.of (qR k fr i) fr
 | _,.tup es,fr=>(cj P false es fr).bind fun ds af=>R.of (jE ds) af
 | _,.lst es,fr=>(cj P false es fr).bind fun ds af=>R.of (dG ds) af
 | _,.bin o a b,fr=>(ev P (kf a (bF b)) a fr).bind fun x af=>(ev P true b af).bind fun y au=>R.of (bQ o x y) au
 | _,.cmp o a b,fr=>(ev P (kf a (bF b)) a fr).bind fun x af=>(ev P true b af).bind fun y au=>R.of ((cop o x y).map .bl) au
 | _,.iY,_=>.bad
 | _,.jX a b,fr=>(ev P (kf a (bF b)) a fr).bind fun x af=>(ev P true b af).bind fun y au=>R.of (o8 x y) au
 | _,.lZ a b c,fr=>(ev P (kf a (bF b++bF c)) a fr).bind fun x af=>(ev P (kf b (bF c)) b af).bind fun y au=>(ev P false c au).bind fun z bZ=>R.of (o9 x y z) bZ
 | _,.nt a,fr=>(ev P true a fr).bind fun x af=>match x with
   | .bl b=>.ok (.bl (!b)) af
   | _=>.bad
 | _,.neg a,fr=>(ev P true a fr).bind fun x af=>match x with
   | .int i=>.ok (.int (-i)) af
   | _=>.bad
 | k,.an a b,fr=>(ev P true a fr).bind fun x af=>match x with
   | .bl true=>ev P k b af
   | .bl false=>.ok (.bl false) af
   | _=>.bad
 | k,.orr a b,fr=>(ev P true a fr).bind fun x af=>match x with
   | .bl true=>.ok (.bl true) af
   | .bl false=>ev P k b af
   | _=>.bad
 | k,.jW t a b,fr=>(aM P t fr).bind fun c af=>if c then ev P k a af else ev P k b af
 | _,.ix a b,fr=>(ev P (kf a (bF b)) a fr).bind fun x af=>(ev P true b af).bind fun y au=>R.of (eF x y) au
 | _,.sl a lo hi,fr=>(ev P (kf a (kc lo++kc hi)) a fr).bind fun x af=>(gg P lo af).bind fun l au=>(gg P hi au).bind fun u bZ=>R.of (gc x l u) bZ
 | _,.cl f es,fr=>(gh P es fr).bind fun as af=>ez P f as af
 | _,.bi b es,fr=>(cj P true es fr).bind fun ds af=>R.of (cX b ds) af
 | _,.me m o es,fr=>if iN m then match kD fr o with
   | some i=>(cj P (Bf m) es fr).bind fun ds af=>match af[i]? with
    | some (some (.own l))=>match jZ m l ds with
     | some (v,l')=>.ok v (af.set i (some (.own l')))
     | none=>.bad
    | some (some (.bor l))=>match jZ m l ds with
     | some (v,l')=>.ok v (af.set i (some (.bor l')))
     | none=>.bad
    | _=>.bad
   | none=>.bad
  else (ev P (kf o (gj es)) o fr).bind fun x af=>(cj P true es af).bind fun ds au=>R.of (fF m x ds) au
 | _,.comp elt t it cond,fr=>(cL P true it fr).bind fun s af=>if undef t af then
   R.of ((cT (fun d=>match bD t d (sD af) with
    | none=>none
    | some au=>match g7 P cond au with
     | .ok c _=>if c then (match ev P false elt au with | .ok x _=>some (some x) | .bad=>none) else some none
     | .bad=>none) s).bind dG) af else .bad
 | _,.gQ it,fr=>(cL P true it fr).bind fun s af=>R.of (dG s) af
 | _,.mH kvs a,fr=>(ev P true a fr).bind fun x af=>R.of (g6 x kvs) af
 | _,.jb a,fr=>(ev P true a fr).bind fun x af=>R.of (toT x) af
termination_by _ e=>(sizeOf e,0)
noncomputable def cj (P:aT):Bool→Es→Fr→R (List V)
 | _,.nil,fr=>.ok [] fr
 | k,.cons e es,fr=>(ev P (k&&kf e (gj es)) e fr).bind fun d af=>(cj P k es af).bind fun ds au=>.ok (d :: ds) au
termination_by _ e=>(sizeOf e,0)
noncomputable def gh (P:aT):Es→Fr→R (List (Nat ⊕ V))
 | .nil,fr=>.ok [] fr
 | .cons e es,fr=>match kD fr e with
   | some i=>(gh P es fr).bind fun r af=>.ok (.inl i :: r) af
   | none=>(ev P false e fr).bind fun d af=>(gh P es af).bind fun r au=>.ok (.inr d :: r) au
termination_by e=>(sizeOf e,0)
noncomputable def gg (P:aT):Eo→Fr→R (Option Int)
 | .no,fr=>.ok none fr
 | .yes e,fr=>(ev P true e fr).bind fun d af=>R.of ((intOf d).map some) af
termination_by e=>(sizeOf e,0)
noncomputable def g7 (P:aT):Eo→Fr→R Bool
 | .no,fr=>.ok true fr
 | .yes e,fr=>aM P e fr
termination_by e=>(sizeOf e,0)
noncomputable def aM (P:aT):E→Fr→R Bool
 | .an a b,fr=>(aM P a fr).bind fun k af=>if k then aM P b af else .ok false af
 | .orr a b,fr=>(aM P a fr).bind fun k af=>if k then .ok true af else aM P b af
 | .nt a,fr=>(aM P a fr).bind fun k af=>.ok (!k) af
 | e,fr=>(ev P true e fr).bind fun x af=>.ok (truthy x) af
termination_by e=>(sizeOf e,1)
noncomputable def cL (P:aT):Bool→It→Fr→R (List V)
 | k,.seq e,fr=>(src k fr e (ev P k e fr)).bind fun x af=>R.of (fL x) af
 | _,.gz es,fr=>(cj P true es fr).bind fun ds af=>R.of (er ds) af
 | k,.enum a,fr=>(src k fr a (ev P k a fr)).bind fun x af=>R.of ((mR x).map fun s=>cJ 0 s) af
 | _,.rev a,fr=>(ev P true a fr).bind fun x af=>R.of ((zb x).map fun s=>s.reverse) af
termination_by _ e=>(sizeOf e,0)
end
noncomputable def isNew:E→Bool
 | .lst _=>true
 | .gQ _=>true
 | _=>false
mutual
noncomputable def ex (P:aT) (w:Nat):S→Fr→R Fl
 | .set i e,fr=>(ev P false e fr).bind fun x af=>if isNew e then (match x with
   | .lst l=>(R.of (put af i (.own l)) af).bind fun au _=>.ok .nx au
   | _=>.bad)
  else (R.of (put af i (.val x)) af).bind fun au _=>.ok .nx au
 | .j7 l e,fr=>(ev P false e fr).bind fun x af=>(R.of (bD (.many l) x af) af).bind fun au _=>.ok .nx au
 | .dput _ _ _,_=>.bad
 | .exp e,fr=>(ev P true e fr).bind fun _ af=>.ok .nx af
 | .ret e,fr=>(ev P false e (eT fr)).bind fun x af=>.ok (.ret x) af
 | .iff t a b,fr=>(aM P t fr).bind fun k af=>if k then exs P w a af else exs P w b af
 | .for t it b,fr=>(cL P false it (sZ (itv it) fr)).bind fun s af=>forL (fun d au=>match bD t d au with
   | some bZ=>exs P w b bZ
   | none=>.bad) s af
 | .mJ t b,fr=>d8 (fun au=>aM P t au) (fun au=>exs P w b au) w fr
 | .fj,_=>.bad
noncomputable def exs (P:aT) (w:Nat):Ss→Fr→R Fl
 | .nil,fr=>.ok .nx fr
 | .cons s ss,fr=>(ex P w s fr).bind fun p af=>match p with
   | .nx=>exs P w ss af
   | p=>.ok p af
end
noncomputable def eS (fn:Fn) (ds:List Sl):Fr:=ds.map some++List.replicate (fn.ns - fn.np) none
noncomputable def outs (np:Nat) (fr:Fr):List (List V):=(fr.take np).filterMap fun o=>o.bind Sl.out
noncomputable def Gw:Ss:=.cons (.dput (.v 1) (.v 2) (.v 4)) (.cons (.set 2 (.bin .add (.v 2) (.c (.int 1)))) .nil)
noncomputable def uK:Ss:=.cons (.iff (.cmp .eq (.ix (.v 3) (.c (.int 0))) (.c (.str [100,114,111,112]))) (.cons (.for (.one 4) (.seq (.ix (.v 3) (.c (.int 1)))) Gw) .nil) (.cons (.iff (.cmp .eq (.ix (.v 3) (.c (.int 0))) (.c (.str [107,101,101,112]))) (.cons (.set 2 (.bin .add (.v 2) (.ix (.v 3) (.c (.int 1))))) .nil) .nil) .nil)) .nil
noncomputable def jF:Fn:=⟨1,5,.cons (.set 1 .iY) (.cons (.set 2 (.c (.int 0))) (.cons (.for (.one 3) (.seq (.v 0)) uK) (.cons (.ret (.v 1)) .nil)))⟩
noncomputable def jG:List (Int×List Nat)→Int→List Nat→List (Int×List Nat)
 | k,_,[]=>k
 | k,p,c :: s=>jG (Ev.fK k p [c]) (p+1) s
noncomputable def bM:List V→Int→List (Int×List Nat)→Option (List (Int×List Nat))
 | [],_,k=>some k
 | .tup [.str w,.str s] :: r,p,k=>if w=[100,114,111,112] then (if k.length+s.length≤100000 then bM r (p+s.length) (jG k p s) else none) else if w=[107,101,101,112] then none else bM r p k
 | .tup [.str w,.int i] :: r,p,k=>if w=[107,101,101,112] then bM r (p+i) k else none
 | _ :: _,_,_=>none
open Classical in
noncomputable def xG (fn:Fn) (ds:List Sl):Option (V×List (List V)):=if fn=jF then match ds with
  | [.val (.tup l)]=>(bM l 0 []).map fun k=>(.dct k,[])
  | _=>none
 else none
noncomputable def run (F:List Fn) (w:Nat):Nat→aT
 | 0,_,_=>none
 | n+1,f,ds=>match F[f]? with
  | some fn=>if ds.length=fn.np then match exs (run F w n) w fn.body (eS fn ds) with
    | .ok (.ret v) fr=>some (v,outs fn.np fr)
    | .ok .nx fr=>some (.bf,outs fn.np fr)
    | _=>xG fn ds
   else none
  | none=>none
end Pv
namespace Pv
open Ev (D O Hh bU bN TY BI ME T E Es Eo It S Ss Fn big deep b2i rep cz dP bL aU cut cS ek slots bx)
section
variable (h:Hh)(S:Nat→Prop)
mutual
noncomputable def Rep:V→D→Prop
 | .bf,d=>d=.bf
 | .bl b,d=>d=.bl b
 | .int i,d=>d=.int i
 | .str s,d=>d=.str s
 | .tup l,d=>∃ ds,d=.tup ds∧av l ds
 | .lst l,d=>∃ n ds,d=.ref n∧S n∧h[n]?=some (.lst ds)∧av l ds
 | .bS l,d=>∃ n ds,d=.ref n∧S n∧h[n]?=some (.bS ds)∧av l ds
 | .dct kvs,d=>∃ n,d=.ref n∧S n∧h[n]?=some (.dct kvs)
noncomputable def av:List V→List D→Prop
 | [],ds=>ds=[]
 | v :: vs,ds=>∃ d es,ds=d :: es∧Rep v d∧av vs es
end
noncomputable def bg:V→D→Prop
 | .lst l,d=>∃ n ds,d=.ref n∧h[n]?=some (.lst ds)∧av h S l ds
 | v,d=>Rep h S v d
noncomputable def gi:List V→List D→Prop
 | [],ds=>ds=[]
 | v :: vs,ds=>∃ d es,ds=d :: es∧bg h S v d∧gi vs es
end
abbrev U:Nat→Prop:=fun _=>True
section
variable {h h':Hh}{S S':Nat→Prop}
mutual
theorem Rep.mono (f:∀ m,S m→h'[m]?=h[m]?) (g:∀ m,S m→S' m):∀ {v:V}{d:D},Rep h S v d→Rep h' S' v d
 | .bf,_,q=>q
 | .bl _,_,q=>q
 | .int _,_,q=>q
 | .str _,_,q=>q
 | .tup l,_,⟨ds,a,b⟩=>⟨ds,a,av.mono f g b⟩
 | .lst l,_,⟨n,ds,a,b,c,e⟩=>⟨n,ds,a,g n b,by rw [f n b];exact c,av.mono f g e⟩
 | .bS l,_,⟨n,ds,a,b,c,e⟩=>⟨n,ds,a,g n b,by rw [f n b];exact c,av.mono f g e⟩
 | .dct kvs,_,⟨n,a,b,c⟩=>⟨n,a,g n b,by rw [f n b];exact c⟩
theorem av.mono (f:∀ m,S m→h'[m]?=h[m]?) (g:∀ m,S m→S' m):∀ {v:List V}{d:List D},av h S v d→av h' S' v d
 | [],_,q=>q
 | _ :: _,_,⟨d,es,a,b,c⟩=>⟨d,es,a,Rep.mono f g b,av.mono f g c⟩
end
theorem av.nil:av h S [] []:=by simp [av]
theorem av.cons {v:V}{d:D}{vs:List V}{ds:List D}(a:Rep h S v d) (b:av h S vs ds):av h S (v :: vs) (d :: ds):=by simp only [av];exact ⟨d,ds,rfl,a,b⟩
theorem Rep.top {v:V}{d:D}(q:Rep h S v d):bg h S v d:=by
 cases v <;> first | exact q | (obtain ⟨n,ds,a,b,c,e⟩:=q;exact ⟨n,ds,a,c,e⟩)
theorem bg.u {v:V}{d:D}(q:bg h S v d):Rep h U v d:=by
 cases v with
 | lst l=>obtain ⟨n,ds,a,b,c⟩:=q;exact ⟨n,ds,a,trivial,b,c.mono (fun _ _=>rfl) fun _ _=>trivial⟩
 | _=>exact Rep.mono (S:=S) (fun _ _=>rfl) (fun _ _=>trivial) q
theorem av.u {v:List V}{d:List D}(q:av h S v d):av h U v d:=q.mono (fun _ _=>rfl) fun _ _=>trivial
theorem bg.mono {v:V}{d:D}(f:∀ m,m<h.length→h'[m]?=h[m]?) (k:∀ m,S m→m<h.length) (g:∀ m,S m→S' m) (q:bg h S v d):bg h' S' v d:=by
 cases v with
 | lst l=>
  obtain ⟨n,ds,a,b,c⟩:=q
  exact ⟨n,ds,a,by rw [f n (List.getElem?_eq_some_iff.mp b).1];exact b,c.mono (fun m z=>f m (k m z)) g⟩
 | _=>exact Rep.mono (fun m z=>f m (k m z)) g q
theorem av.length:∀ {v:List V}{d:List D},av h S v d→v.length=d.length
 | [],_,q=>by simp only [av] at q;subst q;rfl
 | _ :: _,_,q=>by simp only [av] at q;obtain ⟨d,es,rfl,_,c⟩:=q;simp [c.length]
theorem av.get:∀ {v:List V}{d:List D}{i:Nat}{x:V},av h S v d→v[i]?=some x→∃ y,d[i]?=some y∧Rep h S x y
 | [],_,_,_,_,e=>by simp at e
 | _ :: _,_,0,_,q,e=>by
  simp only [av] at q
  obtain ⟨d,es,rfl,b,_⟩:=q
  simp at e;subst e
  exact ⟨d,by simp,b⟩
 | _ :: _,_,i+1,_,q,e=>by
  simp only [av] at q
  obtain ⟨d,es,rfl,_,c⟩:=q
  obtain ⟨y,a,b⟩:=c.get (i:=i) (by simpa using e)
  exact ⟨y,by simpa using a,b⟩
theorem av.append:∀ {v w:List V}{d e:List D},av h S v d→av h S w e→av h S (v++w) (d++e)
 | [],_,_,_,a,b=>by simp only [av] at a;subst a;simpa using b
 | _ :: _,_,_,_,a,b=>by
  simp only [av] at a
  obtain ⟨d,es,rfl,x,y⟩:=a
  exact .cons x (y.append b)
theorem av.take:∀ {v:List V}{d:List D}(n:Nat),av h S v d→av h S (v.take n) (d.take n)
 | _,_,0,_=>by simp [av]
 | [],_,_+1,a=>by simp only [av] at a;subst a;simp [av]
 | _ :: _,_,n+1,a=>by
  simp only [av] at a
  obtain ⟨d,es,rfl,x,y⟩:=a
  simp only [List.take_succ_cons]
  exact .cons x (y.take n)
theorem av.drop:∀ {v:List V}{d:List D}(n:Nat),av h S v d→av h S (v.drop n) (d.drop n)
 | _,_,0,a=>by simpa using a
 | [],_,_+1,a=>by simp only [av] at a;subst a;simp [av]
 | _ :: _,_,n+1,a=>by
  simp only [av] at a
  obtain ⟨d,es,rfl,x,y⟩:=a
  simp only [List.drop_succ_cons]
  exact y.drop n
theorem av.dropLast:∀ {v:List V}{d:List D},av h S v d→av h S v.dropLast d.dropLast:=fun {v d} a=>by
 rw [List.dropLast_eq_take,List.dropLast_eq_take,a.length];exact a.take _
theorem av.reverse:∀ {v:List V}{d:List D},av h S v d→av h S v.reverse d.reverse
 | [],_,a=>by simp only [av] at a;subst a;simp [av]
 | _ :: _,_,a=>by
  simp only [av] at a
  obtain ⟨d,es,rfl,x,y⟩:=a
  simp only [List.reverse_cons]
  exact y.reverse.append (.cons x .nil)
theorem av.rep {v:List V}{d:List D}(a:av h S v d):∀ k:Nat,av h S (Ev.rep k v) (Ev.rep k d)
 | 0=>by simp [Ev.rep,av]
 | k+1=>by
  have z:=av.rep a k
  simp only [Ev.rep,List.replicate_succ,List.flatten_cons] at z ⊢
  exact a.append z
theorem av.cut {v:List V}{d:List D}(a:av h S v d) (lo hi:Option Int):av h S (Ev.cut v lo hi) (Ev.cut d lo hi):=by
 unfold Ev.cut
 rw [a.length]
 exact (a.drop _).take _
theorem av.map {α:Type}{f:α→V}{g:α→D}(q:∀ a,Rep h S (f a) (g a)):∀ l:List α,av h S (l.map f) (l.map g)
 | []=>.nil
 | _ :: l=>.cons (q _) (av.map q l)
mutual
theorem Rep.uniq:∀ {v w:V}{d:D},Rep h U v d→Rep h U w d→v=w
 | .bf,w,_,a,b=>by simp only [Rep] at a;subst a;cases w <;> simp [Rep] at b <;> rfl
 | .bl _,w,_,a,b=>by simp only [Rep] at a;subst a;cases w <;> simp [Rep] at b <;> rw [b]
 | .int _,w,_,a,b=>by simp only [Rep] at a;subst a;cases w <;> simp [Rep] at b <;> rw [b]
 | .str _,w,_,a,b=>by simp only [Rep] at a;subst a;cases w <;> simp [Rep] at b <;> rw [b]
 | .tup l,w,_,a,b=>by
  simp only [Rep] at a;obtain ⟨ds,rfl,a⟩:=a
  cases w <;> simp [Rep] at b
  rw [av.uniq a b]
 | .lst l,w,_,a,b=>by
  simp only [Rep] at a;obtain ⟨n,ds,rfl,_,a1,a⟩:=a
  cases w <;> simp [Rep] at b
  ·obtain ⟨ds',b1,b⟩:=b
   rw [a1] at b1;cases b1
   rw [av.uniq a b]
  ·obtain ⟨ds',b1,b⟩:=b
   rw [a1] at b1;cases b1
  ·rw [a1] at b;cases b
 | .bS l,w,_,a,b=>by
  simp only [Rep] at a;obtain ⟨n,ds,rfl,_,a1,a⟩:=a
  cases w <;> simp [Rep] at b
  ·obtain ⟨ds',b1,b⟩:=b
   rw [a1] at b1;cases b1
  ·obtain ⟨ds',b1,b⟩:=b
   rw [a1] at b1;cases b1
   rw [av.uniq a b]
  ·rw [a1] at b;cases b
 | .dct kvs,w,_,a,b=>by
  simp only [Rep] at a;obtain ⟨n,rfl,_,a1⟩:=a
  cases w <;> simp [Rep] at b
  ·obtain ⟨ds',b1,b⟩:=b
   rw [a1] at b1;cases b1
  ·obtain ⟨ds',b1,b⟩:=b
   rw [a1] at b1;cases b1
  ·rw [a1] at b;cases b;rfl
theorem av.uniq:∀ {v w:List V}{d:List D},av h U v d→av h U w d→v=w
 | [],w,_,a,b=>by simp only [av] at a;subst a;cases w <;> simp [av] at b;rfl
 | x :: xs,w,_,a,b=>by
  simp only [av] at a;obtain ⟨d,es,rfl,a1,a2⟩:=a
  cases w <;> simp only [av] at b
  ·cases b
  obtain ⟨d',es',e,b1,b2⟩:=b
  cases e
  rw [Rep.uniq a1 b1,av.uniq a2 b2]
end
theorem uL {n:Nat}(f:∀ v b,dF n v v=some b→b=true):∀ l b,cF (dF n) l l=some b→b=true
 | [],b,e=>by simp [cF] at e;exact e
 | x :: xs,b,e=>by
  simp only [cF,Option.bind_eq_some_iff] at e
  obtain ⟨c,e1,c2,e2,e⟩:=e
  rw [f x c e1,uL f xs c2 e2] at e
  simpa using e.symm
theorem uM:∀ n v b,dF n v v=some b→b=true
 | 0,_,_,e=>by cases e
 | n+1,v,b,e=>by
  cases v <;> first | exact uL (uM n) _ _ e | (cases e <;> first | rfl | exact beq_self_eq_true _)
theorem uN {n:Nat}(f:∀ {v w:V}{d e:D}{b},dF n v w=some b→Rep h U v d→Rep h U w e→Ev.gA h n d e=some b):∀ {l m:List V}{ds es:List D}{b},cF (dF n) l m=some b→av h U l ds→av h U m es→Ev.cF (Ev.gA h n) ds es=some b
 | [],[],_,_,b,e,p,q=>by simp only [av] at p q;subst p q;simpa [cF,Ev.cF] using e
 | [],_ :: _,_,_,b,e,p,q=>by simp only [av] at p q;subst p;obtain ⟨_,_,rfl,_⟩:=q;simpa [cF,Ev.cF] using e
 | _ :: _,[],_,_,b,e,p,q=>by simp only [av] at p q;subst q;obtain ⟨_,_,rfl,_⟩:=p;simpa [cF,Ev.cF] using e
 | x :: xs,y :: ys,_,_,b,e,p,q=>by
  simp only [av] at p q
  obtain ⟨d,ds,rfl,p1,p2⟩:=p
  obtain ⟨d',ds',rfl,q1,q2⟩:=q
  simp only [cF,Option.bind_eq_some_iff] at e
  obtain ⟨c,e1,c2,e2,e⟩:=e
  simp [Ev.cF,f e1 p1 q1,uN f e2 p2 q2]
  simpa using e
theorem iF {n:Nat}{ds:List D}(q:h[n]?=some (.lst ds)):bx h n=some ds:=by simp [bx,q]
theorem iZ {n:Nat}{ds:List D}(q:h[n]?=some (.bS ds)):bx h n=some ds:=by simp [bx,q]
theorem kE:∀ (n:Nat) {v w:V}{d e:D}{b},dF n v w=some b→Rep h U v d→Rep h U w e→Ev.gA h n d e=some b
  | 0,_,_,_,_,_,e,_,_=>by cases e
  | n+1,v,w,d,e,b,x,p,q=>by
    by_cases hr:∃ m,d=.ref m∧e=.ref m
    · obtain ⟨m,rfl,rfl⟩:=hr
      have hvw:=p.uniq q
      subst hvw
      have hb:=uM _ _ _ x
      subst hb
      cases v <;> simp [Rep] at p
      · obtain ⟨ds,p1,p2⟩:=p;show Ev.jC _ _ _ _=_;rw [Ev.jC,if_pos rfl,iF p1];rfl
      · obtain ⟨ds,p1,p2⟩:=p;show Ev.jC _ _ _ _=_;rw [Ev.jC,if_pos rfl,iZ p1];rfl
      · cases x
    · cases v <;> cases w <;> simp only [Rep] at p q <;>
      first
      | (subst p;subst q;exact x)
      | (obtain ⟨ds,rfl,p⟩:=p;subst q;exact x)
      | (obtain ⟨ds,rfl,q⟩:=q;subst p;exact x)
      | (obtain ⟨ds,rfl,p⟩:=p;obtain ⟨es,rfl,q⟩:=q;exact uN (fun a b c=>kE n a b c) x p q)
      | (cases x;done)
      | (obtain ⟨m,ds,rfl,_,p1,p⟩:=p;obtain ⟨k,es,rfl,_,q1,q⟩:=q
         have hne:m≠k:=fun z=>hr ⟨m,rfl,by rw [z]⟩
         show Ev.jC _ _ _ _=_
         rw [Ev.jC,if_neg hne,p1,q1];exact uN (fun a b c=>kE n a b c) x p q)
      | (cases x;obtain ⟨m,ds,rfl,_,p1,p⟩:=p;subst q;exact congrArg (Option.map fun _=>false) (iF p1))
      | (cases x;obtain ⟨m,ds,rfl,_,p1,p⟩:=p;subst q;exact congrArg (Option.map fun _=>false) (iZ p1))
      | (cases x;obtain ⟨m,ds,rfl,_,p1,p⟩:=p;obtain ⟨es,rfl,q⟩:=q;exact congrArg (Option.map fun _=>false) (iF p1))
      | (cases x;obtain ⟨m,ds,rfl,_,p1,p⟩:=p;obtain ⟨es,rfl,q⟩:=q;exact congrArg (Option.map fun _=>false) (iZ p1))
      | (cases x;obtain ⟨m,ds,rfl,_,q1,q⟩:=q;subst p;exact congrArg (Option.map fun _=>false) (iF q1))
      | (cases x;obtain ⟨m,ds,rfl,_,q1,q⟩:=q;subst p;exact congrArg (Option.map fun _=>false) (iZ q1))
      | (cases x;obtain ⟨m,ds,rfl,_,q1,q⟩:=q;obtain ⟨es,rfl,p⟩:=p;exact congrArg (Option.map fun _=>false) (iF q1))
      | (cases x;obtain ⟨m,ds,rfl,_,q1,q⟩:=q;obtain ⟨es,rfl,p⟩:=p;exact congrArg (Option.map fun _=>false) (iZ q1))
end
end Pv
namespace Pv
open Ev (D O Hh bU bN TY BI ME T E Es Eo It S Ss Fn big deep b2i rep cz dP bL aU cut cS ek slots bx)
structure Al (h:Hh) (S:Nat→Prop) (h':Hh) (S':Nat→Prop):Prop where
 len:h.length≤h'.length
 keep:∀ m,m<h.length→h'[m]?=h[m]?
 sub:∀ m,S m→S' m
 new:∀ m,S' m→S m∨(h.length≤m∧m<h'.length)
section
variable {h h':Hh}{S S':Nat→Prop}
theorem Al.refl:Al h S h S:=⟨Nat.le_refl _,fun _ _=>rfl,fun _ q=>q,fun _ q=>.inl q⟩
theorem Al.snoc (o:O):Al h S (h++[o]) (fun m=>S m∨m=h.length) where
 len:=by simp
 keep:=fun m q=>by rw [List.getElem?_append_left q]
 sub:=fun _ q=>.inl q
 new:=fun m q=>by
  rcases q with q | q
  ·exact .inl q
  ·subst q;exact .inr ⟨Nat.le_refl _,by simp⟩
theorem ig {l:List V}{v:V}{ds:List D}(w:∀ m,S m→m<h.length) (e:dG l=some v) (q:av h S l ds):∃ r h' S',Ev.alloc ds h=.ok r h'∧Rep h' S' v r∧Al h S h' S':=by
 unfold dG at e
 split at e
 ·rename_i z
  cases e
  refine ⟨.ref h.length,h++[.lst ds],fun m=>S m∨m=h.length,by unfold Ev.alloc;rw [if_pos (by rw [←q.length];exact z)],?_,Al.snoc _⟩
  simp only [Rep]
  refine ⟨h.length,ds,rfl,.inr rfl,by simp,q.mono (fun m z=>?_) fun _ z=>.inl z⟩
  rw [List.getElem?_append_left (w m z)]
 ·cases e
theorem mS {v:V}{l:List V}{d:D}(e:mR v=some l) (q:bg h S v d):∃ n ds,d=.ref n∧bx h n=some ds∧av h S l ds:=by
 cases v <;> simp [mR] at e
 ·subst e;simp only [bg] at q;obtain ⟨n,ds,rfl,a,b⟩:=q;exact ⟨n,ds,rfl,iF a,b⟩
 ·subst e;simp only [bg,Rep] at q;obtain ⟨n,ds,rfl,_,a,b⟩:=q;exact ⟨n,ds,rfl,iZ a,b⟩
mutual
theorem mT:∀ {d:D}{v:V},ofD d=some v→Rep h S v d
 | .bf,_,e=>by simp [ofD] at e;subst e;simp [Rep]
 | .bl _,_,e=>by simp [ofD] at e;subst e;simp [Rep]
 | .int _,_,e=>by simp [ofD] at e;subst e;simp [Rep]
 | .str _,_,e=>by simp [ofD] at e;subst e;simp [Rep]
 | .ref _,_,e=>by simp [ofD] at e
 | .tup ds,_,e=>by
  simp [ofD] at e
  obtain ⟨vs,e,rfl⟩:=e
  exact ⟨ds,rfl,xH e⟩
theorem xH:∀ {d:List D}{v:List V},uJ d=some v→av h S v d
 | [],_,e=>by simp [uJ] at e;subst e;exact .nil
 | d :: ds,_,e=>by
  simp only [uJ,Option.bind_eq_some_iff,Option.map_eq_some_iff] at e
  obtain ⟨v,e1,vs,e2,rfl⟩:=e
  exact .cons (mT e1) (xH e2)
end
theorem av.emp {l:List V}{ds:List D}(q:av h S l ds):ds.isEmpty=l.isEmpty:=by
 have:=q.length
 cases l <;> cases ds <;> simp at this ⊢
theorem Nr {v:V}{d:D}{kvs:List (Int×List Nat)}(z:Nq v=some kvs) (p:bg h S v d):∃ n,d=.ref n∧h[n]?=some (.dct kvs):=by
 cases v <;> simp only [Nq,reduceCtorEq,Option.some.injEq] at z
 subst z
 simp only [bg,Rep] at p
 obtain ⟨n,rfl,_,a⟩:=p
 exact ⟨n,rfl,a⟩
theorem Bg {v:V}{d:D}(q:bg h S v d):Ev.truthy h d=some (truthy v):=by
 cases v <;> simp only [bg,Rep] at q
 ·subst q;rfl
 ·subst q;rfl
 ·subst q;rfl
 ·subst q;rfl
 ·obtain ⟨ds,rfl,q⟩:=q;simp only [Ev.truthy,truthy,q.emp]
 ·obtain ⟨n,ds,rfl,a,q⟩:=q;simp only [Ev.truthy,truthy,iF a,Option.map,q.emp];rw [a]
 ·obtain ⟨n,ds,rfl,_,a,q⟩:=q;simp only [Ev.truthy,truthy,iZ a,Option.map,q.emp];rw [a]
 ·obtain ⟨n,rfl,_,a⟩:=q;simp only [Ev.truthy,truthy];rw [a]
theorem nn {α:Type}{v:α}{p:Prop}(z:none=some v):p:=Option.noConfusion rfl (heq_of_eq z)
theorem Nt {o:bU}{x y v:V}{d e:D}(w:∀ m,S m→m<h.length) (z:bQ o x y=some v) (p:bg h S x d) (q:bg h S y e):∃ r h' S',Ev.bQ o d e h=.ok r h'∧Rep h' S' v r∧Al h S h' S':=by
 cases o <;> cases x <;> first | exact nn z | (cases y <;> first | exact nn z | skip)
 all_goals (delta bQ at z;dsimp only at z;simp only [bg,Rep] at p q)
 ·subst p q;cases z;exact ⟨_,_,S,rfl,rfl,.refl⟩
 ·subst p q;split at z
  ·rename_i k;cases z;exact ⟨_,_,S,by delta Ev.bQ;dsimp only;rw [if_pos k],rfl,.refl⟩
  ·cases z
 ·obtain ⟨ds,rfl,p⟩:=p;obtain ⟨es,rfl,q⟩:=q;split at z
  ·rename_i k;cases z;exact ⟨_,_,S,by delta Ev.bQ;dsimp only;rw [if_pos (by rw [←p.length,←q.length];exact k)],⟨_,rfl,p.append q⟩,.refl⟩
  ·cases z
 ·obtain ⟨n,ds,rfl,a,p⟩:=p;obtain ⟨m,es,rfl,b,q⟩:=q
  delta Ev.bQ;dsimp only;simp only [a,b]
  exact ig w z (p.append q)
 ·subst p q;cases z;exact ⟨_,_,S,rfl,rfl,.refl⟩
 ·subst p q;split at z
  ·rename_i k;cases z;exact ⟨_,_,S,by delta Ev.bQ;dsimp only;rw [if_pos k],rfl,.refl⟩
  ·cases z
 ·subst p q;split at z
  ·rename_i k;cases z;exact ⟨_,_,S,by delta Ev.bQ;dsimp only;rw [if_pos k],rfl,.refl⟩
  ·cases z
 ·obtain ⟨ds,rfl,p⟩:=p;subst q;split at z
  ·rename_i k;cases z;exact ⟨_,_,S,by delta Ev.bQ;dsimp only;rw [if_pos (by rw [←p.length];exact k)],⟨_,rfl,p.rep _⟩,.refl⟩
  ·cases z
 ·obtain ⟨n,ds,rfl,a,p⟩:=p;subst q;split at z
  ·rename_i k
   delta Ev.bQ;dsimp only;simp only [a]
   rw [if_pos (by rw [←p.length];exact k)]
   exact ig w z (p.rep _)
  ·cases z
 ·subst p q;split at z
  ·rename_i k;cases z;exact ⟨_,_,S,by delta Ev.bQ;dsimp only;rw [if_pos k],rfl,.refl⟩
  ·cases z
 ·subst p q;split at z
  ·rename_i k;cases z;exact ⟨_,_,S,by delta Ev.bQ;dsimp only;rw [if_pos k],rfl,.refl⟩
  ·cases z
theorem Nu {o:bN}{x y:V}{d e:D}{b:Bool}(z:cop o x y=some b) (p:Rep h U x d) (q:Rep h U y e):Ev.cop o d e h=some b:=by
 cases o
 case eq=>delta cop at z;dsimp only at z;delta Ev.cop;dsimp only;exact kE deep z p q
 case ne=>
  delta cop at z;dsimp only at z;simp only [Option.map_eq_some_iff] at z;obtain ⟨c,z,rfl⟩:=z
  delta Ev.cop;dsimp only;simp only [kE deep z p q];rfl
 all_goals (
  cases x <;> first | exact nn z | (cases y <;> first | exact nn z | skip)
  simp only [Rep] at p q;subst p q;exact z)
theorem ze {l:List V}{ds:List D}{i:Int}{v:V}(e:bL l i=some v) (q:av h S l ds):∃ d,bL ds i=some d∧Rep h S v d:=by
 unfold bL at e ⊢
 rw [q.length] at e
 cases z:dP ds.length i with
 | none=>rw [z] at e;cases e
 | some j=>rw [z] at e;exact q.get e
theorem Nv {x y v:V}{d e:D}(z:eF x y=some v) (p:bg h S x d) (q:bg h S y e):∃ r,Ev.eF d e h=some r∧Rep h S v r:=by
 cases x <;> cases y <;> simp only [eF,reduceCtorEq] at z <;> simp only [bg,Rep] at p q
 ·subst p q
  simp only [Option.map_eq_some_iff] at z
  obtain ⟨c,z,rfl⟩:=z
  exact ⟨.str [c],by simp [Ev.eF,z],rfl⟩
 ·obtain ⟨ds,rfl,p⟩:=p;subst q;simpa [Ev.eF] using ze z p
 ·obtain ⟨n,ds,rfl,a,p⟩:=p;subst q;simpa [Ev.eF,iF a] using ze z p
 ·obtain ⟨n,ds,rfl,_,a,p⟩:=p;subst q;simpa [Ev.eF,iZ a] using ze z p
theorem Nx {x v:V}{d:D}{lo hi:Option Int}(w:∀ m,S m→m<h.length) (z:gc x lo hi=some v) (p:bg h S x d):∃ r h' S',Ev.gc d lo hi h=.ok r h'∧Rep h' S' v r∧Al h S h' S':=by
 cases x <;> simp only [gc,reduceCtorEq] at z <;> simp only [bg,Rep] at p
 ·subst p;cases z;exact ⟨_,_,S,rfl,rfl,.refl⟩
 ·obtain ⟨ds,rfl,p⟩:=p;cases z;exact ⟨_,_,S,rfl,⟨_,rfl,p.cut _ _⟩,.refl⟩
 ·obtain ⟨n,ds,rfl,a,p⟩:=p;simp only [Ev.gc,iF a];exact ig w z (p.cut _ _)
 ·obtain ⟨n,ds,rfl,_,a,p⟩:=p;simp only [Ev.gc,iZ a];exact ig w z (p.cut _ _)
theorem Ny {x v:V}{d:D}(z:toT x=some v) (p:bg h S x d):∃ r,Ev.qK d h=.ok r h∧Rep h S v r:=by
 cases x <;> simp only [toT,reduceCtorEq] at z <;> simp only [bg,Rep] at p
 ·obtain ⟨ds,rfl,p⟩:=p;cases z;exact ⟨_,rfl,⟨_,rfl,p⟩⟩
 ·obtain ⟨n,ds,rfl,a,p⟩:=p
  unfold jE at z
  split at z
  ·rename_i k;cases z
   refine ⟨.tup ds,?_,⟨_,rfl,p⟩⟩
   simp only [Ev.qK,iF a];rw [if_pos (by rw [←p.length];exact k)]
  ·cases z
 ·obtain ⟨n,ds,rfl,_,a,p⟩:=p
  unfold jE at z
  split at z
  ·rename_i k;cases z
   refine ⟨.tup ds,?_,⟨_,rfl,p⟩⟩
   simp only [Ev.qK,iZ a];rw [if_pos (by rw [←p.length];exact k)]
  ·cases z
theorem J1 {x:V}{l:List V}{d:D}(z:mR x=some l) (p:bg h S x d):∃ s,Ev.yH h d=some s∧av h S l s.1∧(∀ q∈s.2,d=.ref q.1∧bx h q.1=some q.2):=by
 obtain ⟨n,ds,rfl,a,q⟩:=mS z p
 exact ⟨(ds,[(n,ds)]),by simp [Ev.yH,a],q,by simp [a]⟩
theorem Dv:∀ {l:List V}{ds:List D}{bs},boolsOf l=some bs→av h S l ds→Ev.boolsOf ds=some bs
 | [],_,_,e,q=>by simp only [av] at q;subst q;exact e
 | x :: xs,_,bs,e,q=>by
  cases x <;> simp only [boolsOf,reduceCtorEq,Option.map_eq_some_iff] at e
  obtain ⟨r,e,rfl⟩:=e
  simp only [av,Rep] at q
  obtain ⟨_,ds,rfl,rfl,q⟩:=q
  simp [Ev.boolsOf,Dv e q]
theorem qS:∀ {l:List V}{ds:List D}{bs},intsOf l=some bs→av h S l ds→Ev.intsOf ds=some bs
 | [],_,_,e,q=>by simp only [av] at q;subst q;exact e
 | x :: xs,_,bs,e,q=>by
  cases x <;> simp only [intsOf,reduceCtorEq,Option.map_eq_some_iff] at e
  obtain ⟨r,e,rfl⟩:=e
  simp only [av,Rep] at q
  obtain ⟨_,ds,rfl,rfl,q⟩:=q
  simp [Ev.intsOf,qS e q]
theorem xJ:∀ {l:List V}{ds:List D}{bs},strsOf l=some bs→av h S l ds→Ev.strsOf ds=some bs
 | [],_,_,e,q=>by simp only [av] at q;subst q;exact e
 | x :: xs,_,bs,e,q=>by
  cases x <;> simp only [strsOf,reduceCtorEq,Option.map_eq_some_iff] at e
  obtain ⟨r,e,rfl⟩:=e
  simp only [av,Rep] at q
  obtain ⟨_,ds,rfl,rfl,q⟩:=q
  simp [Ev.strsOf,xJ e q]
theorem gi.one {v:V}{ds:List D}(q:gi h S [v] ds):∃ d,ds=[d]∧bg h S v d:=by
 simp only [gi] at q
 obtain ⟨d,es,rfl,a,rfl⟩:=q
 exact ⟨d,rfl,a⟩
theorem Nz {b:BI}{xs:List V}{v:V}{ds:List D}(w:∀ m,S m→m<h.length) (z:cX b xs=some v) (p:gi h S xs ds):∃ r h' S',Ev.cX b ds h=.ok r h'∧Rep h' S' v r∧Al h S h' S':=by
 delta cX at z
 rcases xs with _ | ⟨x,_ | ⟨y,_ | ⟨u,xs⟩⟩⟩
 ·cases b <;> exact nn z
 ·obtain ⟨d,rfl,p1⟩:=p.one
  cases b
  case len=>
   cases x
   case str s=>
    dsimp only at z;simp only [bg,Rep] at p1;subst p1
    split at z
    ·rename_i k;cases z;exact ⟨_,_,S,by delta Ev.cX;dsimp only;rw [if_pos k],rfl,.refl⟩
    ·cases z
   case tup l=>
    dsimp only at z;simp only [bg,Rep] at p1;obtain ⟨es,rfl,p2⟩:=p1
    cases z;exact ⟨_,_,S,rfl,by simp [Rep,p2.length],.refl⟩
   all_goals
    dsimp only at z
    simp only [Option.map_eq_some_iff] at z;obtain ⟨l,z,rfl⟩:=z
    obtain ⟨n,es,rfl,a,q⟩:=mS z p1
    exact ⟨.int es.length,h,S,by delta Ev.cX;dsimp only;simp [a],by simp [Rep,q.length],.refl⟩
  case sum=>
   dsimp only at z
   simp only [Option.map_eq_some_iff,Option.bind_eq_some_iff] at z;obtain ⟨bs,⟨l,z,z2⟩,rfl⟩:=z
   obtain ⟨n,es,rfl,a,q⟩:=mS z p1
   exact ⟨_,_,S,by delta Ev.cX;dsimp only;simp only [a,Option.bind,qS z2 q];rfl,rfl,.refl⟩
  case min=>cases x <;> exact nn z
  case yE=>
   dsimp only at z
   simp only [Option.bind_eq_some_iff] at z;obtain ⟨ss,⟨l,z,z2⟩,z3⟩:=z
   obtain ⟨n,es,rfl,a,q⟩:=mS z p1
   split at z3
   ·rename_i hl
    delta Ev.cX;dsimp only;simp only [a,Option.bind,qS z2 q]
    rw [if_pos hl]
    exact ig w z3 (av.map (f:=V.int) (g:=D.int) (fun s=>by simp [Rep]) _)
   ·cases z3
  case jV=>
   dsimp only at z
   obtain ⟨kvs,z1,z⟩:=Option.bind_eq_some_iff.mp z
   obtain ⟨n,rfl,a⟩:=Nr z1 p1
   by_cases hl:kvs.length<64
   ·rw [if_pos hl] at z
    delta Ev.cX;dsimp only;simp only [Ev.gf,a]
    rw [if_pos hl]
    exact ig w z (av.map (f:=V.int) (g:=D.int) (fun s=>by simp [Rep]) _)
   ·rw [if_neg hl] at z;cases z
 ·cases b
  case min=>
   cases x
   case int i=>
    cases y
    case int j=>
     dsimp only at z
     simp only [gi,bg,Rep] at p;obtain ⟨_,_,rfl,rfl,_,_,rfl,rfl,rfl⟩:=p
     cases z;exact ⟨_,_,S,rfl,rfl,.refl⟩
    all_goals exact nn z
   all_goals exact nn z
  case len=>cases x <;> exact nn z
  all_goals exact nn z
 ·cases b
  case min=>cases x <;> (try cases y) <;> exact nn z
  case len=>cases x <;> exact nn z
  all_goals exact nn z
theorem NB {m:ME}{o:V}{xs:List V}{v:V}{d:D}{ds:List D}(z:fF m o xs=some v) (hm:iN m=false) (po:bg h S o d) (p:gi h S xs ds):Ev.wY m d h=true∧∃ r,Ev.fF m d ds h=.ok r h∧Rep h S v r:=by
 unfold fF at z
 split at z
 ·obtain ⟨d,rfl,p1⟩:=p.one;simp only [bg,Rep] at po;subst po
  simp only [Option.bind_eq_some_iff] at z;obtain ⟨ss,⟨l,z,z2⟩,z3⟩:=z
  obtain ⟨n,es,rfl,a,q⟩:=mS z p1
  split at z3
  ·rename_i k;cases z3
   refine ⟨rfl,_,?_,rfl⟩
   delta Ev.fF;dsimp only;simp only [a,Option.bind,xJ z2 q]
   rw [if_pos k]
  ·cases z3
 ·cases z
theorem J2 {x:V}{d:D}(f:sR x=true) (p:Rep h U x d):Rep [] U x d:=by
 cases x <;> simp only [sR,Bool.false_eq_true] at f <;> exact p
theorem Dw {x:V}{d:D}(p:Rep h U x d):∀ {kvs:List (D×D)}{v:V},g6 x kvs=some v→∃ r,Ev.g6 d kvs=some r∧Rep h S v r:=by
 intro kvs v z
 unfold g6 at z
 split at z
 ·rename_i f
  have p':=J2 f p
  induction kvs with
  | nil=>cases z
  | cons kv r ih=>
   obtain ⟨k,u⟩:=kv
   simp only [y9] at z
   simp only [Ev.g6]
   split at z
   ·rename_i y
    simp only [Option.bind_eq_some_iff] at y
    obtain ⟨k',y1,y2⟩:=y
    rw [kE 1 y2 (mT y1) p']
    exact ⟨u,rfl,mT z⟩
   ·rename_i y
    simp only [Option.bind_eq_some_iff] at y
    obtain ⟨k',y1,y2⟩:=y
    rw [kE 1 y2 (mT y1) p']
    exact ih z
   ·cases z
 ·cases z
theorem Dy {x:V}{l:List V}{d:D}(z:fL x=some l) (p:bg h S x d):∃ s,Ev.fL h d=some s∧av h S l s.1∧(∀ q∈s.2,d=.ref q.1∧bx h q.1=some q.2):=by
 cases x <;> simp only [fL,reduceCtorEq] at z <;> simp only [bg,Rep] at p
 ·subst p;cases z;exact ⟨_,rfl,av.map (f:=fun c=>V.str [c]) (g:=fun c=>D.str [c]) (fun _=>by simp [Rep]) _,by simp⟩
 ·obtain ⟨ds,rfl,p⟩:=p;cases z;exact ⟨_,rfl,p,by simp⟩
 ·obtain ⟨n,ds,rfl,a,p⟩:=p;cases z;exact ⟨(ds,[(n,ds)]),by simp [Ev.fL,iF a],p,by simp [iF a]⟩
 ·obtain ⟨n,ds,rfl,_,a,p⟩:=p;cases z;exact ⟨(ds,[(n,ds)]),by simp [Ev.fL,iZ a],p,by simp [iZ a]⟩
theorem uO (lo:Int) (n:Nat):av h S (range lo n) (Ev.range lo n):=av.map (f:=fun (i:Nat)=>V.int (lo+i)) (g:=fun (i:Nat)=>D.int (lo+i)) (fun _=>by simp [Rep]) _
theorem NC {xs l:List V}{ds:List D}(z:er xs=some l) (p:gi h S xs ds):∃ s,Ev.er ds=some (s,[])∧av h S l s:=by
 unfold er at z
 split at z
 ·obtain ⟨d,rfl,p1⟩:=p.one;simp only [bg,Rep] at p1;subst p1
  split at z
  ·rename_i k;cases z;exact ⟨_,by simp only [Ev.er];rw [if_pos k],uO _ _⟩
  ·cases z
 ·simp only [gi,bg,Rep] at p;obtain ⟨_,_,rfl,rfl,_,_,rfl,rfl,rfl⟩:=p
  split at z
  ·rename_i k;cases z;exact ⟨_,by simp only [Ev.er];rw [if_pos k],uO _ _⟩
  ·cases z
 ·cases z
theorem xK:∀ {a:List V}{ds:List D}(k:Int),av h S a ds→av h S (cJ k a) (Ev.cJ k ds)
 | [],_,_,p=>by simp only [av] at p;subst p;simp [cJ,Ev.cJ,av]
 | x :: xs,_,k,p=>by
  simp only [av] at p
  obtain ⟨d,ds,rfl,p1,p2⟩:=p
  simp only [cJ,Ev.cJ]
  exact .cons ⟨_,rfl,.cons rfl (.cons p1 .nil)⟩ (xK _ p2)
end
end Pv
namespace Pv
open Ev (D O Hh bU bN TY BI ME T E Es Eo It S Ss Fn big deep b2i rep cz dP bL aU cut cS ek slots bx)
noncomputable def kB (M B:Nat→Prop) (h:Hh) (S:Nat→Prop):Option Sl→Option D→Prop
 | none,p=>p=none
 | some (.val v),p=>∃ d,p=some d∧Rep h S v d
 | some (.own l),p=>∃ m ds,p=some (.ref m)∧(M m∧¬ B m)∧h[m]?=some (.lst ds)∧av h S l ds
 | some (.bor l),p=>∃ m ds,p=some (.ref m)∧(M m∧B m)∧h[m]?=some (.lst ds)∧av h S l ds
 | some (.ro l),p=>∃ m ds,p=some (.ref m)∧¬ M m∧h[m]?=some (.lst ds)∧av h S l ds
noncomputable def gS:Option Sl→Bool
 | some (.own _)=>true
 | some (.bor _)=>true
 | _=>false
noncomputable def xN:Option Sl→Bool
 | some (.bor _)=>true
 | some (.ro _)=>true
 | _=>false
noncomputable def locked (fr:Fr) (i:Nat):Bool:=match fr[i]? with
 | some o=>xN o
 | none=>false
structure bG (M B:Nat→Prop) (h:Hh) (S:Nat→Prop) (fr:Fr) (aj:Ev.Fr):Prop where
 wS:∀ m,S m→m<h.length∧¬ M m∧¬ B m
 wM:∀ m,M m→m<h.length
 wB:∀ m,B m→m<h.length
 len:fr.length=aj.length
 sl:∀ (i:Nat) o p,fr[i]?=some o→aj[i]?=some p→kB M B h S o p
 inj:∀ (i j:Nat) o o' m,fr[i]?=some o→fr[j]?=some o'→gS o=true→gS o'=true→aj[i]?=some (some (.ref m))→aj[j]?=some (some (.ref m))→i=j
structure Tk (X:Nat→Prop) (h:Hh) (S:Nat→Prop) (h':Hh) (S':Nat→Prop):Prop where
 len:h.length≤h'.length
 keep:∀ m,m<h.length→¬ X m→h'[m]?=h[m]?
 sub:∀ m,S m→S' m
 new:∀ m,S' m→S m∨(h.length≤m∧m<h'.length)
noncomputable def Xs (M:Nat→Prop) (aj:Ev.Fr) (l:List Nat):Nat→Prop:=fun m=>M m∧∃ i∈l,aj[i]?=some (some (.ref m))
structure Out (M B:Nat→Prop) (c:List Nat) (h:Hh) (S:Nat→Prop) (fr:Fr) (aj:Ev.Fr) (h':Hh) (S':Nat→Prop) (af:Fr):Prop where
 f:bG M B h' S' af aj
 tr:Tk (Xs M aj c) h S h' S'
 lk:∀ i,locked af i=locked fr i
section
variable {M B M':Nat→Prop}{h h' h1 h2:Hh}{S S' S1 S2:Nat→Prop}{fr af au:Fr}{aj:Ev.Fr}{c c1 c2:List Nat}{v:V}{d:D}{X X1 X2:Nat→Prop}
theorem bG.get (f:bG M B h S fr aj) {i:Nat}{o:Option Sl}(e:fr[i]?=some o):∃ p,aj[i]?=some p∧kB M B h S o p:=by
 have h1:=(List.getElem?_eq_some_iff.mp e).1
 rw [f.len] at h1
 exact ⟨aj[i],List.getElem?_eq_getElem h1,f.sl i o _ e (List.getElem?_eq_getElem h1)⟩
theorem bG.w (f:bG M B h S fr aj):∀ m,S m→m<h.length:=fun m q=>(f.wS m q).1
theorem Al.tr (a:Al h S h' S'):Tk X h S h' S':=⟨a.len,fun m q _=>a.keep m q,a.sub,a.new⟩
theorem Tk.al (t:Tk X h S h' S') (z:∀ m,¬ X m):Al h S h' S':=⟨t.len,fun m q=>t.keep m q (z m),t.sub,t.new⟩
theorem Tk.weak (t:Tk X h S h' S') (q:∀ m,X m→X1 m):Tk X1 h S h' S':=⟨t.len,fun m k z=>t.keep m k fun y=>z (q m y),t.sub,t.new⟩
theorem Tk.trans (a:Tk X1 h S h1 S1) (b:Tk X2 h1 S1 h2 S2):Tk (fun m=>X1 m∨X2 m) h S h2 S2 where
 len:=Nat.le_trans a.len b.len
 keep:=fun m q z=>by rw [b.keep m (Nat.lt_of_lt_of_le q a.len) (fun y=>z (.inr y)),a.keep m q (fun y=>z (.inl y))]
 sub:=fun m q=>b.sub m (a.sub m q)
 new:=fun m q=>by
  rcases b.new m q with q | ⟨q1,q2⟩
  ·rcases a.new m q with q | ⟨q1,q2⟩
   ·exact .inl q
   ·exact .inr ⟨q1,Nat.lt_of_lt_of_le q2 b.len⟩
  ·exact .inr ⟨Nat.le_trans a.len q1,q2⟩
theorem Al.trans (a:Al h S h1 S1) (b:Al h1 S1 h2 S2):Al h S h2 S2:=((a.tr (X:=fun _=>False)).trans (b.tr (X:=fun _=>False))).al fun m z=>by simp at z
theorem Tk.refl:Tk X h S h S:=⟨Nat.le_refl _,fun _ _ _=>rfl,fun _ q=>q,fun _ q=>.inl q⟩
theorem Xs.app {l1 l2:List Nat}{m:Nat}:Xs M aj (l1++l2) m↔Xs M aj l1 m∨Xs M aj l2 m:=by
 unfold Xs
 constructor
 ·rintro ⟨a,i,hi,e⟩
  rcases List.mem_append.mp hi with hi | hi
  ·exact .inl ⟨a,i,hi,e⟩
  ·exact .inr ⟨a,i,hi,e⟩
 ·rintro (⟨a,i,hi,e⟩ | ⟨a,i,hi,e⟩)
  ·exact ⟨a,i,List.mem_append.mpr (.inl hi),e⟩
  ·exact ⟨a,i,List.mem_append.mpr (.inr hi),e⟩
theorem Xs.nil {m:Nat}:¬ Xs M aj [] m:=by rintro ⟨_,i,hi,_⟩;simp at hi
theorem Xs.mono {l1 l2:List Nat}(q:∀ i∈l1,i∈l2) {m:Nat}:Xs M aj l1 m→Xs M aj l2 m:=fun ⟨a,i,hi,e⟩=>⟨a,i,q i hi,e⟩
theorem Rep.tr (q:Rep h S v d) (f:bG M B h S fr aj) (t:Tk (Xs M aj c) h S h' S'):Rep h' S' v d:=q.mono (fun m z=>t.keep m (f.wS m z).1 (fun y=>(f.wS m z).2.1 y.1)) t.sub
theorem av.tr {l:List V}{ds:List D}(q:av h S l ds) (f:bG M B h S fr aj) (t:Tk (Xs M aj c) h S h' S'):av h' S' l ds:=q.mono (fun m z=>t.keep m (f.wS m z).1 (fun y=>(f.wS m z).2.1 y.1)) t.sub
theorem bg.tr (q:bg h S v d) (f:bG M B h S fr aj) (t:Tk X h S h' S') (z:∀ m,¬ X m):bg h' S' v d:=q.mono (fun m k=>t.keep m k (z m)) f.w t.sub
theorem kB.al {o:Option Sl}{p:Option D}(q:kB M B h S o p) (w:∀ m,S m→m<h.length) (a:Al h S h' S'):kB M B h' S' o p:=by
 have k:∀ m,S m→h'[m]?=h[m]?:=fun m z=>a.keep m (w m z)
 have g:∀ (m:Nat) (ds:List D),h[m]?=some (O.lst ds)→h'[m]?=some (O.lst ds):=fun m ds z=>by rw [a.keep m (List.getElem?_eq_some_iff.mp z).1];exact z
 rcases o with _ | s
 ·exact q
 ·cases s with
  | val v=>obtain ⟨d,e,q⟩:=q;exact ⟨d,e,q.mono k a.sub⟩
  | own l=>obtain ⟨m,ds,e,z,y,q⟩:=q;exact ⟨m,ds,e,z,g m ds y,q.mono k a.sub⟩
  | bor l=>obtain ⟨m,ds,e,z,y,q⟩:=q;exact ⟨m,ds,e,z,g m ds y,q.mono k a.sub⟩
  | ro l=>obtain ⟨m,ds,e,z,y,q⟩:=q;exact ⟨m,ds,e,z,g m ds y,q.mono k a.sub⟩
theorem bG.al (f:bG M B h S fr aj) (a:Al h S h' S'):bG M B h' S' fr aj where
 wS:=fun m q=>by
  rcases a.new m q with q | ⟨q1,q2⟩
  ·exact ⟨Nat.lt_of_lt_of_le (f.wS m q).1 a.len,(f.wS m q).2⟩
  ·exact ⟨q2,fun z=>by have:=f.wM m z;omega,fun z=>by have:=f.wB m z;omega⟩
 wM:=fun m q=>Nat.lt_of_lt_of_le (f.wM m q) a.len
 wB:=fun m q=>Nat.lt_of_lt_of_le (f.wB m q) a.len
 len:=f.len
 sl:=fun i o p e1 e2=>(f.sl i o p e1 e2).al f.w a
 inj:=f.inj
theorem Out.refl (f:bG M B h S fr aj):Out M B c h S fr aj h S fr:=⟨f,.refl,fun _=>rfl⟩
theorem Out.trans (a:Out M B c1 h S fr aj h1 S1 af) (b:Out M B c2 h1 S1 af aj h2 S2 au):Out M B (c1++c2) h S fr aj h2 S2 au:=⟨b.f,(a.tr.trans b.tr).weak fun m z=>Xs.app.mpr z,fun i=>(b.lk i).trans (a.lk i)⟩
theorem Out.al (a:Out M B c h S fr aj h1 S1 af) (b:Al h1 S1 h2 S2):Out M B c h S fr aj h2 S2 af:=⟨a.f.al b,(a.tr.trans (b.tr (X:=fun _=>False))).weak (fun m z=>by rcases z with z | z;exact z;exact z.elim),a.lk⟩
theorem Out.weak (a:Out M B c h S fr aj h1 S1 af) (q:∀ i∈c,i∈c1):Out M B c1 h S fr aj h1 S1 af:=⟨a.f,a.tr.weak fun m z=>Xs.mono q z,a.lk⟩
noncomputable def gk (k:Bool) (h:Hh) (S:Nat→Prop) (v:V) (d:D):Prop:=if k=true then bg h S v d else Rep h S v d
theorem gk.of {k:Bool}(q:Rep h S v d):gk k h S v d:=by unfold gk;split;exact q.top;exact q
theorem gk.t {k:Bool}(q:gk k h S v d):bg h S v d:=by unfold gk at q;split at q;exact q;exact q.top
theorem gk.n (q:gk false h S v d):Rep h S v d:=by simpa [gk] using q
theorem bG.slot (f:bG M B h S fr aj) {i m:Nat}(e:aj[i]?=some (some (.ref m))) (hm:M m):∃ o,fr[i]?=some o∧gS o=true:=by
 have hl:i<fr.length:=by rw [f.len];exact (List.getElem?_eq_some_iff.mp e).1
 refine ⟨fr[i],List.getElem?_eq_getElem hl,?_⟩
 have s:=f.sl i _ _ (List.getElem?_eq_getElem hl) e
 revert s
 generalize fr[i]=o
 intro s
 rcases o with _ | s'
 ·cases s
 ·cases s' with
  | own l=>rfl
  | bor l=>rfl
  | ro l=>obtain ⟨m',ds,e,y,_⟩:=s;cases e;exact absurd hm y
  | val v=>
   obtain ⟨d,e,q⟩:=s
   cases e
   exfalso
   cases v <;> simp only [Rep,reduceCtorEq] at q
   ·obtain ⟨_,e,_⟩:=q;cases e
   ·obtain ⟨n,ds,e,sn,_⟩:=q;cases e;exact (f.wS _ sn).2.1 hm
   ·obtain ⟨n,ds,e,sn,_⟩:=q;cases e;exact (f.wS _ sn).2.1 hm
   ·obtain ⟨n,e,sn,_⟩:=q;cases e;exact (f.wS _ sn).2.1 hm
theorem gk.tr {k:Bool}{a:E}(q:gk k h S v d) (f:bG M B h S fr aj) (t:Tk (Xs M aj c) h S h' S') (hk:k=true→kf a c=true) (ha:∀ i,a=.v i→aj[i]?.join=some d):gk k h' S' v d:=by
 unfold gk at q ⊢
 split at q
 ·rename_i e
  rw [if_pos e]
  have hk:=hk e
  have gen:c=[]→bg h' S' v d:=fun z=>q.tr f t fun m y=>by subst z;exact Xs.nil y
  by_cases hv:∃ i,a=.v i
  ·obtain ⟨i0,rfl⟩:=hv
   simp only [kf,Bool.not_eq_true',List.contains_eq_mem,decide_eq_false_iff_not] at hk
   cases v
   case lst l=>
    simp only [bg] at q ⊢
    obtain ⟨n,ds,rfl,b1,b2⟩:=q
    refine ⟨n,ds,rfl,?_,b2.tr f t⟩
    rw [t.keep n (List.getElem?_eq_some_iff.mp b1).1 ?_]
    ·exact b1
    ·rintro ⟨mn,j,hj,ej⟩
     have e2:aj[i0]?=some (some (D.ref n)):=by
      have:=ha i0 rfl
      cases z:aj[i0]? with
      | none=>rw [z] at this;cases this
      | some p=>rw [z] at this;simp at this;rw [this]
     obtain ⟨o1,y1,y2⟩:=f.slot e2 mn
     obtain ⟨o2,y3,y4⟩:=f.slot ej mn
     have:=f.inj i0 j o1 o2 n y1 y3 y2 y4 e2 ej
     subst this
     exact hk hj
   all_goals exact Rep.tr (show Rep h S _ d from q) f t
  ·have:kf a c=c.isEmpty:=by
    cases a <;> first | rfl | exact absurd ⟨_,rfl⟩ hv
   rw [this,List.isEmpty_iff] at hk
   exact gen hk
 ·rename_i e
  rw [if_neg e]
  exact q.tr f t
theorem J3 {k:Bool}{i:Nat}(e:qR k fr i=some v) (f:bG M B h S fr aj):∃ d,aj[i]?.join=some d∧gk k h S v d:=by
  unfold qR at e
  split at e
  · rename_i z
    obtain ⟨p,e1,q⟩:=f.get z
    obtain ⟨d,rfl,q⟩:=q
    cases e
    exact ⟨d,by rw [e1];rfl,.of q⟩
  all_goals first
    | (rename_i z
       obtain ⟨p,e1,q⟩:=f.get z
       obtain ⟨m,ds,rfl,_,y,q⟩:=q
       split at e
       · rename_i hk
         cases e
         exact ⟨.ref m,by rw [e1];rfl,by unfold gk;rw [if_pos hk];exact ⟨m,ds,rfl,y,q⟩⟩
       · cases e)
    | cases e
theorem jr {i:Nat}{s:Sl}(e:lent fr i=some s) (f:bG M B h S fr aj):∃ m ds l o,fr[i]?=some o∧aj[i]?=some (some (.ref m))∧h[m]?=some (.lst ds)∧av h S l ds∧((s=.bor l∧M m∧gS o=true)∨(s=.ro l∧¬ M m∧o=some (.ro l))):=by
 unfold lent at e
 split at e
 ·rename_i s' z
  obtain ⟨p,e1,q⟩:=f.get z
  cases s' with
  | val v=>simp [Sl.lend] at e
  | own l=>
   simp [Sl.lend] at e;subst e
   obtain ⟨m,ds,rfl,y,y1,q⟩:=q
   exact ⟨m,ds,l,_,z,e1,y1,q,.inl ⟨rfl,y.1,rfl⟩⟩
  | bor l=>
   simp [Sl.lend] at e;subst e
   obtain ⟨m,ds,rfl,y,y1,q⟩:=q
   exact ⟨m,ds,l,_,z,e1,y1,q,.inl ⟨rfl,y.1,rfl⟩⟩
  | ro l=>
   simp [Sl.lend] at e;subst e
   obtain ⟨m,ds,rfl,y,y1,q⟩:=q
   exact ⟨m,ds,l,_,z,e1,y1,q,.inr ⟨rfl,y,rfl⟩⟩
 ·cases e
noncomputable def uP (h:Hh) (S:Nat→Prop) (aj:Ev.Fr):List (Nat ⊕ V)→List D→Prop
 | [],ds=>ds=[]
 | .inl i :: r,ds=>∃ d es,ds=d :: es∧aj[i]?=some (some d)∧uP h S aj r es
 | .inr v :: r,ds=>∃ d es,ds=d :: es∧Rep h S v d∧uP h S aj r es
noncomputable def mU (h:Hh) (S:Nat→Prop):List Sl→List D→List (List V)→Prop
 | [],_,os=>os=[]
 | .val _ :: sl,ds,os=>∃ d es,ds=d :: es∧mU h S sl es os
 | .own _ :: _,_,_=>False
 | _ :: sl,ds,os=>∃ d es l r m cs,ds=d :: es∧os=l :: r∧d=.ref m∧h[m]?=some (.lst cs)∧av h S l cs∧mU h S sl es r
noncomputable def pU (P:aT) (P':Ev.aT):Prop:=∀ f sl v os,P f sl=some (v,os)→∀ (h:Hh) (S B:Nat→Prop) (ds:List D),bG B B h S (sl.map some) (ds.map some)→
 ∃ d h' S',P' f ds h=.ok d h'∧Rep h' S' v d∧Tk B h S h' S'∧mU h' S' sl ds os
theorem args_get (f:bG M B h S fr aj):∀ {as:List (Nat ⊕ V)}{sl:List Sl}{ds:List D},args fr as=some sl→uP h S aj as ds→sl.length=ds.length∧∀ (a:Nat) s d,sl[a]?=some s→ds[a]?=some d→
  (∃ i,as[a]?=some (.inl i)∧lent fr i=some s∧aj[i]?=some (some d))∨(∃ v,s=.val v∧Rep h S v d)
 | [],sl,ds,e,q=>by
  simp [args] at e;simp only [uP] at q;subst e q;simp
 | .inl i :: r,sl,ds,e,q=>by
  simp only [args,Option.bind_eq_some_iff,Option.map_eq_some_iff] at e
  obtain ⟨s,e1,l,e2,rfl⟩:=e
  obtain ⟨d,es,rfl,q1,q⟩:=q
  obtain ⟨h1,h2⟩:=args_get f e2 q
  refine ⟨by simp [h1],fun a s' d' z1 z2=>?_⟩
  cases a with
  | zero=>simp at z1 z2;subst z1 z2;exact .inl ⟨i,by simp,e1,q1⟩
  | succ a=>exact (h2 a s' d' (by simpa using z1) (by simpa using z2)).imp (fun ⟨i,k,z⟩=>⟨i,by simpa using k,z⟩) id
 | .inr v :: r,sl,ds,e,q=>by
  simp only [args,Option.map_eq_some_iff] at e
  obtain ⟨l,e2,rfl⟩:=e
  obtain ⟨d,es,rfl,q1,q⟩:=q
  obtain ⟨h1,h2⟩:=args_get f e2 q
  refine ⟨by simp [h1],fun a s' d' z1 z2=>?_⟩
  cases a with
  | zero=>simp at z1 z2;subst z1 z2;exact .inr ⟨v,rfl,q1⟩
  | succ a=>exact (h2 a s' d' (by simpa using z1) (by simpa using z2)).imp (fun ⟨i,k,z⟩=>⟨i,by simpa using k,z⟩) id
theorem gT:∀ {as:List (Nat ⊕ V)}{a i:Nat},as[a]?=some (.inl i)→i∈bR as
 | [],_,_,e=>by simp at e
 | .inl j :: r,0,i,e=>by simp at e;subst e;simp [bR]
 | .inr j :: r,0,i,e=>by simp at e
 | .inl j :: r,a+1,i,e=>by have:=gT (as:=r) (a:=a) (i:=i) (by simpa using e);simp [bR,this]
 | .inr j :: r,a+1,i,e=>by have:=gT (as:=r) (a:=a) (i:=i) (by simpa using e);simp [bR,this]
theorem mV:∀ {as:List (Nat ⊕ V)}{a b i:Nat},(bR as).Nodup→as[a]?=some (.inl i)→as[b]?=some (.inl i)→a=b
 | [],_,_,_,_,e,_=>by simp at e
 | x :: r,0,0,_,_,_,_=>rfl
 | .inr j :: r,0,b+1,i,n,e,_=>by simp at e
 | .inl j :: r,0,b+1,i,n,e,e2=>by
  simp at e;subst e
  simp only [bR,List.nodup_cons] at n
  exact absurd (gT (as:=r) (a:=b) (by simpa using e2)) n.1
 | .inr j :: r,a+1,0,i,n,_,e=>by simp at e
 | .inl j :: r,a+1,0,i,n,e2,e=>by
  simp at e;subst e
  simp only [bR,List.nodup_cons] at n
  exact absurd (gT (as:=r) (a:=a) (by simpa using e2)) n.1
 | .inl j :: r,a+1,b+1,i,n,e1,e2=>by
  simp only [bR,List.nodup_cons] at n
  have:=mV (as:=r) (a:=a) (b:=b) (i:=i) n.2 (by simpa using e1) (by simpa using e2)
  omega
 | .inr j :: r,a+1,b+1,i,n,e1,e2=>by
  simp only [bR] at n
  have:=mV (as:=r) (a:=a) (b:=b) (i:=i) n (by simpa using e1) (by simpa using e2)
  omega
theorem Dz {s:Sl}{l:List V}:gS (some (s.with l))=gS (some s):=by cases s <;> rfl
theorem xO {s:Sl}{l:List V}:xN (some (s.with l))=xN (some s):=by cases s <;> rfl
theorem uQ:∀ {is:List Nat}{ls:List (List V)}{fr af:Fr},back is ls fr=some af→is.Nodup→af.length=fr.length∧(∀ i,i∉is→af[i]?=fr[i]?)∧∀ i∈is,∃ (k:Nat) (s:Sl) (l:List V),is[k]?=some i∧ls[k]?=some l∧fr[i]?=some (some s)∧af[i]?=some (some (s.with l))
 | [],[],fr,af,e,_=>by simp [back] at e;subst e;simp
 | [],_ :: _,_,_,e,_=>by simp [back] at e
 | _ :: _,[],_,_,e,_=>by simp [back] at e
 | i :: is,l :: ls,fr,af,e,n=>by
  simp only [back] at e
  simp only [List.nodup_cons] at n
  split at e
  ·rename_i s z
   obtain ⟨h1,h2,h3⟩:=uQ e n.2
   refine ⟨by simpa using h1,fun j hj=>?_,fun j hj=>?_⟩
   ·simp at hj
    rw [h2 j hj.2,List.getElem?_set_ne (fun q=>hj.1 q.symm)]
   ·rcases List.mem_cons.mp hj with rfl | hj
    ·exact ⟨0,s,l,by simp,by simp,z,by rw [h2 j n.1,List.getElem?_set_self (List.getElem?_eq_some_iff.mp z).1]⟩
    ·obtain ⟨k,s',l',a,b,c,d⟩:=h3 j hj
     have hne:i≠j:=fun q=>n.1 (q▸hj)
     rw [List.getElem?_set_ne hne] at c
     exact ⟨k+1,s',l',by simpa using a,by simpa using b,c,d⟩
  ·cases e
theorem mW (f:bG M B h S fr aj):∀ {as:List (Nat ⊕ V)}{sl:List Sl}{ds:List D}{os:List (List V)},args fr as=some sl→uP h S aj as ds→mU h' S' sl ds os→
  ∀ (k i:Nat) l,(bR as)[k]?=some i→os[k]?=some l→∃ m cs,aj[i]?=some (some (.ref m))∧h'[m]?=some (.lst cs)∧av h' S' l cs
 | [],sl,ds,os,e,q,o=>by simp [bR]
 | .inl i :: r,sl,ds,os,e,q,o=>by
  simp only [args,Option.bind_eq_some_iff,Option.map_eq_some_iff] at e
  obtain ⟨s,e1,l,e2,rfl⟩:=e
  obtain ⟨d,es,rfl,q1,q⟩:=q
  obtain ⟨m,cs,l0,o0,_,z2,z3,z4,z5⟩:=jr e1 f
  have key:∃ l1 r1 cs,os=l1 :: r1∧h'[m]?=some (.lst cs)∧av h' S' l1 cs∧mU h' S' l es r1:=by
   rw [q1] at z2;cases z2
   rcases z5 with ⟨rfl,_⟩ | ⟨rfl,_⟩
   ·obtain ⟨d',es',l1,r1,m1,Bh,a1,a2,a3,a4,a5,a6⟩:=o
    cases a1;cases a3
    exact ⟨l1,r1,Bh,a2,a4,a5,a6⟩
   ·obtain ⟨d',es',l1,r1,m1,Bh,a1,a2,a3,a4,a5,a6⟩:=o
    cases a1;cases a3
    exact ⟨l1,r1,Bh,a2,a4,a5,a6⟩
  obtain ⟨l1,r1,Bh,rfl,a4,a5,a6⟩:=key
  intro k j l' y1 y2
  cases k with
  | zero=>simp [bR] at y1 y2;subst y1 y2;exact ⟨m,Bh,z2,a4,a5⟩
  | succ k=>exact mW f e2 q a6 k j l' (by simpa [bR] using y1) (by simpa using y2)
 | .inr v :: r,sl,ds,os,e,q,o=>by
  simp only [args,Option.map_eq_some_iff] at e
  obtain ⟨l,e2,rfl⟩:=e
  obtain ⟨d,es,rfl,q1,q⟩:=q
  obtain ⟨d',es',a1,a2⟩:=o
  cases a1
  intro k j l' y1 y2
  exact mW f e2 q a2 k j l' (by simpa [bR] using y1) y2
theorem lg:∀ {as:List (Nat ⊕ V)}{sl:List Sl}{i:Nat},args fr as=some sl→i∈bR as→∃ s,lent fr i=some s
 | [],_,_,_,q=>by simp [bR] at q
 | .inl j :: r,_,i,z,q=>by
  simp only [args,Option.bind_eq_some_iff,Option.map_eq_some_iff] at z
  obtain ⟨s,e1,l,e2,rfl⟩:=z
  simp [bR] at q
  rcases q with rfl | q
  ·exact ⟨s,e1⟩
  ·exact lg e2 q
 | .inr u :: r,_,i,z,q=>by
  simp only [args,Option.map_eq_some_iff] at z
  obtain ⟨l,e2,rfl⟩:=z
  exact lg e2 (by simpa [bR] using q)
theorem DA {P:aT}{P':Ev.aT}(HP:pU P P') {g:Nat}{as:List (Nat ⊕ V)}{ds:List D}(e:ez P g as fr=.ok v af) (f:bG M B h S fr aj) (q:uP h S aj as ds) :
  ∃ d h' S',P' g ds h=.ok d h'∧Rep h' S' v d∧Out M B (bR as) h S fr aj h' S' af:=by
 unfold ez at e
 split at e
 case isFalse=>cases e
 rename_i nd
 cases z:args fr as with
 | none=>rw [z] at e;cases e
 | some sl=>
 rw [z] at e
 simp only at e
 cases z2:P g sl with
 | none=>rw [z2] at e;cases e
 | some vo=>
 obtain ⟨v',os⟩:=vo
 rw [z2] at e
 simp only at e
 cases z3:back (bR as) os fr with
 | none=>rw [z3] at e;cases e
 | some au=>
 rw [z3] at e
 simp at e
 obtain ⟨rfl,rfl⟩:=e
 obtain ⟨hl,hg⟩:=args_get f z q
 let B0:Nat→Prop:=fun m=>∃ i o,i∈bR as∧fr[i]?=some o∧gS o=true∧aj[i]?=some (some (.ref m))
 have pV:∀ m,B0 m→M m:=fun m ⟨i,o,_,a,b,c⟩=>by
  have s:=f.sl i o _ a c
  rcases o with _ | s'
  ·cases b
  ·cases s' with
   | val v=>cases b
   | ro l=>cases b
   | own l=>obtain ⟨m',ds',e,y,_⟩:=s;cases e;exact y.1
   | bor l=>obtain ⟨m',ds',e,y,_⟩:=s;cases e;exact y.1
 have F0:bG B0 B0 h S (sl.map some) (ds.map some):=by
  refine ⟨fun m y=>⟨(f.wS m y).1,fun z=>(f.wS m y).2.1 (pV m z),fun z=>(f.wS m y).2.1 (pV m z)⟩,fun m y=>f.wM m (pV m y),fun m y=>f.wM m (pV m y),by simp [hl],fun a o p y1 y2=>?_,fun a b o o' m y1 y2 y3 y4 y5 y6=>?_⟩
  ·simp at y1 y2
   obtain ⟨s,y1,rfl⟩:=y1
   obtain ⟨d,y2,rfl⟩:=y2
   rcases hg a s d y1 y2 with ⟨i,k1,k2,k3⟩ | ⟨u,rfl,k⟩
   ·obtain ⟨m,cs,l0,o0,w1,w2,w3,w4,w5⟩:=jr k2 f
    rw [k3] at w2;cases w2
    rcases w5 with ⟨rfl,w6,w7⟩ | ⟨rfl,w6,w7⟩
    ·exact ⟨m,cs,rfl,⟨⟨i,o0,gT k1,w1,w7,k3⟩,⟨i,o0,gT k1,w1,w7,k3⟩⟩,w3,w4⟩
    ·exact ⟨m,cs,rfl,fun z=>w6 (pV m z),w3,w4⟩
   ·exact ⟨d,rfl,k⟩
  ·simp at y1 y2 y5 y6
   obtain ⟨s,y1,rfl⟩:=y1
   obtain ⟨s',y2,rfl⟩:=y2
   rcases hg a s _ y1 y5 with ⟨i,k1,k2,k3⟩ | ⟨u,rfl,k⟩
   ·rcases hg b s' _ y2 y6 with ⟨j,k4,k5,k6⟩ | ⟨u,rfl,k⟩
    ·obtain ⟨m1,_,l1,o1,w1,w2,_,_,w5⟩:=jr k2 f
     obtain ⟨m2,_,l2,o2,x1,x2,_,_,x5⟩:=jr k5 f
     have i1:gS o1=true:=by rcases w5 with ⟨_,_,w7⟩ | ⟨rfl,_,_⟩;exact w7;cases y3
     have i2:gS o2=true:=by rcases x5 with ⟨_,_,w7⟩ | ⟨rfl,_,_⟩;exact w7;cases y4
     have:=f.inj i j o1 o2 m w1 x1 i1 i2 k3 k6
     subst this
     exact mV nd k1 k4
    ·cases y4
   ·cases y3
 obtain ⟨d,h',S',c1,c2,c3,c4⟩:=HP g sl v' os z2 h S B0 ds F0
 obtain ⟨b1,b2,b3⟩:=uQ z3 nd
 have hL:=mW f z q c4
 have pW:∀ m,S m→h'[m]?=h[m]?:=fun m y=>c3.keep m (f.wS m y).1 (fun z=>(f.wS m y).2.1 (pV m z))
 refine ⟨d,h',S',c1,c2,⟨?_,?_,?_⟩⟩
 ·refine ⟨fun m y=>?_,fun m y=>Nat.lt_of_lt_of_le (f.wM m y) c3.len,fun m y=>Nat.lt_of_lt_of_le (f.wB m y) c3.len,by rw [b1,f.len],fun i o p y1 y2=>?_,fun i j o o' m y1 y2 y3 y4 y5 y6=>?_⟩
  ·rcases c3.new m y with y | ⟨y1,y2⟩
   ·exact ⟨Nat.lt_of_lt_of_le (f.wS m y).1 c3.len,(f.wS m y).2⟩
   ·exact ⟨y2,fun z=>by have:=f.wM m z;omega,fun z=>by have:=f.wB m z;omega⟩
  ·by_cases hi:i∈bR as
   ·obtain ⟨k,s,l,w1,w2,w3,w4⟩:=b3 i hi
    rw [w4] at y1;cases y1
    obtain ⟨m,cs,x1,x2,x3⟩:=hL k i l w1 w2
    rw [x1] at y2;cases y2
    have old:=f.sl i _ _ w3 x1
    cases s with
    | val u=>
     exfalso
     have:∃ s,lent fr i=some s:=lg z hi
     obtain ⟨s,hs⟩:=this
     simp [lent,w3,Sl.lend] at hs
    | own u=>obtain ⟨m',ds',e,y,_⟩:=old;cases e;exact ⟨m,cs,rfl,y,x2,x3⟩
    | bor u=>obtain ⟨m',ds',e,y,_⟩:=old;cases e;exact ⟨m,cs,rfl,y,x2,x3⟩
    | ro u=>
     obtain ⟨m',ds',e,y,y1,y2⟩:=old;cases e
     refine ⟨m,ds',rfl,y,?_,y2.mono pW c3.sub⟩
     rw [c3.keep m (List.getElem?_eq_some_iff.mp y1).1 (fun z=>y (pV m z))];exact y1
   ·rw [b2 i hi] at y1
    have old:=f.sl i o p y1 y2
    rcases o with _ | s
    ·exact old
    ·cases s with
     | val u=>obtain ⟨d,e,q⟩:=old;exact ⟨d,e,q.mono pW c3.sub⟩
     | own u=>
      obtain ⟨m,ds',rfl,w1,w2,w3⟩:=old
      refine ⟨m,ds',rfl,w1,?_,w3.mono pW c3.sub⟩
      rw [c3.keep m (f.wM m w1.1) (fun ⟨j,o2,x1,x2,x3,x4⟩=>hi (f.inj i j _ o2 m y1 x2 rfl x3 y2 x4▸x1))];exact w2
     | bor u=>
      obtain ⟨m,ds',rfl,w1,w2,w3⟩:=old
      refine ⟨m,ds',rfl,w1,?_,w3.mono pW c3.sub⟩
      rw [c3.keep m (f.wM m w1.1) (fun ⟨j,o2,x1,x2,x3,x4⟩=>hi (f.inj i j _ o2 m y1 x2 rfl x3 y2 x4▸x1))];exact w2
     | ro u=>
      obtain ⟨m,ds',rfl,w1,w2,w3⟩:=old
      refine ⟨m,ds',rfl,w1,?_,w3.mono pW c3.sub⟩
      rw [c3.keep m (List.getElem?_eq_some_iff.mp w2).1 (fun z=>w1 (pV m z))];exact w2
  ·have kind:∀ (i:Nat) o,au[i]?=some o→gS o=true→∃ o0,fr[i]?=some o0∧gS o0=true:=fun i o w1 w2=>by
    by_cases hi:i∈bR as
    ·obtain ⟨k,s,l,x1,x2,x3,x4⟩:=b3 i hi
     rw [x4] at w1;cases w1
     exact ⟨_,x3,by rw [Dz] at w2;exact w2⟩
    ·rw [b2 i hi] at w1;exact ⟨o,w1,w2⟩
   obtain ⟨oi,k1,k2⟩:=kind i o y1 y3
   obtain ⟨oj,k3,k4⟩:=kind j o' y2 y4
   exact f.inj i j oi oj m k1 k3 k2 k4 y5 y6
 ·exact c3.weak fun m z=>⟨pV m z,by obtain ⟨i,o,a1,a2,a3,a4⟩:=z;exact ⟨i,a1,a4⟩⟩
 ·intro i
  unfold locked
  by_cases hi:i∈bR as
  ·obtain ⟨k,s,l,x1,x2,x3,x4⟩:=b3 i hi
   rw [x3,x4];exact xO
  ·rw [b2 i hi]
end
end Pv
namespace Pv
open Ev (D O Hh)
theorem DB (k:List (Int×List Nat)) (p:Int) (s:List Nat):(Ev.fK k p s).length≤k.length+1:=by
 unfold Ev.fK;split <;> simp
theorem Gx {P:Ev.aT}{w:Nat}{d0 d3:D}{n:Nat}:∀ (s:List Nat) (k:List (Int×List Nat)) (p:Int) (o:Option D) (h:Hh),h[n]?=some (.dct k)→k.length+s.length≤100000→
  ∃ o',Ev.forL (fun d au h2=>match Ev.bD (.one 4) d au with | some bZ=>Ev.exs P w Gw bZ h2 | none=>.bad) [] (s.map fun c=>.str [c]) [some d0,some (.ref n),some (.int p),some d3,o] h=.ok (.nx,[some d0,some (.ref n),some (.int (p+s.length)),some d3,o']) (h.set n (.dct (jG k p s)))
 | [],k,p,o,h,hn,_=>⟨o,by
  simp only [List.map_nil,Ev.forL,jG]
  have:h.set n (.dct k)=h:=by
   obtain ⟨hl,e⟩:=List.getElem?_eq_some_iff.mp hn
   rw [←e];exact List.set_getElem_self hl
  rw [this];simp [Ev.stays]⟩
 | c :: s,k,p,o,h,hn,hk=>by
  have hl:=(List.getElem?_eq_some_iff.mp hn).1
  have h1:=DB k p [c]
  simp only [List.length_cons] at hk
  obtain ⟨o',ih⟩:=Gx (P:=P) (w:=w) (d0:=d0) (d3:=d3) (n:=n) s (Ev.fK k p [c]) (p+1) (some (.str [c])) (h.set n (.dct (Ev.fK k p [c]))) (by rw [List.getElem?_set_self hl]) (by omega)
  refine ⟨o',?_⟩
  have kb:k.length<Ev.big:=Nat.lt_of_le_of_lt (show k.length≤100000 by omega) (by decide)
  have st:Ev.exs P w Gw [some d0,some (.ref n),some (.int p),some d3,some (.str [c])] h=.ok (.nx,[some d0,some (.ref n),some (.int (p+1)),some d3,some (.str [c])]) (h.set n (.dct (Ev.fK k p [c]))):=by
   simp [Gw,Ev.exs,Ev.ex,Ev.ev,Ev.R.bind,Ev.R.of,Ev.sU,hn,kb,Ev.bQ]
  simp only [List.map_cons,Ev.forL,Ev.bD,List.set]
  rw [st]
  simp only [Ev.ao]
  simp only [Ev.bD] at ih
  rw [ih,List.set_set]
  have e2:p+1+(s.length:Int)=p+((s.length+1:Nat):Int):=by omega
  simp [Ev.stays,jG,e2]
theorem ND {v:V}{l:List V}{p:Int}{k k':List (Int×List Nat)}(e:bM (v :: l) p k=some k'):(∃ s,v=.tup [.str [100,114,111,112],.str s]∧k.length+s.length≤100000∧bM l (p+s.length) (jG k p s)=some k')∨
  (∃ i,v=.tup [.str [107,101,101,112],.int i]∧bM l (p+i) k=some k')∨∃ w s,v=.tup [.str w,.str s]∧w≠[100,114,111,112]∧w≠[107,101,101,112]∧bM l p k=some k':=by
 match v,e with
 | .tup [.str w,.str s],e=>
  rw [bM] at e
  by_cases h1:w=[100,114,111,112]
  ·rw [if_pos h1] at e
   by_cases h2:k.length+s.length≤100000
   ·rw [if_pos h2] at e;exact .inl ⟨s,by rw [h1],h2,e⟩
   ·rw [if_neg h2] at e;cases e
  ·rw [if_neg h1] at e
   by_cases h2:w=[107,101,101,112]
   ·rw [if_pos h2] at e;cases e
   ·rw [if_neg h2] at e;exact .inr (.inr ⟨w,s,rfl,h1,h2,e⟩)
 | .tup [.str w,.int i],e=>
  rw [bM] at e
  by_cases h2:w=[107,101,101,112]
  ·rw [if_pos h2] at e;exact .inr (.inl ⟨i,by rw [h2],e⟩)
  ·rw [if_neg h2] at e;cases e
 | .tup [],e=>simp [bM] at e
 | .tup [_],e=>simp [bM] at e
 | .tup (_ :: _ :: _ :: _),e=>simp [bM] at e
 | .bf,e=>simp [bM] at e
 | .bl _,e=>simp [bM] at e
 | .int _,e=>simp [bM] at e
 | .str _,e=>simp [bM] at e
 | .lst _,e=>simp [bM] at e
 | .bS _,e=>simp [bM] at e
 | .dct _,e=>simp [bM] at e
 | .tup [.bf,_],e=>simp [bM] at e
 | .tup [.bl _,_],e=>simp [bM] at e
 | .tup [.int _,_],e=>simp [bM] at e
 | .tup [.tup _,_],e=>simp [bM] at e
 | .tup [.lst _,_],e=>simp [bM] at e
 | .tup [.bS _,_],e=>simp [bM] at e
 | .tup [.dct _,_],e=>simp [bM] at e
 | .tup [.str _,.bf],e=>simp [bM] at e
 | .tup [.str _,.bl _],e=>simp [bM] at e
 | .tup [.str _,.tup _],e=>simp [bM] at e
 | .tup [.str _,.lst _],e=>simp [bM] at e
 | .tup [.str _,.bS _],e=>simp [bM] at e
 | .tup [.str _,.dct _],e=>simp [bM] at e
theorem Gy {P:Ev.aT}{w:Nat}{d0:D}{n:Nat}{h0:Hh}{S:Nat→Prop}:∀ (l:List V) (ds:List D) (k k':List (Int×List Nat)) (p:Int) (o3 o4:Option D) (h:Hh),av h0 S l ds→h[n]?=some (.dct k)→bM l p k=some k'→
  ∃ p' Bj Bk,Ev.forL (fun d au h2=>match Ev.bD (.one 3) d au with | some bZ=>Ev.exs P w uK bZ h2 | none=>.bad) [] ds [some d0,some (.ref n),some (.int p),o3,o4] h=.ok (.nx,[some d0,some (.ref n),some (.int p'),Bj,Bk]) (h.set n (.dct k'))
 | [],ds,k,k',p,o3,o4,h,q,hn,e=>by
  simp only [av] at q
  subst q
  simp only [bM] at e
  cases e
  refine ⟨p,o3,o4,?_⟩
  have:h.set n (.dct k)=h:=by
   obtain ⟨hl,e⟩:=List.getElem?_eq_some_iff.mp hn
   rw [←e];exact List.set_getElem_self hl
  rw [this];simp [Ev.forL,Ev.stays]
 | v :: l,ds,k,k',p,o3,o4,h,q,hn,e=>by
  have hl:=(List.getElem?_eq_some_iff.mp hn).1
  simp only [av] at q
  obtain ⟨d,es,rfl,q1,q2⟩:=q
  have go:∀ (k1:List (Int×List Nat)) (p1:Int) (o':Option D),Ev.exs P w uK [some d0,some (.ref n),some (.int p),some d,o4] h=.ok (.nx,[some d0,some (.ref n),some (.int p1),some d,o']) (h.set n (.dct k1))→bM l p1 k1=some k'→∃ p' Bj Bk,Ev.forL (fun d au h2=>match Ev.bD (.one 3) d au with | some bZ=>Ev.exs P w uK bZ h2 | none=>.bad) [] (d :: es) [some d0,some (.ref n),some (.int p),o3,o4] h=.ok (.nx,[some d0,some (.ref n),some (.int p'),Bj,Bk]) (h.set n (.dct k')):=fun k1 p1 o' st e1=>by
   obtain ⟨p',Bj,Bk,ih⟩:=Gy (P:=P) (w:=w) (d0:=d0) (n:=n) l es k1 k' p1 (some d) o' (h.set n (.dct k1)) q2 (by rw [List.getElem?_set_self hl]) e1
   refine ⟨p',Bj,Bk,?_⟩
   simp only [Ev.forL,Ev.bD,List.set]
   rw [st]
   simp only [Ev.ao]
   simp only [Ev.bD] at ih
   rw [ih,List.set_set]
   simp [Ev.stays]
  have hs:h.set n (.dct k)=h:=by
   obtain ⟨hl,e⟩:=List.getElem?_eq_some_iff.mp hn
   rw [←e];exact List.set_getElem_self hl
  rcases ND e with ⟨s,rfl,hk,e1⟩ | ⟨i,rfl,e1⟩ | ⟨w0,s,rfl,h1,h2,e1⟩
  ·simp only [Rep,av] at q1
   obtain ⟨_,rfl,d1,_,rfl,rfl,d2,_,rfl,rfl,rfl⟩:=q1
   obtain ⟨o',hin⟩:=Gx (P:=P) (w:=w) (d0:=d0) (d3:=.tup [.str [100,114,111,112],.str s]) (n:=n) s k p o4 h hn hk
   refine go _ _ o' ?_ e1
   simp only [Ev.bD] at hin
   simp [uK,Ev.exs,Ev.ex,Ev.aM,Ev.ev,Ev.R.bind,Ev.R.of,Ev.eF,Ev.bL,Ev.dP,Ev.cop,Ev.gA,Ev.deep,Ev.truthy,Ev.cL,Ev.fL,Ev.bD,hin]
  ·simp only [Rep,av] at q1
   obtain ⟨_,rfl,d1,_,rfl,rfl,d2,_,rfl,rfl,rfl⟩:=q1
   refine go k (p+i) o4 ?_ e1
   rw [hs]
   simp [uK,Ev.exs,Ev.ex,Ev.aM,Ev.ev,Ev.R.bind,Ev.R.of,Ev.eF,Ev.bL,Ev.dP,Ev.cop,Ev.gA,Ev.deep,Ev.truthy,Ev.bQ]
  ·simp only [Rep,av] at q1
   obtain ⟨_,rfl,d1,_,rfl,rfl,d2,_,rfl,rfl,rfl⟩:=q1
   refine go k p o4 ?_ e1
   rw [hs]
   simp [uK,Ev.exs,Ev.ex,Ev.aM,Ev.ev,Ev.R.bind,Ev.R.of,Ev.eF,Ev.bL,Ev.dP,Ev.cop,Ev.gA,Ev.deep,Ev.truthy,Ev.bQ,h1,h2]
theorem NF {F:List Ev.Fn}{w n f:Nat}{l:List V}{k:List (Int×List Nat)}{d:D}{h:Hh}{S:Nat→Prop}(hf:F[f]?=some jF) (q:Rep h S (.tup l) d) (e:bM l 0 []=some k):Ev.run F w (n+1) f [d] h=.ok (.ref h.length) (h++[.dct k]):=by
 simp only [Rep] at q
 obtain ⟨dl,rfl,q⟩:=q
 obtain ⟨p',o3,o4,g⟩:=Gy (P:=Ev.run F w n) (w:=w) (d0:=.tup dl) (n:=h.length) l dl [] k 0 none none (h++[.dct []]) q (by simp) e
 have hs:(h++[O.dct []]).set h.length (.dct k)=h++[.dct k]:=by simp
 rw [hs] at g
 simp only [Ev.bD] at g
 simp only [Ev.run,hf]
 show Ev.endOf (Ev.exs (Ev.run F w n) w jF.body [some (.tup dl),none,none,none,none] h)=_
 simp [jF,Ev.exs,Ev.ex,Ev.ev,Ev.R.bind,Ev.R.of,Ev.cL,Ev.fL,Ev.bD,g,Ev.endOf]
theorem NG {fn:Ev.Fn}{sl:List Sl}{v:V}{os:List (List V)}(e:xG fn sl=some (v,os)):fn=jF∧∃ l k,sl=[.val (.tup l)]∧bM l 0 []=some k∧v=.dct k∧os=[]:=by
 unfold xG at e
 split at e
 ·rename_i h
  refine ⟨h,?_⟩
  split at e
  ·rename_i l
   obtain ⟨k,e1,e2⟩:=Option.map_eq_some_iff.mp e
   cases e2
   exact ⟨l,k,rfl,e1,rfl,rfl⟩
  ·cases e
 ·cases e
end Pv
namespace Pv
open Ev (D O Hh bU bN TY BI ME T E Es Eo It S Ss Fn big deep b2i rep cz dP bL aU cut cS ek slots bx)
section
variable {M B M':Nat→Prop}{h h' h1 h2:Hh}{S S' S1 S2:Nat→Prop}{fr af au:Fr}{aj:Ev.Fr}{c c1 c2:List Nat}{v:V}{d:D}
theorem kF {n m:Nat}{o:O}(q:n≠m):(h.set n o)[m]?=h[m]?:=List.getElem?_set_ne q
theorem bG.mM (f:bG M B h S fr aj) {i n:Nat}{o:Option Sl}(e:fr[i]?=some o) (hM:gS o=true) (e':aj[i]?=some (some (.ref n))):M n:=by
 have s:=f.sl i o _ e e'
 rcases o with _ | s'
 ·cases hM
 ·cases s' with
  | val v=>cases hM
  | ro l=>cases hM
  | own l=>obtain ⟨m',ds',e,y,_⟩:=s;cases e;exact y.1
  | bor l=>obtain ⟨m',ds',e,y,_⟩:=s;cases e;exact y.1
theorem bG.write (f:bG M B h S fr aj) {i n:Nat}{s:Sl}{l':List V}{ds':List D}(e:fr[i]?=some (some s)) (hM:gS (some s)=true) (e':aj[i]?=some (some (.ref n))) (q:av h S l' ds') :
  bG M B (h.set n (.lst ds')) S (fr.set i (some (s.with l'))) aj:=by
 have mn:=f.mM e hM e'
 have kp:∀ m,S m→(h.set n (.lst ds'))[m]?=h[m]?:=fun m z=>kF fun y=>(f.wS m z).2.1 (y▸mn)
 have il:=(List.getElem?_eq_some_iff.mp e).1
 refine ⟨fun m y=>by simpa using f.wS m y,fun m y=>by simpa using f.wM m y,fun m y=>by simpa using f.wB m y,by simp [f.len],fun j o p y1 y2=>?_,fun j k o o' m y1 y2 y3 y4 y5 y6=>?_⟩
 ·by_cases hj:i=j
  ·subst hj
   rw [List.getElem?_set_self il] at y1
   cases y1
   rw [e'] at y2;cases y2
   have old:=f.sl i _ _ e e'
   have hn:(h.set n (.lst ds'))[n]?=some (.lst ds'):=List.getElem?_set_self (f.wM n mn)
   cases s with
   | val v=>cases hM
   | ro l=>cases hM
   | own l=>obtain ⟨m',_,e,y,_⟩:=old;cases e;exact ⟨n,ds',rfl,y,hn,q.mono kp fun _ z=>z⟩
   | bor l=>obtain ⟨m',_,e,y,_⟩:=old;cases e;exact ⟨n,ds',rfl,y,hn,q.mono kp fun _ z=>z⟩
  ·rw [List.getElem?_set_ne hj] at y1
   have old:=f.sl j o p y1 y2
   rcases o with _ | s'
   ·exact old
   ·cases s' with
    | val u=>obtain ⟨d,e,q⟩:=old;exact ⟨d,e,q.mono kp fun _ z=>z⟩
    | own u=>
     obtain ⟨m,es,rfl,w1,w2,w3⟩:=old
     refine ⟨m,es,rfl,w1,?_,w3.mono kp fun _ z=>z⟩
     rw [kF fun (z:n=m)=>hj (f.inj i j _ _ n e y1 hM rfl e' (by rw [z];exact y2))];exact w2
    | bor u=>
     obtain ⟨m,es,rfl,w1,w2,w3⟩:=old
     refine ⟨m,es,rfl,w1,?_,w3.mono kp fun _ z=>z⟩
     rw [kF fun (z:n=m)=>hj (f.inj i j _ _ n e y1 hM rfl e' (by rw [z];exact y2))];exact w2
    | ro u=>
     obtain ⟨m,es,rfl,w1,w2,w3⟩:=old
     refine ⟨m,es,rfl,w1,?_,w3.mono kp fun _ z=>z⟩
     rw [kF fun (z:n=m)=>w1 (z▸mn)];exact w2
 ·have kind:∀ (j:Nat) o,(fr.set i (some (s.with l')))[j]?=some o→gS o=true→∃ o0,fr[j]?=some o0∧gS o0=true:=fun j o w1 w2=>by
   by_cases hj:i=j
   ·subst hj;exact ⟨_,e,hM⟩
   ·rw [List.getElem?_set_ne hj] at w1;exact ⟨o,w1,w2⟩
  obtain ⟨oi,k1,k2⟩:=kind j o y1 y3
  obtain ⟨oj,k3,k4⟩:=kind k o' y2 y4
  exact f.inj j k oi oj m k1 k3 k2 k4 y5 y6
theorem NH {m:ME}{l l':List V}{xs:List V}{n:Nat}{ds es:List D}(z:jZ m l xs=some (v,l')) (e:h[n]?=some (.lst ds)) (q:av h S l ds) (p:gi h S xs es) (p':Bf m=false→av h S xs es) (hS:∀ k,S k→k≠n) :
  ∃ r ds',Ev.fF m (.ref n) es h=.ok r (h.set n (.lst ds'))∧Rep h S v r∧av h S l' ds':=by
 unfold jZ at z
 split at z
 ·have p':=p' rfl
  split at z
  ·rename_i k
   cases z
   simp only [av] at p'
   obtain ⟨d,_,rfl,p1,rfl⟩:=p'
   refine ⟨_,_,?_,rfl,q.append (.cons p1 .nil)⟩
   delta Ev.fF;dsimp only;simp only [e]
   rw [if_pos (by rw [←q.length];exact k)]
  ·cases z
 ·split at z
  ·rename_i k
   cases z
   obtain ⟨d,rfl,p1⟩:=p.one
   simp only [bg] at p1
   obtain ⟨n2,cs,rfl,e2,p1⟩:=p1
   refine ⟨_,_,?_,rfl,q.append p1⟩
   delta Ev.fF;dsimp only;simp only [e,e2]
   rw [if_pos (by rw [←q.length,←p1.length];exact k)]
  ·cases z
 ·simp only [gi] at p
  subst p
  split at z
  ·rename_i x y
   cases z
   obtain ⟨d,k1,k2⟩:=q.get y
   refine ⟨d,_,?_,k2,q.dropLast⟩
   delta Ev.fF;dsimp only;simp only [e]
   rw [←q.length,k1]
  ·cases z
 ·cases z
theorem bG.set (f:bG M B h S fr aj) {i:Nat}(e:put fr i (.val v)=some af) (q:Rep h S v d):bG M B h S af (aj.set i (some d))∧(∀ j,locked af j=locked fr j)∧∀ j,locked fr j=true→(aj.set i (some d))[j]?=aj[j]?:=by
 have hx:af=fr.set i (some (.val v))∧locked fr i=false:=by
  unfold put at e
  unfold locked
  split at e
  ·cases e
  ·cases e
  ·rename_i k1 k2
   cases e
   refine ⟨rfl,?_⟩
   cases z:fr[i]? with
   | none=>rfl
   | some o=>
    rcases o with _ | s
    ·rfl
    ·cases s with
     | bor l=>exact absurd z (k1 l)
     | ro l=>exact absurd z (k2 l)
     | _=>rfl
 obtain ⟨rfl,hk⟩:=hx
 have lk:∀ j,locked (fr.set i (some (.val v))) j=locked fr j:=fun j=>by
  by_cases hj:i=j
  ·subst hj
   rw [hk]
   unfold locked
   by_cases hl:i<fr.length
   ·rw [List.getElem?_set_self hl];rfl
   ·rw [List.getElem?_eq_none (by simpa using hl)]
  ·unfold locked;rw [List.getElem?_set_ne hj]
 refine ⟨⟨f.wS,f.wM,f.wB,by simp [f.len],fun j o p y1 y2=>?_,fun j k o o' m y1 y2 y3 y4 y5 y6=>?_⟩,lk,fun j hj=>?_⟩
 ·by_cases hj:i=j
  ·subst hj
   have hl:i<fr.length:=by have:=(List.getElem?_eq_some_iff.mp y1).1;simpa using this
   rw [List.getElem?_set_self hl] at y1
   rw [List.getElem?_set_self (by rw [←f.len];exact hl)] at y2
   cases y1;cases y2
   exact ⟨d,rfl,q⟩
  ·rw [List.getElem?_set_ne hj] at y1 y2
   exact f.sl j o p y1 y2
 ·have hn:∀ (j:Nat) o,(fr.set i (some (.val v)))[j]?=some o→gS o=true→i≠j:=fun j o w1 w2 w3=>by
   subst w3
   have hl:i<fr.length:=by have:=(List.getElem?_eq_some_iff.mp w1).1;simpa using this
   rw [List.getElem?_set_self hl] at w1
   cases w1;cases w2
  have n1:=hn j o y1 y3
  have n2:=hn k o' y2 y4
  rw [List.getElem?_set_ne n1] at y1 y5
  rw [List.getElem?_set_ne n2] at y2 y6
  exact f.inj j k o o' m y1 y2 y3 y4 y5 y6
 ·have:i≠j:=fun z=>by subst z;rw [hk] at hj;cases hj
  rw [List.getElem?_set_ne this]
theorem bG.cR:∀ {is:List Nat}{vs:List V}{ds:List D}{fr af:Fr}{aj:Ev.Fr},bG M B h S fr aj→cR is vs fr=some af→av h S vs ds→∃ bP,Ev.cR is ds aj=some bP∧bG M B h S af bP∧(∀ j,locked af j=locked fr j)∧∀ j,locked fr j=true→bP[j]?=aj[j]?
 | [],[],ds,fr,af,aj,f,e,q=>by
  simp [Pv.cR] at e;simp only [av] at q;subst e q
  exact ⟨aj,rfl,f,fun _=>rfl,fun _ _=>rfl⟩
 | [],_ :: _,_,_,_,_,_,e,_=>by simp [Pv.cR] at e
 | _ :: _,[],_,_,_,_,_,e,_=>by simp [Pv.cR] at e
 | i :: is,v :: vs,ds,fr,af,aj,f,e,q=>by
  simp only [Pv.cR,Option.bind_eq_some_iff] at e
  obtain ⟨au,e1,e2⟩:=e
  simp only [av] at q
  obtain ⟨d,es,rfl,q1,q2⟩:=q
  obtain ⟨f2,l2,r2⟩:=f.set e1 q1
  obtain ⟨bP,a,f3,l3,r3⟩:=f2.cR e2 q2
  exact ⟨bP,a,f3,fun j=>(l3 j).trans (l2 j),fun j hj=>(r3 j (by rw [l2 j];exact hj)).trans (r2 j hj)⟩
theorem bG.bD (f:bG M B h S fr aj) {t:T}(e:bD t v fr=some af) (q:Rep h S v d):∃ bP,Ev.bD t d aj=some bP∧bG M B h S af bP∧(∀ j,locked af j=locked fr j)∧∀ j,locked fr j=true→bP[j]?=aj[j]?:=by
 cases t with
 | one i=>exact ⟨_,rfl,f.set e q⟩
 | many l=>
  cases v <;> simp only [Pv.bD,reduceCtorEq] at e
  simp only [Rep] at q
  obtain ⟨ds,rfl,q⟩:=q
  exact f.cR e q
theorem bG.undef (f:bG M B h S fr aj) {t:T}(e:undef t fr=true):Ev.undef t aj=true:=by
 unfold Pv.undef at e
 unfold Ev.undef
 rw [List.all_eq_true] at e ⊢
 intro i hi
 have:=e i hi
 cases z:fr[i]? with
 | none=>
  have:aj[i]?=none:=by
   rw [List.getElem?_eq_none_iff] at z ⊢
   rw [←f.len];exact z
  rw [this];rfl
 | some o=>
  obtain ⟨p,e1,q⟩:=f.get z
  rw [z] at this
  rcases o with _ | s
  ·simp only [kB] at q;subst q;rw [e1];rfl
  ·simp at this
theorem xP {i:Nat}{o:Option Sl}(e:(sD fr)[i]?=some o):∃ o0,fr[i]?=some o0∧o=o0.map Sl.read:=by
 unfold sD at e
 rw [List.getElem?_map] at e
 cases z:fr[i]? with
 | none=>rw [z] at e;cases e
 | some o0=>rw [z] at e;cases e;exact ⟨o0,rfl,rfl⟩
theorem bG.ro (f:bG M B h S fr aj):bG (fun _=>False) B h S (sD fr) aj:=by
 refine ⟨fun m y=>⟨(f.wS m y).1,id,(f.wS m y).2.2⟩,fun m y=>y.elim,f.wB,by simp [sD,f.len],fun i o p y1 y2=>?_,fun i j o o' m y1 y2 y3 y4 y5 y6=>?_⟩
 ·obtain ⟨o0,z,rfl⟩:=xP y1
  have q:=f.sl i o0 p z y2
  rcases o0 with _ | s
  ·exact q
  ·cases s with
   | val v=>exact q
   | own l=>obtain ⟨m,ds,a,b,c,d⟩:=q;exact ⟨m,ds,a,id,c,d⟩
   | bor l=>obtain ⟨m,ds,a,b,c,d⟩:=q;exact ⟨m,ds,a,id,c,d⟩
   | ro l=>obtain ⟨m,ds,a,b,c,d⟩:=q;exact ⟨m,ds,a,id,c,d⟩
 ·obtain ⟨o0,z,rfl⟩:=xP y1
  rcases o0 with _ | s
  ·cases y3
  ·cases s <;> cases y3
theorem jH:∀ {ck:List (Nat×List D)},(∀ q∈ck,bx h q.1=some q.2)→Ev.stays h ck=true
 | [],_=>rfl
 | (n,ds) :: r,q=>by
  simp only [Ev.stays,Bool.and_eq_true]
  refine ⟨?_,jH fun x hx=>q x (List.mem_cons_of_mem _ hx)⟩
  rw [q (n,ds) (List.mem_cons_self ..)]
  exact Ev.yG _
theorem lu {n:Nat}{ds:List D}(q:bx h n=some ds) (k:h'[n]?=h[n]?):bx h' n=some ds:=by
 unfold bx at q ⊢;rw [k];exact q
theorem pX {n:Nat}{ds:List D}(q:bx h n=some ds):n<h.length:=by
 unfold bx at q
 cases z:h[n]? with
 | none=>rw [z] at q;cases q
 | some o=>exact (List.getElem?_eq_some_iff.mp z).1
noncomputable def DC (h:Hh) (S:Nat→Prop):Option V→Option D→Prop
 | none,o=>o=none
 | some v,o=>∃ d,o=some d∧Rep h S v d
theorem xQ {f:V→Option (Option V)}{f':D→Hh→Ev.R (Option D)}{ck:List (Nat×List D)}{h0:Hh}{S0:Nat→Prop}(w0:∀ m,S0 m→m<h0.length) (st:∀ q∈ck,bx h0 q.1=some q.2)
  (turn:∀ v o d h S,Al h0 S0 h S→f v=some o→Rep h S v d→∃ o' h' S',f' d h=.ok o' h'∧DC h' S' o o'∧Al h S h' S') :
  ∀ {vs:List V} {ds:List D} {rs:List V} {h:Hh} {S:Nat→Prop},Al h0 S0 h S→cT f vs=some rs→av h S vs ds→∃ rs' h' S',Ev.cT f' ck ds h=.ok rs' h'∧av h' S' rs rs'∧Al h S h' S'
 | [],ds,rs,h,S,a,e,q=>by
  simp [cT] at e;simp only [av] at q;subst e q
  refine ⟨[],h,S,?_,.nil,.refl⟩
  simp only [Ev.cT]
  rw [if_pos (jH fun x hx=>lu (st x hx) (a.keep _ (pX (st x hx))))]
 | v :: vs,ds,rs,h,S,a,e,q=>by
  simp only [cT,Option.bind_eq_some_iff] at e
  obtain ⟨o,e1,r,e2,e3⟩:=e
  cases e3
  simp only [av] at q
  obtain ⟨d,es,rfl,q1,q2⟩:=q
  have w:∀ m,S m→m<h.length:=fun m z=>by
   rcases a.new m z with z | z
   ·exact Nat.lt_of_lt_of_le (w0 m z) a.len
   ·exact z.2
  obtain ⟨o',h1,S1,t1,t2,t3⟩:=turn v o d h S a e1 q1
  obtain ⟨rs',h2,S2,u1,u2,u3⟩:=xQ w0 st turn (a.trans t3) e2 (q2.mono (fun m z=>t3.keep m (w m z)) t3.sub)
  have w1:∀ m,S1 m→m<h1.length:=fun m z=>by
   rcases t3.new m z with z | z
   ·exact Nat.lt_of_lt_of_le (w m z) t3.len
   ·exact z.2
  refine ⟨o'.toList++rs',h2,S2,?_,?_,t3.trans u3⟩
  ·simp only [Ev.cT]
   rw [if_pos (jH fun x hx=>lu (st x hx) (a.keep _ (pX (st x hx)))),t1,Ev.ao,u1,Ev.ao]
  ·cases o with
   | none=>simp only [DC] at t2;subst t2;simpa using u2
   | some v'=>
    simp only [DC] at t2
    obtain ⟨d',rfl,t2⟩:=t2
    exact .cons (t2.mono (fun m z=>u3.keep m (w1 m z)) u3.sub) u2
end
noncomputable def jf (k:Bool) (h:Hh) (S:Nat→Prop) (v:List V) (d:List D):Prop:=if k=true then gi h S v d else av h S v d
inductive NI (P':Ev.aT) (e:E) (k:Bool) (v:V) (M B:Nat→Prop) (h:Hh) (S:Nat→Prop) (fr:Fr) (aj:Ev.Fr) (af:Fr):Prop
 | mk (d:D) (h':Hh) (S':Nat→Prop) (c0:Ev.ev P' e aj h=.ok d h') (c1:gk k h' S' v d) (c2:Out M B (bF e) h S fr aj h' S' af):NI P' e k v M B h S fr aj af
inductive NJ (P':Ev.aT) (e:E) (b:Bool) (M B:Nat→Prop) (h:Hh) (S:Nat→Prop) (fr:Fr) (aj:Ev.Fr) (af:Fr):Prop
 | mk (h':Hh) (S':Nat→Prop) (c0:Ev.aM P' e aj h=.ok b h') (c1:Out M B (bF e) h S fr aj h' S' af):NJ P' e b M B h S fr aj af
inductive NK (P':Ev.aT) (e:Es) (k:Bool) (v:List V) (M B:Nat→Prop) (h:Hh) (S:Nat→Prop) (fr:Fr) (aj:Ev.Fr) (af:Fr):Prop
 | mk (d:List D) (h':Hh) (S':Nat→Prop) (c0:Ev.cj P' e aj h=.ok d h') (c1:jf k h' S' v d) (c2:Out M B (gj e) h S fr aj h' S' af):NK P' e k v M B h S fr aj af
inductive NL (P':Ev.aT) (e:Es) (v:List (Nat ⊕ V)) (M B:Nat→Prop) (h:Hh) (S:Nat→Prop) (fr:Fr) (aj:Ev.Fr) (af:Fr):Prop
 | mk (d:List D) (h':Hh) (S':Nat→Prop) (c0:Ev.cj P' e aj h=.ok d h') (c1:uP h' S' aj v d) (c2:Out M B (gj e) h S fr aj h' S' af):NL P' e v M B h S fr aj af
inductive NN (P':Ev.aT) (e:Eo) (v:Option Int) (M B:Nat→Prop) (h:Hh) (S:Nat→Prop) (fr:Fr) (aj:Ev.Fr) (af:Fr):Prop
 | mk (h':Hh) (S':Nat→Prop) (c0:Ev.gg P' e aj h=.ok v h') (c1:Out M B (kc e) h S fr aj h' S' af):NN P' e v M B h S fr aj af
inductive NO (P':Ev.aT) (e:Eo) (v:Bool) (M B:Nat→Prop) (h:Hh) (S:Nat→Prop) (fr:Fr) (aj:Ev.Fr) (af:Fr):Prop
 | mk (h':Hh) (S':Nat→Prop) (c0:Ev.g7 P' e aj h=.ok v h') (c1:Out M B (kc e) h S fr aj h' S' af):NO P' e v M B h S fr aj af
inductive NP (P':Ev.aT) (e:It) (k:Bool) (v:List V) (M B:Nat→Prop) (h:Hh) (S:Nat→Prop) (fr:Fr) (aj:Ev.Fr) (af:Fr):Prop
 | mk (s:Ev.Src) (h':Hh) (S':Nat→Prop) (c0:Ev.cL P' e aj h=.ok s h') (c1:av h' S' v s.1) (c2:∀ q∈s.2,bx h' q.1=some q.2∧(k=false→¬ M q.1)) (c3:Out M B (Du e) h S fr aj h' S' af):NP P' e k v M B h S fr aj af
section
variable (P:aT)(P':Ev.aT)
noncomputable def br (e:E):Prop:=∀ {k:Bool} {fr:Fr} {v:V} {af:Fr} {M B:Nat→Prop} {h:Hh} {S:Nat→Prop} {aj:Ev.Fr},ev P k e fr=.ok v af→bG M B h S fr aj→NI P' e k v M B h S fr aj af
noncomputable def gM (e:E):Prop:=∀ {fr:Fr} {b:Bool} {af:Fr} {M B:Nat→Prop} {h:Hh} {S:Nat→Prop} {aj:Ev.Fr},aM P e fr=.ok b af→bG M B h S fr aj→NJ P' e b M B h S fr aj af
noncomputable def jg (e:Es):Prop:=∀ {k:Bool} {fr:Fr} {v:List V} {af:Fr} {M B:Nat→Prop} {h:Hh} {S:Nat→Prop} {aj:Ev.Fr},cj P k e fr=.ok v af→bG M B h S fr aj→NK P' e k v M B h S fr aj af
noncomputable def pY (e:Es):Prop:=∀ {fr:Fr} {v:List (Nat ⊕ V)} {af:Fr} {M B:Nat→Prop} {h:Hh} {S:Nat→Prop} {aj:Ev.Fr},gh P e fr=.ok v af→bG M B h S fr aj→NL P' e v M B h S fr aj af
noncomputable def pZ (e:Eo):Prop:=∀ {fr:Fr} {v:Option Int} {af:Fr} {M B:Nat→Prop} {h:Hh} {S:Nat→Prop} {aj:Ev.Fr},gg P e fr=.ok v af→bG M B h S fr aj→NN P' e v M B h S fr aj af
noncomputable def tu (e:Eo):Prop:=∀ {fr:Fr} {v:Bool} {af:Fr} {M B:Nat→Prop} {h:Hh} {S:Nat→Prop} {aj:Ev.Fr},g7 P e fr=.ok v af→bG M B h S fr aj→NO P' e v M B h S fr aj af
noncomputable def ly (e:It):Prop:=∀ {k:Bool} {fr:Fr} {v:List V} {af:Fr} {M B:Nat→Prop} {h:Hh} {S:Nat→Prop} {aj:Ev.Fr},cL P k e fr=.ok v af→bG M B h S fr aj→NP P' e k v M B h S fr aj af
end
section
variable {P:aT}{P':Ev.aT}{a b e tt:E}{es:Es}{lo hi:Eo}{it:It}
theorem NQ {d:D}:br P P' (.c d):=fun z f=>by
 simp only [ev] at z
 replace z:=aQ z;obtain ⟨z,y0⟩:=z;subst y0
 exact ⟨d,_,_,by simp only [Ev.ev],.of (mT z),.refl f⟩
theorem NR {i:Nat}:br P P' (.v i):=fun z f=>by
 simp only [ev] at z
 replace z:=aQ z;obtain ⟨z,y0⟩:=z;subst y0
 obtain ⟨d,e1,q⟩:=J3 z f
 exact ⟨d,_,_,by simp only [Ev.ev,e1,Ev.dJ],q,.refl f⟩
theorem jf.n {h:Hh}{S:Nat→Prop}{v:List V}{d:List D}(q:jf false h S v d):av h S v d:=by simpa [jf] using q
theorem av.tl {h:Hh}{S:Nat→Prop}:∀ {v:List V}{d:List D},av h S v d→gi h S v d
 | [],_,q=>q
 | _ :: _,_,⟨d,es,a,b,q⟩=>⟨d,es,a,b.top,q.tl⟩
theorem jf.t {k:Bool}{h:Hh}{S:Nat→Prop}{v:List V}{d:List D}(q:jf k h S v d):gi h S v d:=by
 unfold jf at q
 split at q
 ·exact q
 ·exact q.tl
theorem Bm (is:jg P P' es):br P P' (.tup es):=fun z f=>by
 simp only [ev] at z
 obtain ⟨ds,au,z1,z2⟩:=ai z
 replace z2:=aQ z2;obtain ⟨z2,y0⟩:=z2;subst y0
 obtain ⟨ds',h',S',e1,q,o⟩:=is z1 f
 unfold jE at z2
 split at z2
 ·rename_i hk
  cases z2
  refine ⟨.tup ds',h',S',?_,.of ⟨ds',rfl,q.n⟩,o⟩
  simp only [Ev.ev,e1,Ev.ao]
  rw [if_pos (by rw [←q.n.length];exact hk)]
 ·cases z2
theorem Bo (is:jg P P' es):br P P' (.lst es):=fun z f=>by
 simp only [ev] at z
 obtain ⟨ds,au,z1,z2⟩:=ai z
 replace z2:=aQ z2;obtain ⟨z2,y0⟩:=z2;subst y0
 obtain ⟨ds',h',S',e1,q,o⟩:=is z1 f
 obtain ⟨r,h2,S2,a1,a2,a3⟩:=ig o.f.w z2 q.n
 exact ⟨r,h2,S2,by simp only [Ev.ev,e1,Ev.ao,a1],.of a2,o.al a3⟩
theorem nN {a:E}{aj:Ev.Fr}{h h1:Hh}{d:D}(e:Ev.ev P' a aj h=.ok d h1):∀ i,a=.v i→aj[i]?.join=some d:=fun i hi=>by
 subst hi
 simp only [Ev.ev] at e
 exact (Ev.aQ e).1
theorem two (ia:br P P' a)(ib:br P P' b){α:Type}{X:V→V→Fr→R α}{u:α}{fr bS:Fr}{M B:Nat→Prop}{h:Hh}{S:Nat→Prop}{aj:Ev.Fr}
  (z:((ev P (kf a (bF b)) a fr).bind fun x af=>(ev P true b af).bind fun y au=>X x y au)=.ok u bS) (f:bG M B h S fr aj) :
  ∃ x y d e h2 S2 au,(∀ {β:Type} (g:D→D→Hh→Ev.R β),((Ev.ev P' a aj h).bind fun x h1=>(Ev.ev P' b aj h1).bind fun y h2=>g x y h2)=g d e h2)∧X x y au=.ok u bS∧bg h2 S2 x d∧bg h2 S2 y e∧Out M B (bF a++bF b) h S fr aj h2 S2 au:=by
 replace z:=ai z;obtain ⟨x,af,z1,z⟩:=z
 replace z:=ai z;obtain ⟨y,au,z2,z⟩:=z
 obtain ⟨d,h1,S1,e1,q1,o1⟩:=ia z1 f
 obtain ⟨e,h2,S2,e2,q2,o2⟩:=ib z2 o1.f
 exact ⟨x,y,d,e,h2,S2,au,fun g=>by rw [e1,Ev.ao,e2,Ev.ao],z,(q1.tr o1.f o2.tr id (nN e1)).t,q2.t,o1.trans o2⟩
theorem Bp {o:bU}(ia:br P P' a) (ib:br P P' b):br P P' (.bin o a b):=fun z f=>by
 simp only [ev] at z
 replace z:=two ia ib z f;obtain ⟨x,y,d,e,h2,S2,au,k,z,q1,q2,ou⟩:=z
 replace z:=aQ z;obtain ⟨z,y0⟩:=z;subst y0
 obtain ⟨r,h3,S3,a1,a2,a3⟩:=Nt ou.f.w z q1 q2
 exact ⟨r,h3,S3,by simp only [Ev.ev];rw [k];exact a1,.of a2,ou.al a3⟩
theorem Bq {o:bN}(ia:br P P' a) (ib:br P P' b):br P P' (.cmp o a b):=fun z f=>by
 simp only [ev] at z
 replace z:=two ia ib z f;obtain ⟨x,y,d,e,h2,S2,au,k,z,q1,q2,ou⟩:=z
 replace z:=aQ z;obtain ⟨z,y0⟩:=z;subst y0
 simp only [Option.map_eq_some_iff] at z
 obtain ⟨b,z,rfl⟩:=z
 exact ⟨.bl b,h2,S2,by simp only [Ev.ev];rw [k,Nu z q1.u q2.u];rfl,.of rfl,ou⟩
theorem Gz (ia:br P P' a) (ib:br P P' b):br P P' (.ix a b):=fun z f=>by
 simp only [ev] at z
 replace z:=two ia ib z f;obtain ⟨x,y,d,e,h2,S2,au,k,z,q1,q2,ou⟩:=z
 replace z:=aQ z;obtain ⟨z,y0⟩:=z;subst y0
 obtain ⟨r,a1,a2⟩:=Nv z q1 q2
 exact ⟨r,h2,S2,by simp only [Ev.ev];rw [k,a1];rfl,.of a2,ou⟩
theorem J4 {x y v:V}{d e:D}{h:Hh}{S:Nat→Prop}(z:o8 x y=some v) (p:bg h S x d) (q:bg h S y e):∃ r,Ev.uh d e h=some r∧Rep h S v r:=by
 unfold o8 at z
 split at z
 ·simp only [bg,Rep] at p q
  obtain ⟨n,rfl,_,p⟩:=p
  subst q
  obtain ⟨s,e1,rfl⟩:=Option.map_eq_some_iff.mp z
  exact ⟨.str s,by simp [Ev.uh,Ev.gf,p,e1],rfl⟩
 ·cases z
theorem Br (ia:br P P' a) (ib:br P P' b):br P P' (.jX a b):=fun z f=>by
 simp only [ev] at z
 replace z:=two ia ib z f;obtain ⟨x,y,d,e,h2,S2,au,k,z,q1,q2,ou⟩:=z
 replace z:=aQ z;obtain ⟨z,y0⟩:=z;subst y0
 obtain ⟨r,a1,a2⟩:=J4 z q1 q2
 exact ⟨r,h2,S2,by simp only [Ev.ev];rw [k,a1];rfl,.of a2,ou⟩
theorem Bs {c:E}(ia:br P P' a) (ib:br P P' b) (ic:br P P' c):br P P' (.lZ a b c):=fun z f=>by
 simp only [ev] at z
 replace z:=ai z;obtain ⟨x,af,z1,z⟩:=z
 replace z:=ai z;obtain ⟨y,au,z2,z⟩:=z
 replace z:=ai z;obtain ⟨u,bZ,z3,z⟩:=z
 replace z:=aQ z;obtain ⟨z,y0⟩:=z;subst y0
 obtain ⟨d,h1,S1,e1,q1,o1⟩:=ia z1 f
 obtain ⟨e,h2,S2,e2,q2,o2⟩:=ib z2 o1.f
 obtain ⟨g,h3,S3,e3,q3,o3⟩:=ic z3 o2.f
 have p0:=q1.t
 have p1:=(q1.tr o1.f (o2.trans o3).tr id (nN e1)).t
 have p2:=(q2.tr o2.f o3.tr id (nN e2)).t
 have p3:Rep h3 S3 u g:=q3
 unfold o9 at z
 split at z
 ·cases z
  simp only [bg,Rep] at p0 p1 p2
  obtain ⟨n,rfl,_,p0⟩:=p0
  obtain ⟨n',en,_,p1⟩:=p1
  cases en
  subst p2
  rename_i kvs k _ _
  cases hv:Ev.fk kvs k with
  | none=>exact ⟨g,h3,S3,by simp only [Ev.ev,e1,Ev.ao,e2,e3];simp [Ev.um,Ev.gf,p0,p1,hv,Ev.dJ],.of p3,o1.trans (o2.trans o3)⟩
  | some s=>exact ⟨.str s,h3,S3,by simp only [Ev.ev,e1,Ev.ao,e2,e3];simp [Ev.um,Ev.gf,p0,p1,hv,Ev.dJ],.of rfl,o1.trans (o2.trans o3)⟩
 ·cases z
theorem S8 (ia:br P P' a):br P P' (.nt a):=fun z f=>by
 simp only [ev] at z
 replace z:=ai z;obtain ⟨x,af,z1,z⟩:=z
 obtain ⟨d,h1,S1,e1,q1,o1⟩:=ia z1 f
 cases x <;> simp only [reduceCtorEq] at z
 cases z
 have q:=q1.t
 simp only [bg,Rep] at q
 subst q
 exact ⟨_,h1,S1,by simp only [Ev.ev,e1,Ev.ao],.of rfl,o1⟩
theorem Bt (ia:br P P' a):br P P' (.neg a):=fun z f=>by
 simp only [ev] at z
 replace z:=ai z;obtain ⟨x,af,z1,z⟩:=z
 obtain ⟨d,h1,S1,e1,q1,o1⟩:=ia z1 f
 cases x <;> simp only [reduceCtorEq] at z
 cases z
 have q:=q1.t
 simp only [bg,Rep] at q
 subst q
 exact ⟨_,h1,S1,by simp only [Ev.ev,e1,Ev.ao],.of rfl,o1⟩
theorem S9 (ia:br P P' a) (ib:br P P' b):br P P' (.an a b):=fun z f=>by
 simp only [ev] at z
 replace z:=ai z;obtain ⟨x,af,z1,z⟩:=z
 obtain ⟨d,h1,S1,e1,q1,o1⟩:=ia z1 f
 cases x <;> try (cases z;done)
 rename_i k
 have q:=q1.t
 simp only [bg,Rep] at q
 subst q
 cases k with
 | true=>
  try simp only at z
  obtain ⟨d,h2,S2,e2,q2,o2⟩:=ib z o1.f
  exact ⟨d,h2,S2,by simp only [Ev.ev,e1,Ev.ao,e2],q2,o1.trans o2⟩
 | false=>
  try simp only at z
  cases z
  exact ⟨_,h1,S1,by simp only [Ev.ev,e1,Ev.ao],.of rfl,o1.weak (by simp only [bF];intro i hi;simp [hi])⟩
theorem NS (ia:br P P' a) (ib:br P P' b):br P P' (.orr a b):=fun z f=>by
 simp only [ev] at z
 replace z:=ai z;obtain ⟨x,af,z1,z⟩:=z
 obtain ⟨d,h1,S1,e1,q1,o1⟩:=ia z1 f
 cases x <;> try (cases z;done)
 rename_i k
 have q:=q1.t
 simp only [bg,Rep] at q
 subst q
 cases k with
 | false=>
  try simp only at z
  obtain ⟨d,h2,S2,e2,q2,o2⟩:=ib z o1.f
  exact ⟨d,h2,S2,by simp only [Ev.ev,e1,Ev.ao,e2],q2,o1.trans o2⟩
 | true=>
  try simp only at z
  cases z
  exact ⟨_,h1,S1,by simp only [Ev.ev,e1,Ev.ao],.of rfl,o1.weak (by simp only [bF];intro i hi;simp [hi])⟩
theorem Bu (it:gM P P' tt) (ia:br P P' a) (ib:br P P' b):br P P' (.jW tt a b):=fun z f=>by
 simp only [ev] at z
 replace z:=ai z;obtain ⟨k,af,z1,z⟩:=z
 obtain ⟨h1,S1,e1,o1⟩:=it z1 f
 cases k with
 | true=>
  simp only [if_true] at z
  obtain ⟨d,h2,S2,e2,q2,o2⟩:=ia z o1.f
  exact ⟨d,h2,S2,by simp only [Ev.ev,e1,Ev.ao,if_true,e2],q2,(o1.trans o2).weak (by simp only [bF];intro i hi;simp at hi ⊢;rcases hi with hi | hi <;> simp [hi])⟩
 | false=>
  simp only [Bool.false_eq_true,if_false] at z
  obtain ⟨d,h2,S2,e2,q2,o2⟩:=ib z o1.f
  exact ⟨d,h2,S2,by simp only [Ev.ev,e1,Ev.ao];rw [if_neg (by decide)];exact e2,q2,(o1.trans o2).weak (by simp only [bF];intro i hi;simp at hi ⊢;rcases hi with hi | hi <;> simp [hi])⟩
theorem GA (ia:br P P' a) (il:pZ P P' lo) (ih:pZ P P' hi):br P P' (.sl a lo hi):=fun z f=>by
 simp only [ev] at z
 replace z:=ai z;obtain ⟨x,af,z1,z⟩:=z
 replace z:=ai z;obtain ⟨l,au,z2,z⟩:=z
 replace z:=ai z;obtain ⟨u,bZ,z3,z⟩:=z
 replace z:=aQ z;obtain ⟨z,y0⟩:=z;subst y0
 obtain ⟨d,h1,S1,e1,q1,o1⟩:=ia z1 f
 obtain ⟨h2,S2,e2,o2⟩:=il z2 o1.f
 obtain ⟨h3,S3,e3,o3⟩:=ih z3 o2.f
 have q:=(q1.tr o1.f (o2.trans o3).tr id (nN e1)).t
 obtain ⟨r,h4,S4,a1,a2,a3⟩:=Nx o3.f.w z q
 exact ⟨r,h4,S4,by simp only [Ev.ev,e1,Ev.ao,e2,e3,a1],.of a2,(o1.trans (o2.trans o3)).al a3⟩
theorem mX:∀ {es:Es}{fr af:Fr}{as:List (Nat ⊕ V)},gh P es fr=.ok as af→∀ i∈bR as,i∈jA es
 | .nil,_,_,_,z=>by simp only [gh] at z;cases z;simp [bR]
 | .cons e es,fr,af,as,z=>by
  simp only [gh] at z
  cases y:kD fr e with
  | some i=>
   rw [y] at z
   simp only at z
   replace z:=ai z;obtain ⟨xs,bZ,z2,z⟩:=z
   cases z
   have hy:e=.v i:=by
    cases e <;> simp only [kD,reduceCtorEq] at y
    split at y
    ·cases y;rfl
    ·cases y
   subst hy
   intro j hj
   simp only [bR,List.mem_cons] at hj
   simp only [jA,List.mem_cons]
   exact hj.imp id fun hj=>mX z2 j hj
  | none=>
   rw [y] at z
   simp only at z
   replace z:=ai z;obtain ⟨x,au,z1,z⟩:=z
   replace z:=ai z;obtain ⟨xs,bZ,z2,z⟩:=z
   cases z
   intro j hj
   simp only [bR] at hj
   have:=mX z2 j hj
   cases e <;> simp only [jA] <;> first | exact this | exact List.mem_cons_of_mem _ this
theorem GB (HP:pU P P') {g:Nat}(is:pY P P' es):br P P' (.cl g es):=fun z f=>by
 simp only [ev] at z
 replace z:=ai z;obtain ⟨as,af,z1,z⟩:=z
 obtain ⟨ds,h1,S1,e1,q1,o1⟩:=is z1 f
 obtain ⟨d,h2,S2,e2,q2,o2⟩:=DA HP z o1.f q1
 exact ⟨d,h2,S2,by simp only [Ev.ev,e1,Ev.ao,e2],.of q2,(o1.trans o2).weak (by
  simp only [bF]
  intro i hi
  rcases List.mem_append.mp hi with hi | hi
  ·exact List.mem_append.mpr (.inl hi)
  ·exact List.mem_append.mpr (.inr (mX z1 i hi)))⟩
theorem GC {g:BI}(is:jg P P' es):br P P' (.bi g es):=fun z f=>by
 simp only [ev] at z
 replace z:=ai z;obtain ⟨as,af,z1,z⟩:=z
 replace z:=aQ z;obtain ⟨z,y0⟩:=z;subst y0
 obtain ⟨ds,h1,S1,e1,q1,o1⟩:=is z1 f
 obtain ⟨r,h4,S4,a1,a2,a3⟩:=Nz o1.f.w z q1.t
 exact ⟨r,h4,S4,by simp only [Ev.ev,e1,Ev.ao,a1],.of a2,o1.al a3⟩
theorem xR {kvs:List (D×D)}(ia:br P P' a):br P P' (.mH kvs a):=fun z f=>by
 simp only [ev] at z
 replace z:=ai z;obtain ⟨x,af,z1,z⟩:=z
 replace z:=aQ z;obtain ⟨z,y0⟩:=z;subst y0
 obtain ⟨d,h1,S1,e1,q1,o1⟩:=ia z1 f
 obtain ⟨r,a1,a2⟩:=Dw (S:=S1) q1.t.u z
 exact ⟨r,h1,S1,by simp only [Ev.ev,e1,Ev.ao,a1,Ev.dJ],.of a2,o1⟩
theorem Bv (ia:br P P' a):br P P' (.jb a):=fun z f=>by
 simp only [ev] at z
 replace z:=ai z;obtain ⟨x,af,z1,z⟩:=z
 replace z:=aQ z;obtain ⟨z,y0⟩:=z;subst y0
 obtain ⟨d,h1,S1,e1,q1,o1⟩:=ia z1 f
 obtain ⟨r,a1,a2⟩:=Ny z q1.t
 exact ⟨r,h1,S1,by simp only [Ev.ev,e1,Ev.ao,a1],.of a2,o1⟩
theorem GD {m:ME}{o:E}(io:br P P' o) (is:jg P P' es):br P P' (.me m o es):=fun {k fr v af M B h S aj} z f=>by
 simp only [ev] at z
 by_cases hm:iN m=true
 ·rw [if_pos hm] at z
  cases y:kD fr o with
  | none=>rw [y] at z;cases z
  | some i=>
  rw [y] at z
  try simp only at z
  replace z:=ai z;obtain ⟨as,au,z1,z⟩:=z
  have hy:o=.v i∧∃ s,lent fr i=some s:=by
   cases o <;> simp only [kD,reduceCtorEq] at y
   rename_i j
   split at y
   ·rename_i hs
    cases y
    exact ⟨rfl,Option.isSome_iff_exists.mp hs⟩
   ·cases y
  obtain ⟨rfl,s,hs⟩:=hy
  obtain ⟨n,cs,_,_,_,w2,w3,_,_⟩:=jr hs f
  obtain ⟨ds,h1,S1,e1,q1,o1⟩:=is z1 f
  have hr:Ev.wY m (.ref n) h=true:=by cases m <;> simp [iN] at hm <;> simp [Ev.wY,iF w3]
  have hap:Bf m=false→av h1 S1 as ds:=fun hh=>by rw [hh] at q1;exact q1.n
  have fin:∀ s l l',au[i]?=some (some s)→gS (some s)=true→(∃ m' cs',aj[i]?=some (some (.ref m'))∧h1[m']?=some (.lst cs')∧av h1 S1 l cs')→jZ m l as=some (v,l')→af=au.set i (some (s.with l'))→
    NI P' (.me m (.v i) es) k v M B h S fr aj af:=by
   intro s l l' k1 k2 ⟨m',cs',k3,k4,k5⟩ k6 k7
   rw [w2] at k3;cases k3
   have mn:=o1.f.mM k1 k2 w2
   obtain ⟨r,ds',a1,a2,a3⟩:=NH k6 k4 k5 q1.t hap fun k z y=>(o1.f.wS k z).2.1 (y▸mn)
   have fw:=o1.f.write (l':=l') k1 k2 w2 a3
   subst k7
   refine ⟨r,_,S1,?_,.of (a2.mono (fun m z=>kF fun y=>(o1.f.wS m z).2.1 (y▸mn)) fun _ z=>z),fw,?_,fun j=>?_⟩
   ·simp only [Ev.ev,w2,Option.join,Ev.dJ,Ev.ao,hr,if_true,e1]
    simp only [Option.bind,id,Ev.dJ,Ev.ao,hr,if_true,e1]
    exact a1
   ·refine ⟨by simpa using o1.tr.len,fun m y1 y2=>?_,o1.tr.sub,fun m y=>by simpa using o1.tr.new m y⟩
    have y3:¬ Xs M aj (gj es) m:=fun z=>y2 (Xs.mono (by simp only [bF];intro i hi;simp [hi]) z)
    have y4:m≠n:=fun z=>y2 ⟨z▸mn,i,by simp [bF,Vw,hm],by rw [z];exact w2⟩
    rw [kF (fun (z:n=m)=>y4 z.symm)]
    exact o1.tr.keep m y1 y3
   ·rw [←o1.lk j]
    unfold locked
    by_cases hj:i=j
    ·subst hj
     rw [List.getElem?_set_self (List.getElem?_eq_some_iff.mp k1).1,k1]
     exact xO
    ·rw [List.getElem?_set_ne hj]
  split at z
  ·rename_i l k1
   have old:=o1.f.get k1
   obtain ⟨p,k2,m',cs',rfl,_,k4,k5⟩:=old
   split at z
   ·rename_i v' l' k6
    cases z
    exact fin _ l l' k1 rfl ⟨m',cs',k2,k4,k5⟩ k6 rfl
   ·cases z
  ·rename_i l k1
   have old:=o1.f.get k1
   obtain ⟨p,k2,m',cs',rfl,_,k4,k5⟩:=old
   split at z
   ·rename_i v' l' k6
    cases z
    exact fin _ l l' k1 rfl ⟨m',cs',k2,k4,k5⟩ k6 rfl
   ·cases z
  ·cases z
 ·rw [if_neg hm] at z
  replace z:=ai z;obtain ⟨x,au,z1,z⟩:=z
  replace z:=ai z;obtain ⟨as,bZ,z2,z⟩:=z
  replace z:=aQ z;obtain ⟨z,y0⟩:=z;subst y0
  obtain ⟨d,h1,S1,e1,q1,o1⟩:=io z1 f
  obtain ⟨ds,h2,S2,e2,q2,o2⟩:=is z2 o1.f
  have hm':iN m=false:=by simpa using hm
  have GF:=(q1.tr o1.f o2.tr id (nN e1)).t
  obtain ⟨a1,r,a2,a3⟩:=NB z hm' GF q2.t
  have hr:Ev.wY m d h1=true:=by
   unfold fF at z
   split at z
   ·have:=q1.t;simp only [bg,Rep] at this;subst this;rfl
   ·cases z
  exact ⟨r,h2,S2,by simp only [Ev.ev,e1,Ev.ao,hr,if_true,e2,a2],.of a3,(o1.trans o2).weak (by simp only [bF];intro i hi;simp at hi ⊢;rcases hi with hi | hi <;> simp [hi])⟩
theorem uR {elt:E}{t:T}{cond:Eo}(ii:ly P P' it) (ic:tu P P' cond) (ie:br P P' elt):br P P' (.comp elt t it cond):=fun z f=>by
 simp only [ev] at z
 replace z:=ai z;obtain ⟨vs,au,z1,z⟩:=z
 split at z
 case isFalse=>cases z
 rename_i hu
 replace z:=aQ z;obtain ⟨z,y0⟩:=z;subst y0
 simp only [Option.bind_eq_some_iff] at z
 obtain ⟨rs,z2,z3⟩:=z
 obtain ⟨s,h1,S1,e1,q1,q2,o1⟩:=ii z1 f
 have fro:=o1.f.ro
 obtain ⟨rs',h2,S2,c1,c2,c3⟩:=xQ (f':=fun d h2=>match Ev.bD t d _ with
    | none=>.bad
    | some au=>(Ev.g7 P' cond au h2).bind fun k h3=>if k then (Ev.ev P' elt au h3).bind fun x h4=>.ok (some x) h4 else .ok none h3) (ck:=s.2) o1.f.w (fun q hq=>(q2 q hq).1) (fun v o d h S al y q=>by
  split at y
  ·cases y
  ·rename_i bZ y1
   obtain ⟨ja,b1,b2,_,_⟩:=(fro.al al).bD y1 q
   rw [b1]
   split at y
   ·rename_i c jd y2
    obtain ⟨h3,S3,c1,oc⟩:=ic y2 b2
    have NT:Al h S h3 S3:=oc.tr.al fun m z=>z.1
    split at y
    ·rename_i hc
     subst hc
     split at y
     ·rename_i x rF y3
      cases y
      obtain ⟨d',h4,S4,d1,d2,od⟩:=ie y3 (b2.al NT)
      refine ⟨some d',h4,S4,?_,⟨d',rfl,d2.n⟩,NT.trans (od.tr.al fun m z=>z.1)⟩
      simp only [c1,Ev.ao,if_true,d1]
     ·cases y
    ·rename_i hc
     cases y
     refine ⟨none,h3,S3,?_,rfl,NT⟩
     simp only [c1,Ev.ao]
     rw [if_neg hc]
   ·cases y) Al.refl z2 q1
 obtain ⟨r,h4,S4,a1,a2,a3⟩:=ig (o1.f.al c3).w z3 c2
 refine ⟨r,h4,S4,?_,.of a2,(o1.al c3).al a3⟩
 simp only [Ev.ev,e1,Ev.ao]
 rw [if_pos (o1.f.undef hu)]
 refine Eq.trans (congrArg (fun q:Ev.R (List D)=>q.bind fun ds h2=>Ev.alloc ds h2) c1) ?_
 simp only [Ev.ao,a1]
theorem Bw (ii:ly P P' it):br P P' (.gQ it):=fun z f=>by
 simp only [ev] at z
 replace z:=ai z;obtain ⟨vs,au,z1,z⟩:=z
 replace z:=aQ z;obtain ⟨z,y0⟩:=z;subst y0
 obtain ⟨s,h1,S1,e1,q1,q2,o1⟩:=ii z1 f
 obtain ⟨r,h4,S4,a1,a2,a3⟩:=ig o1.f.w z q1
 exact ⟨r,h4,S4,by simp only [Ev.ev,e1,Ev.ao,a1],.of a2,o1.al a3⟩
theorem NU:jg P P' .nil:=fun {k fr v af M B h S aj} z f=>by
 simp only [cj] at z
 cases z
 refine ⟨[],_,_,by simp only [Ev.cj],?_,.refl f⟩
 unfold jf;split <;> rfl
theorem J5 (ie:br P P' e) (is:jg P P' es):jg P P' (.cons e es):=fun {k fr v af M B h S aj} z f=>by
 simp only [cj] at z
 replace z:=ai z;obtain ⟨x,au,z1,z⟩:=z
 replace z:=ai z;obtain ⟨xs,bZ,z2,z⟩:=z
 cases z
 obtain ⟨d,h1,S1,e1,q1,o1⟩:=ie z1 f
 obtain ⟨ds,h2,S2,e2,q2,o2⟩:=is z2 o1.f
 have GF:=q1.tr (a:=e) o1.f o2.tr (by intro z;simp at z;exact z.2) (nN e1)
 refine ⟨d :: ds,h2,S2,by simp only [Ev.cj,e1,Ev.ao,e2],?_,o1.trans o2⟩
 unfold jf at q2 ⊢
 cases k with
 | true=>simp only [if_true] at q2 ⊢;exact ⟨d,ds,rfl,GF.t,q2⟩
 | false=>
  simp only [Bool.false_eq_true,if_false] at q2 ⊢
  exact .cons (by simpa [gk] using GF) q2
theorem J6:pY P P' .nil:=fun z f=>by
 simp only [gh] at z
 cases z
 exact ⟨[],_,_,by simp only [Ev.cj],rfl,.refl f⟩
theorem DE (ie:br P P' e) (is:pY P P' es):pY P P' (.cons e es):=fun {fr v af M B h S aj} z f=>by
 simp only [gh] at z
 cases y:kD fr e with
 | some i=>
  rw [y] at z
  try simp only at z
  replace z:=ai z;obtain ⟨xs,bZ,z2,z⟩:=z
  cases z
  have hy:e=.v i∧∃ s,lent fr i=some s:=by
   cases e <;> simp only [kD,reduceCtorEq] at y
   rename_i j
   split at y
   ·rename_i hs
    cases y
    exact ⟨rfl,Option.isSome_iff_exists.mp hs⟩
   ·cases y
  obtain ⟨rfl,s,hs⟩:=hy
  obtain ⟨n,cs,_,_,_,w2,w3,_,_⟩:=jr hs f
  obtain ⟨ds,h2,S2,e2,q2,o2⟩:=is z2 f
  refine ⟨.ref n :: ds,h2,S2,?_,⟨_,_,rfl,w2,q2⟩,o2.weak (by simp only [gj,bF];intro i hi;simpa using hi)⟩
  simp only [Ev.cj,Ev.ev,w2,Option.join,Option.bind,id,Ev.dJ,Ev.ao,e2]
 | none=>
  rw [y] at z
  try simp only at z
  replace z:=ai z;obtain ⟨x,au,z1,z⟩:=z
  replace z:=ai z;obtain ⟨xs,bZ,z2,z⟩:=z
  cases z
  obtain ⟨d,h1,S1,e1,q1,o1⟩:=ie z1 f
  obtain ⟨ds,h2,S2,e2,q2,o2⟩:=is z2 o1.f
  exact ⟨d :: ds,h2,S2,by simp only [Ev.cj,e1,Ev.ao,e2],⟨_,_,rfl,q1.n.tr o1.f o2.tr,q2⟩,o1.trans o2⟩
theorem Tc:pZ P P' .no:=fun z f=>by
 simp only [gg] at z;cases z
 exact ⟨_,_,by simp only [Ev.gg],.refl f⟩
theorem NV (ie:br P P' e):pZ P P' (.yes e):=fun z f=>by
 simp only [gg] at z
 replace z:=ai z;obtain ⟨x,au,z1,z⟩:=z
 replace z:=aQ z;obtain ⟨z,y0⟩:=z;subst y0
 obtain ⟨d,h1,S1,e1,q1,o1⟩:=ie z1 f
 cases x <;> simp [intOf] at z
 subst z
 have q:=q1.t
 simp only [bg,Rep] at q
 subst q
 exact ⟨h1,S1,by simp only [Ev.gg,e1,Ev.ao];rfl,o1⟩
theorem NW:tu P P' .no:=fun z f=>by
 simp only [g7] at z;cases z
 exact ⟨_,_,by simp only [Ev.g7],.refl f⟩
theorem J7 (ie:gM P P' e):tu P P' (.yes e):=fun z f=>by
 simp only [g7] at z
 obtain ⟨h1,S1,e1,o1⟩:=ie z f
 exact ⟨h1,S1,by simp only [Ev.g7,e1],o1⟩
theorem Yq (ia:gM P P' a) (ib:gM P P' b):gM P P' (.an a b):=fun z f=>by
 simp only [aM] at z
 replace z:=ai z;obtain ⟨k,af,z1,z⟩:=z
 obtain ⟨h1,S1,e1,o1⟩:=ia z1 f
 cases k with
 | true=>
  simp only [if_true] at z
  obtain ⟨h2,S2,e2,o2⟩:=ib z o1.f
  exact ⟨h2,S2,by simp only [Ev.aM,e1,Ev.ao,if_true,e2],o1.trans o2⟩
 | false=>
  simp only [Bool.false_eq_true,if_false] at z
  cases z
  exact ⟨h1,S1,by simp only [Ev.aM,e1,Ev.ao];rfl,o1.weak (by simp only [bF];intro i hi;simp [hi])⟩
theorem Td (ia:gM P P' a) (ib:gM P P' b):gM P P' (.orr a b):=fun z f=>by
 simp only [aM] at z
 replace z:=ai z;obtain ⟨k,af,z1,z⟩:=z
 obtain ⟨h1,S1,e1,o1⟩:=ia z1 f
 cases k with
 | false=>
  simp only [Bool.false_eq_true,if_false] at z
  obtain ⟨h2,S2,e2,o2⟩:=ib z o1.f
  exact ⟨h2,S2,by simp only [Ev.aM,e1,Ev.ao];rw [if_neg (by decide)];exact e2,o1.trans o2⟩
 | true=>
  simp only [if_true] at z
  cases z
  exact ⟨h1,S1,by simp only [Ev.aM,e1,Ev.ao];rfl,o1.weak (by simp only [bF];intro i hi;simp [hi])⟩
theorem Yr (ia:gM P P' a):gM P P' (.nt a):=fun z f=>by
 simp only [aM] at z
 replace z:=ai z;obtain ⟨k,af,z1,z⟩:=z
 obtain ⟨h1,S1,e1,o1⟩:=ia z1 f
 cases z
 exact ⟨h1,S1,by simp only [Ev.aM,e1,Ev.ao],o1⟩
theorem dM (ie:br P P' e) (h1:∀ fr,aM P e fr=(ev P true e fr).bind fun x af=>.ok (truthy x) af) (h2:∀ fr h,Ev.aM P' e fr h=(Ev.ev P' e fr h).bind fun x h1=>Ev.R.of (Ev.truthy h1 x) h1):gM P P' e:=fun z f=>by
 rw [h1] at z
 replace z:=ai z;obtain ⟨x,af,z1,z⟩:=z
 cases z
 obtain ⟨d,h1,S1,e1,q1,o1⟩:=ie z1 f
 exact ⟨h1,S1,by rw [h2,e1,Ev.ao,Bg q1.t];rfl,o1⟩
theorem Bx (ie:br P P' e) {k:Bool}{fr:Fr}{v:V}{af:Fr}{M B:Nat→Prop}{h:Hh}{S:Nat→Prop}{aj:Ev.Fr}(z:src k fr e (ev P k e fr)=.ok v af) (f:bG M B h S fr aj) :
  ∃ d h' S',Ev.ev P' e aj h=.ok d h'∧bg h' S' v d∧(k=false→∀ n,d=.ref n→¬ M n)∧Out M B (bF e) h S fr aj h' S' af:=by
 have gen:ev P k e fr=.ok v af→∃ d h' S',Ev.ev P' e aj h=.ok d h'∧bg h' S' v d∧(k=false→∀ n,d=.ref n→¬ M n)∧Out M B (bF e) h S fr aj h' S' af:=fun z=>by
  obtain ⟨d,h1,S1,e1,q1,o1⟩:=ie z f
  refine ⟨d,h1,S1,e1,q1.t,fun hk n hd=>?_,o1⟩
  subst hk
  have q:=q1.n
  cases v <;> simp only [Rep] at q
  ·cases q.symm.trans hd
  ·cases q.symm.trans hd
  ·cases q.symm.trans hd
  ·cases q.symm.trans hd
  ·obtain ⟨_,q,_⟩:=q;cases q.symm.trans hd
  ·obtain ⟨m,ds,q,sm,_⟩:=q;cases q.symm.trans hd;exact (o1.f.wS _ sm).2.1
  ·obtain ⟨m,ds,q,sm,_⟩:=q;cases q.symm.trans hd;exact (o1.f.wS _ sm).2.1
  ·obtain ⟨m,q,sm,_⟩:=q;cases q.symm.trans hd;exact (o1.f.wS _ sm).2.1
 cases e
 case v i=>
  simp only [src] at z
  replace z:=aQ z;obtain ⟨z,y0⟩:=z;subst y0
  unfold zd at z
  split at z
  ·rename_i l y
   cases z
   obtain ⟨p,e1,m,ds,rfl,y1,y2,y3⟩:=f.get y
   exact ⟨.ref m,h,S,by simp only [Ev.ev,e1,Option.join,Option.bind,id,Ev.dJ],⟨m,ds,rfl,y2,y3⟩,fun _ n hn=>by cases hn;exact y1,.refl f⟩
  ·exact gen (by simp only [ev,z,dJ])
 all_goals exact gen z
theorem NX (ie:br P P' e):ly P P' (.seq e):=fun z f=>by
 simp only [cL] at z
 replace z:=ai z;obtain ⟨x,af,z1,z⟩:=z
 replace z:=aQ z;obtain ⟨z,y0⟩:=z;subst y0
 obtain ⟨d,h1,S1,e1,q1,q2,o1⟩:=Bx ie z1 f
 obtain ⟨s,a1,a2,a3⟩:=Dy z q1
 exact ⟨s,h1,S1,by simp only [Ev.cL,e1,Ev.ao,a1,Ev.dJ],a2,fun q hq=>⟨(a3 q hq).2,fun hk=>q2 hk _ (a3 q hq).1⟩,o1⟩
theorem J8 (is:jg P P' es):ly P P' (.gz es):=fun z f=>by
 simp only [cL] at z
 replace z:=ai z;obtain ⟨x,af,z1,z⟩:=z
 replace z:=aQ z;obtain ⟨z,y0⟩:=z;subst y0
 obtain ⟨d,h1,S1,e1,q1,o1⟩:=is z1 f
 obtain ⟨s,a1,a2⟩:=NC z q1.t
 exact ⟨(s,[]),h1,S1,by simp only [Ev.cL,e1,Ev.ao,a1,Ev.dJ],a2,fun q hq=>by simp at hq,o1⟩
theorem DF (ie:br P P' e):ly P P' (.enum e):=fun z f=>by
 simp only [cL] at z
 replace z:=ai z;obtain ⟨x,af,z1,z⟩:=z
 replace z:=aQ z;obtain ⟨z,y0⟩:=z;subst y0
 obtain ⟨d,h1,S1,e1,q1,q2,o1⟩:=Bx ie z1 f
 simp only [Option.map_eq_some_iff] at z
 obtain ⟨l,z,rfl⟩:=z
 obtain ⟨s,a1,a2,a3⟩:=J1 z q1
 exact ⟨(Ev.cJ 0 s.1,s.2),h1,S1,by simp only [Ev.cL,e1,Ev.ao,a1,Option.map,Ev.dJ],xK 0 a2,fun q hq=>⟨(a3 q hq).2,fun hk=>q2 hk _ (a3 q hq).1⟩,o1⟩
theorem J9 (ie:br P P' e):ly P P' (.rev e):=fun z f=>by
 simp only [cL] at z
 replace z:=ai z;obtain ⟨x,af,z1,z⟩:=z
 replace z:=aQ z;obtain ⟨z,y0⟩:=z;subst y0
 obtain ⟨d,h1,S1,e1,q1,o1⟩:=ie z1 f
 simp only [Option.map_eq_some_iff] at z
 obtain ⟨l,z,rfl⟩:=z
 cases x <;> simp only [zb,reduceCtorEq] at z
 cases z
 have k1:=q1.t
 simp only [bg,Rep] at k1
 obtain ⟨ds,y1,k2⟩:=k1
 subst y1
 exact ⟨(ds.reverse,[]),h1,S1,by simp only [Ev.cL,e1,Ev.ao,Ev.C6,Option.map,Ev.dJ],k2.reverse,fun q hq=>by simp at hq,o1⟩
end
section
variable {P:aT}{P':Ev.aT}(HP:pU P P')
include HP
mutual
theorem aX:∀ e:E,br P P' e
 | .c _=>NQ
 | .v _=>NR
 | .tup es=>Bm (gm es)
 | .lst es=>Bo (gm es)
 | .bin _ a b=>Bp (aX a) (aX b)
 | .cmp _ a b=>Bq (aX a) (aX b)
 | .nt a=>S8 (aX a)
 | .neg a=>Bt (aX a)
 | .an a b=>S9 (aX a) (aX b)
 | .orr a b=>NS (aX a) (aX b)
 | .jW t a b=>Bu (gE t) (aX a) (aX b)
 | .ix a b=>Gz (aX a) (aX b)
 | .sl a lo hi=>GA (aX a) (qa lo) (qa hi)
 | .iY=>fun z _=>by simp only [ev] at z;cases z
 | .jX a b=>Br (aX a) (aX b)
 | .lZ a b c=>Bs (aX a) (aX b) (aX c)
 | .cl _ es=>GB HP (uS es)
 | .bi _ es=>GC (gm es)
 | .me _ o es=>GD (aX o) (gm es)
 | .comp elt _ it cond=>uR (kG it) (By cond) (aX elt)
 | .gQ it=>Bw (kG it)
 | .mH _ a=>xR (aX a)
 | .jb a=>Bv (aX a)
theorem gE:∀ e:E,gM P P' e
 | .an a b=>Yq (gE a) (gE b)
 | .orr a b=>Td (gE a) (gE b)
 | .nt a=>Yr (gE a)
 | .c x=>dM NQ (fun _=>by simp only [aM]) (fun _ _=>by simp only [Ev.aM])
 | .v x=>dM NR (fun _=>by simp only [aM]) (fun _ _=>by simp only [Ev.aM])
 | .tup es=>dM (Bm (gm es)) (fun _=>by simp only [aM]) (fun _ _=>by simp only [Ev.aM])
 | .lst es=>dM (Bo (gm es)) (fun _=>by simp only [aM]) (fun _ _=>by simp only [Ev.aM])
 | .bin _ a b=>dM (Bp (aX a) (aX b)) (fun _=>by simp only [aM]) (fun _ _=>by simp only [Ev.aM])
 | .cmp _ a b=>dM (Bq (aX a) (aX b)) (fun _=>by simp only [aM]) (fun _ _=>by simp only [Ev.aM])
 | .neg a=>dM (Bt (aX a)) (fun _=>by simp only [aM]) (fun _ _=>by simp only [Ev.aM])
 | .jW t a b=>dM (Bu (gE t) (aX a) (aX b)) (fun _=>by simp only [aM]) (fun _ _=>by simp only [Ev.aM])
 | .ix a b=>dM (Gz (aX a) (aX b)) (fun _=>by simp only [aM]) (fun _ _=>by simp only [Ev.aM])
 | .sl a lo hi=>dM (GA (aX a) (qa lo) (qa hi)) (fun _=>by simp only [aM]) (fun _ _=>by simp only [Ev.aM])
 | .iY=>dM (fun z _=>by simp only [ev] at z;cases z) (fun _=>by simp only [aM]) (fun _ _=>by simp only [Ev.aM])
 | .jX a b=>dM (Br (aX a) (aX b)) (fun _=>by simp only [aM]) (fun _ _=>by simp only [Ev.aM])
 | .lZ a b c=>dM (Bs (aX a) (aX b) (aX c)) (fun _=>by simp only [aM]) (fun _ _=>by simp only [Ev.aM])
 | .cl _ es=>dM (GB HP (uS es)) (fun _=>by simp only [aM]) (fun _ _=>by simp only [Ev.aM])
 | .bi _ es=>dM (GC (gm es)) (fun _=>by simp only [aM]) (fun _ _=>by simp only [Ev.aM])
 | .me _ o es=>dM (GD (aX o) (gm es)) (fun _=>by simp only [aM]) (fun _ _=>by simp only [Ev.aM])
 | .comp elt _ it cond=>dM (uR (kG it) (By cond) (aX elt)) (fun _=>by simp only [aM]) (fun _ _=>by simp only [Ev.aM])
 | .gQ it=>dM (Bw (kG it)) (fun _=>by simp only [aM]) (fun _ _=>by simp only [Ev.aM])
 | .mH _ a=>dM (xR (aX a)) (fun _=>by simp only [aM]) (fun _ _=>by simp only [Ev.aM])
 | .jb a=>dM (Bv (aX a)) (fun _=>by simp only [aM]) (fun _ _=>by simp only [Ev.aM])
theorem gm:∀ e:Es,jg P P' e
 | .nil=>NU
 | .cons e es=>J5 (aX e) (gm es)
theorem uS:∀ e:Es,pY P P' e
 | .nil=>J6
 | .cons e es=>DE (aX e) (uS es)
theorem qa:∀ e:Eo,pZ P P' e
 | .no=>Tc
 | .yes e=>NV (aX e)
theorem By:∀ e:Eo,tu P P' e
 | .no=>NW
 | .yes e=>J7 (gE e)
theorem kG:∀ e:It,ly P P' e
 | .seq e=>NX (aX e)
 | .gz es=>J8 (gm es)
 | .enum a=>DF (aX a)
 | .rev a=>J9 (aX a)
end
end
end Pv
namespace Pv
open Ev (D O Hh bU bN TY BI ME T E Es Eo It S Ss Fn big deep b2i rep cz dP bL aU cut cS ek slots bx)
structure Tr (M B:Nat→Prop) (h:Hh) (S:Nat→Prop) (M':Nat→Prop) (h':Hh) (S':Nat→Prop):Prop where
 len:h.length≤h'.length
 keep:∀ m,m<h.length→¬ M m→h'[m]?=h[m]?
 sub:∀ m,S m→S' m
 new:∀ m,S' m→S m∨(h.length≤m∧m<h'.length)∨(M m∧¬ B m)
 zf:∀ m,M' m→M m∨h.length≤m
structure d9 (M B:Nat→Prop) (h:Hh) (S:Nat→Prop) (fr:Fr) (aj:Ev.Fr) (M':Nat→Prop) (h':Hh) (S':Nat→Prop) (af:Fr) (bP:Ev.Fr):Prop where
 f:bG M' B h' S' af bP
 tr:Tr M B h S M' h' S'
 lk:∀ i,locked af i=locked fr i
 rf:∀ i,locked fr i=true→bP[i]?=aj[i]?
noncomputable def gU (h:Hh) (S:Nat→Prop):Fl→Ev.Fl→Prop
 | .nx,g=>g=.nx
 | .bk,g=>g=.bk
 | .ct,g=>g=.ct
 | .ret v,g=>∃ d,g=.ret d∧Rep h S v d
section
variable {M B M' M1 M2:Nat→Prop}{h h' h1 h2:Hh}{S S' S1 S2:Nat→Prop}{fr af au:Fr}{aj bP lz:Ev.Fr}{c c1 c2:List Nat}{v:V}{d:D}
theorem d9.refl (f:bG M B h S fr aj):d9 M B h S fr aj M h S fr aj:=⟨f,⟨Nat.le_refl _,fun _ _ _=>rfl,fun _ q=>q,fun _ q=>.inl q,fun _ q=>.inl q⟩,fun _=>rfl,fun _ _=>rfl⟩
theorem Out.s (o:Out M B c h S fr aj h1 S1 af):d9 M B h S fr aj M h1 S1 af aj:=⟨o.f,⟨o.tr.len,fun m y1 y2=>o.tr.keep m y1 (fun z=>y2 z.1),o.tr.sub,fun m q=>(o.tr.new m q).imp id .inl,fun _ q=>.inl q⟩,o.lk,fun _ _=>rfl⟩
theorem d9.trans (f0:bG M B h S fr aj) (a:d9 M B h S fr aj M1 h1 S1 af bP) (b:d9 M1 B h1 S1 af bP M2 h2 S2 au lz):d9 M B h S fr aj M2 h2 S2 au lz where
 f:=b.f
 tr:=⟨Nat.le_trans a.tr.len b.tr.len,fun m y1 y2=>by
   rw [b.tr.keep m (Nat.lt_of_lt_of_le y1 a.tr.len) (fun z=>by
    rcases a.tr.zf m z with z | z
    ·exact y2 z
    ·omega),a.tr.keep m y1 y2],fun m q=>b.tr.sub m (a.tr.sub m q),fun m q=>by
   rcases b.tr.new m q with q | q | q
   ·rcases a.tr.new m q with q | q | q
    ·exact .inl q
    ·exact .inr (.inl ⟨q.1,Nat.lt_of_lt_of_le q.2 b.tr.len⟩)
    ·exact .inr (.inr q)
   ·exact .inr (.inl ⟨Nat.le_trans a.tr.len q.1,q.2⟩)
   ·rcases a.tr.zf m q.1 with z | z
    ·exact .inr (.inr ⟨z,q.2⟩)
    ·exact .inr (.inl ⟨z,Nat.lt_of_lt_of_le (a.f.wM m q.1) b.tr.len⟩),fun m q=>by
   rcases b.tr.zf m q with q | q
   ·exact a.tr.zf m q
   ·exact .inr (Nat.le_trans a.tr.len q)⟩
 lk:=fun i=>(b.lk i).trans (a.lk i)
 rf:=fun i q=>(b.rf i (by rw [a.lk i];exact q)).trans (a.rf i q)
theorem bG.kind (f:bG M B h S fr aj) (g:Option Sl→Option Sl→Prop) (hl:af.length=fr.length) (hg:∀ (i:Nat) o,af[i]?=some o→∃ o0,fr[i]?=some o0∧(o=o0∨(∃ l,o0=some (.own l)∧o=some (.val (.lst l)))∨(∃ l,o0=some (.bor l)∧o=some (.ro l)))) :
  ∃ M' S',d9 M B h S fr aj M' h S' af aj:=by
 let X:Nat→Prop:=fun m=>∃ (i:Nat) (l:List V),fr[i]?=some (some (Sl.own l))∧af[i]?=some (some (Sl.val (V.lst l)))∧aj[i]?=some (some (D.ref m))
 let Y:Nat→Prop:=fun m=>∃ (i:Nat) (l:List V),fr[i]?=some (some (Sl.bor l))∧af[i]?=some (some (Sl.ro l))∧aj[i]?=some (some (D.ref m))
 have xM:∀ m,X m→M m∧¬ B m:=fun m ⟨i,l,a,_,b⟩=>by
  obtain ⟨m',ds,e,q,_⟩:=f.sl i _ _ a b;cases e;exact q
 have yM:∀ m,Y m→M m∧B m:=fun m ⟨i,l,a,_,b⟩=>by
  obtain ⟨m',ds,e,q,_⟩:=f.sl i _ _ a b;cases e;exact q
 have mono:∀ {l:List V} {ds:List D},av h S l ds→av h (fun m=>S m∨X m) l ds:=fun q=>q.mono (fun _ _=>rfl) fun _ z=>.inl z
 refine ⟨fun m=>M m∧¬ X m∧¬ Y m,fun m=>S m∨X m,⟨⟨fun m q=>?_,fun m q=>f.wM m q.1,f.wB,by rw [hl,f.len],fun i o p e1 e2=>?_,fun i j o o' m y1 y2 y3 y4 y5 y6=>?_⟩,⟨Nat.le_refl _,fun _ _ _=>rfl,fun _ q=>.inl q,fun m q=>?_,fun m q=>.inl q.1⟩,fun i=>?_,fun _ _=>rfl⟩⟩
 ·rcases q with q | q
  ·exact ⟨(f.wS m q).1,fun z=>(f.wS m q).2.1 z.1,(f.wS m q).2.2⟩
  ·exact ⟨f.wM m (xM m q).1,fun z=>z.2.1 q,(xM m q).2⟩
 ·obtain ⟨o0,e0,k⟩:=hg i o e1
  have old:=f.sl i o0 p e0 e2
  rcases k with rfl | ⟨l,rfl,rfl⟩ | ⟨l,rfl,rfl⟩
  ·rcases o with _ | s
   ·exact old
   ·cases s with
    | val v=>obtain ⟨d,e,q⟩:=old;exact ⟨d,e,q.mono (fun _ _=>rfl) fun _ z=>.inl z⟩
    | own l=>
     obtain ⟨m,ds,rfl,z,y,q⟩:=old
     refine ⟨m,ds,rfl,⟨⟨z.1,fun ⟨j,l',a1,a2,a3⟩=>?_,fun ⟨j,l',a1,a2,a3⟩=>?_⟩,z.2⟩,y,mono q⟩
     ·have:=f.inj i j _ _ m e0 a1 rfl rfl e2 a3;subst this;rw [e1] at a2;cases a2
     ·have:=f.inj i j _ _ m e0 a1 rfl rfl e2 a3;subst this;rw [e1] at a2;cases a2
    | bor l=>
     obtain ⟨m,ds,rfl,z,y,q⟩:=old
     refine ⟨m,ds,rfl,⟨⟨z.1,fun ⟨j,l',a1,a2,a3⟩=>?_,fun ⟨j,l',a1,a2,a3⟩=>?_⟩,z.2⟩,y,mono q⟩
     ·have:=f.inj i j _ _ m e0 a1 rfl rfl e2 a3;subst this;rw [e1] at a2;cases a2
     ·have:=f.inj i j _ _ m e0 a1 rfl rfl e2 a3;subst this;rw [e1] at a2;cases a2
    | ro l=>obtain ⟨m,ds,rfl,z,y,q⟩:=old;exact ⟨m,ds,rfl,fun w=>z w.1,y,mono q⟩
  ·obtain ⟨m,ds,rfl,z,y,q⟩:=old
   exact ⟨.ref m,rfl,m,ds,rfl,.inr ⟨i,l,e0,e1,e2⟩,y,mono q⟩
  ·obtain ⟨m,ds,rfl,z,y,q⟩:=old
   exact ⟨m,ds,rfl,fun w=>w.2.2 ⟨i,l,e0,e1,e2⟩,y,mono q⟩
 ·have kd:∀ (i:Nat) o,af[i]?=some o→gS o=true→∃ o0,fr[i]?=some o0∧gS o0=true:=fun i o w1 w2=>by
   obtain ⟨o0,e0,k⟩:=hg i o w1
   rcases k with rfl | ⟨l,rfl,rfl⟩ | ⟨l,rfl,rfl⟩
   ·exact ⟨o,e0,w2⟩
   ·cases w2
   ·cases w2
  obtain ⟨oi,k1,k2⟩:=kd i o y1 y3
  obtain ⟨oj,k3,k4⟩:=kd j o' y2 y4
  exact f.inj i j oi oj m k1 k3 k2 k4 y5 y6
 ·rcases q with q | q
  ·exact .inl q
  ·exact .inr (.inr (xM m q))
 ·unfold locked
  cases z:af[i]? with
  | none=>
   have:fr[i]?=none:=by rw [List.getElem?_eq_none_iff] at z ⊢;omega
   rw [this]
  | some o=>
   obtain ⟨o0,e0,k⟩:=hg i o z
   rw [e0]
   rcases k with rfl | ⟨l,rfl,rfl⟩ | ⟨l,rfl,rfl⟩ <;> rfl
theorem bG.dm (f:bG M B h S fr aj):∃ M' S',d9 M B h S fr aj M' h S' (eT fr) aj:=by
 refine f.kind (fun _ _=>True) (by simp [eT]) fun i o e=>?_
 unfold eT at e
 rw [List.getElem?_map] at e
 cases z:fr[i]? with
 | none=>rw [z] at e;cases e
 | some o0=>
  rw [z] at e;cases e
  refine ⟨o0,rfl,?_⟩
  rcases o0 with _ | s
  ·exact .inl rfl
  ·cases s with
   | own l=>exact .inr (.inl ⟨l,rfl,rfl⟩)
   | _=>exact .inl rfl
theorem bG.walk:∀ (is:List Nat) {M:Nat→Prop}{S:Nat→Prop}{fr:Fr},bG M B h S fr aj→∃ M' S',d9 M B h S fr aj M' h S' (sZ is fr) aj
 | [],_,_,_,f=>⟨_,_,.refl f⟩
 | i :: is,M,S,fr,f=>by
  have one:∃ M1 S1,d9 M B h S fr aj M1 h S1 (match fr[i]? with | some (some s)=>fr.set i (some s.walk) | _=>fr) aj:=by
   split
   ·rename_i s z
    have hl:=(List.getElem?_eq_some_iff.mp z).1
    refine f.kind (fun _ _=>True) (by simp) fun j o e=>?_
    by_cases hj:i=j
    ·subst hj
     rw [List.getElem?_set_self hl] at e
     cases e
     refine ⟨_,z,?_⟩
     cases s with
     | own l=>exact .inr (.inl ⟨l,rfl,rfl⟩)
     | bor l=>exact .inr (.inr ⟨l,rfl,rfl⟩)
     | _=>exact .inl rfl
    ·rw [List.getElem?_set_ne hj] at e
     exact ⟨o,e,.inl rfl⟩
   ·exact ⟨M,S,.refl f⟩
  obtain ⟨M1,S1,o1⟩:=one
  obtain ⟨M2,S2,o2⟩:=bG.walk is o1.f
  exact ⟨M2,S2,o1.trans f o2⟩
theorem bG.own (f:bG M B h S fr aj) {i:Nat}{l:List V}{ds:List D}(e:put fr i (.own l)=some af) (q:av h S l ds):d9 M B h S fr aj (fun m=>M m∨m=h.length) (h++[.lst ds]) S af (aj.set i (some (.ref h.length))):=by
 have hx:af=fr.set i (some (.own l))∧locked fr i=false:=by
  unfold put at e
  unfold locked
  split at e
  ·cases e
  ·cases e
  ·rename_i k1 k2
   cases e
   refine ⟨rfl,?_⟩
   cases z:fr[i]? with
   | none=>rfl
   | some o=>
    rcases o with _ | s
    ·rfl
    ·cases s with
     | bor l=>exact absurd z (k1 l)
     | ro l=>exact absurd z (k2 l)
     | _=>rfl
 obtain ⟨rfl,hk⟩:=hx
 have kp:∀ m,m<h.length→(h++[O.lst ds])[m]?=h[m]?:=fun m z=>by rw [List.getElem?_append_left z]
 have kS:∀ m,S m→(h++[O.lst ds])[m]?=h[m]?:=fun m z=>kp m (f.w m z)
 refine ⟨⟨fun m y=>⟨by have:=(f.wS m y).1;simp;omega,fun z=>?_,(f.wS m y).2.2⟩,fun m y=>?_,fun m y=>by have:=f.wB m y;simp;omega,by simp [f.len],fun j o p y1 y2=>?_,fun j k o o' m y1 y2 y3 y4 y5 y6=>?_⟩,⟨by simp,fun m y _=>kp m y,fun _ z=>z,fun _ z=>.inl z,fun m z=>z.imp id (fun z=>by omega)⟩,fun j=>?_,fun j hj=>?_⟩
 ·rcases z with z | z
  ·exact (f.wS m y).2.1 z
  ·have:=(f.wS m y).1;omega
 ·rcases y with y | y
  ·have:=f.wM m y;simp;omega
  ·subst y;simp
 ·by_cases hj:i=j
  ·subst hj
   have hl:i<fr.length:=by have:=(List.getElem?_eq_some_iff.mp y1).1;simpa using this
   rw [List.getElem?_set_self hl] at y1
   rw [List.getElem?_set_self (by rw [←f.len];exact hl)] at y2
   cases y1;cases y2
   exact ⟨h.length,ds,rfl,⟨.inr rfl,fun z=>by have:=f.wB _ z;omega⟩,by simp,q.mono kS fun _ z=>z⟩
  ·rw [List.getElem?_set_ne hj] at y1 y2
   have old:=f.sl j o p y1 y2
   rcases o with _ | s
   ·exact old
   ·cases s with
    | val v=>obtain ⟨d,e,q⟩:=old;exact ⟨d,e,q.mono kS fun _ z=>z⟩
    | own l=>obtain ⟨m,es,rfl,z,y,q⟩:=old;exact ⟨m,es,rfl,⟨.inl z.1,z.2⟩,by rw [kp m (f.wM m z.1)];exact y,q.mono kS fun _ z=>z⟩
    | bor l=>obtain ⟨m,es,rfl,z,y,q⟩:=old;exact ⟨m,es,rfl,⟨.inl z.1,z.2⟩,by rw [kp m (f.wM m z.1)];exact y,q.mono kS fun _ z=>z⟩
    | ro l=>
     obtain ⟨m,es,rfl,z,y,q⟩:=old
     have hm:=(List.getElem?_eq_some_iff.mp y).1
     exact ⟨m,es,rfl,fun w=>by rcases w with w | w;exact z w;omega,by rw [kp m hm];exact y,q.mono kS fun _ z=>z⟩
 ·have low:∀ (j:Nat) o,i≠j→fr[j]?=some o→gS o=true→aj[j]?=some (some (.ref m))→m<h.length:=fun j o _ w1 w2 w3=>f.wM m (f.mM w1 w2 w3)
  have new:∀ (j:Nat),j<fr.length→i=j→(aj.set i (some (.ref h.length)))[j]?=some (some (.ref m))→m=h.length:=fun j hl hj w=>by
   subst hj
   rw [List.getElem?_set_self (by rw [←f.len];exact hl)] at w
   cases w;rfl
  have lj:j<fr.length:=by have:=(List.getElem?_eq_some_iff.mp y1).1;simpa using this
  have lk:k<fr.length:=by have:=(List.getElem?_eq_some_iff.mp y2).1;simpa using this
  by_cases hj:i=j
  ·by_cases hk2:i=k
   ·rw [←hj,←hk2]
   ·have a:=new j lj hj y5
    rw [List.getElem?_set_ne hk2] at y2 y6
    have b:=low k o' hk2 y2 y4 y6
    omega
  ·by_cases hk2:i=k
   ·have a:=new k lk hk2 y6
    rw [List.getElem?_set_ne hj] at y1 y5
    have b:=low j o hj y1 y3 y5
    omega
   ·rw [List.getElem?_set_ne hj] at y1 y5
    rw [List.getElem?_set_ne hk2] at y2 y6
    exact f.inj j k o o' m y1 y2 y3 y4 y5 y6
 ·by_cases hj:i=j
  ·subst hj
   rw [hk]
   unfold locked
   by_cases hl:i<fr.length
   ·rw [List.getElem?_set_self hl];rfl
   ·rw [List.getElem?_eq_none (by simpa using hl)]
  ·unfold locked;rw [List.getElem?_set_ne hj]
 ·have:i≠j:=fun z=>by subst z;rw [hk] at hj;cases hj
  rw [List.getElem?_set_ne this]
end
inductive Vx (P':Ev.aT) (w:Nat) (s:S) (g:Fl) (M B:Nat→Prop) (h:Hh) (S:Nat→Prop) (fr:Fr) (aj:Ev.Fr) (af:Fr):Prop
 | mk (g':Ev.Fl) (bP:Ev.Fr) (M':Nat→Prop) (h':Hh) (S':Nat→Prop) (c0:Ev.ex P' w s aj h=.ok (g',bP) h') (c1:gU h' S' g g') (c2:d9 M B h S fr aj M' h' S' af bP):Vx P' w s g M B h S fr aj af
inductive NY (P':Ev.aT) (w:Nat) (s:Ss) (g:Fl) (M B:Nat→Prop) (h:Hh) (S:Nat→Prop) (fr:Fr) (aj:Ev.Fr) (af:Fr):Prop
 | mk (g':Ev.Fl) (bP:Ev.Fr) (M':Nat→Prop) (h':Hh) (S':Nat→Prop) (c0:Ev.exs P' w s aj h=.ok (g',bP) h') (c1:gU h' S' g g') (c2:d9 M B h S fr aj M' h' S' af bP):NY P' w s g M B h S fr aj af
section
variable (P:aT)(P':Ev.aT)(w:Nat)
noncomputable def pe (s:S):Prop:=∀ {fr:Fr} {g:Fl} {af:Fr} {M B:Nat→Prop} {h:Hh} {S:Nat→Prop} {aj:Ev.Fr},ex P w s fr=.ok g af→bG M B h S fr aj→Vx P' w s g M B h S fr aj af
noncomputable def qb (s:Ss):Prop:=∀ {fr:Fr} {g:Fl} {af:Fr} {M B:Nat→Prop} {h:Hh} {S:Nat→Prop} {aj:Ev.Fr},exs P w s fr=.ok g af→bG M B h S fr aj→NY P' w s g M B h S fr aj af
end
section
variable {P:aT}{P':Ev.aT}{w:Nat}(HP:pU P P')
include HP
theorem Ka {i:Nat}{e:E}:pe P P' w (.set i e):=fun {fr g af M B h S aj} z f=>by
 simp only [ex] at z
 replace z:=ai z;obtain ⟨x,au,z1,z⟩:=z
 by_cases hn:isNew e=true
 ·rw [if_pos hn] at z
  have key:∃ l ds h1 S1,x=.lst l∧av h1 S1 l ds∧Ev.ev P' e aj h=.ok (.ref h1.length) (h1++[.lst ds])∧Out M B (bF e) h S fr aj h1 S1 au:=by
   cases e <;> simp only [isNew,Bool.false_eq_true] at hn
   case lst es=>
    simp only [ev] at z1
    replace z1:=ai z1;obtain ⟨l,bZ,z2,z1⟩:=z1
    replace z1:=aQ z1;obtain ⟨z1,y0⟩:=z1;subst y0
    unfold dG at z1
    split at z1
    case isFalse=>cases z1
    rename_i hk
    cases z1
    obtain ⟨ds,h1,S1,e1,q1,o1⟩:=gm HP es z2 f
    refine ⟨l,ds,h1,S1,rfl,q1.n,?_,o1⟩
    simp only [Ev.ev,e1,Ev.ao,Ev.alloc]
    rw [if_pos (by rw [←q1.n.length];exact hk)]
   case gQ it=>
    simp only [ev] at z1
    replace z1:=ai z1;obtain ⟨l,bZ,z2,z1⟩:=z1
    replace z1:=aQ z1;obtain ⟨z1,y0⟩:=z1;subst y0
    unfold dG at z1
    split at z1
    case isFalse=>cases z1
    rename_i hk
    cases z1
    obtain ⟨s,h1,S1,e1,q1,q2,o1⟩:=kG HP it z2 f
    refine ⟨l,s.1,h1,S1,rfl,q1,?_,o1⟩
    simp only [Ev.ev,e1,Ev.ao,Ev.alloc]
    rw [if_pos (by rw [←q1.length];exact hk)]
  obtain ⟨l,ds,h1,S1,rfl,q1,e1,o1⟩:=key
  simp only at z
  replace z:=ai z;obtain ⟨bZ,jd,z2,z⟩:=z
  replace z2:=aQ z2;obtain ⟨z2,y0⟩:=z2;subst y0
  cases z
  have o2:=o1.f.own z2 q1
  exact ⟨.nx,_,_,_,_,by simp only [Ev.ex,e1,Ev.ao],rfl,o1.s.trans f o2⟩
 ·rw [if_neg hn] at z
  replace z:=ai z;obtain ⟨bZ,jd,z2,z⟩:=z
  replace z2:=aQ z2;obtain ⟨z2,y0⟩:=z2;subst y0
  cases z
  obtain ⟨d,h1,S1,e1,q1,o1⟩:=aX HP e z1 f
  obtain ⟨f2,l2,r2⟩:=o1.f.set z2 q1.n
  refine ⟨.nx,_,_,_,_,by simp only [Ev.ex,e1,Ev.ao],rfl,o1.s.trans f ⟨f2,(d9.refl f2).tr,l2,r2⟩⟩
theorem Kc {l:List Nat}{e:E}:pe P P' w (.j7 l e):=fun {fr g af M B h S aj} z f=>by
 simp only [ex] at z
 replace z:=ai z;obtain ⟨x,au,z1,z⟩:=z
 replace z:=ai z;obtain ⟨bZ,jd,z2,z⟩:=z
 replace z2:=aQ z2;obtain ⟨z2,y0⟩:=z2;subst y0
 cases z
 obtain ⟨d,h1,S1,e1,q1,o1⟩:=aX HP e z1 f
 obtain ⟨ja,b1,f2,l2,r2⟩:=o1.f.bD z2 q1.n
 exact ⟨.nx,_,_,_,_,by simp only [Ev.ex,e1,Ev.ao,b1],rfl,o1.s.trans f ⟨f2,(d9.refl f2).tr,l2,r2⟩⟩
theorem NZ {e:E}:pe P P' w (.exp e):=fun {fr g af M B h S aj} z f=>by
 simp only [ex] at z
 replace z:=ai z;obtain ⟨x,au,z1,z⟩:=z
 cases z
 obtain ⟨d,h1,S1,e1,q1,o1⟩:=aX HP e z1 f
 exact ⟨.nx,_,_,_,_,by simp only [Ev.ex,e1,Ev.ao],rfl,o1.s⟩
theorem N1 {e:E}:pe P P' w (.ret e):=fun {fr g af M B h S aj} z f=>by
 simp only [ex] at z
 replace z:=ai z;obtain ⟨x,au,z1,z⟩:=z
 cases z
 obtain ⟨M1,S1,o1⟩:=f.dm
 obtain ⟨d,h2,S2,e1,q1,o2⟩:=aX HP e z1 o1.f
 exact ⟨.ret d,_,_,_,_,by simp only [Ev.ex,e1,Ev.ao],⟨d,rfl,q1.n⟩,o1.trans f o2.s⟩
omit HP in
theorem qT {F:V→Fr→R Fl}{F':D→Ev.Fr→Hh→Ev.R (Ev.Fl×Ev.Fr)}{ck:List (Nat×List D)}{B:Nat→Prop}{M0:Nat→Prop}{h0:Hh}{S0:Nat→Prop}{eS:Fr}{DG:Ev.Fr}(f0:bG M0 B h0 S0 eS DG) (st:∀ q∈ck,bx h0 q.1=some q.2∧¬ M0 q.1)
  (turn:∀ v d fr g af M h S aj,F v fr=.ok g af→bG M B h S fr aj→Rep h S v d→∃ g' bP M' h' S',F' d aj h=.ok (g',bP) h'∧gU h' S' g g'∧d9 M B h S fr aj M' h' S' af bP) :
  ∀ {vs:List V} {ds:List D} {fr:Fr} {g:Fl} {af:Fr} {M:Nat→Prop} {h:Hh} {S:Nat→Prop} {aj:Ev.Fr},forL F vs fr=.ok g af→d9 M0 B h0 S0 eS DG M h S fr aj→av h S vs ds→
  ∃ g' bP M' h' S',Ev.forL F' ck ds aj h=.ok (g',bP) h'∧gU h' S' g g'∧d9 M0 B h0 S0 eS DG M' h' S' af bP
 | [],ds,fr,g,af,M,h,S,aj,e,o,q=>by
  simp only [forL] at e;simp only [av] at q;subst q
  cases e
  refine ⟨.nx,aj,M,h,S,?_,rfl,o⟩
  simp only [Ev.forL]
  rw [if_pos (jH fun x hx=>lu (st x hx).1 (o.tr.keep _ (pX (st x hx).1) (st x hx).2))]
 | v :: vs,ds,fr,g,af,M,h,S,aj,e,o,q=>by
  simp only [forL] at e
  replace e:=ai e;obtain ⟨p,au,e1,e⟩:=e
  simp only [av] at q
  obtain ⟨d,es,rfl,q1,q2⟩:=q
  obtain ⟨g',lz,M2,h2,S2,t1,t2,t3⟩:=turn v d fr p au M h S aj e1 o.f q1
  have o2:=o.trans f0 t3
  have GG:Ev.stays h ck=true:=jH fun x hx=>lu (st x hx).1 (o.tr.keep _ (pX (st x hx).1) (st x hx).2)
  have Vy:av h2 S2 vs es:=q2.mono (fun m z=>t3.tr.keep m (o.f.wS m z).1 (o.f.wS m z).2.1) t3.tr.sub
  cases p with
  | nx=>
   simp only [gU] at t2;subst t2
   simp only at e
   obtain ⟨qc,ja,M3,h3,S3,u1,u2,u3⟩:=qT f0 st turn e o2 Vy
   refine ⟨qc,ja,M3,h3,S3,?_,u2,u3⟩
   simp only [Ev.forL]
   rw [if_pos GG,t1,Ev.ao]
   exact u1
  | ct=>
   simp only [gU] at t2;subst t2
   simp only at e
   obtain ⟨qc,ja,M3,h3,S3,u1,u2,u3⟩:=qT f0 st turn e o2 Vy
   refine ⟨qc,ja,M3,h3,S3,?_,u2,u3⟩
   simp only [Ev.forL]
   rw [if_pos GG,t1,Ev.ao]
   exact u1
  | bk=>
   simp only [gU] at t2;subst t2
   simp only at e
   cases e
   refine ⟨.nx,lz,M2,h2,S2,?_,rfl,o2⟩
   simp only [Ev.forL]
   rw [if_pos GG,t1,Ev.ao]
  | ret x=>
   simp only [gU] at t2
   obtain ⟨d2,rfl,t2⟩:=t2
   simp only at e
   cases e
   refine ⟨.ret d2,lz,M2,h2,S2,?_,⟨d2,rfl,t2⟩,o2⟩
   simp only [Ev.forL]
   rw [if_pos GG,t1,Ev.ao]
theorem N2 {t:T}{it:It}{b:Ss}(ib:qb P P' w b):pe P P' w (.for t it b):=fun {fr g af M B h S aj} z f=>by
 simp only [ex] at z
 replace z:=ai z;obtain ⟨vs,au,z1,z⟩:=z
 obtain ⟨M1,S1,o1⟩:=f.walk (itv it)
 obtain ⟨s,h2,S2,e1,q1,q2,o2⟩:=kG HP it z1 o1.f
 have o3:=o1.trans f o2.s
 obtain ⟨g',bP,M',h',S',u1,u2,u3⟩:=qT (F':=fun d au h2=>match Ev.bD t d au with
   | some bZ=>Ev.exs P' w b bZ h2
   | none=>.bad) (ck:=s.2) o2.f (fun q hq=>⟨(q2 q hq).1,(q2 q hq).2 rfl⟩) (fun v d fr g af M h S aj y f q=>by
  split at y
  ·rename_i bZ y1
   obtain ⟨ja,b1,b2,b3,b4⟩:=f.bD y1 q
   rw [b1]
   obtain ⟨g',bP,M',h',S',c1,c2,c3⟩:=ib y b2
   exact ⟨g',bP,M',h',S',c1,c2,(⟨b2,(d9.refl b2).tr,b3,b4⟩:d9 M _ h S fr aj M h S bZ ja).trans f c3⟩
  ·cases y) z (d9.refl o2.f) q1
 refine ⟨g',bP,M',h',S',?_,u2,o3.trans f u3⟩
 simp only [Ev.ex,e1,Ev.ao]
 exact u1
theorem uT {t:E}{b:Ss}(ib:qb P P' w b):∀ (n:Nat) {fr:Fr}{g:Fl}{af:Fr}{M B:Nat→Prop}{h:Hh}{S:Nat→Prop}{aj:Ev.Fr},d8 (fun au=>aM P t au) (fun au=>exs P w b au) n fr=.ok g af→bG M B h S fr aj→
  ∃ g' bP M' h' S',Ev.d8 (fun au h2=>Ev.aM P' t au h2) (fun au h2=>Ev.exs P' w b au h2) n aj h=.ok (g',bP) h'∧gU h' S' g g'∧d9 M B h S fr aj M' h' S' af bP
 | 0,_,_,_,_,_,_,_,_,z,_=>by simp only [d8] at z;cases z
 | n+1,fr,g,af,M,B,h,S,aj,z,f=>by
  simp only [d8] at z
  replace z:=ai z;obtain ⟨k,au,z1,z⟩:=z
  obtain ⟨h1,S1,e1,o1⟩:=gE HP t z1 f
  cases k with
  | false=>
   simp only [Bool.false_eq_true,if_false] at z
   cases z
   refine ⟨.nx,aj,M,h1,S1,?_,rfl,o1.s⟩
   simp only [Ev.d8,e1,Ev.ao]
   rw [if_neg (by decide)]
  | true=>
   simp only [if_true] at z
   replace z:=ai z;obtain ⟨p,bZ,z2,z⟩:=z
   obtain ⟨g',ja,M2,h2,S2,t1,t2,t3⟩:=ib z2 o1.f
   have o2:=o1.s.trans f t3
   cases p with
   | nx=>
    simp only [gU] at t2;subst t2
    simp only at z
    obtain ⟨qc,DH,M3,h3,S3,u1,u2,u3⟩:=uT ib n z t3.f
    refine ⟨qc,DH,M3,h3,S3,?_,u2,o2.trans f u3⟩
    simp only [Ev.d8,e1,Ev.ao,if_true,t1]
    exact u1
   | ct=>
    simp only [gU] at t2;subst t2
    simp only at z
    obtain ⟨qc,DH,M3,h3,S3,u1,u2,u3⟩:=uT ib n z t3.f
    refine ⟨qc,DH,M3,h3,S3,?_,u2,o2.trans f u3⟩
    simp only [Ev.d8,e1,Ev.ao,if_true,t1]
    exact u1
   | bk=>
    simp only [gU] at t2;subst t2
    simp only at z
    cases z
    refine ⟨.nx,ja,M2,h2,S2,?_,rfl,o2⟩
    simp only [Ev.d8,e1,Ev.ao,if_true,t1]
   | ret x=>
    simp only [gU] at t2
    obtain ⟨d2,rfl,t2⟩:=t2
    simp only at z
    cases z
    refine ⟨.ret d2,ja,M2,h2,S2,?_,⟨d2,rfl,t2⟩,o2⟩
    simp only [Ev.d8,e1,Ev.ao,if_true,t1]
theorem N3 {t:E}{a b:Ss}(ia:qb P P' w a) (ib:qb P P' w b):pe P P' w (.iff t a b):=fun {fr g af M B h S aj} z f=>by
 simp only [ex] at z
 replace z:=ai z;obtain ⟨k,au,z1,z⟩:=z
 obtain ⟨h1,S1,e1,o1⟩:=gE HP t z1 f
 cases k with
 | true=>
  simp only [if_true] at z
  obtain ⟨g',bP,M',h',S',c1,c2,c3⟩:=ia z o1.f
  exact ⟨g',bP,M',h',S',by simp only [Ev.ex,e1,Ev.ao,if_true,c1],c2,o1.s.trans f c3⟩
 | false=>
  simp only [Bool.false_eq_true,if_false] at z
  obtain ⟨g',bP,M',h',S',c1,c2,c3⟩:=ib z o1.f
  exact ⟨g',bP,M',h',S',by simp only [Ev.ex,e1,Ev.ao];rw [if_neg (by decide)];exact c1,c2,o1.s.trans f c3⟩
mutual
theorem Te:∀ s:S,pe P P' w s
 | .set _ _=>Ka HP
 | .j7 _ _=>Kc HP
 | .dput _ _ _=>fun z _=>by simp only [ex] at z;cases z
 | .exp _=>NZ HP
 | .ret _=>N1 HP
 | .iff _ a b=>N3 HP (kH a) (kH b)
 | .for _ _ b=>N2 HP (kH b)
 | .mJ _ b=>fun z f=>by
  simp only [ex] at z
  obtain ⟨g',bP,M',h',S',c1,c2,c3⟩:=uT HP (kH b) w z f
  exact ⟨g',bP,M',h',S',by simp only [Ev.ex];exact c1,c2,c3⟩
 | .fj=>fun z _=>by simp only [ex] at z;cases z
theorem kH:∀ s:Ss,qb P P' w s
 | .nil=>fun z f=>by simp only [exs] at z;cases z;exact ⟨.nx,_,_,_,_,by simp only [Ev.exs],rfl,.refl f⟩
 | .cons s ss=>fun z f=>by
  simp only [exs] at z
  replace z:=ai z;obtain ⟨p,au,z1,z⟩:=z
  obtain ⟨g',lz,M2,h2,S2,t1,t2,t3⟩:=Te s z1 f
  cases p with
  | nx=>
   simp only [gU] at t2;subst t2
   simp only at z
   obtain ⟨qc,ja,M3,h3,S3,u1,u2,u3⟩:=kH ss z t3.f
   exact ⟨qc,ja,M3,h3,S3,by simp only [Ev.exs,t1,Ev.ao,u1],u2,t3.trans f u3⟩
  | ct=>
   simp only [gU] at t2;subst t2
   simp only at z
   cases z
   exact ⟨.ct,lz,M2,h2,S2,by simp only [Ev.exs,t1,Ev.ao],rfl,t3⟩
  | bk=>
   simp only [gU] at t2;subst t2
   simp only at z
   cases z
   exact ⟨.bk,lz,M2,h2,S2,by simp only [Ev.exs,t1,Ev.ao],rfl,t3⟩
  | ret x=>
   simp only [gU] at t2
   obtain ⟨d2,rfl,t2⟩:=t2
   simp only at z
   cases z
   exact ⟨.ret d2,lz,M2,h2,S2,by simp only [Ev.exs,t1,Ev.ao],⟨d2,rfl,t2⟩,t3⟩
end
end
theorem qU {h:Hh}{S:Nat→Prop}{B:Nat→Prop}{h0:Hh}{S0:Nat→Prop}:∀ {sl:List Sl}{ds:List D}{cs:Fr},sl.length=ds.length→
  (∀ (a:Nat) s d,sl[a]?=some s→ds[a]?=some d→kB B B h0 S0 (some s) (some d)∧locked cs a=xN (some s)∧(xN (some s)=true→∃ m es l s',d=.ref m∧h[m]?=some (.lst es)∧av h S l es∧cs[a]?=some (some s')∧s'.out=some l))→mU h S sl ds ((cs.take sl.length).filterMap fun o=>o.bind Sl.out)
 | [],ds,cs,_,_=>by simp [mU]
 | s :: sl,[],cs,hl,_=>by simp at hl
 | s :: sl,d :: ds,[],hl,q=>by
  have ih:=qU (h:=h) (S:=S) (sl:=sl) (ds:=ds) (cs:=[]) (by simpa using hl) fun a s' d' e1 e2=>by
   obtain ⟨w1,w2,w3⟩:=q (a+1) s' d' (by simpa using e1) (by simpa using e2)
   exact ⟨w1,by simpa [locked] using w2,fun z=>by obtain ⟨_,_,_,_,_,_,_,y,_⟩:=w3 z;simp at y⟩
  obtain ⟨w1,w2,w3⟩:=q 0 s d (by simp) (by simp)
  cases s with
  | val v=>simp at ih ⊢;exact ⟨d,ds,rfl,ih⟩
  | own l=>exact absurd w1 (by rintro ⟨m,es,e,q,_⟩;exact q.2 q.1)
  | bor l=>obtain ⟨_,_,_,_,_,_,_,y,_⟩:=w3 rfl;simp at y
  | ro l=>obtain ⟨_,_,_,_,_,_,_,y,_⟩:=w3 rfl;simp at y
 | s :: sl,d :: ds,o :: cs,hl,q=>by
  have ih:=qU (h:=h) (S:=S) (sl:=sl) (ds:=ds) (cs:=cs) (by simpa using hl) fun a s' d' e1 e2=>by
   obtain ⟨w1,w2,w3⟩:=q (a+1) s' d' (by simpa using e1) (by simpa using e2)
   exact ⟨w1,by simpa [locked] using w2,fun z=>by simpa using w3 z⟩
  obtain ⟨w1,w2,w3⟩:=q 0 s d (by simp) (by simp)
  cases s with
  | val v=>
   have:o.bind Sl.out=none:=by
    simp [locked] at w2
    rcases o with _ | s
    ·rfl
    ·cases s <;> first | rfl | cases w2
   simp only [List.length_cons,List.take_succ_cons,List.filterMap_cons,this]
   exact ⟨d,ds,rfl,ih⟩
  | own l=>exact absurd w1 (by rintro ⟨m,es,e,q,_⟩;exact q.2 q.1)
  | bor l=>
   obtain ⟨m,es,l',s',a1,a2,a3,a4,a5⟩:=w3 rfl
   simp at a4;subst a4
   simp only [List.length_cons,List.take_succ_cons,List.filterMap_cons,Option.bind,a5]
   exact ⟨d,ds,l',_,m,es,rfl,rfl,a1,a2,a3,ih⟩
  | ro l=>
   obtain ⟨m,es,l',s',a1,a2,a3,a4,a5⟩:=w3 rfl
   simp at a4;subst a4
   simp only [List.length_cons,List.take_succ_cons,List.filterMap_cons,Option.bind,a5]
   exact ⟨d,ds,l',_,m,es,rfl,rfl,a1,a2,a3,ih⟩
theorem BA (F:List Fn) (w:Nat):∀ n,pU (run F w n) (Ev.run F w n)
 | 0=>fun f sl v os e=>by simp [run] at e
 | n+1=>fun f sl v os e h S B ds F0=>by
  have HP:=BA F w n
  simp only [run] at e
  cases z:F[f]? with
  | none=>rw [z] at e;cases e
  | some fn=>
  rw [z] at e
  simp only at e
  split at e
  case isFalse=>cases e
  rename_i hl
  have hlen:sl.length=ds.length:=by have:=F0.len;simpa using this
  have f1:bG B B h S (eS fn sl) (Ev.eS fn ds):=by
   unfold eS Ev.eS
   have sp:∀ (i:Nat) o,(sl.map some++List.replicate (fn.ns - fn.np) none)[i]?=some o→(sl.map some)[i]?=some o∨(sl.length≤i∧o=none):=fun i o y=>by
    by_cases hi:i<sl.length
    ·rw [List.getElem?_append_left (by simpa using hi)] at y;exact .inl y
    ·rw [List.getElem?_append_right (by simpa using hi)] at y
     have:=List.mem_of_getElem? y
     exact .inr ⟨by omega,(List.mem_replicate.mp this).2⟩
   have lo:∀ (i:Nat) p,i<sl.length→(ds.map some++List.replicate (fn.ns - fn.np) none)[i]?=some p→(ds.map some)[i]?=some p:=fun i p hi y=>by
    rw [List.getElem?_append_left (by simpa [←hlen] using hi)] at y;exact y
   refine ⟨F0.wS,F0.wM,F0.wB,by simp [hlen],fun i o p y1 y2=>?_,fun i j o o' m y1 y2 y3 y4 y5 y6=>?_⟩
   ·rcases sp i o y1 with y1 | ⟨hi,rfl⟩
    ·have hi:i<sl.length:=by have:=(List.getElem?_eq_some_iff.mp y1).1;simpa using this
     exact F0.sl i o p y1 (lo i p hi y2)
    ·rw [List.getElem?_append_right (by simpa [←hlen] using hi)] at y2
     have:=List.mem_of_getElem? y2
     exact (List.mem_replicate.mp this).2
   ·rcases sp i o y1 with y1 | ⟨hi,rfl⟩
    ·rcases sp j o' y2 with y2 | ⟨hj,rfl⟩
     ·have hi:i<sl.length:=by have:=(List.getElem?_eq_some_iff.mp y1).1;simpa using this
      have hj:j<sl.length:=by have:=(List.getElem?_eq_some_iff.mp y2).1;simpa using this
      exact F0.inj i j o o' m y1 y2 y3 y4 (lo i _ hi y5) (lo j _ hj y6)
     ·cases y4
    ·cases y3
  have fin:∀ {g:Fl} {af:Fr},exs (run F w n) w fn.body (eS fn sl)=.ok g af→∃ g' bP M' h' S',Ev.exs (Ev.run F w n) w fn.body (Ev.eS fn ds) h=.ok (g',bP) h'∧gU h' S' g g'∧Tk B h S h' S'∧mU h' S' sl ds (outs fn.np af):=fun {g af} y=>by
   obtain ⟨g',bP,M',h',S',c1,c2,c3⟩:=kH HP fn.body y f1
   refine ⟨g',bP,M',h',S',c1,c2,⟨c3.tr.len,fun m y1 y2=>c3.tr.keep m y1 y2,c3.tr.sub,fun m q=>?_⟩,?_⟩
   ·rcases c3.tr.new m q with q | q | q
    ·exact .inl q
    ·exact .inr q
    ·exact absurd q.1 q.2
   ·unfold outs
    rw [←hl]
    refine qU (B:=B) (h0:=h) (S0:=S) hlen fun a s d e1 e2=>?_
    have ha:a<sl.length:=(List.getElem?_eq_some_iff.mp e1).1
    have h0:(eS fn sl)[a]?=some (some s):=by unfold eS;rw [List.getElem?_append_left (by simpa using ha)];simp [e1]
    have hlk:locked af a=xN (some s):=by rw [c3.lk a];unfold locked;rw [h0]
    refine ⟨F0.sl a _ _ (by simp [e1]) (by simp [e2]),hlk,fun hk=>?_⟩
    have hr:=c3.rf a (by unfold locked;rw [h0];exact hk)
    have hd:(Ev.eS fn ds)[a]?=some (some d):=by unfold Ev.eS;rw [List.getElem?_append_left (by simpa [←hlen] using ha)];simp [e2]
    rw [hd] at hr
    cases y2:af[a]? with
    | none=>unfold locked at hlk;rw [y2] at hlk;rw [←hlk] at hk;cases hk
    | some o=>
     have sr:=c3.f.sl a _ _ y2 hr
     unfold locked at hlk
     rw [y2,hk] at hlk
     rcases o with _ | s'
     ·cases hlk
     ·cases s' with
      | val v=>cases hlk
      | own l=>cases hlk
      | bor l=>obtain ⟨m,es,e,_,k1,k2⟩:=sr;cases e;exact ⟨m,es,l,_,rfl,k1,k2,rfl,rfl⟩
      | ro l=>obtain ⟨m,es,e,_,k1,k2⟩:=sr;cases e;exact ⟨m,es,l,_,rfl,k1,k2,rfl,rfl⟩
  simp only [Ev.run,z]
  have hl':ds.length=fn.np:=by omega
  rw [if_pos hl']
  split at e
  ·rename_i v' af y
   cases e
   obtain ⟨g',bP,M',h',S',c1,c2,c3,c4⟩:=fin y
   simp only [gU] at c2
   obtain ⟨d,rfl,c2⟩:=c2
   exact ⟨d,h',S',by simp only [Ev.endOf,c1,Ev.ao],c2,c3,c4⟩
  ·rename_i af y
   cases e
   obtain ⟨g',bP,M',h',S',c1,c2,c3,c4⟩:=fin y
   simp only [gU] at c2
   subst c2
   exact ⟨.bf,h',S',by simp only [Ev.endOf,c1,Ev.ao],rfl,c3,c4⟩
  ·obtain ⟨rfl,l,k,rfl,e1,rfl,rfl⟩:=NG e
   obtain ⟨d,rfl⟩:∃ d,ds=[d]:=by cases ds with | nil=>simp at hlen | cons d ds=>cases ds with | nil=>exact ⟨d,rfl⟩ | cons _ _=>simp at hlen
   obtain ⟨d',ed,q⟩:=F0.sl 0 _ _ rfl rfl
   cases ed
   have r:=NF (w:=w) (n:=n) z q e1
   simp only [Ev.run,z] at r
   rw [if_pos hl'] at r
   refine ⟨_,_,fun m=>S m∨m=h.length,r,⟨h.length,rfl,.inr rfl,by simp⟩,⟨by simp,fun m y1 _=>by rw [List.getElem?_append_left y1],fun m q=>.inl q,fun m q=>?_⟩,?_⟩
   ·rcases q with q | rfl
    ·exact .inl q
    ·exact .inr ⟨Nat.le_refl _,by simp⟩
   ·exact ⟨d,[],rfl,rfl⟩
end Pv
namespace Pv
open Ev (D O Hh Fn)
theorem Kd {F:List Fn}{w n f:Nat}{ns:List Int}(e:run F w n f [.val (.bS (ns.map V.int))]=some (.bl true,[])):∃ h',Ev.run F w n f [.ref 0] [.bS (ns.map D.int)]=.ok (.bl true) h':=by
 have F0:bG (fun _=>False) (fun _=>False) [O.bS (ns.map D.int)] (fun m=>m=0) ([Sl.val (.bS (ns.map V.int))].map some) ([D.ref 0].map some):=by
  refine ⟨fun m q=>⟨by subst q;simp,id,id⟩,fun m q=>q.elim,fun m q=>q.elim,rfl,fun i o p y1 y2=>?_,fun i j o o' m y1 y2 y3 y4 y5 y6=>?_⟩
  ·cases i with
   | zero=>
    simp at y1 y2;subst y1 y2
    refine ⟨.ref 0,rfl,?_⟩
    simp only [Rep]
    exact ⟨0,_,rfl,rfl,rfl,av.map (f:=V.int) (g:=D.int) (fun _=>by simp [Rep]) ns⟩
   | succ i=>simp at y1
  ·cases i with
   | zero=>simp at y1;subst y1;cases y3
   | succ i=>simp at y1
 obtain ⟨d,h',S',a,b,_,_⟩:=BA F w n f _ _ _ e _ _ _ _ F0
 simp only [Rep] at b
 subst b
 exact ⟨h',a⟩
end Pv
namespace Pv
open Ev (D bU bN TY BI ME T E Es Eo It S Ss Fn big deep b2i rep cz dP bL aU cut cS ek slots)
theorem cy {n:Nat}(h:n≤100000):n≤big:=Nat.le_trans h (by decide)
section
variable {i j:Int}{a b:List Nat}{x y:List V}{d e:V}{m n:Nat}{k l:Bool}
theorem fy (h:x.length≤big):dG x=some (.lst x):=by simp [dG,h]
theorem jI (h:x.length≤big):jE x=some (.tup x):=by simp [jE,h]
@[simp] theorem fh:dG []=some (.lst []):=fy (cy (by simp))
@[simp] theorem Tf:jE []=some (.tup []):=jI (cy (by simp))
@[simp] theorem lD {a}:dG [a]=some (.lst [a]):=fy (cy (by simp))
@[simp] theorem tw {a}:jE [a]=some (.tup [a]):=jI (cy (by simp))
@[simp] theorem Tg {a b}:dG [a,b]=some (.lst [a,b]):=fy (cy (by simp))
@[simp] theorem j0 {a b}:jE [a,b]=some (.tup [a,b]):=jI (cy (by simp))
@[simp] theorem Ti {a b c}:jE [a,b,c]=some (.tup [a,b,c]):=jI (cy (by simp))
@[simp] theorem eY:bQ .add (.int i) (.int j)=some (.int (i+j)):=nd rfl
theorem lE (h:a.length+b.length≤100000):bQ .add (.str a) (.str b)=some (.str (a++b)):=by delta bQ;dsimp only;simp [cy h]
theorem DI (h:x.length+y.length≤100000):bQ .add (.tup x) (.tup y)=some (.tup (x++y)):=by delta bQ;dsimp only;simp [cy h]
theorem lG (h:x.length+y.length≤100000):bQ .add (.lst x) (.lst y)=some (.lst (x++y)):=by delta bQ;dsimp only;simp [fy (cy (show (x++y).length≤100000 by simpa using h))]
@[simp] theorem uU:bQ .sub (.int i) (.int j)=some (.int (i - j)):=nd rfl
@[simp] theorem pq:bQ .mul (.int i) (.int j)=if cz i j then some (.int (i*j)) else none:=nd rfl
theorem DJ (h0:0≤j) (h1:j≤1000) (h2:a.length≤1000):bQ .mul (.str a) (.int j)=some (.str (rep j.toNat a)):=by delta bQ;dsimp only;simp [h0,h1,h2]
@[simp] theorem DK:bQ .fdiv (.int i) (.int j)=if 0<j∧j<1073741824 then some (.int (i / j)) else none:=nd rfl
@[simp] theorem Ke:bQ .mod (.int i) (.int j)=if 0<j then some (.int (i % j)) else none:=nd rfl
@[simp] theorem mY:cop .ne d e=(dF deep d e).map (!·):=nd rfl
@[simp] theorem N4:dF (n+1) (.int i) (.int j)=some (decide (i=j)):=by show some (i==j)=_;by_cases h:i=j <;> simp [h]
@[simp] theorem N5:dF (n+1) (.str a) (.str b)=some (decide (a=b)):=by show some (a==b)=_;by_cases h:a=b <;> simp [h]
@[simp] theorem aac:dF (n+1) (.str a) (.int i)=some false:=nd rfl
@[simp] theorem aad:dF (n+1) (.int i) (.str a)=some false:=nd rfl
@[simp] theorem N6:dF (n+1) (.tup x) (.tup y)=cF (dF n) x y:=nd rfl
@[simp] theorem BB:dF (n+1) (.lst x) (.lst y)=cF (dF n) x y:=nd rfl
@[simp] theorem xS:dF deep (.int i) (.int j)=some (decide (i=j)):=N4
@[simp] theorem xT:dF deep (.str a) (.str b)=some (decide (a=b)):=N5
@[simp] theorem xU:dF deep (.tup x) (.tup y)=cF (dF (18+1)) x y:=nd rfl
@[simp] theorem xV:dF deep (.lst x) (.lst y)=cF (dF (18+1)) x y:=nd rfl
@[simp] theorem Kf {f:V→V→Option Bool}:cF f [] []=some true:=nd rfl
@[simp] theorem aae {f:V→V→Option Bool}:cF f [] (d :: x)=some false:=nd rfl
@[simp] theorem aaf {f:V→V→Option Bool}:cF f (d :: x) []=some false:=nd rfl
@[simp] theorem uV {f:V→V→Option Bool}:cF f (d :: x) (e :: y)=(f d e).bind fun b=>(cF f x y).bind fun c=>some (b&&c):=nd rfl
theorem iG {α:Type} [DecidableEq α] {f:V→V→Option Bool}{g:α→V}(h:∀ a b,f (g a) (g b)=some (decide (a=b))):∀ l m:List α,cF f (l.map g) (m.map g)=some (decide (l=m))
 | [],[]=>by simp
 | [],_ :: _=>by simp
 | _ :: _,[]=>by simp
 | a :: l,b :: m=>by simp [h,iG h l m]
@[simp] theorem qV:eF (.str a) (.int i)=(bL a i).map fun c=>.str [c]:=nd rfl
@[simp] theorem xW:eF (.lst x) (.int i)=bL x i:=nd rfl
@[simp] theorem gW {lo hi:Option Int}:gc (.str a) lo hi=some (.str (cut a lo hi)):=nd rfl
theorem len_str (h:a.length≤100000):cX .len [.str a]=some (.int a.length):=by delta cX;dsimp only;simp [cy h]
@[simp] theorem jt:cX .len [.lst x]=some (.int x.length):=nd rfl
@[simp] theorem xX:cX .len [.bS x]=some (.int x.length):=nd rfl
@[simp] theorem Kg:cX .sum [.lst x]=(intsOf x).map fun is=>.int is.sum:=nd rfl
@[simp] theorem BC:cX .min [.int i,.int j]=some (.int (if j<i then j else i)):=nd rfl
@[simp] theorem qW:toT (.lst x)=jE x:=nd rfl
theorem N7 (h0:0≤j) (h1:j≤100000):er [.int j]=some (range 0 j.toNat):=by
 simp only [er];rw [if_pos ⟨by omega,by omega⟩]
theorem Ys (h0:-100000≤i) (h1:i≤100000) (h2:-100000≤j) (h3:j≤100000):er [.int i,.int j]=some (range i (j - i).toNat):=by
 simp only [er];rw [if_pos ⟨by omega,by omega,by omega,by omega⟩]
theorem zg {α:Type}(g:α→Int) (l:List α):intsOf (l.map fun x=>.int (g x))=some (l.map g):=by induction l <;> simp [intsOf, *]
theorem qd {α:Type}(g:α→List Nat) (l:List α):strsOf (l.map fun x=>.str (g x))=some (l.map g):=by induction l <;> simp [strsOf, *]
theorem sE:∀ l:List (List Nat),cS [] l=l.flatten
 | []=>rfl
 | [s]=>by simp [cS]
 | s :: t :: r=>by simp [cS,sE (t :: r)]
@[simp] theorem aag:truthy (.bl k)=k:=nd rfl
@[simp] theorem Z9:truthy (.lst x) = !x.isEmpty:=nd rfl
theorem GH {l:List (List Nat)}(h:l.flatten.length≤100000):fF .join (.str []) [.lst (l.map V.str)]=some (.str l.flatten):=by
 have hs:=qd (fun x=>x) l
 have:(l.map (·.length)).sum≤big:=cy (by rw [←List.length_flatten];exact h)
 simp only [List.map_id'] at hs
 have hs':strsOf (l.map V.str)=some l:=by simpa using qd (fun x=>x) l
 delta fF;dsimp only;simp [mR,hs',sE,this]
end
theorem iV {α:Type}{f:V→Option (Option V)}(e:α→V) (g:α→V) (l:List α) (h:∀ a∈l,f (e a)=some (some (g a))):cT f (l.map e)=some (l.map g):=by
 induction l with
 | nil=>rfl
 | cons a l ih=>simp only [List.map_cons,cT,h a (by simp),ih fun u hu=>h u (by simp [hu]),Option.bind];rfl
theorem mZ {α:Type}{f:V→Option (Option V)}(e:α→V) (p:α→Bool) (g:α→V) (l:List α) (h:∀ a∈l,f (e a)=some (if p a then some (g a) else none)):cT f (l.map e)=some ((l.filter p).map g):=by
 induction l with
 | nil=>rfl
 | cons a l ih=>
  simp only [List.map_cons,cT,h a (by simp),ih fun u hu=>h u (by simp [hu]),Option.bind]
  cases z:p a <;> simp [z]
noncomputable def Wp {α:Type}(r:R α) (Q:α→Fr→Prop):Prop:=∃ a h,r=.ok a h∧Q a h
section
variable {α β:Type}{Q Q':α→Fr→Prop}
@[simp] theorem j3 (a:α) (h:Fr):Wp (.ok a h) Q=Q a h:=propext ⟨fun ⟨_,_,e,q⟩=>by cases e;exact q,fun q=>⟨_,_,rfl,q⟩⟩
@[simp] theorem aah:Wp (.bad:R α) Q=False:=propext ⟨fun q=>(by obtain ⟨_,_,e,_⟩:=q;cases e),False.elim⟩
@[simp] theorem wp_bind (r:R β) (f:β→Fr→R α):Wp (r.bind f) Q=Wp r fun a h=>Wp (f a h) Q:=by cases r <;> simp
theorem Wp.mono {r:R α}(h:Wp r Q) (f:∀ a h,Q a h→Q' a h):Wp r Q':=by
 obtain ⟨a,h',e,q⟩:=h
 exact ⟨a,h',e,f a h' q⟩
end
noncomputable def fl (I Q:Fr→Prop) (X:V→Fr→Prop):Fl→Fr→Prop
 | .nx,fr=>I fr
 | .ct,fr=>I fr
 | .bk,fr=>Q fr
 | .ret v,fr=>X v fr
section
variable {I J:Fr→Prop}{X:V→Fr→Prop}{fr:Fr}{v:V}
@[simp] theorem cY:fl I J X .nx fr=I fr:=nd rfl
end
theorem uW {f:V→Fr→R Fl}{Q:Fl→Fr→Prop}(I:List V→Fr→Prop) (turn:∀ d l fr,I (d :: l) fr→Wp (f d fr) (fl (I l) (Q .nx) fun v=>Q (.ret v))) (fin:∀ fr,I [] fr→Q .nx fr):∀ (ds:List V) (fr:Fr),I ds fr→Wp (forL f ds fr) Q
 | [],fr,i=>by simp only [forL,j3];exact fin fr i
 | d :: ds,fr,i=>by
  simp only [forL,wp_bind]
  refine (turn d ds fr i).mono fun p h2 q=>?_
  cases p with
  | nx=>exact uW I turn fin ds h2 q
  | ct=>exact uW I turn fin ds h2 q
  | bk=>exact (j3 _ _).mpr q
  | ret x=>exact (j3 _ _).mpr q
theorem eG {α:Type}{e:α→V}{f:V→Fr→R Fl}{Q:Fl→Fr→Prop}(I:List α→List α→Fr→Prop) (turn:∀ p a l fr,I p (a :: l) fr→Wp (f (e a) fr) (fl (I (p++[a]) l) (Q .nx) fun v=>Q (.ret v))) (fin:∀ p fr,I p [] fr→Q .nx fr):∀ (l p:List α) (fr:Fr),I p l fr→Wp (forL f (l.map e) fr) Q
 | [],p,fr,i=>by simp only [List.map_nil,forL,j3];exact fin p fr i
 | a :: l,p,fr,i=>by
  simp only [List.map_cons,forL,wp_bind]
  refine (turn p a l fr i).mono fun g h2 q=>?_
  cases g with
  | nx=>exact eG I turn fin l _ h2 q
  | ct=>exact eG I turn fin l _ h2 q
  | bk=>exact (j3 _ _).mpr q
  | ret x=>exact (j3 _ _).mpr q
theorem qX {f:V→Fr→R Fl}{Q:Fl→Fr→Prop}{lo:Int}{N:Nat}(I:Nat→Fr→Prop) (turn:∀ (k:Nat) fr,k<N→I k fr→Wp (f (.int (lo+(k:Nat))) fr) (fl (I (k+1)) (Q .nx) fun v=>Q (.ret v))) (fin:∀ fr,I N fr→Q .nx fr) {fr:Fr}(i:I 0 fr):Wp (forL f (range lo N) fr) Q:=by
 have h:=eG (e:=fun (k:Nat)=>V.int (lo+k)) (f:=f) (Q:=Q) (fun p l fr=>∃ k,k≤N∧p=List.range k∧p++l=List.range N∧I k fr)
  (fun p a l fr ⟨k,hk,hp,hl,q⟩=>by
   subst hp
   have hlen:=congrArg List.length hl
   simp at hlen
   have ha:a=k:=by
    have:=congrArg (·[k]?) hl
    simp [List.getElem?_append_right] at this
    rw [List.getElem?_range (by omega)] at this
    simpa using this
   subst ha
   refine (turn a fr (by omega) q).mono fun g h2 z=>?_
   cases g with
   | nx=>exact ⟨a+1,by omega,by simp [List.range_succ],by simpa using hl,z⟩
   | ct=>exact ⟨a+1,by omega,by simp [List.range_succ],by simpa using hl,z⟩
   | bk=>exact z
   | ret x=>exact z)
  (fun p fr ⟨k,hk,hp,hl,q⟩=>by
   subst hp
   have hlen:=congrArg List.length hl
   simp at hlen
   subst hlen
   exact fin fr q) (List.range N) [] fr ⟨0,Nat.zero_le _,rfl,by simp,i⟩
 exact h
theorem qe {t:Fr→R Bool}{f:Fr→R Fl}{Q:Fl→Fr→Prop}(I:Nat→Fr→Prop) (turn:∀ k fr,I k fr→Wp (t fr) fun b af=>if b then Wp (f af) (fl (fun au=>∃ j,j<k∧I j au) (Q .nx) fun v=>Q (.ret v)) else Q .nx af):∀ (n k:Nat) (fr:Fr),k<n→I k fr→Wp (d8 t f n fr) Q
 | 0,k,fr,hk,_=>by omega
 | n+1,k,fr,hk,i=>by
  simp only [d8,wp_bind]
  refine (turn k fr i).mono fun b af q=>?_
  cases b with
  | false=>simpa using q
  | true=>
   simp only [if_true,wp_bind] at q ⊢
   refine q.mono fun g au z=>?_
   cases g with
   | nx=>obtain ⟨j,hj,z⟩:=z;exact qe I turn n j au (by omega) z
   | ct=>obtain ⟨j,hj,z⟩:=z;exact qe I turn n j au (by omega) z
   | bk=>exact (j3 _ _).mpr z
   | ret x=>exact (j3 _ _).mpr z
noncomputable def fin (fn:Fn) (ds:List Sl):R Fl→Option (V×List (List V))
 | .ok (.ret v) fr=>some (v,outs fn.np fr)
 | .ok .nx fr=>some (.bf,outs fn.np fr)
 | _=>xG fn ds
@[simp] theorem xY {fn:Fn} {ds:List Sl} {v:V} {fr:Fr}:fin fn ds (.ok (.ret v) fr)=some (v,outs fn.np fr):=nd rfl
theorem run_eq {F:List Fn}{w n f:Nat}{ds:List Sl}{fn:Fn}(hf:F[f]?=some fn) (hl:ds.length=fn.np):run F w (n+1) f ds=fin fn ds (exs (run F w n) w fn.body (eS fn ds)):=by
 simp only [run,hf,hl,if_true]
 cases exs (run F w n) w fn.body (eS fn ds) with
 | bad=>rfl
 | ok g fr=>cases g <;> rfl
theorem cD {F:List Fn}{w n f:Nat}{ds:List Sl}{fn:Fn}{v:V}{os:List (List V)}(hf:F[f]?=some fn) (hl:ds.length=fn.np) (q:Wp (exs (run F w n) w fn.body (eS fn ds)) fun g fr=>g=.ret v∧outs fn.np fr=os):run F w (n+1) f ds=some (v,os):=by
 rw [run_eq hf hl]
 obtain ⟨g,fr,e,rfl,rfl⟩:=q
 rw [e];rfl
section
variable {P:aT}{w:Nat}{fr:Fr}{k:Bool}{a b c:E}{es:Es}{ss sa sb:Ss}{st:S}{lo hi:Eo}{it:It}
@[simp] theorem Yt {d:D}:ev P k (.c d) fr=R.of (ofD d) fr:=by rw [ev]
@[simp] theorem Yu {i:Nat}:ev P k (.v i) fr=R.of (qR k fr i) fr:=by rw [ev]
@[simp] theorem N8:ev P k (.tup es) fr=(cj P false es fr).bind fun ds af=>R.of (jE ds) af:=by rw [ev]
@[simp] theorem N9:ev P k (.lst es) fr=(cj P false es fr).bind fun ds af=>R.of (dG ds) af:=by rw [ev]
@[simp] theorem Oa {o:bU}:ev P k (.bin o a b) fr=(ev P (kf a (bF b)) a fr).bind fun x af=>(ev P true b af).bind fun y au=>R.of (bQ o x y) au:=by rw [ev]
@[simp] theorem Ob {o:bN}:ev P k (.cmp o a b) fr=(ev P (kf a (bF b)) a fr).bind fun x af=>(ev P true b af).bind fun y au=>R.of ((cop o x y).map .bl) au:=by rw [ev]
noncomputable def ntD:V→Fr→R V:=fun x h1=>match x with
 | .bl b=>.ok (.bl (!b)) h1
 | _=>.bad
@[simp] theorem Tj:ev P k (.nt a) fr=(ev P true a fr).bind ntD:=by rw [ev];rfl
noncomputable def Yv:V→Fr→R V:=fun x h1=>match x with
 | .int i=>.ok (.int (-i)) h1
 | _=>.bad
@[simp] theorem Oc:ev P k (.neg a) fr=(ev P true a fr).bind Yv:=by rw [ev];rfl
noncomputable def Vz (r:Fr→R V):V→Fr→R V:=fun x h1=>match x with
 | .bl true=>r h1
 | .bl false=>.ok (.bl false) h1
 | _=>.bad
@[simp] theorem BD {k:Bool} {r:Fr→R V}:Vz r (.bl k) fr=if k then r fr else .ok (.bl false) fr:=by cases k <;> rfl
@[simp] theorem GI:ev P k (.an a b) fr=(ev P true a fr).bind (Vz fun h1=>ev P k b h1):=by rw [ev];rfl
@[simp] theorem Od:ev P k (.jW a b c) fr=(aM P a fr).bind fun t af=>if t then ev P k b af else ev P k c af:=by rw [ev]
theorem Oe:ev P k (.jX a b) fr=(ev P (kf a (bF b)) a fr).bind fun x af=>(ev P true b af).bind fun y au=>R.of (o8 x y) au:=by rw [ev]
theorem Of:ev P k (.lZ a b c) fr=(ev P (kf a (bF b++bF c)) a fr).bind fun x af=>(ev P (kf b (bF c)) b af).bind fun y au=>(ev P false c au).bind fun z bZ=>R.of (o9 x y z) bZ:=by rw [ev]
@[simp] theorem To:ev P k (.ix a b) fr=(ev P (kf a (bF b)) a fr).bind fun x af=>(ev P true b af).bind fun y au=>R.of (eF x y) au:=by rw [ev]
@[simp] theorem Tp:ev P k (.sl a lo hi) fr=(ev P (kf a (kc lo++kc hi)) a fr).bind fun x af=>(gg P lo af).bind fun l au=>(gg P hi au).bind fun u bZ=>R.of (gc x l u) bZ:=by rw [ev]
@[simp] theorem Tt {f:Nat}:ev P k (.cl f es) fr=(gh P es fr).bind fun as af=>ez P f as af:=by rw [ev]
@[simp] theorem Tu {g:BI}:ev P k (.bi g es) fr=(cj P true es fr).bind fun ds af=>R.of (cX g ds) af:=by rw [ev]
noncomputable def DL (m:ME) (i:Nat):List V→Fr→R V:=fun ds af=>match af[i]? with
 | some (some (.own l))=>match jZ m l ds with
  | some (v,l')=>.ok v (af.set i (some (.own l')))
  | none=>.bad
 | some (some (.bor l))=>match jZ m l ds with
  | some (v,l')=>.ok v (af.set i (some (.bor l')))
  | none=>.bad
 | _=>.bad
theorem Og {m:ME}{i:Nat}(hm:iN m=true):ev P k (.me m (.v i) es) fr=if (lent fr i).isSome then (cj P (Bf m) es fr).bind (DL m i) else .bad:=by
 rw [ev,if_pos hm]
 unfold kD
 cases z:(lent fr i).isSome <;> simp [z] <;> rfl
theorem Oh {m:ME}(hm:iN m=false):ev P k (.me m a es) fr=(ev P (kf a (gj es)) a fr).bind fun x af=>(cj P true es af).bind fun ds au=>R.of (fF m x ds) au:=by rw [ev,hm];rfl
noncomputable def lH (P:aT) (elt:E) (t:T) (cond:Eo) (fr:Fr):V→Option (Option V):=fun d=>match bD t d (sD fr) with
 | none=>none
 | some au=>match g7 P cond au with
  | .ok c _=>if c then (match ev P false elt au with | .ok x _=>some (some x) | .bad=>none) else some none
  | .bad=>none
@[simp] theorem qN {elt:E} {t:T} {cond:Eo}:ev P k (.comp elt t it cond) fr=(cL P true it fr).bind fun s af=>if undef t af then R.of ((cT (lH P elt t cond af) s).bind dG) af else .bad:=by rw [ev];rfl
@[simp] theorem Oi:ev P k (.gQ it) fr=(cL P true it fr).bind fun s af=>R.of (dG s) af:=by rw [ev]
@[simp] theorem Kh {kvs:List (D×D)}:ev P k (.mH kvs a) fr=(ev P true a fr).bind fun x af=>R.of (g6 x kvs) af:=by rw [ev]
@[simp] theorem Oj:ev P k (.jb a) fr=(ev P true a fr).bind fun x af=>R.of (toT x) af:=by rw [ev]
@[simp] theorem Kl:cj P k .nil fr=.ok [] fr:=by rw [cj]
@[simp] theorem DM:cj P k (.cons a es) fr=(ev P (k&&kf a (gj es)) a fr).bind fun d af=>(cj P k es af).bind fun ds au=>.ok (d :: ds) au:=by rw [cj]
@[simp] theorem Km:gh P .nil fr=.ok [] fr:=by rw [gh]
noncomputable def zh (P:aT) (a:E) (es:Es) (fr:Fr):Option Nat→R (List (Nat ⊕ V))
 | some i=>(gh P es fr).bind fun r af=>.ok (.inl i :: r) af
 | none=>(ev P false a fr).bind fun d af=>(gh P es af).bind fun r au=>.ok (.inr d :: r) au
@[simp] theorem zj {i:Nat}:zh P a es fr (some i)=(gh P es fr).bind fun r af=>.ok (.inl i :: r) af:=nd rfl
@[simp] theorem zk:zh P a es fr none=(ev P false a fr).bind fun d af=>(gh P es af).bind fun r au=>.ok (.inr d :: r) au:=nd rfl
@[simp] theorem uX:gh P (.cons a es) fr=zh P a es fr (kD fr a):=by rw [gh];cases kD fr a <;> rfl
@[simp] theorem Ol:gg P .no fr=.ok none fr:=by rw [gg]
@[simp] theorem Kn:gg P (.yes a) fr=(ev P true a fr).bind fun d af=>R.of ((intOf d).map some) af:=by rw [gg]
@[simp] theorem Om:g7 P .no fr=.ok true fr:=by rw [g7]
@[simp] theorem Ko:g7 P (.yes a) fr=aM P a fr:=by rw [g7]
@[simp] theorem BE:aM P (.an a b) fr=(aM P a fr).bind fun k af=>if k then aM P b af else .ok false af:=by rw [aM]
@[simp] theorem xZ:aM P (.orr a b) fr=(aM P a fr).bind fun k af=>if k then .ok true af else aM P b af:=by rw [aM]
@[simp] theorem Oo:aM P (.nt a) fr=(aM P a fr).bind fun k af=>.ok (!k) af:=by rw [aM]
noncomputable def Oq:V→Fr→R Bool:=fun x af=>.ok (truthy x) af
@[simp] theorem Kp {x:V}:Oq x fr=.ok (truthy x) fr:=nd rfl
@[simp] theorem Kq:cL P k (.seq a) fr=(src k fr a (ev P k a fr)).bind fun x af=>R.of (fL x) af:=by rw [cL]
@[simp] theorem Kr:cL P k (.gz es) fr=(cj P true es fr).bind fun ds af=>R.of (er ds) af:=by rw [cL]
@[simp] theorem DN:cL P k (.enum a) fr=(src k fr a (ev P k a fr)).bind fun x af=>R.of ((mR x).map fun s=>cJ 0 s) af:=by rw [cL]
@[simp] theorem Ks:cL P k (.rev a) fr=(ev P true a fr).bind fun x af=>R.of ((zb x).map fun s=>s.reverse) af:=by rw [cL]
noncomputable def Ot (i:Nat) (af:Fr):V→R Fl
 | .lst l=>(R.of (put af i (.own l)) af).bind fun au _=>.ok .nx au
 | _=>.bad
@[simp] theorem DO {i:Nat} {l:List V}:Ot i fr (.lst l)=(R.of (put fr i (.own l)) fr).bind fun au _=>.ok .nx au:=nd rfl
@[simp] theorem BF {i:Nat}:ex P w (.set i a) fr=(ev P false a fr).bind fun x af=>if isNew a then Ot i af x else (R.of (put af i (.val x)) af).bind fun au _=>.ok .nx au:=by
 rw [ex];rfl
@[simp] theorem Ku {l:List Nat}:ex P w (.j7 l a) fr=(ev P false a fr).bind fun x af=>(R.of (bD (.many l) x af) af).bind fun au _=>.ok .nx au:=by rw [ex]
@[simp] theorem Ou:ex P w (.exp a) fr=(ev P true a fr).bind fun _ af=>.ok .nx af:=by rw [ex]
@[simp] theorem Ov:ex P w (.ret a) fr=(ev P false a (eT fr)).bind fun x af=>.ok (.ret x) af:=by rw [ex]
@[simp] theorem Ow:ex P w (.iff a sa sb) fr=(aM P a fr).bind fun k af=>if k then exs P w sa af else exs P w sb af:=by rw [ex]
noncomputable def turnF (P:aT) (w:Nat) (t:T) (b:Ss):V→Fr→R Fl:=fun d au=>match bD t d au with
 | some bZ=>exs P w b bZ
 | none=>.bad
@[simp] theorem uy {t:T}:ex P w (.for t it ss) fr=(cL P false it (sZ (itv it) fr)).bind fun s af=>forL (turnF P w t ss) s af:=by rw [ex];rfl
@[simp] theorem Ox:ex P w (.mJ a ss) fr=d8 (fun au=>aM P a au) (fun au=>exs P w ss au) w fr:=by rw [ex]
@[simp] theorem Kv:exs P w .nil fr=.ok .nx fr:=by rw [exs]
noncomputable def Tv (P:aT) (w:Nat) (ss:Ss):Fl→Fr→R Fl:=fun p h1=>match p with
 | .nx=>exs P w ss h1
 | p=>.ok p h1
@[simp] theorem DP:exs P w (.cons st ss) fr=(ex P w st fr).bind (Tv P w ss):=by rw [exs];rfl
end
theorem m5 {P:aT}{f:Nat}{vs:List V}{fr:Fr}{v:V}(h:P f (vs.map .val)=some (v,[])):ez P f (vs.map .inr) fr=.ok v fr:=by
 have h1:∀ vs:List V,bR (vs.map .inr)=[]:=fun vs=>by induction vs <;> simp [bR, *]
 have h2:∀ vs:List V,args fr (vs.map .inr)=some (vs.map .val):=fun vs=>by induction vs <;> simp [args, *]
 simp [ez,h1,h2,h,back]
section
variable {P:aT}{f:Nat}{fr:Fr}{a b c d v:V}
theorem cE (h:P f [.val a]=some (v,[])):ez P f [.inr a] fr=.ok v fr:=m5 (vs:=[a]) h
theorem call2 (h:P f [.val a,.val b]=some (v,[])):ez P f [.inr a,.inr b] fr=.ok v fr:=m5 (vs:=[a,b]) h
theorem eU (h:P f [.val a,.val b,.val c]=some (v,[])):ez P f [.inr a,.inr b,.inr c] fr=.ok v fr:=m5 (vs:=[a,b,c]) h
end
end Pv
namespace Pv
open Ev (D bU bN TY BI ME T E Es Eo It S Ss Fn big deep b2i rep cz dP bL aU cut cS ek slots)
section
variable {fr:Fr}{i j:Nat}{k:Bool}{s:Sl}{v u:V}{l:List V}{o:Option Sl}
noncomputable def slV (k:Bool):Option (Option Sl)→Option V
 | some (some (.val v))=>some v
 | some (some (.own l))=>if k then some (.lst l) else none
 | some (some (.bor l))=>if k then some (.lst l) else none
 | some (some (.ro l))=>if k then some (.lst l) else none
 | _=>none
@[simp] theorem Tw {r:R V}:src k fr (.v i) r=R.of (zd k fr i) fr:=nd rfl
noncomputable def Oz:Option (Option Sl)→Option Sl
 | some (some s)=>s.lend
 | _=>none
@[simp] theorem x6:lent fr i=Oz fr[i]?:=by unfold lent Oz;split <;> simp_all
@[simp] theorem aaa:Oz (some (some (.own l)))=some (.bor l):=nd rfl
noncomputable def OA (fr:Fr) (i:Nat) (s:Sl):Option (Option Sl)→Option Fr
 | some (some (.bor _))=>none
 | some (some (.ro _))=>none
 | _=>some (fr.set i (some s))
@[simp] theorem OB:put fr i s=OA fr i s fr[i]?:=by unfold put OA;split <;> simp_all
@[simp] theorem zl {l:List Nat} {x:List V}:bD (.many l) (.tup x) fr=cR l x fr:=nd rfl
@[simp] theorem zm:cR [] [] fr=some fr:=nd rfl
@[simp] theorem wz {l:List Nat} {x:List V}:cR (i :: l) (v :: x) fr=(put fr i (.val v)).bind (cR l x):=nd rfl
noncomputable def gF (m:ME) (i:Nat) (ds:List V) (fr:Fr):Option (Option Sl)→R V
 | some (some (.own l))=>match jZ m l ds with
  | some (v,l')=>.ok v (fr.set i (some (.own l')))
  | none=>.bad
 | some (some (.bor l))=>match jZ m l ds with
  | some (v,l')=>.ok v (fr.set i (some (.bor l')))
  | none=>.bad
 | _=>.bad
@[simp] theorem Kw {m:ME} {ds:List V}:DL m i ds fr=gF m i ds fr fr[i]?:=by unfold DL gF;split <;> simp_all <;> rfl
theorem iH {d:V}(h:l.length<100000):gF .append i [d] fr (some (some (.own l)))=.ok .bf (fr.set i (some (.own (l++[d])))):=by
 simp [gF,jZ,Nat.lt_of_lt_of_le h (show 100000≤big by decide)]
theorem Ky {d:V}(h:l.length<100000):gF .append i [d] fr (some (some (.bor l)))=.ok .bf (fr.set i (some (.bor (l++[d])))):=by
 simp [gF,jZ,Nat.lt_of_lt_of_le h (show 100000≤big by decide)]
theorem x8 {d:List V}(h:l.length+d.length≤100000):gF .extend i [.lst d] fr (some (some (.own l)))=.ok .bf (fr.set i (some (.own (l++d)))):=by
 simp [gF,jZ,cy h]
theorem nO:gF .pop i [] fr (some (some (.own (l++[v]))))=.ok v (fr.set i (some (.own l))):=by
 simp [gF,jZ]
theorem Kz:gF .pop i [] fr (some (some (.bor (l++[v]))))=.ok v (fr.set i (some (.bor l))):=by
 simp [gF,jZ]
end
noncomputable def vo (o:Option Sl):Prop:=o=none∨∃ y,o=some (.val y)
theorem vo.none:vo none:=.inl rfl
theorem vo.val {v:V}:vo (some (.val v)):=.inr ⟨v,rfl⟩
theorem OC {fr:Fr}{i:Nat}{s:Sl}{b:Option Sl}(h:vo b):OA fr i s (some b)=some (fr.set i (some s)):=by rcases h with rfl | ⟨y,rfl⟩ <;> rfl
theorem b6 {b:Option Sl}(h:vo b):b.map Sl.dm=b:=by rcases h with rfl | ⟨y,rfl⟩ <;> rfl
noncomputable def Tz (f:V→Fr→R Fl) (ds:List V):Fl→Fr→R Fl:=fun p af=>match p with
 | .nx=>forL f ds af
 | .ct=>forL f ds af
 | .bk=>.ok .nx af
 | .ret x=>.ok (.ret x) af
section
variable {f:V→Fr→R Fl}{ds:List V}{d x:V}{fr:Fr}
@[simp] theorem rY:forL f (d :: ds) fr=(f d fr).bind (Tz f ds):=nd rfl
end
section
variable {a b c:E}{es:Es}{lo hi:Eo}{it:It}{l:List Nat}
end
theorem qf {α:Type}{l:List α}{i:Int}(h0:0≤i):bL l i=l[i.toNat]?:=by
 unfold bL dP
 rw [if_pos h0]
 split
 ·rfl
 ·rw [List.getElem?_eq_none (by omega)];rfl
@[simp] theorem wR {α:Type} {l:List α} {n:Nat}:bL l (n:Int)=l[n]?:=by rw [qf (by omega)];simp
theorem OD {α:Type}{l:List α}:bL l (-1:Int)=l.getLast?:=by
 unfold bL dP
 cases l with
 | nil=>rfl
 | cons a l=>
  have h1:¬ (0:Int)≤-1:=by omega
  have h2:-(((a :: l).length:Nat):Int)≤-1:=by simp;omega
  rw [if_neg h1,if_pos h2,List.getLast?_eq_getElem?]
  simp only [Option.bind]
  congr 1
  simp;omega
noncomputable def tB:Fn:=⟨2,2,(.cons (.iff (.cmp .eq (.v 0) (.lst .nil)) (.cons (.ret (.bin .mul (.c (.int 7)) (.v 1))) .nil) .nil) (.cons (.ret (.bin .add (.ix (.v 0) (.bin .mod (.v 1) (.bi .len (.cons (.v 0) .nil)))) (.bin .mul (.c (.int 6553)) (.bin .fdiv (.v 1) (.bi .len (.cons (.v 0) .nil)))))) .nil))⟩
noncomputable def uY (c:Nat):Fn:=⟨3,4,(.cons (.set 3 (.bin .mod (.bin .add (.bin .mul (.bin .mod (.cl c (.cons (.v 0) (.cons (.v 1) .nil))) (.c (.int 2147483563))) (.c (.int 69069))) (.bin .mul (.c (.int 104723)) (.bin .add (.v 1) (.c (.int 1))))) (.c (.int 2147483563)))) (.cons (.set 3 (.bin .mod (.bin .add (.bin .mul (.v 3) (.v 3)) (.bin .fdiv (.v 3) (.c (.int 3)))) (.c (.int 2147483399)))) (.cons (.ret (.bin .mod (.bin .fdiv (.bin .mod (.bin .add (.bin .mul (.v 3) (.v 3)) (.bin .fdiv (.v 3) (.c (.int 7)))) (.c (.int 2147483647))) (.c (.int 11))) (.v 2))) .nil)))⟩
noncomputable def tD (ns:List Int) (k:Int):Int:=if ns=[] then 7*k else (ns[(k % ns.length).toNat]?.getD 0)+6553*(k / ns.length)
noncomputable def cP (ns:List Int) (k many:Int):Int:=
 let c:=(tD ns k % 2147483563*69069+104723*(k+1)) % 2147483563
 let c:=(c*c+c / 3) % 2147483399
 (c*c+c / 7) % 2147483647 / 11 % many
theorem jJ (ns:List Int) (k:Int) {many:Int}(h:0<many):0≤cP ns k many:=Int.emod_nonneg _ (by omega)
theorem jK (ns:List Int) (k:Int) {many:Int}(h:0<many):cP ns k many<many:=Int.emod_lt_of_pos _ h
noncomputable def gG (ns:List Int):V:=.bS (ns.map V.int)
theorem KA (ns:List Int):cF (dF (18+1)) (ns.map V.int) []=some (decide (ns=[])):=by cases ns <;> simp
end Pv
namespace Pv
open Ev (D bU bN TY BI ME T E Es Eo It S Ss Fn big deep b2i rep cz dP bL aU cut cS ek slots)
section
variable {P:aT}{w:Nat}{fr af au bZ jd:Fr}{k b:Bool}{a e c:E}{es:Es}{ss sa sb:Ss}{st:S}{lo hi:Eo}{it:It}{v x y z:V}{vs:List V}{i:Nat}{l:List V}{Q:Fl→Fr→Prop}
theorem bC {d:D}(h:ofD d=some v):ev P k (.c d) fr=.ok v fr:=by rw [Yt,h];rfl
theorem az (h:qR k fr i=some v):ev P k (.v i) fr=.ok v fr:=by rw [Yu,h];rfl
theorem ir (h:cj P false es fr=.ok vs af) (h2:jE vs=some v):ev P k (.tup es) fr=.ok v af:=by rw [N8,h,ao,h2];rfl
theorem eB (h:cj P false es fr=.ok vs af) (h2:dG vs=some v):ev P k (.lst es) fr=.ok v af:=by rw [N9,h,ao,h2];rfl
theorem bV {o:bU}(h:ev P (kf a (bF e)) a fr=.ok x af) (h2:ev P true e af=.ok y au) (h3:bQ o x y=some v):ev P k (.bin o a e) fr=.ok v au:=by rw [Oa,h,ao,h2,ao,h3];rfl
theorem bY {o:bN}(h:ev P (kf a (bF e)) a fr=.ok x af) (h2:ev P true e af=.ok y au) (h3:cop o x y=some b):ev P k (.cmp o a e) fr=.ok (.bl b) au:=by rw [Ob,h,ao,h2,ao,h3];rfl
theorem Yw (h:ev P true a fr=.ok (.bl b) af):ev P k (.nt a) fr=.ok (.bl (!b)) af:=by rw [Tj,h];rfl
theorem lI {j:Int}(h:ev P true a fr=.ok (.int j) af):ev P k (.neg a) fr=.ok (.int (-j)) af:=by rw [Oc,h];rfl
theorem Yx (h:ev P true a fr=.ok (.bl b) af) (h2:b=true→ev P k e af=.ok v au) (h3:b=false→.bl false=v∧af=au):ev P k (.an a e) fr=.ok v au:=by
 rw [GI,h,ao,BD]
 cases b with
 | true=>exact h2 rfl
 | false=>obtain ⟨rfl,rfl⟩:=h3 rfl;rfl
theorem zp (h:ev P true a fr=.ok (.bl true) af) (h2:ev P k e af=.ok v au):ev P k (.an a e) fr=.ok v au:=by rw [GI,h,ao,BD];exact h2
theorem zq (h:aM P a fr=.ok b af) (h2:b=true→ev P k e af=.ok v au) (h3:b=false→ev P k c af=.ok v au):ev P k (.jW a e c) fr=.ok v au:=by
 rw [Od,h,ao]
 cases b with
 | true=>exact h2 rfl
 | false=>exact h3 rfl
theorem dh (h:ev P (kf a (bF e)) a fr=.ok x af) (h2:ev P true e af=.ok y au) (h3:eF x y=some v):ev P k (.ix a e) fr=.ok v au:=by rw [To,h,ao,h2,ao,h3];rfl
theorem GJ (h:ev P (kf a (bF e)) a fr=.ok x af) (h2:ev P true e af=.ok y au) (h3:o8 x y=some v):ev P k (.jX a e) fr=.ok v au:=by rw [Oe,h,ao,h2,ao,h3];rfl
theorem TF {z:V}(h:ev P (kf a (bF e++bF c)) a fr=.ok x af) (h2:ev P (kf e (bF c)) e af=.ok y au) (h3:ev P false c au=.ok z bZ) (h4:o9 x y z=some v):ev P k (.lZ a e c) fr=.ok v bZ:=by rw [Of,h,ao,h2,ao,h3,ao,h4];rfl
theorem zu {p q:Option Int}(h:ev P (kf a (kc lo++kc hi)) a fr=.ok x af) (h2:gg P lo af=.ok p au) (h3:gg P hi au=.ok q bZ) (h4:gc x p q=some v):ev P k (.sl a lo hi) fr=.ok v bZ:=by rw [Tp,h,ao,h2,ao,h3,ao,h4];rfl
theorem bh {f:Nat}{as:List (Nat ⊕ V)}(h:gh P es fr=.ok as af) (h2:ez P f as af=.ok v au):ev P k (.cl f es) fr=.ok v au:=by rw [Tt,h,ao];exact h2
theorem fz {g:BI}(h:cj P true es fr=.ok vs af) (h2:cX g vs=some v):ev P k (.bi g es) fr=.ok v af:=by rw [Tu,h,ao,h2];rfl
theorem jh {m:ME}(hm:iN m=true) (hl:(lent fr i).isSome=true) (h:cj P (Bf m) es fr=.ok vs af) (h2:gF m i vs af af[i]?=.ok v au):ev P k (.me m (.v i) es) fr=.ok v au:=by
 rw [Og hm,if_pos hl,h,ao,Kw];exact h2
theorem GK {m:ME}(hm:iN m=false) (h:ev P (kf a (gj es)) a fr=.ok x af) (h2:cj P true es af=.ok vs au) (h3:fF m x vs=some v):ev P k (.me m a es) fr=.ok v au:=by rw [Oh hm,h,ao,h2,ao,h3];rfl
theorem jL {t:T}{cond:Eo}(h:cL P true it fr=.ok vs af) (hu:undef t af=true) (h2:cT (lH P a t cond af) vs=some l) (h3:dG l=some v):ev P k (.comp a t it cond) fr=.ok v af:=by
 rw [qN,h,ao,if_pos hu,h2]
 show R.of (dG l) af=_
 rw [h3];rfl
theorem qg (h:cL P true it fr=.ok vs af) (h2:dG vs=some v):ev P k (.gQ it) fr=.ok v af:=by rw [Oi,h,ao,h2];rfl
theorem OE {kvs:List (D×D)}(h:ev P true a fr=.ok x af) (h2:g6 x kvs=some v):ev P k (.mH kvs a) fr=.ok v af:=by rw [Kh,h,ao,h2];rfl
theorem tE (h:ev P true a fr=.ok x af) (h2:toT x=some v):ev P k (.jb a) fr=.ok v af:=by rw [Oj,h,ao,h2];rfl
theorem aO:cj P k .nil fr=.ok [] fr:=Kl
theorem aN (h:ev P (k&&kf a (gj es)) a fr=.ok v af) (h2:cj P k es af=.ok vs au):cj P k (.cons a es) fr=.ok (v :: vs) au:=by rw [DM,h,ao,h2];rfl
theorem aP:gh P .nil fr=.ok [] fr:=Km
theorem aS {as:List (Nat ⊕ V)}(hi:kD fr a=none) (h:ev P false a fr=.ok v af) (h2:gh P es af=.ok as au):gh P (.cons a es) fr=.ok (.inr v :: as) au:=by rw [uX,hi,zk,h,ao,h2];rfl
theorem jM {as:List (Nat ⊕ V)}(hi:kD fr a=some i) (h2:gh P es fr=.ok as au):gh P (.cons a es) fr=.ok (.inl i :: as) au:=by rw [uX,hi,zj,h2];rfl
theorem zv:gg P .no fr=.ok none fr:=Ol
theorem m6 {j:Int}(h:ev P true a fr=.ok (.int j) af):gg P (.yes a) fr=.ok (some j) af:=by rw [Kn,h];rfl
theorem qh (h:aM P a fr=.ok false af):aM P (.an a e) fr=.ok false af:=by rw [BE,h];rfl
theorem gH {b2:Bool}(h:aM P a fr=.ok true af) (h2:aM P e af=.ok b2 au):aM P (.an a e) fr=.ok b2 au:=by rw [BE,h];exact h2
theorem m7 (h:aM P a fr=.ok true af):aM P (.orr a e) fr=.ok true af:=by rw [xZ,h];rfl
theorem fR {b2:Bool}(h:aM P a fr=.ok false af) (h2:aM P e af=.ok b2 au):aM P (.orr a e) fr=.ok b2 au:=by rw [xZ,h];exact h2
theorem tF (h:aM P a fr=.ok b af):aM P (.nt a) fr=.ok (!b) af:=by rw [Oo,h];rfl
noncomputable def plainT:E→Bool
 | .an _ _=>false
 | .orr _ _=>false
 | .nt _=>false
 | _=>true
theorem aH (hp:plainT a=true) (h:ev P true a fr=.ok x af) (h2:truthy x=b):aM P a fr=.ok b af:=by
 have:aM P a fr=(ev P true a fr).bind Oq:=by
  cases a <;> first | (cases hp;done) | (rw [aM];rfl;all_goals (intros;contradiction))
 rw [this,h,ao,Kp,h2]
theorem ee (h:src k fr a (ev P k a fr)=.ok x af) (h2:fL x=some vs):cL P k (.seq a) fr=.ok vs af:=by rw [Kq,h,ao,h2];rfl
theorem dU (h:zd k fr i=some v) {r:R V}:src k fr (.v i) r=.ok v fr:=by rw [Tw,h];rfl
theorem qi (h:cj P true es fr=.ok vs af) (h2:er vs=some l):cL P k (.gz es) fr=.ok l af:=by rw [Kr,h,ao,h2];rfl
theorem KC (h:src k fr a (ev P k a fr)=.ok x af) (h2:mR x=some vs):cL P k (.enum a) fr=.ok (cJ 0 vs) af:=by rw [DN,h,ao,h2];rfl
theorem qj (h:ev P true a fr=.ok x af) (h2:zb x=some vs):cL P k (.rev a) fr=.ok vs.reverse af:=by rw [Ks,h,ao,h2];rfl
theorem aW (h:ev P false a fr=.ok v af) (hn:isNew a=false) (hp:put af i (.val v)=some au) (q:Q .nx au):Wp (ex P w (.set i a) fr) Q:=by
 rw [BF,h,ao,hn,hp];exact ⟨_,_,rfl,q⟩
theorem fS (h:ev P false a fr=.ok (.lst l) af) (hn:isNew a=true) (hp:put af i (.own l)=some au) (q:Q .nx au):Wp (ex P w (.set i a) fr) Q:=by
 rw [BF,h,ao,hn,if_pos rfl,DO,hp];exact ⟨_,_,rfl,q⟩
theorem BG {is:List Nat}(h:ev P false a fr=.ok v af) (hp:bD (.many is) v af=some au) (q:Q .nx au):Wp (ex P w (.j7 is a) fr) Q:=by
 rw [Ku,h,ao,hp];exact ⟨_,_,rfl,q⟩
theorem dR (h:ev P true a fr=.ok v af) (q:Q .nx af):Wp (ex P w (.exp a) fr) Q:=by rw [Ou,h];exact ⟨_,_,rfl,q⟩
theorem bK (h:ev P false a (eT fr)=.ok v af) (q:Q (.ret v) af):Wp (ex P w (.ret a) fr) Q:=by rw [Ov,h];exact ⟨_,_,rfl,q⟩
theorem aL (h:aM P a fr=.ok b af) (h2:b=true→Wp (exs P w sa af) Q) (h3:b=false→Wp (exs P w sb af) Q):Wp (ex P w (.iff a sa sb) fr) Q:=by
 rw [Ow,h,ao]
 cases b with
 | true=>exact h2 rfl
 | false=>exact h3 rfl
theorem ay (q:Q .nx fr):Wp (exs P w .nil fr) Q:=by rw [Kv];exact ⟨_,_,rfl,q⟩
noncomputable def nx (P:aT) (w:Nat) (ss:Ss) (Q:Fl→Fr→Prop):Fl→Fr→Prop
 | .nx,fr=>Wp (exs P w ss fr) Q
 | g,fr=>Q g fr
theorem ah (q:Wp (ex P w st fr) (nx P w ss Q)):Wp (exs P w (.cons st ss) fr) Q:=by
 rw [DP,wp_bind]
 refine q.mono fun g af z=>?_
 cases g with
 | nx=>exact z
 | bk=>exact ⟨_,_,rfl,z⟩
 | ct=>exact ⟨_,_,rfl,z⟩
 | ret v=>exact ⟨_,_,rfl,z⟩
theorem gv {t:T}(h:cL P false it (sZ (itv it) fr)=.ok vs af) (q:Wp (forL (turnF P w t ss) vs af) Q):Wp (ex P w (.for t it ss) fr) Q:=by rw [uy,h,ao];exact q
theorem GL (q:Wp (d8 (fun au=>aM P a au) (fun au=>exs P w ss au) w fr) Q):Wp (ex P w (.mJ a ss) fr) Q:=by rw [Ox];exact q
theorem cO {t:T}{d:V}(hb:bD t d fr=some af) (q:Wp (exs P w ss af) Q):Wp (turnF P w t ss d fr) Q:=by unfold turnF;rw [hb];exact q
theorem m8 {t:T}{d:V}(hb:bD t d (sD fr)=some af) (h:ev P false a af=.ok v au):lH P a t .no fr d=some (some v):=by
 unfold lH;rw [hb];dsimp only;rw [Om];dsimp only;rw [h];rfl
theorem x9 {t:T}{d:V}(hb:bD t d (sD fr)=some af) (h:aM P c af=.ok b au) (h2:b=true→ev P false a af=.ok v bZ):lH P a t (.yes c) fr d=some (if b then some v else none):=by
 unfold lH;rw [hb];dsimp only;rw [Ko,h];dsimp only
 cases b with
 | true=>rw [h2 rfl];rfl
 | false=>rfl
theorem lJ {p q:List Nat}:cop .eq (.str p) (.str q)=some (decide (p=q)):=xT
theorem iu {p q:List Nat}:cop .ne (.str p) (.str q)=some (!decide (p=q)):=by rw [mY,xT];rfl
theorem DQ {p q:Int}:cop .eq (.int p) (.int q)=some (decide (p=q)):=xS
theorem tG {p q:Int}:cop .ne (.int p) (.int q)=some (!decide (p=q)):=by rw [mY,xS];rfl
theorem Yy {p q:Int}:cop .lt (.int p) (.int q)=some (decide (p<q)):=rfl
theorem DR {p q:Int}:cop .gt (.int p) (.int q)=some (decide (q<p)):=rfl
theorem lK {p q:Int}(h:cz p q=true):bQ .mul (.int p) (.int q)=some (.int (p*q)):=by rw [pq,if_pos h]
theorem nQ {p q:Int}(h:0<q):bQ .mod (.int p) (.int q)=some (.int (p % q)):=by rw [Ke,if_pos h]
theorem tH {p q:Int}(h:0<q) (h2:q<1073741824):bQ .fdiv (.int p) (.int q)=some (.int (p / q)):=by rw [DK,if_pos ⟨h,h2⟩]
end
theorem iw {fr:Fr}{i:Nat}{s:Sl}{o:Option Sl}(e:fr[i]?=some o) (h:vo o):put fr i s=some (fr.set i (some s)):=by rw [OB,e,OC h]
theorem gO {fr:Fr}{i j:Nat}{u v:V}{a b:Option Sl}(ea:fr[i]?=some a) (ha:vo a) (eb:(fr.set i (some (.val u)))[j]?=some b) (hb:vo b):bD (.many [i,j]) (.tup [u,v]) fr=some ((fr.set i (some (.val u))).set j (some (.val v))):=by
 simp only [zl,wz,zm,iw ea ha,Option.bind,iw eb hb]
theorem bind1 {fr:Fr}{i:Nat}{v:V}{a:Option Sl}(ea:fr[i]?=some a) (ha:vo a):bD (.one i) v fr=some (fr.set i (some (.val v))):=iw ea ha
end Pv
local macro_rules | `(tactic| array_get_dec)=>`(tactic| first
 | exact Pv.aO | exact Pv.aP | exact Pv.zv
 | (apply Pv.az;rfl) | (apply Pv.bC;rfl) | apply Pv.bV | apply Pv.bY | apply Pv.ir | apply Pv.eB | apply Pv.dh | apply Pv.zu | apply Pv.bh | apply Pv.fz
 | apply Pv.Yw | apply Pv.lI | apply Pv.tE | apply Pv.qg  | (apply Pv.jh rfl rfl) | (apply Pv.GK rfl) | apply Pv.OE
 | apply Pv.aN | (apply Pv.aS rfl) | (apply Pv.jM rfl) | apply Pv.m6 | apply Pv.tF | apply Pv.aH rfl
 | exact Pv.Tf | exact Pv.tw | exact Pv.j0 | exact Pv.Ti | exact Pv.fh | exact Pv.lD | exact Pv.Tg
 | (with_reducible assumption) | exact Pv.eY | exact Pv.uU | exact Pv.lJ | exact Pv.iu | exact Pv.DQ | exact Pv.tG | exact Pv.Yy  | exact Pv.DR
 | (show Pv.truthy _=_;rfl) | (show Pv.eF _ _=some _;rfl) | (show Pv.toT _=some _;rfl) | (show Pv.g6 _ _=some _;rfl) | (show Pv.fL _=some _;rfl) | assumption)
namespace Pv
open Ev (D bU bN TY BI ME T E Es Eo It S Ss Fn big deep b2i rep cz dP bL aU cut cS ek slots)
theorem OF (a b:Int):cz (a % 2147483563) b=true:=by have h1:=Int.emod_nonneg a (b:=2147483563) (by decide);have h2:=Int.emod_lt_of_pos a (b:=2147483563) (by decide);simp [cz];omega
theorem Yz (a b:Int):cz (a % 2147483399) b=true:=by have h1:=Int.emod_nonneg a (b:=2147483399) (by decide);have h2:=Int.emod_lt_of_pos a (b:=2147483399) (by decide);simp [cz];omega
theorem OG {l:List V}{j:Int}{v:V}(h:bL l j=some v):eF (.bS l) (.int j)=some v:=h
theorem OH {l m:List V}:cop .eq (.bS l) (.lst m)=cF (dF (18+1)) l m:=rfl
theorem DS {F:List Fn}{w n c:Nat}(hc:F[c]?=some tB) {ns:List Int}(hn:ns.length≤63) (k:Int):run F w (n+1) c [.val (gG ns),.val (.int k)]=some (.int (tD ns k),[]):=by
 refine cD hc rfl (ah (aL (b:=decide (ns=[])) (aH rfl (bY (az rfl) (eB aO fh) (OH.trans (KA ns))) rfl) (fun h=>?_) fun h=>ay ?_))
 ·have h0:=of_decide_eq_true h
  exact ah (bK (bV (bC rfl) (az rfl) (lK rfl)) ⟨by rw [tD,if_pos h0],rfl⟩)
 ·have h0:=of_decide_eq_false h
  have hlen:0<ns.length:=List.length_pos_iff.mpr h0
  have VA:(0:Int)<(ns.map V.int).length:=by rw [List.length_map];exact Int.natCast_pos.mpr hlen
  have h30:((ns.map V.int).length:Int)<1073741824:=by rw [List.length_map];omega
  have hm0:=Int.emod_nonneg k (b:=(ns.length:Int)) (by omega)
  have hlt:(k % (ns.length:Int)).toNat<ns.length:=by have:=Int.emod_lt_of_pos k (b:=(ns.length:Int)) (by omega);omega
  have hx:bL (ns.map V.int) (k % ((ns.map V.int).length:Int))=some (.int (ns[(k % (ns.length:Int)).toNat]?.getD 0)):=by
   rw [List.length_map,qf hm0,List.getElem?_map,List.getElem?_eq_getElem hlt];rfl
  refine ah (bK (bV (dh (az rfl) (bV (az rfl) (fz (aN (az rfl) aO) xX) (nQ VA)) (OG hx)) (bV (bC rfl) (bV (az rfl) (fz (aN (az rfl) aO) xX) (tH VA h30)) (lK rfl)) eY) ⟨?_,rfl⟩)
  rw [tD,if_neg h0,List.length_map]
theorem gn {F:List Fn}{w n c dr:Nat}(hc:F[c]?=some tB) (hd:F[dr]?=some (uY c)) {ns:List Int}(hn:ns.length≤63) (k:Int) {many:Int}(hm:0<many):run F w (n+2) dr [.val (gG ns),.val (.int k),.val (.int many)]=some (.int (cP ns k many),[]):=by
 refine cD hd rfl (ah (aW (bV (bV (bV (bV (bh (aS rfl (az rfl) (aS rfl (az rfl) aP)) (call2 (DS hc hn k))) (bC rfl) (nQ (by decide))) (bC rfl) (lK (OF _ _))) (bV (bC rfl) (bV (az rfl) (bC rfl) eY) (lK rfl)) eY) (bC rfl) (nQ (by decide))) rfl rfl ?_))
 refine ah (aW (bV (bV (bV (az rfl) (az rfl) (lK (OF _ _))) (bV (az rfl) (bC rfl) (tH (by decide) (by decide))) eY) (bC rfl) (nQ (by decide))) rfl rfl ?_)
 exact ah (bK (bV (bV (bV (bV (bV (az rfl) (az rfl) (lK (Yz _ _))) (bV (az rfl) (bC rfl) (tH (by decide) (by decide))) eY) (bC rfl) (nQ (by decide))) (bC rfl) (tH (by decide) (by decide))) (az rfl) (nQ hm)) ⟨rfl,rfl⟩)
noncomputable def fText (dr:Nat):Fn:=⟨3,4,(.cons (.ret (.me .join (.c (.str [])) (.cons (.comp (.ix (.c (.str [97,98,99,32])) (.cl dr (.cons (.v 0) (.cons (.bin .add (.bin .add (.v 1) (.c (.int 1))) (.v 3)) (.cons (.c (.int 4)) .nil))))) (.one 3) (.gz (.cons (.cl dr (.cons (.v 0) (.cons (.v 1) (.cons (.bin .add (.v 2) (.c (.int 1))) .nil)))) .nil)) .no) .nil))) .nil)⟩
noncomputable def GN (dr:Nat):S:=.iff (.cmp .eq (.cl dr (.cons (.v 0) (.cons (.bin .add (.v 1) (.bin .mul (.c (.int 4)) (.v 4))) (.cons (.c (.int 4)) .nil)))) (.c (.int 0))) (.cons (.set 5 (.bin .mul (.ix (.c (.str [97,98,122])) (.cl dr (.cons (.v 0) (.cons (.bin .add (.bin .add (.v 1) (.bin .mul (.c (.int 4)) (.v 4))) (.c (.int 1))) (.cons (.c (.int 3)) .nil))))) (.bin .add (.c (.int 1)) (.cl dr (.cons (.v 0) (.cons (.bin .add (.bin .add (.v 1) (.bin .mul (.c (.int 4)) (.v 4))) (.c (.int 2))) (.cons (.c (.int 2)) .nil))))))) (.cons (.set 3 (.bin .add (.v 3) (.tup (.cons (.tup (.cons (.c (.str [112,117,116])) (.cons (.v 5) .nil))) .nil)))) .nil)) .nil
noncomputable def GO (dr:Nat):S:=.iff (.cmp .lt (.v 4) (.bi .len (.cons (.v 2) .nil))) (.cons (.set 6 (.cmp .gt (.cl dr (.cons (.v 0) (.cons (.bin .add (.bin .add (.v 1) (.bin .mul (.c (.int 4)) (.v 4))) (.c (.int 3))) (.cons (.c (.int 3)) .nil)))) (.c (.int 0)))) (.cons (.set 3 (.bin .add (.v 3) (.tup (.cons (.jW (.v 6) (.tup (.cons (.c (.str [107,101,101,112])) (.cons (.c (.int 1)) .nil))) (.tup (.cons (.c (.str [100,114,111,112])) (.cons (.ix (.v 2) (.v 4)) .nil)))) .nil)))) .nil)) .nil
noncomputable def KD (dr:Nat):Fn:=⟨3,7,(.cons (.set 3 (.tup .nil)) (.cons (.for (.one 4) (.gz (.cons (.bin .add (.bi .len (.cons (.v 2) .nil)) (.c (.int 1))) .nil)) (.cons (GN dr) (.cons (GO dr) .nil))) (.cons (.ret (.v 3)) .nil)))⟩
inductive Pt where
 | keep (n:Nat) | put (s:List Nat) | drop (s:List Nat)
deriving DecidableEq
noncomputable def dS:List Nat:=[107,101,101,112]
noncomputable def lM:List Nat:=[112,117,116]
noncomputable def ji:List Nat:=[100,114,111,112]
noncomputable def Pt.v:Pt→V
 | .keep n=>.tup [.str dS,.int n]
 | .put s=>.tup [.str lM,.str s]
 | .drop s=>.tup [.str ji,.str s]
noncomputable def aD (c:List Pt):V:=.tup (c.map Pt.v)
theorem BH (n:Nat) (a b:Pt):dF (n+2) a.v b.v=some (decide (a=b)):=by
 cases a <;> cases b <;> simp [Pt.v,dS,lM,ji]
 all_goals omega
theorem OI (a b:List Pt):dF deep (aD a) (aD b)=some (decide (a=b)):=by
 simp only [aD,xU]
 exact iG (fun a b=>BH 17 a b) a b
noncomputable def txt (ns:List Int) (at_ most:Int):List Nat:=(List.range (cP ns at_ (most+1)).toNat).map fun (k:Nat)=>[97,98,99,32].getD (cP ns (at_+1+k) 4).toNat 0
theorem KG (ns:List Int) (at_:Int) {most:Int}(h:0≤most):(txt ns at_ most).length≤most.toNat:=by
 unfold txt
 have h1:=jK ns at_ (many:=most+1) (by omega)
 have h2:=jJ ns at_ (many:=most+1) (by omega)
 simp;omega
theorem getD_at {α:Type}{l:List α}{i:Int}(h0:0≤i) (h1:i<l.length) (d:α):bL l i=some (l.getD i.toNat d):=by
 have:i.toNat<l.length:=by omega
 rw [qf h0];simp [List.getD,List.getElem?_eq_getElem this]
theorem oM {α β:Type}(l:List α) (f:α→β):(l.map fun x=>[f x]).flatten=l.map f:=by induction l <;> simp [*]
theorem BJ (lo:Int) (n:Nat):range lo n=(List.range n).map fun (i:Nat)=>V.int (lo+i):=rfl
section
variable {F:List Fn}{w n c dr t:Nat}(hc:F[c]?=some tB) (hd:F[dr]?=some (uY c)) {ns:List Int}(hn:ns.length≤63)
include hc hd hn
theorem DT (ht:F[t]?=some (fText dr)) (k most:Int) (hm:0≤most) (hm2:most≤1000):run F w (n+3) t [.val (gG ns),.val (.int k),.val (.int most)]=some (.str (txt ns k most),[]):=by
 have b0:=jJ ns k (many:=most+1) (by omega)
 have b1:=jK ns k (many:=most+1) (by omega)
 have d0:=fun fr=>eU (fr:=fr) (gn (w:=w) (n:=n) hc hd hn k (many:=most+1) (by omega))
 have TH:cT (lH (run F w (n+2)) (.ix (.c (.str [97,98,99,32])) (.cl dr (.cons (.v 0) (.cons (.bin .add (.bin .add (.v 1) (.c (.int 1))) (.v 3)) (.cons (.c (.int 4)) .nil))))) (.one 3) .no [some (.val (gG ns)),some (.val (.int k)),some (.val (.int most)),none]) (range 0 (cP ns k (most+1)).toNat)=some (((List.range (cP ns k (most+1)).toNat).map fun (j:Nat)=>[[97,98,99,32].getD (cP ns (k+1+j) 4).toNat 0]).map V.str):=by
  rw [BJ,List.map_map]
  refine iV _ _ _ fun j _=>?_
  have d1:=fun fr=>eU (fr:=fr) (gn (w:=w) (n:=n) hc hd hn (k+1+j) (many:=4) (by decide))
  have ix:eF (.str [97,98,99,32]) (.int (cP ns (k+1+j) 4))=some (.str [[97,98,99,32].getD (cP ns (k+1+j) 4).toNat 0]):=by
   rw [qV,getD_at (l:=[97,98,99,32]) (jJ ns (k+1+j) (many:=4) (by decide)) (jK ns (k+1+j) (many:=4) (by decide)) 0];rfl
  rw [show (0:Int)+(j:Int)=j from Int.zero_add _]
  exact m8 rfl (by (repeat (first | array_get_dec | exact d1 _)))
 have hj:=GH (l:=(List.range (cP ns k (most+1)).toNat).map fun (j:Nat)=>[[97,98,99,32].getD (cP ns (k+1+j) 4).toNat 0]) (by rw [oM];simp;omega)
 rw [oM] at hj
 have hmk:dG (((List.range (cP ns k (most+1)).toNat).map fun (j:Nat)=>[[97,98,99,32].getD (cP ns (k+1+j) 4).toNat 0]).map V.str)=some (.lst _):=fy (cy (by simp;omega))
 have rg:=N7 b0 (show cP ns k (most+1)≤100000 by omega)
 refine cD ht rfl (ah (bK (GK rfl (bC rfl) (aN (jL (qi (by (repeat (first | array_get_dec | exact d0 _))) rg) rfl TH hmk) aO) hj) ⟨rfl,rfl⟩))
end
noncomputable def jj (ns:List Int) (at_:Int) (s:List Nat) (k:Nat):List Pt:=
 (if cP ns (at_+4*k) 4=0 then [.put (rep (1+cP ns (at_+4*k+2) 2).toNat [[97,98,122].getD (cP ns (at_+4*k+1) 3).toNat 0])] else [])++
 (match s[k]? with
 | some c=>[if 0<cP ns (at_+4*k+3) 3 then .keep 1 else .drop [c]]
 | none=>[])
noncomputable def fN (ns:List Int) (at_:Int) (s:List Nat) (k:Nat):List Pt:=(List.range k).flatMap (jj ns at_ s)
noncomputable def chg (ns:List Int) (at_:Int) (s:List Nat):List Pt:=fN ns at_ s (s.length+1)
theorem BK (ns:List Int) (at_:Int) (s:List Nat) (k:Nat):(jj ns at_ s k).length≤2:=by
 unfold jj
 split <;> split <;> simp
theorem jk (ns:List Int) (at_:Int) (s:List Nat) (k:Nat):fN ns at_ s (k+1)=fN ns at_ s k++jj ns at_ s k:=by simp [fN,List.range_succ]
theorem m9 (ns:List Int) (at_:Int) (s:List Nat):∀ k,(fN ns at_ s k).length≤2*k
 | 0=>by simp [fN]
 | k+1=>by
  have h1:=BK ns at_ s k
  have h2:=m9 ns at_ s k
  rw [jk,List.length_append]
  omega
theorem OJ (i:Int):cz 4 i=true:=by simp [cz]
theorem zw {a b:List Pt}(h:a.length+b.length≤100000):bQ .add (aD a) (aD b)=some (aD (a++b)):=by
 simp only [aD];rw [DI (by simpa using h)];simp
theorem OL {j:Int}{n:Nat}(h:n≤100000) (e:j=n):er [.int j]=some (range 0 n):=by
 subst e
 rw [N7 (by omega) (by omega)]
 rfl
theorem KH {a:List Pt}{s:List Nat}(h:a.length<100000):bQ .add (aD a) (.tup [.tup [.str [112,117,116],.str s]])=some (aD (a++[.put s])):=zw (a:=a) (b:=[.put s]) (by simp;omega)
theorem DU {a:List Pt}{s:List Nat}(h:a.length<100000):bQ .add (aD a) (.tup [.tup [.str [100,114,111,112],.str s]])=some (aD (a++[.drop s])):=zw (a:=a) (b:=[.drop s]) (by simp;omega)
theorem DV {a:List Pt}(h:a.length<100000):bQ .add (aD a) (.tup [.tup [.str [107,101,101,112],.int 1]])=some (aD (a++[.keep 1])):=zw (a:=a) (b:=[.keep 1]) (by simp;omega)
section
variable {F:List Fn}{w n c dr t:Nat}(hc:F[c]?=some tB) (hd:F[dr]?=some (uY c)) {ns:List Int}(hn:ns.length≤63)
include hc hd hn
theorem DW (k:Int) (x:V) (fd:List Pt) (j:Nat) (u v:Option Sl) (hu:vo u) (hfd:fd.length≤10000) :
  Wp (ex (run F w (n+2)) w (GN dr) [some (.val (gG ns)),some (.val (.int k)),some (.val x),some (.val (aD fd)),some (.val (.int j)),u,v]) fun g fr=>g=.nx∧∃ b,vo b∧fr=[some (.val (gG ns)),some (.val (.int k)),some (.val x),some (.val (aD (fd++if cP ns (k+4*j) 4=0 then [.put (rep (1+cP ns (k+4*j+2) 2).toNat [[97,98,122].getD (cP ns (k+4*j+1) 3).toNat 0])] else []))),some (.val (.int j)),b,v]:=by
 have d1:=fun fr=>eU (fr:=fr) (gn (w:=w) (n:=n) hc hd hn (k+4*j) (many:=4) (by decide))
 have m4:bQ .mul (.int 4) (.int j)=some (.int (4*j)):=by rw [pq,OJ];rfl
 refine aL (by (repeat (first | array_get_dec | exact d1 _))) (fun h=>?_) fun h=>?_
 ·have h0:=of_decide_eq_true h
  have d2:=fun fr=>eU (fr:=fr) (gn (w:=w) (n:=n) hc hd hn (k+4*j+1) (many:=3) (by decide))
  have d3:=fun fr=>eU (fr:=fr) (gn (w:=w) (n:=n) hc hd hn (k+4*j+2) (many:=2) (by decide))
  have c2:=jJ ns (k+4*j+2) (many:=2) (by decide)
  have c3:=jK ns (k+4*j+2) (many:=2) (by decide)
  have ix:eF (.str [97,98,122]) (.int (cP ns (k+4*j+1) 3))=some (.str [[97,98,122].getD (cP ns (k+4*j+1) 3).toNat 0]):=by
   rw [qV,getD_at (l:=[97,98,122]) (jJ ns (k+4*j+1) (many:=3) (by decide)) (jK ns (k+4*j+1) (many:=3) (by decide)) 0];rfl
  have ml:=DJ (j:=1+cP ns (k+4*j+2) 2) (a:=[[97,98,122].getD (cP ns (k+4*j+1) 3).toNat 0]) (by omega) (by omega) (by simp)
  have ad:=KH (a:=fd) (s:=rep (1+cP ns (k+4*j+2) 2).toNat [[97,98,122].getD (cP ns (k+4*j+1) 3).toNat 0]) (by omega)
  refine ah (aW (by (repeat (first | array_get_dec | exact d2 _ | exact d3 _))) rfl (iw rfl hu) ?_)
  refine ah (aW (by repeat array_get_dec) rfl rfl (ay ?_))
  rw [if_pos h0];exact ⟨rfl,_,.val,rfl⟩
 ·have h0:=of_decide_eq_false h
  rw [if_neg h0,List.append_nil]
  exact ay ⟨rfl,u,hu,rfl⟩
theorem DX (k:Int) (x:List Nat) (hx:x.length≤1000) (fd:List Pt) (j:Nat) (u v:Option Sl) (hv:vo v) (hfd:fd.length≤10000) :
  Wp (ex (run F w (n+2)) w (GO dr) [some (.val (gG ns)),some (.val (.int k)),some (.val (.str x)),some (.val (aD fd)),some (.val (.int j)),u,v]) fun g fr=>g=.nx∧∃ b,vo b∧fr=[some (.val (gG ns)),some (.val (.int k)),some (.val (.str x)),some (.val (aD (fd++match x[j]? with
     | some c=>[if 0<cP ns (k+4*j+3) 3 then .keep 1 else .drop [c]]
     | none=>[]))),some (.val (.int j)),u,b]:=by
 have ln:cX .len [.str x]=some (.int (x.length:Nat)):=len_str (by omega)
 refine aL (by repeat array_get_dec) (fun h=>?_) fun h=>?_
 ·have hlt:j<x.length:=by have:=of_decide_eq_true h;omega
  have d1:=fun fr=>eU (fr:=fr) (gn (w:=w) (n:=n) hc hd hn (k+4*j+3) (many:=3) (by decide))
  have m4:bQ .mul (.int 4) (.int j)=some (.int (4*j)):=by rw [pq,OJ];rfl
  have hg:x[j]?=some x[j]:=List.getElem?_eq_getElem hlt
  have ix:eF (.str x) (.int j)=some (.str [x[j]]):=by rw [qV,wR,hg];rfl
  rw [hg]
  refine ah (aW (by (repeat (first | array_get_dec | exact d1 _))) rfl (iw rfl hv) ?_)
  by_cases hk:0<cP ns (k+4*j+3) 3
  ·have ad:=DV (a:=fd) (by omega)
   have ht:truthy (.bl (decide (0<cP ns (k+4*j+3) 3)))=true:=decide_eq_true hk
   refine ah (aW (bV (az rfl) (ir (aN (zq (b:=true) (aH rfl (az rfl) ht) (fun _=>by repeat array_get_dec) fun h=>absurd h (by decide)) aO) tw) ad) rfl rfl (ay ?_))
   refine ⟨rfl,some (.val (.bl (decide (0<cP ns (k+4*j+3) 3)))),.val,?_⟩
   simp only [if_pos hk];rfl
  ·have ad:=DU (a:=fd) (s:=[x[j]]) (by omega)
   have ht:truthy (.bl (decide (0<cP ns (k+4*j+3) 3)))=false:=decide_eq_false hk
   refine ah (aW (bV (az rfl) (ir (aN (zq (b:=false) (aH rfl (az rfl) ht) (fun h=>absurd h (by decide)) fun _=>by repeat array_get_dec) aO) tw) ad) rfl rfl (ay ?_))
   refine ⟨rfl,some (.val (.bl (decide (0<cP ns (k+4*j+3) 3)))),.val,?_⟩
   simp only [if_neg hk];rfl
 ·have hlt:¬ j<x.length:=by have:=of_decide_eq_false h;omega
  rw [List.getElem?_eq_none (by omega),List.append_nil]
  exact ay ⟨rfl,v,hv,rfl⟩
theorem zy (ht:F[t]?=some (KD dr)) (k:Int) (x:List Nat) (hx:x.length≤1000):run F w (n+3) t [.val (gG ns),.val (.int k),.val (.str x)]=some (aD (chg ns k x),[]):=by
 refine cD ht rfl ?_
 have ln:cX .len [.str x]=some (.int (x.length:Nat)):=len_str (by omega)
 have rg:er [.int ((x.length:Nat)+1)]=some (range 0 (x.length+1)):=OL (by omega) (by omega)
 refine ah (aW (by repeat array_get_dec) rfl rfl ?_)
 refine ah (gv (qi (aN (bV (fz (aN (az rfl) aO) ln) (bC rfl) eY) aO) rg) ?_)
 refine qX (fun j fr=>∃ a b c,vo a∧vo b∧vo c∧fr=[some (.val (gG ns)),some (.val (.int k)),some (.val (.str x)),some (.val (aD (fN ns k x j))),a,b,c]) (fun j fr hj ⟨a,b,c',ha,hb,hc',hfr⟩=>?_) (fun fr ⟨a,b,c',ha,hb,hc',hfr⟩=>?_) ⟨none,none,none,.none,.none,.none,rfl⟩
 ·subst hfr
  have hz:=m9 ns k x j
  rw [show (0:Int)+(j:Int)=j from Int.zero_add _]
  refine cO (bind1 rfl ha) (ah ?_)
  refine (DW hc hd hn k (.str x) (fN ns k x j) j b c' hb (by omega)).mono fun g fr ⟨q1,b2,hb2,q3⟩=>?_
  subst q1 q3
  refine ah ?_
  refine (DX hc hd hn k x hx _ j b2 c' hc' (by split <;> simp <;> omega)).mono fun g fr ⟨q1,b3,hb3,q3⟩=>?_
  subst q1 q3
  refine ay ?_
  rw [cY]
  refine ⟨some (.val (.int j)),b2,b3,.val,hb2,hb3,?_⟩
  rw [jk,jj,List.append_assoc]
 ·subst hfr
  refine ah (bK (v:=aD (chg ns k x)) (af:=[some (.val (gG ns)),some (.val (.int k)),some (.val (.str x)),some (.val (aD (fN ns k x (x.length+1)))),a,b,c']) ?_ ⟨rfl,rfl⟩)
  have sh:eT [some (.val (gG ns)),some (.val (.int k)),some (.val (.str x)),some (.val (aD (fN ns k x (x.length+1)))),a,b,c']=[some (.val (gG ns)),some (.val (.int k)),some (.val (.str x)),some (.val (aD (fN ns k x (x.length+1)))),a,b,c']:=by
   show _ :: _ :: _ :: _ :: a.map Sl.dm :: b.map Sl.dm :: [c'.map Sl.dm]=_
   rw [b6 ha,b6 hb,b6 hc'];rfl
  rw [sh];exact az rfl
end
end Pv
namespace Pv
open Ev (D bU bN TY BI ME T E Es Eo It S Ss Fn big deep b2i rep cz dP bL aU cut cS ek slots)
noncomputable def DY:S:=.iff (.cmp .eq (.ix (.v 0) (.c (.int 0))) (.c (.str [107,101,101,112]))) (.cons (.ret (.ix (.v 0) (.c (.int 1)))) .nil) .nil
noncomputable def DZ:S:=.ret (.bi .len (.cons (.ix (.v 0) (.c (.int 1))) .nil))
noncomputable def fT:Fn:=⟨1,1,(.cons DY (.cons DZ .nil))⟩
noncomputable def zz (bJ:Nat):S:=.ret (.bi .sum (.cons (.comp (.cl bJ (.cons (.v 1) .nil)) (.one 1) (.seq (.v 0)) (.yes (.cmp .ne (.ix (.v 1) (.c (.int 0))) (.c (.str [112,117,116]))))) .nil))
noncomputable def jN (bJ:Nat):Fn:=⟨1,2,(.cons (zz bJ) .nil)⟩
noncomputable def BL (bJ:Nat):S:=.ret (.bi .sum (.cons (.comp (.cl bJ (.cons (.v 1) .nil)) (.one 1) (.seq (.v 0)) (.yes (.cmp .ne (.ix (.v 1) (.c (.int 0))) (.c (.str [100,114,111,112]))))) .nil))
noncomputable def nT (bJ:Nat):Fn:=⟨1,2,(.cons (BL bJ) .nil)⟩
noncomputable def D0:S:=.set 1 (.lst .nil)
noncomputable def D3:S:=.set 2 (.c (.int 0))
noncomputable def D4:S:=.set 3 (.c (.str []))
noncomputable def D5:S:=.set 4 (.c (.str []))
noncomputable def D6 (fG:Nat):Ss:=(.cons (.iff (.cmp .eq (.v 5) (.c (.str [100,114,111,112]))) (.cons (.set 3 (.bin .add (.v 3) (.v 6))) .nil) (.cons (.iff (.cmp .eq (.v 5) (.c (.str [112,117,116]))) (.cons (.set 4 (.bin .add (.v 4) (.v 6))) .nil) (.cons (.iff (.cmp .gt (.v 6) (.c (.int 0))) (.cons (.iff (.orr (.cmp .ne (.v 3) (.c (.str []))) (.cmp .ne (.v 4) (.c (.str [])))) (.cons (.exp (.me .extend (.v 1) (.cons (.cl fG (.cons (.v 2) (.cons (.v 3) (.cons (.v 4) .nil)))) .nil))) (.cons (.set 2 (.c (.int 0))) (.cons (.set 3 (.c (.str []))) (.cons (.set 4 (.c (.str []))) .nil)))) .nil) (.cons (.set 2 (.bin .add (.v 2) (.v 6))) .nil)) .nil) .nil)) .nil)) .nil)
noncomputable def D7 (fG:Nat):S:=.for (.many [5,6]) (.seq (.v 0)) (D6 fG)
noncomputable def D8 (fG:Nat):S:=.exp (.me .extend (.v 1) (.cons (.cl fG (.cons (.v 2) (.cons (.v 3) (.cons (.v 4) .nil)))) .nil))
noncomputable def D9:S:=.ret (.jb (.v 1))
noncomputable def jO (fG:Nat):Fn:=⟨1,7,(.cons D0 (.cons D3 (.cons D4 (.cons D5 (.cons (D7 fG) (.cons (D8 fG) (.cons D9 .nil)))))))⟩
noncomputable def wA:S:=.set 3 (.lst .nil)
noncomputable def wC:S:=.iff (.cmp .gt (.v 0) (.c (.int 0))) (.cons (.exp (.me .append (.v 3) (.cons (.tup (.cons (.c (.str [107,101,101,112])) (.cons (.v 0) .nil))) .nil))) .nil) .nil
noncomputable def oN:S:=.iff (.cmp .ne (.v 1) (.c (.str []))) (.cons (.exp (.me .append (.v 3) (.cons (.tup (.cons (.c (.str [100,114,111,112])) (.cons (.v 1) .nil))) .nil))) .nil) .nil
noncomputable def kg:S:=.iff (.cmp .ne (.v 2) (.c (.str []))) (.cons (.exp (.me .append (.v 3) (.cons (.tup (.cons (.c (.str [112,117,116])) (.cons (.v 2) .nil))) .nil))) .nil) .nil
noncomputable def iO:S:=.ret (.v 3)
noncomputable def fH:Fn:=⟨3,4,(.cons wA (.cons wC (.cons oN (.cons kg (.cons iO .nil)))))⟩
noncomputable def Pt.n:Pt→Nat
 | .keep n=>n
 | .put s=>s.length
 | .drop s=>s.length
noncomputable def tot (c:List Pt):Nat:=(c.map Pt.n).sum
theorem dX (a b:List Pt):tot (a++b)=tot a+tot b:=by simp [tot]
theorem aZ (p:Pt) (c:List Pt):tot (p :: c)=p.n+tot c:=by simp [tot]
noncomputable def eV:Pt→Bool
 | .put _=>true
 | _=>false
noncomputable def dQ:Pt→Bool
 | .drop _=>true
 | _=>false
noncomputable def cZ:Pt→Bool
 | .keep _=>true
 | _=>false
noncomputable def aR (c:List Pt):Nat:=tot (c.filter fun p=>!eV p)
noncomputable def gp (c:List Pt):Nat:=tot (c.filter fun p=>!dQ p)
noncomputable def cst (c:List Pt):Nat:=tot (c.filter fun p=>!cZ p)
section
variable {F:List Fn}{w n aJ i:Nat}
theorem gq (hs:F[i]?=some fT) (p:Pt) (hp:p.n≤100000):run F w (n+1) i [.val p.v]=some (.int p.n,[]):=by
 cases p with
 | keep k=>exact cD hs rfl (ah (aL (b:=true) (aH rfl (bY (dh (az rfl) (bC rfl) rfl) (bC rfl) lJ) rfl) (fun _=>ah (bK (dh (az rfl) (bC rfl) rfl) ⟨rfl,rfl⟩)) nofun))
 | put s=>exact cD hs rfl (ah (aL (b:=false) (aH rfl (bY (dh (az rfl) (bC rfl) rfl) (bC rfl) lJ) rfl) nofun (fun _=>ay (ah (bK (fz (aN (dh (az rfl) (bC rfl) rfl) aO) (len_str hp)) ⟨rfl,rfl⟩)))))
 | drop s=>exact cD hs rfl (ah (aL (b:=false) (aH rfl (bY (dh (az rfl) (bC rfl) rfl) (bC rfl) lJ) rfl) nofun (fun _=>ay (ah (bK (fz (aN (dh (az rfl) (bC rfl) rfl) aO) (len_str hp)) ⟨rfl,rfl⟩)))))
theorem YA {c:List Pt}{p:Pt}(h:p∈c):p.n≤tot c:=by
 induction c with
 | nil=>simp at h
 | cons q c ih=>
  rw [aZ]
  rcases List.mem_cons.mp h with rfl | h
  ·omega
  ·have:=ih h;omega
theorem TJ (c:List Pt):(c.map fun p=>(p.n:Int)).sum=(tot c:Int):=by
 induction c with
 | nil=>rfl
 | cons p c ih=>simp only [List.map_cons,List.sum_cons,ih,aZ];omega
theorem yc {word:List Nat}{pr:Pt→Bool}(hs:F[aJ]?=some fT) (hb:F[i]?=some ⟨1,2,.cons (.ret (.bi .sum (.cons (.comp (.cl aJ (.cons (.v 1) .nil)) (.one 1) (.seq (.v 0)) (.yes (.cmp .ne (.ix (.v 1) (.c (.int 0))) (.c (.str word))))) .nil))) .nil⟩)
  (hw:∀ p:Pt,∃ x u,p.v=.tup [.str x,u]∧(!decide (x=word))=pr p) (c:List Pt) (h1:c.length≤10000) (h2:tot c≤100000):run F w (n+2) i [.val (aD c)]=some (.int (tot (c.filter pr)),[]):=by
 refine cD hb rfl (ah (bK (fz (aN (jL (ee (dU rfl) rfl) rfl (mZ (e:=Pt.v) (p:=pr) (g:=fun p=>.int p.n) c fun p hp=>?_) (fy (cy ?_))) aO) ?_) ⟨rfl,rfl⟩))
 ·obtain ⟨x,u,hx,hpr⟩:=hw p
  have hcall:=fun fr=>cE (fr:=fr) (gq (w:=w) (n:=n) hs p (Nat.le_trans (YA hp) h2))
  rw [hx] at hcall
  rw [hx,←hpr]
  exact x9 rfl (aH rfl (bY (dh (az rfl) (bC rfl) rfl) (bC rfl) iu) rfl) fun _=>bh (aS rfl (az rfl) aP) (hcall _)
 ·rw [List.length_map];exact Nat.le_trans (List.length_filter_le _ _) (Nat.le_trans h1 (by decide))
 ·rw [Kg,zg (fun p:Pt=>(p.n:Int))]
  show some (V.int _)=_
  rw [TJ]
theorem jl (hs:F[aJ]?=some fT) (hb:F[i]?=some (jN aJ)) (c:List Pt) (h1:c.length≤10000) (h2:tot c≤100000):run F w (n+2) i [.val (aD c)]=some (.int (aR c),[]):=
 yc (pr:=fun p=>!eV p) hs hb (fun p=>by cases p <;> exact ⟨_,_,rfl,rfl⟩) c h1 h2
theorem sF (hs:F[aJ]?=some fT) (hb:F[i]?=some (nT aJ)) (c:List Pt) (h1:c.length≤10000) (h2:tot c≤100000):run F w (n+2) i [.val (aD c)]=some (.int (gp c),[]):=
 yc (pr:=fun p=>!dQ p) hs hb (fun p=>by cases p <;> exact ⟨_,_,rfl,rfl⟩) c h1 h2
end
noncomputable def b7 (k:Nat) (g w:List Nat):List Pt:=(if 0<k then [.keep k] else [])++(if g=[] then [] else [.drop g])++(if w=[] then [] else [.put w])
theorem kh (k:Nat) (g w:List Nat):(b7 k g w).length≤3:=by unfold b7;split <;> split <;> split <;> simp
theorem oO {F:List Fn}{w n i:Nat}(hs:F[i]?=some fH) (k:Nat) (g x:List Nat):run F w (n+1) i [.val (.int k),.val (.str g),.val (.str x)]=some (.lst ((b7 k g x).map Pt.v),[]):=by
 refine cD hs rfl ?_
 refine ah (fS (l:=[]) (by repeat array_get_dec) rfl rfl ?_)
 have ap:∀ (l:List V) (d:V) (fr:Fr) (i:Nat),l.length≤3→fr[i]?=some (some (.own l))→gF .append i [d] fr fr[i]?=.ok .bf (fr.set i (some (.own (l++[d])))):=fun l d fr i h e=>by rw [e];exact iH (by omega)
 have fin:∀ l:List V,Wp (exs (run F w n) w (.cons iO .nil) [some (.val (.int k)),some (.val (.str g)),some (.val (.str x)),some (.own l)]) fun g fr=>g=.ret (.lst l)∧outs 3 fr=[]:=fun l=>ah (bK (by repeat array_get_dec) ⟨rfl,rfl⟩)
 have s3:∀ l:List V,l.length≤2→Wp (exs (run F w n) w (.cons kg (.cons iO .nil)) [some (.val (.int k)),some (.val (.str g)),some (.val (.str x)),some (.own l)]) fun g fr=>g=.ret (.lst (l++(if x=[] then [] else [Pt.put x]).map Pt.v))∧outs 3 fr=[]:=fun l hl=>by
  refine ah (aL (by repeat array_get_dec) (fun h=>?_) fun h=>?_)
  ·have hx:x≠[]:=by simpa using h
   refine ah (dR (by (repeat array_get_dec);exact ap _ _ _ _ (by omega) rfl) (ay ?_))
   rw [if_neg hx];exact fin _
  ·have hx:x=[]:=by simpa using h
   refine ay ?_
   rw [if_pos hx,List.map_nil,List.append_nil];exact fin _
 have s2:∀ l:List V,l.length≤1→Wp (exs (run F w n) w (.cons oN (.cons kg (.cons iO .nil))) [some (.val (.int k)),some (.val (.str g)),some (.val (.str x)),some (.own l)]) fun y fr=>y=.ret (.lst (l++((if g=[] then [] else [Pt.drop g])++(if x=[] then [] else [Pt.put x])).map Pt.v))∧outs 3 fr=[]:=fun l hl=>by
  refine ah (aL (by repeat array_get_dec) (fun h=>?_) fun h=>?_)
  ·have hx:g≠[]:=by simpa using h
   refine ah (dR (by (repeat array_get_dec);exact ap _ _ _ _ (by omega) rfl) (ay ?_))
   rw [if_neg hx,List.map_append,←List.append_assoc];exact s3 _ (by simp;omega)
  ·have hx:g=[]:=by simpa using h
   refine ay ?_
   rw [if_pos hx,List.nil_append];exact s3 _ (by omega)
 refine ah (aL (by repeat array_get_dec) (fun h=>?_) fun h=>?_)
 ·have hx:0<k:=by have:=of_decide_eq_true h;omega
  refine ah (dR (by (repeat array_get_dec);exact ap _ _ _ _ (by decide) rfl) (ay ?_))
  unfold b7
  rw [if_pos hx,List.append_assoc];exact s2 _ (Nat.le_refl 1)
 ·have hx:¬ 0<k:=by have:=of_decide_eq_false h;omega
  refine ay ?_
  unfold b7
  rw [if_neg hx];exact s2 _ (by decide)
abbrev FS:=List Pt×Nat×List Nat×List Nat
noncomputable def bI (st:FS):Pt→FS
 | .drop s=>(st.1,st.2.1,st.2.2.1++s,st.2.2.2)
 | .put s=>(st.1,st.2.1,st.2.2.1,st.2.2.2++s)
 | .keep k=>if 0<k then (if st.2.2.1=[]∧st.2.2.2=[] then (st.1,st.2.1+k,[],[]) else (st.1++b7 st.2.1 st.2.2.1 st.2.2.2,k,[],[])) else st
noncomputable def fC:FS:=([],0,[],[])
noncomputable def dc (st:FS):List Pt:=st.1++b7 st.2.1 st.2.2.1 st.2.2.2
noncomputable def ak (c:List Pt):List Pt:=dc (c.foldl bI fC)
theorem KJ (p:List Pt) (a:Pt):(p++[a]).foldl bI fC=bI (p.foldl bI fC) a:=by simp
theorem uZ (c:List Pt):∀ st:FS,(c.foldl bI st).1.length≤st.1.length+3*c.length∧(c.foldl bI st).2.2.1.length≤st.2.2.1.length+tot c∧(c.foldl bI st).2.2.2.length≤st.2.2.2.length+tot c:=by
 induction c with
 | nil=>intro st;simp [tot]
 | cons p c ih=>
  intro st
  have h:=ih (bI st p)
  have h2:(bI st p).1.length≤st.1.length+3∧(bI st p).2.2.1.length≤st.2.2.1.length+p.n∧(bI st p).2.2.2.length≤st.2.2.2.length+p.n:=by
   have:=kh st.2.1 st.2.2.1 st.2.2.2
   cases p with
   | drop s=>simp [bI,Pt.n]
   | put s=>simp [bI,Pt.n]
   | keep k=>
    simp only [bI]
    split
    ·split
     ·simp
     ·simp;omega
    ·simp
  simp only [List.foldl_cons,List.length_cons,aZ]
  omega
theorem eZ {F:List Fn}{w n aY i:Nat}(hs:F[aY]?=some fH) (hf:F[i]?=some (jO aY)) (c:List Pt) (h1:c.length≤10000) (h2:tot c≤10000):run F w (n+2) i [.val (aD c)]=some (aD (ak c),[]):=by
 refine cD hf rfl ?_
 refine ah (fS (l:=[]) (by repeat array_get_dec) rfl rfl ?_)
 refine ah (aW (by repeat array_get_dec) rfl rfl ?_)
 refine ah (aW (by repeat array_get_dec) rfl rfl ?_)
 refine ah (aW (by repeat array_get_dec) rfl rfl ?_)
 refine ah (gv (vs:=c.map Pt.v) (ee (dU rfl) rfl) ?_)
 have ext:∀ (st:FS) (fr:Fr),st.1.length≤30010→gF .extend 1 [.lst ((b7 st.2.1 st.2.2.1 st.2.2.2).map Pt.v)] fr (some (some (.own (st.1.map Pt.v))))=.ok .bf (fr.set 1 (some (.own ((dc st).map Pt.v)))):=fun st fr h=>by
  have:=kh st.2.1 st.2.2.1 st.2.2.2
  unfold dc
  rw [List.map_append];exact x8 (by simp;omega)
 refine eG (e:=Pt.v) (fun p l fr=>p++l=c∧∃ a b,vo a∧vo b∧fr=[some (.val (aD c)),some (.own ((p.foldl bI fC).1.map Pt.v)),some (.val (.int (p.foldl bI fC).2.1)),some (.val (.str (p.foldl bI fC).2.2.1)),some (.val (.str (p.foldl bI fC).2.2.2)),a,b]) (fun p x l fr ⟨hpl,a,b,ha,hb,hfr⟩=>?_) (fun p fr ⟨hpl,a,b,ha,hb,hfr⟩=>?_) c [] _ ⟨rfl,none,none,.none,.none,rfl⟩
 ·subst hfr
  obtain ⟨b1,b2,b3⟩:=uZ p fC
  have hlen:p.length+l.length+1=c.length:=by rw [←hpl];simp;omega
  have u0:tot p+x.n+tot l=tot c:=by rw [←hpl,dX,aZ];omega
  rw [KJ]
  have fO:(p++[x])++l=c:=by simpa using hpl
  generalize p.foldl bI fC=st at *
  simp [fC] at b1 b2 b3
  have rs:=fun fr=>eU (fr:=fr) (oO (w:=w) (n:=n) hs st.2.1 st.2.2.1 st.2.2.2)
  have ex:=fun fr=>ext st fr (by omega)
  cases x with
  | drop s=>
   have hs:s.length≤tot c:=by simp only [Pt.n] at u0;omega
   have ad:=lE (a:=st.2.2.1) (b:=s) (by omega)
   refine cO (gO rfl ha rfl hb) (ah (aL (by repeat array_get_dec) (fun _=>?_) fun h=>absurd h (by decide)))
   refine ah (aW (by repeat array_get_dec) rfl rfl (ay (ay ?_)))
   rw [cY];exact ⟨fO,_,_,.val,.val,rfl⟩
  | put s=>
   have hs:s.length≤tot c:=by simp only [Pt.n] at u0;omega
   have ad:=lE (a:=st.2.2.2) (b:=s) (by omega)
   refine cO (gO rfl ha rfl hb) (ah (aL (by repeat array_get_dec) (fun h=>absurd h (by decide)) fun _=>?_))
   refine ah (aL (by repeat array_get_dec) (fun _=>?_) fun h=>absurd h (by decide))
   refine ah (aW (by repeat array_get_dec) rfl rfl (ay (ay (ay ?_))))
   rw [cY];exact ⟨fO,_,_,.val,.val,rfl⟩
  | keep k=>
   refine cO (gO rfl ha rfl hb) (ah (aL (by repeat array_get_dec) (fun h=>absurd h (by decide)) fun _=>?_))
   refine ah (aL (by repeat array_get_dec) (fun h=>absurd h (by decide)) fun _=>?_)
   refine ah (aL (by repeat array_get_dec) (fun h=>?_) fun h=>?_)
   ·have hk:0<k:=by have:=of_decide_eq_true h;omega
    by_cases hg:st.2.2.1=[]∧st.2.2.2=[]
    ·have n1:cop .ne (.str st.2.2.1) (.str [])=some false:=by rw [iu,hg.1];rfl
     have n2:cop .ne (.str st.2.2.2) (.str [])=some false:=by rw [iu,hg.2];rfl
     refine ah (aL (b:=false) (fR (aH rfl (by repeat array_get_dec) rfl) (aH rfl (by repeat array_get_dec) rfl)) (fun h=>absurd h (by decide)) fun _=>ay ?_)
     refine ah (aW (by repeat array_get_dec) rfl rfl (ay (ay (ay (ay ?_)))))
     rw [cY]
     refine ⟨fO,some (.val (.str dS)),some (.val (.int k)),.val,.val,?_⟩
     simp only [bI,if_pos hk,if_pos hg]
     rw [hg.1,hg.2];rfl
    ·have tt:aM (run F w (n+1)) (.orr (.cmp .ne (.v 3) (.c (.str []))) (.cmp .ne (.v 4) (.c (.str [])))) [some (.val (aD c)),some (.own (st.1.map Pt.v)),some (.val (.int st.2.1)),some (.val (.str st.2.2.1)),some (.val (.str st.2.2.2)),some (.val (.str dS)),some (.val (.int k))]=.ok true [some (.val (aD c)),some (.own (st.1.map Pt.v)),some (.val (.int st.2.1)),some (.val (.str st.2.2.1)),some (.val (.str st.2.2.2)),some (.val (.str dS)),some (.val (.int k))]:=by
      by_cases h3:st.2.2.1=[]
      ·have h4:¬ st.2.2.2=[]:=fun z=>hg ⟨h3,z⟩
       have n1:cop .ne (.str st.2.2.1) (.str [])=some false:=by rw [iu,h3];rfl
       have n2:cop .ne (.str st.2.2.2) (.str [])=some true:=by rw [iu,decide_eq_false h4];rfl
       exact fR (aH rfl (by repeat array_get_dec) rfl) (aH rfl (by repeat array_get_dec) rfl)
      ·have n1:cop .ne (.str st.2.2.1) (.str [])=some true:=by rw [iu,decide_eq_false h3];rfl
       exact m7 (aH rfl (by repeat array_get_dec) rfl)
     refine ah (aL tt (fun _=>?_) fun h=>absurd h (by decide))
     refine ah (dR (by (repeat (first | array_get_dec | exact rs _ | exact ex _))) ?_)
     refine ah (aW (by repeat array_get_dec) rfl rfl ?_)
     refine ah (aW (by repeat array_get_dec) rfl rfl ?_)
     refine ah (aW (by repeat array_get_dec) rfl rfl (ay ?_))
     refine ah (aW (by repeat array_get_dec) rfl rfl (ay (ay (ay (ay ?_)))))
     rw [cY]
     refine ⟨fO,some (.val (.str dS)),some (.val (.int k)),.val,.val,?_⟩
     simp only [bI,if_pos hk,if_neg hg]
     rw [Int.zero_add];rfl
   ·have hk:¬ 0<k:=by have:=of_decide_eq_false h;omega
    refine ay (ay (ay (ay ?_)))
    rw [cY]
    refine ⟨fO,some (.val (.str dS)),some (.val (.int k)),.val,.val,?_⟩
    simp only [bI,if_neg hk];rfl
 ·subst hfr
  simp at hpl
  subst hpl
  obtain ⟨b1,b2,b3⟩:=uZ p fC
  have e:ak p=dc (p.foldl bI fC):=rfl
  rw [e]
  generalize p.foldl bI fC=st at *
  simp [fC] at b1 b2 b3
  have sl:=kh st.2.1 st.2.2.1 st.2.2.2
  have rs:=fun fr=>eU (fr:=fr) (oO (w:=w) (n:=n) hs st.2.1 st.2.2.1 st.2.2.2)
  have ex:=fun fr=>ext st fr (by omega)
  have mk:toT (.lst ((dc st).map Pt.v))=some (aD (dc st)):=by rw [qW];exact jI (cy (by simp [dc];omega))
  refine ah (dR (by (repeat (first | array_get_dec | exact rs _ | exact ex _))) ?_)
  exact ah (bK (tE (az rfl) mk) ⟨rfl,rfl⟩)
end Pv
namespace Pv
open Ev (D bU bN TY BI ME T E Es Eo It S Ss Fn big deep b2i rep cz dP bL aU cut cS ek slots)
section
variable {o:Option Sl}{l:List V}{fr:Fr}{i:Nat}{s:Sl}
end
inductive Tq where
 | at (i:Nat) | sg (c:Nat)
deriving DecidableEq
noncomputable def Pt.asks:Pt→List (List Nat)
 | .keep n=>List.replicate n []
 | .drop s=>s.map fun c=>[c]
 | .put _=>[]
noncomputable def asks (c:List Pt):List (List Nat):=c.flatMap Pt.asks
noncomputable def Pt.told (k:Nat):Pt→List Tq
 | .keep n=>(List.range n).map fun j=>.at (k+j)
 | .drop _=>[]
 | .put s=>s.map .sg
noncomputable def told (k:Nat):List Pt→List Tq
 | []=>[]
 | p :: c=>p.told k++told (k+p.asks.length) c
theorem e8 (a b:List Pt):asks (a++b)=asks a++asks b:=by simp [asks]
theorem gP (a b:List Pt):∀ k,told k (a++b)=told k a++told (k+(asks a).length) b:=by
 induction a with
 | nil=>intro k;simp [told,asks]
 | cons p a ih=>
  intro k
  simp only [List.cons_append,told,ih,List.append_assoc]
  congr 3
  simp [asks];omega
noncomputable def jm (c:List Pt):List (List Nat)×List Tq:=(asks c,told 0 c)
noncomputable def Pt.word:Pt→List Nat
 | .keep _=>dS
 | .put _=>lM
 | .drop _=>ji
noncomputable def qk (a b:List Nat):Bool:=!(decide (a=b) || (decide (a=lM)&&decide (b=ji)))
noncomputable def ki:List (List Nat)→Bool
 | a :: b :: r=>qk a b&&ki (b :: r)
 | _=>true
noncomputable def OM (p:Pt):Bool:=p.n != 0
noncomputable def kI (c:List Pt):Bool:=ki (c.map Pt.word)&&c.all OM
theorem fD (k:Nat) (g x:List Nat):asks (b7 k g x)=List.replicate k []++g.map fun c=>[c]:=by
  unfold b7
  by_cases hk:0<k <;> by_cases hg:g=[] <;> by_cases hx:x=[] <;> simp [hk,hg,hx,asks,Pt.asks]
  all_goals (have:k=0:=by omega
             subst this;simp)
theorem iy (k:Nat) (g x:List Nat) (j:Nat):told j (b7 k g x)=(List.range k).map (fun i=>Tq.at (j+i))++x.map Tq.sg:=by
  unfold b7
  by_cases hk:0<k <;> by_cases hg:g=[] <;> by_cases hx:x=[] <;> simp [hk,hg,hx,told,Pt.told,Pt.asks]
  all_goals (have:k=0:=by omega
             subst this;simp)
theorem zA (st:FS) (p:Pt):asks (dc (bI st p))=asks (dc st++[p])∧∀ j,told j (dc (bI st p))=told j (dc st++[p]):=by
 obtain ⟨ps,k,g,x⟩:=st
 have e1:∀ a:List Pt,asks (a++[p])=asks a++p.asks:=fun a=>by simp [asks]
 have e2:∀ (a:List Pt) j,told j (a++[p])=told j a++p.told (j+(asks a).length):=fun a j=>by simp [gP,told]
 rw [e1]
 cases p with
 | drop s=>
  refine ⟨by simp [bI,dc,e8,fD,Pt.asks],fun j=>?_⟩
  rw [e2]
  simp [bI,dc,gP,iy,Pt.told]
 | put s=>
  refine ⟨by simp [bI,dc,e8,fD,Pt.asks],fun j=>?_⟩
  rw [e2]
  simp [bI,dc,gP,iy,Pt.told]
 | keep m=>
  simp only [bI]
  split
  ·split
   ·rename_i h
    obtain ⟨rfl,rfl⟩:=h
    refine ⟨by simp [dc,e8,fD,Pt.asks],fun j=>?_⟩
    rw [e2]
    simp [dc,e8,gP,iy,fD,Pt.told,List.range_add,Nat.add_assoc]
   ·refine ⟨by simp [dc,e8,fD,Pt.asks],fun j=>?_⟩
    rw [e2]
    simp [dc,e8,gP,iy,fD,Pt.told,Nat.add_assoc]
  ·rename_i h
   have:m=0:=by omega
   subst this
   refine ⟨by simp [Pt.asks],fun j=>?_⟩
   rw [e2]
   simp [Pt.told]
theorem ql (c:List Pt):∀ st:FS,asks (dc (c.foldl bI st))=asks (dc st++c)∧∀ j,told j (dc (c.foldl bI st))=told j (dc st++c):=by
 induction c with
 | nil=>intro st;simp
 | cons p c ih=>
  intro st
  obtain ⟨h1,h2⟩:=ih (bI st p)
  obtain ⟨h3,h4⟩:=zA st p
  simp only [List.foldl_cons]
  have e:dc st++p :: c=(dc st++[p])++c:=by simp
  refine ⟨?_,fun j=>?_⟩
  ·rw [h1,e,e8,e8 _ c,h3]
  ·rw [h2 j,e,gP,gP _ c,h4 j,h3]
theorem dg (c:List Pt):asks (ak c)=asks c:=by
 have:=(ql c fC).1
 simpa [ak,fC,dc,b7] using this
theorem bO (c:List Pt) (j:Nat):told j (ak c)=told j c:=by
 have:=(ql c fC).2 j
 simpa [ak,fC,dc,b7] using this
theorem lN (c:List Pt):jm (ak c)=jm c:=by simp [jm,dg,bO]
noncomputable def kps (c:List Pt):Nat:=tot (c.filter cZ)
theorem pC (c:List Pt):(asks c).length=aR c:=by
 induction c with
 | nil=>rfl
 | cons p c ih=>cases p <;> simp [asks,aR,tot,eV,Pt.asks,Pt.n] at ih ⊢ <;> omega
theorem lP (c:List Pt):∀ j,(told j c).length=gp c:=by
 induction c with
 | nil=>intro j;rfl
 | cons p c ih=>intro j;cases p <;> simp [told,gp,tot,dQ,Pt.told,Pt.n,ih] at ih ⊢
theorem iP (n:Nat) (c:List Pt):aR (.keep n :: c)=n+aR c:=by simp [aR,tot,eV,Pt.n]
theorem jn (s:List Nat) (c:List Pt):aR (.drop s :: c)=s.length+aR c:=by simp [aR,tot,eV,Pt.n]
theorem iQ (s:List Nat) (c:List Pt):aR (.put s :: c)=aR c:=by simp [aR,tot,eV,Pt.n]
theorem zB (n:Nat) (c:List Pt):gp (.keep n :: c)=n+gp c:=by simp [gp,tot,dQ,Pt.n]
theorem zC (s:List Nat) (c:List Pt):gp (.drop s :: c)=gp c:=by simp [gp,tot,dQ,Pt.n]
theorem zD (s:List Nat) (c:List Pt):gp (.put s :: c)=s.length+gp c:=by simp [gp,tot,dQ,Pt.n]
theorem zE (n:Nat) (c:List Pt):cst (.keep n :: c)=cst c:=by simp [cst,tot,cZ,Pt.n]
theorem zF (s:List Nat) (c:List Pt):cst (.drop s :: c)=s.length+cst c:=by simp [cst,tot,cZ,Pt.n]
theorem zG (s:List Nat) (c:List Pt):cst (.put s :: c)=s.length+cst c:=by simp [cst,tot,cZ,Pt.n]
theorem GP (n:Nat) (c:List Pt):kps (.keep n :: c)=n+kps c:=by simp [kps,tot,List.filter_cons,cZ,Pt.n]
theorem GQ (s:List Nat) (c:List Pt):kps (.drop s :: c)=kps c:=by simp [kps,tot,cZ,Pt.n]
theorem GR (s:List Nat) (c:List Pt):kps (.put s :: c)=kps c:=by simp [kps,tot,cZ,Pt.n]
noncomputable def isAt:Tq→Bool
 | .at _=>true
 | _=>false
theorem BN (c:List Pt):∀ j,((told j c).filter isAt).length=kps c:=by
 induction c with
 | nil=>intro j;rfl
 | cons p c ih=>
  intro j
  have e1:∀ (m:Nat) (f:Nat→Nat),(((List.range m).map fun i=>Tq.at (f i)).filter isAt).length=m:=fun m f=>by
   rw [List.filter_eq_self.mpr]
   ·simp
   ·intro a ha;obtain ⟨i,_,rfl⟩:=List.mem_map.mp ha;rfl
  have e2:∀ s:List Nat,((s.map Tq.sg).filter isAt).length=0:=fun s=>by
   rw [List.filter_eq_nil_iff.mpr]
   ·rfl
   ·intro a ha;obtain ⟨i,_,rfl⟩:=List.mem_map.mp ha;simp [isAt]
  cases p with
  | keep m=>simp only [told,Pt.told,List.filter_append,List.length_append,e1,ih,kps,tot,cZ,List.filter_cons,if_true,List.map_cons,List.sum_cons,Pt.n]
  | put s=>simp only [told,Pt.told,List.filter_append,List.length_append,e2,ih,kps,cZ,List.filter_cons];simp
  | drop s=>simp only [told,Pt.told,List.filter_append,List.length_append,ih,kps,cZ,List.filter_cons];simp
theorem BO (c:List Pt):(cst c:Int)=aR c - kps c+gp c - kps c:=by
 induction c with
 | nil=>rfl
 | cons p c ih=>cases p <;> simp only [zE,zF,zG,iP,jn,iQ,zB,zC,zD,GP,GQ,GR] <;> omega
theorem BP (c:List Pt):tot c+kps c=aR c+gp c:=by
 induction c with
 | nil=>rfl
 | cons p c ih=>cases p <;> simp only [aZ,Pt.n,iP,jn,iQ,zB,zC,zD,GP,GQ,GR] <;> omega
theorem u5 (c:List Pt):aR (ak c)=aR c:=by rw [←pC,←pC,dg]
theorem u6 (c:List Pt):gp (ak c)=gp c:=by rw [←lP _ 0,←lP _ 0,bO]
theorem u7 (c:List Pt):kps (ak c)=kps c:=by rw [←BN _ 0,←BN _ 0,bO]
theorem jP (c:List Pt):cst (ak c)=cst c:=by
 have h1:=BO (ak c)
 have h2:=BO c
 rw [u5,u6,u7] at h1
 omega
theorem gr (c:List Pt):tot (ak c)=tot c:=by
 have h1:=BP (ak c)
 have h2:=BP c
 rw [u5,u6,u7] at h1
 omega
theorem yd:∀ (a:List (List Nat)) (b:List (List Nat)),ki (a++b)=true↔ki a=true∧ki b=true∧∀ x∈a.getLast?,∀ y∈b.head?,qk x y=true
 | [],b=>by simp [ki]
 | [x],[]=>by simp [ki]
 | [x],y :: b=>by simp [ki,and_comm]
 | x :: y :: a,b=>by
  have:=yd (y :: a) b
  simp only [List.cons_append] at this ⊢
  simp only [ki,Bool.and_eq_true,this,List.getLast?_cons_cons]
  constructor
  ·rintro ⟨h1,h2,h3,h4⟩;exact ⟨⟨h1,h2⟩,h3,h4⟩
  ·rintro ⟨⟨h1,h2⟩,h3,h4⟩;exact ⟨h1,h2,h3,h4⟩
theorem wD (k:Nat) (g x:List Nat):kI (b7 k g x)=true:=by
 unfold b7
 by_cases hk:0<k <;> by_cases hg:g=[] <;> by_cases hx:x=[] <;> simp [hk,hg,hx,kI,OM,ki,qk,Pt.word,Pt.n,dS,lM,ji]
 all_goals omega
noncomputable def u9 (st:FS):Prop:=kI st.1=true∧(st.1≠[]→0<st.2.1)∧∀ p∈st.1.getLast?,p.word≠dS
theorem KL {a b:List Pt}(ha:kI a=true) (hb:kI b=true) (h:∀ p∈a.getLast?,∀ q∈b.head?,qk p.word q.word=true):kI (a++b)=true:=by
 simp only [kI,Bool.and_eq_true] at ha hb ⊢
 refine ⟨?_,by rw [List.all_append,ha.2,hb.2];rfl⟩
 rw [List.map_append,yd]
 refine ⟨ha.1,hb.1,fun x hx y hy=>?_⟩
 simp at hx hy
 obtain ⟨p,hp,rfl⟩:=hx
 obtain ⟨q,hq,rfl⟩:=hy
 exact h p hp q hq
theorem vc {k:Nat}{g x:List Nat}(hk:0<k):(b7 k g x).head?=some (.keep k):=by simp [b7,hk]
theorem KN {w:List Nat}(h:w≠dS) (hw:w=lM∨w=ji):qk w dS=true:=by
 rcases hw with rfl | rfl <;> decide
theorem KO (p:Pt):p.word=dS∨p.word=lM∨p.word=ji:=by cases p <;> simp [Pt.word]
theorem vd {st:FS}(h:u9 st):kI (dc st)=true:=by
 refine KL h.1 (wD _ _ _) fun p hp q hq=>?_
 have hne:st.1≠[]:=by intro z;rw [z] at hp;simp at hp
 rw [vc (h.2.1 hne)] at hq
 simp at hq;subst hq
 have hw:=h.2.2 p hp
 exact KN hw ((KO p).resolve_left hw)
theorem ve {k:Nat}{g x:List Nat}(h:¬ (g=[]∧x=[])):∀ p∈(b7 k g x).getLast?,p.word≠dS:=by
 unfold b7
 by_cases hx:x=[]
 ·have hg:g≠[]:=fun z=>h ⟨z,hx⟩
  intro p hp
  simp [hg,hx] at hp
  subst hp
  simp [Pt.word,ji,dS]
 ·intro p hp
  simp [hx] at hp
  subst hp
  simp [Pt.word,lM,dS]
theorem BQ {st:FS}(h:u9 st) (p:Pt):u9 (bI st p):=by
 cases p with
 | drop s=>exact h
 | put s=>exact h
 | keep k=>
  simp only [bI]
  split
  ·rename_i hk
   split
   ·exact ⟨h.1,fun z=>by simp;omega,h.2.2⟩
   ·rename_i VB
    refine ⟨vd h,fun _=>hk,fun p hp=>?_⟩
    rw [List.getLast?_append] at hp
    cases z:(b7 st.2.1 st.2.2.1 st.2.2.2).getLast? with
    | none=>
     exfalso
     rw [List.getLast?_eq_none_iff] at z
     unfold b7 at z
     by_cases hx:st.2.2.2=[] <;> by_cases hg:st.2.2.1=[] <;> simp [hx,hg] at z VB
    | some q=>
     rw [z] at hp
     simp at hp
     subst hp
     exact ve VB q z
  ·exact h
theorem ef (c:List Pt):kI (ak c)=true:=by
 have:∀ (c:List Pt) (st:FS),u9 st→u9 (c.foldl bI st):=fun c=>by
  induction c with
  | nil=>exact fun st h=>h
  | cons p c ih=>exact fun st h=>ih _ (BQ h p)
 exact vd (this c fC ⟨rfl,fun z=>absurd rfl z,fun p hp=>by simp [fC] at hp⟩)
end Pv
namespace Pv
open Ev (D bU bN TY BI ME T E Es Eo It S Ss Fn big deep b2i rep cz dP bL aU cut cS ek slots)
abbrev Bl:=List Nat×List Nat
abbrev BS:=List Bl×Bl
noncomputable def eE (st:BS):Pt→BS
 | .drop s=>(st.1,(st.2.1++s,st.2.2))
 | .put s=>(st.1,(st.2.1,st.2.2++s))
 | .keep 0=>st
 | .keep (n+1)=>(st.1++st.2 :: List.replicate n ([],[]),([],[]))
noncomputable def oQ:BS:=([],([],[]))
noncomputable def blocks (c:List Pt):BS:=c.foldl eE oQ
noncomputable def kJ (st:List Pt×Nat) (b:Bl):List Pt×Nat:=if b.1=[]∧b.2=[] then (st.1,st.2+1) else (st.1++b7 st.2 b.1 b.2,1)
noncomputable def pk (bs:List Bl):List Pt×Nat:=bs.foldl kJ ([],0)
theorem Ea (n:Nat):∀ st:List Pt×Nat,(List.replicate n (([],[]):Bl)).foldl kJ st=(st.1,st.2+n):=by
 induction n with
 | zero=>intro st;simp
 | succ n ih=>intro st;simp [List.replicate_succ,kJ,ih];omega
noncomputable def ye (st:BS):FS:=((pk st.1).1,(pk st.1).2,st.2.1,st.2.2)
theorem Eb (st:BS) (p:Pt):bI (ye st) p=ye (eE st p):=by
 obtain ⟨bs,g,x⟩:=st
 cases p with
 | drop s=>rfl
 | put s=>rfl
 | keep n=>
  cases n with
  | zero=>rfl
  | succ n=>
   have e:pk (bs++(g,x) :: List.replicate n ([],[]))=((kJ (pk bs) (g,x)).1,(kJ (pk bs) (g,x)).2+n):=by
    simp only [pk,List.foldl_append,List.foldl_cons,Ea]
   simp only [ye,eE,e,bI,Nat.succ_pos,if_true,kJ]
   by_cases h:g=[]∧x=[]
   ·simp [h];omega
   ·simp [h];omega
theorem Ec (c:List Pt):∀ st:BS,c.foldl bI (ye st)=ye (c.foldl eE st):=by
 induction c with
 | nil=>intro st;rfl
 | cons p c ih=>intro st;simp only [List.foldl_cons,Eb,ih]
theorem iR (c:List Pt):ak c=dc (ye (blocks c)):=by
 unfold ak blocks
 rw [←Ec];rfl
noncomputable def BR (st:List (List Nat)×List Nat):List Nat→List (List Nat)×List Nat
 | []=>(st.1++[st.2],[])
 | c :: _=>(st.1,st.2++[c])
noncomputable def spT (st:List (List Nat)×List Nat):Tq→List (List Nat)×List Nat
 | .at _=>(st.1++[st.2],[])
 | .sg c=>(st.1,st.2++[c])
theorem BU (s:List Nat):∀ st,(s.map fun c=>[c]).foldl BR st=(st.1,st.2++s):=by
 induction s with
 | nil=>intro st;simp
 | cons c s ih=>intro st;simp [BR,ih]
theorem Ed (n:Nat):∀ st,(List.replicate n []).foldl BR st=if n=0 then st else (st.1++st.2 :: List.replicate (n - 1) [],[]):=by
 induction n with
 | zero=>intro st;rfl
 | succ n ih=>
  intro st
  simp only [List.replicate_succ,List.foldl_cons,BR,ih]
  cases n with
  | zero=>simp
  | succ n=>simp [List.replicate_succ]
theorem BV (s:List Nat):∀ st,(s.map Tq.sg).foldl spT st=(st.1,st.2++s):=by
 induction s with
 | nil=>intro st;simp
 | cons c s ih=>intro st;simp [spT,ih]
theorem Ef (n:Nat):∀ (k:Nat) st,((List.range n).map fun j=>Tq.at (k+j)).foldl spT st=if n=0 then st else (st.1++st.2 :: List.replicate (n - 1) [],[]):=by
 induction n with
 | zero=>intro k st;rfl
 | succ n ih=>
  intro k st
  rw [List.range_succ,List.map_append,List.foldl_append,ih]
  cases n with
  | zero=>simp [spT]
  | succ n=>
   simp [spT]
   rw [←List.replicate_succ',List.replicate_succ]
theorem qm (c:List Pt):∀ st:BS,(asks c).foldl BR (st.1.map Prod.fst,st.2.1)=((c.foldl eE st).1.map Prod.fst,(c.foldl eE st).2.1):=by
 induction c with
 | nil=>intro st;rfl
 | cons p c ih=>
  intro st
  have e:asks (p :: c)=p.asks++asks c:=by simp [asks]
  rw [e,List.foldl_append,List.foldl_cons,←ih]
  congr 1
  cases p with
  | drop s=>simp [Pt.asks,BU,eE]
  | put s=>simp [Pt.asks,eE]
  | keep n=>
   simp only [Pt.asks,Ed]
   cases n with
   | zero=>rfl
   | succ n=>simp [eE]
theorem qo (c:List Pt):∀ (k:Nat) (st:BS),(told k c).foldl spT (st.1.map Prod.snd,st.2.2)=((c.foldl eE st).1.map Prod.snd,(c.foldl eE st).2.2):=by
 induction c with
 | nil=>intro k st;rfl
 | cons p c ih=>
  intro k st
  rw [told,List.foldl_append,List.foldl_cons,←ih (k+p.asks.length)]
  congr 1
  cases p with
  | put s=>simp [Pt.told,BV,eE]
  | drop s=>simp [Pt.told,eE]
  | keep n=>
   simp only [Pt.told,Ef]
   cases n with
   | zero=>rfl
   | succ n=>simp [eE]
theorem yf {α β:Type}:∀ {a b:List (α×β)},a.map Prod.fst=b.map Prod.fst→a.map Prod.snd=b.map Prod.snd→a=b
 | [],[],_,_=>rfl
 | [],_ :: _,h,_=>by simp at h
 | _ :: _,[],h,_=>by simp at h
 | (x,y) :: a,(x',y') :: b,h1,h2=>by
  simp at h1 h2
  rw [h1.1,h2.1,yf h1.2 h2.2]
theorem nc {a b:List Pt}(h:jm a=jm b):blocks a=blocks b:=by
 have hA:asks a=asks b:=congrArg Prod.fst h
 have hT:told 0 a=told 0 b:=congrArg Prod.snd h
 have a1:=qm a oQ
 have b1:=qm b oQ
 have a2:=qo a 0 oQ
 have b2:=qo b 0 oQ
 rw [hA,b1] at a1
 rw [hT,b2] at a2
 have e1:=congrArg Prod.fst a1
 have e2:=congrArg Prod.snd a1
 have e3:=congrArg Prod.fst a2
 have e4:=congrArg Prod.snd a2
 unfold blocks
 exact Prod.ext (yf e1.symm e3.symm) (Prod.ext e2.symm e4.symm)
theorem lQ (a b:List Pt):ak a=ak b↔jm a=jm b:=by
 constructor
 ·intro h
  rw [←lN a,←lN b,h]
 ·intro h
  rw [iR,iR,nc h]
theorem cQ (a:List Pt):ak (ak a)=ak a:=(lQ _ _).mpr (lN a)
noncomputable def Pt.sw:Pt→Pt
 | .keep n=>.keep n
 | .put s=>.drop s
 | .drop s=>.put s
noncomputable def sw (c:List Pt):List Pt:=c.map Pt.sw
theorem sG (c:List Pt):∀ st:BS,(sw c).foldl eE (st.1.map Prod.swap,st.2.swap)=((c.foldl eE st).1.map Prod.swap,(c.foldl eE st).2.swap):=by
 induction c with
 | nil=>intro st;rfl
 | cons p c ih=>
  intro st
  simp only [sw,List.map_cons,List.foldl_cons] at ih ⊢
  rw [←ih]
  congr 1
  cases p with
  | put s=>rfl
  | drop s=>rfl
  | keep n=>cases n <;> simp [Pt.sw,eE]
theorem yg {a b:List Pt}(h:ak a=ak b):ak (sw a)=ak (sw b):=by
 have hb:=nc ((lQ a b).mp h)
 rw [iR,iR]
 have a1:=sG a oQ
 have b1:=sG b oQ
 have e:blocks (sw a)=blocks (sw b):=by
  unfold blocks at hb ⊢
  have z:((oQ.1.map Prod.swap,oQ.2.swap):BS)=oQ:=rfl
  rw [z] at a1 b1
  rw [a1,b1,hb]
 rw [e]
noncomputable def kj (c:List Pt):List Pt:=ak (sw c)
theorem ON (c:List Pt):aR (sw c)=gp c:=by
 induction c with
 | nil=>rfl
 | cons p c ih=>cases p <;> simp only [sw,List.map_cons,Pt.sw,iP,jn,iQ,zB,zC,zD] at ih ⊢ <;> omega
noncomputable def aI:List Pt→List Nat→Bool
 | [],t=>t.isEmpty
 | .keep n :: c,t=>decide (n≤t.length)&&aI c (t.drop n)
 | .drop s :: c,t=>s.isPrefixOf t&&aI c (t.drop s.length)
 | .put _ :: c,t=>aI c t
noncomputable def aC:List Pt→List Nat→List Nat
 | [],_=>[]
 | .keep n :: c,t=>t.take n++aC c (t.drop n)
 | .drop s :: c,t=>aC c (t.drop s.length)
 | .put s :: c,t=>s++aC c t
noncomputable def aF:List (List Nat)→List Nat→Bool
 | [],[]=>true
 | x :: a,c :: t=>(decide (x=[]) || decide (x=[c]))&&aF a t
 | _,_=>false
theorem BW (n:Nat) (a:List (List Nat)):∀ t,aF (List.replicate n []++a) t=(decide (n≤t.length)&&aF a (t.drop n)):=by
 induction n with
 | zero=>intro t;simp
 | succ n ih=>
  intro t
  cases t with
  | nil=>simp [List.replicate_succ,aF]
  | cons c t=>simp [List.replicate_succ,aF,ih]
theorem BX (s:List Nat) (a:List (List Nat)):∀ t,aF ((s.map fun c=>[c])++a) t=(s.isPrefixOf t&&aF a (t.drop s.length)):=by
 induction s with
 | nil=>intro t;simp
 | cons c s ih=>
  intro t
  cases t with
  | nil=>simp [aF]
  | cons d t=>
   simp only [List.map_cons,List.cons_append,aF,ih,List.isPrefixOf,List.length_cons,List.drop_succ_cons]
   by_cases h:c=d <;> simp [h]
theorem eg (c:List Pt):∀ t,aI c t=aF (asks c) t:=by
 induction c with
 | nil=>intro t;cases t <;> rfl
 | cons p c ih=>
  intro t
  have e:asks (p :: c)=p.asks++asks c:=by simp [asks]
  rw [e]
  cases p with
  | keep n=>simp [aI,Pt.asks,BW,ih]
  | drop s=>simp [aI,Pt.asks,BX,ih]
  | put s=>simp [aI,Pt.asks,ih]
theorem fP (c:List Pt) (t:List Nat):aI (ak c) t=aI c t:=by rw [eg,eg,dg]
noncomputable def pick (t:List Nat):Tq→List Nat
 | .at i=>(t[i]?).toList
 | .sg c=>[c]
theorem BY (c:List Pt):∀ (t:List Nat) (k:Nat),aC c (t.drop k)=(told k c).flatMap (pick t):=by
 induction c with
 | nil=>intro t k;rfl
 | cons p c ih=>
  intro t k
  rw [told,List.flatMap_append,←ih]
  cases p with
  | put s=>
   simp only [aC,Pt.told,Pt.asks,List.length_nil,Nat.add_zero]
   congr 1
   induction s with
   | nil=>rfl
   | cons c s ih=>simp [pick] at ih ⊢;exact ih
  | drop s=>simp [aC,Pt.told,Pt.asks,Nat.add_comm]
  | keep n=>
   simp only [aC,Pt.told,Pt.asks,List.length_replicate,List.drop_drop]
   congr 1
   induction n generalizing k with
   | zero=>simp
   | succ n ihn=>
    rw [List.range_succ,List.map_append,List.flatMap_append,←ihn]
    rw [List.take_add_one]
    simp [pick]
theorem bX (c:List Pt) (t:List Nat):aC (ak c) t=aC c t:=by
 have h1:=BY (ak c) t 0
 have h2:=BY c t 0
 rw [bO,←h2] at h1
 simpa using h1
theorem vf (c:List Pt):∀ t,aI c t=true→aI (sw c) (aC c t)=true∧aC (sw c) (aC c t)=t:=by
 induction c with
 | nil=>intro t h;simp [aI] at h;subst h;simp [sw,aI,aC]
 | cons p c ih=>
  intro t h
  cases p with
  | keep n=>
   simp only [aI,Bool.and_eq_true,decide_eq_true_eq] at h
   obtain ⟨h1,h2⟩:=ih _ h.2
   have hl:(t.take n).length=n:=by simp;omega
   simp only [sw,List.map_cons,Pt.sw,aC,aI] at h1 h2 ⊢
   have e1:(t.take n++aC c (t.drop n)).drop n=aC c (t.drop n):=by rw [List.drop_append_of_le_length (by omega),List.drop_eq_nil_of_le (by omega)];rfl
   have e2:(t.take n++aC c (t.drop n)).take n=t.take n:=by rw [List.take_append_of_le_length (by omega),List.take_take,Nat.min_self]
   rw [e1,e2,h1,h2]
   simp
   omega
  | drop s=>
   simp only [aI,Bool.and_eq_true] at h
   obtain ⟨h1,h2⟩:=ih _ h.2
   simp only [sw,List.map_cons,Pt.sw,aC,aI] at h1 h2 ⊢
   rw [h2]
   refine ⟨h1,?_⟩
   obtain ⟨r,rfl⟩:=List.isPrefixOf_iff_prefix.mp h.1
   simp
  | put s=>
   simp only [aI] at h
   obtain ⟨h1,h2⟩:=ih _ h
   simp only [sw,List.map_cons,Pt.sw,aC,aI] at h1 h2 ⊢
   simp [h1,h2]
end Pv
namespace Pv
open Ev (D bU bN TY BI ME T E Es Eo It S Ss Fn big deep b2i rep cz dP bL aU cut cS ek slots)
noncomputable def Eg:S:=.set 2 (.c (.int 0))
noncomputable def Eh (bJ:Nat):Ss:=(.cons (.iff (.an (.cmp .eq (.ix (.v 3) (.c (.int 0))) (.c (.str [100,114,111,112]))) (.cmp .ne (.sl (.v 1) (.yes (.v 2)) (.yes (.bin .add (.v 2) (.cl bJ (.cons (.v 3) .nil))))) (.ix (.v 3) (.c (.int 1))))) (.cons (.ret (.c (.bl false))) .nil) .nil) (.cons (.iff (.cmp .ne (.ix (.v 3) (.c (.int 0))) (.c (.str [112,117,116]))) (.cons (.set 2 (.bin .add (.v 2) (.cl bJ (.cons (.v 3) .nil)))) .nil) .nil) .nil))
noncomputable def Ei (bJ:Nat):S:=.for (.one 3) (.seq (.v 0)) (Eh bJ)
noncomputable def Ej:S:=.ret (.cmp .eq (.v 2) (.bi .len (.cons (.v 1) .nil)))
noncomputable def BZ (bJ:Nat):Fn:=⟨2,4,(.cons Eg (.cons (Ei bJ) (.cons Ej .nil)))⟩
noncomputable def Ek (vg:Nat):S:=.iff (.nt (.cl vg (.cons (.v 0) (.cons (.v 1) .nil)))) (.cons (.fj) .nil) .nil
noncomputable def El:S:=.set 2 (.lst .nil)
noncomputable def Em:S:=.set 3 (.c (.int 0))
noncomputable def En:Ss:=(.cons (.iff (.cmp .eq (.v 4) (.c (.str [112,117,116]))) (.cons (.exp (.me .append (.v 2) (.cons (.v 5) .nil))) .nil) (.cons (.iff (.cmp .eq (.v 4) (.c (.str [100,114,111,112]))) (.cons (.set 3 (.bin .add (.v 3) (.bi .len (.cons (.v 5) .nil)))) .nil) (.cons (.exp (.me .append (.v 2) (.cons (.sl (.v 1) (.yes (.v 3)) (.yes (.bin .add (.v 3) (.v 5)))) .nil))) (.cons (.set 3 (.bin .add (.v 3) (.v 5))) .nil))) .nil)) .nil)
noncomputable def Ep:S:=.for (.many [4,5]) (.seq (.v 0)) En
noncomputable def Er:S:=.ret (.me .join (.c (.str [])) (.cons (.v 2) .nil))
noncomputable def OO (vg:Nat):Fn:=⟨2,6,(.cons (Ek vg) (.cons El (.cons Em (.cons Ep (.cons Er .nil)))))⟩
noncomputable def wF (b8:Nat):S:=.ret (.cl b8 (.cons (.tup (.cons (.tup (.cons (.c (.str [107,101,101,112])) (.cons (.v 0) .nil))) .nil)) .nil))
noncomputable def j4 (b8:Nat):Fn:=⟨1,1,(.cons (wF b8) .nil)⟩
noncomputable def Et:S:=.set 2 (.c (.int 0))
noncomputable def Eu:S:=.set 3 (.c (.str []))
noncomputable def Ew:Ss:=(.cons (.iff (.cmp .eq (.v 4) (.c (.str [112,117,116]))) (.cons (.set 3 (.bin .add (.v 3) (.v 5))) .nil) (.cons (.iff (.cmp .eq (.v 4) (.c (.str [100,114,111,112]))) (.cons (.iff (.cmp .ne (.sl (.v 1) (.yes (.v 2)) (.yes (.bin .add (.v 2) (.bi .len (.cons (.v 5) .nil))))) (.v 5)) (.cons (.ret (.c (.bf))) .nil) .nil) (.cons (.set 2 (.bin .add (.v 2) (.bi .len (.cons (.v 5) .nil)))) .nil)) (.cons (.set 3 (.bin .add (.v 3) (.sl (.v 1) (.yes (.v 2)) (.yes (.bin .add (.v 2) (.v 5)))))) (.cons (.set 2 (.bin .add (.v 2) (.v 5))) .nil))) .nil)) .nil)
noncomputable def Ex:S:=.for (.many [4,5]) (.seq (.v 0)) Ew
noncomputable def Ey:S:=.ret (.jW (.cmp .eq (.v 2) (.bi .len (.cons (.v 1) .nil))) (.v 3) (.c (.bf)))
noncomputable def OP:Fn:=⟨2,6,(.cons Et (.cons Eu (.cons Ex (.cons Ey .nil))))⟩
theorem ng {α:Type}(l:List α) (p k:Nat):cut l (some (p:Int)) (some ((p:Int)+k))=(l.drop p).take k:=by
 have h1:¬ (p:Int)<0:=by omega
 have h2:¬ (p:Int)+k<0:=by omega
 have h3:((p:Int)+k).toNat=p+k:=by omega
 simp only [cut,aU,h1,h2,if_false,h3,Int.toNat_natCast]
 by_cases hp:p≤l.length
 ·rw [Nat.min_eq_left hp]
  by_cases hk:p+k≤l.length
  ·rw [Nat.min_eq_left hk];congr 1;omega
  ·rw [Nat.min_eq_right (by omega),List.take_of_length_le (by simp),List.take_of_length_le (by simp;omega)]
 ·have e1:min p l.length=l.length:=by omega
  rw [e1,List.drop_eq_nil_of_le (Nat.le_refl _),List.drop_eq_nil_of_le (by omega)]
  simp
theorem pre_take {s t:List Nat}:s.isPrefixOf t=decide (t.take s.length=s):=by
 cases h:s.isPrefixOf t with
 | true=>
  obtain ⟨r,rfl⟩:=List.isPrefixOf_iff_prefix.mp h
  simp
 | false=>
  symm
  rw [decide_eq_false_iff_not]
  intro e
  have:s.isPrefixOf t=true:=List.isPrefixOf_iff_prefix.mpr (by have z:=List.take_prefix s.length t;rw [e] at z;exact z)
  rw [h] at this;cases this
theorem kK (a b:List Pt):aR (a++b)=aR a+aR b:=by simp [aR,tot]
theorem gw {c:List Pt}:∀ {t:List Nat},aI c t=true→t.length=aR c:=by
 induction c with
 | nil=>intro t h;simp [aI] at h;subst h;rfl
 | cons p c ih=>
  intro t h
  cases p with
  | keep n=>simp only [aI,Bool.and_eq_true,decide_eq_true_eq] at h;have:=ih h.2;rw [iP];simp at this;omega
  | drop s=>
   simp only [aI,Bool.and_eq_true] at h
   have h2:=ih h.2
   obtain ⟨r,rfl⟩:=List.isPrefixOf_iff_prefix.mp h.1
   rw [jn];simp at h2 ⊢;omega
  | put s=>rw [iQ];exact ih h
theorem vh (c:List Pt):∀ t,(aC c t).length≤t.length+tot c:=by
 induction c with
 | nil=>intro t;simp [aC]
 | cons p c ih=>
  intro t
  rw [aZ]
  cases p with
  | keep n=>have:=ih (t.drop n);simp [aC,Pt.n] at this ⊢;omega
  | drop s=>have:=ih (t.drop s.length);simp [aC,Pt.n] at this ⊢;omega
  | put s=>have:=ih t;simp [aC,Pt.n] at this ⊢;omega
section
variable {F:List Fn}{w n aJ qp bT aY i:Nat}
theorem Ez (c:List Pt) (t:List Nat) (q:Nat) (p:Pt) (l:List Pt) (h:aI c t=(decide (q≤t.length)&&aI (p :: l) (t.drop q))) :
  (dQ p=true→(∃ s,p=.drop s∧(if (t.drop q).take s.length=s then aI c t=(decide (q+s.length≤t.length)&&aI l (t.drop (q+s.length))) else aI c t=false)))∧
  (dQ p=false→aI c t=(decide (q+aR [p]≤t.length)&&aI l (t.drop (q+aR [p])))):=by
 cases p with
 | drop s=>
  refine ⟨fun _=>⟨s,rfl,?_⟩,fun z=>by simp [dQ] at z⟩
  simp only [aI,pre_take,List.drop_drop] at h
  split
  ·rename_i hs
   rw [h]
   simp only [hs,decide_true,Bool.true_and]
   have hl:=congrArg List.length hs
   simp at hl
   by_cases hq:q≤t.length
   ·by_cases hq2:q+s.length≤t.length
    ·simp [hq,hq2]
    ·omega
   ·have:¬ q+s.length≤t.length:=by omega
    simp [hq,this]
  ·rename_i hs
   rw [h];simp [hs]
 | keep k=>
  refine ⟨fun z=>by simp [dQ] at z,fun _=>?_⟩
  have e:aR [.keep k]=k:=by rw [iP];rfl
  rw [h,e]
  simp only [aI,List.drop_drop,List.length_drop]
  by_cases hq:q≤t.length
  ·by_cases hq2:q+k≤t.length
   ·have:k≤t.length - q:=by omega
    simp [hq,hq2,this]
   ·have:¬ k≤t.length - q:=by omega
    simp [hq2,this]
  ·have:¬ q+k≤t.length:=by omega
   simp [hq,this]
 | put s=>
  refine ⟨fun z=>by simp [dQ] at z,fun _=>?_⟩
  have e:aR [.put s]=0:=by rw [iQ];rfl
  rw [h,e]
  simp [aI]
theorem EA (hs:F[aJ]?=some fT) (hf:F[i]?=some (BZ aJ)) (c:List Pt) (t:List Nat) (h1:tot c≤10000) (h2:t.length≤10000):run F w (n+2) i [.val (aD c),.val (.str t)]=some (.bl (aI c t),[]):=by
 refine cD hf rfl ?_
 refine ah (aW (by repeat array_get_dec) rfl rfl ?_)
 refine ah (gv (vs:=c.map Pt.v) (ee (dU rfl) rfl) ?_)
 refine eG (e:=Pt.v) (fun p l fr=>p++l=c∧aI c t=(decide (aR p≤t.length)&&aI l (t.drop (aR p)))∧∃ a,vo a∧fr=[some (.val (aD c)),some (.val (.str t)),some (.val (.int (aR p))),a]) (fun p x l fr ⟨hpl,hfit,a,ha,hfr⟩=>?_) (fun p fr ⟨hpl,hfit,a,ha,hfr⟩=>?_) c [] _ ⟨rfl,by simp [aR,tot],none,.none,rfl⟩
 ·subst hfr
  have u0:tot p+x.n+tot l=tot c:=by rw [←hpl,dX,aZ];omega
  have sz:=fun fr=>cE (fr:=fr) (gq (w:=w) (n:=n) hs x (by omega))
  obtain ⟨k1,k2⟩:=Ez c t (aR p) x l hfit
  have fO:(p++[x])++l=c:=by simpa using hpl
  have eb:aR (p++[x])=aR p+aR [x]:=kK p [x]
  have ei:((aR (p++[x]):Nat):Int)=(aR p:Int)+(aR [x]:Nat):=by rw [eb];simp
  cases x with
  | drop s=>
   obtain ⟨s',e,k1⟩:=k1 rfl
   cases e
   have e2:aR [.drop s]=s.length:=by rw [jn];rfl
   rw [e2] at eb ei
   have cu:gc (.str t) (some (aR p:Int)) (some ((aR p:Int)+((Pt.drop s).n:Nat)))=some (.str ((t.drop (aR p)).take s.length)):=by rw [gW];exact congrArg (fun z=>some (V.str z)) (ng t (aR p) s.length)
   by_cases hx:(t.drop (aR p)).take s.length=s
   ·rw [if_pos hx] at k1
    have ne:cop .ne (.str ((t.drop (aR p)).take s.length)) (.str s)=some false:=by rw [iu,decide_eq_true hx];rfl
    refine cO (bind1 rfl ha) (ah (aL (b:=false) (gH (b2:=false) (aH rfl (by repeat array_get_dec) rfl) (aH rfl (by (repeat (first | array_get_dec | exact sz _))) rfl)) (fun h=>absurd h (by decide)) fun _=>ay ?_))
    refine ah (aL (by repeat array_get_dec) (fun _=>?_) fun h=>absurd h (by decide))
    refine ah (aW (by (repeat (first | array_get_dec | exact sz _))) rfl rfl (ay (ay ?_)))
    rw [cY]
    exact ⟨fO,by rw [eb];exact k1,some (.val (Pt.drop s).v),.val,by rw [ei];rfl⟩
   ·rw [if_neg hx] at k1
    have ne:cop .ne (.str ((t.drop (aR p)).take s.length)) (.str s)=some true:=by rw [iu,decide_eq_false hx];rfl
    refine cO (bind1 rfl ha) (ah (aL (b:=true) (gH (b2:=true) (aH rfl (by repeat array_get_dec) rfl) (aH rfl (by (repeat (first | array_get_dec | exact sz _))) rfl)) (fun _=>?_) fun h=>absurd h (by decide)))
    refine ah (bK (by repeat array_get_dec) ?_)
    show nx _ _ _ _ _ _
    rw [k1];exact ⟨rfl,rfl⟩
  | keep k=>
   have k2:=k2 rfl
   have e2:aR [.keep k]=k:=by rw [iP];rfl
   rw [e2] at k2 eb ei
   refine cO (bind1 rfl ha) (ah (aL (b:=false) (qh (aH rfl (by repeat array_get_dec) rfl)) (fun h=>absurd h (by decide)) fun _=>ay ?_))
   refine ah (aL (by repeat array_get_dec) (fun _=>?_) fun h=>absurd h (by decide))
   refine ah (aW (by (repeat (first | array_get_dec | exact sz _))) rfl rfl (ay (ay ?_)))
   rw [cY]
   exact ⟨fO,by rw [eb];exact k2,some (.val (Pt.keep k).v),.val,by rw [ei];rfl⟩
  | put s=>
   have k2:=k2 rfl
   have e2:aR [.put s]=0:=by rw [iQ];rfl
   rw [e2] at k2 eb
   refine cO (bind1 rfl ha) (ah (aL (b:=false) (qh (aH rfl (by repeat array_get_dec) rfl)) (fun h=>absurd h (by decide)) fun _=>ay ?_))
   refine ah (aL (by repeat array_get_dec) (fun h=>absurd h (by decide)) fun _=>ay (ay ?_))
   rw [cY]
   exact ⟨fO,by rw [eb];exact k2,some (.val (Pt.put s).v),.val,by rw [eb];rfl⟩
 ·subst hfr
  simp at hpl
  subst hpl
  have e:decide ((aR p:Int)=(t.length:Nat))=aI p t:=by
   rw [hfit]
   simp only [aI]
   by_cases hq:aR p=t.length
   ·have:(aR p:Int)=t.length:=by omega
    simp [this,hq]
   ·have:¬ (aR p:Int)=t.length:=by omega
    simp [this]
    intro h
    omega
  have ln:cX .len [.str t]=some (.int (t.length:Nat)):=len_str (by omega)
  have eq:cop .eq (.int (aR p)) (.int (t.length:Nat))=some (aI p t):=by rw [DQ,e]
  have sh:eT [some (.val (aD p)),some (.val (.str t)),some (.val (.int (aR p))),a]=[some (.val (aD p)),some (.val (.str t)),some (.val (.int (aR p))),a]:=by
   show _ :: _ :: _ :: [a.map Sl.dm]=_
   rw [b6 ha];rfl
  refine ah (bK (v:=.bl (aI p t)) (af:=[some (.val (aD p)),some (.val (.str t)),some (.val (.int (aR p))),a]) ?_ ⟨rfl,rfl⟩)
  rw [sh]
  repeat array_get_dec
theorem vj (hs:F[aJ]?=some fT) (hf:F[qp]?=some (BZ aJ)) (hd:F[i]?=some (OO qp)) (c:List Pt) (t:List Nat) (h1:tot c≤10000) (h2:t.length≤10000) (h3:c.length≤10000) (h:aI c t=true):run F w (n+3) i [.val (aD c),.val (.str t)]=some (.str (aC c t),[]):=by
 refine cD hd rfl ?_
 have ft:=fun fr=>call2 (fr:=fr) (EA (w:=w) (n:=n) hs hf c t h1 h2)
 rw [h] at ft
 refine ah (aL (b:=false) (tF (aH (b:=true) rfl (by (repeat (first | array_get_dec | exact ft _))) rfl)) (fun h=>absurd h (by decide)) fun _=>ay ?_)
 refine ah (fS (l:=[]) (by repeat array_get_dec) rfl rfl ?_)
 refine ah (aW (by repeat array_get_dec) rfl rfl ?_)
 refine ah (gv (vs:=c.map Pt.v) (ee (dU rfl) rfl) ?_)
 refine eG (e:=Pt.v) (fun p l fr=>p++l=c∧∃ ps a b,vo a∧vo b∧ps.length≤p.length∧ps.flatten++aC l (t.drop (aR p))=aC c t∧fr=[some (.val (aD c)),some (.val (.str t)),some (.own (ps.map V.str)),some (.val (.int (aR p))),a,b]) (fun p x l fr ⟨hpl,ps,a,b,ha,hb,hl,hd,hfr⟩=>?_) (fun p fr ⟨hpl,ps,a,b,ha,hb,hl,hd,hfr⟩=>?_) c [] _ ⟨rfl,[],none,none,.none,.none,by simp,by simp [aR,tot],rfl⟩
 ·subst hfr
  have fO:(p++[x])++l=c:=by simpa using hpl
  have eb:aR (p++[x])=aR p+aR [x]:=kK p [x]
  have ei:((aR (p++[x]):Nat):Int)=(aR p:Int)+(aR [x]:Nat):=by rw [eb];simp
  have u0:tot p+x.n+tot l=tot c:=by rw [←hpl,dX,aZ];omega
  have hlen:p.length+l.length+1=c.length:=by rw [←hpl];simp;omega
  have ap:∀ (fr:Fr) (z:List Nat),gF .append 2 [.str z] fr (some (some (.own (ps.map V.str))))=.ok .bf (fr.set 2 (some (.own ((ps++[z]).map V.str)))):=fun fr z=>by
   rw [List.map_append];exact iH (by simp;omega)
  cases x with
  | put s=>
   have e2:aR [.put s]=0:=by rw [iQ];rfl
   rw [e2] at eb
   refine cO (gO rfl ha rfl hb) (ah (aL (by repeat array_get_dec) (fun _=>?_) fun h=>absurd h (by decide)))
   refine ah (dR (by (repeat (first | array_get_dec | exact ap _ _))) (ay (ay ?_)))
   rw [cY]
   exact ⟨fO,ps++[s],some (.val (.str lM)),some (.val (.str s)),.val,.val,by simp;omega,by rw [eb];simpa [aC] using hd,by rw [eb];rfl⟩
  | drop s=>
   have e2:aR [.drop s]=s.length:=by rw [jn];rfl
   rw [e2] at eb ei
   have hsn:s.length≤tot c:=by simp only [Pt.n] at u0;omega
   have ln:cX .len [.str s]=some (.int (s.length:Nat)):=len_str (by omega)
   refine cO (gO rfl ha rfl hb) (ah (aL (by repeat array_get_dec) (fun h=>absurd h (by decide)) fun _=>?_))
   refine ah (aL (by repeat array_get_dec) (fun _=>?_) fun h=>absurd h (by decide))
   refine ah (aW (by repeat array_get_dec) rfl rfl (ay (ay (ay ?_))))
   rw [cY]
   exact ⟨fO,ps,some (.val (.str ji)),some (.val (.str s)),.val,.val,by simp;omega,by rw [eb];simpa [aC] using hd,by rw [ei];rfl⟩
  | keep k=>
   have e2:aR [.keep k]=k:=by rw [iP];rfl
   rw [e2] at eb ei
   have cu:gc (.str t) (some (aR p:Int)) (some ((aR p:Int)+(k:Nat)))=some (.str ((t.drop (aR p)).take k)):=by rw [gW,ng]
   refine cO (gO rfl ha rfl hb) (ah (aL (by repeat array_get_dec) (fun h=>absurd h (by decide)) fun _=>?_))
   refine ah (aL (by repeat array_get_dec) (fun h=>absurd h (by decide)) fun _=>?_)
   refine ah (dR (by (repeat (first | array_get_dec | exact ap _ _))) ?_)
   refine ah (aW (by repeat array_get_dec) rfl rfl (ay (ay (ay ?_))))
   rw [cY]
   exact ⟨fO,ps++[(t.drop (aR p)).take k],some (.val (.str dS)),some (.val (.int k)),.val,.val,by simp;omega,by rw [eb];simpa [aC] using hd,by rw [ei];rfl⟩
 ·subst hfr
  simp at hpl
  subst hpl
  have hd':ps.flatten=aC p t:=by simpa [aC] using hd
  have dl:=vh p t
  have hj:=GH (l:=ps) (by rw [hd'];omega)
  rw [hd'] at hj
  have sh:eT [some (.val (aD p)),some (.val (.str t)),some (.own (ps.map V.str)),some (.val (.int (aR p))),a,b]=[some (.val (aD p)),some (.val (.str t)),some (.val (.lst (ps.map V.str))),some (.val (.int (aR p))),a,b]:=by
   show _ :: _ :: _ :: _ :: a.map Sl.dm :: [b.map Sl.dm]=_
   rw [b6 ha,b6 hb];rfl
  refine ah (bK (v:=.str (aC p t)) (af:=[some (.val (aD p)),some (.val (.str t)),some (.val (.lst (ps.map V.str))),some (.val (.int (aR p))),a,b]) ?_ ⟨rfl,rfl⟩)
  rw [sh]
  repeat array_get_dec
theorem wG (hst:F[aY]?=some fH) (hf:F[bT]?=some (jO aY)) (hu:F[i]?=some (j4 bT)) (m:Nat) (h:m≤10000):run F w (n+3) i [.val (.int m)]=some (aD (ak [.keep m]),[]):=
 cD hu rfl (ah (bK (bh (aS rfl (ir (aN (ir (aN (bC rfl) (aN (az rfl) aO)) j0) aO) tw) aP) (cE (eZ hst hf [.keep m] (Nat.succ_le_of_lt (Nat.zero_lt_succ _)) h))) ⟨rfl,rfl⟩))
end
end Pv
namespace Pv
open Ev (rep)
theorem Ca (ns:List Int) (at_:Int) (s:List Nat) (k:Nat):tot (jj ns at_ s k)≤3:=by
 have h1:=jK ns (at_+4*k+2) (many:=2) (by decide)
 have h2:=jJ ns (at_+4*k+2) (many:=2) (by decide)
 unfold jj
 rw [dX]
 have a:tot (if cP ns (at_+4*k) 4=0 then [Pt.put (rep (1+cP ns (at_+4*k+2) 2).toNat [[97,98,122].getD (cP ns (at_+4*k+1) 3).toNat 0])] else [])≤2:=by
  split
  ·simp [tot,Pt.n,rep];omega
  ·simp [tot]
 cases s[k]? with
 | none=>simp [tot] at a ⊢;omega
 | some c=>
  have b:tot [if 0<cP ns (at_+4*k+3) 3 then Pt.keep 1 else Pt.drop [c]]≤1:=by split <;> simp [tot,Pt.n]
  simp only at b ⊢
  omega
theorem nh (ns:List Int) (at_:Int) (s:List Nat):∀ k,tot (fN ns at_ s k)≤3*k
 | 0=>by simp [fN,tot]
 | k+1=>by
  have h1:=Ca ns at_ s k
  have h2:=nh ns at_ s k
  rw [jk,dX]
  omega
theorem pD:∀ {a:List (List Nat)}{t:List Nat},aF a t=true→a.length=t.length
 | [],[],_=>rfl
 | x :: a,c :: t,h=>by simp [aF] at h;simp [pD h.2]
 | [],_ :: _,h=>by simp [aF] at h
 | _ :: _,[],h=>by simp [aF] at h
theorem vm:∀ {a b:List (List Nat)}{t u:List Nat},aF a t=true→aF b u=true→aF (a++b) (t++u)=true
 | [],_,[],_,_,hb=>hb
 | x :: a,b,c :: t,u,ha,hb=>by
  simp only [aF,Bool.and_eq_true] at ha
  simp only [List.cons_append,aF,Bool.and_eq_true]
  exact ⟨ha.1,vm ha.2 hb⟩
 | [],_,_ :: _,_,ha,_=>by simp [aF] at ha
 | _ :: _,_,[],_,ha,_=>by simp [aF] at ha
theorem KP (ns:List Int) (at_:Int) (s:List Nat) (k:Nat):aF (asks (jj ns at_ s k)) (s[k]?).toList=true:=by
 unfold jj
 rw [e8]
 have a:asks (if cP ns (at_+4*k) 4=0 then [Pt.put (rep (1+cP ns (at_+4*k+2) 2).toNat [[97,98,122].getD (cP ns (at_+4*k+1) 3).toNat 0])] else [])=[]:=by
  split <;> simp [asks,Pt.asks]
 rw [a]
 cases s[k]? with
 | none=>simp [asks,aF]
 | some c=>simp only;split <;> simp [asks,Pt.asks,aF]
theorem Cb (ns:List Int) (at_:Int) (s:List Nat):∀ k,aF (asks (fN ns at_ s k)) (s.take k)=true
 | 0=>by simp [fN,asks,aF]
 | k+1=>by
  rw [jk,e8,List.take_add_one]
  exact vm (Cb ns at_ s k) (KP ns at_ s k)
theorem KQ (ns:List Int) (at_:Int) (s:List Nat):aI (chg ns at_ s) s=true:=by
 have:=Cb ns at_ s (s.length+1)
 rw [List.take_of_length_le (by omega)] at this
 rw [eg];exact this
end Pv
namespace Pv
inductive At where
 | k | d (c:Nat) | p (c:Nat)
noncomputable def Pt.aB:Pt→List At
 | .keep n=>List.replicate n .k
 | .drop s=>s.map .d
 | .put s=>s.map .p
noncomputable def aB (c:List Pt):List At:=c.flatMap Pt.aB
theorem fV (a b:List Pt):aB (a++b)=aB a++aB b:=by simp [aB]
theorem bH (p:Pt) (c:List Pt):aB (p :: c)=p.aB++aB c:=by simp [aB]
theorem vn (p:Pt):p.aB.length=p.n:=by cases p <;> simp [Pt.aB,Pt.n]
theorem fW (c:List Pt):(aB c).length=tot c:=by
 induction c with
 | nil=>rfl
 | cons p c ih=>rw [bH,List.length_append,vn,ih,aZ]
noncomputable def tA:Nat→List At→List Tq
 | _,[]=>[]
 | i,.k :: a=>.at i :: tA (i+1) a
 | i,.d _ :: a=>tA (i+1) a
 | i,.p c :: a=>.sg c :: tA i a
noncomputable def aA:List At→List (List Nat)
 | []=>[]
 | .k :: a=>[] :: aA a
 | .d c :: a=>[c] :: aA a
 | .p _ :: a=>aA a
noncomputable def dA:List At→List Nat→List Nat
 | [],_=>[]
 | .k :: a,t=>t.take 1++dA a (t.drop 1)
 | .d _ :: a,t=>dA a (t.drop 1)
 | .p c :: a,t=>c :: dA a t
noncomputable def oR:At→At
 | .k=>.k
 | .d c=>.p c
 | .p c=>.d c
noncomputable def cA:List At→Nat
 | []=>0
 | .k :: a=>cA a
 | _ :: a=>cA a+1
theorem qq:∀ a b:List At,aA (a++b)=aA a++aA b
 | [],_=>rfl
 | .k :: a,b=>by simp [aA,qq a b]
 | .d c :: a,b=>by simp [aA,qq a b]
 | .p c :: a,b=>by simp [aA,qq a b]
theorem qt:∀ (a b:List At) (i:Nat),tA i (a++b)=tA i a++tA (i+(aA a).length) b
 | [],_,_=>rfl
 | .k :: a,b,i=>by simp [tA,aA,qt a b,Nat.add_assoc,Nat.add_comm 1]
 | .d c :: a,b,i=>by simp [tA,aA,qt a b,Nat.add_assoc,Nat.add_comm 1]
 | .p c :: a,b,i=>by simp [tA,aA,qt a b]
theorem qu:∀ a b:List At,cA (a++b)=cA a+cA b
 | [],b=>by simp [cA]
 | .k :: a,b=>by simp [cA,qu a b]
 | .d c :: a,b=>by simp [cA,qu a b];omega
 | .p c :: a,b=>by simp [cA,qu a b];omega
theorem GS (p:Pt):aA p.aB=p.asks:=by
 cases p with
 | keep n=>simp only [Pt.aB,Pt.asks];induction n <;> simp_all [List.replicate_succ,aA]
 | drop s=>simp only [Pt.aB,Pt.asks];induction s <;> simp_all [aA]
 | put s=>simp only [Pt.aB,Pt.asks];induction s <;> simp_all [aA]
theorem TL (p:Pt):∀ i,tA i p.aB=p.told i:=by
 cases p with
 | keep n=>
  simp only [Pt.aB,Pt.told]
  induction n with
  | zero=>intro i;rfl
  | succ n ih=>intro i;simp only [List.replicate_succ,tA,ih,List.range_succ_eq_map,List.map_cons,List.map_map];simp [Function.comp_def,Nat.add_assoc,Nat.add_comm 1]
 | drop s=>intro i;simp only [Pt.aB,Pt.told];induction s generalizing i <;> simp_all [tA]
 | put s=>intro i;simp only [Pt.aB,Pt.told];induction s generalizing i <;> simp_all [tA]
theorem TM (p:Pt):cA p.aB=cst [p]:=by
 cases p with
 | keep n=>simp only [Pt.aB];rw [zE];induction n <;> simp_all [List.replicate_succ,cA,cst,tot]
 | drop s=>simp only [Pt.aB];rw [zF];induction s <;> simp_all [cA,cst,tot]
 | put s=>simp only [Pt.aB];rw [zG];induction s <;> simp_all [cA,cst,tot]
theorem cU (c:List Pt):asks c=aA (aB c):=by
 induction c with
 | nil=>rfl
 | cons p c ih=>rw [bH,qq,GS,←ih];simp [asks]
theorem cG (c:List Pt):∀ i,told i c=tA i (aB c):=by
 induction c with
 | nil=>intro i;rfl
 | cons p c ih=>intro i;rw [bH,qt,TL,GS,←ih,told]
theorem kL (c:List Pt):cst c=cA (aB c):=by
 induction c with
 | nil=>rfl
 | cons p c ih=>
  rw [bH,qu,TM,←ih]
  simp [cst,tot]
  cases p <;> simp [List.filter_cons,cZ]
theorem vp (c:List Pt):aB (sw c)=(aB c).map oR:=by
 induction c with
 | nil=>rfl
 | cons p c ih=>
  have:aB (sw (p :: c))=p.sw.aB++aB (sw c):=by simp [aB,sw]
  rw [this,ih,bH,List.map_append]
  congr 1
  cases p <;> simp [Pt.sw,Pt.aB,oR,Function.comp_def]
theorem fc:∀ (c:List Pt) (t:List Nat),aC c t=dA (aB c) t:=by
 have k:∀ (n:Nat) (a:List At) (t:List Nat),dA (List.replicate n .k++a) t=t.take n++dA a (t.drop n):=fun n=>by
  induction n with
  | zero=>intro a t;simp
  | succ n ih=>
   intro a t
   simp only [List.replicate_succ,List.cons_append,dA,ih,List.drop_drop]
   cases t with
   | nil=>simp
   | cons c t=>simp [Nat.add_comm 1]
 have d:∀ (s:List Nat) (a:List At) (t:List Nat),dA (s.map .d++a) t=dA a (t.drop s.length):=fun s=>by
  induction s with
  | nil=>intro a t;simp
  | cons c s ih=>intro a t;simp [dA,ih,Nat.add_comm 1]
 have p:∀ (s:List Nat) (a:List At) (t:List Nat),dA (s.map .p++a) t=s++dA a t:=fun s=>by
  induction s with
  | nil=>intro a t;simp
  | cons c s ih=>intro a t;simp [dA,ih]
 intro c
 induction c with
 | nil=>intro t;rfl
 | cons q c ih=>
  intro t
  rw [bH]
  cases q with
  | keep n=>simp only [Pt.aB,k,aC,ih]
  | drop s=>simp only [Pt.aB,d,aC,ih]
  | put s=>simp only [Pt.aB,p,aC,ih]
noncomputable def Cc:List At→Bool
 | .d _ :: _=>false
 | _=>true
inductive Th:List At→List At→List At→Prop
 | nil:Th [] [] []
 | d {a b r c}:Th a b r→Th (.d c :: a) b (.d c :: r)
 | p {a b r c}:Cc a=true→Th a b r→Th a (.p c :: b) (.p c :: r)
 | kk {a b r}:Th a b r→Th (.k :: a) (.k :: b) (.k :: r)
 | kd {a b r c}:Th a b r→Th (.k :: a) (.d c :: b) (.d c :: r)
 | pk {a b r c}:Th a b r→Th (.p c :: a) (.k :: b) (.p c :: r)
 | pd {a b r c}:Th a b r→Th (.p c :: a) (.d c :: b) r
noncomputable def sub (L:List Tq):Tq→Tq
 | .at j=>L.getD j (.sg 0)
 | .sg c=>.sg c
theorem ni {L M:List Tq}{q:Tq}{j:Nat}(h:L.length=j):sub (L++q :: M) (.at j)=q:=by
 subst h;simp [sub]
theorem Th.told {a b r:List At}(h:Th a b r):∀ (i j:Nat) (L:List Tq),L.length=j→tA i r=(tA j b).map (sub (L++tA i a)):=by
 induction h with
 | nil=>intro i j L hL;rfl
 | d h ih=>intro i j L hL;exact ih (i+1) j L hL
 | p _ h ih=>intro i j L hL;simp only [tA,List.map_cons];rw [ih i j L hL];rfl
 | kk h ih=>
  intro i j L hL
  simp only [tA,List.map_cons]
  rw [ih (i+1) (j+1) (L++[.at i]) (by simp [hL]),ni hL];simp
 | kd h ih=>
  intro i j L hL
  simp only [tA]
  rw [ih (i+1) (j+1) (L++[.at i]) (by simp [hL])];simp
 | @pk _ _ _ c h ih=>
  intro i j L hL
  simp only [tA,List.map_cons]
  rw [ih i (j+1) (L++[.sg c]) (by simp [hL]),ni hL];simp
 | @pd _ _ _ c h ih=>
  intro i j L hL
  simp only [tA]
  rw [ih i (j+1) (L++[.sg c]) (by simp [hL])];simp
theorem Th.back {a b r:List At}(h:Th a b r):∀ (i j:Nat) (L:List Tq),L.length=j→tA i (r.map oR)=(tA j (a.map oR)).map (sub (L++tA i (b.map oR))):=by
 induction h with
 | nil=>intro i j L hL;rfl
 | d h ih=>intro i j L hL;simp only [List.map_cons,oR,tA];rw [ih i j L hL];rfl
 | p _ h ih=>intro i j L hL;exact ih (i+1) j L hL
 | kk h ih=>
  intro i j L hL
  simp only [List.map_cons,oR,tA]
  rw [ih (i+1) (j+1) (L++[.at i]) (by simp [hL]),ni hL];simp
 | @kd _ _ _ c h ih=>
  intro i j L hL
  simp only [List.map_cons,oR,tA]
  rw [ih i (j+1) (L++[.sg c]) (by simp [hL]),ni hL];simp
 | pk h ih=>
  intro i j L hL
  simp only [List.map_cons,oR,tA]
  rw [ih (i+1) (j+1) (L++[.at i]) (by simp [hL])];simp
 | @pd _ _ _ c h ih=>
  intro i j L hL
  simp only [List.map_cons,oR,tA]
  rw [ih i (j+1) (L++[.sg c]) (by simp [hL])];simp
theorem Th.fit {a b r:List At}(h:Th a b r):∀ t,aF (aA a) t=true→aF (aA b) (dA a t)=true→aF (aA r) t=true:=by
 induction h with
 | nil=>intro t h1 _;exact h1
 | d h ih=>
  intro t h1 h2
  cases t with
  | nil=>simp [aA,aF] at h1
  | cons x t=>simp only [aA,aF,Bool.and_eq_true] at h1 ⊢;exact ⟨h1.1,ih t h1.2 h2⟩
 | p _ h ih=>intro t h1 h2;exact ih t h1 h2
 | kk h ih=>
  intro t h1 h2
  cases t with
  | nil=>simp [aA,aF] at h1
  | cons x t=>simp only [aA,aF,Bool.and_eq_true,dA,List.take_succ_cons,List.take_zero,List.drop_succ_cons,List.drop_zero,List.singleton_append] at h1 h2 ⊢;exact ⟨h1.1,ih t h1.2 h2.2⟩
 | kd h ih=>
  intro t h1 h2
  cases t with
  | nil=>simp [aA,aF] at h1
  | cons x t=>simp only [aA,aF,Bool.and_eq_true,dA,List.take_succ_cons,List.take_zero,List.drop_succ_cons,List.drop_zero,List.singleton_append] at h1 h2 ⊢;exact ⟨h2.1,ih t h1.2 h2.2⟩
 | pk h ih=>intro t h1 h2;simp only [aA,dA,aF,Bool.and_eq_true] at h1 h2 ⊢;exact ih t h1 h2.2
 | pd h ih=>intro t h1 h2;simp only [aA,dA,aF,Bool.and_eq_true] at h1 h2 ⊢;exact ih t h1 h2.2
theorem Th.all:∀ (n:Nat) (a b:List At) (t:List Nat),a.length+b.length≤n→aF (aA a) t=true→aF (aA b) (dA a t)=true→∃ r,Th a b r:=by
 intro n
 induction n with
 | zero=>
  intro a b t hn _ _
  obtain rfl:a=[]:=List.length_eq_zero_iff.mp (by omega)
  obtain rfl:b=[]:=List.length_eq_zero_iff.mp (by omega)
  exact ⟨[],.nil⟩
 | succ n ih=>
  intro a b t hn h1 h2
  cases a with
  | nil=>
   cases b with
   | nil=>exact ⟨[],.nil⟩
   | cons y b=>
    cases y with
    | p c=>obtain ⟨r,h⟩:=ih [] b t (by simp at hn ⊢;omega) h1 h2;exact ⟨_,.p rfl h⟩
    | k=>simp [aA,dA,aF] at h2
    | d c=>simp [aA,dA,aF] at h2
  | cons x a=>
   by_cases hd:Cc (x :: a)=true
   ·cases b with
    | nil=>
     cases x with
     | d c=>cases hd
     | k=>cases t <;> simp [aA,dA,aF] at h1 h2
     | p c=>simp [aA,dA,aF] at h2
    | cons y b=>
     cases y with
     | p c=>obtain ⟨r,h⟩:=ih (x :: a) b t (by simp at hn ⊢;omega) h1 h2;exact ⟨_,.p hd h⟩
     | k=>
      cases x with
      | d c=>cases hd
      | k=>
       cases t with
       | nil=>simp [aA,aF] at h1
       | cons z t=>
        simp [aA,aF,dA] at h1 h2
        obtain ⟨r,h⟩:=ih a b t (by simp at hn ⊢;omega) h1 h2;exact ⟨_,.kk h⟩
      | p c=>
       simp [aA,aF,dA] at h1 h2
       obtain ⟨r,h⟩:=ih a b t (by simp at hn ⊢;omega) h1 h2;exact ⟨_,.pk h⟩
     | d c'=>
      cases x with
      | d c=>cases hd
      | k=>
       cases t with
       | nil=>simp [aA,aF] at h1
       | cons z t=>
        simp [aA,aF,dA] at h1 h2
        obtain ⟨r,h⟩:=ih a b t (by simp at hn ⊢;omega) h1 h2.2;exact ⟨_,.kd h⟩
      | p c=>
       simp [aA,aF,dA] at h1 h2
       obtain ⟨rfl,h2⟩:=h2
       obtain ⟨r,h⟩:=ih a b t (by simp at hn ⊢;omega) h1 h2;exact ⟨_,.pd h⟩
   ·cases x with
    | k=>exact absurd rfl hd
    | p c=>exact absurd rfl hd
    | d c=>
     cases t with
     | nil=>simp [aA,aF] at h1
     | cons z t=>
      simp [aA,aF] at h1
      obtain ⟨r,h⟩:=ih a b t (by simp at hn ⊢;omega) h1.2 h2;exact ⟨_,.d h⟩
theorem Th.done {a b r:List At}(h:Th a b r):∀ t,aF (aA a) t=true→dA r t=dA b (dA a t):=by
 induction h with
 | nil=>intro t _;rfl
 | d h ih=>
  intro t h1
  cases t with
  | nil=>simp [aA,aF] at h1
  | cons x t=>simp only [aA,aF,Bool.and_eq_true] at h1;simp only [dA];exact ih t h1.2
 | p _ h ih=>intro t h1;simp only [dA];rw [ih t h1]
 | kk h ih=>
  intro t h1
  cases t with
  | nil=>simp [aA,aF] at h1
  | cons x t=>simp only [aA,aF,Bool.and_eq_true] at h1;simp [dA,ih t h1.2]
 | kd h ih=>
  intro t h1
  cases t with
  | nil=>simp [aA,aF] at h1
  | cons x t=>simp only [aA,aF,Bool.and_eq_true] at h1;simp [dA,ih t h1.2]
 | pk h ih=>intro t h1;simp [dA,ih t h1]
 | pd h ih=>intro t h1;simp [dA,ih t h1]
theorem Th.cost {a b r:List At}(h:Th a b r):cA r≤cA a+cA b:=by induction h <;> simp [cA] <;> omega
theorem Th.len {a b r:List At}(h:Th a b r):r.length≤a.length+b.length:=by induction h <;> simp <;> omega
theorem Th.ds {b r:List At}:∀ {s:List Nat}{a:List At},Th (s.map .d++a) b r→∃ r',r=s.map .d++r'∧Th a b r'
 | [],a,h=>⟨r,rfl,h⟩
 | c :: s,a,h=>by
  cases h with
  | d h=>obtain ⟨r',rfl,h'⟩:=Th.ds h;exact ⟨r',rfl,h'⟩
  | p hn h=>cases hn
theorem Th.ps {a r:List At}(hn:Cc a=true):∀ {s:List Nat}{b:List At},Th a (s.map .p++b) r→∃ r',r=s.map .p++r'∧Th a b r'
 | [],b,h=>⟨r,rfl,h⟩
 | c :: s,b,h=>by
  cases h with
  | d h=>cases hn
  | p _ h=>obtain ⟨r',rfl,h'⟩:=Th.ps hn h;exact ⟨r',rfl,h'⟩
theorem Th.GU {a b r:List At}:∀ {n:Nat},Th (List.replicate n .k++a) (List.replicate n .k++b) r→∃ r',r=List.replicate n .k++r'∧Th a b r':=fun {n}=>by
 induction n generalizing r with
 | zero=>intro h;exact ⟨r,rfl,h⟩
 | succ n ih=>intro h;cases h with | kk h=>obtain ⟨r',rfl,h'⟩:=ih h;exact ⟨r',rfl,h'⟩
theorem Th.GV {a b r:List At}:∀ {s:List Nat},Th (List.replicate s.length .k++a) (s.map .d++b) r→∃ r',r=s.map .d++r'∧Th a b r':=fun {s}=>by
 induction s generalizing r with
 | nil=>intro h;exact ⟨r,rfl,h⟩
 | cons c s ih=>intro h;cases h with | kd h=>obtain ⟨r',rfl,h'⟩:=ih h;exact ⟨r',rfl,h'⟩
theorem Th.pks {a b r:List At}:∀ {s:List Nat},Th (s.map .p++a) (List.replicate s.length .k++b) r→∃ r',r=s.map .p++r'∧Th a b r':=fun {s}=>by
 induction s generalizing r with
 | nil=>intro h;exact ⟨r,rfl,h⟩
 | cons c s ih=>intro h;cases h with | pk h=>obtain ⟨r',rfl,h'⟩:=ih h;exact ⟨r',rfl,h'⟩
theorem Th.VC {a b r:List At}:∀ {s s':List Nat},s.length=s'.length→Th (s.map .p++a) (s'.map .d++b) r→s=s'∧Th a b r
 | [],[],_,h=>⟨rfl,h⟩
 | [],_ :: _,hl,_=>by simp at hl
 | _ :: _,[],hl,_=>by simp at hl
 | c :: s,c' :: s',hl,h=>by cases h with | pd h=>obtain ⟨rfl,h'⟩:=Th.VC (by simpa using hl) h;exact ⟨rfl,h'⟩
theorem gX:∀ (a:List At) (i q:Nat),Tq.at q∈tA i a↔∃ j,q=i+j∧(aA a)[j]?=some []
 | [],i,q=>by simp [tA,aA]
 | .k :: a,i,q=>by
  simp only [tA,List.mem_cons,gX a,aA]
  constructor
  ·rintro (h | ⟨j,rfl,h⟩)
   ·cases h;exact ⟨0,rfl,by simp⟩
   ·exact ⟨j+1,by omega,by simpa using h⟩
  ·rintro ⟨j,rfl,h⟩
   cases j with
   | zero=>exact .inl rfl
   | succ j=>exact .inr ⟨j,by omega,by simpa using h⟩
 | .d c :: a,i,q=>by
  simp only [tA,gX a,aA]
  constructor
  ·rintro ⟨j,rfl,h⟩;exact ⟨j+1,by omega,by simpa using h⟩
  ·rintro ⟨j,rfl,h⟩
   cases j with
   | zero=>simp at h
   | succ j=>exact ⟨j,by omega,by simpa using h⟩
 | .p c :: a,i,q=>by simp [tA,gX a,aA]
theorem qY:∀ {a:List (List Nat)}{t:List Nat},aF a t=true→∀ (j:Nat) x,a[j]?=some x→x=[]∨∃ c,t[j]?=some c∧x=[c]
 | y :: a,c :: t,h,j,x,e=>by
  simp only [aF,Bool.and_eq_true,Bool.or_eq_true,decide_eq_true_eq] at h
  cases j with
  | zero=>simp at e;subst e;exact h.1.imp id fun z=>⟨c,by simp,z⟩
  | succ j=>simpa using qY h.2 j x (by simpa using e)
 | [],[],_,j,x,e=>by simp at e
 | [],_ :: _,h,_,_,_=>by simp [aF] at h
 | _ :: _,[],h,_,_,_=>by simp [aF] at h
theorem Cd {a:List At}{A:List (List Nat)}{t:List Nat}(ha:aF (aA a) t=true) (hb:aF A t=true) (h:∀ q:Nat,Tq.at q∈tA 0 a↔A[q]?=some []):aA a=A:=by
 have la:=pD ha
 have lb:=pD hb
 apply List.ext_getElem?
 intro j
 by_cases hj:j<t.length
 ·obtain ⟨x,hx⟩:∃ x,(aA a)[j]?=some x:=⟨_,List.getElem?_eq_getElem (by omega)⟩
  obtain ⟨y,hy⟩:∃ y,A[j]?=some y:=⟨_,List.getElem?_eq_getElem (by omega)⟩
  have k1:=gX a 0 j
  rw [h j,hy] at k1
  have hxy:x=[]↔y=[]:=by
   constructor
   ·rintro rfl
    have:=k1.mpr ⟨j,by omega,hx⟩
    cases this;rfl
   ·rintro rfl
    obtain ⟨i,hi,e⟩:=k1.mp rfl
    obtain rfl:i=j:=by omega
    rw [e] at hx;cases hx;rfl
  rw [hx,hy]
  rcases qY ha j x hx with VD | ⟨c,hc,hx1⟩
  ·rw [VD,hxy.mp VD]
  ·rcases qY hb j y hy with VE | ⟨c',hc',hy1⟩
   ·rw [VE,hxy.mpr VE]
   ·rw [hc] at hc';cases hc';rw [hx1,hy1]
 ·rw [List.getElem?_eq_none (by omega),List.getElem?_eq_none (by omega)]
theorem Ce {a b:List At}{t:List Nat}(ha:aF (aA a) t=true) (hb:aF (aA b) t=true) (h:tA 0 a=tA 0 b):aA a=aA b:=
 Cd ha hb fun q=>by
  rw [h,gX b 0 q]
  constructor
  ·rintro ⟨j,hj,e⟩;obtain rfl:q=j:=by omega
   exact e
  ·intro e;exact ⟨q,by omega,e⟩
theorem Cf {a b:List Pt}{t:List Nat}(ha:aI a t=true) (hb:aI b t=true) (h:told 0 a=told 0 b):ak a=ak b:=by
 rw [lQ]
 rw [eg] at ha hb
 have h':=h
 rw [cU] at ha hb
 rw [cG,cG] at h'
 have:=Ce ha hb h'
 simp only [jm,h,cU,this]
theorem sub_sub (L M:List Tq) (q:Tq):sub M (sub L q)=sub (L.map (sub M)) q:=by
 cases q with
 | sg c=>rfl
 | «at» j=>
  simp only [sub,List.getD_eq_getElem?_getD,List.getElem?_map]
  cases L[j]? <;> rfl
theorem pF (L M T:List Tq):(T.map (sub L)).map (sub M)=T.map (sub (L.map (sub M))):=by
 rw [List.map_map];exact List.map_congr_left fun q _=>sub_sub L M q
theorem EB {a:List At}{M:List Tq}(h:∀ j:Nat,(aA a)[j]?=some []→M[j]?=some (Tq.at j)):(tA 0 a).map (sub M)=tA 0 a:=by
 refine (List.map_congr_left fun q hq=>?_).trans (List.map_id _)
 cases q with
 | sg c=>rfl
 | «at» j=>
  obtain ⟨i,hi,e⟩:=(gX a 0 j).mp hq
  obtain rfl:i=j:=by omega
  simp [sub,h i e]
theorem KR (L:List Tq):((List.range L.length).map Tq.at).map (sub L)=L:=by
 apply List.ext_getElem?
 intro i
 by_cases h:i<L.length
 ·simp [sub,h]
 ·rw [List.getElem?_eq_none (by simp;omega),List.getElem?_eq_none (by omega)]
theorem lR {c:List Pt}{t:List Nat}(h:aI c t=true):(aC c t).length=gp c:=by
 rw [gw (vf c t h).1,ON]
end Pv
namespace Pv
open Ev (D bU bN TY BI ME T E Es Eo It S Ss Fn big deep b2i rep cz dP bL aU cut cS ek slots)
noncomputable def EC (qZ:Nat) (gu:Nat):S:=.iff (.cmp .ne (.cl qZ (.cons (.v 0) .nil)) (.cl gu (.cons (.v 1) .nil))) (.cons (.fj) .nil) .nil
noncomputable def ED (b8:Nat):S:=.set 2 (.gQ (.rev (.cl b8 (.cons (.v 0) .nil))))
noncomputable def EE (b8:Nat):S:=.set 3 (.gQ (.rev (.cl b8 (.cons (.v 1) .nil))))
noncomputable def EF:S:=.set 4 (.lst .nil)
noncomputable def vq (bJ:Nat) (qv:Nat) (dY:Nat):Ss:=(.cons (.iff (.an (.v 2) (.cmp .eq (.ix (.ix (.v 2) (.neg (.c (.int 1)))) (.c (.int 0))) (.c (.str [100,114,111,112])))) (.cons (.exp (.me .append (.v 4) (.cons (.me .pop (.v 2) .nil) .nil))) .nil) (.cons (.iff (.an (.v 3) (.cmp .eq (.ix (.ix (.v 3) (.neg (.c (.int 1)))) (.c (.int 0))) (.c (.str [112,117,116])))) (.cons (.exp (.me .append (.v 4) (.cons (.me .pop (.v 3) .nil) .nil))) .nil) (.cons (.set 5 (.bi .min (.cons (.cl bJ (.cons (.ix (.v 2) (.neg (.c (.int 1)))) .nil)) (.cons (.cl bJ (.cons (.ix (.v 3) (.neg (.c (.int 1)))) .nil)) .nil)))) (.cons (.exp (.me .extend (.v 4) (.cons (.cl qv (.cons (.cl dY (.cons (.v 2) (.cons (.v 5) .nil))) (.cons (.cl dY (.cons (.v 3) (.cons (.v 5) .nil))) .nil))) .nil))) .nil))) .nil)) .nil)
noncomputable def EG (bJ:Nat) (qv:Nat) (dY:Nat):S:=.mJ (.orr (.v 2) (.v 3)) (vq bJ qv dY)
noncomputable def EH (b8:Nat):S:=.ret (.cl b8 (.cons (.jb (.v 4)) .nil))
noncomputable def kM (qZ:Nat) (gu:Nat) (b8:Nat) (bJ:Nat) (qv:Nat) (dY:Nat):Fn:=⟨2,6,(.cons (EC qZ gu) (.cons (ED b8) (.cons (EE b8) (.cons EF (.cons (EG bJ qv dY) (.cons (EH b8) .nil))))))⟩
noncomputable def vt (fJ:Nat):S:=.set 2 (.cl fJ (.cons (.v 0) .nil))
noncomputable def vv (nj:Nat):Ss:=(.cons (.set 2 (.cl nj (.cons (.v 2) (.cons (.v 3) .nil)))) .nil)
noncomputable def vz (nj:Nat):S:=.for (.one 3) (.seq (.v 1)) (vv nj)
noncomputable def vA:S:=.ret (.v 2)
noncomputable def jq (fJ:Nat) (nj:Nat):Fn:=⟨2,4,(.cons (vt fJ) (.cons (vz nj) (.cons vA .nil)))⟩
noncomputable def KS:S:=.iff (.cmp .eq (.ix (.v 1) (.c (.int 0))) (.c (.str [107,101,101,112]))) (.cons (.ret (.lst (.cons (.v 0) .nil))) .nil) .nil
noncomputable def KU:S:=.iff (.cmp .eq (.ix (.v 0) (.c (.int 0))) (.c (.str [107,101,101,112]))) (.cons (.ret (.lst (.cons (.v 1) .nil))) .nil) .nil
noncomputable def KW:S:=.iff (.cmp .ne (.ix (.v 0) (.c (.int 1))) (.ix (.v 1) (.c (.int 1)))) (.cons (.fj) .nil) .nil
noncomputable def KY:S:=.ret (.lst .nil)
noncomputable def tK:Fn:=⟨2,2,(.cons KS (.cons KU (.cons KW (.cons KY .nil))))⟩
noncomputable def Cg (pG:Nat):S:=.set 2 (.cl pG (.cons (.me .pop (.v 0) .nil) (.cons (.v 1) .nil)))
noncomputable def Ci (bJ:Nat):S:=.iff (.cmp .gt (.cl bJ (.cons (.ix (.v 2) (.c (.int 1))) .nil)) (.c (.int 0))) (.cons (.exp (.me .append (.v 0) (.cons (.ix (.v 2) (.c (.int 1))) .nil))) .nil) .nil
noncomputable def Cj:S:=.ret (.ix (.v 2) (.c (.int 0)))
noncomputable def kN (pG:Nat) (bJ:Nat):Fn:=⟨2,3,(.cons (Cg pG) (.cons (Ci bJ) (.cons Cj .nil)))⟩
noncomputable def zH:S:=.set 2 (.ix (.v 0) (.c (.int 0)))
noncomputable def zI:S:=.iff (.cmp .eq (.v 2) (.c (.str [107,101,101,112]))) (.cons (.ret (.tup (.cons (.tup (.cons (.v 2) (.cons (.v 1) .nil))) (.cons (.tup (.cons (.v 2) (.cons (.bin .sub (.ix (.v 0) (.c (.int 1))) (.v 1)) .nil))) .nil)))) .nil) .nil
noncomputable def zJ:S:=.ret (.tup (.cons (.tup (.cons (.v 2) (.cons (.sl (.ix (.v 0) (.c (.int 1))) .no (.yes (.v 1))) .nil))) (.cons (.tup (.cons (.v 2) (.cons (.sl (.ix (.v 0) (.c (.int 1))) (.yes (.v 1)) .no) .nil))) .nil)))
noncomputable def iI:Fn:=⟨2,3,(.cons zH (.cons zI (.cons zJ .nil)))⟩
noncomputable def Pt.tk (m:Nat):Pt→Pt
 | .keep _=>.keep m
 | .put s=>.put (s.take m)
 | .drop s=>.drop (s.take m)
noncomputable def Pt.dp (m:Nat):Pt→Pt
 | .keep k=>.keep (k - m)
 | .put s=>.put (s.drop m)
 | .drop s=>.drop (s.drop m)
theorem tL {α:Type}(l:List α) (m:Nat):cut l none (some (m:Int))=l.take m:=by
 have h1:¬ (m:Int)<0:=by omega
 simp only [cut,aU,h1,if_false,Int.toNat_natCast,List.drop_zero,Nat.sub_zero]
 by_cases h:m≤l.length
 ·rw [Nat.min_eq_left h]
 ·rw [Nat.min_eq_right (by omega),List.take_of_length_le (Nat.le_refl _),List.take_of_length_le (by omega)]
theorem GW {α:Type}(l:List α) (m:Nat):cut l (some (m:Int)) none=l.drop m:=by
 have h1:¬ (m:Int)<0:=by omega
 simp only [cut,aU,h1,if_false,Int.toNat_natCast]
 by_cases h:m≤l.length
 ·rw [Nat.min_eq_left h,List.take_of_length_le (by simp)]
 ·rw [Nat.min_eq_right (by omega),List.drop_eq_nil_of_le (Nat.le_refl _),List.drop_eq_nil_of_le (by omega)];simp
section
variable {F:List Fn}{w n cC aJ di bw bT aY dN cg cW gI i:Nat}
theorem zK (hf:F[i]?=some iI) (p:Pt) (m:Nat) (h:m≤p.n):run F w (n+1) i [.val p.v,.val (.int m)]=some (.tup [(p.tk m).v,(p.dp m).v],[]):=by
 refine cD hf rfl ?_
 cases p with
 | keep k=>
  refine ah (aW (by repeat array_get_dec) rfl rfl ?_)
  refine ah (aL (by repeat array_get_dec) (fun _=>?_) fun h=>absurd h (by decide))
  refine ah (bK (by repeat array_get_dec) ⟨?_,rfl⟩)
  have:(k:Int) - m=((k - m:Nat):Int):=by simp only [Pt.n] at h;omega
  exact congrArg (fun z=>Fl.ret (V.tup [V.tup [V.str dS,V.int m],V.tup [V.str dS,V.int z]])) this
 | put s=>
  have c1:gc (.str s) none (some (m:Int))=some (.str (s.take m)):=by rw [gW,tL]
  have c2:gc (.str s) (some (m:Int)) none=some (.str (s.drop m)):=by rw [gW,GW]
  refine ah (aW (by repeat array_get_dec) rfl rfl ?_)
  refine ah (aL (by repeat array_get_dec) (fun h=>absurd h (by decide)) fun _=>ay ?_)
  exact ah (bK (by repeat array_get_dec) ⟨rfl,rfl⟩)
 | drop s=>
  have c1:gc (.str s) none (some (m:Int))=some (.str (s.take m)):=by rw [gW,tL]
  have c2:gc (.str s) (some (m:Int)) none=some (.str (s.drop m)):=by rw [gW,GW]
  refine ah (aW (by repeat array_get_dec) rfl rfl ?_)
  refine ah (aL (by repeat array_get_dec) (fun h=>absurd h (by decide)) fun _=>ay ?_)
  exact ah (bK (by repeat array_get_dec) ⟨rfl,rfl⟩)
theorem q8 (m:Nat) (p:Pt):(p.dp m).n=p.n - m:=by cases p <;> simp [Pt.dp,Pt.n]
theorem j5 (hs:F[aJ]?=some fT) (hp:F[cC]?=some iI) (hf:F[i]?=some (kN cC aJ)) (L:List V) (p:Pt) (m:Nat) (h:m≤p.n) (hn:p.n≤100000) (hL:L.length≤10000) :
  run F w (n+2) i [.bor (L++[p.v]),.val (.int m)]=some ((p.tk m).v,[L++if 0<p.n - m then [(p.dp m).v] else []]):=by
 refine cD hf rfl ?_
 have c1:=fun fr=>call2 (fr:=fr) (zK (F:=F) (w:=w) (n:=n) hp p m h)
 have c2:=fun fr=>cE (fr:=fr) (gq (F:=F) (w:=w) (n:=n) hs (p.dp m) (by rw [q8];omega))
 have po:∀ fr:Fr,gF .pop 0 [] fr (some (some (.bor (L++[p.v]))))=.ok p.v (fr.set 0 (some (.bor L))):=fun fr=>Kz
 have ap:∀ fr:Fr,gF .append 0 [(p.dp m).v] fr (some (some (.bor L)))=.ok .bf (fr.set 0 (some (.bor (L++[(p.dp m).v])))):=fun fr=>Ky (by omega)
 refine ah (aW (by (repeat (first | array_get_dec | exact po _ | exact c1 _))) rfl rfl ?_)
 refine ah (aL (by (repeat (first | array_get_dec | exact c2 _))) (fun h=>?_) fun h=>?_)
 ·have h':=of_decide_eq_true h
  rw [q8] at h'
  rw [if_pos (by omega)]
  refine ah (dR (by (repeat (first | array_get_dec | exact ap _))) (ay ?_))
  exact ah (bK (by repeat array_get_dec) ⟨rfl,rfl⟩)
 ·have h':=of_decide_eq_false h
  rw [q8] at h'
  rw [if_neg (by omega),List.append_nil]
  exact ay (ah (bK (by repeat array_get_dec) ⟨rfl,rfl⟩))
noncomputable def lS:Pt→Pt→Option (List Pt)
 | l,.keep _=>some [l]
 | .keep _,g=>some [g]
 | .put s,.drop s'=>if s=s' then some [] else none
 | _,_=>none
theorem KZ (hf:F[i]?=some tK) (p q:Pt) (r:List Pt) (h:lS p q=some r):run F w (n+1) i [.val p.v,.val q.v]=some (.lst (r.map Pt.v),[]):=by
 refine cD hf rfl ?_
 cases q with
 | keep k=>
  simp only [lS,Option.some.injEq] at h
  subst h
  refine ah (aL (by repeat array_get_dec) (fun _=>?_) fun h=>absurd h (by decide))
  exact ah (bK (by repeat array_get_dec) ⟨rfl,rfl⟩)
 | put s=>
  cases p <;> simp [lS] at h
  subst h
  refine ah (aL (by repeat array_get_dec) (fun h=>absurd h (by decide)) fun _=>ay ?_)
  refine ah (aL (by repeat array_get_dec) (fun _=>?_) fun h=>absurd h (by decide))
  exact ah (bK (by repeat array_get_dec) ⟨rfl,rfl⟩)
 | drop s'=>
  cases p with
  | keep k=>
   simp only [lS,Option.some.injEq] at h
   subst h
   refine ah (aL (by repeat array_get_dec) (fun h=>absurd h (by decide)) fun _=>ay ?_)
   refine ah (aL (by repeat array_get_dec) (fun _=>?_) fun h=>absurd h (by decide))
   exact ah (bK (by repeat array_get_dec) ⟨rfl,rfl⟩)
  | drop s=>simp [lS] at h
  | put s=>
   simp only [lS] at h
   split at h
   ·rename_i hs
    subst hs
    cases h
    refine ah (aL (by repeat array_get_dec) (fun h=>absurd h (by decide)) fun _=>ay ?_)
    refine ah (aL (by repeat array_get_dec) (fun h=>absurd h (by decide)) fun _=>ay ?_)
    refine ah (aL (by repeat array_get_dec) (fun h=>?_) fun _=>ay ?_)
    ·simp at h
    ·exact ah (bK (by repeat array_get_dec) ⟨rfl,rfl⟩)
   ·cases h
theorem dZ {l:List V}{v:V}:eF (.lst (l++[v])) (.int (-1))=some v:=by rw [xW,OD];simp
theorem iS {l:List V}{v:V}:truthy (.lst (l++[v]))=true:=by simp
theorem qw {P:aT}{f i:Nat}{fr:Fr}{b v:V}{l l':List V}(e:fr[i]?=some (some (.own l))) (h:P f [.bor l,.val b]=some (v,[l'])):ez P f [.inl i,.inr b] fr=.ok v (fr.set i (some (.own l'))):=by
 have e1:lent fr i=some (.bor l):=by rw [x6,e];rfl
 simp [ez,bR,args,e1,h,back,e,Sl.with]
theorem fE {c:List Pt}(h:kI c=true):∀ p∈c,0<p.n:=fun p hp=>by
 simp only [kI,Bool.and_eq_true,List.all_eq_true] at h
 have:=h.2 p hp
 simp only [OM,bne_iff_ne,ne_eq] at this
 omega
theorem eK:∀ {c:List Pt},(∀ p∈c,0<p.n)→c.length≤tot c
 | [],_=>by simp [tot]
 | p :: c,h=>by
  have h1:=h p (by simp)
  have h2:=eK (c:=c) fun q hq=>h q (by simp [hq])
  rw [aZ,List.length_cons];omega
theorem qx {p:Pt}{m:Nat}(h:m≤p.n):(p.tk m).aB++(p.dp m).aB=p.aB∧(p.tk m).n=m:=by
 cases p with
 | keep k=>simp only [Pt.n] at h;simp [Pt.tk,Pt.dp,Pt.aB,Pt.n,h]
 | put s=>simp only [Pt.n] at h;simp [Pt.tk,Pt.dp,Pt.aB,Pt.n,h,←List.map_append]
 | drop s=>simp only [Pt.n] at h;simp [Pt.tk,Pt.dp,Pt.aB,Pt.n,h,←List.map_append]
noncomputable def iB (m:Nat) (p:Pt):List Pt:=if 0<p.n - m then [p.dp m] else []
theorem nU {p:Pt}{m:Nat}(h:m≤p.n):p.aB=(p.tk m).aB++aB (iB m p):=by
 rw [← (qx h).1]
 congr 1
 unfold iB
 split
 ·simp [aB]
 ·rename_i hz
  have:(p.dp m).aB.length=0:=by rw [vn,q8];omega
  rw [List.length_eq_zero_iff.mp this];rfl
theorem nV (m:Nat) (p:Pt):∀ q∈iB m p,0<q.n:=fun q hq=>by
 unfold iB at hq
 split at hq
 ·simp at hq;subst hq;rw [q8];omega
 ·simp at hq
theorem yh (m:Nat) (p:Pt) (A:List Pt):((iB m p++A).map Pt.v).reverse=(A.map Pt.v).reverse++if 0<p.n - m then [(p.dp m).v] else []:=by
 unfold iB;split <;> simp
theorem gY (m:Nat) (p:Pt):tot (iB m p)=p.n - m:=by
 unfold iB;split
 ·simp [tot,q8]
 ·simp [tot];omega
theorem nW {m:Nat}{p:Pt}:dQ (p.tk m)=dQ p∧eV (p.tk m)=eV p:=by cases p <;> exact ⟨rfl,rfl⟩
theorem OQ {A B r:List At}(p q:Pt) (hp:dQ p=false) (hq:eV q=false) (hn:p.n=q.n) (h:Th (p.aB++A) (q.aB++B) r):∃ m r',lS p q=some m∧m.length≤1∧r=aB m++r'∧Th A B r':=by
 cases p with
 | drop s=>cases hp
 | keep k=>
  cases q with
  | put s=>cases hq
  | keep k'=>simp only [Pt.n] at hn;subst hn;obtain ⟨r',rfl,h'⟩:=Th.GU h;exact ⟨[.keep k],r',rfl,by simp,by simp [aB,Pt.aB],h'⟩
  | drop s=>simp only [Pt.n] at hn;subst hn;obtain ⟨r',rfl,h'⟩:=Th.GV h;exact ⟨[.drop s],r',rfl,by simp,by simp [aB,Pt.aB],h'⟩
 | put s=>
  cases q with
  | put s'=>cases hq
  | keep k'=>simp only [Pt.n] at hn;subst hn;obtain ⟨r',rfl,h'⟩:=Th.pks h;exact ⟨[.put s],r',rfl,by simp,by simp [aB,Pt.aB],h'⟩
  | drop s'=>simp only [Pt.n] at hn;obtain ⟨rfl,h'⟩:=Th.VC hn h;exact ⟨[],r,by simp [lS],by simp,by simp [aB],h'⟩
structure Tn (one other c:List Pt) (t:List Nat):Prop where
 GX:ak c=c
 fit:aI c t=true
 dn:aC c t=aC other (aC one t)
 Ck:told 0 c=(told 0 other).map (sub (told 0 one))
 OR:told 0 (sw c)=(told 0 (sw one)).map (sub (told 0 (sw other)))
 cs:cst c≤cst one+cst other
 tt:tot c≤tot one+tot other
 ln:c.length≤tot c
theorem TN {one other ps:List Pt}{t:List Nat}(h1:aI one t=true) (h2:aI other (aC one t)=true) (h:Th (aB (ak one)) (aB (ak other)) (aB ps)):Tn one other (ak ps) t:=by
 have f1:aF (aA (aB (ak one))) t=true:=by rw [←cU,dg,←eg];exact h1
 have f2:aF (aA (aB (ak other))) (dA (aB (ak one)) t)=true:=by rw [←cU,dg,←fc,bX,←eg];exact h2
 have b:=h.back 0 0 [] rfl
 rw [←vp,←vp,←vp,←cG,←cG,←cG] at b
 have sf:∀ c i,told i (sw (ak c))=told i (sw c):=fun c i=>by
  have:=congrArg (told i) (yg (cQ c));rwa [bO,bO] at this
 refine ⟨cQ _,?_,?_,?_,?_,?_,?_,eK (fE (ef _))⟩
 ·rw [fP,eg,cU];exact h.fit t f1 f2
 ·rw [bX,fc,h.done t f1,←fc,bX,←fc,bX]
 ·have:=h.told 0 0 [] rfl
  rw [←cG,←cG,←cG,bO,bO] at this
  rw [bO];exact this
 ·rw [sf,←sf one,←sf other];exact b
 ·have:=h.cost
  rw [←kL,←kL,←kL,jP,jP] at this
  rw [jP];exact this
 ·have:=h.len
  rw [fW,fW,fW,gr,gr] at this
  rw [gr];exact this
section
variable (hs:F[aJ]?=some fT) (hp:F[cC]?=some iI) (ht:F[bw]?=some (kN cC aJ)) (hm:F[di]?=some tK) {one other:List Pt}{r:List At}{N:Nat}(hN:N≤5000)
noncomputable def gb (one other A B C:List Pt) (a:Option Sl):Fr:=[some (.val (aD one)),some (.val (aD other)),some (.own (A.map Pt.v).reverse),some (.own (B.map Pt.v).reverse),some (.own (C.map Pt.v)),a]
noncomputable def VF (one other:List Pt) (r:List At) (N k:Nat) (fr:Fr):Prop:=∃ A B C r' a,Th (aB A) (aB B) r'∧aB C++r'=r∧(∀ p∈A,0<p.n)∧(∀ p∈B,0<p.n)∧C.length+k≤N∧k=tot A+tot B∧vo a∧fr=gb one other A B C a
include hs hp ht hm hN
noncomputable def Cm (aJ di bw:Nat):Ss:=(.cons (.set 5 (.bi .min (.cons (.cl aJ (.cons (.ix (.v 2) (.neg (.c (.int 1)))) .nil)) (.cons (.cl aJ (.cons (.ix (.v 3) (.neg (.c (.int 1)))) .nil)) .nil)))) (.cons (.exp (.me .extend (.v 4) (.cons (.cl di (.cons (.cl bw (.cons (.v 2) (.cons (.v 5) .nil))) (.cons (.cl bw (.cons (.v 3) (.cons (.v 5) .nil))) .nil))) .nil))) .nil))
noncomputable def vC (aJ di bw:Nat):Ss:=.cons (.iff (.an (.v 3) (.cmp .eq (.ix (.ix (.v 3) (.neg (.c (.int 1)))) (.c (.int 0))) (.c (.str [112,117,116])))) (.cons (.exp (.me .append (.v 4) (.cons (.me .pop (.v 3) .nil) .nil))) .nil) (Cm aJ di bw)) .nil
noncomputable def vD (one other:List Pt) (r:List At) (N t:Nat) (g:Fl) (fr:Fr):Prop:=g=.nx∧∃ j,j<t∧VF one other r N j fr
omit hs hp ht hm hN in
theorem Cn {C:List Pt}(lC:C.length≤5000) (d:Pt) (fr:Fr):gF .append 4 [d.v] fr (some (some (.own (C.map Pt.v))))=.ok .bf (fr.set 4 (some (.own ((C++[d]).map Pt.v)))):=by
 rw [List.map_append];exact iH (by simp;omega)
omit hs hp ht hm in
theorem vE (A B C:List Pt) (s:List Nat) (r':List At) (a:Option Sl) (h:Th (aB A) (aB (.put s :: B)) r') (hn:Cc (aB A)=true) (hC:aB C++r'=r) (hA:∀ p∈A,0<p.n) (hB:∀ p∈(.put s :: B),0<p.n) (hk:C.length+(tot A+tot (.put s :: B))≤N) (ha:vo a) :
  Wp (exs (run F w (n+2)) w (vC aJ di bw) (gb one other A (.put s :: B) C a)) (vD one other r N (tot A+tot (.put s :: B))):=by
 have lC:C.length≤5000:=by omega
 rw [bH] at h
 obtain ⟨r2,e2,h2⟩:=Th.ps hn h
 have hs1:=hB (.put s) (by simp)
 unfold gb
 rw [List.map_cons,List.reverse_cons]
 refine ah (aL (gH (aH rfl (az rfl) iS) (by (repeat (first | array_get_dec | exact dZ)))) (fun _=>?_) fun h=>absurd h (by decide))
 refine ah (dR (by (repeat (first | array_get_dec | exact nO | exact Cn lC _ _))) (ay (ay ?_)))
 refine ⟨rfl,tot A+tot B,by rw [aZ];omega,A,B,C++[.put s],r2,a,h2,?_,hA,fun x hx=>hB x (by simp [hx]),?_,rfl,ha,rfl⟩
 ·rw [←hC,e2,fV];simp [aB,Pt.aB]
 ·rw [aZ] at hk;simp;omega
omit hN in
theorem OS (A B C mm:List Pt) (p q:Pt) (m:Nat) (a:Option Sl) (mn:cX .min [.int p.n,.int q.n]=some (.int m)) (hm1:m≤p.n) (hm2:m≤q.n) (lp:p.n≤5000) (lq:q.n≤5000) (lA:A.length≤5000) (lB:B.length≤5000) (lC:C.length+mm.length≤10000) (e1:lS (p.tk m) (q.tk m)=some mm) (ha:vo a) (Q:Fl→Fr→Prop)
  (hQ:Q .nx (gb one other (iB m p++A) (iB m q++B) (C++mm) (some (.val (.int m))))):Wp (exs (run F w (n+2)) w (Cm aJ di bw) (gb one other (p :: A) (q :: B) C a)) Q:=by
 have z1:=fun fr=>cE (fr:=fr) (gq (F:=F) (w:=w) (n:=n+1) hs p (Nat.le_trans lp (by decide)))
 have z2:=fun fr=>cE (fr:=fr) (gq (F:=F) (w:=w) (n:=n+1) hs q (Nat.le_trans lq (by decide)))
 have t1:=j5 (F:=F) (w:=w) (n:=n) hs hp ht (A.map Pt.v).reverse p m hm1 (by omega) (by simp;omega)
 have t2:=j5 (F:=F) (w:=w) (n:=n) hs hp ht (B.map Pt.v).reverse q m hm2 (by omega) (by simp;omega)
 rw [←yh] at t1 t2
 have cm:=fun fr=>call2 (fr:=fr) (KZ (F:=F) (w:=w) (n:=n+1) hm _ _ mm e1)
 have ex:∀ fr:Fr,gF .extend 4 [.lst (mm.map Pt.v)] fr (some (some (.own (C.map Pt.v))))=.ok .bf (fr.set 4 (some (.own ((C++mm).map Pt.v)))):=fun fr=>by
  rw [List.map_append];exact x8 (by simp;omega)
 unfold gb at hQ ⊢
 rw [List.map_cons,List.reverse_cons,List.map_cons,List.reverse_cons]
 refine ah (aW (by (repeat (first | array_get_dec | exact dZ | exact z1 _ | exact z2 _))) rfl (iw rfl ha) ?_)
 exact ah (dR (by (repeat (first | array_get_dec | exact qw rfl t1 | exact qw rfl t2 | exact cm _ | exact ex _))) (ay hQ))
theorem EI (A B C:List Pt) (p q:Pt) (r':List At) (a:Option Sl) (hd:dQ p=false) (hq:eV q=false) (h:Th (aB (p :: A)) (aB (q :: B)) r') (hC:aB C++r'=r) (hA:∀ x∈p :: A,0<x.n) (hB:∀ x∈q :: B,0<x.n) (hk:C.length+(tot (p :: A)+tot (q :: B))≤N) (ha:vo a) :
  Wp (exs (run F w (n+2)) w (vC aJ di bw) (gb one other (p :: A) (q :: B) C a)) (vD one other r N (tot (p :: A)+tot (q :: B))):=by
 have hp0:=hA p (by simp)
 have AS:=hB q (by simp)
 obtain ⟨m,hm1,hm2,hm3⟩:∃ m:Nat,m≤p.n∧m≤q.n∧(m=p.n∨m=q.n):=⟨min p.n q.n,by omega,by omega,by omega⟩
 have mn:cX .min [.int p.n,.int q.n]=some (.int m):=by
  rw [BC]
  split
  ·congr 2;omega
  ·congr 2;omega
 rw [aZ,aZ] at hk
 have lA:=eK (c:=A) fun x hx=>hA x (by simp [hx])
 have lB:=eK (c:=B) fun x hx=>hB x (by simp [hx])
 have h3:Th ((p.tk m).aB++aB (iB m p++A)) ((q.tk m).aB++aB (iB m q++B)) r':=by
  rw [fV,fV,←List.append_assoc,←List.append_assoc,←nU hm1,←nU hm2,←bH,←bH];exact h
 obtain ⟨mm,r2,e1,e2,e3,h4⟩:=OQ (p.tk m) (q.tk m) (by rw [nW.1];exact hd) (by rw [nW.2];exact hq) (by rw [(qx hm1).2,(qx hm2).2]) h3
 have fin:vD one other r N (tot (p :: A)+tot (q :: B)) .nx (gb one other (iB m p++A) (iB m q++B) (C++mm) (some (.val (.int m)))):=by
  refine ⟨rfl,_,?_,_,_,_,r2,_,h4,?_,?_,?_,?_,rfl,.val,rfl⟩
  ·rw [dX,dX,gY,gY,aZ,aZ];omega
  ·rw [fV,List.append_assoc,←e3];exact hC
  ·intro x hx
   rcases List.mem_append.mp hx with hx | hx
   ·exact nV m p x hx
   ·exact hA x (List.mem_cons_of_mem _ hx)
  ·intro x hx
   rcases List.mem_append.mp hx with hx | hx
   ·exact nV m q x hx
   ·exact hB x (List.mem_cons_of_mem _ hx)
  ·rw [dX,dX,gY,gY,List.length_append];omega
 have st:=OS (one:=one) (other:=other) (w:=w) (n:=n) hs hp ht hm A B C mm p q m a mn hm1 hm2 (by omega) (by omega) (by omega) (by omega) (by omega) e1 ha _ (show nx (run F w (n+2)) w .nil (vD one other r N (tot (p :: A)+tot (q :: B))) .nx _ from ay fin)
 unfold gb at st ⊢
 rw [List.map_cons,List.reverse_cons,List.map_cons,List.reverse_cons] at st ⊢
 cases q with
 | put s=>cases hq
 | keep k=>exact ah (aL (gH (aH rfl (az rfl) iS) (by (repeat (first | array_get_dec | exact dZ)))) (fun h=>absurd h (by decide)) fun _=>st)
 | drop s=>exact ah (aL (gH (aH rfl (az rfl) iS) (by (repeat (first | array_get_dec | exact dZ)))) (fun h=>absurd h (by decide)) fun _=>st)
omit hs hp ht hm hN in
theorem VG {b r:List At}{x:At}(h:Th [] (x :: b) r):∃ c,x=.p c:=by cases h with | p=>exact ⟨_,rfl⟩
omit hs hp ht hm hN in
theorem VH {a r:List At}{x:At}(h:Th (x :: a) [] r):∃ c,x=.d c:=by cases h with | d=>exact ⟨_,rfl⟩
theorem Co (A B C:List Pt) (r':List At) (a:Option Sl) (hne:A≠[]∨B≠[]) (h:Th (aB A) (aB B) r') (hC:aB C++r'=r) (hA:∀ p∈A,0<p.n) (hB:∀ p∈B,0<p.n) (hk:C.length+(tot A+tot B)≤N) (ha:vo a) :
  Wp (exs (run F w (n+2)) w (vq aJ di bw) (gb one other A B C a)) (vD one other r N (tot A+tot B)):=by
 cases A with
 | nil=>
  cases B with
  | nil=>exact absurd hne (by simp)
  | cons q B'=>
   refine ah (aL (qh (aH rfl (az rfl) rfl)) (fun h=>absurd h (by decide)) fun _=>?_)
   have hq:=hB q (by simp)
   cases q with
   | put s=>exact (vE hN [] B' C s r' a h rfl hC hA hB hk ha).mono fun g fr ⟨hg,hx⟩=>by subst hg;exact ay ⟨rfl,hx⟩
   | keep k=>
    rw [bH] at h
    cases k with
    | zero=>exact absurd hq (Nat.lt_irrefl 0)
    | succ k=>obtain ⟨c,e⟩:=VG (x:=.k) h;cases e
   | drop s=>
    rw [bH] at h
    cases s with
    | nil=>exact absurd hq (Nat.lt_irrefl 0)
    | cons c s=>obtain ⟨c,e⟩:=VG (x:=.d c) h;cases e
 | cons p A'=>
  have hp0:=hA p (by simp)
  cases hd:dQ p with
  | true=>
   cases p with
   | keep k=>cases hd
   | put s=>cases hd
   | drop s=>
    have lC:C.length≤5000:=by omega
    rw [bH] at h
    obtain ⟨r2,e2,h2⟩:=Th.ds h
    unfold gb
    rw [List.map_cons,List.reverse_cons]
    refine ah (aL (gH (aH rfl (az rfl) iS) (by (repeat (first | array_get_dec | exact dZ)))) (fun _=>?_) fun h=>absurd h (by decide))
    refine ah (dR (by (repeat (first | array_get_dec | exact nO | exact Cn lC _ _))) (ay (ay ?_)))
    refine ⟨rfl,tot A'+tot B,by rw [aZ];omega,A',B,C++[.drop s],r2,a,h2,?_,fun x hx=>hA x (by simp [hx]),hB,?_,rfl,ha,rfl⟩
    ·rw [←hC,e2,fV];simp [aB,Pt.aB]
    ·rw [aZ] at hk;simp;omega
  | false=>
   have st:Wp (exs (run F w (n+2)) w (vC aJ di bw) (gb one other (p :: A') B C a)) (vD one other r N (tot (p :: A')+tot B)):=by
    cases B with
    | nil=>
     exfalso
     rw [bH] at h
     cases p with
     | drop s=>cases hd
     | keep k=>cases k with | zero=>exact absurd hp0 (Nat.lt_irrefl 0) | succ k=>obtain ⟨c,e⟩:=VH (x:=.k) h;cases e
     | put s=>cases s with | nil=>exact absurd hp0 (Nat.lt_irrefl 0) | cons c s=>obtain ⟨c,e⟩:=VH (x:=.p c) h;cases e
    | cons q B'=>
     cases hq:eV q with
     | true=>
      have hnd:Cc (aB (p :: A'))=true:=by
       rw [bH]
       cases p with
       | drop s=>cases hd
       | keep k=>cases k <;> first | exact absurd hp0 (Nat.lt_irrefl 0) | rfl
       | put s=>cases s <;> first | exact absurd hp0 (Nat.lt_irrefl 0) | rfl
      cases q with
      | keep k=>cases hq
      | drop s=>cases hq
      | put s=>exact vE hN (p :: A') B' C s r' a h hnd hC hA hB hk ha
     | false=>exact EI hs hp ht hm hN A' B' C p q r' a hd hq h hC hA hB hk ha
   replace st:=st.mono (Q':=nx (run F w (n+2)) w .nil (vD one other r N (tot (p :: A')+tot B))) fun g fr ⟨hg,hx⟩=>by subst hg;exact ay ⟨rfl,hx⟩
   unfold gb at st ⊢
   rw [List.map_cons,List.reverse_cons] at st ⊢
   cases p with
   | drop s=>cases hd
   | keep k=>exact ah (aL (gH (aH rfl (az rfl) iS) (by (repeat (first | array_get_dec | exact dZ)))) (fun h=>absurd h (by decide)) fun _=>st)
   | put s=>exact ah (aL (gH (aH rfl (az rfl) iS) (by (repeat (first | array_get_dec | exact dZ)))) (fun h=>absurd h (by decide)) fun _=>st)
omit hN in
theorem EJ (hst:F[aY]?=some fH) (hf:F[bT]?=some (jO aY)) (hb:F[cg]?=some (jN aJ)) (ha:F[dN]?=some (nT aJ)) (yi:F[i]?=some (kM dN cg bT aJ di bw)) (hw:5000<w)
  (one other:List Pt) (t:List Nat) (h1:aI one t=true) (h2:aI other (aC one t)=true) (b1:tot one≤2000) (b2:tot other≤2000) (l1:one.length≤2000) (l2:other.length≤2000) :
  ∃ c,run F w (n+3) i [.val (aD one),.val (aD other)]=some (aD c,[])∧Tn one other c t:=by
 have f1:aF (aA (aB (ak one))) t=true:=by rw [←cU,dg,←eg];exact h1
 have f2:aF (aA (aB (ak other))) (dA (aB (ak one)) t)=true:=by rw [←cU,dg,←fc,bX,←eg];exact h2
 obtain ⟨r,hr⟩:=Th.all _ _ _ t (Nat.le_refl _) f1 f2
 have e1:gp one=aR other:=by rw [←lR h1,gw h2]
 have ne:cop .ne (.int (gp one)) (.int (aR other))=some false:=by rw [tG,e1];simp
 have c1:=fun fr=>cE (fr:=fr) (sF (F:=F) (w:=w) (n:=n) hs ha one (by omega) (by omega))
 have c2:=fun fr=>cE (fr:=fr) (jl (F:=F) (w:=w) (n:=n) hs hb other (by omega) (by omega))
 have c3:=fun fr=>cE (fr:=fr) (eZ (F:=F) (w:=w) (n:=n) hst hf one (by omega) (by omega))
 have c4:=fun fr=>cE (fr:=fr) (eZ (F:=F) (w:=w) (n:=n) hst hf other (by omega) (by omega))
 have t1:=gr one
 have t2:=gr other
 have g1:=eK (fE (ef one))
 have g2:=eK (fE (ef other))
 have m1:dG ((ak one).map Pt.v).reverse=some (.lst ((ak one).map Pt.v).reverse):=fy (cy (by simp;omega))
 have m2:dG ((ak other).map Pt.v).reverse=some (.lst ((ak other).map Pt.v).reverse):=fy (cy (by simp;omega))
 have key:Wp (exs (run F w (n+2)) w (kM dN cg bT aJ di bw).body (eS (kM dN cg bT aJ di bw) [.val (aD one),.val (aD other)])) fun g fr=>∃ ps,aB ps=r∧g=.ret (aD (ak ps))∧outs 2 fr=[]:=by
  refine ah (aL (by (repeat (first | array_get_dec | exact c1 _ | exact c2 _))) (fun h=>absurd h (by decide)) fun _=>ay ?_)
  refine ah (fS (l:=((ak one).map Pt.v).reverse) (qg (qj (bh (aS rfl (az rfl) aP) (c3 _)) rfl) m1) rfl rfl ?_)
  refine ah (fS (l:=((ak other).map Pt.v).reverse) (qg (qj (bh (aS rfl (az rfl) aP) (c4 _)) rfl) m2) rfl rfl ?_)
  refine ah (fS (l:=[]) (by repeat array_get_dec) rfl rfl ?_)
  refine ah (GL (qe (VF one other r (tot one+tot other)) (fun k fr hI=>?_) w (tot one+tot other) _ (by omega) ⟨ak one,ak other,[],r,none,hr,rfl,fE (ef one),fE (ef other),by simp,by omega,.none,rfl⟩))
  obtain ⟨A,B,C,r',a,hT,hC,hA,hB,hk,hkk,qy,rfl⟩:=hI
  by_cases hne:A≠[]∨B≠[]
  ·have ht1:aM (run F w (n+2)) (.orr (.v 2) (.v 3)) (gb one other A B C a)=.ok true (gb one other A B C a):=by
    cases A with
    | cons p A=>unfold gb;rw [List.map_cons,List.reverse_cons];exact m7 (aH rfl (az rfl) iS)
    | nil=>
     cases B with
     | nil=>simp at hne
     | cons q B=>unfold gb;rw [List.map_cons,List.reverse_cons];exact fR (aH rfl (az rfl) rfl) (aH rfl (az rfl) iS)
   refine ⟨true,_,ht1,?_⟩
   dsimp only
   rw [if_pos rfl]
   refine (Co hs hp ht hm (N:=tot one+tot other) (by omega) A B C r' a hne hT hC hA hB (by omega) qy).mono fun g fr ⟨hg,hx⟩=>?_
   subst hg hkk
   exact hx
  ·obtain ⟨rfl,rfl⟩:A=[]∧B=[]:=by simpa using hne
   refine ⟨false,_,fR (aH rfl (az rfl) rfl) (aH rfl (az rfl) rfl),?_⟩
   dsimp only
   rw [if_neg (by decide)]
   cases hT
   rw [List.append_nil] at hC
   subst hC
   have lC:=hr.len
   rw [fW,fW,fW] at lC
   have mt:toT (.lst (C.map Pt.v))=some (aD C):=by rw [qW];exact jI (cy (by simp;omega))
   have c5:=fun fr=>cE (fr:=fr) (eZ (F:=F) (w:=w) (n:=n) hst hf C (by omega) (by omega))
   have sh:eT (gb one other [] [] C a)=[some (.val (aD one)),some (.val (aD other)),some (.val (.lst [])),some (.val (.lst [])),some (.val (.lst (C.map Pt.v))),a]:=by
    show _ :: _ :: _ :: _ :: _ :: [a.map Sl.dm]=_
    rw [b6 qy];rfl
   refine ah (bK (v:=aD (ak C)) (af:=[some (.val (aD one)),some (.val (aD other)),some (.val (.lst [])),some (.val (.lst [])),some (.val (.lst (C.map Pt.v))),a]) ?_ ⟨C,rfl,rfl,rfl⟩)
   rw [sh]
   exact bh (aS rfl (tE (az rfl) mt) aP) (c5 _)
 obtain ⟨g,fr,e,ps,hps,rfl,ho⟩:=key
 refine ⟨ak ps,?_,TN h1 h2 (hps▸hr)⟩
 rw [run_eq yi rfl,e]
 simp only [xY]
 rw [show outs (kM dN cg bT aJ di bw).np fr=[] from ho]
end
end
end Pv
namespace Pv
open Ev (D bU bN TY BI ME T E Es Eo It S Ss Fn big deep b2i rep cz dP bL aU cut cS ek slots)
section
variable {F:List Fn}{w n cC aJ di bw bT aY dN cg cW gI i:Nat}
theorem EK (hf:F[i]?=some OP) (c:List Pt) (t:List Nat) (h1:tot c≤10000) (h2:t.length≤10000) (h:aI c t=true):run F w (n+1) i [.val (aD c),.val (.str t)]=some (.str (aC c t),[]):=by
 refine cD hf rfl ?_
 refine ah (aW (by repeat array_get_dec) rfl rfl ?_)
 refine ah (aW (by repeat array_get_dec) rfl rfl ?_)
 refine ah (gv (vs:=c.map Pt.v) (ee (dU rfl) rfl) ?_)
 have dl:=vh c t
 refine eG (e:=Pt.v) (fun p l fr=>p++l=c∧aR p≤t.length∧aI l (t.drop (aR p))=true∧∃ f a b,f++aC l (t.drop (aR p))=aC c t∧vo a∧vo b∧fr=[some (.val (aD c)),some (.val (.str t)),some (.val (.int (aR p))),some (.val (.str f)),a,b]) (fun p x l fr ⟨hpl,VI,hfit,f,a,b,hd,ha,hb,hfr⟩=>?_) (fun p fr ⟨hpl,VI,hfit,f,a,b,hd,ha,hb,hfr⟩=>?_) c [] _ ⟨rfl,by simp [aR,tot],by simpa [aR,tot] using h,[],none,none,by simp [aR,tot],.none,.none,rfl⟩
 ·subst hfr
  have fO:(p++[x])++l=c:=by simpa using hpl
  have lf:=congrArg List.length hd
  rw [List.length_append] at lf
  cases x with
  | put s=>
   have e2:aR (p++[.put s])=aR p:=by rw [kK,iQ];simp [aR,tot]
   have ad:=lE (a:=f) (b:=s) (by simp [aC] at lf;omega)
   refine cO (gO rfl ha rfl hb) (ah (aL (by repeat array_get_dec) (fun _=>?_) fun h=>absurd h (by decide)))
   refine ah (aW (by repeat array_get_dec) rfl rfl (ay (ay ?_)))
   rw [cY,e2]
   exact ⟨fO,VI,hfit,f++s,_,_,by simpa [aC] using hd,.val,.val,rfl⟩
  | drop s=>
   simp only [aI,Bool.and_eq_true] at hfit
   have e2:aR (p++[.drop s])=aR p+s.length:=by rw [kK,jn];simp [aR,tot]
   have e3:((aR (p++[.drop s]):Nat):Int)=(aR p:Int)+(s.length:Nat):=by rw [e2];simp
   have hs:=hfit.1
   rw [pre_take] at hs
   have hs:=of_decide_eq_true hs
   have hl:s.length≤(t.drop (aR p)).length:=by have:=congrArg List.length hs;simp at this ⊢;omega
   have hl2:aR p+s.length≤t.length:=by simp at hl;omega
   have ln:cX .len [.str s]=some (.int (s.length:Nat)):=len_str (by omega)
   have cu:gc (.str t) (some (aR p:Int)) (some ((aR p:Int)+(s.length:Nat)))=some (.str s):=by rw [gW,ng,hs]
   refine cO (gO rfl ha rfl hb) (ah (aL (by repeat array_get_dec) (fun h=>absurd h (by decide)) fun _=>?_))
   refine ah (aL (by repeat array_get_dec) (fun _=>?_) fun h=>absurd h (by decide))
   refine ah (aL (by repeat array_get_dec) (fun h=>?_) fun _=>ay ?_)
   ·simp at h
   ·refine ah (aW (by repeat array_get_dec) rfl rfl (ay (ay (ay ?_))))
    rw [cY]
    refine ⟨fO,by omega,?_,f,_,_,?_,.val,.val,by rw [e3];rfl⟩
    ·rw [e2,←List.drop_drop];exact hfit.2
    ·rw [e2,←List.drop_drop];simpa [aC] using hd
  | keep k=>
   simp only [aI,Bool.and_eq_true,decide_eq_true_eq] at hfit
   have e2:aR (p++[.keep k])=aR p+k:=by rw [kK,iP];simp [aR,tot]
   have e3:((aR (p++[.keep k]):Nat):Int)=(aR p:Int)+(k:Nat):=by rw [e2];simp
   have hl2:aR p+k≤t.length:=by have:=hfit.1;simp at this;omega
   have cu:gc (.str t) (some (aR p:Int)) (some ((aR p:Int)+(k:Nat)))=some (.str ((t.drop (aR p)).take k)):=by rw [gW,ng]
   have ad:=lE (a:=f) (b:=(t.drop (aR p)).take k) (by simp [aC] at lf ⊢;omega)
   refine cO (gO rfl ha rfl hb) (ah (aL (by repeat array_get_dec) (fun h=>absurd h (by decide)) fun _=>?_))
   refine ah (aL (by repeat array_get_dec) (fun h=>absurd h (by decide)) fun _=>?_)
   refine ah (aW (by repeat array_get_dec) rfl rfl ?_)
   refine ah (aW (by repeat array_get_dec) rfl rfl (ay (ay (ay ?_))))
   rw [cY]
   refine ⟨fO,by omega,?_,f++(t.drop (aR p)).take k,_,_,?_,.val,.val,by rw [e3];rfl⟩
   ·rw [e2,←List.drop_drop];exact hfit.2
   ·rw [e2,←List.drop_drop];simpa [aC] using hd
 ·subst hfr
  simp at hpl
  subst hpl
  have hd':f=aC p t:=by simpa [aC] using hd
  subst hd'
  have e0:=gw h
  have ln:cX .len [.str t]=some (.int (t.length:Nat)):=len_str (by omega)
  have eq:cop .eq (.int (aR p)) (.int (t.length:Nat))=some true:=by rw [DQ,e0];simp
  have sh:eT [some (.val (aD p)),some (.val (.str t)),some (.val (.int (aR p))),some (.val (.str (aC p t))),a,b]=[some (.val (aD p)),some (.val (.str t)),some (.val (.int (aR p))),some (.val (.str (aC p t))),a,b]:=by
   show _ :: _ :: _ :: _ :: a.map Sl.dm :: [b.map Sl.dm]=_
   rw [b6 ha,b6 hb];rfl
  refine ah (bK (v:=.str (aC p t)) (af:=[some (.val (aD p)),some (.val (.str t)),some (.val (.int (aR p))),some (.val (.str (aC p t))),a,b]) ?_ ⟨rfl,rfl⟩)
  rw [sh]
  exact zq (b:=true) (aH rfl (by repeat array_get_dec) rfl) (fun _=>az rfl) fun h=>absurd h (by decide)
noncomputable def Ch:List Nat→List (List Pt)→Prop
 | _,[]=>True
 | t,c :: rs=>aI c t=true∧Ch (aC c t) rs
noncomputable def bW (t:List Nat) (rs:List (List Pt)):List Nat:=rs.foldl (fun s c=>aC c s) t
noncomputable def dj (T:List Tq) (rs:List (List Pt)):List Tq:=rs.foldl (fun T c=>(told 0 c).map (sub T)) T
noncomputable def iz (rs:List (List Pt)):Nat:=(rs.map tot).sum
theorem EL {c:List Pt}{t:List Nat}(h:aI c t=true):aI (kj c) (aC c t)=true∧aC (kj c) (aC c t)=t:=by
 have:=vf c t h
 simp only [kj];rw [fP,bX];exact this
theorem nq (c:List Pt):told 0 (kj c)=told 0 (sw c):=by simp only [kj];rw [bO]
theorem sH (n:Nat):told 0 [.keep n]=(List.range n).map Tq.at:=by simp [told,Pt.told]
theorem nX (T:List Tq) (p q:List (List Pt)):dj T (p++q)=dj (dj T p) q:=by simp [dj]
theorem q9 (t:List Nat) (p q:List (List Pt)):bW t (p++q)=bW (bW t p) q:=by simp [bW]
theorem yj (T:List Tq):∀ (rs:List (List Pt)) (U:List Tq),(dj U rs).map (sub T)=dj (U.map (sub T)) rs
 | [],U=>rfl
 | c :: rs,U=>by
  show (dj ((told 0 c).map (sub U)) rs).map (sub T)=dj ((told 0 c).map (sub (U.map (sub T)))) rs
  rw [yj T rs,pF]
theorem nu {t:List Nat}:∀ {p q:List (List Pt)},Ch t (p++q)↔Ch t p∧Ch (bW t p) q
 | [],q=>⟨fun h=>⟨trivial,h⟩,fun h=>h.2⟩
 | c :: p,q=>by
  show (aI c t=true∧Ch (aC c t) (p++q))↔(aI c t=true∧Ch (aC c t) p)∧Ch (bW (aC c t) p) q
  rw [nu,and_assoc]
theorem Cp {c:List Pt}{t:List Nat}(h:aI c t=true):(told 0 c).length=(aC c t).length:=by rw [lP,lR h]
theorem OT {L:List Tq}{n:Nat}(h:L.length=n):(told 0 [.keep n]).map (sub L)=L:=by rw [sH,←h];exact KR L
theorem YB {a b:List Pt}{t:List Nat}(fa:ak a=a) (fb:ak b=b) (ha:aI a t=true) (hb:aI b t=true) (h:told 0 a=told 0 b):a=b:=by rw [←fa,←fb];exact Cf ha hb h
theorem idL {c:List Pt}{t:List Nat}(h:aI c t=true):(told 0 c).map (sub (told 0 [.keep t.length]))=told 0 c:=by
 rw [cG c,sH]
 refine EB fun j hj=>?_
 have:j<(aA (aB c)).length:=(List.getElem?_eq_some_iff.mp hj).1
 rw [←cU,pC,←gw h] at this
 simp [this]
theorem EM (c:List Pt) (i:Nat):told i (sw (ak c))=told i (sw c):=by
 have:=congrArg (told i) (yg (cQ c));rwa [bO,bO] at this
theorem ri (n:Nat):told 0 (kj (ak [.keep n]))=told 0 [.keep n]:=by
 rw [nq,EM];rfl
theorem Cq {t:List Nat}{p:List (List Pt)}{x:List Pt}(h:aI x (bW t p)=true):(dj (told 0 [.keep (bW t p).length]) (p.map kj).reverse).map (sub (told 0 (sw x)))=dj (told 0 [.keep (bW t (p++[x])).length]) ((p++[x]).map kj).reverse:=by
 obtain ⟨u1,u2⟩:=EL h
 have e1:bW t (p++[x])=aC x (bW t p):=by rw [q9];rfl
 rw [yj,List.map_append,List.reverse_append,e1]
 show _=dj ((told 0 (kj x)).map (sub (told 0 [.keep (aC x (bW t p)).length]))) _
 rw [idL u1,←nq,OT (by rw [Cp u1,u2])]
 rfl
structure An (c:List Pt) (t:List Nat) (rs:List (List Pt)):Prop where
 GX:ak c=c
 fit:aI c t=true
 dn:aC c t=bW t rs
 Ck:told 0 c=dj (told 0 [.keep t.length]) rs
 OR:told 0 (sw c)=dj (told 0 [.keep (bW t rs).length]) (rs.map kj).reverse
 tt:tot c≤t.length+iz rs
 ln:c.length≤tot c
theorem OU (t:List Nat):An (ak [.keep t.length]) t []:=by
 refine ⟨cQ _,by rw [fP];simp [aI],by rw [bX];simp [aC,bW],by rw [bO];rfl,by rw [←nq,ri];rfl,by rw [gr];simp [tot,Pt.n,iz],eK (fE (ef _))⟩
section
variable (hs:F[aJ]?=some fT) (hp:F[cC]?=some iI) (ht:F[bw]?=some (kN cC aJ)) (hm:F[di]?=some tK)
 (hst:F[aY]?=some fH) (hf:F[bT]?=some (jO aY)) (hb:F[cg]?=some (jN aJ)) (ha:F[dN]?=some (nT aJ)) (yi:F[gI]?=some (kM dN cg bT aJ di bw)) (hno:F[cW]?=some (j4 bT)) (hw:5000<w)
include hs hp ht hm hst hf hb ha yi hno hw
theorem nv (hat:F[i]?=some (jq cW gI)) (t:List Nat) (rs:List (List Pt)) (hch:Ch t rs) (hB:t.length+iz rs≤2000) (hL:∀ c∈rs,c.length≤2000) :
  ∃ c,run F w (n+4) i [.val (.int t.length),.val (.lst (rs.map aD))]=some (aD c,[])∧An c t rs:=by
 have c1:=fun fr=>cE (fr:=fr) (wG (F:=F) (w:=w) (n:=n) hst hf hno t.length (by omega))
 have key:Wp (exs (run F w (n+3)) w (jq cW gI).body (eS (jq cW gI) [.val (.int t.length),.val (.lst (rs.map aD))])) fun g fr=>∃ c,An c t rs∧g=.ret (aD c)∧outs 2 fr=[]:=by
  refine ah (aW (by (repeat (first | array_get_dec | exact c1 _))) rfl rfl ?_)
  refine ah (gv (vs:=rs.map aD) (ee (dU rfl) rfl) ?_)
  refine eG (e:=aD) (fun p l fr=>p++l=rs∧Ch (bW t p) l∧∃ c a,An c t p∧vo a∧fr=[some (.val (.int t.length)),some (.val (.lst (rs.map aD))),some (.val (aD c)),a]) (fun p x l fr ⟨hpl,hc,c,a,hA,qy,hfr⟩=>?_) (fun p fr ⟨hpl,hc,c,a,hA,qy,hfr⟩=>?_) rs [] _ ⟨rfl,hch,_,none,OU t,.none,rfl⟩
  ·subst hfr
   have fO:(p++[x])++l=rs:=by simpa using hpl
   have hx:x∈rs:=by rw [←hpl];simp
   have hT:iz rs=iz p+tot x+iz l:=by rw [←hpl];simp [iz];omega
   have a1:=hA.tt
   have a2:=hA.ln
   obtain ⟨c',e',vF⟩:=EJ (F:=F) (w:=w) (n:=n) hs hp ht hm hst hf hb ha yi hw c x t hA.fit (by rw [hA.dn];exact hc.1) (by omega) (by omega) (by omega) (hL x hx)
   have c2:=fun fr=>call2 (fr:=fr) e'
   refine cO (bind1 rfl qy) (ah (aW (by (repeat (first | array_get_dec | exact c2 _))) rfl rfl (ay ?_)))
   rw [cY]
   refine ⟨fO,?_,c',_,⟨vF.GX,vF.fit,?_,?_,?_,?_,vF.ln⟩,.val,rfl⟩
   ·have:=hc.2;simpa [bW] using this
   ·rw [vF.dn,hA.dn];simp [bW]
   ·rw [vF.Ck,hA.Ck];simp [dj]
   ·rw [vF.OR,hA.OR];exact Cq hc.1
   ·have:=vF.tt;simp [iz] at a1 ⊢;omega
  ·subst hfr
   simp at hpl
   subst hpl
   have sh:eT [some (.val (.int t.length)),some (.val (.lst (p.map aD))),some (.val (aD c)),a]=[some (.val (.int t.length)),some (.val (.lst (p.map aD))),some (.val (aD c)),a]:=by
    show _ :: _ :: _ :: [a.map Sl.dm]=_
    rw [b6 qy];rfl
   refine ah (bK (v:=aD c) (af:=[some (.val (.int t.length)),some (.val (.lst (p.map aD))),some (.val (aD c)),a]) ?_ ⟨c,hA,rfl,rfl⟩)
   rw [sh];exact az rfl
 obtain ⟨g,fr,e,c,hA,rfl,ho⟩:=key
 refine ⟨c,?_,hA⟩
 rw [run_eq hat rfl,e]
 simp only [xY]
 rw [show outs (jq cW gI).np fr=[] from ho]
end
end
end Pv
namespace Pv
section
variable {t:List Nat}{p q rs:List (List Pt)}{s e w x y c:List Pt}
end
open Ev (D bU bN TY BI ME T E Es Eo It S Ss Fn big deep b2i rep cz dP bL aU cut cS ek slots)
inductive Hd (L:List V):Sl→List (List V)→Prop
 | val:Hd L (.val (.lst L)) []
 | bor:Hd L (.bor L) [L]
section
variable {F:List Fn}{w n cC aJ di bw bT aY dN cg cW gI i:Nat}
section
variable (hs:F[aJ]?=some fT) (hp:F[cC]?=some iI) (ht:F[bw]?=some (kN cC aJ)) (hm:F[di]?=some tK)
 (hst:F[aY]?=some fH) (hf:F[bT]?=some (jO aY)) (hb:F[cg]?=some (jN aJ)) (ha:F[dN]?=some (nT aJ)) (yi:F[gI]?=some (kM dN cg bT aJ di bw)) (hno:F[cW]?=some (j4 bT)) (hw:5000<w)
include hs hp ht hm hst hf hb ha yi hno hw
end
end
end Pv
namespace Pv
open Ev (deep big rep cut bL)
noncomputable def aaj:At→Bool
 | .p _=>false
 | _=>true
theorem EN {a b:List Pt}(h:aB a=aB b):ak a=ak b:=(lQ a b).mpr (by simp only [jm,cU,cG,h])
noncomputable def kO:List At→Bool
 | .p _ :: _=>false
 | _=>true
structure Cut (c:List Pt) (p:Nat) (A B:List Pt):Prop where
 at_:aB A++aB B=aB (ak c)
 bA:aR A=p
 hd:kO (aB B)=true
 pA:∀ q∈A,0<q.n
 pB:∀ q∈B,0<q.n
 fA:kI A=true
 fB:kI B=true
section
variable {c A B:List Pt}{p:Nat}{t:List Nat}
end
end Pv
namespace Pv
open Ev (D bU bN TY BI ME T E Es Eo It S Ss Fn big deep rep cut bL)
noncomputable def zL (b8:Nat):S:=.ret (.cl b8 (.cons (.bin .add (.v 0) (.v 1)) .nil))
noncomputable def EO (b8:Nat):Fn:=⟨2,2,(.cons (zL b8) .nil)⟩
noncomputable def Cr (lT:Nat) (fJ:Nat):S:=.ret (.cl lT (.cons (.cl lT (.cons (.cl fJ (.cons (.v 0) .nil)) (.cons (.v 1) .nil))) (.cons (.cl fJ (.cons (.v 2) .nil)) .nil)))
noncomputable def K0 (lT:Nat) (fJ:Nat):Fn:=⟨3,3,(.cons (Cr lT fJ) .nil)⟩
section
variable {F:List Fn}{w n aJ aY bT cg cC bw cW vG TQ K3 i:Nat}
section
variable (hst:F[aY]?=some fH) (hf:F[bT]?=some (jO aY)) (hj:F[vG]?=some (EO bT)) (hn:F[cW]?=some (j4 bT)) (ha:F[K3]?=some (K0 vG cW))
include hst hf hj hn ha
end
end
end Pv
namespace Pv
open Ev (D bU bN TY BI ME T E Es Eo It S Ss Fn big deep rep cut bL)
structure CA (a:List At) (p:Nat) (x y:List At):Prop where
 ap:x++y=a
 ln:(aA x).length=p
 hd:kO y=true
theorem OV (c:List Pt):gp c=(tA 0 (aB c)).length:=by rw [←cG,lP]
section
variable {F:List Fn}{w n aJ aY bT cg dN cC bw TQ i:Nat}
end
end Pv
namespace Pv
open Ev (D bU bN TY BI ME T E Es Eo It S Ss Fn big deep rep cut bL)
abbrev Row:=List Nat×List Pt
noncomputable def oS (rs:List Row):List (List Pt):=rs.map Prod.snd
theorem K4 (a b:List Row):oS (a++b)=oS a++oS b:=List.map_append
noncomputable def who (st:List V) (o:List Nat):Tq→V
 | .at i=>st.getD i .bf
 | .sg _=>.str o
noncomputable def lef (st:List V) (r:Row):List V:=(told 0 r.2).map (who st r.1)
noncomputable def ows (st:List V) (rs:List Row):List V:=rs.foldl lef st
open Classical in
noncomputable def bE (t:List Nat) (a c:List Pt):List Pt:=if h:∃ X,Tn a c X t then h.choose else []
noncomputable def adO (K:List Row):Prop:=∀ A a b B,K=A++a :: b :: B→a.1≠b.1
structure Nm (t:List Nat) (rs K:List Row):Prop where
 ch:Ch t (oS K)
 tx:bW t (oS K)=bW t (oS rs)
 ow:∀ st:List V,st.length=t.length→ows st K=ows st rs
 fm:∀ q∈K,ak q.2=q.2∧0<cst q.2
 ad:adO K
 ln:K.length≤rs.length
 sb:∀ q∈K,∃ r∈rs,r.1=q.1
 tt:iz (oS K)≤iz (oS rs)
theorem lU (t:List Nat) (K:List Row) (r:Row):bW t (oS (K++[r]))=aC r.2 (bW t (oS K)):=by rw [K4,q9];rfl
section
variable {t:List Nat}{rs K:List Row}{o:List Nat}{c:List Pt}
end
end Pv
namespace Pv
open Ev (D bU bN TY BI ME T E Es Eo It S Ss Fn big deep rep cut bL)
inductive Pa (f:Bool):List At→List At→List At→Prop
 | nil:Pa f [] [] []
 | p1 {a b r:List At} {c:Nat}:(f=true∨kO b=true)→Pa f a b r→Pa f (.p c :: a) b (.p c :: r)
 | p2 {a b r:List At} {c:Nat}:(f=false∨kO a=true)→Pa f a b r→Pa f a (.p c :: b) (.k :: r)
 | kk {a b r:List At}:Pa f a b r→Pa f (.k :: a) (.k :: b) (.k :: r)
 | dk {a b r:List At} {c:Nat}:Pa f a b r→Pa f (.d c :: a) (.k :: b) (.d c :: r)
 | kd {a b r:List At} {c:Nat}:Pa f a b r→Pa f (.k :: a) (.d c :: b) r
 | dd {a b r:List At} {c e:Nat}:Pa f a b r→Pa f (.d c :: a) (.d e :: b) r
theorem tM {f:Bool}{a b:List At}{c d:Nat}(h:f=true∨kO (.p d :: b)=true) (h2:f=false∨kO (.p c :: a)=true):False:=by
 rcases h with rfl | h
 ·rcases h2 with h2 | h2
  ·cases h2
  ·simp [kO] at h2
 ·simp [kO] at h
theorem Pa.uniq {f:Bool}{a b r:List At}(h:Pa f a b r):∀ {r'},Pa f a b r'→r=r':=by
 induction h with
 | nil=>intro r' h';cases h';rfl
 | p1 hc h ih=>
  intro r' h'
  cases h' with
  | p1 _ h'=>rw [ih h']
  | p2 hc' h'=>exact (tM hc hc').elim
 | p2 hc h ih=>
  intro r' h'
  cases h' with
  | p1 hc' h'=>exact (tM hc' hc).elim
  | p2 _ h'=>rw [ih h']
 | kk h ih=>intro r' h';cases h' with | kk h'=>rw [ih h']
 | dk h ih=>intro r' h';cases h' with | dk h'=>rw [ih h']
 | kd h ih=>intro r' h';cases h' with | kd h'=>rw [ih h']
 | dd h ih=>intro r' h';cases h' with | dd h'=>rw [ih h']
theorem Pa.all (f:Bool):∀ (n:Nat) (a b:List At) (t:List Nat),a.length+b.length≤n→aF (aA a) t=true→aF (aA b) t=true→∃ r,Pa f a b r
 | 0,a,b,t,hn,_,_=>by
  obtain rfl:a=[]:=List.length_eq_zero_iff.mp (by omega)
  obtain rfl:b=[]:=List.length_eq_zero_iff.mp (by omega)
  exact ⟨[],.nil⟩
 | n+1,.p c :: a,b,t,hn,h1,h2=>by
  by_cases hc:f=true∨kO b=true
  ·obtain ⟨r,h⟩:=Pa.all f n a b t (by simp at hn;omega) h1 h2
   exact ⟨_,.p1 hc h⟩
  ·cases b with
   | nil=>exact (hc (.inr rfl)).elim
   | cons y b=>
    cases y with
    | k=>exact (hc (.inr rfl)).elim
    | d e=>exact (hc (.inr rfl)).elim
    | p e=>
     obtain ⟨r,h⟩:=Pa.all f n (.p c :: a) b t (by simp at hn ⊢;omega) h1 h2
     exact ⟨_,.p2 (.inl (by cases f <;> simp at hc ⊢)) h⟩
 | n+1,[],.p c :: b,t,hn,h1,h2=>by
  obtain ⟨r,h⟩:=Pa.all f n [] b t (by simp at hn ⊢;omega) h1 h2
  exact ⟨_,.p2 (.inr rfl) h⟩
 | n+1,.k :: a,.p c :: b,t,hn,h1,h2=>by
  obtain ⟨r,h⟩:=Pa.all f n (.k :: a) b t (by simp at hn ⊢;omega) h1 h2
  exact ⟨_,.p2 (.inr rfl) h⟩
 | n+1,.d e :: a,.p c :: b,t,hn,h1,h2=>by
  obtain ⟨r,h⟩:=Pa.all f n (.d e :: a) b t (by simp at hn ⊢;omega) h1 h2
  exact ⟨_,.p2 (.inr rfl) h⟩
 | n+1,[],[],t,_,_,_=>⟨[],.nil⟩
 | n+1,[],.k :: b,t,_,h1,h2=>by cases t <;> simp [aA,aF] at h1 h2
 | n+1,[],.d e :: b,t,_,h1,h2=>by cases t <;> simp [aA,aF] at h1 h2
 | n+1,.k :: a,[],t,_,h1,h2=>by cases t <;> simp [aA,aF] at h1 h2
 | n+1,.d e :: a,[],t,_,h1,h2=>by cases t <;> simp [aA,aF] at h1 h2
 | n+1,.k :: a,.k :: b,t,hn,h1,h2=>by
  cases t with
  | nil=>simp [aA,aF] at h1
  | cons x t=>
   simp only [aA,aF,Bool.and_eq_true] at h1 h2
   obtain ⟨r,h⟩:=Pa.all f n a b t (by simp at hn;omega) h1.2 h2.2
   exact ⟨_,.kk h⟩
 | n+1,.d e :: a,.k :: b,t,hn,h1,h2=>by
  cases t with
  | nil=>simp [aA,aF] at h1
  | cons x t=>
   simp only [aA,aF,Bool.and_eq_true] at h1 h2
   obtain ⟨r,h⟩:=Pa.all f n a b t (by simp at hn;omega) h1.2 h2.2
   exact ⟨_,.dk h⟩
 | n+1,.k :: a,.d c :: b,t,hn,h1,h2=>by
  cases t with
  | nil=>simp [aA,aF] at h1
  | cons x t=>
   simp only [aA,aF,Bool.and_eq_true] at h1 h2
   obtain ⟨r,h⟩:=Pa.all f n a b t (by simp at hn;omega) h1.2 h2.2
   exact ⟨_,.kd h⟩
 | n+1,.d e :: a,.d c :: b,t,hn,h1,h2=>by
  cases t with
  | nil=>simp [aA,aF] at h1
  | cons x t=>
   simp only [aA,aF,Bool.and_eq_true] at h1 h2
   obtain ⟨r,h⟩:=Pa.all f n a b t (by simp at hn;omega) h1.2 h2.2
   exact ⟨_,.dd h⟩
structure Jn (f:Bool) (a b l m:List At) (W:Nat→List Tq):Prop where
 bk:Pa (!f) b a m
 t1:∀ (i:Nat) (U:List Tq),(tA U.length m).map (sub (U++tA i a))=W i
 t2:∀ (i:Nat) (U:List Tq),(tA U.length l).map (sub (U++tA i b))=W i
 ft:∀ t:List Nat,aF (aA a) t=true→aF (aA b) t=true→aF (aA m) (dA a t)=true∧aF (aA l) (dA b t)=true∧dA m (dA a t)=dA l (dA b t)
theorem zM (U:List Tq) (q:Tq) (L m:List Tq):(Tq.at U.length :: m).map (sub (U++q :: L))=q :: m.map (sub ((U++[q])++L)):=by
 rw [List.map_cons,ni rfl];simp
theorem iJ (U:List Tq) (q:Tq):(U++[q]).length=U.length+1:=by simp
theorem Pa.join {f:Bool}{a b l:List At}(h:Pa f a b l):∃ m W,Jn f a b l m W:=by
 induction h with
 | nil=>exact ⟨[],fun _=>[],.nil,fun _ _=>rfl,fun _ _=>rfl,fun t h _=>by cases t <;> simp [aA,aF,dA] at h ⊢⟩
 | @p1 a b r c hc h ih=>
  obtain ⟨m,W,J⟩:=ih
  refine ⟨.k :: m,fun i=>.sg c :: W i,.p2 (hc.imp (fun z=>by rw [z];rfl) id) J.bk,fun i U=>?_,fun i U=>?_,fun t h1 h2=>?_⟩
  ·simp only [tA];rw [zM,←iJ U (.sg c),J.t1]
  ·simp only [tA,List.map_cons,sub];rw [J.t2]
  ·obtain ⟨g1,g2,g3⟩:=J.ft t h1 h2
   exact ⟨by simp only [aA,dA,aF];simp [g1],g2,by simp [dA,g3]⟩
 | @p2 a b r c hc h ih=>
  obtain ⟨m,W,J⟩:=ih
  refine ⟨.p c :: m,fun i=>.sg c :: W i,.p1 (hc.imp (fun z=>by rw [z];rfl) id) J.bk,fun i U=>?_,fun i U=>?_,fun t h1 h2=>?_⟩
  ·simp only [tA,List.map_cons,sub];rw [J.t1]
  ·simp only [tA];rw [zM,←iJ U (.sg c),J.t2]
  ·obtain ⟨g1,g2,g3⟩:=J.ft t h1 h2
   exact ⟨g1,by simp only [aA,dA,aF];simp [g2],by simp [dA,g3]⟩
 | @kk a b r h ih=>
  obtain ⟨m,W,J⟩:=ih
  refine ⟨.k :: m,fun i=>.at i :: W (i+1),.kk J.bk,fun i U=>?_,fun i U=>?_,fun t h1 h2=>?_⟩
  ·simp only [tA];rw [zM,←iJ U (.at i),J.t1]
  ·simp only [tA];rw [zM,←iJ U (.at i),J.t2]
  ·cases t with
   | nil=>simp [aA,aF] at h1
   | cons x t=>
    simp only [aA,aF,Bool.and_eq_true] at h1 h2
    obtain ⟨g1,g2,g3⟩:=J.ft t h1.2 h2.2
    exact ⟨by simp [aA,dA,aF,g1],by simp [aA,dA,aF,g2],by simp [dA,g3]⟩
 | @dk a b r c h ih=>
  obtain ⟨m,W,J⟩:=ih
  refine ⟨m,fun i=>W (i+1),.kd J.bk,fun i U=>?_,fun i U=>?_,fun t h1 h2=>?_⟩
  ·simp only [tA];exact J.t1 (i+1) U
  ·simp only [tA]
   have:=J.t2 (i+1) (U++[.at i])
   rw [iJ] at this
   rw [←this];simp
  ·cases t with
   | nil=>simp [aA,aF] at h1
   | cons x t=>
    simp only [aA,aF,Bool.and_eq_true] at h1 h2
    obtain ⟨g1,g2,g3⟩:=J.ft t h1.2 h2.2
    have hx:=h1.1
    simp at hx
    exact ⟨by simpa [dA] using g1,by simp [aA,dA,aF,g2,hx],by simpa [dA] using g3⟩
 | @kd a b r c h ih=>
  obtain ⟨m,W,J⟩:=ih
  refine ⟨.d c :: m,fun i=>W (i+1),.dk J.bk,fun i U=>?_,fun i U=>?_,fun t h1 h2=>?_⟩
  ·simp only [tA]
   have:=J.t1 (i+1) (U++[.at i])
   rw [iJ] at this
   rw [←this];simp
  ·simp only [tA];exact J.t2 (i+1) U
  ·cases t with
   | nil=>simp [aA,aF] at h1
   | cons x t=>
    simp only [aA,aF,Bool.and_eq_true] at h1 h2
    obtain ⟨g1,g2,g3⟩:=J.ft t h1.2 h2.2
    have hx:=h2.1
    simp at hx
    exact ⟨by simp [aA,dA,aF,g1,hx],by simpa [dA] using g2,by simpa [dA] using g3⟩
 | @dd a b r c e h ih=>
  obtain ⟨m,W,J⟩:=ih
  refine ⟨m,fun i=>W (i+1),.dd J.bk,fun i U=>?_,fun i U=>?_,fun t h1 h2=>?_⟩
  ·simp only [tA];exact J.t1 (i+1) U
  ·simp only [tA];exact J.t2 (i+1) U
  ·cases t with
   | nil=>simp [aA,aF] at h1
   | cons x t=>
    simp only [aA,aF,Bool.and_eq_true] at h1 h2
    obtain ⟨g1,g2,g3⟩:=J.ft t h1.2 h2.2
    exact ⟨by simpa [dA] using g1,by simpa [dA] using g2,by simpa [dA] using g3⟩
theorem Pa.VJ {f:Bool}:∀ (s:List Nat) {a b r:List At},(f=true∨kO b=true)→Pa f (s.map .p++a) b r→∃ r',r=s.map .p++r'∧Pa f a b r'
 | [],a,b,r,_,h=>⟨r,rfl,h⟩
 | c :: s,a,b,r,hc,h=>by
  rw [List.map_cons,List.cons_append] at h
  cases h with
  | p1 _ h=>
   obtain ⟨r',rfl,h'⟩:=Pa.VJ s hc h
   exact ⟨r',rfl,h'⟩
  | p2 hc' h=>exact (tM hc hc').elim
theorem Pa.VL {f:Bool}:∀ (s:List Nat) {a b r:List At},(f=false∨kO a=true)→Pa f a (s.map .p++b) r→∃ r',r=List.replicate s.length .k++r'∧Pa f a b r'
 | [],a,b,r,_,h=>⟨r,rfl,h⟩
 | c :: s,a,b,r,hc,h=>by
  rw [List.map_cons,List.cons_append] at h
  cases h with
  | p1 hc' h=>exact (tM hc' hc).elim
  | p2 _ h=>
   obtain ⟨r',rfl,h'⟩:=Pa.VL s hc h
   exact ⟨r',by simp [List.replicate_succ],h'⟩
theorem Pa.GU {f:Bool}:∀ (n:Nat) {a b r:List At},Pa f (List.replicate n .k++a) (List.replicate n .k++b) r→∃ r',r=List.replicate n .k++r'∧Pa f a b r'
 | 0,a,b,r,h=>⟨r,rfl,h⟩
 | n+1,a,b,r,h=>by
  rw [List.replicate_succ,List.cons_append,List.cons_append] at h
  cases h with
  | kk h=>obtain ⟨r',rfl,h'⟩:=Pa.GU n h;exact ⟨r',by simp [List.replicate_succ],h'⟩
theorem Pa.VM {f:Bool}:∀ (s:List Nat) {a b r:List At},Pa f (s.map .d++a) (List.replicate s.length .k++b) r→∃ r',r=s.map .d++r'∧Pa f a b r'
 | [],a,b,r,h=>⟨r,rfl,h⟩
 | c :: s,a,b,r,h=>by
  rw [List.map_cons,List.cons_append,List.length_cons,List.replicate_succ,List.cons_append] at h
  cases h with
  | dk h=>obtain ⟨r',rfl,h'⟩:=Pa.VM s h;exact ⟨r',rfl,h'⟩
theorem Pa.GV {f:Bool}:∀ (s:List Nat) {a b r:List At},Pa f (List.replicate s.length .k++a) (s.map .d++b) r→Pa f a b r
 | [],a,b,r,h=>h
 | c :: s,a,b,r,h=>by
  rw [List.map_cons,List.cons_append,List.length_cons,List.replicate_succ,List.cons_append] at h
  cases h with
  | kd h=>exact Pa.GV s h
theorem Pa.VN {f:Bool}:∀ (s u:List Nat) {a b r:List At},s.length=u.length→Pa f (s.map .d++a) (u.map .d++b) r→Pa f a b r
 | [],[],a,b,r,_,h=>h
 | [],_ :: _,_,_,_,hl,_=>by simp at hl
 | _ :: _,[],_,_,_,hl,_=>by simp at hl
 | c :: s,e :: u,a,b,r,hl,h=>by
  rw [List.map_cons,List.cons_append,List.map_cons,List.cons_append] at h
  cases h with
  | dd h=>exact Pa.VN s u (by simpa using hl) h
theorem Pa.two {f:Bool}{A B r:List At}(p q:Pt) (hp:eV p=false) (hq:eV q=false) (hn:p.n=q.n) (h:Pa f (p.aB++A) (q.aB++B) r):∃ r',r=aB (if cZ q then [p] else [])++r'∧Pa f A B r':=by
 cases p with
 | put s=>cases hp
 | keep k=>
  cases q with
  | put s=>cases hq
  | keep k'=>simp only [Pt.n] at hn;subst hn;obtain ⟨r',rfl,h'⟩:=Pa.GU k h;exact ⟨r',by simp [cZ,aB,Pt.aB],h'⟩
  | drop s=>simp only [Pt.n] at hn;subst hn;exact ⟨r,by simp [cZ,aB],Pa.GV s h⟩
 | drop s=>
  cases q with
  | put s=>cases hq
  | keep k'=>simp only [Pt.n] at hn;subst hn;obtain ⟨r',rfl,h'⟩:=Pa.VM s h;exact ⟨r',by simp [cZ,aB,Pt.aB],h'⟩
  | drop u=>simp only [Pt.n] at hn;exact ⟨r,by simp [cZ,aB],Pa.VN s u hn h⟩
noncomputable def kP:List Pt→Bool
 | .put _ :: _=>true
 | _=>false
theorem Cs {A:List Pt}(h:∀ p∈A,0<p.n):kO (aB A) = !kP A:=by
 cases A with
 | nil=>rfl
 | cons p A=>
  have hp:=h p (.head _)
  rw [bH]
  cases p with
  | keep k=>cases k with | zero=>simp [Pt.n] at hp | succ k=>rfl
  | drop s=>cases s with | nil=>simp [Pt.n] at hp | cons c s=>rfl
  | put s=>cases s with | nil=>simp [Pt.n] at hp | cons c s=>rfl
theorem OW {f:Bool}{q:Pt}{B:List Pt}{r:List At}(hq:eV q=false) (h0:0<q.n) (h:Pa f (aB []) (aB (q :: B)) r):False:=by
 rw [bH] at h
 cases q with
 | put s=>cases hq
 | keep k=>cases k with | zero=>simp [Pt.n] at h0 | succ k=>cases h
 | drop s=>cases s with | nil=>simp [Pt.n] at h0 | cons c s=>cases h
theorem OX {f:Bool}{q:Pt}{B:List Pt}{r:List At}(hq:eV q=false) (h0:0<q.n) (h:Pa f (aB (q :: B)) (aB []) r):False:=by
 rw [bH] at h
 cases q with
 | put s=>cases hq
 | keep k=>cases k with | zero=>simp [Pt.n] at h0 | succ k=>cases h
 | drop s=>cases s with | nil=>simp [Pt.n] at h0 | cons c s=>cases h
noncomputable def ER (lV:Nat):S:=.iff (.cl lV (.cons (.v 0) (.cons (.v 1) .nil))) (.cons (.fj) .nil) .nil
noncomputable def ES (b8:Nat):S:=.set 3 (.gQ (.rev (.cl b8 (.cons (.v 0) .nil))))
noncomputable def ET (b8:Nat):S:=.set 4 (.gQ (.rev (.cl b8 (.cons (.v 1) .nil))))
noncomputable def EU:S:=.set 5 (.lst .nil)
noncomputable def vH (ff:Nat) (bJ:Nat) (dY:Nat):Ss:=(.cons (.iff (.an (.cl ff (.cons (.v 3) .nil)) (.orr (.v 2) (.nt (.cl ff (.cons (.v 4) .nil))))) (.cons (.exp (.me .append (.v 5) (.cons (.me .pop (.v 3) .nil) .nil))) .nil) (.cons (.iff (.cl ff (.cons (.v 4) .nil)) (.cons (.exp (.me .append (.v 5) (.cons (.tup (.cons (.c (.str [107,101,101,112])) (.cons (.cl bJ (.cons (.me .pop (.v 4) .nil) .nil)) .nil))) .nil))) .nil) (.cons (.set 6 (.bi .min (.cons (.cl bJ (.cons (.ix (.v 3) (.neg (.c (.int 1)))) .nil)) (.cons (.cl bJ (.cons (.ix (.v 4) (.neg (.c (.int 1)))) .nil)) .nil)))) (.cons (.set 7 (.cl dY (.cons (.v 3) (.cons (.v 6) .nil)))) (.cons (.iff (.cmp .eq (.ix (.cl dY (.cons (.v 4) (.cons (.v 6) .nil))) (.c (.int 0))) (.c (.str [107,101,101,112]))) (.cons (.exp (.me .append (.v 5) (.cons (.v 7) .nil))) .nil) .nil) .nil)))) .nil)) .nil)
noncomputable def EV (ff:Nat) (bJ:Nat) (dY:Nat):S:=.mJ (.orr (.v 3) (.v 4)) (vH ff bJ dY)
noncomputable def EW (b8:Nat):S:=.ret (.cl b8 (.cons (.jb (.v 5)) .nil))
noncomputable def vI (lV:Nat) (b8:Nat) (ff:Nat) (bJ:Nat) (dY:Nat):Fn:=⟨3,8,(.cons (ER lV) (.cons (ES b8) (.cons (ET b8) (.cons EU (.cons (EV ff bJ dY) (.cons (EW b8) .nil))))))⟩
noncomputable def sP:S:=.ret (.an (.cmp .gt (.bi .len (.cons (.v 0) .nil)) (.c (.int 0))) (.cmp .eq (.ix (.ix (.v 0) (.neg (.c (.int 1)))) (.c (.int 0))) (.c (.str [112,117,116]))))
noncomputable def oU:Fn:=⟨1,1,(.cons sP .nil)⟩
section
variable {F:List Fn}{w n aJ aY bT cC bw fU kQ i:Nat}
theorem vJ (h:F[i]?=some oU) (A:List Pt):run F w (n+1) i [.bor (A.map Pt.v).reverse]=some (.bl (kP A),[(A.map Pt.v).reverse]):=by
 refine cD h rfl ?_
 cases A with
 | nil=>exact ah (bK (Yx (b:=false) (bY (fz (aN (az rfl) aO) jt) (bC rfl) DR) (fun h=>absurd h (by decide)) fun _=>⟨rfl,rfl⟩) ⟨rfl,rfl⟩)
 | cons p A=>
  rw [List.map_cons,List.reverse_cons]
  have gt:cop .gt (.int (((A.map Pt.v).reverse++[p.v]).length:Nat)) (.int 0)=some true:=by rw [DR];exact congrArg some (decide_eq_true (by simp))
  cases p with
  | keep k=>exact ah (bK (zp (bY (fz (aN (az rfl) aO) jt) (bC rfl) gt) (bY (dh (dh (az rfl) (lI (bC rfl)) dZ) (bC rfl) rfl) (bC rfl) lJ)) ⟨rfl,rfl⟩)
  | drop s=>exact ah (bK (zp (bY (fz (aN (az rfl) aO) jt) (bC rfl) gt) (bY (dh (dh (az rfl) (lI (bC rfl)) dZ) (bC rfl) rfl) (bC rfl) lJ)) ⟨rfl,rfl⟩)
  | put s=>exact ah (bK (zp (bY (fz (aN (az rfl) aO) jt) (bC rfl) gt) (bY (dh (dh (az rfl) (lI (bC rfl)) dZ) (bC rfl) rfl) (bC rfl) lJ)) ⟨rfl,rfl⟩)
theorem GY {P:aT}{g j:Nat}{fr:Fr}{v:V}{l l':List V}(e:fr[j]?=some (some (.own l))) (h:P g [.bor l]=some (v,[l'])):ez P g [.inl j] fr=.ok v (fr.set j (some (.own l'))):=by
 have e1:lent fr j=some (.bor l):=by rw [x6,e];rfl
 simp [ez,bR,args,e1,h,back,e,Sl.with]
noncomputable def fQ (one other:List Pt) (f:Bool) (A B C:List Pt) (a b:Option Sl):Fr:=[some (.val (aD one)),some (.val (aD other)),some (.val (.bl f)),some (.own (A.map Pt.v).reverse),some (.own (B.map Pt.v).reverse),some (.own (C.map Pt.v)),a,b]
noncomputable def VO (one other:List Pt) (f:Bool) (r:List At) (N k:Nat) (fr:Fr):Prop:=∃ A B C r' a b,Pa f (aB A) (aB B) r'∧aB C++r'=r∧(∀ p∈A,0<p.n)∧(∀ p∈B,0<p.n)∧C.length+k≤N∧k=tot A+tot B∧vo a∧vo b∧fr=fQ one other f A B C a b
noncomputable def VP (one other:List Pt) (f:Bool) (r:List At) (N t:Nat) (g:Fl) (fr:Fr):Prop:=g=.nx∧∃ j,j<t∧VO one other f r N j fr
theorem OY {C:List Pt}(lC:C.length≤5000) (d:Pt) (fr:Fr):gF .append 5 [d.v] fr (some (some (.own (C.map Pt.v))))=.ok .bf (fr.set 5 (some (.own ((C++[d]).map Pt.v)))):=by
 rw [List.map_append];exact iH (by simp;omega)
variable (hs:F[aJ]?=some fT) (hp:F[cC]?=some iI) (ht:F[bw]?=some (kN cC aJ)) (Ct:F[fU]?=some oU) {one other:List Pt}{f:Bool}{r:List At}{N:Nat}
include hs hp ht Ct
theorem Cu (hN:N≤5000) (A B C:List Pt) (r':List At) (a b:Option Sl) (hne:A≠[]∨B≠[]) (h:Pa f (aB A) (aB B) r') (hC:aB C++r'=r) (hA:∀ p∈A,0<p.n) (hB:∀ p∈B,0<p.n) (hk:C.length+(tot A+tot B)≤N) (ha:vo a) (hb:vo b) :
  Wp (exs (run F w (n+2)) w (vH fU aJ bw) (fQ one other f A B C a b)) (VP one other f r N (tot A+tot B)):=by
 have lC:C.length≤5000:=by omega
 have pA:∀ B C a b,ez (run F w (n+2)) fU [.inl 3] (fQ one other f A B C a b)=.ok (.bl (kP A)) (fQ one other f A B C a b):=fun B C a b=>GY (l:=(A.map Pt.v).reverse) rfl (vJ (w:=w) (n:=n+1) Ct A)
 have pB:∀ A C a b,ez (run F w (n+2)) fU [.inl 4] (fQ one other f A B C a b)=.ok (.bl (kP B)) (fQ one other f A B C a b):=fun A C a b=>GY (l:=(B.map Pt.v).reverse) rfl (vJ (w:=w) (n:=n+1) Ct B)
 have nA:=Cs hA
 have nB:=Cs hB
 by_cases c1:kP A=true∧(f=true∨kP B=false)
 ·obtain ⟨cA,cB⟩:=c1
  have t1:aM (run F w (n+2)) (.an (.cl fU (.cons (.v 3) .nil)) (.orr (.v 2) (.nt (.cl fU (.cons (.v 4) .nil))))) (fQ one other f A B C a b)=.ok true (fQ one other f A B C a b):=by
   refine gH (aH rfl (bh (jM rfl aP) (pA B C a b)) cA) ?_
   by_cases hf:f=true
   ·exact m7 (aH rfl (az rfl) hf)
   ·exact fR (aH rfl (az rfl) (by simpa using hf)) (tF (b:=false) (aH rfl (bh (jM rfl aP) (pB A C a b)) (cB.resolve_left hf)))
  refine ah (aL t1 (fun _=>?_) fun h=>absurd h (by decide))
  cases A with
  | nil=>cases cA
  | cons p A'=>
   cases p with
   | keep k=>cases cA
   | drop s=>cases cA
   | put s=>
    rw [bH] at h
    obtain ⟨r2,e2,h2⟩:=Pa.VJ s (by rw [nB];rcases cB with z | z <;> simp [z]) h
    have hs1:=hA (.put s) (.head _)
    unfold fQ
    rw [List.map_cons,List.reverse_cons]
    refine ah (dR (jh rfl rfl (aN (jh rfl rfl aO nO) aO) (OY lC (.put s) _)) (ay (ay ?_)))
    refine ⟨rfl,tot A'+tot B,by rw [aZ];omega,A',B,C++[.put s],r2,a,b,h2,?_,fun x hx=>hA x (.tail _ hx),hB,?_,rfl,ha,hb,rfl⟩
    ·rw [←hC,e2,fV];simp [aB,Pt.aB]
    ·rw [aZ] at hk;simp;omega
 ·have t1:aM (run F w (n+2)) (.an (.cl fU (.cons (.v 3) .nil)) (.orr (.v 2) (.nt (.cl fU (.cons (.v 4) .nil))))) (fQ one other f A B C a b)=.ok false (fQ one other f A B C a b):=by
   by_cases cA:kP A=true
   ·have cf:f=false:=by cases f with | false=>rfl | true=>exact (c1 ⟨cA,.inl rfl⟩).elim
    have cB:kP B=true:=by cases e:kP B with | true=>rfl | false=>exact (c1 ⟨cA,.inr e⟩).elim
    exact gH (aH rfl (bh (jM rfl aP) (pA B C a b)) cA) (fR (aH rfl (az rfl) cf) (tF (b:=true) (aH rfl (bh (jM rfl aP) (pB A C a b)) cB)))
   ·exact qh (aH rfl (bh (jM rfl aP) (pA B C a b)) (by simpa using cA))
  refine ah (aL t1 (fun h=>absurd h (by decide)) fun _=>?_)
  by_cases cB:kP B=true
  ·refine ah (aL (b:=true) (aH rfl (bh (jM rfl aP) (pB A C a b)) cB) (fun _=>?_) fun h=>absurd h (by decide))
   cases B with
   | nil=>cases cB
   | cons q B'=>
    cases q with
    | keep k=>cases cB
    | drop s=>cases cB
    | put s=>
     rw [bH] at h
     have TR:f=false∨kO (aB A)=true:=by
      rw [nA]
      cases e:kP A with
      | false=>exact .inr rfl
      | true=>exact .inl (by cases f with | false=>rfl | true=>exact (c1 ⟨e,.inl rfl⟩).elim)
     obtain ⟨r2,e2,h2⟩:=Pa.VL s TR h
     have hs1:=hB (.put s) (.head _)
     have sl:s.length≤5000:=by rw [aZ] at hk;simp [Pt.n] at hk;omega
     have z:=fun fr=>cE (fr:=fr) (gq (F:=F) (w:=w) (n:=n+1) hs (.put s) (by simp [Pt.n];omega))
     unfold fQ
     rw [List.map_cons,List.reverse_cons]
     refine ah (dR (jh rfl rfl (aN (ir (aN (bC rfl) (aN (bh (aS rfl (jh rfl rfl aO nO) aP) (z _)) aO)) j0) aO) (OY lC (.keep s.length) _)) (ay (ay (ay ?_))))
     refine ⟨rfl,tot A+tot B',by rw [aZ];omega,A,B',C++[.keep s.length],r2,a,b,h2,?_,hA,fun x hx=>hB x (.tail _ hx),?_,rfl,ha,hb,rfl⟩
     ·rw [←hC,e2,fV];simp [aB,Pt.aB]
     ·rw [aZ] at hk;simp [Pt.n] at hk hs1 ⊢;omega
  ·have cA:kP A=false:=by
    cases e:kP A with
    | false=>rfl
    | true=>exact (c1 ⟨e,.inr (by simpa using cB)⟩).elim
   refine ah (aL (b:=false) (aH rfl (bh (jM rfl aP) (pB A C a b)) (by simpa using cB)) (fun h=>absurd h (by decide)) fun _=>?_)
   cases A with
   | nil=>
    cases B with
    | nil=>exact absurd hne (by simp)
    | cons q B'=>exact (OW (by cases q <;> first | rfl | exact absurd rfl cB) (hB q (.head _)) h).elim
   | cons p A'=>
    have hpp:eV p=false:=by cases p <;> first | rfl | cases cA
    cases B with
    | nil=>exact (OX hpp (hA p (.head _)) h).elim
    | cons q B'=>
     have VQ:eV q=false:=by cases q <;> first | rfl | exact absurd rfl cB
     have hp0:=hA p (.head _)
     have AS:=hB q (.head _)
     obtain ⟨m,hm1,hm2,hm3⟩:∃ m:Nat,m≤p.n∧m≤q.n∧(m=p.n∨m=q.n):=⟨min p.n q.n,by omega,by omega,by omega⟩
     have mn:cX .min [.int p.n,.int q.n]=some (.int m):=by
      rw [BC]
      split
      ·congr 2;omega
      ·congr 2;omega
     rw [aZ,aZ] at hk
     have lA:=eK (c:=A') fun x hx=>hA x (.tail _ hx)
     have lB:=eK (c:=B') fun x hx=>hB x (.tail _ hx)
     have h3:Pa f ((p.tk m).aB++aB (iB m p++A')) ((q.tk m).aB++aB (iB m q++B')) r':=by
      rw [fV,fV,←List.append_assoc,←List.append_assoc,←nU hm1,←nU hm2,←bH,←bH];exact h
     obtain ⟨r2,e2,h4⟩:=Pa.two (p.tk m) (q.tk m) (by rw [nW.2];exact hpp) (by rw [nW.2];exact VQ) (by rw [(qx hm1).2,(qx hm2).2]) h3
     have z1:=fun fr=>cE (fr:=fr) (gq (F:=F) (w:=w) (n:=n+1) hs p (by omega))
     have z2:=fun fr=>cE (fr:=fr) (gq (F:=F) (w:=w) (n:=n+1) hs q (by omega))
     have k1:=j5 (F:=F) (w:=w) (n:=n) hs hp ht (A'.map Pt.v).reverse p m hm1 (by omega) (by simp;omega)
     have k2:=j5 (F:=F) (w:=w) (n:=n) hs hp ht (B'.map Pt.v).reverse q m hm2 (by omega) (by simp;omega)
     rw [←yh] at k1 k2
     have fin:∀ C' b',vo b'→aB C'++r2=r→C'.length≤C.length+1→VP one other f r N (tot (p :: A')+tot (q :: B')) .nx (fQ one other f (iB m p++A') (iB m q++B') C' (some (.val (.int m))) b'):=fun C' b' vb e3 e4=>by
      refine ⟨rfl,_,?_,_,_,_,r2,_,_,h4,e3,?_,?_,?_,rfl,.val,vb,rfl⟩
      ·rw [dX,dX,gY,gY,aZ,aZ];omega
      ·intro x hx
       rcases List.mem_append.mp hx with hx | hx
       ·exact nV m p x hx
       ·exact hA x (.tail _ hx)
      ·intro x hx
       rcases List.mem_append.mp hx with hx | hx
       ·exact nV m q x hx
       ·exact hB x (.tail _ hx)
      ·rw [dX,dX,gY,gY];omega
     unfold fQ
     rw [List.map_cons,List.reverse_cons,List.map_cons,List.reverse_cons]
     refine ah (aW (fz (aN (bh (aS rfl (dh (az rfl) (lI (bC rfl)) dZ) aP) (z1 _)) (aN (bh (aS rfl (dh (az rfl) (lI (bC rfl)) dZ) aP) (z2 _)) aO)) mn) rfl (iw rfl ha) ?_)
     refine ah (aW (bh (jM rfl (aS rfl (az rfl) aP)) (qw rfl k1)) rfl (iw rfl hb) ?_)
     cases q with
     | put s=>cases VQ
     | keep k=>
      have qz:r'=(p.tk m).aB++r2:=by rw [e2];simp [cZ,Pt.tk,aB]
      refine ah (aL (b:=true) (aH rfl (bY (dh (bh (jM rfl (aS rfl (az rfl) aP)) (qw rfl k2)) (bC rfl) rfl) (bC rfl) lJ) rfl) (fun _=>?_) fun h=>absurd h (by decide))
      refine ah (dR (jh rfl rfl (aN (az rfl) aO) (OY lC (p.tk m) _)) (ay (ay (ay (ay ?_)))))
      exact fin (C++[p.tk m]) _ .val (by rw [←hC,qz,fV];simp [aB]) (by simp)
     | drop s=>
      have qz:r'=r2:=by rw [e2];simp [cZ,Pt.tk,aB]
      refine ah (aL (b:=false) (aH rfl (bY (dh (bh (jM rfl (aS rfl (az rfl) aP)) (qw rfl k2)) (bC rfl) rfl) (bC rfl) lJ) rfl) (fun h=>absurd h (by decide)) fun _=>ay (ay (ay ?_)))
      exact ay (fin C _ .val (by rw [←hC,qz]) (by omega))
omit hs hp ht Ct in
theorem Pa.len {f:Bool}{a b r:List At}(h:Pa f a b r):r.length≤a.length+b.length:=by
 induction h with
 | nil=>exact Nat.le_refl _
 | p1 _ _ ih=>simp;omega
 | p2 _ _ ih=>simp;omega
 | kk _ ih=>simp;omega
 | dk _ ih=>simp;omega
 | kd _ ih=>simp;omega
 | dd _ ih=>simp;omega
theorem EX (hst:F[aY]?=some fH) (hf:F[bT]?=some (jO aY)) (hd:F[i]?=some (vI kQ bT fU aJ bw)) (hw:5000<w) (one other:List Pt) (f:Bool) (t:List Nat) (h1:aI one t=true) (h2:aI other t=true) (b1:tot one≤2000) (b2:tot other≤2000) (l1:one.length≤2000) (l2:other.length≤2000)
  (hcl:run F w (n+2) kQ [.val (aD one),.val (aD other)]=some (.lst [],[])) :
  ∃ ps,Pa f (aB (ak one)) (aB (ak other)) (aB ps)∧run F w (n+3) i [.val (aD one),.val (aD other),.val (.bl f)]=some (aD (ak ps),[]):=by
 have f1:aF (aA (aB (ak one))) t=true:=by rw [←cU,dg,←eg];exact h1
 have f2:aF (aA (aB (ak other))) t=true:=by rw [←cU,dg,←eg];exact h2
 obtain ⟨r,hr⟩:=Pa.all f _ _ _ t (Nat.le_refl _) f1 f2
 have c0:=fun fr=>call2 (fr:=fr) hcl
 have c3:=fun fr=>cE (fr:=fr) (eZ (F:=F) (w:=w) (n:=n) hst hf one (by omega) (by omega))
 have c4:=fun fr=>cE (fr:=fr) (eZ (F:=F) (w:=w) (n:=n) hst hf other (by omega) (by omega))
 have t1:=gr one
 have t2:=gr other
 have g1:=eK (fE (ef one))
 have g2:=eK (fE (ef other))
 have m1:dG ((ak one).map Pt.v).reverse=some (.lst ((ak one).map Pt.v).reverse):=fy (cy (by simp;omega))
 have m2:dG ((ak other).map Pt.v).reverse=some (.lst ((ak other).map Pt.v).reverse):=fy (cy (by simp;omega))
 have key:Wp (exs (run F w (n+2)) w (vI kQ bT fU aJ bw).body (eS (vI kQ bT fU aJ bw) [.val (aD one),.val (aD other),.val (.bl f)])) fun g fr=>∃ ps,aB ps=r∧g=.ret (aD (ak ps))∧outs 3 fr=[]:=by
  refine ah (aL (b:=false) (aH rfl (bh (aS rfl (az rfl) (aS rfl (az rfl) aP)) (c0 _)) rfl) (fun h=>absurd h (by decide)) fun _=>ay ?_)
  refine ah (fS (l:=((ak one).map Pt.v).reverse) (qg (qj (bh (aS rfl (az rfl) aP) (c3 _)) rfl) m1) rfl rfl ?_)
  refine ah (fS (l:=((ak other).map Pt.v).reverse) (qg (qj (bh (aS rfl (az rfl) aP) (c4 _)) rfl) m2) rfl rfl ?_)
  refine ah (fS (l:=[]) (eB aO fh) rfl rfl ?_)
  refine ah (GL (qe (VO one other f r (tot one+tot other)) (fun k fr hI=>?_) w (tot one+tot other) _ (by omega) ⟨ak one,ak other,[],r,none,none,hr,rfl,fE (ef one),fE (ef other),by simp,by omega,.none,.none,rfl⟩))
  obtain ⟨A,B,C,r',a,b,hT,hC,hA,hB,hk,hkk,qy,VR,rfl⟩:=hI
  by_cases hne:A≠[]∨B≠[]
  ·have ht1:aM (run F w (n+2)) (.orr (.v 3) (.v 4)) (fQ one other f A B C a b)=.ok true (fQ one other f A B C a b):=by
    cases A with
    | cons p A=>unfold fQ;rw [List.map_cons,List.reverse_cons];exact m7 (aH rfl (az rfl) iS)
    | nil=>
     cases B with
     | nil=>simp at hne
     | cons q B=>unfold fQ;rw [List.map_cons,List.reverse_cons];exact fR (aH rfl (az rfl) rfl) (aH rfl (az rfl) iS)
   refine ⟨true,_,ht1,?_⟩
   dsimp only
   rw [if_pos rfl]
   refine (Cu hs hp ht Ct (N:=tot one+tot other) (by omega) A B C r' a b hne hT hC hA hB (by omega) qy VR).mono fun g fr ⟨hg,hx⟩=>?_
   subst hg hkk
   exact hx
  ·obtain ⟨rfl,rfl⟩:A=[]∧B=[]:=by simpa using hne
   refine ⟨false,_,fR (aH rfl (az rfl) rfl) (aH rfl (az rfl) rfl),?_⟩
   dsimp only
   rw [if_neg (by decide)]
   cases hT
   rw [List.append_nil] at hC
   subst hC
   have lC:=hr.len
   rw [fW,fW,fW] at lC
   have mt:toT (.lst (C.map Pt.v))=some (aD C):=by rw [qW];exact jI (cy (by simp;omega))
   have c5:=fun fr=>cE (fr:=fr) (eZ (F:=F) (w:=w) (n:=n) hst hf C (by omega) (by omega))
   have sh:eT (fQ one other f [] [] C a b)=[some (.val (aD one)),some (.val (aD other)),some (.val (.bl f)),some (.val (.lst [])),some (.val (.lst [])),some (.val (.lst (C.map Pt.v))),a,b]:=by
    show _ :: _ :: _ :: _ :: _ :: _ :: [a.map Sl.dm,b.map Sl.dm]=_
    rw [b6 qy,b6 VR];rfl
   refine ah (bK (v:=aD (ak C)) (af:=[some (.val (aD one)),some (.val (aD other)),some (.val (.bl f)),some (.val (.lst [])),some (.val (.lst [])),some (.val (.lst (C.map Pt.v))),a,b]) ?_ ⟨C,rfl,rfl,rfl⟩)
   rw [sh]
   exact bh (aS rfl (tE (az rfl) mt) aP) (c5 _)
 obtain ⟨g,fr,e,ps,hps,hg,ho⟩:=key
 exact ⟨ps,hps▸hr,cD hd rfl ⟨g,fr,e,hg,ho⟩⟩
end
theorem OZ {one other ps:List Pt}{f:Bool}{t:List Nat}(h1:aI one t=true) (h2:aI other t=true) (h:Pa f (aB (ak one)) (aB (ak other)) (aB ps)):aI (ak ps) (aC other t)=true:=by
 obtain ⟨m,W,J⟩:=h.join
 have f1:aF (aA (aB (ak one))) t=true:=by rw [←cU,dg,←eg];exact h1
 have f2:aF (aA (aB (ak other))) t=true:=by rw [←cU,dg,←eg];exact h2
 rw [fP,eg,cU,←bX other,fc]
 exact (J.ft t f1 f2).2.1
noncomputable def pS:List At→List Nat
 | []=>[]
 | .p c :: a=>c :: pS a
 | _ :: a=>pS a
theorem qA:∀ a b:List At,pS (a++b)=pS a++pS b
 | [],_=>rfl
 | .k :: a,b=>qA a b
 | .d _ :: a,b=>qA a b
 | .p c :: a,b=>congrArg (c :: ·) (qA a b)
theorem GZ (n:Nat):pS (List.replicate n .k)=[]:=by
 induction n with
 | zero=>rfl
 | succ n ih=>exact ih
theorem Pa.zN {f:Bool}{a b r:List At}(h:Pa f a b r):pS r=pS a:=by
 induction h with
 | nil=>rfl
 | p1 _ _ ih=>exact congrArg (List.cons _) ih
 | p2 _ _ ih=>exact ih
 | kk _ ih=>exact ih
 | dk _ ih=>exact ih
 | kd _ ih=>exact ih
 | dd _ ih=>exact ih
noncomputable def O0:List Tq→List Nat
 | []=>[]
 | .sg c :: a=>c :: O0 a
 | _ :: a=>O0 a
theorem qB:∀ (a:List At) (i:Nat),pS a=O0 (tA i a)
 | [],_=>rfl
 | .k :: a,i=>qB a (i+1)
 | .d _ :: a,i=>qB a (i+1)
 | .p c :: a,i=>congrArg (c :: ·) (qB a i)
theorem K5 (c:List Pt):pS (aB (ak c))=pS (aB c):=by rw [qB _ 0,qB _ 0,←cG,←cG,bO]
noncomputable def nY:List (List Nat)→List (List Nat)→Nat
 | x :: a,y :: b=>(if x≠[]∧y≠[] then 1 else 0)+nY a b
 | _,_=>0
theorem Pa.cost {f:Bool}{a b r:List At}(h:Pa f a b r):cA a=cA r+nY (aA a) (aA b):=by
 induction h with
 | nil=>rfl
 | p1 _ _ ih=>simp only [cA,aA,ih];omega
 | p2 _ _ ih=>simp only [cA,aA,ih]
 | kk _ ih=>simp only [cA,aA,nY,ih];simp
 | dk _ ih=>simp only [cA,aA,nY,ih];simp;omega
 | kd _ ih=>simp only [cA,aA,nY,ih];simp
 | dd _ ih=>simp only [cA,aA,nY,ih];simp;omega
end Pv
namespace Pv
open Ev (D bU bN TY BI ME T E Es Eo It S Ss Fn big deep rep cut bL)
theorem K6 (k:List (Int×List Nat)) (p q:Int) (s:List Nat):Ev.fk (Ev.fK k p s) q=if q=p then some s else Ev.fk k q:=by
 unfold Ev.fK
 split
 ·rename_i h
  unfold Ev.fk
  induction k with
  | nil=>simp at h
  | cons x k ih=>
   simp only [List.map_cons,List.find?_cons]
   by_cases hx:x.1=p
   ·rw [if_pos hx]
    by_cases hq:q=p
    ·simp [hx,hq]
    ·have:¬ (x.1=q):=fun z=>hq (by rw [←z,hx])
     simp only [decide_eq_false this,if_neg hq]
     clear ih h
     induction k with
     | nil=>rfl
     | cons y k ih=>
      simp only [List.map_cons,List.find?_cons]
      by_cases hy:y.1=p
      ·rw [if_pos hy]
       have:¬ (y.1=q):=fun z=>hq (by rw [←z,hy])
       simp only [decide_eq_false this];exact ih
      ·rw [if_neg hy]
       by_cases hz:y.1=q
       ·simp [hz]
       ·simp only [decide_eq_false hz];exact ih
   ·rw [if_neg hx]
    by_cases hq:x.1=q
    ·have:¬ q=p:=fun z=>hx (by rw [hq,z])
     simp [hq,this]
    ·simp only [decide_eq_false hq]
     exact ih (by simpa [hx] using h)
 ·rename_i h
  unfold Ev.fk
  rw [List.find?_append]
  by_cases hq:q=p
  ·subst hq
   have:k.find? (fun x=>decide (x.1=q))=none:=by
    rw [List.find?_eq_none]
    intro x hx hz
    exact h (List.any_eq_true.mpr ⟨x,hx,hz⟩)
   rw [this];simp
  ·have:¬ p=q:=fun z=>hq z.symm
   simp [hq,this]
noncomputable def KI (t:List Nat) (k:List (Int×List Nat)):Prop:=∀ p s,Ev.fk k p=some s→∃ (i c:Nat),p=i∧t[i]?=some c∧s=[c]
theorem KI.put {t:List Nat}{k:List (Int×List Nat)}(h:KI t k) {i c:Nat}(hc:t[i]?=some c):KI t (Ev.fK k i [c]):=fun p s e=>by
 rw [K6] at e
 split at e
 ·rename_i hp;cases e;exact ⟨i,c,hp,hc,rfl⟩
 ·exact h p s e
theorem KI.zN {t:List Nat}:∀ (s:List Nat) {k:List (Int×List Nat)}(i:Nat),KI t k→(t.drop i).take s.length=s→KI t (jG k i s)
 | [],k,i,h,_=>h
 | c :: s,k,i,h,e=>by
  have hl:i<t.length:=by
   refine Nat.lt_of_not_le fun z=>?_
   rw [List.drop_eq_nil_of_le z] at e;simp at e
  rw [List.drop_eq_getElem_cons hl,List.length_cons,List.take_succ_cons,List.cons.injEq] at e
  have:=KI.zN s (i+1) (h.put (i:=i) (c:=c) (by rw [List.getElem?_eq_getElem hl,e.1])) e.2
  exact this
theorem vK:∀ (s:List Nat) (k:List (Int×List Nat)) (p:Int),(jG k p s).length≤k.length+s.length
 | [],k,p=>by simp [jG]
 | c :: s,k,p=>by
  have h1:=vK s (Ev.fK k p [c]) (p+1)
  have h2:(Ev.fK k p [c]).length≤k.length+1:=by unfold Ev.fK;split <;> simp
  rw [jG,List.length_cons];omega
noncomputable def nD:List Pt→Nat
 | []=>0
 | .drop s :: c=>s.length+nD c
 | _ :: c=>nD c
theorem tN:∀ (c:List Pt) (t:List Nat) (i:Nat) (k:List (Int×List Nat)),aI c (t.drop i)=true→KI t k→k.length+nD c≤1000→∃ k',bM (c.map Pt.v) i k=some k'∧KI t k'∧k'.length≤k.length+nD c
 | [],t,i,k,_,h,_=>⟨k,rfl,h,by omega⟩
 | .keep m :: c,t,i,k,hf,h,hb=>by
  have hf':aI c (t.drop (i+m))=true:=by simp only [aI,Bool.and_eq_true] at hf;have:=hf.2;rwa [List.drop_drop] at this
  obtain ⟨k',e1,e2,e3⟩:=tN c t (i+m) k hf' h hb
  refine ⟨k',?_,e2,e3⟩
  show bM (.tup [.str [107,101,101,112],.int m] :: c.map Pt.v) i k=_
  rw [bM,if_pos rfl,←e1];congr 1
 | .put s :: c,t,i,k,hf,h,hb=>by
  obtain ⟨k',e1,e2,e3⟩:=tN c t i k hf h hb
  refine ⟨k',?_,e2,e3⟩
  show bM (.tup [.str [112,117,116],.str s] :: c.map Pt.v) i k=_
  rw [bM,if_neg (by decide),if_neg (by decide)];exact e1
 | .drop s :: c,t,i,k,hf,h,hb=>by
  simp only [aI,Bool.and_eq_true,decide_eq_true_eq] at hf
  simp only [nD] at hb
  have hl:=vK s k i
  obtain ⟨k',e1,e2,e3⟩:=tN c t (i+s.length) (jG k i s) (by have:=hf.2;rwa [List.drop_drop] at this) (h.zN s i (List.prefix_iff_eq_take.mp (List.isPrefixOf_iff_prefix.mp hf.1)).symm) (by omega)
  refine ⟨k',?_,e2,by simp only [nD];omega⟩
  show bM (.tup [.str [100,114,111,112],.str s] :: c.map Pt.v) i k=_
  rw [bM,if_pos rfl,if_pos (by omega),←e1];congr 1
section
variable {F:List Fn}{w n i:Nat}
theorem qC (hd:F[i]?=some jF) (c:List Pt) (t:List Nat) (hf:aI c t=true) (b:nD c≤1000):∃ k,run F w (n+1) i [.val (aD c)]=some (.dct k,[])∧KI t k∧k.length≤nD c:=by
 obtain ⟨k,e1,e2,e3⟩:=tN c t 0 [] hf (fun p s e=>by cases e) (by simpa using b)
 refine ⟨k,?_,e2,by simpa using e3⟩
 have bad:exs (run F w n) w jF.body (eS jF [.val (aD c)])=.bad:=by
  show exs _ _ (.cons (.set 1 .iY) _) _=_
  rw [exs,ex,ev];rfl
 rw [run_eq hd rfl,bad]
 have fb:fin jF [.val (aD c)] .bad=xG jF [.val (aD c)]:=by simp only [fin]
 rw [fb]
 unfold xG
 rw [if_pos rfl]
 show (bM (c.map Pt.v) 0 []).map _=_
 have oE:bM (c.map Pt.v) 0 []=some k:=e1
 rw [oE];rfl
theorem EY {l:List Int}{x:Int}(h:x∈Ev.sortI l):x∈l:=by
 have ins:∀ (a:Int) (m:List Int),x∈Ev.insI a m→x=a∨x∈m:=fun a m=>by
  induction m with
  | nil=>intro h;simp [Ev.insI] at h;exact .inl h
  | cons b m ih=>
   intro h
   unfold Ev.insI at h
   split at h
   ·rcases List.mem_cons.mp h with h | h
    ·exact .inl h
    ·exact .inr h
   ·rcases List.mem_cons.mp h with h | h
    ·exact .inr (by rw [h];simp)
    ·rcases ih h with h | h
     ·exact .inl h
     ·exact .inr (.tail _ h)
 induction l with
 | nil=>simp [Ev.sortI] at h
 | cons a l ih=>
  rcases ins a _ h with h | h
  ·rw [h];simp
  ·exact .tail _ (ih h)
theorem EZ (l:List Int):(Ev.sortI l).length=l.length:=by
 have ins:∀ (a:Int) (m:List Int),(Ev.insI a m).length=m.length+1:=fun a m=>by
  induction m with
  | nil=>rfl
  | cons b m ih=>unfold Ev.insI;split <;> simp [ih]
 induction l with
 | nil=>rfl
 | cons a l ih=>rw [Ev.sortI,ins,ih];rfl
theorem K7 {k:List (Int×List Nat)}{p:Int}(h:p∈k.map (·.1)):∃ s,Ev.fk k p=some s:=by
 obtain ⟨x,hx,rfl⟩:=List.mem_map.mp h
 unfold Ev.fk
 cases e:k.find? (fun y=>decide (y.1=x.1)) with
 | none=>rw [List.find?_eq_none] at e;exact absurd (decide_eq_true rfl) (e x hx)
 | some y=>exact ⟨y.2,rfl⟩
noncomputable def vL (gu:Nat):S:=.iff (.cmp .ne (.cl gu (.cons (.v 0) .nil)) (.cl gu (.cons (.v 1) .nil))) (.cons (.fj) .nil) .nil
noncomputable def vM (dO:Nat):S:=.set 2 (.cl dO (.cons (.v 0) .nil))
noncomputable def vN (dO:Nat):S:=.set 3 (.cl dO (.cons (.v 1) .nil))
noncomputable def vO:S:=.ret (.comp (.v 4) (.one 4) (.seq (.bi .jV (.cons (.v 2) .nil))) (.yes (.cmp .ne (.lZ (.v 3) (.v 4) (.jX (.v 2) (.v 4))) (.jX (.v 2) (.v 4)))))
noncomputable def zO (gu:Nat) (dO:Nat):Fn:=⟨2,5,(.cons (vL gu) (.cons (vM dO) (.cons (vN dO) (.cons vO .nil))))⟩
theorem zP {aJ cg E1:Nat}(hs:F[aJ]?=some fT) (hb:F[cg]?=some (jN aJ)) (hd:F[E1]?=some jF) (hc:F[i]?=some (zO cg E1)) (one other:List Pt) (t:List Nat) (h1:aI one t=true) (h2:aI other t=true) (d1:nD one≤60) (d2:nD other≤60) (b1:tot one≤2000) (b2:tot other≤2000) (l1:one.length≤900) (l2:other.length≤900) :
  run F w (n+3) i [.val (aD one),.val (aD other)]=some (.lst [],[]):=by
 obtain ⟨k1,r1,K1,n1⟩:=qC (F:=F) (w:=w) (n:=n+1) hd one t h1 (by omega)
 obtain ⟨k2,r2,K2,n2⟩:=qC (F:=F) (w:=w) (n:=n+1) hd other t h2 (by omega)
 have r1:=fun fr=>cE (fr:=fr) r1
 have r2:=fun fr=>cE (fr:=fr) r2
 have c1:=fun fr=>cE (fr:=fr) (jl (F:=F) (w:=w) (n:=n) hs hb one (by omega) (by omega))
 have c2:=fun fr=>cE (fr:=fr) (jl (F:=F) (w:=w) (n:=n) hs hb other (by omega) (by omega))
 have e1:=gw h1
 have e2:=gw h2
 have ne:cop .ne (.int (aR one)) (.int (aR other))=some false:=by rw [tG,←e1,←e2];simp
 have so:cX .jV [.dct k1]=some (.lst ((Ev.sortI (k1.map (·.1))).map V.int)):=by
  delta cX;dsimp only
  show (if k1.length<64 then dG _ else none)=_
  rw [if_pos (by omega)]
  exact fy (cy (by rw [List.length_map,EZ,List.length_map];omega))
 refine cD hc rfl ?_
 refine ah (aL (b:=false) (aH rfl (bY (bh (aS rfl (az rfl) aP) (c1 _)) (bh (aS rfl (az rfl) aP) (c2 _)) ne) rfl) (fun h=>absurd h (by decide)) fun _=>ay ?_)
 refine ah (aW (bh (aS rfl (az rfl) aP) (r1 _)) rfl rfl ?_)
 refine ah (aW (bh (aS rfl (az rfl) aP) (r2 _)) rfl rfl ?_)
 refine ah (bK (jL (l:=[]) (ee (fz (aN (az rfl) aO) so) rfl) rfl ?_ fh) ⟨rfl,rfl⟩)
 have none_:∀ {f:V→Option (Option V)} (l:List Int),(∀ p∈l,f (.int p)=some none)→cT f (l.map V.int)=some []:=fun {f} l h=>by
  have:=mZ (f:=f) V.int (fun _=>false) (fun _=>V.bf) l fun a ha=>by rw [h a ha];rfl
  rw [this];simp
 refine none_ _ fun p hp=>?_
 obtain ⟨s,hv⟩:=K7 (EY hp)
 obtain ⟨j,c,rfl,hc1,rfl⟩:=K1 p s hv
 have g1:o8 (.dct k1) (.int j)=some (.str [c]):=by simp [o8,hv]
 have g2:o9 (.dct k2) (.int j) (.str [c])=some (.str [c]):=by
  cases e:Ev.fk k2 j with
  | none=>simp [o9,e]
  | some s2=>
   obtain ⟨j2,c',hj,hc2,rfl⟩:=K2 _ _ e
   have:j2=j:=by omega
   subst this
   rw [hc1] at hc2;cases hc2
   simp [o9,e]
 exact x9 (b:=false) (v:=.bf) (bZ:=[]) rfl (aH rfl (bY (TF (az rfl) (az rfl) (GJ (az rfl) (az rfl) g1) g2) (GJ (az rfl) (az rfl) g1) (by rw [iu];simp)) rfl) fun h=>absurd h (by decide)
end
theorem E2:∀ s:List Nat,pS (s.map .p)=s
 | []=>rfl
 | c :: s=>congrArg (c :: ·) (E2 s)
theorem E3:∀ s:List Nat,pS (s.map .d)=[]
 | []=>rfl
 | _ :: s=>E3 s
end Pv
namespace Pv
noncomputable def VS:At→Pt
 | .k=>.keep 1
 | .d c=>.drop [c]
 | .p c=>.put [c]
theorem ny:∀ r:List At,aB (r.map VS)=r
 | []=>rfl
 | .k :: r=>by rw [List.map_cons,bH,ny r];rfl
 | .d c :: r=>by rw [List.map_cons,bH,ny r];rfl
 | .p c :: r=>by rw [List.map_cons,bH,ny r];rfl
open Classical in
noncomputable def VT (f:Bool) (a b:List At):List At:=if h:∃ r,Pa f a b r then h.choose else []
noncomputable def ld (f:Bool) (one other:List Pt):List Pt:=ak ((VT f (aB (ak one)) (aB (ak other))).map VS)
theorem zQ {c:List Pt}{t:List Nat}(h:aI c t=true):aF (aA (aB (ak c))) t=true:=by rw [←cU,dg,←eg];exact h
theorem G0 {f:Bool}{one other ps:List Pt}(h:Pa f (aB (ak one)) (aB (ak other)) (aB ps)):ld f one other=ak ps:=by
 unfold ld
 refine EN ?_
 have h2:∃ r,Pa f (aB (ak one)) (aB (ak other)) r:=⟨_,h⟩
 rw [ny,VT,dif_pos h2]
 exact h2.choose_spec.uniq h
theorem zR (f:Bool) {one other:List Pt}{t:List Nat}(h1:aI one t=true) (h2:aI other t=true):∃ ps,Pa f (aB (ak one)) (aB (ak other)) (aB ps)∧ld f one other=ak ps:=by
 obtain ⟨r,h⟩:=Pa.all f _ _ _ t (Nat.le_refl _) (zQ h1) (zQ h2)
 rw [←ny r] at h
 exact ⟨_,h,G0 h⟩
theorem O1 {f:Bool}{one other one' other':List Pt}(h:ak one=ak one') (h2:ak other=ak other'):ld f one other=ld f one' other':=by unfold ld;rw [h,h2]
noncomputable def nP (c:List Pt):Nat:=(pS (aB c)).length
theorem iK (c:List Pt):nP (ak c)=nP c:=by unfold nP;rw [K5]
theorem ju (p:Pt) (c:List Pt):nP (p :: c)=(pS p.aB).length+nP c:=by unfold nP;rw [bH,qA,List.length_append]
theorem jQ:∀ c:List Pt,cst c=nD c+nP c
 | []=>rfl
 | .keep n :: c=>by rw [zE,ju,jQ c,Pt.aB,GZ];simp [nD]
 | .drop s :: c=>by rw [zF,ju,jQ c,Pt.aB,E3];simp [nD];omega
 | .put s :: c=>by rw [zG,ju,jQ c,Pt.aB,E2];simp [nD];omega
theorem qD:∀ c:List Pt,tot c=aR c+nP c
 | []=>rfl
 | .keep n :: c=>by rw [aZ,iP,ju,qD c,Pt.aB,GZ];simp [Pt.n];omega
 | .drop s :: c=>by rw [aZ,jn,ju,qD c,Pt.aB,E3];simp [Pt.n];omega
 | .put s :: c=>by rw [aZ,iQ,ju,qD c,Pt.aB,E2];simp [Pt.n];omega
theorem jw (c:List Pt):nD (ak c)=nD c:=by have h1:=jQ (ak c);have h2:=jQ c;rw [jP,iK] at h1;omega
theorem qE:∀ c:List Pt,nD c≤aR c
 | []=>Nat.zero_le _
 | .keep n :: c=>by rw [iP];have:=qE c;simp only [nD];omega
 | .drop s :: c=>by rw [jn];have:=qE c;simp only [nD];omega
 | .put s :: c=>by rw [iQ];have:=qE c;simp only [nD];omega
structure Ld (f:Bool) (one other l:List Pt) (t:List Nat):Prop where
 ft:aI l (aC other t)=true
 fm:ak l=l
 np:nP l=nP one
 nd:nD l≤nD one
theorem zS (f:Bool) {one other:List Pt}{t:List Nat}(h1:aI one t=true) (h2:aI other t=true):Ld f one other (ld f one other) t:=by
 obtain ⟨ps,p,e⟩:=zR f h1 h2
 rw [e]
 have n1:nP (ak ps)=nP one:=by rw [iK,←iK one];unfold nP;rw [p.zN]
 refine ⟨OZ h1 h2 p,cQ _,n1,?_⟩
 have c1:=p.cost
 rw [←kL,←kL,jP,jQ,jQ ps] at c1
 rw [iK] at n1
 rw [jw];omega
theorem O2 {one other:List Pt}{t:List Nat}(h1:aI one t=true) (h2:aI other t=true):aC (ld false other one) (aC one t)=aC (ld true one other) (aC other t)∧∀ T,dj T [one,ld false other one]=dj T [other,ld true one other]:=by
 obtain ⟨ps,p,e⟩:=zR true h1 h2
 obtain ⟨qs,q,e2⟩:=zR false h2 h1
 obtain ⟨m,W,J⟩:=p.join
 have em:=J.bk.uniq q
 rw [e,e2]
 refine ⟨?_,fun T=>?_⟩
 ·have:=(J.ft t (zQ h1) (zQ h2)).2.2
  rw [em,←fc,←fc,←fc,←fc,bX,bX] at this
  rw [bX,bX];exact this
 ·show (told 0 (ak qs)).map (sub ((told 0 one).map (sub T)))=(told 0 (ak ps)).map (sub ((told 0 other).map (sub T)))
  have a1:=J.t1 0 []
  have a2:=J.t2 0 []
  simp only [List.length_nil,List.nil_append] at a1 a2
  have a3:=a1.trans a2.symm
  rw [em,←cG,←cG,←cG,←cG,bO,bO] at a3
  rw [bO,bO,←pF,←pF,a3]
noncomputable def b9:List Pt→List (List Pt)→List Pt×List (List Pt)
 | c,[]=>(c,[])
 | c,o :: os=>((b9 (ld true c o) os).1,ld false o c :: (b9 (ld true c o) os).2)
noncomputable def cH (rs:List (List Pt)):Nat:=(rs.map nP).sum
theorem dw (c:List Pt) (rs:List (List Pt)):cH (c :: rs)=nP c+cH rs:=by simp [cH]
theorem kR (p q:List (List Pt)):cH (p++q)=cH p+cH q:=by simp [cH]
noncomputable def Fw (rs:List (List Pt)):Prop:=∀ c∈rs,ak c=c∧nD c≤60
structure Rp (c:List Pt) (os:List (List Pt)) (t:List Nat) (c':List Pt) (L:List (List Pt)):Prop where
 ft:aI c' (bW t os)=true
 ch:Ch (aC c t) L
 tx:bW (aC c t) L=aC c' (bW t os)
 tl:∀ T,dj T (c :: L)=dj T (os++[c'])
 ln:L.length=os.length
 pt:cH L=cH os
 fw:Fw os→Fw L
 np:nP c'=nP c
 nd:nD c'≤nD c
 fm:ak c=c→ak c'=c'
theorem nZ:∀ (os:List (List Pt)) (c:List Pt) (t:List Nat),aI c t=true→Ch t os→Rp c os t (b9 c os).1 (b9 c os).2
 | [],c,t,h,_=>⟨h,trivial,rfl,fun _=>rfl,rfl,rfl,fun h=>h,rfl,Nat.le_refl _,fun h=>h⟩
 | o :: os,c,t,h,hc=>by
  have l1:=zS true h hc.1
  have l2:=zS false hc.1 h
  obtain ⟨d1,d2⟩:=O2 h hc.1
  have R:=nZ os (ld true c o) (aC o t) l1.ft hc.2
  refine ⟨R.ft,⟨l2.ft,by rw [d1];exact R.ch⟩,?_,fun T=>?_,by rw [List.length_cons,←R.ln];rfl,?_,fun F x hx=>?_,R.np.trans l1.np,Nat.le_trans R.nd l1.nd,fun _=>R.fm l1.fm⟩
  ·show bW (aC (ld false o c) (aC c t)) _=_
   rw [d1];exact R.tx
  ·show dj (dj T [c,ld false o c]) (b9 (ld true c o) os).2=dj (dj T [o]) (os++[(b9 (ld true c o) os).1])
   rw [d2,←R.tl];rfl
  ·show cH (ld false o c :: (b9 (ld true c o) os).2)=_
   rw [dw,dw,R.pt,l2.np]
  ·rcases List.mem_cons.mp hx with rfl | hx
   ·exact ⟨l2.fm,Nat.le_trans l2.nd (F o (.head _)).2⟩
   ·exact R.fw (fun y hy=>F y (.tail _ hy)) x hx
noncomputable def bq:List (List Pt)→List (List Pt)→List (List Pt)×List (List Pt)
 | [],os=>([],os)
 | a :: as,os=>((b9 (ak a) os).1 :: (bq as (b9 (ak a) os).2).1,(bq as (b9 (ak a) os).2).2)
structure Rs (as os:List (List Pt)) (t:List Nat) (M Y:List (List Pt)):Prop where
 c1:Ch (bW t os) M
 c2:Ch (bW t as) Y
 tl:∀ T,dj T (as++Y)=dj T (os++M)
 l1:M.length=as.length
 l2:Y.length=os.length
 p1:cH M=cH as
 p2:cH Y=cH os
 f1:(∀ c∈as,nD c≤60)→Fw M
 f2:Fw os→Fw Y
theorem vP:∀ (as os:List (List Pt)) (t:List Nat),Ch t as→Ch t os→Rs as os t (bq as os).1 (bq as os).2
 | [],os,t,_,h=>⟨trivial,h,fun T=>by simp [bq],rfl,rfl,rfl,rfl,(fun _ x hx=>by cases hx),fun h=>h⟩
 | a :: as,os,t,ha,h=>by
  have fa:aI (ak a) t=true:=by rw [fP];exact ha.1
  have R:=nZ os (ak a) t fa h
  have S:=vP as (b9 (ak a) os).2 (aC a t) ha.2 (by have:=R.ch;rwa [bX] at this)
  have tx:=R.tx
  rw [bX] at tx
  refine ⟨⟨R.ft,by rw [←tx];exact S.c1⟩,S.c2,fun T=>?_,by rw [List.length_cons,←S.l1];rfl,S.l2.trans R.ln,?_,S.p2.trans R.pt,fun F x hx=>?_,fun F=>S.f2 (R.fw F)⟩
  ·show dj (dj T [a]) (as++(bq as (b9 (ak a) os).2).2)=_
   rw [S.tl,nX]
   have e:dj (dj T [a]) (b9 (ak a) os).2=dj T (os++[(b9 (ak a) os).1]):=by
    rw [←R.tl]
    show dj ((told 0 a).map (sub T)) _=dj ((told 0 (ak a)).map (sub T)) _
    rw [bO]
   rw [e,←nX,List.append_assoc];rfl
  ·show cH ((b9 (ak a) os).1 :: (bq as (b9 (ak a) os).2).1)=_
   rw [dw,dw,S.p1,R.np,iK]
  ·rcases List.mem_cons.mp hx with rfl | hx
   ·refine ⟨R.fm (cQ a),Nat.le_trans R.nd ?_⟩
    rw [jw];exact F a (.head _)
   ·exact S.f1 (fun y hy=>F y (.tail _ hy)) x hx
theorem tO:∀ (a:List At) (i:Nat),(tA i a).length≤a.length
 | [],_=>Nat.le_refl _
 | .k :: a,i=>Nat.succ_le_succ (tO a (i+1))
 | .d _ :: a,i=>Nat.le_succ_of_le (tO a (i+1))
 | .p _ :: a,i=>Nat.succ_le_succ (tO a i)
theorem jx {c:List Pt}{t:List Nat}(h:aI c t=true):(aC c t).length≤t.length+nP c∧tot c=t.length+nP c:=by
 have h1:=qD c
 have h2:=gw h
 have h3:gp c≤tot c:=by rw [OV,←fW];exact tO _ _
 rw [lR h]
 exact ⟨by omega,by omega⟩
theorem lW:∀ {rs:List (List Pt)}{t:List Nat},Ch t rs→(bW t rs).length≤t.length+cH rs∧∀ c∈rs,tot c≤t.length+cH rs
 | [],t,_=>⟨by simp [bW,cH],fun c hc=>by cases hc⟩
 | c :: rs,t,h=>by
  obtain ⟨d1,d2⟩:=jx h.1
  obtain ⟨h1,h2⟩:=lW h.2
  rw [dw]
  refine ⟨by show (bW (aC c t) rs).length≤_;omega,fun x hx=>?_⟩
  rcases List.mem_cons.mp hx with rfl | hx
  ·omega
  ·have:=h2 x hx;omega
theorem rj {b:Nat}:∀ {rs:List (List Pt)},(∀ c∈rs,tot c≤b)→iz rs≤rs.length*b
 | [],_=>by simp [iz]
 | c :: rs,h=>by
  have h1:=rj (b:=b) (rs:=rs) fun x hx=>h x (.tail _ hx)
  have h2:=h c (.head _)
  simp only [iz,List.map_cons,List.sum_cons,List.length_cons,Nat.add_mul,Nat.one_mul] at h1 ⊢
  omega
end Pv
set_option maxRecDepth 100000
namespace Lw
@[reducible] noncomputable def YC:Ev.S:=.iff (.cmp .eq (.ix (.v 0) (.c (.int 0))) (.c (.str [107,101,101,112]))) (.cons (.ret (.ix (.v 0) (.c (.int 1)))) .nil) .nil
@[reducible] noncomputable def YD:Ev.S:=.ret (.bi .len (.cons (.ix (.v 0) (.c (.int 1))) .nil))
@[reducible] noncomputable def f0:Ev.Fn:=⟨1,1,(.cons YC (.cons YD .nil))⟩
@[reducible] noncomputable def YE:Ev.S:=.ret (.bi .sum (.cons (.comp (.cl 0 (.cons (.v 1) .nil)) (.one 1) (.seq (.v 0)) (.yes (.cmp .ne (.ix (.v 1) (.c (.int 0))) (.c (.str [112,117,116]))))) .nil))
@[reducible] noncomputable def f1:Ev.Fn:=⟨1,2,(.cons YE .nil)⟩
@[reducible] noncomputable def YF:Ev.S:=.ret (.bi .sum (.cons (.comp (.cl 0 (.cons (.v 1) .nil)) (.one 1) (.seq (.v 0)) (.yes (.cmp .ne (.ix (.v 1) (.c (.int 0))) (.c (.str [100,114,111,112]))))) .nil))
@[reducible] noncomputable def f2:Ev.Fn:=⟨1,2,(.cons YF .nil)⟩
@[reducible] noncomputable def YG:Ev.S:=.set 1 (.lst .nil)
@[reducible] noncomputable def YH:Ev.S:=.set 2 (.c (.int 0))
@[reducible] noncomputable def YI:Ev.S:=.set 3 (.c (.str []))
@[reducible] noncomputable def YJ:Ev.S:=.set 4 (.c (.str []))
@[reducible] noncomputable def YK:Ev.Ss:=(.cons (.iff (.cmp .eq (.v 5) (.c (.str [100,114,111,112]))) (.cons (.set 3 (.bin .add (.v 3) (.v 6))) .nil) (.cons (.iff (.cmp .eq (.v 5) (.c (.str [112,117,116]))) (.cons (.set 4 (.bin .add (.v 4) (.v 6))) .nil) (.cons (.iff (.cmp .gt (.v 6) (.c (.int 0))) (.cons (.iff (.orr (.cmp .ne (.v 3) (.c (.str []))) (.cmp .ne (.v 4) (.c (.str [])))) (.cons (.exp (.me .extend (.v 1) (.cons (.cl 4 (.cons (.v 2) (.cons (.v 3) (.cons (.v 4) .nil)))) .nil))) (.cons (.set 2 (.c (.int 0))) (.cons (.set 3 (.c (.str []))) (.cons (.set 4 (.c (.str []))) .nil)))) .nil) (.cons (.set 2 (.bin .add (.v 2) (.v 6))) .nil)) .nil) .nil)) .nil)) .nil)
@[reducible] noncomputable def YL:Ev.S:=.for (.many [5,6]) (.seq (.v 0)) YK
@[reducible] noncomputable def YM:Ev.S:=.exp (.me .extend (.v 1) (.cons (.cl 4 (.cons (.v 2) (.cons (.v 3) (.cons (.v 4) .nil)))) .nil))
@[reducible] noncomputable def YN:Ev.S:=.ret (.jb (.v 1))
@[reducible] noncomputable def f3:Ev.Fn:=⟨1,7,(.cons YG (.cons YH (.cons YI (.cons YJ (.cons YL (.cons YM (.cons YN .nil)))))))⟩
@[reducible] noncomputable def YO:Ev.S:=.set 3 (.lst .nil)
@[reducible] noncomputable def YQ:Ev.S:=.iff (.cmp .gt (.v 0) (.c (.int 0))) (.cons (.exp (.me .append (.v 3) (.cons (.tup (.cons (.c (.str [107,101,101,112])) (.cons (.v 0) .nil))) .nil))) .nil) .nil
@[reducible] noncomputable def YR:Ev.S:=.iff (.cmp .ne (.v 1) (.c (.str []))) (.cons (.exp (.me .append (.v 3) (.cons (.tup (.cons (.c (.str [100,114,111,112])) (.cons (.v 1) .nil))) .nil))) .nil) .nil
@[reducible] noncomputable def YS:Ev.S:=.iff (.cmp .ne (.v 2) (.c (.str []))) (.cons (.exp (.me .append (.v 3) (.cons (.tup (.cons (.c (.str [112,117,116])) (.cons (.v 2) .nil))) .nil))) .nil) .nil
@[reducible] noncomputable def YT:Ev.S:=.ret (.v 3)
@[reducible] noncomputable def f4:Ev.Fn:=⟨3,4,(.cons YO (.cons YQ (.cons YR (.cons YS (.cons YT .nil)))))⟩
@[reducible] noncomputable def YU:Ev.S:=.set 2 (.c (.int 0))
@[reducible] noncomputable def YV:Ev.Ss:=(.cons (.iff (.an (.cmp .eq (.ix (.v 3) (.c (.int 0))) (.c (.str [100,114,111,112]))) (.cmp .ne (.sl (.v 1) (.yes (.v 2)) (.yes (.bin .add (.v 2) (.cl 0 (.cons (.v 3) .nil))))) (.ix (.v 3) (.c (.int 1))))) (.cons (.ret (.c (.bl false))) .nil) .nil) (.cons (.iff (.cmp .ne (.ix (.v 3) (.c (.int 0))) (.c (.str [112,117,116]))) (.cons (.set 2 (.bin .add (.v 2) (.cl 0 (.cons (.v 3) .nil)))) .nil) .nil) .nil))
@[reducible] noncomputable def YW:Ev.S:=.for (.one 3) (.seq (.v 0)) YV
@[reducible] noncomputable def YX:Ev.S:=.ret (.cmp .eq (.v 2) (.bi .len (.cons (.v 1) .nil)))
@[reducible] noncomputable def f5:Ev.Fn:=⟨2,4,(.cons YU (.cons YW (.cons YX .nil)))⟩
@[reducible] noncomputable def YY:Ev.S:=.iff (.nt (.cl 5 (.cons (.v 0) (.cons (.v 1) .nil)))) (.cons (.fj) .nil) .nil
@[reducible] noncomputable def YZ:Ev.S:=.set 2 (.lst .nil)
@[reducible] noncomputable def Y0:Ev.S:=.set 3 (.c (.int 0))
@[reducible] noncomputable def Y3:Ev.Ss:=(.cons (.iff (.cmp .eq (.v 4) (.c (.str [112,117,116]))) (.cons (.exp (.me .append (.v 2) (.cons (.v 5) .nil))) .nil) (.cons (.iff (.cmp .eq (.v 4) (.c (.str [100,114,111,112]))) (.cons (.set 3 (.bin .add (.v 3) (.bi .len (.cons (.v 5) .nil)))) .nil) (.cons (.exp (.me .append (.v 2) (.cons (.sl (.v 1) (.yes (.v 3)) (.yes (.bin .add (.v 3) (.v 5)))) .nil))) (.cons (.set 3 (.bin .add (.v 3) (.v 5))) .nil))) .nil)) .nil)
@[reducible] noncomputable def Y4:Ev.S:=.for (.many [4,5]) (.seq (.v 0)) Y3
@[reducible] noncomputable def Y5:Ev.S:=.ret (.me .join (.c (.str [])) (.cons (.v 2) .nil))
@[reducible] noncomputable def f6:Ev.Fn:=⟨2,6,(.cons YY (.cons YZ (.cons Y0 (.cons Y4 (.cons Y5 .nil)))))⟩
@[reducible] noncomputable def Y6:Ev.S:=.ret (.cl 3 (.cons (.tup (.cons (.tup (.cons (.c (.str [107,101,101,112])) (.cons (.v 0) .nil))) .nil)) .nil))
@[reducible] noncomputable def f7:Ev.Fn:=⟨1,1,(.cons Y6 .nil)⟩
@[reducible] noncomputable def Y7:Ev.S:=.iff (.cmp .ne (.cl 2 (.cons (.v 0) .nil)) (.cl 1 (.cons (.v 1) .nil))) (.cons (.fj) .nil) .nil
@[reducible] noncomputable def Y8:Ev.S:=.set 2 (.gQ (.rev (.cl 3 (.cons (.v 0) .nil))))
@[reducible] noncomputable def Y9:Ev.S:=.set 3 (.gQ (.rev (.cl 3 (.cons (.v 1) .nil))))
@[reducible] noncomputable def Za:Ev.S:=.set 4 (.lst .nil)
@[reducible] noncomputable def Zb:Ev.Ss:=(.cons (.iff (.an (.v 2) (.cmp .eq (.ix (.ix (.v 2) (.neg (.c (.int 1)))) (.c (.int 0))) (.c (.str [100,114,111,112])))) (.cons (.exp (.me .append (.v 4) (.cons (.me .pop (.v 2) .nil) .nil))) .nil) (.cons (.iff (.an (.v 3) (.cmp .eq (.ix (.ix (.v 3) (.neg (.c (.int 1)))) (.c (.int 0))) (.c (.str [112,117,116])))) (.cons (.exp (.me .append (.v 4) (.cons (.me .pop (.v 3) .nil) .nil))) .nil) (.cons (.set 5 (.bi .min (.cons (.cl 0 (.cons (.ix (.v 2) (.neg (.c (.int 1)))) .nil)) (.cons (.cl 0 (.cons (.ix (.v 3) (.neg (.c (.int 1)))) .nil)) .nil)))) (.cons (.exp (.me .extend (.v 4) (.cons (.cl 10 (.cons (.cl 11 (.cons (.v 2) (.cons (.v 5) .nil))) (.cons (.cl 11 (.cons (.v 3) (.cons (.v 5) .nil))) .nil))) .nil))) .nil))) .nil)) .nil)
@[reducible] noncomputable def Zc:Ev.S:=.mJ (.orr (.v 2) (.v 3)) Zb
@[reducible] noncomputable def Zd:Ev.S:=.ret (.cl 3 (.cons (.jb (.v 4)) .nil))
@[reducible] noncomputable def f8:Ev.Fn:=⟨2,6,(.cons Y7 (.cons Y8 (.cons Y9 (.cons Za (.cons Zc (.cons Zd .nil))))))⟩
@[reducible] noncomputable def Ze:Ev.S:=.set 2 (.cl 7 (.cons (.v 0) .nil))
@[reducible] noncomputable def Zf:Ev.Ss:=(.cons (.set 2 (.cl 8 (.cons (.v 2) (.cons (.v 3) .nil)))) .nil)
@[reducible] noncomputable def Zg:Ev.S:=.for (.one 3) (.seq (.v 1)) Zf
@[reducible] noncomputable def Zh:Ev.S:=.ret (.v 2)
@[reducible] noncomputable def f9:Ev.Fn:=⟨2,4,(.cons Ze (.cons Zg (.cons Zh .nil)))⟩
@[reducible] noncomputable def TU:Ev.S:=.iff (.cmp .eq (.ix (.v 1) (.c (.int 0))) (.c (.str [107,101,101,112]))) (.cons (.ret (.lst (.cons (.v 0) .nil))) .nil) .nil
@[reducible] noncomputable def TV:Ev.S:=.iff (.cmp .eq (.ix (.v 0) (.c (.int 0))) (.c (.str [107,101,101,112]))) (.cons (.ret (.lst (.cons (.v 1) .nil))) .nil) .nil
@[reducible] noncomputable def TX:Ev.S:=.iff (.cmp .ne (.ix (.v 0) (.c (.int 1))) (.ix (.v 1) (.c (.int 1)))) (.cons (.fj) .nil) .nil
@[reducible] noncomputable def TZ:Ev.S:=.ret (.lst .nil)
@[reducible] noncomputable def Gi:Ev.Fn:=⟨2,2,(.cons TU (.cons TV (.cons TX (.cons TZ .nil))))⟩
@[reducible] noncomputable def T3:Ev.S:=.set 2 (.cl 12 (.cons (.me .pop (.v 0) .nil) (.cons (.v 1) .nil)))
@[reducible] noncomputable def T4:Ev.S:=.iff (.cmp .gt (.cl 0 (.cons (.ix (.v 2) (.c (.int 1))) .nil)) (.c (.int 0))) (.cons (.exp (.me .append (.v 0) (.cons (.ix (.v 2) (.c (.int 1))) .nil))) .nil) .nil
@[reducible] noncomputable def T5:Ev.S:=.ret (.ix (.v 2) (.c (.int 0)))
@[reducible] noncomputable def VU:Ev.Fn:=⟨2,3,(.cons T3 (.cons T4 (.cons T5 .nil)))⟩
@[reducible] noncomputable def T6:Ev.S:=.set 2 (.ix (.v 0) (.c (.int 0)))
@[reducible] noncomputable def T7:Ev.S:=.iff (.cmp .eq (.v 2) (.c (.str [107,101,101,112]))) (.cons (.ret (.tup (.cons (.tup (.cons (.v 2) (.cons (.v 1) .nil))) (.cons (.tup (.cons (.v 2) (.cons (.bin .sub (.ix (.v 0) (.c (.int 1))) (.v 1)) .nil))) .nil)))) .nil) .nil
@[reducible] noncomputable def T8:Ev.S:=.ret (.tup (.cons (.tup (.cons (.v 2) (.cons (.sl (.ix (.v 0) (.c (.int 1))) .no (.yes (.v 1))) .nil))) (.cons (.tup (.cons (.v 2) (.cons (.sl (.ix (.v 0) (.c (.int 1))) (.yes (.v 1)) .no) .nil))) .nil)))
@[reducible] noncomputable def VV:Ev.Fn:=⟨2,3,(.cons T6 (.cons T7 (.cons T8 .nil)))⟩
@[reducible] noncomputable def T9:Ev.S:=.iff (.cl 15 (.cons (.v 0) (.cons (.v 1) .nil))) (.cons (.fj) .nil) .nil
@[reducible] noncomputable def Ua:Ev.S:=.set 3 (.gQ (.rev (.cl 3 (.cons (.v 0) .nil))))
@[reducible] noncomputable def Ub:Ev.S:=.set 4 (.gQ (.rev (.cl 3 (.cons (.v 1) .nil))))
@[reducible] noncomputable def Uc:Ev.S:=.set 5 (.lst .nil)
@[reducible] noncomputable def Ud:Ev.Ss:=(.cons (.iff (.an (.cl 14 (.cons (.v 3) .nil)) (.orr (.v 2) (.nt (.cl 14 (.cons (.v 4) .nil))))) (.cons (.exp (.me .append (.v 5) (.cons (.me .pop (.v 3) .nil) .nil))) .nil) (.cons (.iff (.cl 14 (.cons (.v 4) .nil)) (.cons (.exp (.me .append (.v 5) (.cons (.tup (.cons (.c (.str [107,101,101,112])) (.cons (.cl 0 (.cons (.me .pop (.v 4) .nil) .nil)) .nil))) .nil))) .nil) (.cons (.set 6 (.bi .min (.cons (.cl 0 (.cons (.ix (.v 3) (.neg (.c (.int 1)))) .nil)) (.cons (.cl 0 (.cons (.ix (.v 4) (.neg (.c (.int 1)))) .nil)) .nil)))) (.cons (.set 7 (.cl 11 (.cons (.v 3) (.cons (.v 6) .nil)))) (.cons (.iff (.cmp .eq (.ix (.cl 11 (.cons (.v 4) (.cons (.v 6) .nil))) (.c (.int 0))) (.c (.str [107,101,101,112]))) (.cons (.exp (.me .append (.v 5) (.cons (.v 7) .nil))) .nil) .nil) .nil)))) .nil)) .nil)
@[reducible] noncomputable def Ue:Ev.S:=.mJ (.orr (.v 3) (.v 4)) Ud
@[reducible] noncomputable def Ug:Ev.S:=.ret (.cl 3 (.cons (.jb (.v 5)) .nil))
@[reducible] noncomputable def VW:Ev.Fn:=⟨3,8,(.cons T9 (.cons Ua (.cons Ub (.cons Uc (.cons Ue (.cons Ug .nil))))))⟩
@[reducible] noncomputable def Uh:Ev.S:=.ret (.an (.cmp .gt (.bi .len (.cons (.v 0) .nil)) (.c (.int 0))) (.cmp .eq (.ix (.ix (.v 0) (.neg (.c (.int 1)))) (.c (.int 0))) (.c (.str [112,117,116]))))
@[reducible] noncomputable def VX:Ev.Fn:=⟨1,1,(.cons Uh .nil)⟩
@[reducible] noncomputable def Ui:Ev.S:=.iff (.cmp .ne (.cl 1 (.cons (.v 0) .nil)) (.cl 1 (.cons (.v 1) .nil))) (.cons (.fj) .nil) .nil
@[reducible] noncomputable def Uj:Ev.S:=.set 2 (.cl 16 (.cons (.v 0) .nil))
@[reducible] noncomputable def Uk:Ev.S:=.set 3 (.cl 16 (.cons (.v 1) .nil))
@[reducible] noncomputable def Ul:Ev.S:=.ret (.comp (.v 4) (.one 4) (.seq (.bi .jV (.cons (.v 2) .nil))) (.yes (.cmp .ne (.lZ (.v 3) (.v 4) (.jX (.v 2) (.v 4))) (.jX (.v 2) (.v 4)))))
@[reducible] noncomputable def VY:Ev.Fn:=⟨2,5,(.cons Ui (.cons Uj (.cons Uk (.cons Ul .nil))))⟩
@[reducible] noncomputable def Um:Ev.S:=.set 1 (.iY)
@[reducible] noncomputable def Uo:Ev.S:=.set 2 (.c (.int 0))
@[reducible] noncomputable def Up:Ev.Ss:=(.cons (.dput (.v 1) (.v 2) (.v 4)) (.cons (.set 2 (.bin .add (.v 2) (.c (.int 1)))) .nil))
@[reducible] noncomputable def Uq:Ev.Ss:=(.cons (.iff (.cmp .eq (.ix (.v 3) (.c (.int 0))) (.c (.str [100,114,111,112]))) (.cons (.for (.one 4) (.seq (.ix (.v 3) (.c (.int 1)))) Up) .nil) (.cons (.iff (.cmp .eq (.ix (.v 3) (.c (.int 0))) (.c (.str [107,101,101,112]))) (.cons (.set 2 (.bin .add (.v 2) (.ix (.v 3) (.c (.int 1))))) .nil) .nil) .nil)) .nil)
@[reducible] noncomputable def Ur:Ev.S:=.for (.one 3) (.seq (.v 0)) Uq
@[reducible] noncomputable def Us:Ev.S:=.ret (.v 1)
@[reducible] noncomputable def VZ:Ev.Fn:=⟨1,5,(.cons Um (.cons Uo (.cons Ur (.cons Us .nil))))⟩
@[reducible] noncomputable def Ut:Ev.S:=.exp (.cl 18 (.cons (.v 0) .nil))
@[reducible] noncomputable def Uu:Ev.S:=.exp (.cl 18 (.cons (.v 1) .nil))
@[reducible] noncomputable def Uv:Ev.S:=.set 2 (.lst .nil)
@[reducible] noncomputable def Uw:Ev.S:=.set 3 (.comp (.cl 3 (.cons (.v 6) .nil)) (.one 6) (.seq (.v 1)) .no)
@[reducible] noncomputable def G1:Ev.Ss:=(.cons (.set 5 (.cl 19 (.cons (.v 4) (.cons (.v 3) .nil)))) (.cons (.exp (.me .append (.v 2) (.cons (.ix (.v 5) (.c (.int 0))) .nil))) (.cons (.set 3 (.ix (.v 5) (.c (.int 1)))) .nil)))
@[reducible] noncomputable def Ux:Ev.S:=.for (.one 4) (.seq (.v 0)) G1
@[reducible] noncomputable def Uy:Ev.S:=.ret (.tup (.cons (.v 2) (.cons (.v 3) .nil)))
@[reducible] noncomputable def G2:Ev.Fn:=⟨2,7,(.cons Ut (.cons Uu (.cons Uv (.cons Uw (.cons Ux (.cons Uy .nil))))))⟩
@[reducible] noncomputable def G3:Ev.Ss:=(.cons (.iff (.cmp .ne (.cl 2 (.cons (.ix (.v 0) (.bin .sub (.v 1) (.c (.int 1)))) .nil)) (.cl 1 (.cons (.ix (.v 0) (.v 1)) .nil))) (.cons (.fj) .nil) .nil) .nil)
@[reducible] noncomputable def Uz:Ev.S:=.for (.one 1) (.gz (.cons (.c (.int 1)) (.cons (.bi .len (.cons (.v 0) .nil)) .nil))) G3
@[reducible] noncomputable def yk:Ev.Fn:=⟨1,2,(.cons Uz .nil)⟩
@[reducible] noncomputable def UA:Ev.S:=.set 2 (.cl 3 (.cons (.v 0) .nil))
@[reducible] noncomputable def UB:Ev.S:=.set 3 (.lst .nil)
@[reducible] noncomputable def G4:Ev.Ss:=(.cons (.exp (.me .append (.v 3) (.cons (.cl 13 (.cons (.v 4) (.cons (.v 2) (.cons (.c (.bl false)) .nil)))) .nil))) (.cons (.set 2 (.cl 13 (.cons (.v 2) (.cons (.v 4) (.cons (.c (.bl true)) .nil))))) .nil))
@[reducible] noncomputable def UC:Ev.S:=.for (.one 4) (.seq (.v 1)) G4
@[reducible] noncomputable def UD:Ev.S:=.ret (.tup (.cons (.v 2) (.cons (.v 3) .nil)))
@[reducible] noncomputable def G5:Ev.Fn:=⟨2,5,(.cons UA (.cons UB (.cons UC (.cons UD .nil))))⟩
@[reducible] noncomputable def UE:Ev.S:=.iff (.cmp .eq (.v 0) (.lst .nil)) (.cons (.ret (.bin .mul (.c (.int 7)) (.v 1))) .nil) .nil
@[reducible] noncomputable def UG:Ev.S:=.ret (.bin .add (.ix (.v 0) (.bin .mod (.v 1) (.bi .len (.cons (.v 0) .nil)))) (.bin .mul (.c (.int 6553)) (.bin .fdiv (.v 1) (.bi .len (.cons (.v 0) .nil)))))
@[reducible] noncomputable def V0:Ev.Fn:=⟨2,2,(.cons UE (.cons UG .nil))⟩
@[reducible] noncomputable def UH:Ev.S:=.set 3 (.bin .mod (.bin .add (.bin .mul (.bin .mod (.cl 20 (.cons (.v 0) (.cons (.v 1) .nil))) (.c (.int 2147483563))) (.c (.int 69069))) (.bin .mul (.c (.int 104723)) (.bin .add (.v 1) (.c (.int 1))))) (.c (.int 2147483563)))
@[reducible] noncomputable def UI:Ev.S:=.set 3 (.bin .mod (.bin .add (.bin .mul (.v 3) (.v 3)) (.bin .fdiv (.v 3) (.c (.int 3)))) (.c (.int 2147483399)))
@[reducible] noncomputable def UJ:Ev.S:=.ret (.bin .mod (.bin .fdiv (.bin .mod (.bin .add (.bin .mul (.v 3) (.v 3)) (.bin .fdiv (.v 3) (.c (.int 7)))) (.c (.int 2147483647))) (.c (.int 11))) (.v 2))
@[reducible] noncomputable def V1:Ev.Fn:=⟨3,4,(.cons UH (.cons UI (.cons UJ .nil)))⟩
@[reducible] noncomputable def UK:Ev.S:=.ret (.me .join (.c (.str [])) (.cons (.comp (.ix (.c (.str [97,98,99,32])) (.cl 21 (.cons (.v 0) (.cons (.bin .add (.bin .add (.v 1) (.c (.int 1))) (.v 3)) (.cons (.c (.int 4)) .nil))))) (.one 3) (.gz (.cons (.cl 21 (.cons (.v 0) (.cons (.v 1) (.cons (.bin .add (.v 2) (.c (.int 1))) .nil)))) .nil)) .no) .nil))
@[reducible] noncomputable def V2:Ev.Fn:=⟨3,4,(.cons UK .nil)⟩
@[reducible] noncomputable def UL:Ev.S:=.set 3 (.tup .nil)
@[reducible] noncomputable def UM:Ev.Ss:=(.cons (.iff (.cmp .eq (.cl 21 (.cons (.v 0) (.cons (.bin .add (.v 1) (.bin .mul (.c (.int 4)) (.v 4))) (.cons (.c (.int 4)) .nil)))) (.c (.int 0))) (.cons (.set 5 (.bin .mul (.ix (.c (.str [97,98,122])) (.cl 21 (.cons (.v 0) (.cons (.bin .add (.bin .add (.v 1) (.bin .mul (.c (.int 4)) (.v 4))) (.c (.int 1))) (.cons (.c (.int 3)) .nil))))) (.bin .add (.c (.int 1)) (.cl 21 (.cons (.v 0) (.cons (.bin .add (.bin .add (.v 1) (.bin .mul (.c (.int 4)) (.v 4))) (.c (.int 2))) (.cons (.c (.int 2)) .nil))))))) (.cons (.set 3 (.bin .add (.v 3) (.tup (.cons (.tup (.cons (.c (.str [112,117,116])) (.cons (.v 5) .nil))) .nil)))) .nil)) .nil) (.cons (.iff (.cmp .lt (.v 4) (.bi .len (.cons (.v 2) .nil))) (.cons (.set 6 (.cmp .gt (.cl 21 (.cons (.v 0) (.cons (.bin .add (.bin .add (.v 1) (.bin .mul (.c (.int 4)) (.v 4))) (.c (.int 3))) (.cons (.c (.int 3)) .nil)))) (.c (.int 0)))) (.cons (.set 3 (.bin .add (.v 3) (.tup (.cons (.jW (.v 6) (.tup (.cons (.c (.str [107,101,101,112])) (.cons (.c (.int 1)) .nil))) (.tup (.cons (.c (.str [100,114,111,112])) (.cons (.ix (.v 2) (.v 4)) .nil)))) .nil)))) .nil)) .nil) .nil))
@[reducible] noncomputable def UN:Ev.S:=.for (.one 4) (.gz (.cons (.bin .add (.bi .len (.cons (.v 2) .nil)) (.c (.int 1))) .nil)) UM
@[reducible] noncomputable def UO:Ev.S:=.ret (.v 3)
@[reducible] noncomputable def V3:Ev.Fn:=⟨3,7,(.cons UL (.cons UN (.cons UO .nil)))⟩
@[reducible] noncomputable def UP:Ev.S:=.set 2 (.c (.int 0))
@[reducible] noncomputable def UQ:Ev.S:=.set 3 (.c (.str []))
@[reducible] noncomputable def UR:Ev.Ss:=(.cons (.iff (.cmp .eq (.v 4) (.c (.str [112,117,116]))) (.cons (.set 3 (.bin .add (.v 3) (.v 5))) .nil) (.cons (.iff (.cmp .eq (.v 4) (.c (.str [100,114,111,112]))) (.cons (.iff (.cmp .ne (.sl (.v 1) (.yes (.v 2)) (.yes (.bin .add (.v 2) (.bi .len (.cons (.v 5) .nil))))) (.v 5)) (.cons (.ret (.c (.bf))) .nil) .nil) (.cons (.set 2 (.bin .add (.v 2) (.bi .len (.cons (.v 5) .nil)))) .nil)) (.cons (.set 3 (.bin .add (.v 3) (.sl (.v 1) (.yes (.v 2)) (.yes (.bin .add (.v 2) (.v 5)))))) (.cons (.set 2 (.bin .add (.v 2) (.v 5))) .nil))) .nil)) .nil)
@[reducible] noncomputable def US:Ev.S:=.for (.many [4,5]) (.seq (.v 0)) UR
@[reducible] noncomputable def UT:Ev.S:=.ret (.jW (.cmp .eq (.v 2) (.bi .len (.cons (.v 1) .nil))) (.v 3) (.c (.bf)))
@[reducible] noncomputable def V4:Ev.Fn:=⟨2,6,(.cons UP (.cons UQ (.cons US (.cons UT .nil))))⟩
@[reducible] noncomputable def UU:Ev.S:=.set 3 (.lst .nil)
@[reducible] noncomputable def G6:Ev.Ss:=(.cons (.exp (.me .append (.v 3) (.cons (.cl 23 (.cons (.v 0) (.cons (.bin .add (.bin .add (.v 1) (.c (.int 1))) (.bin .mul (.c (.int 80)) (.v 4))) (.cons (.v 2) .nil)))) .nil))) (.cons (.set 2 (.cl 24 (.cons (.ix (.v 3) (.neg (.c (.int 1)))) (.cons (.v 2) .nil)))) .nil))
@[reducible] noncomputable def UW:Ev.S:=.for (.one 4) (.gz (.cons (.cl 21 (.cons (.v 0) (.cons (.v 1) (.cons (.c (.int 4)) .nil)))) .nil)) G6
@[reducible] noncomputable def UX:Ev.S:=.ret (.v 3)
@[reducible] noncomputable def yl:Ev.Fn:=⟨3,5,(.cons UU (.cons UW (.cons UX .nil)))⟩
@[reducible] noncomputable def G7:Ev.S:=.set 1 (.cl 22 (.cons (.v 0) (.cons (.c (.int 0)) (.cons (.c (.int 4)) .nil))))
@[reducible] noncomputable def G8:Ev.S:=.set 2 (.cl 25 (.cons (.v 0) (.cons (.c (.int 10)) (.cons (.v 1) .nil))))
@[reducible] noncomputable def Hf:Ev.S:=.set 3 (.cl 25 (.cons (.v 0) (.cons (.c (.int 300)) (.cons (.v 1) .nil))))
@[reducible] noncomputable def Hg:Ev.S:=.j7 [4,5] (.cl 17 (.cons (.v 2) (.cons (.v 3) .nil)))
@[reducible] noncomputable def Hi:Ev.S:=.iff (.orr (.cmp .ne (.bi .len (.cons (.v 4) .nil)) (.bi .len (.cons (.v 2) .nil))) (.cmp .ne (.bi .len (.cons (.v 5) .nil)) (.bi .len (.cons (.v 3) .nil)))) (.cons (.ret (.c (.bl false))) .nil) .nil
@[reducible] noncomputable def Hj:Ev.S:=.set 6 (.cl 9 (.cons (.bi .len (.cons (.v 1) .nil)) (.cons (.bin .add (.v 2) (.v 5)) .nil)))
@[reducible] noncomputable def Hl:Ev.S:=.iff (.cmp .ne (.v 6) (.cl 9 (.cons (.bi .len (.cons (.v 1) .nil)) (.cons (.bin .add (.v 3) (.v 4)) .nil)))) (.cons (.ret (.c (.bl false))) .nil) .nil
@[reducible] noncomputable def zT:Ev.S:=.set 7 (.v 1)
@[reducible] noncomputable def Ho:Ev.Ss:=(.cons (.set 7 (.cl 6 (.cons (.v 8) (.cons (.v 7) .nil)))) .nil)
@[reducible] noncomputable def zU:Ev.S:=.for (.one 8) (.seq (.bin .add (.v 2) (.v 5))) Ho
@[reducible] noncomputable def zV:Ev.S:=.set 9 (.v 1)
@[reducible] noncomputable def Hq:Ev.Ss:=(.cons (.set 9 (.cl 6 (.cons (.v 8) (.cons (.v 9) .nil)))) .nil)
@[reducible] noncomputable def vQ:Ev.S:=.for (.one 8) (.seq (.bin .add (.v 3) (.v 4))) Hq
@[reducible] noncomputable def vR:Ev.S:=.iff (.orr (.cmp .ne (.v 7) (.v 9)) (.cmp .ne (.cl 6 (.cons (.v 6) (.cons (.v 1) .nil))) (.v 7))) (.cons (.ret (.c (.bl false))) .nil) .nil
@[reducible] noncomputable def vS:Ev.S:=.iff (.cmp .ne (.cl 17 (.cons (.v 2) (.cons (.lst .nil) .nil))) (.tup (.cons (.comp (.cl 3 (.cons (.v 15) .nil)) (.one 15) (.seq (.v 2)) .no) (.cons (.lst .nil) .nil)))) (.cons (.ret (.c (.bl false))) .nil) .nil
@[reducible] noncomputable def vU:Ev.S:=.iff (.cmp .ne (.cl 17 (.cons (.lst .nil) (.cons (.v 3) .nil))) (.tup (.cons (.lst .nil) (.cons (.comp (.cl 3 (.cons (.v 16) .nil)) (.one 16) (.seq (.v 3)) .no) .nil)))) (.cons (.ret (.c (.bl false))) .nil) .nil
@[reducible] noncomputable def vV:Ev.S:=.set 10 (.comp (.cl 3 (.cons (.v 17) .nil)) (.one 17) (.seq (.v 3)) .no)
@[reducible] noncomputable def Hr:Ev.Ss:=(.cons (.j7 [13,10] (.cl 17 (.cons (.lst (.cons (.v 12) .nil)) (.cons (.v 10) .nil)))) (.cons (.iff (.cmp .ne (.v 13) (.sl (.v 4) (.yes (.v 11)) (.yes (.bin .add (.v 11) (.c (.int 1)))))) (.cons (.ret (.c (.bl false))) .nil) .nil) .nil))
@[reducible] noncomputable def vW:Ev.S:=.for (.many [11,12]) (.enum (.v 2)) Hr
@[reducible] noncomputable def vX:Ev.S:=.iff (.cmp .ne (.v 10) (.v 5)) (.cons (.ret (.c (.bl false))) .nil) .nil
@[reducible] noncomputable def vY:Ev.S:=.iff (.orr (.cmp .eq (.v 2) (.lst .nil)) (.cmp .eq (.v 3) (.lst .nil))) (.cons (.ret (.c (.bl true))) .nil) .nil
@[reducible] noncomputable def vZ:Ev.S:=.set 14 (.tup (.cons (.lst (.cons (.cl 13 (.cons (.ix (.v 2) (.c (.int 0))) (.cons (.ix (.v 3) (.c (.int 0))) (.cons (.c (.bl true)) .nil)))) .nil)) (.cons (.lst (.cons (.cl 13 (.cons (.ix (.v 3) (.c (.int 0))) (.cons (.ix (.v 2) (.c (.int 0))) (.cons (.c (.bl false)) .nil)))) .nil)) .nil)))
@[reducible] noncomputable def v5:Ev.S:=.ret (.cmp .eq (.cl 17 (.cons (.sl (.v 2) .no (.yes (.c (.int 1)))) (.cons (.sl (.v 3) .no (.yes (.c (.int 1)))) .nil))) (.v 14))
@[reducible] noncomputable def Hs:Ev.Fn:=⟨1,18,(.cons G7 (.cons G8 (.cons Hf (.cons Hg (.cons Hi (.cons Hj (.cons Hl (.cons zT (.cons zU (.cons zV (.cons vQ (.cons vR (.cons vS (.cons vU (.cons vV (.cons vW (.cons vX (.cons vY (.cons vZ (.cons v5 .nil))))))))))))))))))))⟩
noncomputable def prog:List Ev.Fn:=[f0,f1,f2,f3,f4,f5,f6,f7,f8,f9,Gi,VU,VV,VW,VX,VY,VZ,G2,yk,G5,V0,V1,V2,V3,V4,yl,Hs]
end Lw
set_option maxRecDepth 100000
namespace Lw
open PySem PySem.Spec PyProof.Rows L2 Sm
open Ev (D O Hh Fr R aT E Es Eo T S Ss Fl Src bU bN TY BI ME)
noncomputable def top (i:Nat):Stmt:=PySem.Challenge.pw_pastways_k22_whole_rows_past.main.body.getD i (.Pass ⟨0,0,0,0⟩)
abbrev i0 (a:Nat→Addr) (d:Nat→FuncData):FI:=⟨"size",a 0,d 0,["part"]⟩
abbrev i1 (a:Nat→Addr) (d:Nat→FuncData):FI:=⟨"before",a 1,d 1,["change"]⟩
abbrev i2 (a:Nat→Addr) (d:Nat→FuncData):FI:=⟨"after",a 2,d 2,["change"]⟩
abbrev i3 (a:Nat→Addr) (d:Nat→FuncData):FI:=⟨"form",a 3,d 3,["change"]⟩
abbrev i4 (a:Nat→Addr) (d:Nat→FuncData):FI:=⟨"stretch",a 4,d 4,["kept","gone","new"]⟩
abbrev i5 (a:Nat→Addr) (d:Nat→FuncData):FI:=⟨"fits",a 5,d 5,["change","text"]⟩
abbrev i6 (a:Nat→Addr) (d:Nat→FuncData):FI:=⟨"done",a 6,d 6,["change","text"]⟩
abbrev i7 (a:Nat→Addr) (d:Nat→FuncData):FI:=⟨"nothing",a 7,d 7,["many"]⟩
abbrev i8 (a:Nat→Addr) (d:Nat→FuncData):FI:=⟨"then",a 8,d 8,["one","other"]⟩
abbrev i9 (a:Nat→Addr) (d:Nat→FuncData):FI:=⟨"all_then",a 9,d 9,["many","rows"]⟩
abbrev Ht (a:Nat→Addr) (d:Nat→FuncData):FI:=⟨"met",a 10,d 10,["left","gone_through"]⟩
abbrev Hu (a:Nat→Addr) (d:Nat→FuncData):FI:=⟨"taken",a 11,d 11,["parts","many"]⟩
abbrev i12 (a:Nat→Addr) (d:Nat→FuncData):FI:=⟨"parted",a 12,d 12,["part","many"]⟩
abbrev Hv (a:Nat→Addr) (d:Nat→FuncData):FI:=⟨"past",a 13,d 13,["one","other","is_first"]⟩
abbrev Hw (a:Nat→Addr) (d:Nat→FuncData):FI:=⟨"puts_next",a 14,d 14,["parts"]⟩
abbrev Hx (a:Nat→Addr) (d:Nat→FuncData):FI:=⟨"clashing",a 15,d 15,["one","other"]⟩
abbrev Hy (a:Nat→Addr) (d:Nat→FuncData):FI:=⟨"dropped_signs",a 16,d 16,["change"]⟩
abbrev Hz (a:Nat→Addr) (d:Nat→FuncData):FI:=⟨"rows_past",a 17,d 17,["ones","others"]⟩
abbrev HA (a:Nat→Addr) (d:Nat→FuncData):FI:=⟨"check_row",a 18,d 18,["rows"]⟩
abbrev HB (a:Nat→Addr) (d:Nat→FuncData):FI:=⟨"past_row",a 19,d 19,["one","others"]⟩
abbrev HC (a:Nat→Addr) (d:Nat→FuncData):FI:=⟨"_law_cell",a 20,d 20,["_law_script","_law_k"]⟩
abbrev HD (a:Nat→Addr) (d:Nat→FuncData):FI:=⟨"_law_drawn",a 21,d 21,["_law_script","_law_k","_law_many"]⟩
abbrev HE (a:Nat→Addr) (d:Nat→FuncData):FI:=⟨"_law_text",a 22,d 22,["_law_script","_law_at","_law_most"]⟩
abbrev HF (a:Nat→Addr) (d:Nat→FuncData):FI:=⟨"_law_change",a 23,d 23,["_law_script","_law_at","_law_text_here"]⟩
abbrev HG (a:Nat→Addr) (d:Nat→FuncData):FI:=⟨"_law_made",a 24,d 24,["_law_change_here","_law_text_here"]⟩
abbrev HH (a:Nat→Addr) (d:Nat→FuncData):FI:=⟨"_law_row",a 25,d 25,["_law_script","_law_at","_law_text_here"]⟩
abbrev Cv (a:Nat→Addr) (d:Nat→FuncData):FI:=⟨"law",a 26,d 26,["_law_script"]⟩
noncomputable def nE:List Str:=["enumerate","len","list","min","range","reversed","sorted","sum","tuple"]
theorem wH:("enumerate" : Str)∈nE:=by decide +kernel
theorem UY:("len" : Str)∈nE:=by decide +kernel
theorem O3:("list" : Str)∈nE:=by decide +kernel
theorem UZ:("min" : Str)∈nE:=by decide +kernel
theorem ym:("range" : Str)∈nE:=by decide +kernel
theorem zW:("reversed" : Str)∈nE:=by decide +kernel
theorem E4:("sorted" : Str)∈nE:=by decide +kernel
theorem U0:("sum" : Str)∈nE:=by decide +kernel
theorem K8:("tuple" : Str)∈nE:=by decide +kernel
noncomputable def tb (a:Nat→Addr) (d:Nat→FuncData):Tb:=⟨prog,100000,[i0 a d,i1 a d,i2 a d,i3 a d,i4 a d,i5 a d,i6 a d,i7 a d,i8 a d,i9 a d,Ht a d,Hu a d,i12 a d,Hv a d,Hw a d,Hx a d,Hy a d,Hz a d,HA a d,HB a d,HC a d,HD a d,HE a d,HF a d,HG a d,HH a d,Cv a d],nE,[("__name__",.str [108,97,119,95,112,97,115,116,119,97,121,115,95,107,50,50,95,119,104,111,108,101,95,114,111,119,115,95,112,97,115,116])],[]⟩
section
variable {a:Nat→Addr}{d:Nat→FuncData}{n:Nat}
abbrev n0:List Str:=["part"]
theorem s0:bz n0 ["part"] (aq (top 1)):=⟨rfl,rfl,rfl,by decide +kernel,rfl,by decide +kernel,by decide +kernel⟩
abbrev n1:List Str:=["change"]
theorem s1:bz n1 ["change"] (aq (top 2)):=⟨rfl,rfl,rfl,by decide +kernel,rfl,by decide +kernel,by decide +kernel⟩
abbrev n2:List Str:=["change"]
theorem s2:bz n2 ["change"] (aq (top 3)):=⟨rfl,rfl,rfl,by decide +kernel,rfl,by decide +kernel,by decide +kernel⟩
abbrev n3:List Str:=["change","parts","kept","gone","new","word","what"]
theorem s3:bz n3 ["change"] (aq (top 4)):=⟨rfl,rfl,rfl,by decide +kernel,rfl,by decide +kernel,by decide +kernel⟩
abbrev n4:List Str:=["kept","gone","new","parts"]
theorem s4:bz n4 ["kept","gone","new"] (aq (top 5)):=⟨rfl,rfl,rfl,by decide +kernel,rfl,by decide +kernel,by decide +kernel⟩
abbrev n5:List Str:=["change","text","place","part"]
theorem s5:bz n5 ["change","text"] (aq (top 11)):=⟨rfl,rfl,rfl,by decide +kernel,rfl,by decide +kernel,by decide +kernel⟩
abbrev n6:List Str:=["change","text","pieces","place","word","what"]
theorem s6:bz n6 ["change","text"] (aq (top 12)):=⟨rfl,rfl,rfl,by decide +kernel,rfl,by decide +kernel,by decide +kernel⟩
abbrev n7:List Str:=["many"]
theorem s7:bz n7 ["many"] (aq (top 13)):=⟨rfl,rfl,rfl,by decide +kernel,rfl,by decide +kernel,by decide +kernel⟩
abbrev n8:List Str:=["one","other","ones","others","parts","many"]
theorem s8:bz n8 ["one","other"] (aq (top 14)):=⟨rfl,rfl,rfl,by decide +kernel,rfl,by decide +kernel,by decide +kernel⟩
abbrev n9:List Str:=["many","rows","whole","change"]
theorem s9:bz n9 ["many","rows"] (aq (top 15)):=⟨rfl,rfl,rfl,by decide +kernel,rfl,by decide +kernel,by decide +kernel⟩
abbrev V5:List Str:=["left","gone_through"]
theorem Vp:bz V5 ["left","gone_through"] (aq (top 16)):=⟨rfl,rfl,rfl,by decide +kernel,rfl,by decide +kernel,by decide +kernel⟩
abbrev V6:List Str:=["parts","many","halves"]
theorem Gf:bz V6 ["parts","many"] (aq (top 17)):=⟨rfl,rfl,rfl,by decide +kernel,rfl,by decide +kernel,by decide +kernel⟩
abbrev V7:List Str:=["part","many","word"]
theorem s12:bz V7 ["part","many"] (aq (top 18)):=⟨rfl,rfl,rfl,by decide +kernel,rfl,by decide +kernel,by decide +kernel⟩
abbrev V8:List Str:=["one","other","is_first","ones","others","parts","many","part"]
theorem s13:bz V8 ["one","other","is_first"] (aq (top 20)):=⟨rfl,rfl,rfl,by decide +kernel,rfl,by decide +kernel,by decide +kernel⟩
abbrev V9:List Str:=["parts"]
theorem s14:bz V9 ["parts"] (aq (top 21)):=⟨rfl,rfl,rfl,by decide +kernel,rfl,by decide +kernel,by decide +kernel⟩
abbrev Wa:List Str:=["one","other","signs","unlike"]
theorem s15:bz Wa ["one","other"] (aq (top 22)):=⟨rfl,rfl,rfl,by decide +kernel,rfl,by decide +kernel,by decide +kernel⟩
abbrev Wb:List Str:=["change","signs","place","part","sign"]
theorem HJ:bz Wb ["change"] (aq (top 23)):=⟨rfl,rfl,rfl,by decide +kernel,rfl,by decide +kernel,by decide +kernel⟩
abbrev Wc:List Str:=["ones","others","led","crossed","one","both"]
theorem s17:bz Wc ["ones","others"] (aq (top 24)):=⟨rfl,rfl,rfl,by decide +kernel,rfl,by decide +kernel,by decide +kernel⟩
abbrev Wd:List Str:=["rows","number"]
theorem s18:bz Wd ["rows"] (aq (top 25)):=⟨rfl,rfl,rfl,by decide +kernel,rfl,by decide +kernel,by decide +kernel⟩
abbrev We:List Str:=["one","others","change","led","other"]
theorem s19:bz We ["one","others"] (aq (top 26)):=⟨rfl,rfl,rfl,by decide +kernel,rfl,by decide +kernel,by decide +kernel⟩
abbrev Wf:List Str:=["_law_script","_law_k"]
theorem s20:bz Wf ["_law_script","_law_k"] (aq (top 28)):=⟨rfl,rfl,rfl,by decide +kernel,rfl,by decide +kernel,by decide +kernel⟩
abbrev Wg:List Str:=["_law_script","_law_k","_law_many","_law_cell_here"]
theorem s21:bz Wg ["_law_script","_law_k","_law_many"] (aq (top 29)):=⟨rfl,rfl,rfl,by decide +kernel,rfl,by decide +kernel,by decide +kernel⟩
abbrev Wh:List Str:=["_law_script","_law_at","_law_most"]
theorem s22:bz Wh ["_law_script","_law_at","_law_most"] (aq (top 30)):=⟨rfl,rfl,rfl,by decide +kernel,rfl,by decide +kernel,by decide +kernel⟩
abbrev Wi:List Str:=["_law_script","_law_at","_law_text_here","_law_found","_law_k","_law_new","_law_is_kept"]
theorem s23:bz Wi ["_law_script","_law_at","_law_text_here"] (aq (top 31)):=⟨rfl,rfl,rfl,by decide +kernel,rfl,by decide +kernel,by decide +kernel⟩
abbrev Wj:List Str:=["_law_change_here","_law_text_here","_law_place","_law_found","_law_word","_law_what"]
theorem s24:bz Wj ["_law_change_here","_law_text_here"] (aq (top 32)):=⟨rfl,rfl,rfl,by decide +kernel,rfl,by decide +kernel,by decide +kernel⟩
abbrev Wk:List Str:=["_law_script","_law_at","_law_text_here","_law_found","_law_k"]
theorem s25:bz Wk ["_law_script","_law_at","_law_text_here"] (aq (top 33)):=⟨rfl,rfl,rfl,by decide +kernel,rfl,by decide +kernel,by decide +kernel⟩
abbrev Wl:List Str:=["_law_script","_law_text_here","_law_ones","_law_others","_law_mine","_law_yours","_law_first","_law_here","_law_change_here","_law_there","_law_led","_law_k","_law_one","_law_told","_law_due"]
theorem s26:bz Wl ["_law_script"] (aq (top 34)):=⟨rfl,rfl,rfl,by decide +kernel,rfl,by decide +kernel,by decide +kernel⟩
set_option maxHeartbeats 0 in
theorem dz:allB (tb a d) n [(f0.body,top 1,n0),(f1.body,top 2,n1),(f2.body,top 3,n2),(f3.body,top 4,n3),(f4.body,top 5,n4),(f5.body,top 11,n5),(f6.body,top 12,n6),(f7.body,top 13,n7),(f8.body,top 14,n8),(f9.body,top 15,n9),(Gi.body,top 16,V5),(VU.body,top 17,V6),(VV.body,top 18,V7),(VW.body,top 20,V8),(VX.body,top 21,V9),(VY.body,top 22,Wa),(VZ.body,top 23,Wb),(G2.body,top 24,Wc),(yk.body,top 25,Wd),(G5.body,top 26,We),(V0.body,top 28,Wf),(V1.body,top 29,Wg),(V2.body,top 30,Wh),(V3.body,top 31,Wi),(V4.body,top 32,Wj),(yl.body,top 33,Wk),(Hs.body,top 34,Wl)]:=by
 refine ⟨?_,?_,?_,?_,?_,?_,?_,?_,?_,?_,?_,?_,?_,?_,?_,?_,?_,?_,?_,?_,?_,?_,?_,?_,?_,?_,?_,trivial⟩
 all_goals dsimp only
 all_goals repeat (first
  | ((with_reducible show JE _ _ _ _ _ _ _ (.BoolOp _ [_] _));refine Mm ?_)
  | ((with_reducible show JE _ _ _ _ _ _ (.v _) _);exact jv (by decide +kernel))
  | ((with_reducible show JA _ _ _ _ _ _ (.cons _ _) _);refine Jk ?_ ?_)
  | ((with_reducible show mh _ _ _ _ _ _ (.cons _ _) _);refine Dc ?_ ?_)
  | ((with_reducible show JA _ _ _ _ _ _ .nil _);refine Mh)
  | ((with_reducible show mh _ _ _ _ _ _ .nil _);refine Jt)
  | ((with_reducible show JE _ _ _ _ _ _ (.c (.int _)) _);refine Me)
  | ((with_reducible show JE _ _ _ _ _ _ (.cl _ _) _);refine jcl (by decide +kernel) rfl rfl ?_)
  | ((with_reducible show JE _ _ _ _ _ _ (.ix _ _) _);refine SI (fun X g=>SW) ?_ ?_)
  | ((with_reducible show JS _ _ _ _ _ _ (.iff _ _ _) _);refine MC ?_ ?_ ?_)
  | ((with_reducible show JE _ _ _ _ _ _ (.bin .add _ _) _);refine mK (fun X g=>MR) ?_ ?_)
  | ((with_reducible show JE _ _ _ _ _ _ (.c (.str _)) _);refine Mg)
  | ((with_reducible show JS _ _ _ _ _ _ (.ret _) _);refine MB ?_)
  | ((with_reducible show JT _ _ _ _ _ _ (.cmp .ne _ _) _);refine pQ (fun X g=>SS g) ?_ ?_ (kq _))
  | ((with_reducible show JE _ _ _ _ _ _ (.tup _) _);refine Mi ?_)
  | ((with_reducible show JT _ _ _ _ _ _ (.cmp .eq _ _) _);refine pQ (fun X g=>Gs g) ?_ ?_ (kq _))
  | ((with_reducible show JE _ _ _ _ _ _ (.lst _) _);refine Mj ?_)
  | ((with_reducible show JG _ _ _ _ _ _ (.one _) _);exact jg1 (by decide +kernel))
  | ((with_reducible show JS _ _ _ _ _ _ (.exp _) _);refine MA ?_)
  | ((with_reducible show JE _ _ _ _ _ _ (.bi .len _) _);refine sW (x:="len") (id:="len") (fun X g=>M7) ?_ (hb:=UY) (hv:=by decide +kernel))
  | ((with_reducible show JI _ _ _ _ _ _ (.seq _) _ _);refine Mx ?_)
  | ((with_reducible show JS _ _ _ _ _ _ (.for _ _ _) _);refine MF ?_ ?_ ?_)
  | ((with_reducible show JE _ _ _ _ _ _ (.me .append _ (.cons _ _)) _);refine yK PySem.F.plainAttrs_list PySem.F.slot_list_append PySem.F.type_list_append (fun X g=>A8) rfl ?_ ?_)
  | ((with_reducible show JO _ _ _ _ _ _ (.yes _) _);refine Mt ?_)
  | ((with_reducible show JE _ _ _ _ _ _ (.c (.bl _)) _);refine SE)
  | ((with_reducible show rW _ _ _ _ _ _ (_ :: _) _);refine jgc (by decide +kernel) ?_)
  | ((with_reducible show JE _ _ _ _ _ _ (.bin .mul _ _) _);refine mK (fun X g=>M5) ?_ ?_)
  | ((with_reducible show JE _ _ _ _ _ _ (.sl _ _ _) _);refine SK (fun X g=>M4) ?_ ?_ ?_)
  | ((with_reducible show JE _ _ _ _ _ _ (.neg _) _);refine Ml ?_)
  | ((with_reducible show JT _ _ _ _ _ _ (.orr _ _) _);refine Yp ?_ ?_)
  | ((with_reducible show JW _ _ _ _ _ _ (.orr _ _) (.BoolOp _ (_ :: _ :: _) _));refine AI ?_ ?_)
  | ((with_reducible show JW _ _ _ _ _ _ _ (.BoolOp .Or [_] _));refine Jl ?_)
  | ((with_reducible show JE _ _ _ _ _ _ (.comp _ _ _ _) _);refine S6 (by decide +kernel) (by decide +kernel) ?_ ?_ ?_ ?_)
  | ((with_reducible show JG _ _ _ _ _ _ (.many _) _);refine Js ?_)
  | ((with_reducible show rW _ _ _ _ _ _ [] _);refine Jr)
  | ((with_reducible show JS _ _ _ _ _ _ .fj _);refine Nc)
  | ((with_reducible show JE _ _ _ _ _ _ (.bin .mod _ _) _);refine mK (fun X g=>MT) ?_ ?_)
  | ((with_reducible show JE _ _ _ _ _ _ (.me .pop _ .nil) _);refine Mu PySem.F.plainAttrs_list PySem.F.slot_list_pop PySem.F.type_list_pop (fun X g=>M9) rfl ?_)
  | ((with_reducible show JC _ _ _ _ _ _ .no _);refine SN)
  | ((with_reducible show JT _ _ _ _ _ _ (.an _ _) _);refine Yo ?_ ?_)
  | ((with_reducible show JW _ _ _ _ _ _ (.an _ _) (.BoolOp _ (_ :: _ :: _) _));refine FY ?_ ?_)
  | ((with_reducible show JW _ _ _ _ _ _ _ (.BoolOp .And [_] _));refine Mq ?_)
  | ((with_reducible show JE _ _ _ _ _ _ (.gQ (.rev _)) _);refine JX ?_ (h1:=O3) (hb:=zW))
  | ((with_reducible show JO _ _ _ _ _ _ .no _);refine SJ)
  | ((with_reducible show JE _ _ _ _ _ _ (.bin .fdiv _ _) _);refine mK (fun X g=>JN) ?_ ?_)
  | ((with_reducible show JC _ _ _ _ _ _ (.yes _) _);refine MI ?_)
  | ((with_reducible show JT _ _ _ _ _ _ (.cmp .gt _ _) _);refine pQ (fun X g=>Gu) ?_ ?_ (kq _))
  | ((with_reducible show JE _ _ _ _ _ _ (.me .extend _ (.cons _ _)) _);refine yK PySem.F.plainAttrs_list PySem.F.slot_list_extend PySem.F.type_list_extend (fun X g=>A9) rfl ?_ ?_)
  | ((with_reducible show JE _ _ _ _ _ _ (.jb _) _);refine Na ?_ (h1:=K8))
  | ((with_reducible show JE _ _ _ _ _ _ (.cmp .eq _ _) _);refine AH (fun X g=>Gs g) ?_ ?_ (kq _))
  | ((with_reducible show JI _ _ _ _ _ _ (.gz (.cons _ .nil)) _ _);refine Jp ?_ (hb:=ym))
  | ((with_reducible show JE _ _ _ _ _ _ (.bi .sum _) _);refine sW (x:="sum") (id:="sum") (fun X g=>M6 g) ?_ (hb:=U0) (hv:=by decide +kernel))
  | ((with_reducible show JT _ _ _ _ _ _ (.nt _) _);refine SH ?_)
  | ((with_reducible show JE _ _ _ _ _ _ (.me .join _ (.cons _ _)) _);refine yK PySem.F.plainAttrs_str PySem.F.slot_str_join PySem.F.type_str_join (fun X g=>JV) rfl ?_ ?_)
  | ((with_reducible show JS _ _ _ _ _ _ (.mJ _ _) _);refine MD ?_ ?_)
  | ((with_reducible show JE _ _ _ _ _ _ (.bi .min _) _);refine sW (x:="min") (id:="min") (fun X g=>M8 g) ?_ (hb:=UZ) (hv:=by decide +kernel))
  | ((with_reducible show JE _ _ _ _ _ _ (.bin .sub _ _) _);refine mK (fun X g=>MS) ?_ ?_)
  | ((with_reducible show JE _ _ _ _ _ _ (.cmp .gt _ _) _);refine AH (fun X g=>Gu) ?_ ?_ (kq _))
  | ((with_reducible show JE _ _ _ _ _ _ (.jX _ _) _);refine MG ?_ ?_)
  | ((with_reducible show JS _ _ _ _ _ _ (.set _ (.comp _ _ _ _)) _);refine S7 (by decide +kernel) (by decide +kernel) (by decide +kernel) ?_ ?_ ?_ ?_)
  | ((with_reducible show JE _ _ _ _ _ _ (.jW _ _ _) _);refine Mn ?_ ?_ ?_)
  | ((with_reducible show JE _ _ _ _ _ _ (.c .bf) _);refine Mf)
  | ((with_reducible show JS _ _ _ _ _ _ (.j7 _ _) _);refine Ju ?_ ?_)
  | ((with_reducible show JE _ _ _ _ _ _ (.an _ _) (.BoolOp _ (_ :: _ :: _) _));refine SG ?_ ?_)
  | ((with_reducible show JE _ _ _ _ _ _ (.bi .jV _) _);refine sW (x:="sorted") (id:="sorted") (fun X g=>Dt g.calm) ?_ (hb:=E4) (hv:=by decide +kernel))
  | ((with_reducible show JE _ _ _ _ _ _ (.lZ _ _ _) _);refine MH ?_ ?_ ?_)
  | ((with_reducible show JE _ _ _ _ _ _ .iY _);exact JB)
  | ((with_reducible show JS _ _ _ _ _ _ (.dput _ _ _) _);refine JD ?_ ?_ ?_)
  | ((with_reducible show JI _ _ _ _ _ _ (.gz (.cons _ (.cons _ .nil))) _ _);refine Jq ?_ (hb:=ym))
  | ((with_reducible show JT _ _ _ _ _ _ (.cmp .lt _ _) _);refine pQ (fun X g=>SV) ?_ ?_ (kq _))
  | ((with_reducible show JI _ _ _ _ _ _ (.enum _) _ _);refine JZ ?_ (Vt:=wH))
  | ((with_reducible show JS _ _ _ _ _ _ (.set _ _) _);refine Yn (by decide +kernel) ?_)
  | ((with_reducible show JT _ _ _ _ _ _ _ _);refine Ms ?_))
end
end Lw
set_option maxRecDepth 100000
namespace Lw
open PySem PySem.Spec PyProof.Rows L2 Sm
open Ev (D O Hh Fr R aT E Es Eo T S Ss Fl Src bU bN TY BI ME)
theorem ko {α:Type _}{l:List α}(h:l.length=1):∃ a,l=[a]:=by
 rcases l with _ | ⟨a,_ | ⟨b,l⟩⟩ <;> simp at h ⊢
theorem iL {α:Type _}{l:List α}(h:l.length=2):∃ a b,l=[a,b]:=by
 rcases l with _ | ⟨a,l⟩
 ·simp at h
 ·obtain ⟨b,rfl⟩:=ko (l:=l) (by simpa using h);exact ⟨a,b,rfl⟩
theorem rm {α:Type _}{l:List α}(h:l.length=3):∃ a b c,l=[a,b,c]:=by
 rcases l with _ | ⟨a,l⟩
 ·simp at h
 ·obtain ⟨b,c,rfl⟩:=iL (l:=l) (by simpa using h);exact ⟨a,b,c,rfl⟩
theorem all_mk {l:PySem.W.OpenLaw}{w:World}{K:PySem.W.Frag}{h:Heap}{mg:Str→Option Value}{fa p0 p1 p2 p3 p4 p5 p6 p7 p8 p9 HK HL HM HN HQ HS HU HV HW HX HY HZ Ia Ib Ic Ie Cw:Addr}(X:K.In h) (G:h.Ns mainGlobals mg) (hfa:mg "law" = some (.ref fa))
  {od0 O4 od1 Wm od2 Wn od3 Wo od4 Wq od5 Wr od6 Ws od7 Wt od8 Wu od9 Wv Zi O5 Zj O6 Zk O7 Zl O8 Zm O9 Zn Pb Zo Pc Zp Pd Zq Pe Zr Pf Zs Pg Zt Ph Zu Pj Zv Pk Zw Pn Zx Po Zy E5:Option Addr} {sl0 sl1 sl2 sl3 sl4 sl5 sl6 sl7 sl8 sl9 Zz ZA ZC ZD ZE ZF ZG ZH ZI ZJ ZK ZL ZM ZN ZO ZP ZQ:Array (Option Value)} {oc0 Pp Pq Pr Ig Pu oc1 Ww Wx Wz Pw WA oc2 WB WC WD Px WE oc3 WG WH WI Py WJ oc4 WK WL WM Pz WN oc5 WO WQ WR PB WS oc6 WT WU WV PC WX oc7 WY WZ W0 PD W2 oc8 W3 W4 W5 PF W6 oc9 W7 W8 W9 PJ Xa ZR PK PL PM E6 PN ZS PR PU PV E7 PX ZT PY PZ P0 E8 P1 ZU P4 P5 P6 E9 P7 ZV P8 P9 Qa Fb Qc ZW Qd Qe Qf Fc Qg ZX Qh Qi Qj Fd Qk ZY Ql Qm Qn Fe Qo ZZ Qp Qq Qs Ff Qt Z0 Qu Qv Qw Fg Qx Z1 Qy Qz QA Fi QB Z2 QC QD QE Fj QF Z3 QG QH QI Fp QJ Z4 QK QL QM Fq QN Z5 QO QS QT Ft QU Z6 QV QW QX Fv QY Z7 Fx Fy Fz zX FA:Value}
  (a0:PySem.W.nsIn K mainGlobals "size" = some (some (.ref p0))) (l0:K.lookup p0=some ⟨oc0,od0,.func (PySem.W.fnOf "size" "size" (aG (top 1)) (aE (top 1)) (aq (top 1)) .none Pp Pq Pr O4 Ig Pu),sl0⟩) (c0:PySem.W.codeIn K Ig "size" = true) (k0:PySem.W.keepIn K (.ref p0)=true)
  (a1:PySem.W.nsIn K mainGlobals "before" = some (some (.ref p1))) (l1:K.lookup p1=some ⟨oc1,od1,.func (PySem.W.fnOf "before" "before" (aG (top 2)) (aE (top 2)) (aq (top 2)) .none Ww Wx Wz Wm Pw WA),sl1⟩) (c1:PySem.W.codeIn K Pw "before" = true) (k1:PySem.W.keepIn K (.ref p1)=true)
  (a2:PySem.W.nsIn K mainGlobals "after" = some (some (.ref p2))) (l2:K.lookup p2=some ⟨oc2,od2,.func (PySem.W.fnOf "after" "after" (aG (top 3)) (aE (top 3)) (aq (top 3)) .none WB WC WD Wn Px WE),sl2⟩) (c2:PySem.W.codeIn K Px "after" = true) (k2:PySem.W.keepIn K (.ref p2)=true)
  (a3:PySem.W.nsIn K mainGlobals "form" = some (some (.ref p3))) (l3:K.lookup p3=some ⟨oc3,od3,.func (PySem.W.fnOf "form" "form" (aG (top 4)) (aE (top 4)) (aq (top 4)) .none WG WH WI Wo Py WJ),sl3⟩) (c3:PySem.W.codeIn K Py "form" = true) (k3:PySem.W.keepIn K (.ref p3)=true)
  (a4:PySem.W.nsIn K mainGlobals "stretch" = some (some (.ref p4))) (l4:K.lookup p4=some ⟨oc4,od4,.func (PySem.W.fnOf "stretch" "stretch" (aG (top 5)) (aE (top 5)) (aq (top 5)) .none WK WL WM Wq Pz WN),sl4⟩) (c4:PySem.W.codeIn K Pz "stretch" = true) (k4:PySem.W.keepIn K (.ref p4)=true)
  (a5:PySem.W.nsIn K mainGlobals "fits" = some (some (.ref p5))) (l5:K.lookup p5=some ⟨oc5,od5,.func (PySem.W.fnOf "fits" "fits" (aG (top 11)) (aE (top 11)) (aq (top 11)) .none WO WQ WR Wr PB WS),sl5⟩) (c5:PySem.W.codeIn K PB "fits" = true) (k5:PySem.W.keepIn K (.ref p5)=true)
  (a6:PySem.W.nsIn K mainGlobals "done" = some (some (.ref p6))) (l6:K.lookup p6=some ⟨oc6,od6,.func (PySem.W.fnOf "done" "done" (aG (top 12)) (aE (top 12)) (aq (top 12)) .none WT WU WV Ws PC WX),sl6⟩) (c6:PySem.W.codeIn K PC "done" = true) (k6:PySem.W.keepIn K (.ref p6)=true)
  (a7:PySem.W.nsIn K mainGlobals "nothing" = some (some (.ref p7))) (l7:K.lookup p7=some ⟨oc7,od7,.func (PySem.W.fnOf "nothing" "nothing" (aG (top 13)) (aE (top 13)) (aq (top 13)) .none WY WZ W0 Wt PD W2),sl7⟩) (c7:PySem.W.codeIn K PD "nothing" = true) (k7:PySem.W.keepIn K (.ref p7)=true)
  (a8:PySem.W.nsIn K mainGlobals "then" = some (some (.ref p8))) (l8:K.lookup p8=some ⟨oc8,od8,.func (PySem.W.fnOf "then" "then" (aG (top 14)) (aE (top 14)) (aq (top 14)) .none W3 W4 W5 Wu PF W6),sl8⟩) (c8:PySem.W.codeIn K PF "then" = true) (k8:PySem.W.keepIn K (.ref p8)=true)
  (a9:PySem.W.nsIn K mainGlobals "all_then" = some (some (.ref p9))) (l9:K.lookup p9=some ⟨oc9,od9,.func (PySem.W.fnOf "all_then" "all_then" (aG (top 15)) (aE (top 15)) (aq (top 15)) .none W7 W8 W9 Wv PJ Xa),sl9⟩) (c9:PySem.W.codeIn K PJ "all_then" = true) (k9:PySem.W.keepIn K (.ref p9)=true)
  (QZ:PySem.W.nsIn K mainGlobals "met" = some (some (.ref HK))) (Q0:K.lookup HK=some ⟨ZR,Zi,.func (PySem.W.fnOf "met" "met" (aG (top 16)) (aE (top 16)) (aq (top 16)) .none PK PL PM O5 E6 PN),Zz⟩) (Q2:PySem.W.codeIn K E6 "met" = true) (Ih:PySem.W.keepIn K (.ref HK)=true)
  (jR:PySem.W.nsIn K mainGlobals "taken" = some (some (.ref HL))) (Q3:K.lookup HL=some ⟨ZS,Zj,.func (PySem.W.fnOf "taken" "taken" (aG (top 17)) (aE (top 17)) (aq (top 17)) .none PR PU PV O6 E7 PX),ZA⟩) (Q4:PySem.W.codeIn K E7 "taken" = true) (Ii:PySem.W.keepIn K (.ref HL)=true)
  (jS:PySem.W.nsIn K mainGlobals "parted" = some (some (.ref HM))) (Q5:K.lookup HM=some ⟨ZT,Zk,.func (PySem.W.fnOf "parted" "parted" (aG (top 18)) (aE (top 18)) (aq (top 18)) .none PY PZ P0 O7 E8 P1),ZC⟩) (c12:PySem.W.codeIn K E8 "parted" = true) (Ij:PySem.W.keepIn K (.ref HM)=true)
  (jT:PySem.W.nsIn K mainGlobals "past" = some (some (.ref HN))) (Q6:K.lookup HN=some ⟨ZU,Zl,.func (PySem.W.fnOf "past" "past" (aG (top 20)) (aE (top 20)) (aq (top 20)) .none P4 P5 P6 O8 E9 P7),ZD⟩) (Q7:PySem.W.codeIn K E9 "past" = true) (Ik:PySem.W.keepIn K (.ref HN)=true)
  (Q8:PySem.W.nsIn K mainGlobals "puts_next" = some (some (.ref HQ))) (Q9:K.lookup HQ=some ⟨ZV,Zm,.func (PySem.W.fnOf "puts_next" "puts_next" (aG (top 21)) (aE (top 21)) (aq (top 21)) .none P8 P9 Qa O9 Fb Qc),ZE⟩) (Ra:PySem.W.codeIn K Fb "puts_next" = true) (Il:PySem.W.keepIn K (.ref HQ)=true)
  (Rb:PySem.W.nsIn K mainGlobals "clashing" = some (some (.ref HS))) (Rc:K.lookup HS=some ⟨ZW,Zn,.func (PySem.W.fnOf "clashing" "clashing" (aG (top 22)) (aE (top 22)) (aq (top 22)) .none Qd Qe Qf Pb Fc Qg),ZF⟩) (Rf:PySem.W.codeIn K Fc "clashing" = true) (Im:PySem.W.keepIn K (.ref HS)=true)
  (Rg:PySem.W.nsIn K mainGlobals "dropped_signs" = some (some (.ref HU))) (Rh:K.lookup HU=some ⟨ZX,Zo,.func (PySem.W.fnOf "dropped_signs" "dropped_signs" (aG (top 23)) (aE (top 23)) (aq (top 23)) .none Qh Qi Qj Pc Fd Qk),ZG⟩) (Ri:PySem.W.codeIn K Fd "dropped_signs" = true) (Io:PySem.W.keepIn K (.ref HU)=true)
  (Rj:PySem.W.nsIn K mainGlobals "rows_past" = some (some (.ref HV))) (Rk:K.lookup HV=some ⟨ZY,Zp,.func (PySem.W.fnOf "rows_past" "rows_past" (aG (top 24)) (aE (top 24)) (aq (top 24)) .none Ql Qm Qn Pd Fe Qo),ZH⟩) (Rl:PySem.W.codeIn K Fe "rows_past" = true) (Ip:PySem.W.keepIn K (.ref HV)=true)
  (Rm:PySem.W.nsIn K mainGlobals "check_row" = some (some (.ref HW))) (Rn:K.lookup HW=some ⟨ZZ,Zq,.func (PySem.W.fnOf "check_row" "check_row" (aG (top 25)) (aE (top 25)) (aq (top 25)) .none Qp Qq Qs Pe Ff Qt),ZI⟩) (Ro:PySem.W.codeIn K Ff "check_row" = true) (Iq:PySem.W.keepIn K (.ref HW)=true)
  (Rq:PySem.W.nsIn K mainGlobals "past_row" = some (some (.ref HX))) (Rt:K.lookup HX=some ⟨Z0,Zr,.func (PySem.W.fnOf "past_row" "past_row" (aG (top 26)) (aE (top 26)) (aq (top 26)) .none Qu Qv Qw Pf Fg Qx),ZJ⟩) (Ru:PySem.W.codeIn K Fg "past_row" = true) (Ir:PySem.W.keepIn K (.ref HX)=true)
  (Rx:PySem.W.nsIn K mainGlobals "_law_cell" = some (some (.ref HY))) (Ry:K.lookup HY=some ⟨Z1,Zs,.func (PySem.W.fnOf "_law_cell" "_law_cell" (aG (top 28)) (aE (top 28)) (aq (top 28)) .none Qy Qz QA Pg Fi QB),ZK⟩) (Rz:PySem.W.codeIn K Fi "_law_cell" = true) (Iu:PySem.W.keepIn K (.ref HY)=true)
  (RA:PySem.W.nsIn K mainGlobals "_law_drawn" = some (some (.ref HZ))) (RB:K.lookup HZ=some ⟨Z2,Zt,.func (PySem.W.fnOf "_law_drawn" "_law_drawn" (aG (top 29)) (aE (top 29)) (aq (top 29)) .none QC QD QE Ph Fj QF),ZL⟩) (RC:PySem.W.codeIn K Fj "_law_drawn" = true) (Iv:PySem.W.keepIn K (.ref HZ)=true)
  (RD:PySem.W.nsIn K mainGlobals "_law_text" = some (some (.ref Ia))) (RE:K.lookup Ia=some ⟨Z3,Zu,.func (PySem.W.fnOf "_law_text" "_law_text" (aG (top 30)) (aE (top 30)) (aq (top 30)) .none QG QH QI Pj Fp QJ),ZM⟩) (RG:PySem.W.codeIn K Fp "_law_text" = true) (Iw:PySem.W.keepIn K (.ref Ia)=true)
  (RH:PySem.W.nsIn K mainGlobals "_law_change" = some (some (.ref Ib))) (RI:K.lookup Ib=some ⟨Z4,Zv,.func (PySem.W.fnOf "_law_change" "_law_change" (aG (top 31)) (aE (top 31)) (aq (top 31)) .none QK QL QM Pk Fq QN),ZN⟩) (RJ:PySem.W.codeIn K Fq "_law_change" = true) (Iz:PySem.W.keepIn K (.ref Ib)=true)
  (RK:PySem.W.nsIn K mainGlobals "_law_made" = some (some (.ref Ic))) (RL:K.lookup Ic=some ⟨Z5,Zw,.func (PySem.W.fnOf "_law_made" "_law_made" (aG (top 32)) (aE (top 32)) (aq (top 32)) .none QO QS QT Pn Ft QU),ZO⟩) (RM:PySem.W.codeIn K Ft "_law_made" = true) (IA:PySem.W.keepIn K (.ref Ic)=true)
  (RN:PySem.W.nsIn K mainGlobals "_law_row" = some (some (.ref Ie))) (RP:K.lookup Ie=some ⟨Z6,Zx,.func (PySem.W.fnOf "_law_row" "_law_row" (aG (top 33)) (aE (top 33)) (aq (top 33)) .none QV QW QX Po Fv QY),ZP⟩) (RQ:PySem.W.codeIn K Fv "_law_row" = true) (IB:PySem.W.keepIn K (.ref Ie)=true)
  (IC:PySem.W.nsIn K mainGlobals "law" = some (some (.ref Cw))) (RS:K.lookup Cw=some ⟨Z7,Zy,.func (PySem.W.fnOf "law" "law" (aG (top 34)) (aE (top 34)) (aq (top 34)) .none Fx Fy Fz E5 zX FA),ZQ⟩) (RT:PySem.W.codeIn K zX "law" = true) (ID:PySem.W.keepIn K (.ref Cw)=true)
  (z0:PySem.W.nsIn K mainGlobals "enumerate" = some none)
  (z1:PySem.W.nsIn K mainGlobals "len" = some none)
  (z2:PySem.W.nsIn K mainGlobals "list" = some none)
  (z3:PySem.W.nsIn K mainGlobals "min" = some none)
  (z4:PySem.W.nsIn K mainGlobals "range" = some none)
  (z5:PySem.W.nsIn K mainGlobals "reversed" = some none)
  (z6:PySem.W.nsIn K mainGlobals "sorted" = some none)
  (z7:PySem.W.nsIn K mainGlobals "sum" = some none)
  (z8:PySem.W.nsIn K mainGlobals "tuple" = some none)
  {t0:Tok} (q0:PySem.W.nsIn K mainGlobals "__name__" = some (some (.str "law_pastways_k22_whole_rows_past" t0)))
  : ∃ fd:FuncData,(∀ (s:Shared) (v:Value),BindsTo s fd ⟨[v],[]⟩ [("_law_script",v)])∧∀ base:Heap,K.In base→base.Ns mainGlobals mg→iC l.prog w K mg base mG 60 fa fd ["_law_script"] (oB K prog 100000 60 26):=by
 have e:=hfa.symm.trans (PySem.W.mg_of X G IC)
 have e2:Cw=fa:=by injection e with e;injection e with e;exact e.symm
 subst e2
 have F0:=b5 (st:=top 1) l0 c0 k0
 have B0:=F0.binds (ps:=["part"]) fun _ _ _ _ _ _ us hl=>by obtain ⟨_,rfl⟩:=ko hl;rfl
 have F1:=b5 (st:=top 2) l1 c1 k1
 have B1:=F1.binds (ps:=["change"]) fun _ _ _ _ _ _ us hl=>by obtain ⟨_,rfl⟩:=ko hl;rfl
 have F2:=b5 (st:=top 3) l2 c2 k2
 have B2:=F2.binds (ps:=["change"]) fun _ _ _ _ _ _ us hl=>by obtain ⟨_,rfl⟩:=ko hl;rfl
 have F3:=b5 (st:=top 4) l3 c3 k3
 have B3:=F3.binds (ps:=["change"]) fun _ _ _ _ _ _ us hl=>by obtain ⟨_,rfl⟩:=ko hl;rfl
 have F4:=b5 (st:=top 5) l4 c4 k4
 have B4:=F4.binds (ps:=["kept","gone","new"]) fun _ _ _ _ _ _ us hl=>by obtain ⟨_,_,_,rfl⟩:=rm hl;rfl
 have F5:=b5 (st:=top 11) l5 c5 k5
 have B5:=F5.binds (ps:=["change","text"]) fun _ _ _ _ _ _ us hl=>by obtain ⟨_,_,rfl⟩:=iL hl;rfl
 have F6:=b5 (st:=top 12) l6 c6 k6
 have B6:=F6.binds (ps:=["change","text"]) fun _ _ _ _ _ _ us hl=>by obtain ⟨_,_,rfl⟩:=iL hl;rfl
 have F7:=b5 (st:=top 13) l7 c7 k7
 have B7:=F7.binds (ps:=["many"]) fun _ _ _ _ _ _ us hl=>by obtain ⟨_,rfl⟩:=ko hl;rfl
 have F8:=b5 (st:=top 14) l8 c8 k8
 have B8:=F8.binds (ps:=["one","other"]) fun _ _ _ _ _ _ us hl=>by obtain ⟨_,_,rfl⟩:=iL hl;rfl
 have F9:=b5 (st:=top 15) l9 c9 k9
 have B9:=F9.binds (ps:=["many","rows"]) fun _ _ _ _ _ _ us hl=>by obtain ⟨_,_,rfl⟩:=iL hl;rfl
 have Xb:=b5 (st:=top 16) Q0 Q2 Ih
 have B10:=Xb.binds (ps:=["left","gone_through"]) fun _ _ _ _ _ _ us hl=>by obtain ⟨_,_,rfl⟩:=iL hl;rfl
 have Xc:=b5 (st:=top 17) Q3 Q4 Ii
 have B11:=Xc.binds (ps:=["parts","many"]) fun _ _ _ _ _ _ us hl=>by obtain ⟨_,_,rfl⟩:=iL hl;rfl
 have Xd:=b5 (st:=top 18) Q5 c12 Ij
 have B12:=Xd.binds (ps:=["part","many"]) fun _ _ _ _ _ _ us hl=>by obtain ⟨_,_,rfl⟩:=iL hl;rfl
 have Xe:=b5 (st:=top 20) Q6 Q7 Ik
 have B13:=Xe.binds (ps:=["one","other","is_first"]) fun _ _ _ _ _ _ us hl=>by obtain ⟨_,_,_,rfl⟩:=rm hl;rfl
 have Xf:=b5 (st:=top 21) Q9 Ra Il
 have B14:=Xf.binds (ps:=["parts"]) fun _ _ _ _ _ _ us hl=>by obtain ⟨_,rfl⟩:=ko hl;rfl
 have Xg:=b5 (st:=top 22) Rc Rf Im
 have B15:=Xg.binds (ps:=["one","other"]) fun _ _ _ _ _ _ us hl=>by obtain ⟨_,_,rfl⟩:=iL hl;rfl
 have Xh:=b5 (st:=top 23) Rh Ri Io
 have B16:=Xh.binds (ps:=["change"]) fun _ _ _ _ _ _ us hl=>by obtain ⟨_,rfl⟩:=ko hl;rfl
 have Xi:=b5 (st:=top 24) Rk Rl Ip
 have B17:=Xi.binds (ps:=["ones","others"]) fun _ _ _ _ _ _ us hl=>by obtain ⟨_,_,rfl⟩:=iL hl;rfl
 have Xj:=b5 (st:=top 25) Rn Ro Iq
 have B18:=Xj.binds (ps:=["rows"]) fun _ _ _ _ _ _ us hl=>by obtain ⟨_,rfl⟩:=ko hl;rfl
 have Xk:=b5 (st:=top 26) Rt Ru Ir
 have B19:=Xk.binds (ps:=["one","others"]) fun _ _ _ _ _ _ us hl=>by obtain ⟨_,_,rfl⟩:=iL hl;rfl
 have Xl:=b5 (st:=top 28) Ry Rz Iu
 have B20:=Xl.binds (ps:=["_law_script","_law_k"]) fun _ _ _ _ _ _ us hl=>by obtain ⟨_,_,rfl⟩:=iL hl;rfl
 have Xm:=b5 (st:=top 29) RB RC Iv
 have B21:=Xm.binds (ps:=["_law_script","_law_k","_law_many"]) fun _ _ _ _ _ _ us hl=>by obtain ⟨_,_,_,rfl⟩:=rm hl;rfl
 have Xn:=b5 (st:=top 30) RE RG Iw
 have B22:=Xn.binds (ps:=["_law_script","_law_at","_law_most"]) fun _ _ _ _ _ _ us hl=>by obtain ⟨_,_,_,rfl⟩:=rm hl;rfl
 have Xo:=b5 (st:=top 31) RI RJ Iz
 have B23:=Xo.binds (ps:=["_law_script","_law_at","_law_text_here"]) fun _ _ _ _ _ _ us hl=>by obtain ⟨_,_,_,rfl⟩:=rm hl;rfl
 have Xp:=b5 (st:=top 32) RL RM IA
 have B24:=Xp.binds (ps:=["_law_change_here","_law_text_here"]) fun _ _ _ _ _ _ us hl=>by obtain ⟨_,_,rfl⟩:=iL hl;rfl
 have Xq:=b5 (st:=top 33) RP RQ IB
 have B25:=Xq.binds (ps:=["_law_script","_law_at","_law_text_here"]) fun _ _ _ _ _ _ us hl=>by obtain ⟨_,_,_,rfl⟩:=rm hl;rfl
 have Xr:=b5 (st:=top 34) RS RT ID
 have B26:=Xr.binds (ps:=["_law_script"]) fun _ _ _ _ _ _ us hl=>by obtain ⟨_,rfl⟩:=ko hl;rfl
 let aa:Nat→Addr:=fun k=>[p0,p1,p2,p3,p4,p5,p6,p7,p8,p9,HK,HL,HM,HN,HQ,HS,HU,HV,HW,HX,HY,HZ,Ia,Ib,Ic,Ie,Cw].getD k p0
 let dd:Nat→FuncData:=fun k=>[(PySem.W.fnOf "size" "size" (aG (top 1)) (aE (top 1)) (aq (top 1)) .none Pp Pq Pr O4 Ig Pu),(PySem.W.fnOf "before" "before" (aG (top 2)) (aE (top 2)) (aq (top 2)) .none Ww Wx Wz Wm Pw WA),(PySem.W.fnOf "after" "after" (aG (top 3)) (aE (top 3)) (aq (top 3)) .none WB WC WD Wn Px WE),(PySem.W.fnOf "form" "form" (aG (top 4)) (aE (top 4)) (aq (top 4)) .none WG WH WI Wo Py WJ),(PySem.W.fnOf "stretch" "stretch" (aG (top 5)) (aE (top 5)) (aq (top 5)) .none WK WL WM Wq Pz WN),(PySem.W.fnOf "fits" "fits" (aG (top 11)) (aE (top 11)) (aq (top 11)) .none WO WQ WR Wr PB WS),(PySem.W.fnOf "done" "done" (aG (top 12)) (aE (top 12)) (aq (top 12)) .none WT WU WV Ws PC WX),(PySem.W.fnOf "nothing" "nothing" (aG (top 13)) (aE (top 13)) (aq (top 13)) .none WY WZ W0 Wt PD W2),(PySem.W.fnOf "then" "then" (aG (top 14)) (aE (top 14)) (aq (top 14)) .none W3 W4 W5 Wu PF W6),(PySem.W.fnOf "all_then" "all_then" (aG (top 15)) (aE (top 15)) (aq (top 15)) .none W7 W8 W9 Wv PJ Xa),(PySem.W.fnOf "met" "met" (aG (top 16)) (aE (top 16)) (aq (top 16)) .none PK PL PM O5 E6 PN),(PySem.W.fnOf "taken" "taken" (aG (top 17)) (aE (top 17)) (aq (top 17)) .none PR PU PV O6 E7 PX),(PySem.W.fnOf "parted" "parted" (aG (top 18)) (aE (top 18)) (aq (top 18)) .none PY PZ P0 O7 E8 P1),(PySem.W.fnOf "past" "past" (aG (top 20)) (aE (top 20)) (aq (top 20)) .none P4 P5 P6 O8 E9 P7),(PySem.W.fnOf "puts_next" "puts_next" (aG (top 21)) (aE (top 21)) (aq (top 21)) .none P8 P9 Qa O9 Fb Qc),(PySem.W.fnOf "clashing" "clashing" (aG (top 22)) (aE (top 22)) (aq (top 22)) .none Qd Qe Qf Pb Fc Qg),(PySem.W.fnOf "dropped_signs" "dropped_signs" (aG (top 23)) (aE (top 23)) (aq (top 23)) .none Qh Qi Qj Pc Fd Qk),(PySem.W.fnOf "rows_past" "rows_past" (aG (top 24)) (aE (top 24)) (aq (top 24)) .none Ql Qm Qn Pd Fe Qo),(PySem.W.fnOf "check_row" "check_row" (aG (top 25)) (aE (top 25)) (aq (top 25)) .none Qp Qq Qs Pe Ff Qt),(PySem.W.fnOf "past_row" "past_row" (aG (top 26)) (aE (top 26)) (aq (top 26)) .none Qu Qv Qw Pf Fg Qx),(PySem.W.fnOf "_law_cell" "_law_cell" (aG (top 28)) (aE (top 28)) (aq (top 28)) .none Qy Qz QA Pg Fi QB),(PySem.W.fnOf "_law_drawn" "_law_drawn" (aG (top 29)) (aE (top 29)) (aq (top 29)) .none QC QD QE Ph Fj QF),(PySem.W.fnOf "_law_text" "_law_text" (aG (top 30)) (aE (top 30)) (aq (top 30)) .none QG QH QI Pj Fp QJ),(PySem.W.fnOf "_law_change" "_law_change" (aG (top 31)) (aE (top 31)) (aq (top 31)) .none QK QL QM Pk Fq QN),(PySem.W.fnOf "_law_made" "_law_made" (aG (top 32)) (aE (top 32)) (aq (top 32)) .none QO QS QT Pn Ft QU),(PySem.W.fnOf "_law_row" "_law_row" (aG (top 33)) (aE (top 33)) (aq (top 33)) .none QV QW QX Po Fv QY),(PySem.W.fnOf "law" "law" (aG (top 34)) (aE (top 34)) (aq (top 34)) .none Fx Fy Fz E5 zX FA)].getD k (PySem.W.fnOf "size" "size" (aG (top 1)) (aE (top 1)) (aq (top 1)) .none Pp Pq Pr O4 Ig Pu)
 have T:Top l.prog w K mg (tb aa dd):=by
  refine ⟨fun f i hi=>?_,?_,?_,?_⟩
  ·match f,hi with
   | 0,hi=>obtain rfl:i0 aa dd=i:=Option.some.inj hi;exact ⟨PySem.W.mg_of X G a0,k0,B0⟩
   | 1,hi=>obtain rfl:i1 aa dd=i:=Option.some.inj hi;exact ⟨PySem.W.mg_of X G a1,k1,B1⟩
   | 2,hi=>obtain rfl:i2 aa dd=i:=Option.some.inj hi;exact ⟨PySem.W.mg_of X G a2,k2,B2⟩
   | 3,hi=>obtain rfl:i3 aa dd=i:=Option.some.inj hi;exact ⟨PySem.W.mg_of X G a3,k3,B3⟩
   | 4,hi=>obtain rfl:i4 aa dd=i:=Option.some.inj hi;exact ⟨PySem.W.mg_of X G a4,k4,B4⟩
   | 5,hi=>obtain rfl:i5 aa dd=i:=Option.some.inj hi;exact ⟨PySem.W.mg_of X G a5,k5,B5⟩
   | 6,hi=>obtain rfl:i6 aa dd=i:=Option.some.inj hi;exact ⟨PySem.W.mg_of X G a6,k6,B6⟩
   | 7,hi=>obtain rfl:i7 aa dd=i:=Option.some.inj hi;exact ⟨PySem.W.mg_of X G a7,k7,B7⟩
   | 8,hi=>obtain rfl:i8 aa dd=i:=Option.some.inj hi;exact ⟨PySem.W.mg_of X G a8,k8,B8⟩
   | 9,hi=>obtain rfl:i9 aa dd=i:=Option.some.inj hi;exact ⟨PySem.W.mg_of X G a9,k9,B9⟩
   | 10,hi=>obtain rfl:Ht aa dd=i:=Option.some.inj hi;exact ⟨PySem.W.mg_of X G QZ,Ih,B10⟩
   | 11,hi=>obtain rfl:Hu aa dd=i:=Option.some.inj hi;exact ⟨PySem.W.mg_of X G jR,Ii,B11⟩
   | 12,hi=>obtain rfl:i12 aa dd=i:=Option.some.inj hi;exact ⟨PySem.W.mg_of X G jS,Ij,B12⟩
   | 13,hi=>obtain rfl:Hv aa dd=i:=Option.some.inj hi;exact ⟨PySem.W.mg_of X G jT,Ik,B13⟩
   | 14,hi=>obtain rfl:Hw aa dd=i:=Option.some.inj hi;exact ⟨PySem.W.mg_of X G Q8,Il,B14⟩
   | 15,hi=>obtain rfl:Hx aa dd=i:=Option.some.inj hi;exact ⟨PySem.W.mg_of X G Rb,Im,B15⟩
   | 16,hi=>obtain rfl:Hy aa dd=i:=Option.some.inj hi;exact ⟨PySem.W.mg_of X G Rg,Io,B16⟩
   | 17,hi=>obtain rfl:Hz aa dd=i:=Option.some.inj hi;exact ⟨PySem.W.mg_of X G Rj,Ip,B17⟩
   | 18,hi=>obtain rfl:HA aa dd=i:=Option.some.inj hi;exact ⟨PySem.W.mg_of X G Rm,Iq,B18⟩
   | 19,hi=>obtain rfl:HB aa dd=i:=Option.some.inj hi;exact ⟨PySem.W.mg_of X G Rq,Ir,B19⟩
   | 20,hi=>obtain rfl:HC aa dd=i:=Option.some.inj hi;exact ⟨PySem.W.mg_of X G Rx,Iu,B20⟩
   | 21,hi=>obtain rfl:HD aa dd=i:=Option.some.inj hi;exact ⟨PySem.W.mg_of X G RA,Iv,B21⟩
   | 22,hi=>obtain rfl:HE aa dd=i:=Option.some.inj hi;exact ⟨PySem.W.mg_of X G RD,Iw,B22⟩
   | 23,hi=>obtain rfl:HF aa dd=i:=Option.some.inj hi;exact ⟨PySem.W.mg_of X G RH,Iz,B23⟩
   | 24,hi=>obtain rfl:HG aa dd=i:=Option.some.inj hi;exact ⟨PySem.W.mg_of X G RK,IA,B24⟩
   | 25,hi=>obtain rfl:HH aa dd=i:=Option.some.inj hi;exact ⟨PySem.W.mg_of X G RN,IB,B25⟩
   | 26,hi=>obtain rfl:Cv aa dd=i:=Option.some.inj hi;exact ⟨PySem.W.mg_of X G IC,ID,B26⟩
   | j+27,hi=>exact nomatch (show (none:Option FI)=some i from hi)
  ·exact (show ∀ x∈nE,mg x=none from List.forall_mem_cons.mpr ⟨PySem.W.mg_none_of X G z0,List.forall_mem_cons.mpr ⟨PySem.W.mg_none_of X G z1,List.forall_mem_cons.mpr ⟨PySem.W.mg_none_of X G z2,List.forall_mem_cons.mpr ⟨PySem.W.mg_none_of X G z3,List.forall_mem_cons.mpr ⟨PySem.W.mg_none_of X G z4,List.forall_mem_cons.mpr ⟨PySem.W.mg_none_of X G z5,List.forall_mem_cons.mpr ⟨PySem.W.mg_none_of X G z6,List.forall_mem_cons.mpr ⟨PySem.W.mg_none_of X G z7,List.forall_mem_cons.mpr ⟨PySem.W.mg_none_of X G z8,fun _ h=>nomatch h⟩⟩⟩⟩⟩⟩⟩⟩⟩)
  ·exact fun x d hx=>(show ∀ y∈(tb aa dd).cs,∃ v u,mg y.1=some u∧RelV v u∧uu y.2 v from List.forall_mem_cons.mpr ⟨⟨.str "law_pastways_k22_whole_rows_past",_,PySem.W.mg_of X G q0,⟨_,rfl⟩,⟨by decide +kernel,by decide⟩⟩,fun _ h=>nomatch h⟩) (x,d) hx
  ·exact fun x d hx=>(show ∀ y∈(tb aa dd).dk,∃ a,mg y.1=some (.ref a)∧∀ h:Heap,K.In h→StrTab l.prog w h a (tabOf y.2) from fun _ h=>nomatch h) (x,d) hx
 refine ⟨PySem.W.fnOf "law" "law" (aG (top 34)) (aE (top 34)) (aq (top 34)) .none Fx Fy Fz E5 zX FA,fun s v=>.of_eq rfl,fun base _ _=>?_⟩
 refine Be (P:=l.prog) (w:=w) (base:=base) T (fun n A0 f i hi=>?_) 60 26 (Cv aa dd) rfl
 match f,hi with
 | 0,hi=>obtain rfl:i0 aa dd=i:=Option.some.inj hi;exact cK (i:=i0 aa dd) T A0 F0 s0 rfl rfl (dz.get (k:=0) rfl)
 | 1,hi=>obtain rfl:i1 aa dd=i:=Option.some.inj hi;exact cK (i:=i1 aa dd) T A0 F1 s1 rfl rfl (dz.get (k:=1) rfl)
 | 2,hi=>obtain rfl:i2 aa dd=i:=Option.some.inj hi;exact cK (i:=i2 aa dd) T A0 F2 s2 rfl rfl (dz.get (k:=2) rfl)
 | 3,hi=>obtain rfl:i3 aa dd=i:=Option.some.inj hi;exact cK (i:=i3 aa dd) T A0 F3 s3 rfl rfl (dz.get (k:=3) rfl)
 | 4,hi=>obtain rfl:i4 aa dd=i:=Option.some.inj hi;exact cK (i:=i4 aa dd) T A0 F4 s4 rfl rfl (dz.get (k:=4) rfl)
 | 5,hi=>obtain rfl:i5 aa dd=i:=Option.some.inj hi;exact cK (i:=i5 aa dd) T A0 F5 s5 rfl rfl (dz.get (k:=5) rfl)
 | 6,hi=>obtain rfl:i6 aa dd=i:=Option.some.inj hi;exact cK (i:=i6 aa dd) T A0 F6 s6 rfl rfl (dz.get (k:=6) rfl)
 | 7,hi=>obtain rfl:i7 aa dd=i:=Option.some.inj hi;exact cK (i:=i7 aa dd) T A0 F7 s7 rfl rfl (dz.get (k:=7) rfl)
 | 8,hi=>obtain rfl:i8 aa dd=i:=Option.some.inj hi;exact cK (i:=i8 aa dd) T A0 F8 s8 rfl rfl (dz.get (k:=8) rfl)
 | 9,hi=>obtain rfl:i9 aa dd=i:=Option.some.inj hi;exact cK (i:=i9 aa dd) T A0 F9 s9 rfl rfl (dz.get (k:=9) rfl)
 | 10,hi=>obtain rfl:Ht aa dd=i:=Option.some.inj hi;exact cK (i:=Ht aa dd) T A0 Xb Vp rfl rfl (dz.get (k:=10) rfl)
 | 11,hi=>obtain rfl:Hu aa dd=i:=Option.some.inj hi;exact cK (i:=Hu aa dd) T A0 Xc Gf rfl rfl (dz.get (k:=11) rfl)
 | 12,hi=>obtain rfl:i12 aa dd=i:=Option.some.inj hi;exact cK (i:=i12 aa dd) T A0 Xd s12 rfl rfl (dz.get (k:=12) rfl)
 | 13,hi=>obtain rfl:Hv aa dd=i:=Option.some.inj hi;exact cK (i:=Hv aa dd) T A0 Xe s13 rfl rfl (dz.get (k:=13) rfl)
 | 14,hi=>obtain rfl:Hw aa dd=i:=Option.some.inj hi;exact cK (i:=Hw aa dd) T A0 Xf s14 rfl rfl (dz.get (k:=14) rfl)
 | 15,hi=>obtain rfl:Hx aa dd=i:=Option.some.inj hi;exact cK (i:=Hx aa dd) T A0 Xg s15 rfl rfl (dz.get (k:=15) rfl)
 | 16,hi=>obtain rfl:Hy aa dd=i:=Option.some.inj hi;exact cK (i:=Hy aa dd) T A0 Xh HJ rfl rfl (dz.get (k:=16) rfl)
 | 17,hi=>obtain rfl:Hz aa dd=i:=Option.some.inj hi;exact cK (i:=Hz aa dd) T A0 Xi s17 rfl rfl (dz.get (k:=17) rfl)
 | 18,hi=>obtain rfl:HA aa dd=i:=Option.some.inj hi;exact cK (i:=HA aa dd) T A0 Xj s18 rfl rfl (dz.get (k:=18) rfl)
 | 19,hi=>obtain rfl:HB aa dd=i:=Option.some.inj hi;exact cK (i:=HB aa dd) T A0 Xk s19 rfl rfl (dz.get (k:=19) rfl)
 | 20,hi=>obtain rfl:HC aa dd=i:=Option.some.inj hi;exact cK (i:=HC aa dd) T A0 Xl s20 rfl rfl (dz.get (k:=20) rfl)
 | 21,hi=>obtain rfl:HD aa dd=i:=Option.some.inj hi;exact cK (i:=HD aa dd) T A0 Xm s21 rfl rfl (dz.get (k:=21) rfl)
 | 22,hi=>obtain rfl:HE aa dd=i:=Option.some.inj hi;exact cK (i:=HE aa dd) T A0 Xn s22 rfl rfl (dz.get (k:=22) rfl)
 | 23,hi=>obtain rfl:HF aa dd=i:=Option.some.inj hi;exact cK (i:=HF aa dd) T A0 Xo s23 rfl rfl (dz.get (k:=23) rfl)
 | 24,hi=>obtain rfl:HG aa dd=i:=Option.some.inj hi;exact cK (i:=HG aa dd) T A0 Xp s24 rfl rfl (dz.get (k:=24) rfl)
 | 25,hi=>obtain rfl:HH aa dd=i:=Option.some.inj hi;exact cK (i:=HH aa dd) T A0 Xq s25 rfl rfl (dz.get (k:=25) rfl)
 | 26,hi=>obtain rfl:Cv aa dd=i:=Option.some.inj hi;exact cK (i:=Cv aa dd) T A0 Xr s26 rfl rfl (dz.get (k:=26) rfl)
 | j+27,hi=>exact nomatch (show (none:Option FI)=some i from hi)
end Lw
namespace Lg
open Pv
open Lw (prog G2 yk G5 yl Hs G1 G3 G4 G6 Ho Hq Hr G7 G8 Hf Hg Hi Hj Hl zT zU zV vQ vR vS vU vV vW vX vY vZ v5)
open Ev (deep big rep cut bL)
theorem U1 (ns:List Int) (k:Int) (x:List Nat) (b:Nat) (h:x.length≤b):(chg ns k x).length≤2*b+2∧tot (chg ns k x)≤3*b+3:=by
 have h1:=m9 ns k x (x.length+1)
 have h2:=nh ns k x (x.length+1)
 simp only [chg];omega
theorem nC (c:List Pt):Pv.cop .ne (aD c) (aD c)=some false:=by rw [mY,OI];simp
theorem nI (i:Int):Pv.cop .ne (.int i) (.int i)=some false:=by rw [tG];simp
theorem nS (s:List Nat):Pv.cop .ne (.str s) (.str s)=some false:=by rw [iu];simp
theorem oh (n:Nat) (a b:List Pt):dF (n+3) (aD a) (aD b)=some (decide (a=b)):=by
 simp only [aD,N6]
 exact iG (fun a b=>BH n a b) a b
noncomputable def rV (rs:List (List Pt)):V:=.lst (rs.map aD)
theorem eR (A B:List (List Pt)):Pv.cop .eq (rV A) (rV B)=some (decide (A=B)):=by
 show dF deep _ _=_
 unfold rV
 rw [xV,iG (oh 16)]
theorem nR (A:List (List Pt)):Pv.cop .ne (rV A) (rV A)=some false:=by
 unfold rV
 rw [mY,xV,iG (oh 16)];simp
theorem eP (A B:List (List Pt)):dF deep (.tup [rV A,rV B]) (.tup [rV A,rV B])=some true:=by
 unfold rV
 rw [xU,uV,uV,Kf,BB,BB,iG (oh 15),iG (oh 15)];simp
structure Sz (c:List Pt):Prop where
 tt:tot c≤900
 ln:c.length≤900
 nd:nD c≤60
theorem f_len {c:List Pt}(h:ak c=c):c.length≤tot c:=by rw [←h];exact eK (fE (ef _))
theorem RU {c:List Pt}{u:List Nat}(h:ak c=c) (hf:aI c u=true) (hn:nD c≤60) (b:u.length+nP c≤900):Sz c:=by
 have h1:=f_len h
 have h2:=(jx hf).2
 exact ⟨by omega,by omega,hn⟩
section
variable {w n:Nat}{ns:List Int}
theorem IE (hw:5000<w) {one other:List Pt}{t:List Nat}(h1:aI one t=true) (h2:aI other t=true) (z1:Sz one) (z2:Sz other) (f:Bool):run prog w (n+4) 13 [.val (aD one),.val (aD other),.val (.bl f)]=some (aD (ld f one other),[]):=by
 have a1:=z1.tt
 have a2:=z2.tt
 have a3:=z1.ln
 have a4:=z2.ln
 have hc:=zP (F:=prog) (w:=w) (n:=n) (i:=15) (aJ:=0) (cg:=1) (E1:=16) rfl rfl rfl rfl one other t h1 h2 z1.nd z2.nd (by omega) (by omega) z1.ln z2.ln
 obtain ⟨ps,p,r⟩:=EX (F:=prog) (w:=w) (n:=n+1) (i:=13) (aJ:=0) (cC:=12) (bw:=11) (fU:=14) (aY:=4) (bT:=3) (kQ:=15) rfl rfl rfl rfl rfl rfl rfl hw one other f t h1 h2 (by omega) (by omega) (by omega) (by omega) hc
 rw [G0 p];exact r
noncomputable def RW (c:List Pt) (os:List (List Pt)) (x:List Pt) (L:List (List Pt)) (a:Option Sl):Fr:=[some (.val (aD c)),some (.val (rV os)),some (.val (aD x)),some (.own (L.map aD)),a]
theorem wc (hw:5000<w) {c:List Pt}{os:List (List Pt)}{t:List Nat}(h:aI c t=true) (hc:Ch t os) (hF:Fw os) (z:Sz c) (hB:t.length+nP c+cH os≤800) (hl:os.length≤100) :
  run prog w (n+5) 19 [.val (aD c),.val (rV os)]=some (.tup [aD (b9 (ak c) os).1,rV (b9 (ak c) os).2],[]):=by
 have z1:=z.tt
 have z2:=z.ln
 have fo:=fun fr=>cE (fr:=fr) (eZ (F:=prog) (aY:=4) (i:=3) (w:=w) (n:=n+2) rfl rfl c (by omega) (by omega))
 refine cD (fn:=G5) rfl rfl ?_
 refine ah (aW (bh (aS rfl (az rfl) aP) (fo _)) rfl rfl ?_)
 refine ah (fS (l:=[]) (eB aO fh) rfl rfl ?_)
 refine ah (gv (vs:=os.map aD) (ee (dU rfl) rfl) ?_)
 refine eG (e:=aD) (fun p l fr=>∃ x L u a,(b9 x l).1=(b9 (ak c) os).1∧L++(b9 x l).2=(b9 (ak c) os).2∧aI x u=true∧ak x=x∧nD x≤60∧Ch u l∧Fw l∧u.length+nP x+cH l≤800∧L.length+l.length≤100∧vo a∧fr=RW c os x L a) (fun p o l fr ⟨x,L,u,a,e1,e2,hx,hfx,hdx,hcl,RX,hb,hL,ha,hfr⟩=>?_) (fun p fr ⟨x,L,u,a,e1,e2,hx,hfx,hdx,hcl,RX,hb,hL,ha,hfr⟩=>?_) os [] _ ⟨ak c,[],t,none,rfl,rfl,by rw [fP];exact h,cQ c,by rw [jw];exact z.nd,hc,hF,by rw [iK];omega,by simpa using hl,.none,rfl⟩
 ·subst hfr
  rw [dw] at hb
  have fo:=RX o (.head _)
  have l1:=zS true hx hcl.1
  have dn:=(jx hcl.1).1
  have zx:=RU hfx hx hdx (by omega)
  have zo:=RU fo.1 hcl.1 fo.2 (by omega)
  have r1:=fun fr=>eU (fr:=fr) (IE (n:=n) hw hcl.1 hx zo zx false)
  have r2:=fun fr=>eU (fr:=fr) (IE (n:=n) hw hx hcl.1 zx zo true)
  refine cO (bind1 rfl ha) ?_
  refine ah (dR (jh rfl rfl (aN (bh (aS rfl (az rfl) (aS rfl (az rfl) (aS rfl (bC rfl) aP))) (r1 _)) aO) (iH (by simp at hL ⊢;omega))) ?_)
  refine ah (aW (bh (aS rfl (az rfl) (aS rfl (az rfl) (aS rfl (bC rfl) aP))) (r2 _)) rfl rfl (ay ?_))
  rw [cY]
  refine ⟨ld true x o,L++[ld false o x],aC o u,some (.val (aD o)),e1,by rw [←e2,List.append_assoc];rfl,l1.ft,l1.fm,Nat.le_trans l1.nd hdx,hcl.2,fun y hy=>RX y (.tail _ hy),by rw [l1.np];omega,by simp at hL ⊢;omega,.val,?_⟩
  unfold RW
  rw [List.map_append];rfl
 ·subst hfr
  have oE:x=(b9 (ak c) os).1:=e1
  have qz:L=(b9 (ak c) os).2:=by rw [←e2];simp [b9]
  subst oE qz
  have sh:eT (RW c os (b9 (ak c) os).1 (b9 (ak c) os).2 a)=[some (.val (aD c)),some (.val (rV os)),some (.val (aD (b9 (ak c) os).1)),some (.val (rV (b9 (ak c) os).2)),a]:=by
   show _ :: _ :: _ :: _ :: [a.map Sl.dm]=_
   rw [b6 ha];rfl
  refine ah (bK (af:=[some (.val (aD c)),some (.val (rV os)),some (.val (aD (b9 (ak c) os).1)),some (.val (rV (b9 (ak c) os).2)),a]) ?_ ⟨rfl,rfl⟩)
  rw [sh]
  exact ir (aN (az rfl) (aN (az rfl) aO)) j0
theorem Cy:∀ {rs:List (List Pt)}{t:List Nat}{k:Nat}{a b:List Pt},Ch t rs→rs[k]?=some a→rs[k+1]?=some b→gp a=aR b
 | [],_,_,_,_,_,e,_=>by simp at e
 | [_],_,_,_,_,_,_,e=>by simp at e
 | c :: d :: rs,t,0,a,b,h,e1,e2=>by
  simp at e1 e2
  subst e1 e2
  rw [←lR h.1,gw h.2.1]
 | c :: d :: rs,t,k+1,a,b,h,e1,e2=>Cy (rs:=d :: rs) h.2 (by simpa using e1) (by simpa using e2)
theorem RY {l:List V}{j:Nat}{v:V}(h:l[j]?=some v):eF (.lst l) (.int (j:Int))=some v:=by rw [xW,qf (Int.natCast_nonneg j)];exact h
theorem rR {rs:List (List Pt)}{j:Nat}{c:List Pt}(h:rs[j]?=some c) {i:Int}(e:i=j):eF (rV rs) (.int i)=some (aD c):=by subst e;exact RY (by rw [List.getElem?_map,h];rfl)
theorem sI {t:List Nat}{rs:List (List Pt)}(hc:Ch t rs) (hz:∀ c∈rs,Sz c) (hl:rs.length≤100):run prog w (n+3) 18 [.val (rV rs)]=some (.bf,[]):=by
 have key:Wp (exs (run prog w (n+2)) w yk.body (eS yk [.val (rV rs)])) fun g fr=>g=.nx∧outs 1 fr=[]:=by
  have ln:cX .len [rV rs]=some (.int (rs.length:Nat)):=by unfold rV;rw [jt,List.length_map]
  refine ah (gv (qi (aN (bC rfl) (aN (fz (aN (az rfl) aO) ln) aO)) (Ys (by omega) (by omega) (by omega) (by omega))) ?_)
  refine qX (lo:=1) (N:=((rs.length:Int) - 1).toNat) (fun _ fr=>∃ a,vo a∧fr=[some (.val (rV rs)),a]) (fun k fr hk ⟨a,ha,hfr⟩=>?_) (fun fr ⟨a,ha,hfr⟩=>?_) ⟨none,.none,rfl⟩
  ·subst hfr
   have hk2:k+1<rs.length:=by omega
   have e1:rs[k]?=some rs[k]:=List.getElem?_eq_getElem _
   have e2:rs[k+1]?=some rs[k+1]:=List.getElem?_eq_getElem hk2
   have ad:=Cy hc e1 e2
   have z1:=hz rs[k] (List.getElem_mem _)
   have z2:=hz rs[k+1] (List.getElem_mem _)
   have a1:=fun fr=>cE (fr:=fr) (sF (F:=prog) (aJ:=0) (i:=2) (w:=w) (n:=n) rfl rfl rs[k] (by have:=z1.ln;omega) (by have:=z1.tt;omega))
   have b1:=fun fr=>cE (fr:=fr) (jl (F:=prog) (aJ:=0) (i:=1) (w:=w) (n:=n) rfl rfl rs[k+1] (by have:=z2.ln;omega) (by have:=z2.tt;omega))
   rw [ad] at a1
   refine cO (bind1 rfl ha) (ah (aL (b:=false) (aH rfl (bY (bh (aS rfl (dh (az rfl) (bV (az rfl) (bC rfl) uU) (rR e1 (by omega))) aP) (a1 _)) (bh (aS rfl (dh (az rfl) (az rfl) (rR e2 (by omega))) aP) (b1 _)) (nI _)) rfl) (fun h=>absurd h (by decide)) fun _=>ay (ay ?_)))
   rw [cY]
   exact ⟨_,.val,rfl⟩
  ·subst hfr
   exact ay ⟨rfl,rfl⟩
 obtain ⟨g,fr,e,rfl,ho⟩:=key
 rw [run_eq (fn:=yk) rfl rfl,e]
 show some (V.bf,outs 1 fr)=_
 rw [ho]
theorem tP:∀ {rs:List (List Pt)}{t:List Nat},Ch t rs→Ch t (rs.map ak)
 | [],_,_=>trivial
 | c :: rs,t,h=>⟨by rw [fP];exact h.1,tP (by rw [bX];exact h.2)⟩
theorem IF:∀ (rs:List (List Pt)) (t:List Nat),bW t (rs.map ak)=bW t rs
 | [],_=>rfl
 | c :: rs,t=>by show bW (aC (ak c) t) (rs.map ak)=bW (aC c t) rs;rw [bX];exact IF rs _
theorem IG:∀ (rs:List (List Pt)) (T:List Tq),dj T (rs.map ak)=dj T rs
 | [],_=>rfl
 | c :: rs,T=>by show dj ((told 0 (ak c)).map (sub T)) (rs.map ak)=dj ((told 0 c).map (sub T)) rs;rw [bO];exact IG rs _
theorem tQ:∀ rs:List (List Pt),cH (rs.map ak)=cH rs
 | []=>rfl
 | c :: rs=>by rw [List.map_cons,dw,dw,iK,tQ rs]
theorem U3 {rs:List (List Pt)}(h:Fw rs):rs.map ak=rs:=by
 induction rs with
 | nil=>rfl
 | cons c rs ih=>rw [List.map_cons,(h c (.head _)).1,ih fun x hx=>h x (.tail _ hx)]
noncomputable def RZ (as os M X:List (List Pt)) (a b:Option Sl):Fr:=[some (.val (rV as)),some (.val (rV os)),some (.own (M.map aD)),some (.val (rV X)),a,b,none]
structure Rw (t:List Nat) (rs:List (List Pt)):Prop where
 ch:Ch t rs
 sz:∀ c∈rs,Sz c
 ln:rs.length≤100
theorem jU (hw:5000<w) {as os:List (List Pt)}{t:List Nat}(h1:Rw t as) (h2:Rw t os) (hB:t.length+cH as+cH os≤700) :
  run prog w (n+6) 17 [.val (rV as),.val (rV os)]=some (.tup [rV (bq as (os.map ak)).1,rV (bq as (os.map ak)).2],[]):=by
 have k1:=fun fr=>cE (fr:=fr) (sI (w:=w) (n:=n+2) h1.ch h1.sz h1.ln)
 have k2:=fun fr=>cE (fr:=fr) (sI (w:=w) (n:=n+2) h2.ch h2.sz h2.ln)
 have a1:=h1.ln
 have a2:=h2.ln
 have pf:=tQ os
 have hF:Fw (os.map ak):=fun c hc=>by
  obtain ⟨x,hx,rfl⟩:=List.mem_map.mp hc
  exact ⟨cQ x,by rw [jw];exact (h2.sz x hx).nd⟩
 refine cD (fn:=G2) rfl rfl ?_
 refine ah (dR (bh (aS rfl (az rfl) aP) (k1 _)) ?_)
 refine ah (dR (bh (aS rfl (az rfl) aP) (k2 _)) ?_)
 refine ah (fS (l:=[]) (eB aO fh) rfl rfl ?_)
 refine ah (aW (v:=rV (os.map ak)) (jL (ee (dU rfl) rfl) rfl (iV aD (fun c=>aD (ak c)) os fun c hc=>m8 rfl (bh (aS rfl (az rfl) aP) (cE (eZ (F:=prog) (aY:=4) (i:=3) (w:=w) (n:=n+3) rfl rfl c (by have:=(h2.sz c hc).ln;omega) (by have:=(h2.sz c hc).tt;omega))))) ((fy (cy (by simp;omega))).trans (by unfold rV;rw [List.map_map];rfl))) rfl rfl ?_)
 refine ah (gv (vs:=as.map aD) (ee (dU rfl) rfl) ?_)
 refine eG (e:=aD) (fun p l fr=>∃ M X u a b,M++(bq l X).1=(bq as (os.map ak)).1∧(bq l X).2=(bq as (os.map ak)).2∧Ch u l∧Ch u X∧Fw X∧X.length≤100∧(∀ c∈l,Sz c)∧u.length+cH l+cH X≤700∧M.length+l.length≤100∧vo a∧vo b∧fr=RZ as os M X a b) (fun p c l fr ⟨M,X,u,a,b,e1,e2,hl,hX,sJ,we,hs,hb,hM,va,vb,hfr⟩=>?_) (fun p fr ⟨M,X,u,a,b,e1,e2,hl,hX,sJ,we,hs,hb,hM,va,vb,hfr⟩=>?_) as [] _ ⟨[],os.map ak,t,none,none,rfl,rfl,h1.ch,tP h2.ch,hF,by simpa using a2,h1.sz,by rw [pf];omega,by simpa using a1,.none,.none,rfl⟩
 ·subst hfr
  rw [dw] at hb
  have zc:=hs c (.head _)
  have rp:=fun fr=>call2 (fr:=fr) (wc (w:=w) (n:=n) hw hl.1 hX sJ zc (by omega) we)
  have R:=nZ X (ak c) u (by rw [fP];exact hl.1) hX
  have dn:=(jx hl.1).1
  refine cO (bind1 rfl va) ?_
  refine ah (aW (bh (aS rfl (az rfl) (aS rfl (az rfl) aP)) (rp _)) rfl (iw rfl vb) ?_)
  refine ah (dR (jh rfl rfl (aN (dh (az rfl) (bC rfl) rfl) aO) (iH (by simp at hM ⊢;omega))) ?_)
  refine ah (aW (dh (az rfl) (bC rfl) rfl) rfl rfl (ay ?_))
  rw [cY]
  refine ⟨M++[(b9 (ak c) X).1],(b9 (ak c) X).2,aC c u,some (.val (aD c)),some (.val (.tup [aD (b9 (ak c) X).1,rV (b9 (ak c) X).2])),by rw [←e1,List.append_assoc];rfl,e2,hl.2,by have:=R.ch;rwa [bX] at this,R.fw sJ,by rw [R.ln];exact we,fun y hy=>hs y (.tail _ hy),by rw [R.pt];omega,by simp at hM ⊢;omega,.val,.val,?_⟩
  unfold RZ
  rw [List.map_append];rfl
 ·subst hfr
  have oE:M=(bq as (os.map ak)).1:=by rw [←e1];simp [bq]
  have qz:X=(bq as (os.map ak)).2:=e2
  subst oE qz
  have sh:eT (RZ as os (bq as (os.map ak)).1 (bq as (os.map ak)).2 a b)=[some (.val (rV as)),some (.val (rV os)),some (.val (rV (bq as (os.map ak)).1)),some (.val (rV (bq as (os.map ak)).2)),a,b,none]:=by
   show _ :: _ :: _ :: _ :: [a.map Sl.dm,b.map Sl.dm,none]=_
   rw [b6 va,b6 vb];rfl
  refine ah (bK (af:=[some (.val (rV as)),some (.val (rV os)),some (.val (rV (bq as (os.map ak)).1)),some (.val (rV (bq as (os.map ak)).2)),a,b,none]) ?_ ⟨rfl,rfl⟩)
  rw [sh]
  exact ir (aN (az rfl) (aN (az rfl) aO)) j0
theorem U4 (i:Int):Ev.cz 80 i=true:=by simp [Ev.cz]
theorem drawn {ns:List Int}(k:Int) (m:Nat) (h:0<m):∃ p:Nat,cP ns k (m:Int)=(p:Int)∧p<m:=by
 have h1:=jJ ns k (many:=(m:Int)) (by omega)
 have h2:=jK ns k (many:=(m:Int)) (by omega)
 exact ⟨(cP ns k (m:Int)).toNat,by omega,by omega⟩
theorem lU (t:List Nat) (rs:List (List Pt)) (c:List Pt):bW t (rs++[c])=aC c (bW t rs):=by rw [q9];rfl
section
variable (hn:ns.length≤63)
include hn
theorem yo (at_:Int) {t:List Nat}(ht:t.length≤4):∃ rs,run prog w (n+4) 25 [.val (gG ns),.val (.int at_),.val (.str t)]=some (rV rs,[])∧Rw t rs∧rs.length≤3∧cH rs≤143:=by
 obtain ⟨N,eN,hN⟩:=drawn (ns:=ns) at_ 4 (by omega)
 have d0:=fun fr=>eU (fr:=fr) (gn (F:=prog) (c:=20) (dr:=21) (w:=w) (n:=n+1) rfl rfl hn at_ (many:=4) (by omega))
 rw [show cP ns at_ 4=(N:Int) from eN] at d0
 have key:Wp (exs (run prog w (n+3)) w yl.body (eS yl [.val (gG ns),.val (.int at_),.val (.str t)])) fun g fr=>∃ rs,(Rw t rs∧rs.length≤3∧cH rs≤143)∧g=.ret (rV rs)∧outs 3 fr=[]:=by
  refine ah (fS (l:=[]) (eB aO fh) rfl rfl ?_)
  refine ah (gv (vs:=range 0 N) (qi (aN (bh (aS rfl (az rfl) (aS rfl (az rfl) (aS rfl (bC rfl) aP))) (d0 _)) aO) (OL (by omega) rfl)) ?_)
  refine qX (lo:=0) (N:=N) (fun k fr=>∃ rs x,rs.length=k∧Ch t rs∧(∀ c∈rs,Sz c)∧2*(4+cH rs)+3≤11*3 ^ k∧vo x∧fr=[some (.val (gG ns)),some (.val (.int at_)),some (.val (.str (bW t rs))),some (.own (rs.map aD)),x]) (fun k fr hk ⟨rs,x,h1,h2,h3,h4,hx,hfr⟩=>?_) (fun fr ⟨rs,x,h1,h2,h3,h4,hx,hfr⟩=>?_) ⟨[],none,rfl,trivial,(fun c hc=>by cases hc),by simp [cH],.none,rfl⟩
  ·subst hfr
   have k9:(3:Nat) ^ k≤9:=Nat.le_trans (Nat.pow_le_pow_right (n:=3) (by decide) (show k≤2 by omega)) (by decide)
   have lt:=(lW h2).1
   have b:=U1 ns (at_+1+80*(0+(k:Nat))) (bW t rs) 48 (by omega)
   have b2:=nh ns (at_+1+80*(0+(k:Nat))) (bW t rs) ((bW t rs).length+1)
   have hf:=KQ ns (at_+1+80*(0+(k:Nat))) (bW t rs)
   have ch:=fun fr=>eU (fr:=fr) (zy (F:=prog) (c:=20) (dr:=21) (t:=23) (w:=w) (n:=n) rfl rfl hn rfl (at_+1+80*(0+(k:Nat))) (bW t rs) (by omega))
   have b3:tot (chg ns (at_+1+80*(0+(k:Nat))) (bW t rs))≤3*((bW t rs).length+1):=b2
   generalize chg ns (at_+1+80*(0+(k:Nat))) (bW t rs)=c at b b3 hf ch
   have md:=fun fr=>call2 (fr:=fr) (EK (F:=prog) (i:=24) (w:=w) (n:=n+2) rfl c (bW t rs) (by omega) (by omega) hf)
   have e1:=(jx hf).2
   have e2:=qE c
   have e3:=gw hf
   refine cO (bind1 rfl hx) ?_
   refine ah (dR (jh rfl rfl (aN (bh (aS rfl (az rfl) (aS rfl (bV (bV (az rfl) (bC rfl) eY) (bV (bC rfl) (az rfl) (lK (U4 _))) eY) (aS rfl (az rfl) aP))) (ch _)) aO) (iH (by simp;omega))) ?_)
   refine ah (aW (bh (aS rfl (dh (az rfl) (lI (bC rfl)) dZ) (aS rfl (az rfl) aP)) (md _)) rfl rfl (ay ?_))
   rw [cY]
   refine ⟨rs++[c],some (.val (.int (0+(k:Nat)))),by simp [h1],nu.mpr ⟨h2,hf,trivial⟩,fun y hy=>?_,?_,.val,by rw [lU,List.map_append];rfl⟩
   ·rcases List.mem_append.mp hy with hy | hy
    ·exact h3 y hy
    ·rw [List.mem_singleton] at hy;subst hy;exact ⟨by omega,by omega,by omega⟩
   ·rw [kR,dw,Nat.pow_succ];simp only [cH,List.map_nil,List.sum_nil] at h4 ⊢
    have lt':(bW t rs).length≤4+(rs.map nP).sum:=Nat.le_trans lt (by unfold cH;omega)
    omega
  ·subst hfr
   have k9:(3:Nat) ^ N≤27:=Nat.le_trans (Nat.pow_le_pow_right (n:=3) (by decide) (show N≤3 by omega)) (by decide)
   have sh:eT [some (.val (gG ns)),some (.val (.int at_)),some (.val (.str (bW t rs))),some (.own (rs.map aD)),x]=[some (.val (gG ns)),some (.val (.int at_)),some (.val (.str (bW t rs))),some (.val (rV rs)),x]:=by
    show _ :: _ :: _ :: _ :: [x.map Sl.dm]=_
    rw [b6 hx];rfl
   refine ah (bK (af:=[some (.val (gG ns)),some (.val (.int at_)),some (.val (.str (bW t rs))),some (.val (rV rs)),x]) ?_ ⟨rs,⟨⟨h2,h3,by omega⟩,by omega,by omega⟩,rfl,rfl⟩)
   rw [sh]
   exact az rfl
 obtain ⟨r,fr,e,rs,h,hr,ho⟩:=key
 exact ⟨rs,cD (fn:=yl) rfl rfl ⟨r,fr,e,hr,ho⟩,h⟩
end
noncomputable def lF (ns:List Int) (t:List Nat) (A O M Y:List (List Pt)) (l:List (Option Sl)):Fr:=some (.val (gG ns)) :: some (.val (.str t)) :: some (.val (rV A)) :: some (.val (rV O)) :: some (.val (rV M)) :: some (.val (rV Y)) :: l
noncomputable def G9 (w n:Nat) (ss:Ev.Ss) (fr:Fr):Prop:=Wp (exs (run prog w (n+6)) w ss fr) fun g fr=>g=.ret (.bl true)∧outs 1 fr=[]
noncomputable def HJ:Ev.Ss:=.cons vX (.cons vY (.cons vZ (.cons v5 .nil)))
noncomputable def s12:Ev.Ss:=.cons vS (.cons vU (.cons vV (.cons vW HJ)))
noncomputable def s7:Ev.Ss:=.cons zT (.cons zU (.cons zV (.cons vQ (.cons vR s12))))
theorem Cz {t:List Nat}{c:List Pt}{rs:List (List Pt)}(h:Rw t (c :: rs)):Rw t [c]:=⟨⟨h.ch.1,trivial⟩,fun x hx=>by rw [List.mem_singleton] at hx;subst hx;exact h.sz x (.head _),by simp⟩
theorem CB (t:List Nat):Rw t []:=⟨trivial,(fun x hx=>by cases hx),by simp⟩
theorem rq (c:List Pt):cH [c]=nP c:=by simp [cH]
theorem U5 (hw:5000<w) {t:List Nat}{A O M Y:List (List Pt)}(hA:Rw t A) (hO:Rw t O) (hB:t.length+cH A+cH O≤700) {a6 a7 a8 a9 jR jS jT:Option Sl}(v6:vo a6) (v7:vo a7) (v8:vo a8) (v9:vo a9) (v11:vo jR) (CC:vo jS) (CD:vo jT) :
  G9 w n HJ (lF ns t A O M Y [a6,a7,a8,a9,some (.val (rV Y)),jR,jS,jT,none,none,none,none]):=by
 refine ah (aL (b:=false) (aH rfl (bY (az rfl) (az rfl) (nR _)) rfl) (fun h=>absurd h (by decide)) fun _=>ay ?_)
 cases A with
 | nil=>exact ah (aL (b:=true) (m7 (aH rfl (bY (az rfl) (eB aO fh) (eR [] [])) (by rw [decide_eq_true rfl];rfl))) (fun _=>ah (bK (bC rfl) ⟨rfl,rfl⟩)) fun h=>absurd h (by decide))
 | cons a A=>
  have e1:Pv.cop .eq (rV (a :: A)) (rV [])=some false:=by rw [eR];simp
  cases O with
  | nil=>exact ah (aL (b:=true) (fR (aH rfl (bY (az rfl) (eB aO fh) e1) rfl) (aH rfl (bY (az rfl) (eB aO fh) (eR [] [])) (by rw [decide_eq_true rfl];rfl))) (fun _=>ah (bK (bC rfl) ⟨rfl,rfl⟩)) fun h=>absurd h (by decide))
  | cons o O=>
   have e2:Pv.cop .eq (rV (o :: O)) (rV [])=some false:=by rw [eR];simp
   refine ah (aL (b:=false) (fR (aH rfl (bY (az rfl) (eB aO fh) e1) rfl) (aH rfl (bY (az rfl) (eB aO fh) e2) rfl)) (fun h=>absurd h (by decide)) fun _=>ay ?_)
   have za:=hA.sz a (.head _)
   have zo:=hO.sz o (.head _)
   have r1:=fun fr=>eU (fr:=fr) (IE (w:=w) (n:=n+2) hw hA.ch.1 hO.ch.1 za zo true)
   have r2:=fun fr=>eU (fr:=fr) (IE (w:=w) (n:=n+2) hw hO.ch.1 hA.ch.1 zo za false)
   rw [dw,dw] at hB
   have r3:=jU (w:=w) (n:=n) hw (Cz hA) (Cz hO) (by rw [rq,rq];omega)
   have e3:bq [a] ([o].map ak)=([ld true a o],[ld false o a]):=by
    show ([ld true (ak a) (ak o)],[ld false (ak o) (ak a)])=_
    rw [O1 (cQ a) (cQ o),O1 (cQ o) (cQ a)]
   rw [e3] at r3
   have r3:=fun fr=>call2 (fr:=fr) r3
   have i1:eF (rV (a :: A)) (.int 0)=some (aD a):=rR (j:=0) rfl rfl
   have i2:eF (rV (o :: O)) (.int 0)=some (aD o):=rR (j:=0) rfl rfl
   have l1:gc (rV (a :: A)) none (some 1)=some (rV [a]):=by
    show dG (cut ((a :: A).map aD) none (some ((1:Nat):Int)))=_
    rw [tL];exact lD
   have l2:gc (rV (o :: O)) none (some 1)=some (rV [o]):=by
    show dG (cut ((o :: O).map aD) none (some ((1:Nat):Int)))=_
    rw [tL];exact lD
   refine ah (aW (v:=.tup [rV [ld true a o],rV [ld false o a]]) (ir (aN (eB (aN (bh (aS rfl (dh (az rfl) (bC rfl) i1) (aS rfl (dh (az rfl) (bC rfl) i2) (aS rfl (bC rfl) aP))) (r1 _)) aO) lD) (aN (eB (aN (bh (aS rfl (dh (az rfl) (bC rfl) i2) (aS rfl (dh (az rfl) (bC rfl) i1) (aS rfl (bC rfl) aP))) (r2 _)) aO) lD) aO)) j0) rfl rfl ?_)
   have sh:eT (lF ns t (a :: A) (o :: O) M Y [a6,a7,a8,a9,some (.val (rV Y)),jR,jS,jT,some (.val (.tup [rV [ld true a o],rV [ld false o a]])),none,none,none])=lF ns t (a :: A) (o :: O) M Y [a6,a7,a8,a9,some (.val (rV Y)),jR,jS,jT,some (.val (.tup [rV [ld true a o],rV [ld false o a]])),none,none,none]:=by
    show _ :: _ :: _ :: _ :: _ :: _ :: [a6.map Sl.dm,a7.map Sl.dm,a8.map Sl.dm,a9.map Sl.dm,_,jR.map Sl.dm,jS.map Sl.dm,jT.map Sl.dm,_,_,_,_]=_
    rw [b6 v6,b6 v7,b6 v8,b6 v9,b6 v11,b6 CC,b6 CD];rfl
   refine ah (bK (v:=.bl true) (af:=lF ns t (a :: A) (o :: O) M Y [a6,a7,a8,a9,some (.val (rV Y)),jR,jS,jT,some (.val (.tup [rV [ld true a o],rV [ld false o a]])),none,none,none]) ?_ ⟨rfl,rfl⟩)
   refine (congrArg (ev _ _ _) sh).trans ?_
   exact bY (bh (aS rfl (zu (az rfl) zv (m6 (bC rfl)) l1) (aS rfl (zu (az rfl) zv (m6 (bC rfl)) l2) aP)) (r3 _)) (az rfl) (eP _ _)
theorem sL:∀ A:List (List Pt),bq A []=(A.map ak,[])
 | []=>rfl
 | a :: A=>by
  show (ak a :: (bq A []).1,(bq A []).2)=_
  rw [sL A];rfl
theorem U6 (hw:5000<w) {t:List Nat}{A O:List (List Pt)}(hA:Rw t A) (hO:Rw t O) (hB:t.length+cH A+cH O≤700) {a6 a7 a8 a9:Option Sl}(v6:vo a6) (v7:vo a7) (v8:vo a8) (v9:vo a9) :
  G9 w n s12 (lF ns t A O (bq A (O.map ak)).1 (bq A (O.map ak)).2 [a6,a7,a8,a9,none,none,none,none,none,none,none,none]):=by
 have q1:=jU (w:=w) (n:=n) hw hA (CB t) (by simp [cH] at hB ⊢;omega)
 rw [show List.map ak []=[] from rfl,sL] at q1
 have q1:=fun fr=>call2 (fr:=fr) q1
 have q2:=fun fr=>call2 (fr:=fr) (jU (w:=w) (n:=n) hw (CB t) hO (by simp [cH] at hB ⊢;omega))
 have lA:=hA.ln
 have lO:=hO.ln
 have fo:∀ {rs:List (List Pt)},Rw t rs→∀ c∈rs,∀ fr,ez (run prog w (n+6)) 3 [.inr (aD c)] fr=.ok (aD (ak c)) fr:=fun h c hc fr=>cE (fr:=fr) (eZ (F:=prog) (aY:=4) (i:=3) (w:=w) (n:=n+4) rfl rfl c (by have:=(h.sz c hc).ln;omega) (by have:=(h.sz c hc).tt;omega))
 have mk:∀ {rs:List (List Pt)},rs.length≤100→dG (rs.map fun c=>aD (ak c))=some (rV (rs.map ak)):=fun {rs} h=>(fy (cy (by simp;omega))).trans (by unfold rV;rw [List.map_map];rfl)
 have nP:∀ A B:List (List Pt),Pv.cop .ne (.tup [rV A,rV B]) (.tup [rV A,rV B])=some false:=fun A B=>by rw [mY,eP];rfl
 refine ah (aL (b:=false) (aH rfl (bY (bh (aS rfl (az rfl) (aS rfl (eB aO fh) aP)) (q1 _)) (ir (aN (jL (ee (dU rfl) rfl) rfl (iV aD (fun c=>aD (ak c)) A fun c hc=>m8 rfl (bh (aS rfl (az rfl) aP) (fo hA c hc _))) (mk lA)) (aN (eB aO fh) aO)) j0) (nP (A.map ak) [])) rfl) (fun h=>absurd h (by decide)) fun _=>ay ?_)
 refine ah (aL (b:=false) (aH rfl (bY (bh (aS rfl (eB aO fh) (aS rfl (az rfl) aP)) (q2 _)) (ir (aN (eB aO fh) (aN (jL (ee (dU rfl) rfl) rfl (iV aD (fun c=>aD (ak c)) O fun c hc=>m8 rfl (bh (aS rfl (az rfl) aP) (fo hO c hc _))) (mk lO)) aO)) j0) (nP [] (O.map ak))) rfl) (fun h=>absurd h (by decide)) fun _=>ay ?_)
 refine ah (aW (jL (ee (dU rfl) rfl) rfl (iV aD (fun c=>aD (ak c)) O fun c hc=>m8 rfl (bh (aS rfl (az rfl) aP) (fo hO c hc _))) (mk lO)) rfl rfl ?_)
 have hF:Fw (O.map ak):=fun c hc=>by
  obtain ⟨x,hx,rfl⟩:=List.mem_map.mp hc
  exact ⟨cQ x,by rw [jw];exact (hO.sz x hx).nd⟩
 have Xu:=tP hO.ch
 have hpO:=tQ O
 have AV:(O.map ak).length≤100:=by simpa using lO
 generalize O.map ak=P at hF Xu hpO AV ⊢
 generalize Xv:bq A P=MY
 obtain ⟨M,Y⟩:=MY
 dsimp only
 refine ah (gv (vs:=cJ 0 (A.map aD)) (KC (dU rfl) rfl) ?_)
 refine uW (fun vs fr=>∃ k l X u jR jS jT,vs=cJ (k:Nat) (l.map aD)∧M.drop k=(bq l X).1∧Y=(bq l X).2∧Ch u l∧(∀ c∈l,Sz c)∧Ch u X∧Fw X∧X.length≤100∧u.length+cH l+cH X≤700∧vo jR∧vo jS∧vo jT∧fr=lF ns t A O M Y [a6,a7,a8,a9,some (.val (rV X)),jR,jS,jT,none,none,none,none]) (fun d vs fr ⟨k,l,X,u,jR,jS,jT,hv,e1,e2,hl,hs,hX,sJ,we,hb,v11,CC,CD,hfr⟩=>?_) (fun fr ⟨k,l,X,u,jR,jS,jT,hv,e1,e2,hl,hs,hX,sJ,we,hb,v11,CC,CD,hfr⟩=>?_) _ _ ⟨0,A,P,t,none,none,none,rfl,by rw [Xv];rfl,by rw [Xv],hA.ch,hA.sz,Xu,hF,AV,by omega,.none,.none,.none,rfl⟩
 ·subst hfr
  cases l with
  | nil=>simp [cJ] at hv
  | cons c l=>
   rw [List.map_cons,cJ,List.cons.injEq] at hv
   obtain ⟨rfl,rfl⟩:=hv
   rw [dw] at hb
   have zc:=hs c (.head _)
   have rX:Rw u X:=⟨hX,fun x hx=>?_,we⟩
   have r1:=jU (w:=w) (n:=n) hw (as:=[c]) (os:=X) (t:=u) ⟨⟨hl.1,trivial⟩,fun x hx=>by rw [List.mem_singleton] at hx;subst hx;exact zc,by simp⟩ rX (by rw [rq];omega)
   rw [U3 sJ] at r1
   have r1:=fun fr=>call2 (fr:=fr) r1
   have R:=nZ X (ak c) u (by rw [fP];exact hl.1) hX
   have dn:=(jx hl.1).1
   have oE:M.drop k=(b9 (ak c) X).1 :: (bq l (b9 (ak c) X).2).1:=e1
   have sl:gc (rV M) (some (k:Int)) (some ((k:Int)+1))=some (rV [(b9 (ak c) X).1]):=by
    show dG (cut (M.map aD) (some (k:Int)) (some ((k:Int)+((1:Nat):Int))))=_
    rw [ng,←List.map_drop,oE];exact lD
   refine cO (gO rfl v11 rfl CC) ?_
   refine ah (BG (bh (aS rfl (eB (aN (az rfl) aO) lD) (aS rfl (az rfl) aP)) (r1 _)) (gO rfl CD rfl .val) ?_)
   refine ah (aL (b:=false) (aH rfl (bY (az rfl) (zu (az rfl) (m6 (az rfl)) (m6 (bV (az rfl) (bC rfl) eY)) sl) (nR [(b9 (ak c) X).1])) rfl) (fun h=>absurd h (by decide)) fun _=>ay (ay ?_))
   rw [cY]
   refine ⟨k+1,l,(b9 (ak c) X).2,aC c u,_,_,_,rfl,?_,e2,hl.2,fun x hx=>hs x (.tail _ hx),by have:=R.ch;rwa [bX] at this,R.fw sJ,by rw [R.ln];exact we,by rw [R.pt];omega,.val,.val,.val,rfl⟩
   ·rw [←List.drop_drop,oE];rfl
   ·obtain ⟨f1,f2⟩:=sJ x hx
    have:=(lW hX).2 x hx
    have:=f_len f1
    exact ⟨by omega,by omega,f2⟩
 ·subst hfr
  cases l with
  | cons c l=>simp [cJ] at hv
  | nil=>
   have qz:Y=X:=e2
   subst qz
   exact U5 hw hA hO hB v6 v7 v8 v9 v11 CC CD
theorem CF {c:List Pt}{u:List Nat}(h:aI c u=true) (h1:tot c≤900) (h2:c.length≤900) (h3:u.length≤900) (fr:Fr):ez (run prog w (n+6)) 6 [.inr (aD c),.inr (.str u)] fr=.ok (.str (aC c u)) fr:=
 call2 (fr:=fr) (vj (F:=prog) (aJ:=0) (qp:=5) (i:=6) (w:=w) (n:=n+3) rfl rfl rfl c u (by omega) (by omega) (by omega) h)
structure Wy (t:List Nat) (rs:List (List Pt)):Prop where
 ch:Ch t rs
 ln:∀ c∈rs,c.length≤900
 tt:t.length+cH rs≤300
theorem Wy.at {t:List Nat}{p l:List (List Pt)}{c:List Pt}(h:Wy t (p++c :: l)):aI c (bW t p)=true∧tot c≤900∧c.length≤900∧(bW t p).length≤900:=by
 have h1:=nu.mp h.ch
 have h2:=h.tt
 have hm:c∈p++c :: l:=by simp
 have h3:=(lW h.ch).2 c hm
 have h4:=(lW h1.1).1
 rw [kR] at h2
 exact ⟨h1.2.1,by rw [kR] at h3;omega,h.ln c hm,by omega⟩
theorem Z8 (hw:5000<w) {t:List Nat}{A O:List (List Pt)}{W:List Pt}(hA:Rw t A) (hO:Rw t O) (hB:t.length+cH A+cH O≤700) (hlA:A.length≤3) (AV:O.length≤3)
  (w1:Wy t (A++(bq A (O.map ak)).2)) (w2:Wy t (O++(bq A (O.map ak)).1)) (l1:(bq A (O.map ak)).1.length≤3) (l2:(bq A (O.map ak)).2.length≤3) (hW:aI W t=true) (hw1:tot W≤2000) (hw2:W.length≤2000)
  (d1:aC W t=bW t (A++(bq A (O.map ak)).2)) (d2:aC W t=bW t (O++(bq A (O.map ak)).1)) :
  G9 w n s7 (lF ns t A O (bq A (O.map ak)).1 (bq A (O.map ak)).2 [some (.val (aD W)),none,none,none,none,none,none,none,none,none,none,none]):=by
 have fin:=fun {a7 a8 a9:Option Sl}=>U6 (w:=w) (n:=n) (ns:=ns) hw hA hO hB (a6:=some (.val (aD W))) (a7:=a7) (a8:=a8) (a9:=a9) .val
 generalize (bq A (O.map ak)).1=M at *
 generalize (bq A (O.map ak)).2=Y at *
 have ht:t.length≤300:=Nat.le_trans (Nat.le_add_right _ _) w1.tt
 have dW:=fun fr=>call2 (fr:=fr) (vj (F:=prog) (aJ:=0) (qp:=5) (i:=6) (w:=w) (n:=n+3) rfl rfl rfl W t (by omega) (by omega) (by omega) hW)
 have R0:Pv.bQ .add (rV A) (rV Y)=some (rV (A++Y)):=by unfold rV;rw [lG (by simp;omega),List.map_append]
 have R1:Pv.bQ .add (rV O) (rV M)=some (rV (O++M)):=by unfold rV;rw [lG (by simp;omega),List.map_append]
 refine ah (aW (az rfl) rfl rfl ?_)
 refine ah (gv (vs:=(A++Y).map aD) (af:=lF ns t A O M Y [some (.val (aD W)),some (.val (.str t)),none,none,none,none,none,none,none,none,none,none]) (ee (bV (az rfl) (az rfl) R0) rfl) ?_)
 refine eG (e:=aD) (fun p l fr=>p++l=A++Y∧∃ x,vo x∧fr=lF ns t A O M Y [some (.val (aD W)),some (.val (.str (bW t p))),x,none,none,none,none,none,none,none,none,none]) (fun p c l fr ⟨hp,x,vx,hfr⟩=>?_) (fun p fr ⟨hp,x,vx,hfr⟩=>?_) _ [] _ ⟨rfl,none,.none,rfl⟩
 ·subst hfr
  rw [←hp] at w1
  obtain ⟨f1,f2,f3,f4⟩:=w1.at
  refine cO (bind1 rfl vx) (ah (aW (bh (aS rfl (az rfl) (aS rfl (az rfl) aP)) (CF f1 f2 f3 f4 _)) rfl rfl (ay ?_)))
  rw [cY]
  exact ⟨by rw [←hp,List.append_assoc];rfl,_,.val,by rw [lU];rfl⟩
 ·subst hfr
  rw [List.append_nil] at hp
  subst hp
  rw [←d1]
  refine ah (aW (az rfl) rfl rfl ?_)
  refine ah (gv (vs:=(O++M).map aD) (af:=lF ns t A O M Y [some (.val (aD W)),some (.val (.str (aC W t))),x,some (.val (.str t)),none,none,none,none,none,none,none,none]) (ee (bV (az rfl) (az rfl) R1) rfl) ?_)
  refine eG (e:=aD) (fun p l fr=>p++l=O++M∧∃ x,vo x∧fr=lF ns t A O M Y [some (.val (aD W)),some (.val (.str (aC W t))),x,some (.val (.str (bW t p))),none,none,none,none,none,none,none,none]) (fun p c l fr ⟨hp,x,vx,hfr⟩=>?_) (fun p fr ⟨hp,x,vx,hfr⟩=>?_) _ [] _ ⟨rfl,x,vx,rfl⟩
  ·subst hfr
   rw [←hp] at w2
   obtain ⟨f1,f2,f3,f4⟩:=w2.at
   refine cO (bind1 rfl vx) (ah (aW (bh (aS rfl (az rfl) (aS rfl (az rfl) aP)) (CF f1 f2 f3 f4 _)) rfl rfl (ay ?_)))
   rw [cY]
   exact ⟨by rw [←hp,List.append_assoc];rfl,_,.val,by rw [lU];rfl⟩
  ·subst hfr
   rw [List.append_nil] at hp
   subst hp
   rw [←d2]
   refine ah (aL (b:=false) (fR (aH rfl (bY (az rfl) (az rfl) (nS _)) rfl) (aH rfl (bY (bh (aS rfl (az rfl) (aS rfl (az rfl) aP)) (dW _)) (az rfl) (nS _)) rfl)) (fun h=>absurd h (by decide)) fun _=>ay ?_)
   exact fin .val vx .val
variable (hn:ns.length≤63)
include hn
theorem R3 (hw:5000<w):run prog w (n+7) 26 [.val (gG ns)]=some (.bl true,[]):=by
 have ht:(txt ns 0 4).length≤4:=KG ns 0 (most:=4) (by decide)
 have c1:=fun fr=>eU (fr:=fr) (DT (F:=prog) (c:=20) (dr:=21) (t:=22) (w:=w) (n:=n+3) rfl rfl hn rfl 0 4 (by decide) (by decide))
 generalize txt ns 0 4=t at ht c1
 obtain ⟨A,rA,hA,lA,pA⟩:=yo (w:=w) (n:=n+2) hn 10 ht
 obtain ⟨O,rO,hO,lO,pO⟩:=yo (w:=w) (n:=n+2) hn 300 ht
 have rA:=fun fr=>eU (fr:=fr) rA
 have rO:=fun fr=>eU (fr:=fr) rO
 have rr:=fun fr=>call2 (fr:=fr) (jU (w:=w) (n:=n) hw hA hO (by omega))
 have S:=vP A (O.map ak) t hA.ch (tP hO.ch)
 have hF:Fw (O.map ak):=fun c hc=>by
  obtain ⟨x,hx,rfl⟩:=List.mem_map.mp hc
  exact ⟨cQ x,by rw [jw];exact (hO.sz x hx).nd⟩
 have s1:=S.l1
 have s2:=S.l2
 have s3:=S.p1
 have s4:=S.p2
 have s5:=S.c1
 rw [IF] at s5
 rw [List.length_map] at s2
 rw [tQ] at s4
 have s6:∀ T,dj T (A++(bq A (O.map ak)).2)=dj T (O++(bq A (O.map ak)).1):=fun T=>by rw [S.tl,nX,nX,IG]
 have fY:=S.f2 hF
 have fM:=S.f1 fun c hc=>(hA.sz c hc).nd
 have s7:=S.c2
 have fin:=fun {W:List Pt}=>Z8 (w:=w) (n:=n) (ns:=ns) (A:=A) (O:=O) (W:=W) hw hA hO (by omega) lA lO
 generalize (bq A (O.map ak)).1=M at *
 generalize (bq A (O.map ak)).2=Y at *
 have k1:Ch t (A++Y):=nu.mpr ⟨hA.ch,s7⟩
 have k2:Ch t (O++M):=nu.mpr ⟨hO.ch,s5⟩
 have t1:t.length+cH (A++Y)≤290:=by rw [kR];omega
 have t2:t.length+cH (O++M)≤290:=by rw [kR];omega
 have n1:∀ c∈A++Y,tot c≤290:=fun c hc=>Nat.le_trans ((lW k1).2 c hc) t1
 have n2:∀ c∈O++M,tot c≤290:=fun c hc=>Nat.le_trans ((lW k2).2 c hc) t2
 have g1:∀ c∈A++Y,c.length≤900:=fun c hc=>by
  rcases List.mem_append.mp hc with h | h
  ·exact (hA.sz c h).ln
  ·have:=f_len (fY c h).1;have:=n1 c hc;omega
 have g2:∀ c∈O++M,c.length≤900:=fun c hc=>by
  rcases List.mem_append.mp hc with h | h
  ·exact (hO.sz c h).ln
  ·have:=f_len (fM c h).1;have:=n2 c hc;omega
 have u1:=rj n1
 have u2:=rj n2
 rw [List.length_append] at u1 u2
 obtain ⟨W,r1,A1⟩:=nv (F:=prog) (w:=w) (n:=n+2) (i:=9) (aJ:=0) (cC:=12) (bw:=11) (di:=10) (aY:=4) (bT:=3) (cg:=1) (dN:=2) (gI:=8) (cW:=7) rfl rfl rfl rfl rfl rfl rfl rfl rfl rfl hw rfl t (A++Y) k1 (by have:(A.length+Y.length)*290≤6*290:=Nat.mul_le_mul_right _ (by omega);omega) (fun c hc=>Nat.le_trans (g1 c hc) (by decide))
 obtain ⟨X,r2,A2⟩:=nv (F:=prog) (w:=w) (n:=n+2) (i:=9) (aJ:=0) (cC:=12) (bw:=11) (di:=10) (aY:=4) (bT:=3) (cg:=1) (dN:=2) (gI:=8) (cW:=7) rfl rfl rfl rfl rfl rfl rfl rfl rfl rfl hw rfl t (O++M) k2 (by have:(O.length+M.length)*290≤6*290:=Nat.mul_le_mul_right _ (by omega);omega) (fun c hc=>Nat.le_trans (g2 c hc) (by decide))
 have eW:W=X:=YB A1.GX A2.GX A1.fit A2.fit (by rw [A1.Ck,A2.Ck,s6])
 subst eW
 have r1:=fun fr=>call2 (fr:=fr) r1
 have r2:=fun fr=>call2 (fr:=fr) r2
 have a1:=A1.tt
 have a2:=A1.ln
 have a3:iz (A++Y)≤1740:=by have:(A.length+Y.length)*290≤6*290:=Nat.mul_le_mul_right _ (by omega);omega
 have R0:Pv.bQ .add (rV A) (rV Y)=some (rV (A++Y)):=by unfold rV;rw [lG (by simp;omega),List.map_append]
 have R1:Pv.bQ .add (rV O) (rV M)=some (rV (O++M)):=by unfold rV;rw [lG (by simp;omega),List.map_append]
 have ln:∀ R:List (List Pt),cX .len [rV R]=some (.int (R.length:Nat)):=fun R=>by unfold rV;rw [jt,List.length_map]
 have lt:cX .len [.str t]=some (.int (t.length:Nat)):=len_str (by omega)
 have ne1:Pv.cop .ne (.int (M.length:Nat)) (.int (A.length:Nat))=some false:=by rw [s1];exact nI _
 have ne2:Pv.cop .ne (.int (Y.length:Nat)) (.int (O.length:Nat))=some false:=by rw [s2];exact nI _
 refine cD (fn:=Hs) rfl rfl ?_
 refine ah (aW (bh (aS rfl (az rfl) (aS rfl (bC rfl) (aS rfl (bC rfl) aP))) (c1 _)) rfl rfl ?_)
 refine ah (aW (bh (aS rfl (az rfl) (aS rfl (bC rfl) (aS rfl (az rfl) aP))) (rA _)) rfl rfl ?_)
 refine ah (aW (bh (aS rfl (az rfl) (aS rfl (bC rfl) (aS rfl (az rfl) aP))) (rO _)) rfl rfl ?_)
 refine ah (BG (bh (aS rfl (az rfl) (aS rfl (az rfl) aP)) (rr _)) (gO rfl .none rfl .none) ?_)
 refine ah (aL (b:=false) (fR (aH rfl (bY (fz (aN (az rfl) aO) (ln M)) (fz (aN (az rfl) aO) (ln A)) ne1) rfl) (aH rfl (bY (fz (aN (az rfl) aO) (ln Y)) (fz (aN (az rfl) aO) (ln O)) ne2) rfl)) (fun h=>absurd h (by decide)) fun _=>ay ?_)
 refine ah (aW (bh (aS rfl (fz (aN (az rfl) aO) lt) (aS rfl (bV (az rfl) (az rfl) R0) aP)) (r1 _)) rfl rfl ?_)
 refine ah (aL (b:=false) (aH rfl (bY (az rfl) (bh (aS rfl (fz (aN (az rfl) aO) lt) (aS rfl (bV (az rfl) (az rfl) R1) aP)) (r2 _)) (nC _)) rfl) (fun h=>absurd h (by decide)) fun _=>ay ?_)
 exact fin ⟨k1,g1,by omega⟩ ⟨k2,g2,by omega⟩ (by omega) (by omega) A1.fit (by omega) (by omega) A1.dn A2.dn
end
theorem good:∀ ns:List Int,ns.length≤63→∃ h',Ev.run prog 100000 60 26 [.ref 0] [.bS (ns.map Ev.D.int)]=.ok (.bl true) h':=fun ns h=>Kd (R3 (w:=100000) (n:=53) h (by decide))
end Lg
theorem Lw.good:∀ ns:List Int,ns.length≤63→∃ h',Ev.run Lw.prog 100000 60 26 [.ref 0] [.bS (ns.map Ev.D.int)]=.ok (.bl true) h':=Lg.good
namespace PySem.W.Fast
theorem tw9293397093510726739:True:=⟨⟩
theorem tw13145742244459530670:True:=⟨⟩
theorem tw12475021758544551565:True:=⟨⟩
theorem tw18014816291616797037:True:=⟨⟩
theorem tw4167546310035740052:True:=⟨⟩
theorem tw2181336043863221695:True:=⟨⟩
theorem tw9781034616542918430:True:=⟨⟩
theorem tw15799410399714299086:True:=⟨⟩
theorem tw13699039364796207469:True:=⟨⟩
theorem tw17281377892934322330:True:=⟨⟩
theorem tw17312382931577771263:True:=⟨⟩
theorem tw4254619358333867231:True:=⟨⟩
theorem tw15411177762243574385:True:=⟨⟩
theorem tw10089542889223579880:True:=⟨⟩
theorem tw9451321407498748795:True:=⟨⟩
theorem tw1490277001666108488:True:=⟨⟩
theorem tw15435404797816637099:True:=⟨⟩
theorem tw5520135741062379499:True:=⟨⟩
theorem tw3138837819689961034:True:=⟨⟩
theorem tw10396946075290838633:True:=⟨⟩
theorem tw783091823836980770:True:=⟨⟩
theorem tw18075578454081310350:True:=⟨⟩
theorem tw4067182133116278273:True:=⟨⟩
theorem tw9631115556576460324:True:=⟨⟩
theorem tw16364533307355614855:True:=⟨⟩
theorem tw1143587498657530076:True:=⟨⟩
theorem tw1310294098619807404:True:=⟨⟩
theorem tw702054677270238806:True:=⟨⟩
theorem tw16144428610660474830:True:=⟨⟩
theorem tw10919151020621564277:True:=⟨⟩
theorem tw63151400140545003:True:=⟨⟩
theorem tw1974599722785914182:True:=⟨⟩
theorem tw6779836257753884597:True:=⟨⟩
theorem tw14501484547431041840:True:=⟨⟩
theorem tw10048608742631524118:True:=⟨⟩
theorem tw2073599454323264523:True:=⟨⟩
theorem tw5895803122696643815:True:=⟨⟩
theorem tw12016927665994433896:True:=⟨⟩
theorem tw12572440282807565155:True:=⟨⟩
theorem tw12600530638652025276:True:=⟨⟩
theorem tw16265506688463339728:True:=⟨⟩
theorem tw10567460401460977863:True:=⟨⟩
theorem tw16042384576651433407:True:=⟨⟩
theorem tw5948818989907461013:True:=⟨⟩
theorem tw814079233753844144:True:=⟨⟩
theorem tw10181500787359168806:True:=⟨⟩
theorem tw5621677099863621579:True:=⟨⟩
theorem tw9047766740732972388:True:=⟨⟩
theorem tw6362052726146060127:True:=⟨⟩
theorem tw9153107436532317165:True:=⟨⟩
theorem tw16486729197262923504:True:=⟨⟩
theorem tw10390802519219894282:True:=⟨⟩
theorem tw10024660621424216852:True:=⟨⟩
theorem tw7994180592469714311:True:=⟨⟩
theorem tw1371660827581329808:True:=⟨⟩
theorem tw18404134681596139404:True:=⟨⟩
theorem tw3723900383852729167:True:=⟨⟩
theorem tw15534500408248158635:True:=⟨⟩
theorem tw10445786270968771547:True:=⟨⟩
theorem tw2404588175512615990:True:=⟨⟩
theorem tw13454209023089554194:True:=⟨⟩
theorem tw3721112260838580726:True:=⟨⟩
theorem tw11728556240526855651:True:=⟨⟩
theorem tw1204179014520890584:True:=⟨⟩
theorem tw3612143715711467963:True:=⟨⟩
theorem tw11513548749604931664:True:=⟨⟩
theorem tw760331742911067838:True:=⟨⟩
theorem tw6000979233777692344:True:=⟨⟩
theorem tw955755821693900082:True:=⟨⟩
theorem tw9738858868755504580:True:=⟨⟩
theorem tw809740403166259835:True:=⟨⟩
theorem tw5168296911710773740:True:=⟨⟩
theorem tw13988767308482526608:True:=⟨⟩
theorem tw8416590751623259025:True:=⟨⟩
theorem tw2432657091825924178:True:=⟨⟩
theorem tw1274425113066161061:True:=⟨⟩
theorem tw2339101128290558124:True:=⟨⟩
theorem tw3368085172943414784:True:=⟨⟩
theorem tw9608944884913082666:True:=⟨⟩
theorem tw1296660591914336922:True:=⟨⟩
theorem tw15515300510976830183:True:=⟨⟩
theorem tw14701623238969624868:True:=⟨⟩
theorem tw11648430779248606102:True:=⟨⟩
theorem tw14532408771220988161:True:=⟨⟩
theorem tw1131827651652490518:True:=⟨⟩
theorem tw7187728287863040270:True:=⟨⟩
theorem tw6056991741534414604:True:=⟨⟩
theorem tw13947422512179461033:True:=⟨⟩
theorem tw9637888918122688564:True:=⟨⟩
theorem tw14204045221606691398:True:=⟨⟩
theorem tw14088950838920651049:True:=⟨⟩
theorem tw3883328568194001288:True:=⟨⟩
theorem tw3758252429984938477:True:=⟨⟩
theorem tw7736584939268033336:True:=⟨⟩
theorem tw10743968000314347448:True:=⟨⟩
theorem tw7794139977409719561:True:=⟨⟩
theorem tw13996338650692777190:True:=⟨⟩
theorem tw11652398266432337357:True:=⟨⟩
theorem tw16263053101062491881:True:=⟨⟩
theorem tw9512722158620889268:True:=⟨⟩
theorem tw18011173917613168342:True:=⟨⟩
theorem tw12588435556127001904:True:=⟨⟩
theorem tw11939964839996506415:True:=⟨⟩
theorem tw8530622277006069051:True:=⟨⟩
theorem tw3467363184295246419:True:=⟨⟩
theorem tw3335008949816770058:True:=⟨⟩
theorem tw10006468253643673587:True:=⟨⟩
theorem tw13825316705291381793:True:=⟨⟩
theorem tw8675340720628735164:True:=⟨⟩
theorem tw6035859393522265522:True:=⟨⟩
theorem tw12601330457927861965:True:=⟨⟩
theorem tw8491809210907075762:True:=⟨⟩
theorem tw2968096262182155697:True:=⟨⟩
theorem tw7595158418273393675:True:=⟨⟩
theorem tw12098679223064242552:True:=⟨⟩
theorem tw13975361706254504359:True:=⟨⟩
theorem tw13822093235057211970:True:=⟨⟩
theorem tw16267832111199064142:True:=⟨⟩
theorem tw15225661755749227053:True:=⟨⟩
theorem tw10163600876134202842:True:=⟨⟩
theorem tw7810721739946291245:True:=⟨⟩
theorem tw8358927458997963914:True:=⟨⟩
theorem tw16843858205639900445:True:=⟨⟩
theorem tw8435233593417801088:True:=⟨⟩
theorem tw17935048316367440039:True:=⟨⟩
theorem tw11004431220760908127:True:=⟨⟩
theorem tw13251335812364360569:True:=⟨⟩
theorem tw16318667745160345323:True:=⟨⟩
theorem tw10444994015781511087:True:=⟨⟩
theorem tw9332428940894416849:True:=⟨⟩
theorem tw4809440987142572915:True:=⟨⟩
theorem tw7463624130012048205:True:=⟨⟩
theorem tw4783556037671198711:True:=⟨⟩
theorem tw1098963523416583037:True:=⟨⟩
theorem tw5181646416107058269:True:=⟨⟩
theorem tw4501779765884514176:True:=⟨⟩
theorem tw363182201675839862:True:=⟨⟩
theorem tw12920083558652800021:True:=⟨⟩
theorem tw3637008206630648210:True:=⟨⟩
theorem tw14400302762609216374:True:=⟨⟩
theorem tw7982678960031489412:True:=⟨⟩
theorem tw6792479170968795437:True:=⟨⟩
theorem tw1837783754196672282:True:=⟨⟩
theorem tw17257572032111927071:True:=⟨⟩
theorem tw18331157451133329178:True:=⟨⟩
theorem tw12921774417177989345:True:=⟨⟩
theorem tw16549048047052110265:True:=⟨⟩
theorem tw7499273269971081067:True:=⟨⟩
theorem tw15916441485505967307:True:=⟨⟩
theorem tw14775716594585322164:True:=⟨⟩
theorem tw9732572065196783399:True:=⟨⟩
theorem tw11529616963154930004:True:=⟨⟩
theorem tw13889564214885587045:True:=⟨⟩
theorem tw1139192773486485505:True:=⟨⟩
theorem tw4372725561052240828:True:=⟨⟩
theorem tw12768625625848111880:True:=⟨⟩
theorem tw7614336737433384167:True:=⟨⟩
theorem tw4534348798055848547:True:=⟨⟩
theorem tw7613202751762101840:True:=⟨⟩
theorem tw13935862808641558658:True:=⟨⟩
theorem tw3606113497854472767:True:=⟨⟩
theorem tw3524120976325945269:True:=⟨⟩
theorem tw7747439454032204088:True:=⟨⟩
theorem tw4130230861536264787:True:=⟨⟩
theorem tw16608885782329117637:True:=⟨⟩
theorem tw53900851454617773:True:=⟨⟩
theorem tw14134428511434578645:True:=⟨⟩
theorem tw4643959029153716214:True:=⟨⟩
theorem tw9282535431020256481:True:=⟨⟩
theorem tw71455098329738032:True:=⟨⟩
theorem tw7750938529396185557:True:=⟨⟩
theorem tw17752777890613422106:True:=⟨⟩
theorem tw6729077314018003583:True:=⟨⟩
theorem tw18086704687998880605:True:=⟨⟩
theorem tw13410898499021612283:True:=⟨⟩
theorem tw5128581463118350714:True:=⟨⟩
theorem tw2602093181318126367:True:=⟨⟩
theorem tw16122473872498622749:True:=⟨⟩
theorem tw18318661528310010092:True:=⟨⟩
theorem tw9429003590346349764:True:=⟨⟩
theorem tw6498718914408963108:True:=⟨⟩
theorem tw12148000697185194715:True:=⟨⟩
theorem tw15386651504678882924:True:=⟨⟩
theorem tw10261169414570440835:True:=⟨⟩
theorem tw7120595281159055547:True:=⟨⟩
theorem tw6067070317185562933:True:=⟨⟩
theorem tw8847720855000709230:True:=⟨⟩
theorem tw6092301653022591050:True:=⟨⟩
theorem tw17370916312166860244:True:=⟨⟩
theorem tw4193606197663160141:True:=⟨⟩
theorem tw16193570749500339392:True:=⟨⟩
theorem tw17239428527291689378:True:=⟨⟩
theorem tw5369859669052149441:True:=⟨⟩
theorem tw13599305423717182271:True:=⟨⟩
theorem tw5247383852149331877:True:=⟨⟩
theorem tw983005148148444402:True:=⟨⟩
theorem tw16602058375776985560:True:=⟨⟩
theorem tw1241627767734558710:True:=⟨⟩
theorem tw11299192000215807840:True:=⟨⟩
theorem tw5076584731686402287:True:=⟨⟩
theorem tw51803120693635025:True:=⟨⟩
theorem tw6398829373048577485:True:=⟨⟩
theorem tw16733840279333144328:True:=⟨⟩
theorem tw10456940590327666562:True:=⟨⟩
theorem tw16749050766586729652:True:=⟨⟩
theorem tw5865974144750101411:True:=⟨⟩
theorem tw13195889063422767880:True:=⟨⟩
theorem tw3104891031588967157:True:=⟨⟩
theorem tw11135629604214795116:True:=⟨⟩
theorem tw10284908868878579874:True:=⟨⟩
theorem tw16457792789270810574:True:=⟨⟩
theorem tw17704871092555776997:True:=⟨⟩
end PySem.W.Fast
open PySem PySem.W PyProof.Rows
set_option maxRecDepth 100000 in
set_option maxHeartbeats 0 in
theorem PySem.Challenge.cw_pastways_k22_whole_rows_past_holds : PySem.Challenge.rw_pastways_k22_whole_rows_past.Holds := by
 w_on;o_law;k_head;(case hw=>w_witness2)
 k_fill
 refine Sm.J0 (F:=Lw.prog) (wh:=100000) (n:=60) (f:=26) (x:="_law_script") (l:=PySem.Challenge.rw_pastways_k22_whole_rows_past) rfl rfl ⟨rfl,by decide,by decide⟩ (fun w h Y=>PySem.W.kIn_of Y) Lw.good ?F
 case F=>
  intro w mg fa h KX G hmg
  refine' Lw.all_mk KX G hmg ?a0 ?l0 ?c0 ?k0 ?a1 ?l1 ?c1 ?k1 ?a2 ?l2 ?c2 ?k2 ?a3 ?l3 ?c3 ?k3 ?a4 ?l4 ?c4 ?k4 ?a5 ?l5 ?c5 ?k5 ?a6 ?l6 ?c6 ?k6 ?a7 ?l7 ?c7 ?k7 ?a8 ?l8 ?c8 ?k8 ?a9 ?l9 ?c9 ?k9 ?QZ ?Q0 ?Q2 ?Ih ?jR ?Q3 ?Q4 ?Ii ?jS ?Q5 ?c12 ?Ij ?jT ?Q6 ?Q7 ?Ik ?Q8 ?Q9 ?Ra ?Il ?Rb ?Rc ?Rf ?Im ?Rg ?Rh ?Ri ?Io ?Rj ?Rk ?Rl ?Ip ?Rm ?Rn ?Ro ?Iq ?Rq ?Rt ?Ru ?Ir ?Rx ?Ry ?Rz ?Iu ?RA ?RB ?RC ?Iv ?RD ?RE ?RG ?Iw ?RH ?RI ?RJ ?Iz ?RK ?RL ?RM ?IA ?RN ?RP ?RQ ?IB ?IC ?RS ?RT ?ID ?z0 ?z1 ?z2 ?z3 ?z4 ?z5 ?z6 ?z7 ?z8 ?q0
  (case a0=>k_is)
  (case l0=>k_is)
  (case c0=>k_is)
  (case k0=>k_is)
  (case a1=>k_is)
  (case l1=>k_is)
  (case c1=>k_is)
  (case k1=>k_is)
  (case a2=>k_is)
  (case l2=>k_is)
  (case c2=>k_is)
  (case k2=>k_is)
  (case a3=>k_is)
  (case l3=>k_is)
  (case c3=>k_is)
  (case k3=>k_is)
  (case a4=>k_is)
  (case l4=>k_is)
  (case c4=>k_is)
  (case k4=>k_is)
  (case a5=>k_is)
  (case l5=>k_is)
  (case c5=>k_is)
  (case k5=>k_is)
  (case a6=>k_is)
  (case l6=>k_is)
  (case c6=>k_is)
  (case k6=>k_is)
  (case a7=>k_is)
  (case l7=>k_is)
  (case c7=>k_is)
  (case k7=>k_is)
  (case a8=>k_is)
  (case l8=>k_is)
  (case c8=>k_is)
  (case k8=>k_is)
  (case a9=>k_is)
  (case l9=>k_is)
  (case c9=>k_is)
  (case k9=>k_is)
  (case QZ=>k_is)
  (case Q0=>k_is)
  (case Q2=>k_is)
  (case Ih=>k_is)
  (case jR=>k_is)
  (case Q3=>k_is)
  (case Q4=>k_is)
  (case Ii=>k_is)
  (case jS=>k_is)
  (case Q5=>k_is)
  (case c12=>k_is)
  (case Ij=>k_is)
  (case jT=>k_is)
  (case Q6=>k_is)
  (case Q7=>k_is)
  (case Ik=>k_is)
  (case Q8=>k_is)
  (case Q9=>k_is)
  (case Ra=>k_is)
  (case Il=>k_is)
  (case Rb=>k_is)
  (case Rc=>k_is)
  (case Rf=>k_is)
  (case Im=>k_is)
  (case Rg=>k_is)
  (case Rh=>k_is)
  (case Ri=>k_is)
  (case Io=>k_is)
  (case Rj=>k_is)
  (case Rk=>k_is)
  (case Rl=>k_is)
  (case Ip=>k_is)
  (case Rm=>k_is)
  (case Rn=>k_is)
  (case Ro=>k_is)
  (case Iq=>k_is)
  (case Rq=>k_is)
  (case Rt=>k_is)
  (case Ru=>k_is)
  (case Ir=>k_is)
  (case Rx=>k_is)
  (case Ry=>k_is)
  (case Rz=>k_is)
  (case Iu=>k_is)
  (case RA=>k_is)
  (case RB=>k_is)
  (case RC=>k_is)
  (case Iv=>k_is)
  (case RD=>k_is)
  (case RE=>k_is)
  (case RG=>k_is)
  (case Iw=>k_is)
  (case RH=>k_is)
  (case RI=>k_is)
  (case RJ=>k_is)
  (case Iz=>k_is)
  (case RK=>k_is)
  (case RL=>k_is)
  (case RM=>k_is)
  (case IA=>k_is)
  (case RN=>k_is)
  (case RP=>k_is)
  (case RQ=>k_is)
  (case IB=>k_is)
  (case IC=>k_is)
  (case RS=>k_is)
  (case RT=>k_is)
  (case ID=>k_is)
  (case z0=>k_is)
  (case z1=>k_is)
  (case z2=>k_is)
  (case z3=>k_is)
  (case z4=>k_is)
  (case z5=>k_is)
  (case z6=>k_is)
  (case z7=>k_is)
  (case z8=>k_is)
  (case q0=>k_is)

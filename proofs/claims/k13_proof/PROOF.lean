import PyProof.Rows.All
import Wide.All
import OpenK.AllK
import Wide.FinOn
import Lean
import PyProof.EqAt
import PyProof.EqKinds
import PyProof.TupleCall
import PyProof.NeKinds
import PyProof.StrLawsIn
import KE.KRevSl
import PyProof.ZipIter
import PyProof.ListRange
import PyProof.Rows.SortStr
import KE.KRevIter
import PyProof.EnumMake
import PyProof.EnumFor
import PySem.Challenge.RW_pastways_k13_whole_then
set_option Elab.async false
set_option linter.all false
set_option maxRecDepth 100000
namespace L2
open PySem PySem.Spec PyProof.Rows
abbrev Key := Sum Int Str
noncomputable def keyIs : Key → Value → Bool
 | .inl k, v => Value.isInt k v
 | .inr x, v => Value.isStrOf x v
noncomputable def keyH (w : World) : Key → Int
 | .inl k => hashInt k
 | .inr x => hashStr w x
theorem keyIs_shape : ∀ {k : Key} {v : Value}, keyIs k v = true → (∃ i t, k = Sum.inl i ∧ v = Value.int i t) ∨ (∃ x t, k = Sum.inr x ∧ v = Value.str x t)
 | .inl i, v, h => by
  obtain ⟨t, e⟩ := Value.isInt_shape (k := i) (v := v) h
  exact .inl ⟨i, t, rfl, e⟩
 | .inr x, v, h => by
  obtain ⟨t, e⟩ := Value.isStrOf_shape (x := x) (v := v) h
  exact .inr ⟨x, t, rfl, e⟩
theorem key_ll (a b : Int) : decide ((Sum.inl a : Key) = Sum.inl b) = (a == b) := by
 by_cases e : a = b
 ·subst e; simp
 ·have h : ¬ (Sum.inl a : Key) = Sum.inl b := fun q => e (Sum.inl.inj q)
  rw [decide_eq_false h]
  exact (beq_eq_false_iff_ne.mpr e).symm
theorem key_rr (a b : Str) : decide ((Sum.inr a : Key) = Sum.inr b) = decide (a = b) := by
 by_cases e : a = b
 ·subst e; simp
 ·have h : ¬ (Sum.inr a : Key) = Sum.inr b := fun q => e (Sum.inr.inj q)
  rw [decide_eq_false h, decide_eq_false e]
theorem key_lr (a : Int) (b : Str) : decide ((Sum.inl a : Key) = Sum.inr b) = false := decide_eq_false (fun q => nomatch q)
theorem key_rl (a : Str) (b : Int) : decide ((Sum.inr a : Key) = Sum.inl b) = false := decide_eq_false (fun q => nomatch q)
noncomputable def mixKind (prog : Program) (w : World) : PySem.KeyKind prog w Key where
 is := keyIs
 hash := keyH w
 inj := fun v a b ha hb => by
  rcases keyIs_shape ha with ⟨i, t, rfl, rfl⟩ | ⟨x, t, rfl, rfl⟩
  ·rcases keyIs_shape hb with ⟨j, u, rfl, e⟩ | ⟨y, u, rfl, e⟩
   ·injection e with e1 _; rw [e1]
   ·exact nomatch e
  ·rcases keyIs_shape hb with ⟨j, u, rfl, e⟩ | ⟨y, u, rfl, e⟩
   ·exact nomatch e
   ·injection e with e1 _; rw [e1]
 byValue := fun k v h => by
  rcases keyIs_shape h with ⟨i, t, rfl, rfl⟩ | ⟨x, t, rfl, rfl⟩ <;> rfl
 pyHash := fun hv h => by
  rcases keyIs_shape hv with ⟨i, t, rfl, rfl⟩ | ⟨x, t, rfl, rfl⟩
  ·exact wpAny_pyHash_int h
  ·exact wpAny_pyHash_str h
 eqBool := fun hu hv h => by
  rcases keyIs_shape hu with ⟨i, t, rfl, rfl⟩ | ⟨x, t, rfl, rfl⟩
  ·rcases keyIs_shape hv with ⟨j, u, rfl, rfl⟩ | ⟨y, u, rfl, rfl⟩
   ·rw [key_ll] at h; exact wpAny_eqBool_int h
   ·rw [key_lr] at h; exact SeqAt.EqAt.int_str i t y u _ _ _ _ h
  ·rcases keyIs_shape hv with ⟨j, u, rfl, rfl⟩ | ⟨y, u, rfl, rfl⟩
   ·rw [key_rl] at h; exact SeqAt.EqAt.str_int x t j u _ _ _ _ h
   ·rw [key_rr] at h; exact wpAny_eqBool_str h
 «strs» := fun k x t v h => by
  rcases keyIs_shape h with ⟨i, u, rfl, e⟩ | ⟨y, u, rfl, e⟩
  ·exact nomatch e
  ·injection e with e1 _
   subst e1
   cases v <;> rfl
end L2
namespace L2
open PySem PySem.Spec PyProof.Rows
inductive V where
 | non | bl (b : Bool) | int (i : Int) | str (x : Str) | byt (b : Array UInt8) | flt (b : UInt64) | ref (a : Addr) | ty (n : String)
 deriving DecidableEq
noncomputable def RelV : V → Value → Prop
 | .non, u => u = Value.none
 | .bl b, u => u = Value.bool b
 | .int i, u => ∃ t, u = Value.int i t
 | .str x, u => ∃ t, u = Value.str x t
 | .byt b, u => ∃ t, u = Value.bytes b t
 | .flt b, u => ∃ t, u = Value.float b t
 | .ref a, u => u = Value.ref a
 | .ty n, u => u = Value.type n
abbrev Vals : List V → List Value → Prop := Paired RelV
theorem Vals.length {xs : List V} {us : List Value} (r : Vals xs us) : xs.length = us.length := Paired.length r
theorem Vals.get : ∀ {xs : List V} {us : List Value} {i : Nat} {x : V}, Vals xs us → xs[i]? = some x → ∃ u, us[i]? = some u ∧ RelV x u
 | _, _, _, _, .nil, e => by simp at e
 | _, _, 0, _, .cons r _, e => by simp at e; subst e; exact ⟨_, rfl, r⟩
 | _, _, i + 1, x, .cons _ t, e => by
  obtain ⟨u, h1, h2⟩ := Vals.get (i := i) (x := x) t (by simpa using e)
  exact ⟨u, by simpa using h1, h2⟩
theorem Vals.append : ∀ {xs ys : List V} {us ws : List Value}, Vals xs us → Vals ys ws → Vals (xs ++ ys) (us ++ ws)
 | _, _, _, _, .nil, s => s
 | _, _, _, _, .cons r t, s => .cons r (Vals.append t s)
theorem Vals.take : ∀ {xs : List V} {us : List Value} (n : Nat), Vals xs us → Vals (xs.take n) (us.take n)
 | _, _, 0, _ => .nil
 | _, _, _ + 1, .nil => .nil
 | _, _, n + 1, .cons r t => .cons r (Vals.take n t)
theorem Vals.drop : ∀ {xs : List V} {us : List Value} (n : Nat), Vals xs us → Vals (xs.drop n) (us.drop n)
 | _, _, 0, r => r
 | _, _, _ + 1, .nil => .nil
 | _, _, n + 1, .cons _ t => Vals.drop n t
noncomputable def RelO : Option V → Option Value → Prop
 | some v, some u => RelV v u
 | none, none => True
 | _, _ => False
noncomputable def KV {κ : Type} : List (κ × V) → List (κ × Value) → Prop := Paired fun (p : κ × V) (q : κ × Value) => p.1 = q.1 ∧ RelV p.2 q.2
noncomputable def kV : Key → V
 | .inl i => .int i
 | .inr x => .str x
inductive HO where
 | lst (xs : List V)
 | tup (xs : List V)
 | dK (kvs : List (Key × V)) | dT (kvs : List (List Key × V))
 | set (S : Int → Bool) (n : Nat)
 | ins (C dx : Addr) (fs : List (Str × V))
 | own (x : Addr)
 | xd (fs : List (Str × V))
 | met (f x : Addr)
 | rng (lo hi : Int)
 | frz (o : Obj) (u : HO)
 | tbl (ps : Array Value)
 | ext (φ : Heap → Prop)
abbrev Hp := Addr → Option HO
noncomputable def upd (H : Hp) (a : Addr) (o : HO) : Hp := fun b => if b = a then some o else H b
theorem upd_same {H : Hp} {a : Addr} {o : HO} : upd H a o a = some o := by unfold upd; rw [if_pos rfl]
theorem upd_ne {H : Hp} {a b : Addr} {o : HO} (h : b ≠ a) : upd H a o b = H b := by unfold upd; rw [if_neg h]
theorem ne_of {H : Hp} {a b : Addr} {o u : HO} (h : H a = some o) (h' : H b = some u) (d : o ≠ u) : a ≠ b := by
 intro e; subst e; rw [h] at h'; exact d (Option.some.inj h')
theorem ne_of_none {H : Hp} {a b : Addr} {o : HO} (h : H a = some o) (h' : H b = none) : a ≠ b := by
 intro e; subst e; rw [h] at h'; cases h'
section
variable (P : Program) (w : World)
noncomputable def ObjOk (H : Hp) (h : Heap) (a : Addr) : HO → Prop
 | .lst xs => xs.length ≤ sizeLine ∧ ∃ (its : List Value) (n : Nat), Vals xs its ∧ h.get? a = some { cls := .type "list", data := .seq its.toArray n }
 | .tup xs => xs.length ≤ sizeLine ∧ ∃ its : List Value, Vals xs its ∧ IsTup h a its.toArray
 | .dK kvs => kvs.length ≤ sizeLine ∧ (a == sysModules) = false ∧ ∃ vs, KV kvs vs ∧ h.DictOf (mixKind P w) a vs
 | .dT kvs => kvs.length ≤ sizeLine ∧ (a == sysModules) = false ∧ ∃ xs : List (List Key × Addr × Value),
   Paired (fun (p : List Key × V) (q : List Key × Addr × Value) => p.1 = q.1 ∧ H q.2.1 = some (.tup (p.1.map kV)) ∧ RelV p.2 q.2.2) kvs xs ∧
   ∃ o es ep, h.get? a = some o ∧ o.ExactDict ∧ o.data = .dict es ep ∧ es.toList = xs.map (entryOfKey (tupleKind (mixKind P w))) ∧ (xs.map (·.1)).Nodup
 | .set S n => h.SetOf (intKind P w) a S n
 | .ins C dx fs => H dx = some (.own a) ∧ fs.length ≤ 1000 ∧ dx ≠ a ∧ h.get? a = some (PySem.W.instObj C dx) ∧
   ∃ mA, h.Ns1 dx mA ∧ (∀ f, RelO (fs.lookup f) (mA f)) ∧ PySem.Within mA (fs.map (·.1))
 | .own _ => ∃ o, h.get? a = some o
 | .xd fs => ∃ mA, h.Ns1 a mA ∧ ∀ f, RelO (fs.lookup f) (mA f)
 | .rng lo hi => ∃ t u v, h.get? a = some { cls := .type "range", data := .fields #[.int lo t, .int hi u, .int 1 v] }
 | .frz o u => h.get? a = some o ∧ ObjOk H h a u
 | .tbl ps => h.get? a = some { cls := .none, data := .fields ps }
 | .met f x => h.get? a = some (PySem.W.methodObj (.ref f) (.ref x))
 | .ext φ => φ h ∧ (∃ o, h.get? a = some o) ∧ ∀ h1 h2 : Heap, φ h1 → (∀ o, h1.get? a = some o → h2.get? a = some o) → φ h2
noncomputable def HOk (H : Hp) (h : Heap) : Prop := ∀ a o, H a = some o → ObjOk P w H h a o
end
section
variable {P : Program} {w : World} {H H' : Hp} {h h' : Heap} {a : Addr} {o : HO}
theorem ObjOk.lt (x : ObjOk P w H h a o) : a < h.objs.size := by
 cases o with
 | lst xs => obtain ⟨_, _, _, _, e⟩ := x; exact Heap.lt_size e
 | tup xs => obtain ⟨_, _, _, p⟩ := x; exact p.lt
 | dK kvs => obtain ⟨_, _, _, _, o, _, _, e, _⟩ := x; exact Heap.lt_size e
 | dT kvs => obtain ⟨_, _, _, _, o, _, _, e, _⟩ := x; exact Heap.lt_size e
 | set S n => obtain ⟨o, _, _, _, e, _⟩ := x; exact Heap.lt_size e
 | ins C dx fs => obtain ⟨_, _, _, e, _⟩ := x; exact Heap.lt_size e
 | own y => obtain ⟨_, e⟩ := x; exact Heap.lt_size e
 | xd fs => obtain ⟨_, ⟨_, _, _, e, _⟩, _⟩ := x; exact Heap.lt_size e
 | rng lo hi => obtain ⟨_, _, _, e⟩ := x; exact Heap.lt_size e
 | frz ob u => obtain ⟨e, _⟩ := x; exact Heap.lt_size e
 | tbl ps => exact Heap.lt_size (show h.get? a = some _ from x)
 | met f y => exact Heap.lt_size (show h.get? a = some _ from x)
 | ext φ => obtain ⟨_, ⟨_, e⟩, _⟩ := x; exact Heap.lt_size e
theorem Paired.mapP {α β : Type} {F G : α → β → Prop} : ∀ {l₁ : List α} {l₂ : List β}, Paired F l₁ l₂ → (∀ a b, F a b → G a b) → Paired G l₁ l₂
 | _, _, .nil, _ => .nil
 | _, _, .cons r t, f => .cons (f _ _ r) (Paired.mapP t f)
theorem ObjOk.stay (x : ObjOk P w H h a o) (k : ∀ b u, (b = a ∨ H b = some (.own a)) → h.get? b = some u → h'.get? b = some u)
  (ho : ∀ b, H b = some (.own a) → H' b = some (.own a)) (ht : ∀ b xs, H b = some (.tup xs) → H' b = some (.tup xs)) : ObjOk P w H' h' a o := by
 induction o with
 | lst xs => obtain ⟨z, its, n, r, e⟩ := x; exact ⟨z, its, n, r, k _ _ (.inl rfl) e⟩
 | tup xs => obtain ⟨z, its, r, ob, e, c⟩ := x; exact ⟨z, its, r, ob, k _ _ (.inl rfl) e, c⟩
 | dK kvs => obtain ⟨z, y, vs, r, ob, es, ep, e, c⟩ := x; exact ⟨z, y, vs, r, ob, es, ep, k _ _ (.inl rfl) e, c⟩
 | dT kvs =>
  obtain ⟨z, y, xs, r, ob, es, ep, e, c⟩ := x
  exact ⟨z, y, xs, Paired.mapP r fun p q z => ⟨z.1, ht _ _ z.2.1, z.2.2⟩, ob, es, ep, k _ _ (.inl rfl) e, c⟩
 | set S n => obtain ⟨ob, es, ep, t, e, c⟩ := x; exact ⟨ob, es, ep, t, k _ _ (.inl rfl) e, c⟩
 | ins C dx fs =>
  obtain ⟨d, z, ne, e, mA, ⟨od, es, ep, e2, c⟩, r⟩ := x
  exact ⟨ho _ d, z, ne, k _ _ (.inl rfl) e, mA, ⟨od, es, ep, k _ _ (.inr d) e2, c⟩, r⟩
 | own y => obtain ⟨ob, e⟩ := x; exact ⟨ob, k _ _ (.inl rfl) e⟩
 | xd fs => obtain ⟨mA, ⟨od, es, ep, e, c⟩, r⟩ := x; exact ⟨mA, ⟨od, es, ep, k _ _ (.inl rfl) e, c⟩, r⟩
 | rng lo hi => obtain ⟨t, u, v, e⟩ := x; exact ⟨t, u, v, k _ _ (.inl rfl) e⟩
 | frz ob u ih => obtain ⟨e, q⟩ := x; exact ⟨k _ _ (.inl rfl) e, ih q⟩
 | tbl ps =>
  have e : h.get? a = some { cls := .none, data := .fields ps } := x
  show h'.get? a = some { cls := .none, data := .fields ps }
  exact k a _ (.inl rfl) e
 | met f y =>
  have e : h.get? a = some (PySem.W.methodObj (.ref f) (.ref y)) := x
  show h'.get? a = some (PySem.W.methodObj (.ref f) (.ref y))
  exact k a _ (.inl rfl) e
 | ext φ => obtain ⟨p, ⟨o, e⟩, st⟩ := x; exact ⟨st _ _ p fun o q => k _ _ (.inl rfl) q, ⟨o, k _ _ (.inl rfl) e⟩, st⟩
theorem HOk.lt (x : HOk P w H h) (e : H a = some o) : a < h.objs.size := (x a o e).lt
theorem HOk.fresh (x : HOk P w H h) (e : h.objs.size ≤ a) : H a = none := by
 cases q : H a with
 | none => rfl
 | some u => exact absurd (Nat.lt_of_lt_of_le (x.lt q) e) (Nat.lt_irrefl _)
theorem HOk.kept (x : HOk P w H h) (k : ∀ b u, h.get? b = some u → h'.get? b = some u) : HOk P w H h' := fun a o e =>
 (x a o e).stay (fun b u _ q => k b u q) (fun _ q => q) fun _ _ q => q
theorem HOk.laid (x : HOk P w H h) (k : ∀ b u, h.get? b = some u → h'.get? b = some u) (hp : h.objs.size ≤ a) (new : ObjOk P w (upd H a o) h' a o) : HOk P w (upd H a o) h' := fun b u e => by
 have hn := x.fresh hp
 by_cases hb : b = a
 ·subst hb; rw [upd_same] at e; cases e; exact new
 ·rw [upd_ne hb] at e
  exact (x b u e).stay (fun c v _ q => k c v q) (fun c q => by rw [upd_ne (ne_of_none q hn)]; exact q) fun c xs q => by rw [upd_ne (ne_of_none q hn)]; exact q
end
noncomputable def Rd (H : Hp) (a : Addr) (u : HO) : Prop := H a = some u ∨ ∃ o, H a = some (.frz o u)
theorem Rd.ok {P : Program} {w : World} {H : Hp} {h : Heap} {a : Addr} {u : HO} (r : Rd H a u) (x : HOk P w H h) : ObjOk P w H h a u := by
 rcases r with r | ⟨o, r⟩
 ·exact x a u r
 ·obtain ⟨_, q⟩ := x a _ r
  exact q
noncomputable def Mut : Option HO → Prop
 | some (.lst _) => True
 | some (.dK _) => True
 | some (.dT _) => True
 | some (.set _ _) => True
 | some (.ins _ _ _) => True
 | some (.ext _) => True
 | _ => False
section
variable {P : Program} {w : World} {H : Hp} {h h' : Heap} {x e : Addr} {o' : HO}
theorem HOk.write (ok : HOk P w H h) (mu : Mut (H x)) (he : e = x ∨ H e = some (.own x)) (k : ∀ b u, b ≠ e → h.get? b = some u → h'.get? b = some u) (heo : ∃ u, h'.get? e = some u)
  (new : ObjOk P w (upd H x o') h' x o') : HOk P w (upd H x o') h' := fun b u q => by
 have nown : ∀ c y, H c = some (.own y) → c ≠ x := fun c y r z => by subst z; rw [r] at mu; exact mu
 have ntup : ∀ c xs, H c = some (.tup xs) → c ≠ x := fun c xs r z => by subst z; rw [r] at mu; exact mu
 by_cases hb : b = x
 ·subst hb; rw [upd_same] at q; cases q; exact new
 ·rw [upd_ne hb] at q
  by_cases hbe : b = e
  ·have q' : H b = some (.own x) := by
    rcases he with z | z
    ·exact absurd (hbe.trans z) hb
    ·rw [hbe]; exact z
   rw [q] at q'; cases q'
   obtain ⟨v, hv⟩ := heo
   exact ⟨v, by rw [hbe]; exact hv⟩
  ·refine (ok b u q).stay (fun c v hc r => k c v ?_ r) (fun c r => by rw [upd_ne (nown c b r)]; exact r) fun c xs r => by rw [upd_ne (ntup c xs r)]; exact r
   rcases hc with rfl | hc
   ·exact hbe
   ·rintro rfl
    rcases he with z | z
    ·exact nown c b hc z
    ·rw [hc] at z; cases z; exact hb rfl
end
structure Un (fs ex : List Addr) (H H' : Hp) (h h' : Heap) : Prop where
 keep : ∀ b o, h.get? b = some o → H b = none → b ∉ fs → b ∉ ex → h'.get? b = some o
 slot : ∀ b o, h.get? b = some o → H b = none → b ∈ fs → b ∉ ex → ∃ sl, h'.get? b = some { o with slots := sl }
 free : ∀ b o, h.get? b = some o → H b = none → b ∉ ex → H' b = none
 there : ∀ b o, h.get? b = some o → b ∉ ex → ∃ o', h'.get? b = some o'
 tups : ∀ b xs, H b = some (.tup xs) → H' b = some (.tup xs)
 frzs : ∀ b o u, H b = some (.frz o u) → H' b = some (.frz o u)
 tbls : ∀ b ps, H b = some (.tbl ps) → ∃ more, H' b = some (.tbl (ps ++ more))
section
variable {fs fs' ex ex' : List Addr} {H H1 H2 : Hp} {h h1 h2 h' : Heap} {a x e : Addr} {o : HO}
theorem Un.any (u : Un fs ex H H1 h h1) {b : Addr} {ob : Obj} (q : h.get? b = some ob) (n : H b = none) (hx : b ∉ ex) : ∃ sl, h1.get? b = some { ob with slots := sl } := by
 by_cases hb : b ∈ fs
 ·exact u.slot b ob q n hb hx
 ·exact ⟨ob.slots, u.keep b ob q n hb hx⟩
theorem Un.kept (k : ∀ b u, h.get? b = some u → h'.get? b = some u) : Un fs ex H H h h' :=
 ⟨fun b ob q _ _ _ => k b ob q, fun b ob q _ _ _ => ⟨ob.slots, k b ob q⟩, fun _ _ _ n _ => n, fun b ob q _ => ⟨ob, k b ob q⟩, fun _ _ q => q, fun _ _ _ q => q, fun _ ps q => ⟨#[], by rw [q]; simp⟩⟩
theorem Un.refl : Un fs ex H H h h := Un.kept fun _ _ q => q
theorem Un.laid (k : ∀ b u, h.get? b = some u → h'.get? b = some u) (hp : h.objs.size ≤ a) (hn : H a = none) : Un fs ex H (upd H a o) h h' where
 keep := fun b u q _ _ _ => k b u q
 slot := fun b u q _ _ _ => ⟨u.slots, k b u q⟩
 free := fun b u q n _ => by rw [upd_ne (Nat.ne_of_lt (Nat.lt_of_lt_of_le (Heap.lt_size q) hp))]; exact n
 there := fun b u q _ => ⟨u, k b u q⟩
 tups := fun b xs q => by rw [upd_ne (ne_of_none q hn)]; exact q
 frzs := fun b u xs q => by rw [upd_ne (ne_of_none q hn)]; exact q
 tbls := fun b ps q => ⟨#[], by rw [upd_ne (ne_of_none q hn), q]; simp⟩
theorem Un.write (mu : Mut (H x)) (he : e = x ∨ H e = some (.own x)) (k : ∀ b u, b ≠ e → h.get? b = some u → h'.get? b = some u) (heo : ∃ u, h'.get? e = some u) : Un fs ex H (upd H x o) h h' := by
 have hx : ∀ b, H b = none → b ≠ x := fun b n z => by subst z; rw [n] at mu; exact mu
 have hb : ∀ b, H b = none → b ≠ e := fun b n z => by
  subst z
  rcases he with r | r
  ·exact hx b n r
  ·rw [n] at r; cases r
 have hm : ∀ b u, H b = some u → ¬ Mut (some u) → b ≠ x := fun b u q nm z => by subst z; rw [q] at mu; exact nm mu
 refine ⟨fun b u q n _ _ => k b u (hb b n) q, fun b u q n _ _ => ⟨u.slots, k b u (hb b n) q⟩, fun b u q n _ => by rw [upd_ne (hx b n)]; exact n, fun b u q _ => ?_,
  fun b xs q => by rw [upd_ne (hm b _ q fun z => z)]; exact q, fun b u xs q => by rw [upd_ne (hm b _ q fun z => z)]; exact q, fun b ps q => ⟨#[], by rw [upd_ne (hm b _ q fun z => z), q]; simp⟩⟩
 by_cases hbe : b = e
 ·subst hbe; exact heo
 ·exact ⟨u, k b u hbe q⟩
end
noncomputable def trk (h : Heap) (H : Hp) : List Addr := (List.range h.objs.size).filter fun a => (H a).isSome
noncomputable def hidT (h : Heap) (H : Hp) : Heap := PySem.W.hideAll h (trk h H)
theorem hidT_size (h : Heap) (H : Hp) : (hidT h H).objs.size = h.objs.size := PySem.W.hideAll_size _ _
theorem hidT_get {h : Heap} {H : Hp} {b : Addr} {o : Obj} (e : h.get? b = some o) (n : H b = none) : (hidT h H).get? b = some o :=
 PySem.W.hideAll_get _ e fun hm => by
  have q : (H b).isSome = true := (List.mem_filter.mp hm).2
  rw [n] at q; simp at q
theorem of_hidT {h : Heap} {H : Hp} {b : Addr} {o : Obj} (e : (hidT h H).get? b = some o) : h.get? b = some o ∧ H b = none := by
 have e' : h.get? b = some o := PySem.W.of_hideAll (trk h H) e
 refine ⟨e', ?_⟩
 cases q : H b with
 | none => rfl
 | some x =>
  have hm : b ∈ trk h H := List.mem_filter.mpr ⟨List.mem_range.mpr (Heap.lt_size e'), by simp [q]⟩
  have z : (hidT h H).get? b = none := PySem.W.hideAll_none (trk h H) hm
  rw [z] at e; cases e
noncomputable def allNews (g h : Heap) (L : Addr) : List (Addr × Obj) := (List.range h.objs.size).filterMap fun a => if a = L ∨ (g.get? a).isSome = true then none else (h.get? a).map fun o => (a, o)
noncomputable def rest (g h : Heap) (L d : Addr) : List (Addr × Obj) := (allNews g h L).filter fun p => decide (p.1 ≠ d)
end L2
namespace L2
open PySem PySem.Spec PyProof.Rows
structure Mod (K : PySem.W.Frag) (mg : Str → Option Value) (base : Heap) : Prop where
 kin : K.In base
 glob : base.Ns mainGlobals mg
 blt : ∃ mb, base.Ns builtinsNs mb ∧ ∀ x : Str, x ≠ "__name__" → mb x = bootBuiltins x
 nolimit : base.NoLimit
structure Cx where
 prog : Program
 w : World
 K : PySem.W.Frag
 mg : Str → Option Value
 base : Heap
 A : Around
 N : List Str
 s₀ : Shared
 H₀ : Hp
 env : Env
 outer : List Env
 stack : List Env
 ex : List Addr
 fn : Str → Bool
 calm : Bool
 pn : List (Addr × Obj)
 xe : Value → Shared → Prop
noncomputable def frs (l : List Env) : List Addr := l.filterMap (·.frame)
noncomputable abbrev Cx.fs (X : Cx) : List Addr := frs X.outer
noncomputable def Vis (sc : Scope) (x : Str) : Prop := sc.names.lookup x = some .local ∨ sc.names.lookup x = some .cell ∨ sc.names.lookup x = some .free
noncomputable def Loc (sc : Scope) (x : Str) : Prop := sc.names.lookup x = some .local ∨ sc.names.lookup x = some .cell
noncomputable def Look (env : Env) (h : Heap) (m : Str → Option Value) (x : Str) (u : Value) : Prop :=
 (env.kindOf x = some .local ∧ m x = some u) ∨ ((env.kindOf x = some .cell ∨ env.kindOf x = some .free) ∧ ∃ c, env.cells.lookup x = some c ∧ h.IsCell c (some u))
structure Cx.Ok (X : Cx) : Prop where
 mod : Mod X.K X.mg X.base
 kind : X.env.scope.kind = .function
 glob : X.env.globals = mainGlobals
 blt : X.env.builtins = builtinsNs
 above : X.s₀.heap.objs.size ≤ X.env.locals
 inj : ∀ x y c, X.env.cells.lookup x = some c → X.env.cells.lookup y = some c → x = y
 has : ∀ x, (X.env.kindOf x = some .cell ∨ X.env.kindOf x = some .free) → ∃ c, X.env.cells.lookup x = some c
 cab : ∀ x c, X.fn x = true → X.env.cells.lookup x = some c → X.s₀.heap.objs.size ≤ c
 hd : X.calm = true → X.A.handled = none
 frames : X.A.frames = some X.stack
 stk : X.stack = X.outer ∨ (X.stack = X.env :: X.outer ∧ X.env.frame = some X.env.locals)
 exf : ∀ b ∈ X.ex, b ≠ X.env.locals ∧ ∀ x c, X.env.cells.lookup x = some c → c ≠ b
 bs : ∀ b o, X.base.get? b = some o → X.s₀.heap.get? b = some o ∧ X.H₀ b = none
 bsz : X.base.objs.size ≤ X.s₀.heap.objs.size
 noex : ∀ b o, X.base.get? b = some o → b ∉ X.ex
 exfs : ∀ b ∈ X.ex, b ∉ X.fs
 funs : X.s₀.heap.FunFrames X.base X.outer
 frf : ∀ b ∈ X.fs, X.H₀ b = none
structure Inv (X : Cx) (pins : List (Addr × Obj)) (σ : List (Option V)) (H : Hp) (s : Shared) : Prop where
 ok : X.Ok
 os : s.os = X.s₀.os
 bare : AllBare s.gens
 base : Un X.fs X.ex X.H₀ H X.s₀.heap s.heap
 loc : ∃ m, s.heap.Ns X.env.locals m ∧ ∀ (i : Nat) (x : Str) (v : V), X.N[i]? = some x → σ[i]? = some (some v) → Vis X.env.scope x → ∃ u, RelV v u ∧ Look X.env s.heap m x u
 cell : ∀ x c, X.env.cells.lookup x = some c → ∃ v, s.heap.IsCell c v
 free : H X.env.locals = none
 freeC : ∀ x c, X.env.cells.lookup x = some c → H c = none
 pin : ∀ p ∈ X.pn ++ pins, s.heap.get? p.1 = some p.2 ∧ H p.1 = none ∧ p.1 ≠ X.env.locals ∧ p.1 ∉ X.fs ∧ ∀ v, p.2.data ≠ .cell v
 hok : HOk X.prog X.w H s.heap
 len : σ.length = X.N.length
section
variable {X : Cx} {pins : List (Addr × Obj)} {σ : List (Option V)} {H H' : Hp} {s : Shared} {h' : Heap}
theorem Cx.Ok.nofr (ok : X.Ok) {b : Addr} {o : Obj} (e : X.base.get? b = some o) : b ∉ X.fs := fun hb => by
 have := (ok.funs.mem hb).1
 rw [e] at this; cases this
theorem Inv.bs (I : Inv X pins σ H s) : ∀ b o, X.base.get? b = some o → s.heap.get? b = some o ∧ H b = none := fun b o e =>
 ⟨I.base.keep b o (I.ok.bs b o e).1 (I.ok.bs b o e).2 (I.ok.nofr e) (I.ok.noex b o e), I.base.free b o (I.ok.bs b o e).1 (I.ok.bs b o e).2 (I.ok.noex b o e)⟩
theorem Inv.bk (I : Inv X pins σ H s) : ∀ b o, X.base.get? b = some o → s.heap.get? b = some o := fun b o e => (I.bs b o e).1
theorem Inv.mod (I : Inv X pins σ H s) : Mod X.K X.mg X.base := I.ok.mod
theorem Inv.kIn (I : Inv X pins σ H s) : X.K.In s.heap := I.ok.mod.kin.keeps I.bk
theorem Inv.lt (I : Inv X pins σ H s) : X.env.locals < s.heap.objs.size := let ⟨_, hn, _⟩ := I.loc; hn.lt
theorem Inv.sz (I : Inv X pins σ H s) : X.s₀.heap.objs.size ≤ s.heap.objs.size := Nat.le_trans I.ok.above (Nat.le_of_lt I.lt)
theorem Inv.nofs (I : Inv X pins σ H s) {a : Addr} (h : s.heap.objs.size ≤ a) : a ∉ X.fs := fun hb => by
 obtain ⟨_, o, ho, _⟩ := I.ok.funs.mem hb
 exact absurd (Nat.lt_of_lt_of_le (Heap.lt_size ho) (Nat.le_trans I.sz h)) (Nat.lt_irrefl _)
theorem Inv.cne (I : Inv X pins σ H s) : ∀ x c, X.env.cells.lookup x = some c → c ≠ X.env.locals := fun x c e z => by
 obtain ⟨v, o, ho, hd⟩ := I.cell x c e
 obtain ⟨m, ⟨o', es, ep, ho', hd', _⟩, _⟩ := I.loc
 rw [z, ho'] at ho; cases ho; rw [hd'] at hd; cases hd
theorem Inv.funs (I : Inv X pins σ H s) : s.heap.FunFrames X.base X.outer := by
 have all : ∀ (l : List Env), (∀ b ∈ frs l, b ∈ X.fs) → X.s₀.heap.FunFrames X.base l → s.heap.FunFrames X.base l := by
  intro l
  induction l with
  | nil => intro _ _; trivial
  | cons env r ih =>
   intro hs hl
   obtain ⟨hk, ⟨L, o, hf, hn, ho, hd⟩, hr⟩ := hl
   have hL : L ∈ X.fs := hs L (by unfold frs; rw [List.filterMap_cons, hf]; exact List.mem_cons_self)
   obtain ⟨sl, e⟩ := I.base.slot L o ho (I.ok.frf L hL) hL fun z => I.ok.exfs L z hL
   exact ⟨hk, ⟨L, _, hf, hn, e, hd⟩, ih (fun b hb => hs b (by unfold frs; rw [List.filterMap_cons, hf]; exact List.mem_cons_of_mem _ hb)) hr⟩
 exact all X.outer (fun _ hb => hb) I.ok.funs
theorem Inv.stack (I : Inv X pins σ H s) : s.heap.FunFrames X.base X.stack := by
 rcases I.ok.stk with e | ⟨e, hf⟩
 ·rw [e]; exact I.funs
 ·rw [e]
  obtain ⟨m, hn, _⟩ := I.loc
  refine .cons (by rw [I.ok.kind]; decide) hf hn ?_ I.funs
  exact Heap.get?_none_of_le (Nat.le_trans I.ok.bsz I.ok.above)
theorem Inv.stkSub (I : Inv X pins σ H s) : ∀ b ∈ frs X.stack, b ∈ X.env.locals :: X.fs := fun b hb => by
 rcases I.ok.stk with e | ⟨e, hf⟩
 ·rw [e] at hb; exact List.mem_cons_of_mem _ hb
 ·rw [e] at hb
  unfold frs at hb
  rw [List.filterMap_cons, hf] at hb
  exact hb
theorem Inv.stkFree (I : Inv X pins σ H s) : ∀ b ∈ frs X.stack, H b = none := fun b hb => by
 rcases List.mem_cons.mp (I.stkSub b hb) with e | hb
 ·rw [e]; exact I.free
 ·obtain ⟨_, o, ho, _⟩ := I.ok.funs.mem hb
  exact I.base.free b o ho (I.ok.frf b hb) fun z => I.ok.exfs b z hb
theorem Inv.step {g' : Array GenState} {t' : Nat} {d' : Drawn} {ch : List Addr} (I : Inv X pins σ H s)
  (hch : ∀ b ∈ ch, (b ∈ X.ex ∨ X.s₀.heap.objs.size ≤ b) ∧ b ≠ X.env.locals ∧ (∀ x c, X.env.cells.lookup x = some c → c ≠ b) ∧ ∀ p ∈ X.pn ++ pins, p.1 ≠ b)
  (keep : ∀ b o, b ≠ X.env.locals → b ∉ X.fs → b ∉ ch → s.heap.get? b = some o → H b = none → h'.get? b = some o)
  (slot : ∀ b o, b ≠ X.env.locals → b ∈ X.fs → b ∉ ch → s.heap.get? b = some o → H b = none → ∃ sl, h'.get? b = some { o with slots := sl }) (free : ∀ b o, b ∉ ch → s.heap.get? b = some o → H b = none → H' b = none)
  (there : ∀ b o, b ∉ ch → s.heap.get? b = some o → ∃ o', h'.get? b = some o')
  (tups : ∀ b xs, H b = some (.tup xs) → H' b = some (.tup xs)) (frzs : ∀ b o u, H b = some (.frz o u) → H' b = some (.frz o u)) (tbls : ∀ b ps, H b = some (.tbl ps) → ∃ more, H' b = some (.tbl (ps ++ more)))
  (ns : ∀ m, s.heap.Ns X.env.locals m → h'.Ns X.env.locals m) (hok : HOk X.prog X.w H' h') (hg : AllBare g') :
  Inv X pins σ H' { s with heap := h', gens := g', drawn := d', toks := t' } := by
 have neL : ∀ b o, X.s₀.heap.get? b = some o → b ≠ X.env.locals := fun b o e => Nat.ne_of_lt (Nat.lt_of_lt_of_le (Heap.lt_size e) I.ok.above)
 have neC : ∀ b o, X.s₀.heap.get? b = some o → b ∉ X.ex → b ∉ ch := fun b o e hx hb => by
  rcases (hch b hb).1 with z | z
  ·exact hx z
  ·exact absurd (Nat.lt_of_lt_of_le (Heap.lt_size e) z) (Nat.lt_irrefl _)
 have cellK : ∀ x c, X.env.cells.lookup x = some c → ∀ v, s.heap.IsCell c v → h'.IsCell c v := fun x c e v ⟨o, ho, hd⟩ => by
  have nch : c ∉ ch := fun z => (hch c z).2.2.1 x c e rfl
  by_cases hc : c ∈ X.fs
  ·obtain ⟨sl, q⟩ := slot c o (I.cne x c e) hc nch ho (I.freeC x c e)
   exact ⟨_, q, hd⟩
  ·exact ⟨o, keep c o (I.cne x c e) hc nch ho (I.freeC x c e), hd⟩
 refine ⟨I.ok, I.os, hg, ⟨fun b o e n hb hx => ?_, fun b o e n hb hx => ?_, fun b o e n hx => ?_, fun b o e hx => ?_, fun b xs e => tups b xs (I.base.tups b xs e), fun b o xs e => frzs b o xs (I.base.frzs b o xs e), fun b ps e => ?_⟩, ?_, fun x c e => ?_, ?_, fun x c e => ?_, fun p hp => ?_, hok, I.len⟩
 ·exact keep b o (neL b o e) hb (neC b o e hx) (I.base.keep b o e n hb hx) (I.base.free b o e n hx)
 ·obtain ⟨sl, e1⟩ := I.base.slot b o e n hb hx
  obtain ⟨sl', e2⟩ := slot b _ (neL b o e) hb (neC b o e hx) e1 (I.base.free b o e n hx)
  exact ⟨sl', e2⟩
 ·obtain ⟨o', e1⟩ := I.base.there b o e hx
  exact free b o' (neC b o e hx) e1 (I.base.free b o e n hx)
 ·obtain ⟨o', e1⟩ := I.base.there b o e hx
  exact there b o' (neC b o e hx) e1
 ·obtain ⟨m1, e1⟩ := I.base.tbls b ps e
  obtain ⟨m2, e2⟩ := tbls b _ e1
  exact ⟨m1 ++ m2, by rw [e2, Array.append_assoc]⟩
 ·obtain ⟨m, hn, hl⟩ := I.loc
  refine ⟨m, ns m hn, fun i x v e1 e2 e3 => ?_⟩
  obtain ⟨u, r, l⟩ := hl i x v e1 e2 e3
  refine ⟨u, r, ?_⟩
  rcases l with l | ⟨k, c, e, z⟩
  ·exact .inl l
  ·exact .inr ⟨k, c, e, cellK x c e _ z⟩
 ·obtain ⟨v, z⟩ := I.cell x c e
  exact ⟨v, cellK x c e v z⟩
 ·obtain ⟨m, ⟨o, _, _, ho, _⟩, _⟩ := I.loc
  exact free _ o (fun z => (hch _ z).2.1 rfl) ho I.free
 ·obtain ⟨v, o, ho, hd⟩ := I.cell x c e
  exact free c o (fun z => (hch c z).2.2.1 x c e rfl) ho (I.freeC x c e)
 ·obtain ⟨e, n, ne, nf, d⟩ := I.pin p hp
  have nch : p.1 ∉ ch := fun z => (hch p.1 z).2.2.2 p hp rfl
  exact ⟨keep p.1 p.2 ne nf nch e n, free p.1 p.2 nch e n, ne, nf, d⟩
theorem Inv.un {t' : Nat} (I : Inv X pins σ H s) (u : Un X.fs [] H H' s.heap h') (hok : HOk X.prog X.w H' h') : Inv X pins σ H' { s with heap := h', toks := t' } := by
 obtain ⟨m, ⟨o, es, ep, ho, r⟩, _⟩ := id I.loc
 obtain ⟨sl, hL⟩ := u.any ho I.free (by simp)
 exact I.step (g' := s.gens) (d' := s.drawn) (ch := []) (fun _ z => nomatch z) (fun b o _ hb _ e n => u.keep b o e n hb (by simp)) (fun b o _ hb _ e n => u.slot b o e n hb (by simp)) (fun b o _ e n => u.free b o e n (by simp)) (fun b o _ e => u.there b o e (by simp)) u.tups u.frzs u.tbls (fun m' hm => by
  obtain ⟨o', es', ep', ho', r'⟩ := hm
  rw [ho] at ho'; cases ho'
  exact ⟨_, es', ep', hL, r'⟩) hok I.bare
theorem Inv.call {g' : Array GenState} {t' : Nat} {d' : Drawn} {ch : List Addr} (I : Inv X pins σ H s) (u : Un (frs X.stack) ch H H' s.heap h') (hok : HOk X.prog X.w H' h') (hg : AllBare g')
  (hch : ∀ b ∈ ch, (b ∈ X.ex ∨ X.s₀.heap.objs.size ≤ b) ∧ b ≠ X.env.locals ∧ (∀ x c, X.env.cells.lookup x = some c → c ≠ b) ∧ ∀ p ∈ X.pn ++ pins, p.1 ≠ b) :
  Inv X pins σ H' { s with heap := h', gens := g', drawn := d', toks := t' } := by
 obtain ⟨m, ⟨o, es, ep, ho, r⟩, _⟩ := id I.loc
 obtain ⟨sl, hL⟩ := u.any ho I.free fun z => (hch _ z).2.1 rfl
 exact I.step (ch := ch) hch (fun b o hL hb hc e n => u.keep b o e n (fun z => (List.mem_cons.mp (I.stkSub b z)).elim hL hb) hc) (fun b o _ _ hc e n => u.any e n hc) (fun b o hc e n => u.free b o e n hc) (fun b o hc e => u.there b o e hc) u.tups u.frzs u.tbls (fun m' hm => by
  obtain ⟨o', es', ep', ho', r'⟩ := hm
  rw [ho] at ho'; cases ho'
  exact ⟨_, es', ep', hL, r'⟩) hok hg
theorem Inv.turned {t' : Nat} {it : Addr} (I : Inv X pins σ H s) (k : ∀ b o, b ≠ it → s.heap.get? b = some o → h'.get? b = some o) (hn : H it = none) (hL : it ≠ X.env.locals)
  (h1 : it ∈ X.ex ∨ X.s₀.heap.objs.size ≤ it) (h2 : ∀ x c, X.env.cells.lookup x = some c → c ≠ it) (h3 : ∀ p ∈ X.pn ++ pins, p.1 ≠ it) : Inv X pins σ H { s with heap := h', toks := t' } := by
 have nit : ∀ b u, H b = some u → b ≠ it := fun b u e z => by rw [z, hn] at e; cases e
 refine I.step (g' := s.gens) (d' := s.drawn) (ch := [it]) (fun b hb => ?_) (fun b o _ _ hc e _ => k b o (fun z => hc (by simp [z])) e) (fun b o _ _ hc e _ => ⟨o.slots, k b o (fun z => hc (by simp [z])) e⟩) (fun _ _ _ _ n => n)
  (fun b o hc e => ⟨o, k b o (fun z => hc (by simp [z])) e⟩) (fun _ _ e => e) (fun _ _ _ e => e) (fun b ps e => ⟨#[], by rw [e]; simp⟩) (fun m hm => ?_) (fun b u e => ?_) I.bare
 ·have e : b = it := by simpa using hb
  subst e
  exact ⟨h1, hL, h2, h3⟩
 ·obtain ⟨o, es, ep, ho, r⟩ := hm
  exact ⟨o, es, ep, k _ o (Ne.symm hL) ho, r⟩
 ·refine (I.hok b u e).stay (fun c v hc q => k c v ?_ q) (fun _ q => q) fun _ _ q => q
  rcases hc with z | z
  ·rw [z]; exact nit b u e
  ·exact nit c _ z
theorem Inv.tok (I : Inv X pins σ H s) (t : Nat) : Inv X pins σ H { s with toks := t } := I.un (h' := s.heap) (t' := t) Un.refl I.hok
theorem Inv.kept {t' : Nat} (I : Inv X pins σ H s) (k : ∀ b u, s.heap.get? b = some u → h'.get? b = some u) : Inv X pins σ H { s with heap := h', toks := t' } := I.un (Un.kept k) (I.hok.kept k)
theorem Inv.laid {a : Addr} {o : HO} {t' : Nat} (I : Inv X pins σ H s) (k : ∀ b u, s.heap.get? b = some u → h'.get? b = some u) (hp : s.heap.objs.size ≤ a) (new : ObjOk X.prog X.w (upd H a o) h' a o) :
  Inv X pins σ (upd H a o) { s with heap := h', toks := t' } := I.un (Un.laid k hp (I.hok.fresh hp)) (I.hok.laid k hp new)
theorem Inv.write {x e : Addr} {o : HO} {t' : Nat} (I : Inv X pins σ H s) (mu : Mut (H x)) (he : e = x ∨ H e = some (.own x)) (k : ∀ b u, b ≠ e → s.heap.get? b = some u → h'.get? b = some u) (heo : ∃ u, h'.get? e = some u)
  (new : ObjOk X.prog X.w (upd H x o) h' x o) : Inv X pins σ (upd H x o) { s with heap := h', toks := t' } := I.un (Un.write mu he k heo) (I.hok.write mu he k heo new)
theorem Inv.pins_of {pins' : List (Addr × Obj)} (I : Inv X pins σ H s) (h : ∀ p ∈ pins', s.heap.get? p.1 = some p.2 ∧ H p.1 = none ∧ p.1 ≠ X.env.locals ∧ p.1 ∉ X.fs ∧ ∀ v, p.2.data ≠ .cell v) : Inv X pins' σ H s :=
 ⟨I.ok, I.os, I.bare, I.base, I.loc, I.cell, I.free, I.freeC, fun p hp => (List.mem_append.mp hp).elim (fun z => I.pin p (List.mem_append_left _ z)) (h p), I.hok, I.len⟩
theorem nodup_ix {N : List Str} (hN : N.Nodup) {i j : Nat} {x : Str} (a : N[i]? = some x) (b : N[j]? = some x) : i = j := by
 obtain ⟨h1, e1⟩ := List.getElem?_eq_some_iff.mp a
 obtain ⟨h2, e2⟩ := List.getElem?_eq_some_iff.mp b
 exact (List.getElem_inj hN).mp (e1.trans e2.symm)
theorem store_ok2 {M : Model} {A : Around} {E : Value → Shared → Prop} {i : Nat} {x : Str} {v : V} {u : Value} {Q : Unit → Shared → Prop} (I : Inv X pins σ H s) (hN : X.N.Nodup) (hi : X.N[i]? = some x) (hx : Loc X.env.scope x) (r : RelV v u)
  (h : ∀ s', Inv X pins (σ.set i (some v)) H s' → (∃ a, Heap.SameBut a s.heap s'.heap ∧ (a = X.env.locals ∨ X.env.cells.lookup x = some a)) → Q () s') (hf : X.fn x = true ∨ X.env.scope.names.lookup x = some .local := by first | exact .inl rfl | exact .inr rfl | assumption) : wpAny M A (storeName X.env x u) Q E s := by
 obtain ⟨m, hn, hl⟩ := id I.loc
 have hcls : (X.env.scope.kind == .class || (X.env.scope.kind == .module && X.env.locals != X.env.globals)) = false := by rw [I.ok.kind]; rfl
 have hiσ : i < σ.length := by rw [I.len]; exact (List.getElem?_eq_some_iff.mp hi).1
 have cne := I.cne
 have tracked : ∀ {a : Addr} {h' : Heap}, (∃ o, s.heap.get? a = some o ∧ H a = none) → Heap.SameBut a s.heap h' → HOk X.prog X.w H h' := fun {a h'} ha hs b ob e => by
  obtain ⟨_, _, hfree⟩ := ha
  refine (I.hok b ob e).stay (fun c w' hc q => (hs.2 c ?_).trans q) (fun _ q => q) fun _ _ q => q
  rintro rfl
  rcases hc with rfl | hc
  ·rw [hfree] at e; cases e
  ·rw [hfree] at hc; cases hc
 rcases hx with hk | hk
 ·refine wpAny_storeName_local hk hn (fun h' hn' hs => ?_) hcls
  obtain ⟨oL, _, _, hoL, _⟩ := id hn
  refine h _ ⟨I.ok, I.os, I.bare, ⟨fun b o e n hb hx => ?_, fun b o e n hb hx => ?_, I.base.free, fun b o e hx => ?_, I.base.tups, I.base.frzs, I.base.tbls⟩, ⟨_, hn', fun j y v' e1 e2 e3 => ?_⟩, fun y c e => ?_, I.free, I.freeC, fun p hp => ?_, tracked ⟨oL, hoL, I.free⟩ hs, by simpa using I.len⟩ ⟨_, hs, .inl rfl⟩
  ·exact (hs.2 b (Nat.ne_of_lt (Nat.lt_of_lt_of_le (Heap.lt_size e) I.ok.above))).trans (I.base.keep b o e n hb hx)
  ·obtain ⟨sl, e1⟩ := I.base.slot b o e n hb hx
   exact ⟨sl, (hs.2 b (Nat.ne_of_lt (Nat.lt_of_lt_of_le (Heap.lt_size e) I.ok.above))).trans e1⟩
  ·obtain ⟨o', e1⟩ := I.base.there b o e hx
   exact ⟨o', (hs.2 b (Nat.ne_of_lt (Nat.lt_of_lt_of_le (Heap.lt_size e) I.ok.above))).trans e1⟩
  ·by_cases hj : j = i
   ·subst hj
    rw [hi] at e1; cases e1
    rw [List.getElem?_set_self hiσ] at e2
    cases e2
    exact ⟨u, r, .inl ⟨hk, by simp⟩⟩
   ·rw [List.getElem?_set_ne (Ne.symm hj)] at e2
    obtain ⟨u', r', q⟩ := hl j y v' e1 e2 e3
    refine ⟨u', r', ?_⟩
    rcases q with ⟨k, e⟩ | ⟨k, c, e, z⟩
    ·refine .inl ⟨k, ?_⟩
     have : y ≠ x := fun e => hj (nodup_ix hN e1 (e ▸ hi))
     simp [this, e]
    ·exact .inr ⟨k, c, e, z.sameBut hs (cne y c e)⟩
  ·obtain ⟨w', z⟩ := I.cell y c e
   exact ⟨w', z.sameBut hs (cne y c e)⟩
  ·obtain ⟨e, n, ne, nf, d⟩ := I.pin p hp
   exact ⟨(hs.2 p.1 ne).trans e, n, ne, nf, d⟩
 ·have hfn : X.fn x = true := by
   rcases hf with z | z
   ·exact z
   ·rw [z] at hk; cases hk
  obtain ⟨c, hc⟩ := I.ok.has x (.inl hk)
  obtain ⟨w', z⟩ := I.cell x c hc
  refine wpAny_storeName_cell I.ok.kind hk hc z (fun h' hc' hs => ?_)
  obtain ⟨oc, hoc, hocd⟩ := id z
  refine h { s with heap := h' } ⟨I.ok, I.os, I.bare, ⟨fun b o e n hb hx => ?_, fun b o e n hb hx => ?_, I.base.free, fun b o e hx => ?_, I.base.tups, I.base.frzs, I.base.tbls⟩, ⟨m, hn.sameBut hs (Ne.symm (cne x c hc)), fun j y v' e1 e2 e3 => ?_⟩, fun y c' e => ?_, I.free, I.freeC, fun p hp => ?_, tracked ⟨oc, hoc, I.freeC x c hc⟩ hs, by simpa using I.len⟩ ⟨c, hs, .inr hc⟩
  ·exact (hs.2 b (Nat.ne_of_lt (Nat.lt_of_lt_of_le (Heap.lt_size e) (I.ok.cab x c hfn hc)))).trans (I.base.keep b o e n hb hx)
  ·obtain ⟨sl, e1⟩ := I.base.slot b o e n hb hx
   exact ⟨sl, (hs.2 b (Nat.ne_of_lt (Nat.lt_of_lt_of_le (Heap.lt_size e) (I.ok.cab x c hfn hc)))).trans e1⟩
  ·obtain ⟨o', e1⟩ := I.base.there b o e hx
   exact ⟨o', (hs.2 b (Nat.ne_of_lt (Nat.lt_of_lt_of_le (Heap.lt_size e) (I.ok.cab x c hfn hc)))).trans e1⟩
  ·by_cases hj : j = i
   ·subst hj
    rw [hi] at e1; cases e1
    rw [List.getElem?_set_self hiσ] at e2
    cases e2
    exact ⟨u, r, .inr ⟨.inl hk, c, hc, hc'⟩⟩
   ·rw [List.getElem?_set_ne (Ne.symm hj)] at e2
    obtain ⟨u', r', q⟩ := hl j y v' e1 e2 e3
    refine ⟨u', r', ?_⟩
    rcases q with q | ⟨k, c', e, z'⟩
    ·exact .inl q
    ·refine .inr ⟨k, c', e, z'.sameBut hs ?_⟩
     rintro rfl
     exact hj (nodup_ix hN e1 (I.ok.inj _ _ _ e hc ▸ hi))
  ·by_cases hcc : c' = c
   ·subst hcc; exact ⟨_, hc'⟩
   ·obtain ⟨w2, z2⟩ := I.cell y c' e
    exact ⟨w2, z2.sameBut hs hcc⟩
  ·obtain ⟨e, n, ne, nf, d⟩ := I.pin p hp
   refine ⟨(hs.2 p.1 ?_).trans e, n, ne, nf, d⟩
   intro q
   rw [q, hoc] at e
   have q' : oc = p.2 := Option.some.inj e
   exact d w' (by rw [← q']; exact hocd)
theorem store_ok {M : Model} {A : Around} {E : Value → Shared → Prop} {i : Nat} {x : Str} {v : V} {u : Value} {Q : Unit → Shared → Prop} (I : Inv X pins σ H s) (hN : X.N.Nodup) (hi : X.N[i]? = some x) (hx : Loc X.env.scope x) (r : RelV v u)
  (h : ∀ s', Inv X pins (σ.set i (some v)) H s' → Q () s') (hf : X.fn x = true ∨ X.env.scope.names.lookup x = some .local := by first | exact .inl rfl | exact .inr rfl | assumption) : wpAny M A (storeName X.env x u) Q E s :=
 store_ok2 I hN hi hx r (fun s' I' _ => h s' I') hf
theorem Inv.call' {s' : Shared} {ch : List Addr} (I : Inv X pins σ H s) (ho : s'.os = s.os) (u : Un (frs X.stack) ch H H' s.heap s'.heap) (hok : HOk X.prog X.w H' s'.heap) (hg : AllBare s'.gens)
  (hch : ∀ b ∈ ch, (b ∈ X.ex ∨ X.s₀.heap.objs.size ≤ b) ∧ b ≠ X.env.locals ∧ (∀ x c, X.env.cells.lookup x = some c → c ≠ b) ∧ ∀ p ∈ X.pn ++ pins, p.1 ≠ b) : Inv X pins σ H' s' := by
 obtain ⟨h', g', d', t', o'⟩ := s'
 have e : o' = s.os := ho
 subst e
 exact I.call (g' := g') (t' := t') (d' := d') u hok hg hch
end
abbrev XK := Value → Option Addr → Hp → Prop
abbrev St := List (Option V)
abbrev VK := V → Hp → Prop
abbrev TE := St → Hp → VK → Prop
abbrev TT := St → Hp → (Bool → Hp → Prop) → Prop
abbrev TA := St → Hp → (List V → Hp → Prop) → Prop
structure Ends where
 nx : St → Hp → Prop
 rt : VK
 bk : St → Hp → Prop := fun _ _ => False
 ct : St → Hp → Prop := fun _ _ => False
abbrev TS := Ends → St → Hp → Prop
noncomputable def EP (X : Cx) (pins : List (Addr × Obj)) (σ : St) (Q : VK) (u : Value) (s' : Shared) : Prop := ∃ v H', Inv X pins σ H' s' ∧ RelV v u ∧ Q v H'
noncomputable def TP (X : Cx) (pins : List (Addr × Obj)) (σ : St) (Q : Bool → Hp → Prop) (b : Bool) (s' : Shared) : Prop := ∃ H', Inv X pins σ H' s' ∧ Q b H'
noncomputable def AP (X : Cx) (pins : List (Addr × Obj)) (σ : St) (Q : List V → Hp → Prop) (us : List Value) (s' : Shared) : Prop := ∃ vs H', Inv X pins σ H' s' ∧ Vals vs us ∧ Q vs H'
noncomputable def SP (X : Cx) (pins : List (Addr × Obj)) (D : Ends) (f : Flow) (s' : Shared) : Prop :=
 match f with
 | .next => ∃ σ' H', Inv X pins σ' H' s' ∧ D.nx σ' H'
 | .brk => ∃ σ' H', Inv X pins σ' H' s' ∧ D.bk σ' H'
 | .cont => ∃ σ' H', Inv X pins σ' H' s' ∧ D.ct σ' H'
 | .ret u => ∃ v σ' H', Inv X pins σ' H' s' ∧ RelV v u ∧ D.rt v H'
noncomputable def PE (X : Cx) (e : Expr) (t : TE) : Prop :=
 ∀ (pins : List (Addr × Obj)) (s : Shared) (σ : St) (H : Hp) (Q : VK), Inv X pins σ H s → t σ H Q → wpAny (model X.prog X.w) X.A (eval e X.env) (EP X pins σ Q) X.xe s
noncomputable def PT (X : Cx) (e : Expr) (t : TT) : Prop :=
 ∀ (pins : List (Addr × Obj)) (s : Shared) (σ : St) (H : Hp) (Q : Bool → Hp → Prop), Inv X pins σ H s → t σ H Q → wpAny (model X.prog X.w) X.A (isTrue e X.env (eval e X.env)) (TP X pins σ Q) X.xe s
noncomputable def PW (X : Cx) (e : Expr) (t : TT) : Prop :=
 ∀ (whole : Sem Value) (pins : List (Addr × Obj)) (s : Shared) (σ : St) (H : Hp) (Q : Bool → Hp → Prop), Inv X pins σ H s → t σ H Q → wpAny (model X.prog X.w) X.A (isTrue e X.env whole) (TP X pins σ Q) X.xe s
theorem PW.pt {X : Cx} {e : Expr} {t : TT} (h : PW X e t) : PT X e t := h _
noncomputable def PA (X : Cx) (es : List Expr) (t : TA) : Prop :=
 ∀ (pos : Pos) (pins : List (Addr × Obj)) (s : Shared) (σ : St) (H : Hp) (Q : List V → Hp → Prop), Inv X pins σ H s → t σ H Q → wpAny (model X.prog X.w) X.A (spliced (backTo pos (starEach es X.env))) (AP X pins σ Q) X.xe s
noncomputable def PS (X : Cx) (st : Stmt) (t : TS) : Prop :=
 ∀ (pins : List (Addr × Obj)) (s : Shared) (σ : St) (H : Hp) (D : Ends), Inv X pins σ H s → t D σ H → wpAny (model X.prog X.w) X.A (exec st X.env) (SP X pins D) X.xe s
noncomputable def PSs (X : Cx) (st : List Stmt) (t : TS) : Prop :=
 ∀ (pins : List (Addr × Obj)) (s : Shared) (σ : St) (H : Hp) (D : Ends), Inv X pins σ H s → t D σ H → wpAny (model X.prog X.w) X.A (execs st X.env) (SP X pins D) X.xe s
theorem thn {α : Type} {t : Sem α} {Q Q' : α → Shared → Prop} {M : Model} {A : Around} {E : Value → Shared → Prop} {s : Shared} (h : wpAny M A t Q E s) (hQ : ∀ a s, Q a s → Q' a s) : wpAny M A t Q' E s := wpAny_mono h hQ fun _ _ x => x
end L2
namespace L2
open PySem PySem.Spec PyProof.Rows
section
variable {X : Cx}
theorem bin {a b : Expr} {ta tb : TE} (ha : PE X a ta) (hb : PE X b tb) {pins : List (Addr × Obj)} {s : Shared} {σ : St} {H : Hp} {R : V → V → Hp → Prop} (I : Inv X pins σ H s) (h : ta σ H fun x H1 => tb σ H1 fun y H2 => R x y H2)
  {α : Type} {Q : α → Shared → Prop} {f : Value → Value → Sem α}
  (hf : ∀ v u s2 x y H2, Inv X pins σ H2 s2 → RelV x v → RelV y u → R x y H2 → wpAny (model X.prog X.w) X.A (f v u) Q X.xe s2) :
  wpAny (model X.prog X.w) X.A (eval a X.env) (fun v s₁ => wpAny (model X.prog X.w) X.A (eval b X.env) (fun u s₂ => wpAny (model X.prog X.w) X.A (f v u) Q X.xe s₂) X.xe s₁) X.xe s := by
 refine thn (ha pins s σ H _ I h) fun v s1 ⟨x, H1, I1, r1, q1⟩ => ?_
 refine thn (hb pins s1 σ H1 _ I1 q1) fun u s2 ⟨y, H2, I2, r2, q2⟩ => ?_
 exact hf v u s2 x y H2 I2 r1 r2 q2
noncomputable def tVar (i : Nat) : TE := fun σ H Q => ∃ v, σ[i]? = some (some v) ∧ Q v H
noncomputable def tC (v : V) : TE := fun _ H Q => Q v H
theorem pe_var {i : Nat} {x : Str} {pos : Pos} (hN : X.N[i]? = some x) (hv : Vis X.env.scope x) (hd : (x == ("__debug__" : Str)) = false := by decide) (hcd : (x == ("__classdict__" : Str)) = false := by decide) : PE X (.Name x pos) (tVar i) := by
 intro pins s σ H Q I h
 obtain ⟨v, e, h⟩ := h
 obtain ⟨m, hn, hl⟩ := I.loc
 obtain ⟨u, r, l⟩ := hl i x v hN e hv
 have fin : EP X pins σ Q u s := ⟨v, H, I, r, h⟩
 rcases l with ⟨hk, hm⟩ | ⟨hk, c, hc, hcell⟩
 ·exact wpAny_Name (wpAny_loadName_local I.ok.kind hk hn hm fin) hd
 ·rcases hk with hk | hk
  ·exact wpAny_Name (wpAny_loadName_cell I.ok.kind hk hc hcell fin) hd
  ·exact wpAny_Name (wpAny_loadName_free I.ok.kind hk hc hcell fin hcd) hd
theorem pe_int {i j pos} : PE X (.Constant (.int i) j pos) (tC (.int i)) := fun _ _ _ H _ I h => wpAny_Constant_int ⟨.int i, H, I.tok _, ⟨_, rfl⟩, h⟩
theorem pe_bl {b j pos} : PE X (.Constant (.bool b) j pos) (tC (.bl b)) := fun _ _ _ H _ I h => Constant_bool ⟨.bl b, H, I, rfl, h⟩
theorem pe_non {j pos} : PE X (.Constant .none j pos) (tC .non) := fun _ _ _ H _ I h => Constant_none ⟨.non, H, I, rfl, h⟩
theorem pe_str {x j pos} : PE X (.Constant (.str x) j pos) (tC (.str x)) := fun _ _ _ H _ I h => Calls.Constant_str ⟨.str x, H, I.tok _, ⟨_, rfl⟩, h⟩
noncomputable def Gl (X : Cx) (x : Str) : Prop := X.env.kindOf x = some .globalImplicit
theorem ld_glob {E : Value → Shared → Prop} {pins : List (Addr × Obj)} {s : Shared} {σ : St} {H : Hp} {x : Str} {u : Value} {pos : Pos} {Q : Value → Shared → Prop} (I : Inv X pins σ H s) (hg : Gl X x) (hm : X.mg x = some u) (h : Q u s)
  (hd : (x == ("__debug__" : Str)) = false := by decide) : wpAny (model X.prog X.w) X.A (eval (.Name x pos) X.env) Q E s :=
 Calls.Name_function_global I.ok.kind hg (Calls.loadGlobal_global (by rw [I.ok.glob]; exact I.mod.glob.keeps I.bk) hm h) hd
theorem ld_blt {E : Value → Shared → Prop} {pins : List (Addr × Obj)} {s : Shared} {σ : St} {H : Hp} {x : Str} {u : Value} {pos : Pos} {Q : Value → Shared → Prop} (I : Inv X pins σ H s) (hg : Gl X x) (hm : X.mg x = none) (hv : bootBuiltins x = some u) (h : Q u s)
  (hn : x ≠ "__name__" := by decide) (hd : (x == ("__debug__" : Str)) = false := by decide) : wpAny (model X.prog X.w) X.A (eval (.Name x pos) X.env) Q E s := by
 obtain ⟨mb, h1, h2⟩ := I.mod.blt
 exact Calls.Name_function_global I.ok.kind hg (Calls.loadGlobal_builtin (by rw [I.ok.glob]; exact I.mod.glob.keeps I.bk) hm (by rw [I.ok.blt]; exact h1.keeps I.bk) ((h2 x hn).trans hv) h) hd
theorem pe_glob {x : Str} {v : V} {u : Value} {pos : Pos} (hg : Gl X x) (hm : X.mg x = some u) (r : RelV v u) (hd : (x == ("__debug__" : Str)) = false := by decide) : PE X (.Name x pos) (tC v) :=
 fun _ _ _ H _ I h => ld_glob I hg hm ⟨v, H, I, r, h⟩ hd
variable {a b : Expr} {ta tb : TE} {pos : Pos}
variable {tA tB' : TT} {rest : List Expr}
noncomputable def tAnd (t u : TT) : TT := fun σ H Q => t σ H fun c H1 => if c = true then u σ H1 Q else Q false H1
noncomputable def tOr (t u : TT) : TT := fun σ H Q => t σ H fun c H1 => if c = true then Q true H1 else u σ H1 Q
noncomputable def tNot (t : TT) : TT := fun σ H Q => t σ H fun c H1 => Q (!c) H1
theorem pw_and1 (ha : PT X a tA) : PW X (.BoolOp .And [a] pos) tA := by
 intro wh pins s σ H Q I h
 refine isTrue_and (thn (ha pins s σ H Q I h) fun c s1 e => ?_)
 cases c with
 | true => exact isTrue_and_nil e
 | false => exact e
theorem pw_or1 (ha : PT X a tA) : PW X (.BoolOp .Or [a] pos) tA := by
 intro wh pins s σ H Q I h
 refine isTrue_or (thn (ha pins s σ H Q I h) fun c s1 e => ?_)
 cases c with
 | false => exact isTrue_or_nil e
 | true => exact e
theorem pw_and (ha : PT X a tA) (hb : PW X (.BoolOp .And (b :: rest) pos) tB') : PW X (.BoolOp .And (a :: b :: rest) pos) (tAnd tA tB') := by
 intro wh pins s σ H Q I h
 refine isTrue_and (thn (ha pins s σ H _ I h) fun c s1 ⟨H1, I1, q1⟩ => ?_)
 cases c with
 | true => exact hb wh pins s1 σ H1 Q I1 q1
 | false => exact ⟨H1, I1, q1⟩
theorem pw_or (ha : PT X a tA) (hb : PW X (.BoolOp .Or (b :: rest) pos) tB') : PW X (.BoolOp .Or (a :: b :: rest) pos) (tOr tA tB') := by
 intro wh pins s σ H Q I h
 refine isTrue_or (thn (ha pins s σ H _ I h) fun c s1 ⟨H1, I1, q1⟩ => ?_)
 cases c with
 | true => exact ⟨H1, I1, q1⟩
 | false => exact hb wh pins s1 σ H1 Q I1 q1
theorem pt_not (ha : PT X a tA) : PT X (.UnaryOp .Not a pos) (tNot tA) := by
 intro pins s σ H Q I h
 exact isTrue_not (ha pins s σ H (fun c H1 => Q (!c) H1) I h)
noncomputable def tIf (t : TT) (ta tb : TE) : TE := fun σ H Q => t σ H fun c H1 => if c = true then ta σ H1 Q else tb σ H1 Q
theorem pe_ifExp {c : Expr} (hc : PT X c tA) (ha : PE X a ta) (hb : PE X b tb) : PE X (.IfExp c a b pos) (tIf tA ta tb) := by
 intro pins s σ H Q I h
 refine wpAny_IfExp (thn (hc pins s σ H _ I h) fun d s1 ⟨H1, I1, q1⟩ => ?_)
 cases d with
 | true => exact ha pins s1 σ H1 Q I1 q1
 | false => exact hb pins s1 σ H1 Q I1 q1
end
end L2
namespace L2
open PySem PySem.Spec PyProof.Rows
noncomputable def SqL (K : PySem.W.Frag) (H : Hp) (a : Addr) (xs : List V) : Prop :=
 Rd H a (.lst xs) ∨
  ∃ (o : Obj) (its : Array Value) (n : Nat), K.lookup a = some o ∧ o.cls = .type "list" ∧ o.dict = none ∧ o.data = .seq its n ∧ its.size ≤ sizeLine ∧ Vals xs its.toList
noncomputable def SqT (K : PySem.W.Frag) (H : Hp) (a : Addr) (xs : List V) : Prop :=
 Rd H a (.tup xs) ∨
  ∃ (o : Obj) (its : Array Value) (n : Nat), K.lookup a = some o ∧ o.cls = .type "tuple" ∧ o.data = .seq its n ∧ its.size ≤ sizeLine ∧ Vals xs its.toList
noncomputable def absV : Value → Option V
 | .none => some .non
 | .bool b => some (.bl b)
 | .int i _ => some (.int i)
 | .str x _ => some (.str x)
 | .bytes b _ => some (.byt b)
 | .float b _ => some (.flt b)
 | .ref a => some (.ref a)
 | .type n => some (.ty n)
 | _ => none
theorem RelV.abs {x : V} {u : Value} (r : RelV x u) : absV u = some x := by
 cases x with
 | non => cases r; rfl
 | bl _ => cases r; rfl
 | int _ => obtain ⟨t, rfl⟩ := r; rfl
 | str _ => obtain ⟨t, rfl⟩ := r; rfl
 | byt _ => obtain ⟨t, rfl⟩ := r; rfl
 | flt _ => obtain ⟨t, rfl⟩ := r; rfl
 | ref _ => cases r; rfl
 | ty _ => cases r; rfl
theorem RelV.inj {x y : V} {u : Value} (r : RelV x u) (q : RelV y u) : x = y := Option.some.inj (r.abs.symm.trans q.abs)
theorem Vals.inj : ∀ {xs ys : List V} {us : List Value}, Vals xs us → Vals ys us → xs = ys
 | _, _, _, .nil, .nil => rfl
 | _, _, _, .cons r t, .cons r' t' => by rw [r.inj r', Vals.inj t t']
section
variable {X : Cx} {pins : List (Addr × Obj)} {σ : St} {H : Hp} {s : Shared} {a : Addr} {xs ys : List V}
theorem SqL.of {K : PySem.W.Frag} (h : H a = some (.lst xs)) : SqL K H a xs := .inl (.inl h)
theorem SqT.of {K : PySem.W.Frag} (h : H a = some (.tup xs)) : SqT K H a xs := .inl (.inl h)
theorem Inv.list (I : Inv X pins σ H s) (h : SqL X.K H a xs) : ∃ its : List Value, Vals xs its ∧ PlainL s.heap a its.toArray ∧ xs.length ≤ sizeLine := by
 rcases h with h | ⟨o, its, n, hk, hc, hd, hs, hz, r⟩
 ·obtain ⟨z, its, n, r, e⟩ := h.ok I.hok
  exact ⟨its, r, ⟨_, n, e, rfl, rfl, rfl⟩, z⟩
 ·refine ⟨its.toList, r, ⟨o, n, I.kIn a o hk, hc, hd, by simpa using hs⟩, ?_⟩
  have e := r.length
  simp only [Array.length_toList] at e
  omega
theorem Inv.tuple (I : Inv X pins σ H s) (h : SqT X.K H a xs) : ∃ its : List Value, Vals xs its ∧ IsTup s.heap a its.toArray ∧ xs.length ≤ sizeLine := by
 rcases h with h | ⟨o, its, n, hk, hc, hs, hz, r⟩
 ·obtain ⟨z, its, r, p⟩ := h.ok I.hok
  exact ⟨its, r, p, z⟩
 ·refine ⟨its.toList, r, ⟨o, I.kIn a o hk, hc, n, by simpa using hs⟩, ?_⟩
  have e := r.length
  simp only [Array.length_toList] at e
  omega
theorem Inv.list_inj (I : Inv X pins σ H s) (h : SqL X.K H a xs) (h' : SqL X.K H a ys) : xs = ys := by
 obtain ⟨its, r, ⟨o, n, e, _, _, d⟩, _⟩ := I.list h
 obtain ⟨its', r', ⟨o', n', e', _, _, d'⟩, _⟩ := I.list h'
 rw [e] at e'; cases e'
 rw [d] at d'
 injection d' with d1 _
 have : its = its' := by simpa using congrArg Array.toList d1
 subst this
 exact r.inj r'
theorem Inv.tuple_inj (I : Inv X pins σ H s) (h : SqT X.K H a xs) (h' : SqT X.K H a ys) : xs = ys := by
 obtain ⟨its, r, ⟨o, e, _, n, d⟩, _⟩ := I.tuple h
 obtain ⟨its', r', ⟨o', e', _, n', d'⟩, _⟩ := I.tuple h'
 rw [e] at e'; cases e'
 rw [d] at d'
 injection d' with d1 _
 have : its = its' := by simpa using congrArg Array.toList d1
 subst this
 exact r.inj r'
end
abbrev Cx.wish (X : Cx) (E : Value → Shared → Prop) : Cx := { X with xe := E }
abbrev Cx.nox (X : Cx) : Cx := X.wish fun _ _ => False
theorem Cx.Ok.wish {X : Cx} (ok : X.Ok) (E : Value → Shared → Prop) : (X.wish E).Ok :=
 ⟨ok.mod, ok.kind, ok.glob, ok.blt, ok.above, ok.inj, ok.has, ok.cab, ok.hd, ok.frames, ok.stk, ok.exf, ok.bs, ok.bsz, ok.noex, ok.exfs, ok.funs, ok.frf⟩
theorem Cx.Ok.unwish {X : Cx} {E : Value → Shared → Prop} (ok : (X.wish E).Ok) : X.Ok :=
 ⟨ok.mod, ok.kind, ok.glob, ok.blt, ok.above, ok.inj, ok.has, ok.cab, ok.hd, ok.frames, ok.stk, ok.exf, ok.bs, ok.bsz, ok.noex, ok.exfs, ok.funs, ok.frf⟩
section
variable {X : Cx} {pins : List (Addr × Obj)} {σ : St} {H : Hp} {s : Shared} {E : Value → Shared → Prop}
theorem Inv.wish (I : Inv X pins σ H s) (E : Value → Shared → Prop) : Inv (X.wish E) pins σ H s := ⟨I.ok.wish E, I.os, I.bare, I.base, I.loc, I.cell, I.free, I.freeC, I.pin, I.hok, I.len⟩
theorem Inv.unwish (I : Inv (X.wish E) pins σ H s) : Inv X pins σ H s := ⟨I.ok.unwish, I.os, I.bare, I.base, I.loc, I.cell, I.free, I.freeC, I.pin, I.hok, I.len⟩
theorem SP.unwish {D : Ends} {f : Flow} {s' : Shared} (h : SP (X.wish E) pins D f s') : SP X pins D f s' := by
 cases f with
 | next => obtain ⟨σ', H', I, q⟩ := h; exact ⟨σ', H', I.unwish, q⟩
 | brk => obtain ⟨σ', H', I, q⟩ := h; exact ⟨σ', H', I.unwish, q⟩
 | cont => obtain ⟨σ', H', I, q⟩ := h; exact ⟨σ', H', I.unwish, q⟩
 | ret u => obtain ⟨v, σ', H', I, r, q⟩ := h; exact ⟨v, σ', H', I.unwish, r, q⟩
theorem PSs.nox {st : List Stmt} {t : TS} (h : PSs X.nox st t) : PSs X st t := fun pins s σ H D I hw =>
 wpAny_mono (h pins s σ H D (I.wish _) hw) (fun _ _ q => q.unwish) fun _ _ z => False.elim z
end
section
variable {X : Cx} {st : Stmt} {rest : List Stmt} {t u : TS} {e : Expr} {te : TE} {pos : Pos}
noncomputable def tNext : TS := fun D σ H => D.nx σ H
noncomputable def tSeq (t u : TS) : TS := fun D σ H => t { D with nx := u D } σ H
theorem pss_nil : PSs X [] tNext := fun _ _ σ H _ I h => wpAny_execs_nil ⟨σ, H, I, h⟩
theorem pss_cons (h1 : PS X st t) (h2 : PSs X rest u) : PSs X (st :: rest) (tSeq t u) := by
 intro pins s σ H D I h
 refine wpAny_execs_cons (thn (h1 pins s σ H { D with nx := u D } I h) fun f s1 q => ?_)
 cases f with
 | next =>
  obtain ⟨σ', H', I', q⟩ := q
  exact h2 pins s1 σ' H' D I' q
 | ret v => exact q
 | brk => exact q
 | cont => exact q
theorem Inv.quiet {pins : List (Addr × Obj)} {σ : St} {H : Hp} {s : Shared} (I : Inv X pins σ H s) : interactive X.env = false := by simp [interactive, I.ok.kind]
noncomputable def tDrop (te : TE) : TS := fun D σ H => te σ H fun _ H1 => D.nx σ H1
theorem ps_expr (he : PE X e te) (hs : swapsWith e none pos.line X.env = pure false := by rfl) : PS X (.Expr e pos) (tDrop te) := by
 intro pins s σ H D I h
 exact wpAny_Expr_any (thn (he pins s σ H _ I h) fun v s1 ⟨x, H1, I1, r1, q1⟩ => ⟨σ, H1, I1, q1⟩) I.quiet hs
noncomputable def tRet (te : TE) : TS := fun D σ H => te σ H D.rt
theorem ps_ret (he : PE X e te) : PS X (.Return (some e) pos) (tRet te) := by
 intro pins s σ H D I h
 exact wpAny_Return_some (thn (he pins s σ H _ I h) fun v s1 ⟨x, H1, I1, r1, q1⟩ => ⟨x, σ, H1, I1, r1, q1⟩)
noncomputable def tIfS (c : TT) (t u : TS) : TS := fun D σ H => c σ H fun b H1 => if b = true then t D σ H1 else u D σ H1
theorem ps_if {c : Expr} {a b : List Stmt} {tc : TT} (hc : PT X c tc) (ha : PSs X a t) (hb : PSs X b u) : PS X (.If c a b pos) (tIfS tc t u) := by
 intro pins s σ H D I h
 refine wpAny_If (thn (hc pins s σ H _ I h) fun d s1 ⟨H1, I1, q1⟩ => ?_)
 cases d with
 | true => exact ha pins s1 σ H1 D I1 q1
 | false => exact hb pins s1 σ H1 D I1 q1
noncomputable def tNever : TS := fun _ _ _ => False
theorem ps_never : PS X st tNever := fun _ _ _ _ _ _ h => h.elim
end
abbrev TG := V → St → Hp → (St → Hp → Prop) → Prop
abbrev TGs := List V → St → Hp → (St → Hp → Prop) → Prop
noncomputable def PG (X : Cx) (target : Expr) (t : TG) : Prop :=
 ∀ (pins : List (Addr × Obj)) (s : Shared) (σ : St) (H : Hp) (v : V) (u : Value) (Q : St → Hp → Prop), Inv X pins σ H s → RelV v u → t v σ H Q →
  wpAny (model X.prog X.w) X.A (assign target X.env u) (fun _ s' => ∃ σ' H', Inv X pins σ' H' s' ∧ Q σ' H') X.xe s
noncomputable def PGs (X : Cx) (ts : List Expr) (t : TGs) : Prop :=
 ∀ (pins : List (Addr × Obj)) (s : Shared) (σ : St) (H : Hp) (vs : List V) (us : List Value) (Q : St → Hp → Prop), Inv X pins σ H s → Vals vs us → t vs σ H Q →
  wpAny (model X.prog X.w) X.A (assignInOrder ((assignEach ts X.env).map (·.2)) us) (fun _ s' => ∃ σ' H', Inv X pins σ' H' s' ∧ Q σ' H') X.xe s
section
variable {X : Cx} {pos : Pos}
noncomputable def gName (i : Nat) : TG := fun v σ H Q => Q (σ.set i (some v)) H
theorem pg_name {i : Nat} {x : Str} (hN : X.N.Nodup) (hi : X.N[i]? = some x) (hx : Loc X.env.scope x) (hf : X.fn x = true ∨ X.env.scope.names.lookup x = some .local := by first | exact .inl rfl | exact .inr rfl | assumption) : PG X (.Name x pos) (gName i) := by
 intro pins s σ H v u Q I r h
 exact wpAny_assign_Name (store_ok I hN hi hx r (fun s' I' => ⟨_, H, I', h⟩) hf)
noncomputable def gNil : TGs := fun vs σ H Q => vs = [] ∧ Q σ H
noncomputable def gCons (t : TG) (u : TGs) : TGs := fun vs σ H Q => ∃ v r, vs = v :: r ∧ t v σ H fun σ' H' => u r σ' H' Q
theorem pgs_nil : PGs X [] gNil := by
 intro pins s σ H vs us Q I r h
 obtain ⟨e, h⟩ := h
 subst e
 cases r
 exact assignInOrder_nil ⟨σ, H, I, h⟩
theorem pgs_cons {e : Expr} {es : List Expr} {t : TG} {u : TGs} (h1 : PG X e t) (h2 : PGs X es u)
  (hs : (assignEach (e :: es) X.env).map (·.2) = assign e X.env :: (assignEach es X.env).map (·.2) := by rfl) : PGs X (e :: es) (gCons t u) := by
 intro pins s σ H vs us Q I r h
 obtain ⟨v, vr, e1, h⟩ := h
 subst e1
 cases r with
 | cons r rr =>
  rw [hs]
  refine assignInOrder_cons (thn (h1 pins s σ H _ _ _ I r h) fun _ s1 ⟨σ1, H1, I1, q1⟩ => ?_)
  exact h2 pins s1 σ1 H1 _ _ Q I1 rr q1
noncomputable def gTup (K : PySem.W.Frag) (n : Nat) (t : TGs) : TG := fun v σ H Q => ∃ a xs, v = .ref a ∧ SqT K H a xs ∧ xs.length = n ∧ t xs σ H Q
theorem pg_tup {es : List Expr} {k : Nat} {t : TGs} {n : Nat} (hc : X.calm = true) (h : PGs X es t)
  (hn : (assignEach es X.env).length = n := by rfl) (hst : (assignEach es X.env).findIdx? (·.1) = none := by rfl) : PG X (.Tuple es k pos) (gTup X.K n t) := by
 intro pins s σ H v u Q I r hw
 obtain ⟨a, xs, e1, hq, hl, hw⟩ := hw
 subst e1
 cases r
 obtain ⟨its, rv, ht, hz⟩ := I.tuple hq
 refine assign_Tuple_tuple (I.ok.hd hc) ht (by simp [hn, ← hl, rv.length]) hst fun h' hx => ?_
 have I1 : Inv X pins σ H { s with heap := h' } := I.kept (t' := s.toks) fun b o e => hx b o (Nat.ne_of_lt (Heap.lt_size e)) e
 exact h pins _ σ H xs _ Q I1 (by simpa using rv) hw
noncomputable def tAsg (te : TE) (g : TG) : TS := fun D σ H => te σ H fun x H1 => g x σ H1 D.nx
theorem ps_asg {tg e : Expr} {te : TE} {g : TG} (he : PE X e te) (hg : PG X tg g) (hs : swapsWithSole [tg] e pos.line X.env = pure false := by rfl) (hw : swappedStores [tg] e X.env = pure none := by rfl)
  (h1 : (assignEach [tg] X.env).map (·.2) = [assign tg X.env] := by rfl) : PS X (.Assign [tg] e pos) (tAsg te g) := by
 intro pins s σ H D I h
 refine wpAny_Assign_stores (thn (he pins s σ H _ I h) fun v s1 ⟨x, H1, I1, r1, q1⟩ => ?_) hs hw
 rw [h1]
 exact thn (hg pins s1 σ H1 x v _ I1 r1 q1) fun _ s2 q => q
theorem ps_set {i : Nat} {x : Str} {e : Expr} {te : TE} {pos' : Pos} (hN : X.N.Nodup) (hi : X.N[i]? = some x) (hx : Loc X.env.scope x) (he : PE X e te) (hs : swapsWith e (some (.Name x pos')) pos.line X.env = pure false := by rfl) (hf : X.fn x = true ∨ X.env.scope.names.lookup x = some .local := by first | exact .inl rfl | exact .inr rfl | assumption) :
  PS X (.Assign [.Name x pos'] e pos) (tAsg te (gName i)) := by
 intro pins s σ H D I h
 refine wpAny_Assign_Name (thn (he pins s σ H _ I h) fun v s1 ⟨y, H1, I1, r1, q1⟩ => ?_) hs
 exact store_ok I1 hN hi hx r1 (fun s2 I2 => ⟨_, H1, I2, q1⟩) hf
end
section
variable {X : Cx} {pos : Pos}
noncomputable def tWhile (c : TT) (tb : TS) : TS := fun D σ H => ∃ W : Nat → St → Hp → Prop, (∃ m, W m σ H) ∧ ∀ m σ H, W m σ H →
 c σ H fun b H1 => if b = true then ∃ N : St → Hp → Prop, (∀ σ' H', N σ' H' → ∃ m', m' < m ∧ W m' σ' H') ∧ tb { D with nx := N, ct := N, bk := D.nx } σ H1 else D.nx σ H1
theorem ps_while {c : Expr} {body : List Stmt} {tc : TT} {tb : TS} (hp : PassesOwn (model X.prog X.w) X.A X.env X.xe) (hc : PT X c tc) (hb : PSs X body tb) : PS X (.While c body [] pos) (tWhile tc tb) := by
 intro pins s σ H D I h
 obtain ⟨W, ⟨m0, w0⟩, turn⟩ := h
 refine wpAny_While (codeAny_whileLoop (fun n s' => ∃ σ' H', Inv X pins σ' H' s' ∧ W n σ' H') ?_ m0 ⟨σ, H, I, w0⟩)
 rintro n s1 ⟨σ1, H1, I1, w1⟩
 refine wpAny_passesOwn hp (thn (hc pins s1 σ1 H1 _ I1 (turn n σ1 H1 w1)) fun b s2 ⟨H2, I2, q2⟩ => ?_)
 cases b with
 | true =>
  obtain ⟨N, hN, q2⟩ := q2
  rw [if_pos rfl]
  refine wpAny_passesOwn hp (thn (hb pins s2 σ1 H2 _ I2 q2) fun f s3 q3 => ?_)
  cases f with
  | next =>
   obtain ⟨σ3, H3, I3, n3⟩ := q3
   obtain ⟨m', hm, w3⟩ := hN σ3 H3 n3
   exact ⟨m', hm, σ3, H3, I3, w3⟩
  | cont =>
   obtain ⟨σ3, H3, I3, n3⟩ := q3
   obtain ⟨m', hm, w3⟩ := hN σ3 H3 n3
   exact ⟨m', hm, σ3, H3, I3, w3⟩
  | brk => exact q3
  | ret v => exact q3
 | false =>
  rw [if_neg Bool.false_ne_true]
  exact wpAny_execs_nil ⟨σ1, H2, I2, q2⟩
end
structure It where
 go : Nat → Hp → Prop
 yld : Nat → Hp → V → Hp → Prop
 stop : Nat → Hp → Prop
noncomputable def FpOk (X : Cx) (pins : List (Addr × Obj)) (H : Hp) (b : Addr) : Prop :=
 H b = none ∧ b ≠ X.env.locals ∧ b ∉ X.fs ∧ (b ∈ X.ex ∨ X.s₀.heap.objs.size ≤ b) ∧ (∀ x c, X.env.cells.lookup x = some c → c ≠ b) ∧ ∀ p ∈ X.pn ++ pins, p.1 ≠ b
theorem Inv.fpOk {X : Cx} {pins : List (Addr × Obj)} {σ : St} {H H' : Hp} {s : Shared} {b : Addr} (I : Inv X pins σ H s) (hb : s.heap.objs.size ≤ b) (hn : H' b = none) : FpOk X pins H' b := by
 refine ⟨hn, Nat.ne_of_gt (Nat.lt_of_lt_of_le I.lt hb), I.nofs hb, .inr (Nat.le_trans I.sz hb), fun x c e z => ?_, fun p hp z => ?_⟩
 ·obtain ⟨v, q⟩ := I.cell x c e
  exact absurd (Nat.lt_of_lt_of_le q.lt (by rw [z]; exact hb)) (Nat.lt_irrefl _)
 ·exact absurd (Nat.lt_of_lt_of_le (Heap.lt_size (I.pin p hp).1) (by rw [z]; exact hb)) (Nat.lt_irrefl _)
structure Turn (P : Program) (w : World) (K : PySem.W.Frag) (tg : Expr) (J : It) (fp : List Addr) (it : Addr) (tn : Nat → Heap → Prop) : Prop where
 mem : it ∈ fp
 obj : ∀ i h, tn i h → ∀ b ∈ fp, ∃ o, h.get? b = some o ∧ ∀ v, o.data ≠ .cell v
 keep : ∀ i h h', tn i h → (∀ b ∈ fp, ∀ o, h.get? b = some o → h'.get? b = some o) → tn i h'
 item : ∀ (X : Cx), X.prog = P → X.w = w → X.K = K → X.calm = true → ∀ (i : Nat) (pins : List (Addr × Obj)) (s : Shared) (σ : St) (H : Hp) (E : Value → Shared → Prop), Inv X pins σ H s → (∀ b ∈ fp, FpOk X pins H b) → tn i s.heap → J.go i H →
  wpAny (model P w) X.A (pyNext (.ref it)) (fun r s1 => ∃ u, r = some u ∧
   wpAny (model P w) X.A (letOwnedTupleGo tg (.ref it) u) (fun _ s2 => ∃ x H', Inv X pins σ H' s2 ∧ RelV x u ∧ J.yld i H x H' ∧ tn (i + 1) s2.heap ∧ ∀ b ∈ fp, H' b = none) E s1) E s
 done : ∀ (X : Cx), X.prog = P → X.w = w → X.K = K → X.calm = true → ∀ (i : Nat) (pins : List (Addr × Obj)) (s : Shared) (σ : St) (H : Hp) (E : Value → Shared → Prop), Inv X pins σ H s → (∀ b ∈ fp, FpOk X pins H b) → tn i s.heap → J.stop i H →
  wpAny (model P w) X.A (pyNext (.ref it)) (fun r s1 => r = none ∧ Inv X pins σ H s1) E s
 self : ∀ (A : Around) (i : Nat) (s : Shared) (Q : Value → Shared → Prop) (E : Value → Shared → Prop), tn i s.heap → Q (.ref it) s → wpAny (model P w) A (pyIter (.ref it)) Q E s
abbrev TI := St → Hp → (It → Hp → Prop) → Prop
noncomputable def PIE (X : Cx) (pins : List (Addr × Obj)) (σ : St) (tg : Expr) (R : It → Hp → Prop) (itv : Value) (s2 : Shared) : Prop :=
 ∃ (it : Addr) (fp : List Addr) (tn : Nat → Heap → Prop) (J : It) (H' : Hp), itv = .ref it ∧ Inv X pins σ H' s2 ∧ Turn X.prog X.w X.K tg J fp it tn ∧ tn 0 s2.heap ∧ (∀ b ∈ fp, FpOk X pins H' b) ∧ R J H'
noncomputable def PI (X : Cx) (tg iter : Expr) (wi : TI) : Prop :=
 ∀ (pins : List (Addr × Obj)) (s : Shared) (σ : St) (H : Hp) (R : It → Hp → Prop), Inv X pins σ H s → wi σ H R →
  wpAny (model X.prog X.w) X.A (eval iter X.env) (fun v s1 => wpAny (model X.prog X.w) X.A (pyIter v) (PIE X pins σ tg R) X.xe s1) X.xe s
theorem go_of {M : Model} {A : Around} {E : Value → Shared → Prop} {s : Shared} {tg : Expr} {it : Addr} {u : Value} {o : Obj} {n : String} {vs : Array Value} {Q : Unit → Shared → Prop} (ho : s.heap.get? it = some o) (hc : o.cls = .type n) (hd : o.data = .fields vs)
    (hn : ["enumerate", "zip", "dict_itemiterator", "dict_reverseitemiterator", "odict_iterator", "itertools.zip_longest", "itertools.pairwise"].contains n = false) (hQ : Q () s) : wpAny M A (letOwnedTupleGo tg (.ref it) u) Q E s := by
  unfold letOwnedTupleGo
  cases tg <;> first
    | exact wpAny_pure hQ
    | (cases u <;> first
        | exact wpAny_pure hQ
        | (refine wpAny_bind (wpAny_load ho ?_)
           rw [hc, hd]
           show wpAny M A (if (["enumerate", "zip", "dict_itemiterator", "dict_reverseitemiterator", "odict_iterator", "itertools.zip_longest", "itertools.pairwise"].contains n && vs[0]? == some (rawInt _)) = true then _ else _) Q E s
           rw [if_neg (by intro h; rw [hn, Bool.false_and] at h; cases h)]
           exact wpAny_pure hQ))
noncomputable def Itl (K : PySem.W.Frag) (a : Addr) : It :=
 ⟨fun i H => ∃ xs x, SqL K H a xs ∧ xs[i]? = some x, fun i H x H' => H' = H ∧ ∀ xs, SqL K H a xs → xs[i]? = some x, fun i H => ∃ xs, SqL K H a xs ∧ xs.length ≤ i⟩
noncomputable def Itt (K : PySem.W.Frag) (a : Addr) : It :=
 ⟨fun i H => ∃ xs x, SqT K H a xs ∧ xs[i]? = some x, fun i H x H' => H' = H ∧ ∀ xs, SqT K H a xs → xs[i]? = some x, fun i H => ∃ xs, SqT K H a xs ∧ xs.length ≤ i⟩
noncomputable def Itr (lo : Int) (n : Nat) : It := ⟨fun i _ => i < n, fun i H x H' => H' = H ∧ x = .int (lo + i), fun i _ => n ≤ i⟩
theorem turn_list {P : Program} {w : World} {K : PySem.W.Frag} {tg : Expr} (a it : Addr) : Turn P w K tg (Itl K a) [it] it (fun i h => h.IsListIter it a i) where
 mem := by simp
 obj := fun i h st b hb => by
  have e : b = it := by simpa using hb
  subst e
  obtain ⟨o, e, c, d⟩ := st
  exact ⟨o, e, fun v z => by rw [d] at z; cases z⟩
 keep := fun i h h' st k => st.at fun o e => k it (by simp) o e
 item := by
  intro X hP hw hK hc i pins s σ H E I hf st hg
  subst hP hw hK
  obtain ⟨xs, x, hq, hx⟩ := hg
  obtain ⟨its, rv, p, hz⟩ := I.list hq
  obtain ⟨u, hu, ru⟩ := rv.get hx
  obtain ⟨f0, f1, f2, f3, f4, f5⟩ := hf it (by simp)
  refine wpAny_pyNext_list_item st p.isList (x := u) (by simpa using hu) fun h' st' sb => ?_
  have I1 : Inv X pins σ H { s with heap := h' } := I.turned (t' := s.toks) (fun b o hb e => (sb.2 b hb).trans e) f0 f1 f3 f4 f5
  obtain ⟨o, e, c, d⟩ := id st'
  exact ⟨u, rfl, go_of (s := { s with heap := h' }) e c d (by decide) ⟨x, H, I1, ru, ⟨rfl, fun ys hy => by rw [I.list_inj hy hq]; exact hx⟩, st', fun b hb => (hf b hb).1⟩⟩
 done := by
  intro X hP hw hK hc i pins s σ H E I hf st hg
  subst hP hw hK
  obtain ⟨xs, hq, hx⟩ := hg
  obtain ⟨its, rv, p, hz⟩ := I.list hq
  obtain ⟨f0, f1, f2, f3, f4, f5⟩ := hf it (by simp)
  have hl := rv.length
  exact wpAny_pyNext_list_end (I.ok.hd hc) st p.isList (by simp; omega) fun h' eb => ⟨rfl, I.turned (t' := s.toks) (fun b o hb e => eb b o hb e) f0 f1 f3 f4 f5⟩
 self := fun _ _ _ _ _ st h => wpAny_pyIter_listiter st h
theorem turn_tuple {P : Program} {w : World} {K : PySem.W.Frag} {tg : Expr} (a it : Addr) : Turn P w K tg (Itt K a) [it] it (fun i h => h.IsTupleIter it a i) where
 mem := by simp
 obj := fun i h st b hb => by
  have e : b = it := by simpa using hb
  subst e
  obtain ⟨o, e, c, d⟩ := st
  exact ⟨o, e, fun v z => by rw [d] at z; cases z⟩
 keep := fun i h h' st k => st.at fun o e => k it (by simp) o e
 item := by
  intro X hP hw hK hc i pins s σ H E I hf st hg
  subst hP hw hK
  obtain ⟨xs, x, hq, hx⟩ := hg
  obtain ⟨its, rv, p, hz⟩ := I.tuple hq
  obtain ⟨u, hu, ru⟩ := rv.get hx
  obtain ⟨f0, f1, f2, f3, f4, f5⟩ := hf it (by simp)
  refine wpAny_pyNext_tuple_item st (show s.heap.IsTuple a its.toArray from p) (x := u) (by simpa using hu) fun h' st' sb => ?_
  have I1 : Inv X pins σ H { s with heap := h' } := I.turned (t' := s.toks) (fun b o hb e => (sb.2 b hb).trans e) f0 f1 f3 f4 f5
  obtain ⟨o, e, c, d⟩ := id st'
  exact ⟨u, rfl, go_of (s := { s with heap := h' }) e c d (by decide) ⟨x, H, I1, ru, ⟨rfl, fun ys hy => by rw [I.tuple_inj hy hq]; exact hx⟩, st', fun b hb => (hf b hb).1⟩⟩
 done := by
  intro X hP hw hK hc i pins s σ H E I hf st hg
  subst hP hw hK
  obtain ⟨xs, hq, hx⟩ := hg
  obtain ⟨its, rv, p, hz⟩ := I.tuple hq
  obtain ⟨f0, f1, f2, f3, f4, f5⟩ := hf it (by simp)
  have hl := rv.length
  exact wpAny_pyNext_tuple_end (I.ok.hd hc) st (show s.heap.IsTuple a its.toArray from p) (by simp; omega) fun h' eb => ⟨rfl, I.turned (t' := s.toks) (fun b o hb e => eb b o hb e) f0 f1 f3 f4 f5⟩
 self := fun _ _ _ _ _ st h => wpAny_pyIter_tupleiter st h
theorem turn_range {P : Program} {w : World} {K : PySem.W.Frag} {tg : Expr} (it : Addr) (lo : Int) (n : Nat) : Turn P w K tg (Itr lo n) [it] it (fun i h => IsRangeIter h it (lo + (i : Nat) * 1) ((n : Int) - (i : Nat)) 1) where
 mem := by simp
 obj := fun i h st b hb => by
  have e : b = it := by simpa using hb
  subst e
  exact ⟨_, st, fun v z => by
   have z' : Data.fields _ = Data.cell v := z
   cases z'⟩
 keep := fun i h h' st k => k it (by simp) _ st
 item := by
  intro X hP hw hK hc i pins s σ H E I hf st hg
  subst hP hw hK
  obtain ⟨f0, f1, f2, f3, f4, f5⟩ := hf it (by simp)
  have W := Walks.range (prog := X.prog) (w := X.w) (I.ok.hd hc) it lo 1 n
  refine W.item i s _ _ hg st fun v h' tk hv st' kk => ?_
  obtain ⟨t, rfl⟩ := hv
  have I1 : Inv X pins σ H { s with heap := h', toks := tk } := I.turned (fun b o hb e => kk b o (by simpa using hb) e) f0 f1 f3 f4 f5
  refine ⟨_, rfl, go_of (s := { s with heap := h', toks := tk }) (n := "range_iterator") st' rfl rfl (by decide) ⟨.int (lo + i), H, I1, ⟨t, ?_⟩, ⟨rfl, rfl⟩, st', fun b hb => (hf b hb).1⟩⟩
  rw [Int.mul_one]
 done := by
  intro X hP hw hK hc i pins s σ H E I hf st hg
  subst hP hw hK
  obtain ⟨f0, f1, f2, f3, f4, f5⟩ := hf it (by simp)
  exact wpAny_pyNext_range_end (I.ok.hd hc) st (by have : n ≤ i := hg; omega) fun h' eb => ⟨rfl, I.turned (t' := s.toks) (fun b o hb e => eb b o hb e) f0 f1 f3 f4 f5⟩
 self := fun _ _ _ _ _ st h => wpAny_pyIter_rangeiter st h
end L2
namespace L2
open PySem PySem.Spec PyProof.Rows
section
variable {X : Cx} {tg : Expr}
theorem range_it {pins : List (Addr × Obj)} {σ : St} {H : Hp} {s : Shared} {R : It → Hp → Prop} {E : Value → Shared → Prop} {lo hi : Int} {t u v : Tok} {tk : Nat} (I : Inv X pins σ H s) (h1 : -(2 ^ 62) ≤ lo) (h2 : lo < 2 ^ 62) (h3 : -(2 ^ 62) ≤ hi) (h4 : hi < 2 ^ 62)
  (q : R (Itr lo (hi - lo).toNat) H) : wpAny (model X.prog X.w) X.A (pyIter (.ref s.heap.objs.size)) (PIE X pins σ tg R) E { s with heap := s.heap.push { cls := .type "range", data := .fields #[.int lo t, .int hi u, .int 1 v] }, toks := tk } := by
 refine wpAny_pyIter_range (IsRange.new ..) (small_one h1 h2 h3 h4) ?_
 have I1 : Inv X pins σ H { s with heap := s.heap.push { cls := .type "range", data := .fields #[.int lo t, .int hi u, .int 1 v] }, toks := tk } := I.kept fun b o e => Heap.get?_push_of_some _ e
 refine ⟨(s.heap.push { cls := .type "range", data := .fields #[.int lo t, .int hi u, .int 1 v] }).objs.size, [(s.heap.push { cls := .type "range", data := .fields #[.int lo t, .int hi u, .int 1 v] }).objs.size], _, _, H, rfl,
  I1.kept (t' := tk) fun b o e => Heap.get?_push_of_some _ e, turn_range _ lo (hi - lo).toNat, ?_, fun b hb => ?_, q⟩
 ·have e1 : lo + ((0 : Nat) : Int) * 1 = lo := by simp
  have e2 : (((hi - lo).toNat : Nat) : Int) - ((0 : Nat) : Int) = Builtin.Range.rangeSize lo hi 1 := by rw [rangeSize_one]; split <;> omega
  show IsRangeIter _ _ (lo + ((0 : Nat) : Int) * 1) ((((hi - lo).toNat : Nat) : Int) - ((0 : Nat) : Int)) 1
  rw [e1, e2]
  exact Heap.get?_push_size _ rfl
 ·have e : b = (s.heap.push { cls := .type "range", data := .fields #[.int lo t, .int hi u, .int 1 v] }).objs.size := by simpa using hb
  subst e
  exact I1.fpOk (Nat.le_refl _) (I1.hok.fresh (Nat.le_refl _))
noncomputable def iRng1 (ta : TA) : TI := fun σ H R => ta σ H fun vs H1 => ∃ j : Int, vs = [.int j] ∧ -(2 ^ 62) ≤ j ∧ j < 2 ^ 62 ∧ R (Itr 0 j.toNat) H1
theorem pi_range1 {a : Expr} {ta : TA} {p pos : Pos} (hg : Gl X "range") (hm : X.mg "range" = none) (ha : PA X [a] ta) (hs : starEach [a] X.env = [(false, eval a X.env)] := by rfl) : PI X tg (.Call (.Name "range" p) [a] [] pos) (iRng1 ta) := by
 intro pins s σ H R I h
 refine Call_ (ld_blt I hg hm boot_range (PyProof.Rows.callWith_type1 (thn (ha pos pins s σ H _ I h) fun us s1 ⟨vs, H1, I1, r1, q1⟩ => ?_) hs rfl))
 obtain ⟨j, e, q1, q2, q⟩ := q1
 subst e
 cases r1 with
 | cons r rr =>
  cases rr
  obtain ⟨t, rfl⟩ := r
  exact call_range_1 (range_it I1 (by omega) (by omega) q1 q2 (by simpa using q))
noncomputable def tFor (wi : TI) (g : TG) (tb : TS) : TS := fun D σ H => wi σ H fun J H1 => ∃ W : Nat → Nat → St → Hp → Prop, (∃ m, W 0 m σ H1) ∧ ∀ i m σ H, W i m σ H →
 (J.stop i H ∧ D.nx σ H) ∨ (J.go i H ∧ ∃ N : St → Hp → Prop, (∀ σ' H', N σ' H' → ∃ m', m' < m ∧ W (i + 1) m' σ' H') ∧ ∀ x H', J.yld i H x H' → g x σ H' fun σ2 H2 => tb { D with nx := N, ct := N, bk := D.nx } σ2 H2)
noncomputable def pinsAt (fp : List Addr) (h : Heap) : List (Addr × Obj) := fp.filterMap fun b => (h.get? b).map fun o => (b, o)
theorem mem_pinsAt {fp : List Addr} {h : Heap} {b : Addr} {o : Obj} (hb : b ∈ fp) (e : h.get? b = some o) : (b, o) ∈ pinsAt fp h := List.mem_filterMap.mpr ⟨b, hb, by rw [e]; rfl⟩
theorem of_pinsAt {fp : List Addr} {h : Heap} {p : Addr × Obj} (hp : p ∈ pinsAt fp h) : p.1 ∈ fp ∧ h.get? p.1 = some p.2 := by
 obtain ⟨b, hb, e⟩ := List.mem_filterMap.mp hp
 cases q : h.get? b with
 | none => rw [q] at e; cases e
 | some o =>
  rw [q] at e
  have e' : (b, o) = p := Option.some.inj e
  subst e'
  exact ⟨hb, q⟩
theorem Inv.pinned {pins : List (Addr × Obj)} {σ : St} {H : Hp} {s : Shared} {fp : List Addr} (I : Inv X pins σ H s) (hf : ∀ b ∈ fp, FpOk X pins H b) (ho : ∀ b ∈ fp, ∃ o, s.heap.get? b = some o ∧ ∀ v, o.data ≠ .cell v) : Inv X (pins ++ pinsAt fp s.heap) σ H s :=
 I.pins_of fun p hp => (List.mem_append.mp hp).elim (fun z => I.pin p (List.mem_append_right _ z)) fun z => by
  obtain ⟨hb, e⟩ := of_pinsAt z
  obtain ⟨f0, f1, f2, _⟩ := hf p.1 hb
  obtain ⟨o, e', d⟩ := ho p.1 hb
  rw [e] at e'; cases e'
  exact ⟨e, f0, f1, f2, d⟩
theorem Inv.unpinned {pins pl : List (Addr × Obj)} {σ : St} {H : Hp} {s : Shared} (I : Inv X (pins ++ pl) σ H s) : Inv X pins σ H s := I.pins_of fun p hp => I.pin p (List.mem_append_right _ (List.mem_append_left _ hp))
theorem ps_for {iter : Expr} {body : List Stmt} {wi : TI} {g : TG} {tb : TS} {pos : Pos} (hp : PassesOwn (model X.prog X.w) X.A X.env X.xe) (hc : X.calm = true) (hi : PI X tg iter wi) (hg : PG X tg g) (hb : PSs X body tb)
  (hs : ∀ x, foldedSetIterable iter X.env x = pure x := by intro _; rfl) : PS X (.For tg iter body [] pos) (tFor wi g tb) := by
 intro pins s σ H D I h
 refine wpAny_For (thn (hi pins s σ H _ I h) fun v s1 h1 => thn h1 fun itv s2 h2 => ?_) hs
 obtain ⟨it, fp, tn, J, H2, e, I2, T, st2, f2, W, ⟨m0, w0⟩, turn⟩ := h2
 subst e
 have stat : ∀ {H' : Hp}, (∀ b ∈ fp, H' b = none) → ∀ b ∈ fp, FpOk X pins H' b := fun hn b hb => ⟨hn b hb, (f2 b hb).2⟩
 refine codeAny_forLoop_any (fun n s' => ∃ i σ' H', Inv X pins σ' H' s' ∧ tn i s'.heap ∧ (∀ b ∈ fp, H' b = none) ∧ W i n σ' H') ?_ m0 ⟨0, σ, H2, I2, st2, fun b hb => (f2 b hb).1, w0⟩
 rintro n s3 ⟨i, σ3, H3, I3, st3, fr3, w3⟩
 rcases turn i n σ3 H3 w3 with ⟨stop, qn⟩ | ⟨go, N, hN, step⟩
 ·refine wpAny_passesOwn hp (thn (T.done X rfl rfl rfl hc i pins s3 σ3 H3 X.xe I3 (stat fr3) st3 stop) fun r s4 ⟨hr, I4⟩ => ?_)
  subst hr
  exact wpAny_execs_nil ⟨σ3, H3, I4, qn⟩
 ·refine wpAny_passesOwn hp (thn (T.item X rfl rfl rfl hc i pins s3 σ3 H3 X.xe I3 (stat fr3) st3 go) fun r s4 ⟨u, hr, h4⟩ => ?_)
  subst hr
  refine wpAny_passesOwn hp (thn h4 fun _ s5 ⟨x, H5, I5, r5, y5, st5, fr5⟩ => ?_)
  have I5' := I5.pinned (stat fr5) (T.obj _ _ st5)
  refine wpAny_passesOwn hp (thn (hg _ s5 σ3 H5 x u _ I5' r5 (step x H5 y5)) fun _ s6 ⟨σ6, H6, I6, q6⟩ => ?_)
  refine wpAny_passesOwn hp (thn (hb _ s6 σ6 H6 _ I6 q6) fun f s7 q7 => ?_)
  have again : ∀ {σ7 : St} {H7 : Hp}, Inv X (pins ++ pinsAt fp s5.heap) σ7 H7 s7 → N σ7 H7 → ∃ m, m < n ∧ ∃ i σ' H', Inv X pins σ' H' s7 ∧ tn i s7.heap ∧ (∀ b ∈ fp, H' b = none) ∧ W i m σ' H' := fun {σ7 H7} I7 n7 => by
   obtain ⟨m', hm, w7⟩ := hN σ7 H7 n7
   refine ⟨m', hm, i + 1, σ7, H7, I7.unpinned, T.keep _ _ _ st5 fun b hb o e => (I7.pin (b, o) (List.mem_append_right _ (List.mem_append_right _ (mem_pinsAt hb e)))).1, fun b hb => ?_, w7⟩
   obtain ⟨o, e, d⟩ := T.obj _ _ st5 b hb
   exact (I7.pin (b, o) (List.mem_append_right _ (List.mem_append_right _ (mem_pinsAt hb e)))).2.1
  cases f with
  | next => obtain ⟨σ7, H7, I7, n7⟩ := q7; exact again I7 n7
  | cont => obtain ⟨σ7, H7, I7, n7⟩ := q7; exact again I7 n7
  | brk => obtain ⟨σ7, H7, I7, q7⟩ := q7; exact ⟨σ7, H7, I7.unpinned, q7⟩
  | ret v => obtain ⟨x7, σ7, H7, I7, r7, q7⟩ := q7; exact ⟨x7, σ7, H7, I7.unpinned, r7, q7⟩
end
end L2
namespace L2
open PySem PySem.Spec PyProof.Rows
abbrev R2 := V → V → Hp → VK → Prop
noncomputable def OpR (X : Cx) (f : Value → Value → Sem Value) (r : R2) : Prop :=
 ∀ (pins : List (Addr × Obj)) (s : Shared) (σ : St) (H : Hp) (x y : V) (v u : Value) (Q : VK), Inv X pins σ H s → RelV x v → RelV y u → r x y H Q →
  wpAny (model X.prog X.w) X.A (f v u) (EP X pins σ Q) X.xe s
noncomputable def UnR (X : Cx) (f : Value → Sem Value) (r : V → Hp → VK → Prop) : Prop :=
 ∀ (pins : List (Addr × Obj)) (s : Shared) (σ : St) (H : Hp) (x : V) (v : Value) (Q : VK), Inv X pins σ H s → RelV x v → r x H Q →
  wpAny (model X.prog X.w) X.A (f v) (EP X pins σ Q) X.xe s
noncomputable def CallR (X : Cx) (f : Value) (r : List V → Hp → VK → Prop) : Prop :=
 ∀ (pins : List (Addr × Obj)) (s : Shared) (σ : St) (H : Hp) (xs : List V) (us : List Value) (Q : VK), Inv X pins σ H s → Vals xs us → r xs H Q →
  wpAny (model X.prog X.w) X.A (call f us) (EP X pins σ Q) X.xe s
noncomputable def TruR (X : Cx) (r : V → Hp → (Bool → Hp → Prop) → Prop) : Prop :=
 ∀ (pins : List (Addr × Obj)) (s : Shared) (σ : St) (H : Hp) (x : V) (v : Value) (Q : Bool → Hp → Prop), Inv X pins σ H s → RelV x v → r x H Q →
  wpAny (model X.prog X.w) X.A (truthy v) (TP X pins σ Q) X.xe s
noncomputable def tOp (r : R2) (ta tb : TE) : TE := fun σ H Q => ta σ H fun x H1 => tb σ H1 fun y H2 => r x y H2 Q
noncomputable def tUn (r : V → Hp → VK → Prop) (ta : TE) : TE := fun σ H Q => ta σ H fun x H1 => r x H1 Q
noncomputable def rI (C : Int → Int → Prop) (g : Int → Int → V) : R2 := fun x y H Q => ∃ i j, x = .int i ∧ y = .int j ∧ C i j ∧ Q (g i j) H
noncomputable def rI0 (g : Int → Int → V) : R2 := fun x y H Q => ∃ i j, x = .int i ∧ y = .int j ∧ Q (g i j) H
noncomputable def rU (g : Int → V) : V → Hp → VK → Prop := fun x H Q => ∃ i, x = .int i ∧ Q (g i) H
section
variable {X : Cx} {a b c : Expr} {ta tb tc : TE} {pos : Pos}
theorem binT (ha : PE X a ta) (hb : PE X b tb) {pins : List (Addr × Obj)} {s : Shared} {σ : St} {H : Hp} {R : V → V → Hp → Prop} (I : Inv X pins σ H s)
  (h : ta σ H fun x H1 => tb σ H1 fun y H2 => R x y H2) {Q : Value → Shared → Prop} {f : Value → Value → Sem Value}
  (hf : ∀ v u s2 x y H2, Inv X pins σ H2 s2 → RelV x v → RelV y u → R x y H2 → wpAny (model X.prog X.w) X.A (f v u) Q X.xe s2) :
  wpAny (model X.prog X.w) X.A (eval a X.env) (fun v s₁ => wpAny (model X.prog X.w) X.A (eval b X.env) (fun u s₂ => wpAny (model X.prog X.w) X.A (f v u) Q X.xe s₂) X.xe s₁) X.xe s := by
 refine thn (ha pins s σ H _ I h) fun v s1 ⟨x, H1, I1, r1, q1⟩ => ?_
 refine thn (hb pins s1 σ H1 _ I1 q1) fun u s2 ⟨y, H2, I2, r2, q2⟩ => ?_
 exact hf v u s2 x y H2 I2 r1 r2 q2
theorem pe_op {op : Operator} {r : R2} (ho : OpR X (binaryOp op) r) (ha : PE X a ta) (hb : PE X b tb) : PE X (.BinOp a op b pos) (tOp r ta tb) := by
 intro pins s σ H Q I h
 exact wpAny_BinOp (binT ha hb I h fun v u s2 x y H2 I2 rx ry q => ho pins s2 σ H2 x y v u Q I2 rx ry q)
theorem pe_un {op : UnaryOp} {r : V → Hp → VK → Prop} (ho : UnR X (unaryOp op) r) (ha : PE X a ta) : PE X (.UnaryOp op a pos) (tUn r ta) := by
 intro pins s σ H Q I h
 exact UnaryOp_ (thn (ha pins s σ H _ I h) fun v s1 ⟨x, H1, I1, r1, q1⟩ => ho pins s1 σ H1 x v Q I1 r1 q1)
theorem opI {f : Value → Value → Sem Value} {C : Int → Int → Prop} {g : Int → Int → Int}
  (rule : ∀ (i j : Int) (t u : Tok) (s : Shared) (Q : Value → Shared → Prop) (E : Value → Shared → Prop), C i j → Q (.int (g i j) s.toks) { s with toks := s.toks + 1 } → wpAny (model X.prog X.w) X.A (f (.int i t) (.int j u)) Q E s) :
  OpR X f (rI C fun i j => .int (g i j)) := by
 intro pins s σ H x y v u Q I rx ry h
 obtain ⟨i, j, rfl, rfl, hc, q⟩ := h
 obtain ⟨t, rfl⟩ := rx
 obtain ⟨t', rfl⟩ := ry
 exact rule i j t t' s _ _ hc ⟨.int (g i j), H, I.tok _, ⟨_, rfl⟩, q⟩
theorem opI0 {f : Value → Value → Sem Value} {g : Int → Int → Int}
  (rule : ∀ (i j : Int) (t u : Tok) (s : Shared) (Q : Value → Shared → Prop) (E : Value → Shared → Prop), Q (.int (g i j) s.toks) { s with toks := s.toks + 1 } → wpAny (model X.prog X.w) X.A (f (.int i t) (.int j u)) Q E s) :
  OpR X f (rI0 fun i j => .int (g i j)) := by
 intro pins s σ H x y v u Q I rx ry h
 obtain ⟨i, j, rfl, rfl, q⟩ := h
 obtain ⟨t, rfl⟩ := rx
 obtain ⟨t', rfl⟩ := ry
 exact rule i j t t' s _ _ ⟨.int (g i j), H, I.tok _, ⟨_, rfl⟩, q⟩
theorem opB0 {f : Value → Value → Sem Value} {g : Int → Int → Bool}
  (rule : ∀ (i j : Int) (t u : Tok) (s : Shared) (Q : Value → Shared → Prop) (E : Value → Shared → Prop), Q (.bool (g i j)) s → wpAny (model X.prog X.w) X.A (f (.int i t) (.int j u)) Q E s) :
  OpR X f (rI0 fun i j => .bl (g i j)) := by
 intro pins s σ H x y v u Q I rx ry h
 obtain ⟨i, j, rfl, rfl, q⟩ := h
 obtain ⟨t, rfl⟩ := rx
 obtain ⟨t', rfl⟩ := ry
 exact rule i j t t' s _ _ ⟨.bl (g i j), H, I, rfl, q⟩
noncomputable def CDiv (i j : Int) : Prop := 0 < j ∧ j < 1073741824
noncomputable def CMul (i j : Int) : Prop := (-(2 ^ 64) < i ∧ i < 2 ^ 64) ∨ (-(2 ^ 64) < j ∧ j < 2 ^ 64)
theorem CMul.ok {i j : Int} (h : CMul i j) : IntMulOk i j := by
 rcases h with ⟨h1, h2⟩ | ⟨h1, h2⟩
 ·exact .of_left (intBits_le_64 h1 h2)
 ·exact .of_right (intBits_le_64 h1 h2)
theorem op_add : OpR X (binaryOp .Add) (rI0 fun i j => .int (i + j)) := opI0 fun _ _ _ _ _ _ _ q => add_int q
theorem op_sub : OpR X (binaryOp .Sub) (rI0 fun i j => .int (i - j)) := opI0 fun _ _ _ _ _ _ _ q => sub_int q
theorem op_mul : OpR X (binaryOp .Mult) (rI CMul fun i j => .int (i * j)) := opI fun _ _ _ _ _ _ _ hc q => mul_int q hc.ok
theorem op_fdiv : OpR X (binaryOp .FloorDiv) (rI CDiv fun i j => .int (i / j)) := opI fun i j _ _ _ _ _ hc q => by
 have h1 : (0 : Int) < j := hc.1
 have h2 : j < 1073741824 := hc.2
 exact floordiv_int (by omega) (by rw [Int.fdiv_eq_ediv_of_nonneg i (by omega)]; exact q) (.inl (PyProof.noPylong_small (by omega)))
theorem op_mod : OpR X (binaryOp .Mod) (rI (fun _ j => 0 < j) fun i j => .int (i % j)) := opI fun i j _ _ _ _ _ hc q => by
 have h1 : (0 : Int) < j := hc
 exact mod_int' (by omega) (by rw [Int.fmod_eq_emod_of_nonneg i (by omega)]; exact q)
theorem unI {f : Value → Sem Value} {g : Int → Int}
  (rule : ∀ (i : Int) (t : Tok) (s : Shared) (Q : Value → Shared → Prop) (E : Value → Shared → Prop), Q (.int (g i) s.toks) { s with toks := s.toks + 1 } → wpAny (model X.prog X.w) X.A (f (.int i t)) Q E s) :
  UnR X f (rU fun i => .int (g i)) := by
 intro pins s σ H x v Q I rx h
 obtain ⟨i, rfl, q⟩ := h
 obtain ⟨t, rfl⟩ := rx
 exact rule i t s _ _ ⟨.int (g i), H, I.tok _, ⟨_, rfl⟩, q⟩
theorem un_neg : UnR X (unaryOp .USub) (rU fun i => .int (-i)) := unI fun _ _ _ _ _ q => neg_int q
end
section
variable {X : Cx} {a b c : Expr} {ta tb tc : TE} {pos : Pos}
theorem op_lt : OpR X (compareOp .Lt) (rI0 fun i j => .bl (decide (i < j))) := opB0 fun _ _ _ _ _ _ _ q => lt_int q
theorem op_gt : OpR X (compareOp .Gt) (rI0 fun i j => .bl (decide (j < i))) := opB0 fun _ _ _ _ _ _ _ q => gt_int q
theorem nomark (b : Expr) {op : CmpOp} (h : op ≠ .In := by decide) (h2 : op ≠ .NotIn := by decide) : behindInMarks op b = false := by
 have e1 : (op == CmpOp.In) = false := by cases op <;> first | rfl | exact absurd rfl h
 have e2 : (op == CmpOp.NotIn) = false := by cases op <;> first | rfl | exact absurd rfl h2
 cases b <;> simp [behindInMarks, e1, e2]
theorem pe_cmpR {op : CmpOp} {r : R2} (ho : OpR X (compareOp op) r) (ha : PE X a ta) (hb : PE X b tb) (hm : behindInMarks op b = false) : PE X (.Compare a [op] [b] pos) (tOp r ta tb) := by
 intro pins s σ H Q I h
 exact wpAny_Compare1 (binT ha hb I h fun v u s2 x y H2 I2 rx ry q => ho pins s2 σ H2 x y v u Q I2 rx ry q) hm
noncomputable def tTest (t : TE) : TT := fun σ H Q => t σ H fun x H' => ∃ k, x = .bl k ∧ Q k H'
theorem pt_cmpR {op : CmpOp} {r : R2} (ho : OpR X (compareOp op) r) (ha : PE X a ta) (hb : PE X b tb) (hm : behindInMarks op b = false) : PT X (.Compare a [op] [b] pos) (tTest (tOp r ta tb)) := by
 intro pins s σ H Q I h
 refine wpAny_isTrue_Compare1 (thn (ha pins s σ H _ I h) fun v s1 ⟨x, H1, I1, r1, q1⟩ => thn (hb pins s1 σ H1 _ I1 q1) fun u s2 ⟨y, H2, I2, r2, q2⟩ =>
  thn (ho pins s2 σ H2 x y v u _ I2 r1 r2 q2) fun c s3 ⟨z, H3, I3, r3, k, e, q3⟩ => ?_) hm
 subst e
 cases r3
 exact wpAny_truthy_bool ⟨H3, I3, q3⟩
noncomputable def TruV (K : PySem.W.Frag) (x : V) (H : Hp) (k : Bool) : Prop :=
 match x with
 | .non => k = false
 | .bl b => k = b
 | .int i => k = (i != 0)
 | .str y => y.length ≤ sizeLine ∧ k = ((y.length : Int) != 0)
 | .byt y => y.size ≤ sizeLine ∧ k = ((y.size : Int) != 0)
 | .ref p => (∃ xs, SqL K H p xs ∧ k = !xs.isEmpty) ∨ (∃ xs, SqT K H p xs ∧ k = !xs.isEmpty) ∨ ∃ kvs, H p = some (.dK kvs) ∧ k = !kvs.isEmpty
 | _ => False
theorem isEmpty_kv {κ : Type} {kvs : List (κ × V)} {vs : List (κ × Value)} (r : KV kvs vs) : (!vs.isEmpty) = !kvs.isEmpty := by
 cases r <;> rfl
theorem isEmpty_of {xs : List V} {its : List Value} (r : Vals xs its) : (!its.toArray.isEmpty) = !xs.isEmpty := by
 cases r <;> simp
theorem line63 : (sizeLine : Nat) < 2 ^ 63 := by rw [sizeLine_eq]; decide
theorem tru_ok : TruR X (fun x H Q => ∃ k, TruV X.K x H k ∧ Q k H) := by
 intro pins s σ H x v Q I rx h
 obtain ⟨k, e, q⟩ := h
 have hl := line63
 have hs : sizeLine = 16777216 := sizeLine_eq
 cases x with
 | non =>
  cases rx
  have e' : k = false := e
  subst e'
  exact truthy_none ⟨H, I, q⟩
 | bl b =>
  cases rx
  have e' : k = b := e
  subst e'
  exact wpAny_truthy_bool ⟨H, I, q⟩
 | int i =>
  obtain ⟨t, rfl⟩ := rx
  have e' : k = (i != 0) := e
  subst e'
  exact PySem.P.truthy_int ⟨H, I, q⟩
 | str y =>
  obtain ⟨t, rfl⟩ := rx
  obtain ⟨hy, e'⟩ : y.length ≤ sizeLine ∧ k = ((y.length : Int) != 0) := e
  subst e'
  exact PySem.P.truthy_str (by omega) ⟨H, I.tok _, q⟩
 | byt y =>
  obtain ⟨t, rfl⟩ := rx
  obtain ⟨hy, e'⟩ : y.size ≤ sizeLine ∧ k = ((y.size : Int) != 0) := e
  subst e'
  exact PySem.W.truthy_bytes (by omega) ⟨H, I.tok _, q⟩
 | ref p =>
  cases rx
  have e' : (∃ xs, SqL X.K H p xs ∧ k = !xs.isEmpty) ∨ (∃ xs, SqT X.K H p xs ∧ k = !xs.isEmpty) ∨ ∃ kvs, H p = some (.dK kvs) ∧ k = !kvs.isEmpty := e
  rcases e' with ⟨xs, hx, e'⟩ | ⟨xs, hx, e'⟩ | ⟨kvs, hx, e'⟩
  ·subst e'
   obtain ⟨its, r, pl, hz⟩ := I.list hx
   have hlen := r.length
   exact wpAny_truthy_list pl.isList (by simp only [List.size_toArray]; omega) ⟨H, I.tok _, by rw [isEmpty_of r]; exact q⟩
  ·subst e'
   obtain ⟨its, r, pl, hz⟩ := I.tuple hx
   have hlen := r.length
   exact truthy_tuple pl (by simp only [List.size_toArray]; omega) ⟨H, I.tok _, by rw [isEmpty_of r]; exact q⟩
  ·subst e'
   obtain ⟨hz, hS, vs, r, m⟩ : kvs.length ≤ sizeLine ∧ (p == sysModules) = false ∧ ∃ vs, KV kvs vs ∧ s.heap.DictOf (mixKind X.prog X.w) p vs := I.hok p _ hx
   have hlen : kvs.length = vs.length := Paired.length r
   exact wpAny_truthy_dict hS m (by omega) ⟨H, I.tok _, by rw [isEmpty_kv r]; exact q⟩
 | _ => exact (show False from e).elim
theorem pt_truth (ha : PE X a ta) (he : ∀ whole, isTrue a X.env whole = (do let v ← whole; standAt a.pos; holding [v] (truthy v))) :
  PT X a (fun σ H Q => ta σ H fun x H' => ∃ k, TruV X.K x H' k ∧ Q k H') := by
 intro pins s σ H Q I h
 exact isTrue_plain (thn (ha pins s σ H _ I h) fun v s1 ⟨x, H1, I1, r1, q1⟩ => tru_ok pins s1 σ H1 x v Q I1 r1 q1) (he _)
theorem op_add_str : OpR X (binaryOp .Add) (fun x y H Q => ∃ i j, x = .str i ∧ y = .str j ∧ i.length + j.length ≤ sizeLine ∧ Q (.str (i ++ j)) H) := by
 intro pins s σ H x y v u Q I rx ry h
 obtain ⟨i, j, rfl, rfl, hz, q⟩ := h
 obtain ⟨t, rfl⟩ := rx
 obtain ⟨t', rfl⟩ := ry
 exact add_str (fun t' tk => ⟨.str (i ++ j), H, I.tok _, ⟨_, rfl⟩, q⟩) hz
theorem vals1 {x : V} {us : List Value} (r : Vals [x] us) : ∃ u, us = [u] ∧ RelV x u := by
 cases r with
 | cons r1 r2 => cases r2; exact ⟨_, rfl, r1⟩
theorem vals2 {x y : V} {us : List Value} (r : Vals [x, y] us) : ∃ u w', us = [u, w'] ∧ RelV x u ∧ RelV y w' := by
 cases r with
 | cons r1 r2 =>
  cases r2 with
  | cons r3 r4 => cases r4; exact ⟨_, _, rfl, r1, r3⟩
theorem call_min2 (hc : X.calm = true) : CallR X (.builtin "min") (fun xs H Q => ∃ i j, xs = [.int i, .int j] ∧ Q (.int (if j < i then j else i)) H) := by
 intro pins s σ H xs us Q I r h
 obtain ⟨i, j, rfl, q⟩ := h
 obtain ⟨u, w', rfl, ⟨t, rfl⟩, ⟨t', rfl⟩⟩ := vals2 r
 refine min_two_ints (I.ok.hd hc) fun h' tk k => ⟨_, H, I.kept k, ?_, q⟩
 by_cases hj : j < i
 ·rw [if_pos hj, if_pos hj]; exact ⟨_, rfl⟩
 ·rw [if_neg hj, if_neg hj]; exact ⟨_, rfl⟩
end
end L2
namespace L2
open PySem PySem.Spec PyProof.Rows
structure ObjM (h : Heap) (x dx C : Addr) (mA : Str → Option Value) : Prop where
 obj : h.get? x = some (PySem.W.instObj C dx)
 ns : h.Ns1 dx mA
 ne : dx ≠ x
section
variable {prog : Program} {w : World} {A : Around} {E : Value → Shared → Prop} {s : Shared} {K : PySem.W.Frag} {x dx C f : Addr} {mA : Str → Option Value} {name : Str} {v : Value}
end
section
variable {P : Program} {w : World} {H H' : Hp} {h h' : Heap} {a C dx : Addr} {fs fs' : List (Str × V)}
end
structure Cls (K : PySem.W.Frag) (C : Addr) : Prop where
 pg : PySem.W.plainGet K C Str.empty = true
 hd : PySem.W.hasDictIn K C = true
 po : PySem.W.plainOver K C = true
 sa : PySem.W.findIn K (.ref C) "__setattr__" = some (some (.builtin "object.__setattr__"))
structure Con (K : PySem.W.Frag) (C : Addr) (f : Str) (v : V) (u : Value) : Prop where
 at_ : PySem.W.findIn K (.ref C) f = some (some u)
 rel : RelV v u
 get : PySem.W.specialIn K u "__get__" = some none
 cp : PySem.W.copiedNames.contains f = false
structure Meth (K : PySem.W.Frag) (C : Addr) (m : Str) (f : Addr) : Prop where
 at_ : PySem.W.findIn K (.ref C) m = some (some (.ref f))
 fn : PySem.W.isFn K (.ref f) = true
 kp : PySem.W.keepIn K (.ref f) = true
section
variable {X : Cx} {pins : List (Addr × Obj)} {σ : St} {H : Hp} {s : Shared} {a C dx : Addr} {fs : List (Str × V)} {f : Str} {v : V} {A : Around} {E : Value → Shared → Prop}
end
section
variable {X : Cx} {o e value : Expr} {f : Str} {pos pos' tpos : Pos} {ta tv : TE}
end
section
variable {X : Cx} {pins : List (Addr × Obj)} {σ : St} {H : Hp} {s : Shared} {A : Around} {E : Value → Shared → Prop} {Q : Value → Shared → Prop} {c : Value} {b : Bool}
inductive TyOf (K : PySem.W.Frag) (H : Hp) : V → Value → Prop where
 | non : TyOf K H .non (.type "NoneType")
 | bl (x : Bool) : TyOf K H (.bl x) (.type "bool")
 | int (i : Int) : TyOf K H (.int i) (.type "int")
 | str (x : Str) : TyOf K H (.str x) (.type "str")
 | flt (x : UInt64) : TyOf K H (.flt x) (.type "float")
 | lst {a : Addr} {xs : List V} (e : H a = some (.lst xs)) : TyOf K H (.ref a) (.type "list")
 | frz {a : Addr} {o : Obj} {xs : List V} (e : H a = some (.frz o (.lst xs))) : TyOf K H (.ref a) (.type "list")
 | tup {a : Addr} {xs : List V} (e : H a = some (.tup xs)) : TyOf K H (.ref a) (.type "tuple")
 | dK {a : Addr} {kvs : List (Key × V)} (e : H a = some (.dK kvs)) : TyOf K H (.ref a) (.type "dict")
 | dT {a : Addr} {kvs : List (List Key × V)} (e : H a = some (.dT kvs)) : TyOf K H (.ref a) (.type "dict")
 | ins {a C dx : Addr} {fs : List (Str × V)} (e : H a = some (.ins C dx fs)) (cl : Cls K C) (ha : PySem.W.findIn K (.ref C) "__class__" = some (some (.builtin "object.__class__")))
   (hn : PySem.W.specialIn K (.builtin "object.__class__") "__get__" = some (some (.builtin "getset_descriptor.__get__"))) (htk : PySem.W.takesIn K (.builtin "object.__class__") = some true)
   (hm : PySem.W.mroIn K C (.type "object") = some true) : TyOf K H (.ref a) (.ref C)
end
end L2
namespace L2
open PySem PySem.Spec PyProof.Rows
structure Room (k : Nat) (A : Around) : Prop where
 hd : A.handled = none
 dp : A.depth + 3 * k + 5 < recursionLimit
 un : A.units + 16 * k + 200 < cLine
theorem Room.deeper {k : Nat} {A : Around} (r : Room (k + 1) A) (env : Env) : Room k (A.deeper env) :=
 ⟨r.hd, by have := r.dp; show A.depth + 1 + 3 * k + 5 < _; omega, by have := r.un; show A.units + 3 + 16 * k + 200 < _; omega⟩
theorem Room.depth {k : Nat} {A : Around} (r : Room k A) : A.depth < recursionLimit := by have := r.dp; omega
noncomputable def tNil : TA := fun _ H Q => Q [] H
noncomputable def tCons (ta : TE) (tr : TA) : TA := fun σ H Q => ta σ H fun x H1 => tr σ H1 fun xs H2 => Q (x :: xs) H2
section
variable {X : Cx} {e : Expr} {es : List Expr} {te : TE} {t : TA} {pos : Pos}
theorem pa_nil : PA X [] tNil := fun _ _ _ _ H Q I h => Calls.spliced_nil ⟨[], H, I, .nil, h⟩
theorem pa_cons (ha : PE X e te) (hr : PA X es t) (hs : starEach (e :: es) X.env = (false, eval e X.env) :: starEach es X.env := by rfl) : PA X (e :: es) (tCons te t) := by
 intro pos pins s σ H Q I h
 rw [hs]
 show wpAny _ _ (spliced ((false, eval e X.env) :: backTo pos (starEach es X.env))) _ _ s
 refine Calls.spliced_cons (thn (ha pins s σ H _ I h) fun u s1 ⟨x, H1, I1, r1, q1⟩ => ?_)
 exact thn (hr pos pins s1 σ H1 _ I1 q1) fun us s2 ⟨xs, H2, I2, r2, q2⟩ => ⟨x :: xs, H2, I2, .cons r1 r2, q2⟩
noncomputable def tTup (t : TA) : TE := fun σ H Q => t σ H fun xs H1 => xs.length ≤ sizeLine ∧ ∀ p, H1 p = none → Q (.ref p) (upd H1 p (.tup xs))
noncomputable def tLst (t : TA) : TE := fun σ H Q => t σ H fun xs H1 => xs.length ≤ sizeLine ∧ ∀ p, H1 p = none → Q (.ref p) (upd H1 p (.lst xs))
theorem pe_tup {x1} (h : PA X es t) : PE X (.Tuple es x1 pos) (tTup t) := by
 intro pins s σ H Q I hq
 refine wpAny_Tuple_spliced (thn (h pos pins s σ H _ I hq) fun us s1 ⟨xs, H1, I1, r, z, q⟩ => ⟨by rw [← r.length]; exact z, ?_⟩)
 have hf : H1 s1.heap.objs.size = none := I1.hok.fresh (Nat.le_refl _)
 refine ⟨.ref s1.heap.objs.size, upd H1 s1.heap.objs.size (.tup xs), I1.laid (t' := s1.toks) (fun b u e => Heap.get?_push_of_some _ e) (Nat.le_refl _) ?_, rfl, q _ hf⟩
 exact ⟨z, us, r, ⟨_, Heap.get?_push_size _ rfl, rfl, _, rfl⟩⟩
theorem pe_lst (h : PA X es t) : PE X (.List es pos) (tLst t) := by
 intro pins s σ H Q I hq
 refine wpAny_List_spliced (thn (h pos pins s σ H _ I hq) fun us s1 ⟨xs, H1, I1, r, z, q⟩ => ⟨by rw [← r.length]; exact z, ?_⟩)
 have hf : H1 s1.heap.objs.size = none := I1.hok.fresh (Nat.le_refl _)
 refine ⟨.ref s1.heap.objs.size, upd H1 s1.heap.objs.size (.lst xs), I1.laid (t' := s1.toks) (fun b u e => Heap.get?_push_of_some _ e) (Nat.le_refl _) ?_, rfl, q _ hf⟩
 exact ⟨z, us, 0, r, Heap.get?_push_size _ rfl⟩
end
abbrev Sp := List V → Hp → VK → XK → Prop
abbrev CXT := List Env → Hp → Shared → XK → Value → Shared → Prop
structure Env0 (P : Program) (w : World) (K : PySem.W.Frag) (mg : Str → Option Value) (base : Heap) (A : Around) (outer : List Env) (s : Shared) (H : Hp) : Prop where
 frames : A.frames = some outer
 mod : Mod K mg base
 bs : ∀ b o, base.get? b = some o → s.heap.get? b = some o ∧ H b = none
 bsz : base.objs.size ≤ s.heap.objs.size
 funs : s.heap.FunFrames base outer
 frf : ∀ b ∈ frs outer, H b = none
 hok : HOk P w H s.heap
 bare : AllBare s.gens
noncomputable def CE (outer : List Env) (P : Program) (w : World) (H : Hp) (s : Shared) (Q : VK) (u : Value) (s' : Shared) : Prop :=
 ∃ v H', s'.os = s.os ∧ AllBare s'.gens ∧ Un (frs outer) [] H H' s.heap s'.heap ∧ HOk P w H' s'.heap ∧ RelV v u ∧ Q v H'
noncomputable def CR (CX : CXT) (outer : List Env) (P : Program) (w : World) (H : Hp) (s : Shared) (Q : VK) (E : XK) (r : Result) (s' : Shared) : Prop :=
 match r with
 | .ok (.ret u) => CE outer P w H s Q u s'
 | .ok _ => False
 | .error e => CX outer H s E e s'
structure FnOk (P : Program) (w : World) (K : PySem.W.Frag) (mg : Str → Option Value) (base : Heap) (CX : CXT) (k : Nat) (f : Addr) (fd : FuncData) (ps : List Str) (sp : Sp) : Prop where
 len : ∀ vs H Q E, sp vs H Q E → vs.length = ps.length
 run : ∀ (A : Around) (outer : List Env) (s : Shared) (H : Hp) (args : Args) (us : List Value) (vs : List V) (Q : VK) (E : XK), Room k A → Env0 P w K mg base A outer s H → BindsTo s fd args (ps.zip us) → Vals vs us → sp vs H Q E →
  codeAny (model P w) A (.call (.ref f) args) (CR CX outer P w H s Q E) s
section
variable {X : Cx} {pins : List (Addr × Obj)} {σ : St} {H : Hp} {s s' : Shared}
theorem Inv.env0 (I : Inv X pins σ H s) : Env0 X.prog X.w X.K X.mg X.base X.A X.stack s H :=
 ⟨I.ok.frames, I.ok.mod, I.bs, Nat.le_trans I.ok.bsz I.sz, I.stack, I.stkFree, I.hok, I.bare⟩
theorem Inv.after {Q : VK} {u : Value} (I : Inv X pins σ H s) (h : CE X.stack X.prog X.w H s Q u s') : EP X pins σ Q u s' := by
 obtain ⟨v, H', os, bare, un, hok, r, q⟩ := h
 obtain ⟨hh, g, d, t, os'⟩ := s'
 obtain rfl : os' = s.os := os
 exact ⟨v, H', I.call (h' := hh) (g' := g) (d' := d) (t' := t) (ch := []) un hok bare (fun b z => absurd z (by simp)), r, q⟩
end
noncomputable def tCall (sp : Sp) (dvs : List V) (E : XK) (t : TA) : TE := fun σ H Q => t σ H fun vs H1 => sp (vs ++ dvs) H1 Q E
noncomputable def Binds (K : PySem.W.Frag) (fd : FuncData) (ps : List Str) (ds : List Value) : Prop :=
 ∀ (s : Shared) (us : List Value), K.In s.heap → (us ++ ds).length = ps.length → BindsTo s fd ⟨us, []⟩ (ps.zip (us ++ ds))
theorem Binds.all {K : PySem.W.Frag} {fd : FuncData} {ps : List Str} (h : ∀ us : List Value, us.length = ps.length → bindArgs fd ⟨us, []⟩ = pure (ps.zip us)) : Binds K fd ps [] := fun s us _ hl => by
 rw [List.append_nil] at hl ⊢
 exact .of_eq (h us hl)
noncomputable def Passes (CX : CXT) (X : Cx) (E : XK) : Prop := ∀ (pins : List (Addr × Obj)) (σ : St) (H : Hp) (s : Shared) (e : Value) (s' : Shared), Inv X pins σ H s → CX X.stack H s E e s' → X.xe e s'
section
variable {X : Cx} {CX : CXT} {k : Nat} {f C : Addr} {fd : FuncData} {ps : List Str} {sp : Sp} {dvs : List V} {ds : List Value} {E : XK} {x m : Str} {p pos apos : Pos} {e o : Expr} {es : List Expr} {ta : TE} {t : TA}
theorem run_fn {pins : List (Addr × Obj)} {σ : St} {H : Hp} {s : Shared} {Q : VK} {us : List Value} {vs : List V} (F : FnOk X.prog X.w X.K X.mg X.base CX k f fd ps sp) (hr : Room k X.A) (hb : Binds X.K fd ps ds) (hd : Vals dvs ds) (hx : Passes CX X E)
  (I : Inv X pins σ H s) (r : Vals vs us) (h : sp (vs ++ dvs) H Q E) : wpAny (model X.prog X.w) X.A (call (.ref f) us) (EP X pins σ Q) X.xe s := by
 have r2 : Vals (vs ++ dvs) (us ++ ds) := r.append hd
 have hl : (us ++ ds).length = ps.length := by rw [← r2.length]; exact F.len _ _ _ _ h
 refine wpAny_call (codeAny_mono (F.run X.A X.stack s H ⟨us, []⟩ (us ++ ds) (vs ++ dvs) Q E hr I.env0 (hb s us I.kIn hl) r2 h) fun r s' hq => ?_)
 cases r with
 | error e => exact hx pins σ H s e s' I hq
 | ok fl =>
  cases fl with
  | ret u => exact I.after hq
  | next => exact False.elim hq
  | brk => exact False.elim hq
  | cont => exact False.elim hq
theorem pe_call (F : FnOk X.prog X.w X.K X.mg X.base CX k f fd ps sp) (hr : Room k X.A) (hg : Gl X x) (hm : X.mg x = some (.ref f)) (hk : PySem.W.keepIn X.K (.ref f) = true) (hb : Binds X.K fd ps ds) (hd : Vals dvs ds) (hx : Passes CX X E)
  (ha : PA X (e :: es) t) (hdb : (x == ("__debug__" : Str)) = false := by decide) (he : starEach (e :: es) X.env = (false, eval e X.env) :: starEach es X.env := by rfl) (hpl : (backTo pos (starEach es X.env)).any (·.1) = false := by rfl) :
  PE X (.Call (.Name x p) (e :: es) [] pos) (tCall sp dvs E t) := by
 intro pins s σ H Q I h
 refine wpAny_Call_Name_kw (ld_glob I hg hm ?_ hdb)
 refine PySem.W.callWith_K (h₀ := X.base) I.ok.mod.kin hk (thn (ha pos pins s σ H _ I h) fun us s1 ⟨vs, H1, I1, r, q⟩ => ⟨I1.kIn, ?_⟩) he hpl
 exact run_fn F hr hb hd hx I1 r q
structure Mk (K : PySem.W.Frag) (C f : Addr) : Prop where
 makes : PySem.W.makesIn K C = true
 init : PySem.W.findIn K (.ref C) "__init__" = some (some (.ref f))
 fn : PySem.W.isFn K (.ref f) = true
 kp : PySem.W.keepIn K (.ref C) = true
end
section
variable {X : Cx} {CX : CXT} {k : Nat} {f C : Addr} {fd : FuncData} {ps ks : List Str} {sp : Sp} {E : XK} {x m : Str} {p pos apos kpos : Pos} {e o : Expr} {es : List Expr} {kws : List Keyword} {te ta : TE} {t tk : TA} {nm : Option Str}
structure KBinds (K : PySem.W.Frag) (fd : FuncData) (ps ks : List Str) (g : List Value → List Value → List Value) (gV : List V → List V → List V) : Prop where
 to : ∀ (s : Shared) (us ws : List Value), K.In s.heap → (g us ws).length = ps.length → BindsTo s fd ⟨us, ks.zip ws⟩ (ps.zip (g us ws))
 rel : ∀ {vs : List V} {us : List Value} {zs : List V} {ws : List Value}, Vals vs us → Vals zs ws → Vals (gV vs zs) (g us ws)
variable {g : List Value → List Value → List Value} {gV : List V → List V → List V}
end
structure FnScope (N P : List Str) (sc : Scope) : Prop where
 kind : sc.kind = .function
 co : sc.isCoroutine = false
 gen : sc.isGenerator = false
 nd : N.Nodup
 pre : N.take P.length = P
 par : ∀ x ∈ P, sc.names.lookup x = some .local ∨ sc.names.lookup x = some .cell
 nofree : ∀ y ∈ sc.names, y.2 ≠ .free
theorem bindL_out {kindOf : Str → Option NameKind} {x : Str} : ∀ {binds : List (Str × Value)} {m : Str → Option Value}, (∀ v, (x, v) ∉ binds) → bindL kindOf binds m x = m x
 | [], _, _ => rfl
 | (n, v) :: r, m, h => by
  unfold bindL
  rw [bindL_out fun w hw => h w (List.mem_cons_of_mem _ hw)]
  split
  ·have : x ≠ n := by rintro rfl; exact h v List.mem_cons_self
   simp [this]
  ·rfl
theorem bindC_out {kindOf : Str → Option NameKind} {x : Str} : ∀ {binds : List (Str × Value)} {m : Str → Option Value}, (∀ v, (x, v) ∉ binds) → bindC kindOf binds m x = m x
 | [], _, _ => rfl
 | (n, v) :: r, m, h => by
  unfold bindC
  rw [bindC_out fun w hw => h w (List.mem_cons_of_mem _ hw)]
  split
  ·rfl
  ·have : x ≠ n := by rintro rfl; exact h v List.mem_cons_self
   simp [this]
theorem bindL_get {kindOf : Str → Option NameKind} {x : Str} {v : Value} : ∀ {P : List Str} {vs : List Value} {i : Nat} {m : Str → Option Value}, P.Nodup → P[i]? = some x → vs[i]? = some v → kindOf x = some .local →
  bindL kindOf (P.zip vs) m x = some v
 | [], _, _, _, _, h, _, _ => by simp at h
 | _ :: _, [], _, _, _, _, h, _ => by simp at h
 | p :: P, w :: vs, 0, m, nd, h1, h2, hk => by
  simp at h1 h2; subst h1; subst h2
  show bindL kindOf ((p, w) :: P.zip vs) m p = _
  unfold bindL
  rw [bindL_out fun v hv => (List.nodup_cons.mp nd).1 (List.of_mem_zip hv).1, if_pos hk]
  simp
 | p :: P, w :: vs, i + 1, m, nd, h1, h2, hk => by
  show bindL kindOf ((p, w) :: P.zip vs) m x = _
  unfold bindL
  exact bindL_get (i := i) (List.nodup_cons.mp nd).2 (by simpa using h1) (by simpa using h2) hk
theorem bindC_get {kindOf : Str → Option NameKind} {x : Str} {v : Value} : ∀ {P : List Str} {vs : List Value} {i : Nat} {m : Str → Option Value}, P.Nodup → P[i]? = some x → vs[i]? = some v → kindOf x ≠ some .local →
  bindC kindOf (P.zip vs) m x = some v
 | [], _, _, _, _, h, _, _ => by simp at h
 | _ :: _, [], _, _, _, _, h, _ => by simp at h
 | p :: P, w :: vs, 0, m, nd, h1, h2, hk => by
  simp at h1 h2; subst h1; subst h2
  show bindC kindOf ((p, w) :: P.zip vs) m p = _
  unfold bindC
  rw [bindC_out fun v hv => (List.nodup_cons.mp nd).1 (List.of_mem_zip hv).1, if_neg hk]
  simp
 | p :: P, w :: vs, i + 1, m, nd, h1, h2, hk => by
  show bindC kindOf ((p, w) :: P.zip vs) m x = _
  unfold bindC
  exact bindC_get (i := i) (List.nodup_cons.mp nd).2 (by simpa using h1) (by simpa using h2) hk
noncomputable def start (N : List Str) (vs : List V) : St := vs.map some ++ List.replicate (N.length - vs.length) none
noncomputable def cxOf (CX : CXT) (P : Program) (w : World) (K : PySem.W.Frag) (mg : Str → Option Value) (base : Heap) (N : List Str) (qual : Str) (scope : Scope) (f : Addr) (cd : Value) (A : Around) (outer : List Env) (s : Shared) (H : Hp) (E : XK) : Cx where
 prog := P
 w := w
 K := K
 mg := mg
 base := base
 A := A.deeper (envOfC qual scope s.heap.objs.size f cd)
 N := N
 s₀ := s
 H₀ := H
 env := envOfC qual scope s.heap.objs.size f cd
 outer := outer
 stack := envOfC qual scope s.heap.objs.size f cd :: outer
 ex := []
 calm := true
 fn := fun _ => true
 pn := []
 xe := fun e s' => wpAny (model P w) (A.deeper (envOfC qual scope s.heap.objs.size f cd)) (leaving (envOfC qual scope s.heap.objs.size f cd) e) (fun _ s'' => CX outer H s E e s'') (fun e' s'' => CX outer H s E e' s'') s'
theorem cell_has {sc : Scope} {n : Nat} {x : Str} (h : sc.names.lookup x = some .cell) : ∃ c, (cellsFrom n sc.names []).lookup x = some c := by
 have q := PySem.W.cellsFrom_some sc.names n [] (.inl h)
 exact Option.isSome_iff_exists.mp q
theorem inv_start {CX : CXT} {P : Program} {w : World} {K : PySem.W.Frag} {mg : Str → Option Value} {base : Heap} {N ps : List Str} {qual : Str} {scope : Scope} {f : Addr} {cd : Value} {A : Around} {outer : List Env} {s s1 : Shared} {H : Hp} {E : XK} {us : List Value} {vs : List V}
  (S : FnScope N ps scope) (hd : A.handled = none) (e0 : Env0 P w K mg base A outer s H) (hl : vs.length = ps.length) (r : Vals vs us)
  (x : InCallC s s.heap.objs.size (bindL (envOfC qual scope s.heap.objs.size f cd).kindOf (ps.zip us) fun _ => none) (cellsFrom (s.heap.objs.size + 1) scope.names []) (bindC (envOfC qual scope s.heap.objs.size f cd).kindOf (ps.zip us) fun _ => none) s1) :
  Inv (cxOf CX P w K mg base N qual scope f cd A outer s H E) [] (start N vs) H s1 := by
 have hpl : ps.length ≤ N.length := by have := congrArg List.length S.pre; rw [List.length_take] at this; omega
 obtain ⟨h1, tk, rfl, hk⟩ := x.done
 have noA : ∀ b : Addr, b ∉ (cxOf CX P w K mg base N qual scope f cd A outer s H E).ex := fun b z => absurd (show b ∈ ([] : List Addr) from z) (by simp)
 refine ⟨⟨e0.mod, S.kind, rfl, rfl, Nat.le_refl _, fun y z c h1 h2 => ?_, fun y hy => ?_, fun y c _ h => ?_, fun _ => hd, Around.frames_deeper e0.frames, .inr ⟨rfl, rfl⟩, fun b z => absurd z (noA b), e0.bs, e0.bsz, fun b _ _ => noA b, fun b z => absurd z (noA b), e0.funs, e0.frf⟩,
  rfl, e0.bare, Un.kept hk, ⟨_, x.toInCall.ns, fun i y v h1 h2 h3 => ?_⟩, fun y c h => ⟨_, x.cell y c h⟩, e0.hok.fresh (Nat.le_refl _), fun y c h => ?_, fun p hp => absurd (show p ∈ ([] : List (Addr × Obj)) from hp) (by simp), e0.hok.kept hk, ?_⟩
 ·exact name_of_addr x.apart (PySem.mem_of_lookup h1) (PySem.mem_of_lookup h2)
 ·have hy : scope.names.lookup y = some .cell ∨ scope.names.lookup y = some .free := hy
  rcases hy with hy | hy
  ·exact cell_has hy
  ·exact absurd rfl (S.nofree _ (PySem.mem_of_lookup hy))
 ·exact Nat.le_of_lt (x.above y c (PySem.mem_of_lookup h))
 ·have hi : i < vs.length := by
   unfold start at h2
   by_cases hi : i < vs.length
   ·exact hi
   ·rw [List.getElem?_append_right (by simpa using hi)] at h2
    rw [List.getElem?_replicate] at h2
    split at h2 <;> cases h2
  have ha : vs[i]? = some v := by
   unfold start at h2
   rw [List.getElem?_append_left (by simpa using hi), List.getElem?_map] at h2
   cases e : vs[i]? with
   | none => rw [e] at h2; cases h2
   | some a => rw [e] at h2; cases h2; rfl
  obtain ⟨u, hu, rv⟩ := r.get ha
  have hp : ps[i]? = some y := by
   rw [← S.pre, List.getElem?_take_of_lt (by omega)]; exact h1
  have ndP : ps.Nodup := by rw [← S.pre]; exact S.nd.sublist (List.take_sublist _ _)
  refine ⟨u, rv, ?_⟩
  rcases S.par y (List.mem_of_getElem? hp) with k | k
  ·exact .inl ⟨k, bindL_get ndP hp hu k⟩
  ·obtain ⟨c, e⟩ := cell_has (n := s.heap.objs.size + 1) k
   refine .inr ⟨.inl k, c, e, ?_⟩
   have q := x.cell y c e
   rw [bindC_get ndP hp hu (by show scope.names.lookup y ≠ _; rw [k]; decide)] at q
   exact q
 ·exact e0.hok.fresh (Nat.le_of_lt (x.above y c (PySem.mem_of_lookup h)))
 ·unfold start
  show _ = N.length
  rw [List.length_append, List.length_map, List.length_replicate]
  omega
theorem fn_of {CX : CXT} {P : Program} {w : World} {K : PySem.W.Frag} {mg : Str → Option Value} {base : Heap} {k : Nat} {f : Addr} {name qual : Str} {params : Arguments} {body : List Stmt} {scope : Scope} {dV kV doc pm cdv ct oc : Value} {an od : Option Addr}
  {osl : Array (Option Value)} {N ps : List Str} {sp : Sp} (lk : K.lookup f = some ⟨oc, od, .func (PySem.W.fnOf name qual params body scope dV kV doc pm an cdv ct), osl⟩) (hcd : PySem.W.codeIn K cdv qual = true) (S : FnScope N ps scope)
  (len : ∀ vs H Q E, sp vs H Q E → vs.length = ps.length)
  (hbody : ∀ (A : Around) (outer : List Env) (s : Shared) (H : Hp) (vs : List V) (Q : VK) (E : XK), Room k (A.deeper (envOfC qual scope s.heap.objs.size f cdv)) → sp vs H Q E →
   ∃ t, PSs (cxOf CX P w K mg base N qual scope f cdv A outer s H E) body t ∧ t { nx := fun _ H' => Q .non H', rt := Q } (start N vs) H) :
  FnOk P w K mg base CX (k + 1) f (PySem.W.fnOf name qual params body scope dV kV doc pm an cdv ct) ps sp := by
 refine ⟨len, fun A outer s H args us vs Q E hr e0 hb r hsp => ?_⟩
 have hl := len _ _ _ _ hsp
 have KX : K.In s.heap := e0.mod.kin.keeps fun b o e => (e0.bs b o e).1
 have lim : s.heap.NoLimit := e0.mod.nolimit.keeps fun b o e => (e0.bs b o e).1
 have hkind : ∀ y ∈ ps.zip us, scope.names.lookup y.1 = some .local ∨ (scope.names.lookup y.1 = some .cell ∧ ((cellsFrom (s.heap.objs.size + 1) scope.names []).lookup y.1).isSome = true) := fun ⟨n, v⟩ hy => by
  rcases S.par n (List.of_mem_zip hy).1 with q | q
  ·exact .inl q
  ·exact .inr ⟨q, PySem.W.cellsFrom_some _ _ _ (.inl q)⟩
 refine codeAny_call_function hr.depth (KX _ _ lk) rfl S.co S.gen rfl (PySem.W.codeRec_of KX hcd) (hb _ _ _ _ ?_)
 refine wpAny_newFunctionEnv_cells S.kind hkind fun env he s1 x => ?_
 subst he
 refine ⟨lim.keeps x.toInCall.keep, codeAny_func ?_⟩
 obtain ⟨t, ht, hq⟩ := hbody A outer s H vs Q E (hr.deeper _) hsp
 have I : Inv (cxOf CX P w K mg base N qual scope f cdv A outer s H E) [] (start N vs) H s1 := inv_start S hr.hd e0 hl r x
 refine wpAny_mono (ht [] s1 (start N vs) H _ I hq) (fun fl s' hs => ?_) fun e s' hs => hs
 have fin : ∀ {σ' : St} {H' : Hp} {v : V} {u : Value}, Inv (cxOf CX P w K mg base N qual scope f cdv A outer s H E) [] σ' H' s' → RelV v u → Q v H' → CE outer P w H s Q u s' :=
  fun {σ' H' v u} J rv q => ⟨v, H', J.os, J.bare, J.base, J.hok, rv, q⟩
 cases fl with
 | ret u =>
  obtain ⟨v, σ', H', J, rv, q⟩ := hs
  exact fin J rv q
 | next =>
  obtain ⟨σ', H', J, q⟩ := hs
  exact fin (v := V.non) (u := Value.none) J rfl q
 | brk =>
  obtain ⟨_, _, _, q⟩ := hs
  exact False.elim q
 | cont =>
  obtain ⟨_, _, _, q⟩ := hs
  exact False.elim q
end L2
namespace L2
open PySem PySem.Spec PyProof.Rows
section
variable {X : Cx} {x : Str} {p pos : Pos} {e : Expr} {es : List Expr} {t : TA} {id T : String} {r : List V → Hp → VK → Prop}
noncomputable def tCB (r : List V → Hp → VK → Prop) (t : TA) : TE := fun σ H Q => t σ H fun vs H1 => r vs H1 Q
theorem pe_callB (hc : CallR X (.builtin id) r) (hg : Gl X x) (hm : X.mg x = none) (hv : bootBuiltins x = some (.builtin id)) (ha : PA X (e :: es) t) (hn : x ≠ "__name__" := by decide) (hdb : (x == ("__debug__" : Str)) = false := by decide)
  (he : starEach (e :: es) X.env = (false, eval e X.env) :: starEach es X.env := by rfl) (hpl : (backTo pos (starEach es X.env)).any (·.1) = false := by rfl) : PE X (.Call (.Name x p) (e :: es) [] pos) (tCB r t) := by
 intro pins s σ H Q I h
 refine wpAny_Call_Name_kw (ld_blt I hg hm hv ?_ hn hdb)
 exact PyProof.Rows.callWith_builtin1 (thn (ha pos pins s σ H _ I h) fun us s1 ⟨vs, H1, I1, r1, q1⟩ => hc pins s1 σ H1 vs us Q I1 r1 q1) he hpl
theorem pe_callTy (hc : CallR X (.type T) r) (hg : Gl X x) (hm : X.mg x = none) (hv : bootBuiltins x = some (.type T)) (ha : PA X (e :: es) t) (hn : x ≠ "__name__" := by decide) (hdb : (x == ("__debug__" : Str)) = false := by decide)
  (he : starEach (e :: es) X.env = (false, eval e X.env) :: starEach es X.env := by rfl) (hpl : (backTo pos (starEach es X.env)).any (·.1) = false := by rfl) : PE X (.Call (.Name x p) (e :: es) [] pos) (tCB r t) := by
 intro pins s σ H Q I h
 refine wpAny_Call_Name_kw (ld_blt I hg hm hv ?_ hn hdb)
 exact PyProof.Rows.callWith_type1 (thn (ha pos pins s σ H _ I h) fun us s1 ⟨vs, H1, I1, r1, q1⟩ => hc pins s1 σ H1 vs us Q I1 r1 q1) he hpl
end
end L2
namespace HT
open PySem PyProof.Rows
section
open PySem.SeqAt
open PySem.AutoSeq1 (wpAny_loadPart')
open PySem.MeetsSeq PySem.MeetsSeq2 PySem.MeetsSeq3
end
section
variable {prog : Program} {w : World} {A : Around} {E : Value → Shared → Prop} {s : Shared}
theorem cat_tup {t b : Addr} {vs ws : List Value} {Q : Value → Shared → Prop} (ht : IsTup s.heap t vs.toArray) (hb : IsTup s.heap b ws.toArray) (hv : vs ≠ [])
  (h1 : ws = [] → Q (.ref t) s) (h2 : ws ≠ [] → Q (.ref s.heap.objs.size) { s with heap := s.heap.push { cls := .type "tuple", data := .seq (vs ++ ws).toArray } })
  (hsz : vs.length + ws.length ≤ sizeLine) : wpAny (model prog w) A (binaryOp .Add (.ref t) (.ref b)) Q E s := by
 obtain ⟨⟨cls, dd, data, sl⟩, ho, hc, n, hd⟩ := id ht
 obtain ⟨⟨cls2, dd2, data2, sl2⟩, ho2, hc2, n2, hd2⟩ := id hb
 simp only at hc hd hc2 hd2
 subst hc hd hc2 hd2
 have e : vs.toArray ++ ws.toArray = (vs ++ ws).toArray := by simp
 by_cases hw : ws = []
 ·exact concat_meets ⟨_, ho, rfl⟩ ⟨_, ho2, rfl⟩ noFill_tuple_add seq_tuple_add PySem.F.slot_tuple_add PySem.F.entry_tuple_add (PySem.F.args_tuple_add_2 _ _)
   (tuple_addW1 t b vs.toArray ws.toArray n n2 dd dd2 sl sl2 (by simpa using hv) (by simp [hw])) ⟨ho, ho2, h1 hw⟩
 ·refine concat_meets ⟨_, ho, rfl⟩ ⟨_, ho2, rfl⟩ noFill_tuple_add seq_tuple_add PySem.F.slot_tuple_add PySem.F.entry_tuple_add (PySem.F.args_tuple_add_2 _ _)
   (tuple_addW2 t b vs.toArray ws.toArray n n2 dd dd2 sl sl2 (by simpa using hv) (by simpa using hw) (by rw [List.size_toArray, List.size_toArray]; exact hsz)) ⟨ho, ho2, ?_⟩
  rw [e]
  exact h2 hw
noncomputable def sIx (n d : Nat) : Option Int → Nat
 | none => d
 | some v => if v < 0 then (v + (n : Int)).toNat else min v.toNat n
theorem sIx_le (n d : Nat) (hd : d ≤ n) (o : Option Int) : sIx n d o ≤ n := by
 cases o with
 | none => exact hd
 | some v =>
  show (if v < 0 then (v + (n : Int)).toNat else min v.toNat n) ≤ n
  by_cases hv : v < 0
  ·rw [if_pos hv]; omega
  ·rw [if_neg hv]; exact Nat.min_le_right _ _
theorem clip_eq (v : Int) (n d : Nat) : (if v < 0 then max (v + (n : Int)) 0 else min v (n : Int)) = ((sIx n d (some v) : Nat) : Int) := by
 show (if v < 0 then max (v + (n : Int)) 0 else min v (n : Int)) = (((if v < 0 then (v + (n : Int)).toNat else min v.toNat n) : Nat) : Int)
 by_cases hv : v < 0
 ·simp only [if_pos hv]; omega
 ·simp only [if_neg hv]; omega
theorem adjust_gen (lo hi : Option Int) (n : Nat) : Builtin.Slice.sliceAdjust lo hi 1 (n : Int) = (((sIx n 0 lo : Nat) : Int), ((sIx n n hi : Nat) : Int)) := by
 have h1 : ¬ ((1 : Int) < 0) := by omega
 unfold Builtin.Slice.sliceAdjust
 simp only [h1, if_false]
 refine Prod.ext ?_ ?_
 ·cases lo with
  | none => rfl
  | some v => exact clip_eq v n 0
 ·cases hi with
  | none => rfl
  | some v => exact clip_eq v n n
theorem places_gen (i j : Nat) : Builtin.Slice.slicePlaces (i : Int) (j : Int) 1 = j - i := by
 unfold Builtin.Slice.slicePlaces
 have h1 : (1 : Int) > 0 := by omega
 simp only [h1, if_true, Int.ediv_one]
 split <;> omega
theorem slicePart_ {v : Value} {o : Option Int} {Q : Option Int → Shared → Prop} (p : IsPart v o) (h : Q o s) : wpAny (model prog w) A (Builtin.Slice.slicePartIndex v) Q E s := by
 cases p with
 | none => exact slicePart_none h
 | int i t => exact slicePart_int h
theorem sliceApplied_gen {sl : Addr} {vl vu : Value} {lo hi : Option Int} {n : Nat} {Q : Int × Int × Nat → Shared → Prop} (hs : s.heap.IsSliceOf sl vl vu .none) (pl : IsPart vl lo) (pu : IsPart vu hi)
  (h : Q (((sIx n 0 lo : Nat) : Int), 1, sIx n n hi - sIx n 0 lo) s) : wpAny (model prog w) A (Builtin.Slice.sliceApplied (.ref sl) (pure (n : Int))) Q E s := by
 obtain ⟨os, hos, hcs, hds⟩ := id hs
 unfold Builtin.Slice.sliceApplied Builtin.Slice.sliceFields
 refine wpAny_bind (wpAny_bind (wpAny_field hos hds (x := vl) rfl (wpAny_bind (wpAny_field hos hds (x := vu) rfl (wpAny_bind (wpAny_field hos hds (x := .none) rfl (wpAny_pure ?_)))))))
 refine wpAny_bind (slicePart_none ?_)
 show wpAny _ _ (if ((1 : Int) == 0) = true then _ else _) _ _ s
 rw [if_neg (by decide)]
 refine wpAny_bind (slicePart_ pl (wpAny_bind (slicePart_ pu (wpAny_bind (wpAny_pure ?_)))))
 show wpAny _ _ (match Builtin.Slice.sliceAdjust lo hi 1 (n : Int) with | (lo, hi) => pure (lo, (1 : Int), Builtin.Slice.slicePlaces lo hi 1)) _ _ s
 rw [adjust_gen lo hi n]
 show wpAny _ _ (pure (((sIx n 0 lo : Nat) : Int), (1 : Int), Builtin.Slice.slicePlaces ((sIx n 0 lo : Nat) : Int) ((sIx n n hi : Nat) : Int) 1)) _ _ s
 rw [places_gen]
 exact wpAny_pure h
theorem pick_gen (xs : Array Value) (i k : Nat) : ((List.range k).filterMap fun (m : Nat) => xs[((i : Int) + (m : Int) * 1).toNat]?).toArray = ((xs.toList.drop i).take k).toArray := by
 have e : (fun (m : Nat) => xs[((i : Int) + (m : Int) * 1).toNat]?) = fun m => xs[i + m]? := by
  funext m
  have : ((i : Int) + (m : Int) * 1).toNat = i + m := by omega
  rw [this]
 rw [e]
 have := pick_run xs i k
 rw [List.filterMap_map] at this
 have e2 : ((fun x => xs[x]?) ∘ fun x => i + x) = fun m => xs[i + m]? := rfl
 rw [e2] at this
 rw [this]
theorem getItem_tuple_cut {t sl : Addr} {items : Array Value} {vl vu : Value} {lo hi : Option Int} {Q : Value → Shared → Prop} (ht : IsTup s.heap t items) (hs : s.heap.IsSliceOf sl vl vu .none) (pl : IsPart vl lo) (pu : IsPart vu hi)
  (hw : ¬ (sIx items.size 0 lo = 0 ∧ sIx items.size items.size hi = items.size))
  (h : Q (.ref s.heap.objs.size) { s with heap := s.heap.push { cls := .type "tuple", data := .seq ((items.toList.drop (sIx items.size 0 lo)).take (sIx items.size items.size hi - sIx items.size 0 lo)).toArray } })
  (hsz : items.size ≤ sizeLine) : wpAny (model prog w) A (getItem (.ref t) (.ref sl)) Q E s := by
 have htake : sizeOk (.seq ((items.toList.drop (sIx items.size 0 lo)).take (sIx items.size items.size hi - sIx items.size 0 lo)).toArray) := by
  show ((items.toList.drop (sIx items.size 0 lo)).take (sIx items.size items.size hi - sIx items.size 0 lo)).toArray.size ≤ sizeLine
  rw [List.size_toArray, List.length_take, List.length_drop, Array.length_toList]
  omega
 have hj : sIx items.size items.size hi ≤ items.size := sIx_le _ _ (Nat.le_refl _) hi
 obtain ⟨os, hos, hcs, hds⟩ := id hs
 have hTs : s.TypeIs (.ref sl) "slice" := ⟨os, hos, hcs⟩
 unfold getItem
 try with_reducible refine wpAny_holding ?_
 first | refine wpAny_bind (wpAny_pure ?_) | skip
 refine wpAny_bind (wpAny_sequenceKey ht.typeIs (by decide) ?_)
 refine wpAny_bind (wpAny_callSpecial?_slot (name := Str.ofString "__getitem__") ht.typeIs PyProof.Rows.slot_tuple_getitem
  (wpAny_call_entry PyProof.Rows.slot_tuple_getitem ht.typeIs entry_tuple_getitem ?_ (args_tuple_getitem _ _)))
 show wpAny _ _ (Builtin.Tuple.tupleItemsOf (.ref t) >>= _) _ _ s
 refine wpAny_bind (tupleItemsOf_ ht ?_)
 refine wpAny_bind (wpAny_typeOf hTs ?_)
 rw [if_pos (by decide)]
 refine wpAny_bind (sliceApplied_gen hs pl pu ?_)
 have hno : ¬ ((((sIx items.size 0 lo : Nat) : Int) == 0 && (1 : Int) == 1 && (sIx items.size items.size hi - sIx items.size 0 lo) == items.size) = true) := by
  intro q
  rw [Bool.and_eq_true, Bool.and_eq_true] at q
  have q1 : ((sIx items.size 0 lo : Nat) : Int) = 0 := eq_of_beq q.1.1
  have q2 : sIx items.size items.size hi - sIx items.size 0 lo = items.size := eq_of_beq q.2
  exact hw ⟨by omega, by omega⟩
 show wpAny _ _ (if (((sIx items.size 0 lo : Nat) : Int) == 0 && (1 : Int) == 1 && (sIx items.size items.size hi - sIx items.size 0 lo) == items.size) = true then _ else _) _ _ s
 rw [if_neg hno, pick_gen]
 first
  | exact wpAny_bind (m := Builtin.Tuple.tupleExact _) (wpAny_newObj_type (wpAny_pure ⟨_, rfl, wpAny_pure h⟩) htake)
  | exact wpAny_bind (m := Builtin.Tuple.tupleExact _) (wpAny_newObj_type (wpAny_bind (wpAny_pure (wpAny_pure ⟨_, rfl, wpAny_pure h⟩))) htake)
  | exact wpAny_bind (wpAny_bind (m := Builtin.Tuple.tupleExact _) (wpAny_newObj_type (wpAny_pure (wpAny_pure ⟨_, rfl, wpAny_pure h⟩)) htake))
  | exact wpAny_bind (wpAny_bind (m := Builtin.Tuple.tupleExact _) (wpAny_newObj_type (wpAny_pure ⟨_, rfl, wpAny_pure h⟩) htake))
end
end HT
namespace L2
open PySem PySem.Spec PyProof.Rows
abbrev TO := St → Hp → (Option Int → Hp → Prop) → Prop
noncomputable def PO (X : Cx) (e : Option Expr) (t : TO) : Prop :=
 ∀ (pins : List (Addr × Obj)) (s : Shared) (σ : St) (H : Hp) (Q : Option Int → Hp → Prop), Inv X pins σ H s → t σ H Q →
  wpAny (model X.prog X.w) X.A (evalPart e X.env) (fun u s' => ∃ o H', Inv X pins σ H' s' ∧ IsPart u o ∧ Q o H') X.xe s
noncomputable def tNoPart : TO := fun _ H Q => Q none H
noncomputable def tPart (t : TE) : TO := fun σ H Q => t σ H fun x H1 => ∃ i, x = .int i ∧ Q (some i) H1
section
variable {X : Cx} {e : Expr} {te : TE} {lo hi : Option Expr} {tl th : TO} {pos p2 : Pos}
theorem po_none : PO X none tNoPart := by
 intro pins s σ H Q I h
 rw [evalPart_none]
 exact wpAny_pure ⟨none, H, I, .none, h⟩
theorem po_some (h : PE X e te) : PO X (some e) (tPart te) := by
 intro pins s σ H Q I hw
 rw [evalPart_some]
 refine thn (h pins s σ H _ I hw) fun u s1 ⟨x, H1, I1, r1, q1⟩ => ?_
 obtain ⟨i, rfl, q⟩ := q1
 obtain ⟨t, rfl⟩ := r1
 exact ⟨some i, H1, I1, .int i t, q⟩
noncomputable def SlR (X : Cx) (r : V → Option Int → Option Int → Hp → VK → Prop) : Prop :=
 ∀ (pins : List (Addr × Obj)) (s : Shared) (σ : St) (H : Hp) (x : V) (v vl vu : Value) (lo hi : Option Int) (sl : Addr) (Q : VK), Inv X pins σ H s → RelV x v → s.heap.IsSliceOf sl vl vu .none → IsPart vl lo → IsPart vu hi → r x lo hi H Q →
  ∃ T id, typeLookup (.type T) "__getitem__" = pure (some (.builtin id)) ∧ s.TypeIs v T ∧ wpAny (model X.prog X.w) X.A (getItem v (.ref sl)) (EP X pins σ Q) X.xe s
noncomputable def tSl (r : V → Option Int → Option Int → Hp → VK → Prop) (te : TE) (tl th : TO) : TE := fun σ H Q => te σ H fun x H1 => tl σ H1 fun l H2 => th σ H2 fun u H3 => r x l u H3 Q
theorem pe_slice {r : V → Option Int → Option Int → Hp → VK → Prop} (hr : SlR X r) (he : PE X e te) (hl : PO X lo tl) (hu : PO X hi th) : PE X (.Subscript e (.Slice lo hi none p2) pos) (tSl r te tl th) := by
 intro pins s σ H Q I h
 refine Subscript_ (thn (he pins s σ H _ I h) fun v s1 ⟨x, H1, I1, r1, q1⟩ => ?_)
 refine wpAny_Slice (thn (hl pins s1 σ H1 _ I1 q1) fun vl s2 ⟨l, H2, I2, pl, q2⟩ => thn (hu pins s2 σ H2 _ I2 q2) fun vu s3 ⟨u, H3, I3, pu, q3⟩ => ?_)
 rw [evalPart_none]
 refine wpAny_pure ?_
 have I4 : Inv X pins σ H3 { s3 with heap := s3.heap.push { cls := .type "slice", data := .fields #[vl, vu, .none] } } := I3.kept (t' := s3.toks) fun b ob q => Heap.get?_push_of_some _ q
 obtain ⟨T, id, hT, ht, hg⟩ := hr pins { s3 with heap := s3.heap.push { cls := .type "slice", data := .fields #[vl, vu, .none] } } σ H3 x v vl vu l u s3.heap.objs.size Q I4 r1 (Heap.IsSliceOf.new ..) pl pu q3
 show wpAny (model X.prog X.w) X.A (subscriptTail e (.Slice lo hi none p2) v (.ref s3.heap.objs.size)) (EP X pins σ Q) X.xe { s3 with heap := s3.heap.push { cls := .type "slice", data := .fields #[vl, vu, .none] } }
 exact tail_any (ops := [.ref s3.heap.objs.size, v]) ht hT hg (by with_unfolding_all rfl)
noncomputable def cutV (xs : List V) (lo hi : Option Int) : List V := (xs.drop (HT.sIx xs.length 0 lo)).take (HT.sIx xs.length xs.length hi - HT.sIx xs.length 0 lo)
theorem cutV_length (xs : List V) (lo hi : Option Int) : (cutV xs lo hi).length ≤ xs.length := by
 unfold cutV
 rw [List.length_take, List.length_drop]
 omega
noncomputable def rSlT (K : PySem.W.Frag) : V → Option Int → Option Int → Hp → VK → Prop := fun x lo hi H Q => ∃ a xs, x = .ref a ∧ SqT K H a xs ∧
 ¬ (HT.sIx xs.length 0 lo = 0 ∧ HT.sIx xs.length xs.length hi = xs.length) ∧ ∀ p, H p = none → Q (.ref p) (upd H p (.tup (cutV xs lo hi)))
theorem sl_tup : SlR X (rSlT X.K) := by
 intro pins s σ H x v vl vu lo hi sl Q I rx hs pl pu h
 obtain ⟨a, xs, rfl, hx, hw, q⟩ := h
 cases rx
 obtain ⟨its, r, ht, hz⟩ := I.tuple hx
 have hlen : its.toArray.size = xs.length := by rw [List.size_toArray]; exact r.length.symm
 refine ⟨"tuple", _, PyProof.Rows.slot_tuple_getitem.lookup, ht.typeIs, ?_⟩
 refine HT.getItem_tuple_cut ht hs pl pu (by rw [hlen]; exact hw) ?_ (by rw [hlen]; exact hz)
 rw [hlen]
 refine ⟨.ref s.heap.objs.size, _, I.laid (t' := s.toks) (o := .tup (cutV xs lo hi)) (fun b ob q => Heap.get?_push_of_some _ q) (Nat.le_refl _) ?_, rfl, q _ (I.hok.fresh (Nat.le_refl _))⟩
 exact ⟨Nat.le_trans (cutV_length xs lo hi) hz, _, (r.drop (HT.sIx xs.length 0 lo)).take (HT.sIx xs.length xs.length hi - HT.sIx xs.length 0 lo), IsTup.new _ _⟩
noncomputable def rCatT (K : PySem.W.Frag) : R2 := fun x y H Q => ∃ a b xs ys, x = .ref a ∧ y = .ref b ∧ SqT K H a xs ∧ SqT K H b ys ∧ xs ≠ [] ∧ xs.length + ys.length ≤ sizeLine ∧
 (ys = [] → Q (.ref a) H) ∧ (ys ≠ [] → ∀ p, H p = none → Q (.ref p) (upd H p (.tup (xs ++ ys))))
theorem Vals.nil_iff {xs : List V} {us : List Value} (r : Vals xs us) : us = [] ↔ xs = [] := by
 cases r with
 | nil => simp
 | cons _ _ => simp
theorem op_catT : OpR X (binaryOp .Add) (rCatT X.K) := by
 intro pins s σ H x y v u Q I rx ry h
 obtain ⟨a, b, xs, ys, rfl, rfl, ha, hb, hx, hz, q1, q2⟩ := h
 cases rx
 cases ry
 obtain ⟨its, r1, p1, _⟩ := I.tuple ha
 obtain ⟨its2, r2, p2, _⟩ := I.tuple hb
 refine HT.cat_tup p1 p2 (fun z => hx (r1.nil_iff.mp z)) (fun z => ⟨.ref a, H, I, rfl, q1 (r2.nil_iff.mp z)⟩) (fun z => ?_) (by rw [← r1.length, ← r2.length]; exact hz)
 refine ⟨.ref s.heap.objs.size, _, I.laid (t' := s.toks) (o := .tup (xs ++ ys)) (fun b ob q => Heap.get?_push_of_some _ q) (Nat.le_refl _) ?_, rfl, q2 (fun w => z (r2.nil_iff.mpr w)) _ (I.hok.fresh (Nat.le_refl _))⟩
 exact ⟨by rw [List.length_append]; exact hz, _, r1.append r2, IsTup.new _ _⟩
end
end L2
namespace L2
open PySem PySem.Spec PyProof.Rows
noncomputable def ixN (n : Nat) (i : Int) : Option Nat := if 0 ≤ i then (if i < n then some i.toNat else none) else if -(n : Int) ≤ i then some (i + n).toNat else none
noncomputable def atI {α : Type} (xs : List α) (i : Int) : Option α := (ixN xs.length i).bind fun j => xs[j]?
theorem ixN_seq {n : Nat} {i : Int} {j : Nat} (h : ixN n i = some j) : seqIndex? i n = some j ∧ j < n ∧ -(n : Int) ≤ i ∧ i < n := by
 unfold ixN at h
 by_cases h0 : 0 ≤ i
 ·rw [if_pos h0] at h
  by_cases h1 : i < n
  ·rw [if_pos h1] at h
   have e : i.toNat = j := Option.some.inj h
   exact ⟨by rw [seqIndex_of h0 h1, e], by omega, by omega, h1⟩
  ·rw [if_neg h1] at h; cases h
 ·rw [if_neg h0] at h
  by_cases h1 : -(n : Int) ≤ i
  ·rw [if_pos h1] at h
   have e : (i + n).toNat = j := Option.some.inj h
   exact ⟨by rw [seqIndex_neg (by omega) h1, e], by omega, h1, by omega⟩
  ·rw [if_neg h1] at h; cases h
theorem atI_get {α : Type} {xs : List α} {i : Int} {v : α} (h : atI xs i = some v) : ∃ j, seqIndex? i xs.length = some j ∧ xs[j]? = some v ∧ j < xs.length ∧ -(xs.length : Int) ≤ i ∧ i < xs.length := by
 unfold atI at h
 cases e : ixN xs.length i with
 | none => rw [e] at h; cases h
 | some j =>
  rw [e] at h
  obtain ⟨h1, h2, h3, h4⟩ := ixN_seq e
  exact ⟨j, h1, h, h2, h3, h4⟩
theorem atI_nat {α : Type} {xs : List α} {j : Nat} {v : α} (h : xs[j]? = some v) : atI xs (j : Int) = some v := by
 have hj : j < xs.length := (List.getElem?_eq_some_iff.mp h).1
 have e : ixN xs.length (j : Int) = some j := by
  unfold ixN
  rw [if_pos (by omega), if_pos (by omega)]; simp
 unfold atI; rw [e]; exact h
noncomputable def PlainIx (b : Expr) : Prop := ∀ o i, subscripted b false o i = operate [o, i] (getItem o i)
noncomputable def IxR (X : Cx) (r : R2) : Prop :=
 ∀ (value slice : Expr) (pins : List (Addr × Obj)) (s : Shared) (σ : St) (H : Hp) (x y : V) (v u : Value) (Q : VK), Inv X pins σ H s → RelV x v → RelV y u → r x y H Q →
  subscripted slice false v u = operate [v, u] (getItem v u) → wpAny (model X.prog X.w) X.A (subscriptTail value slice v u) (EP X pins σ Q) X.xe s
noncomputable def MtR (X : Cx) (id : String) (r : V → List V → Hp → VK → Prop) : Prop :=
 ∀ (pins : List (Addr × Obj)) (s : Shared) (σ : St) (H : Hp) (x : V) (xs : List V) (v : Value) (us : List Value) (Q : VK), Inv X pins σ H s → RelV x v → Vals xs us → r x xs H Q →
  wpAny (model X.prog X.w) X.A (call (.builtin id) (v :: us)) (EP X pins σ Q) X.xe s
section
variable {X : Cx} {a b : Expr} {ta tb : TE} {pos : Pos}
theorem pe_ix {r : R2} (hr : IxR X r) (ha : PE X a ta) (hb : PE X b tb) (hs : PlainIx b) : PE X (.Subscript a b pos) (tOp r ta tb) := by
 intro pins s σ H Q I h
 exact Subscript_ (binT ha hb I h fun v u s2 x y H2 I2 rx ry q => hr a b pins s2 σ H2 x y v u Q I2 rx ry q (hs _ _))
noncomputable def rIxL (K : PySem.W.Frag) : R2 := fun x y H Q => ∃ p xs i v, x = .ref p ∧ y = .int i ∧ SqL K H p xs ∧ atI xs i = some v ∧ Q v H
noncomputable def rIxT (K : PySem.W.Frag) : R2 := fun x y H Q => ∃ p xs i v, x = .ref p ∧ y = .int i ∧ SqT K H p xs ∧ atI xs i = some v ∧ Q v H
noncomputable def rIxS : R2 := fun x y H Q => ∃ z i c, x = .str z ∧ y = .int i ∧ z.length ≤ sizeLine ∧ atI z.cps.toList i = some c ∧ Q (.str ⟨#[c]⟩) H
theorem ix_list : IxR X (rIxL X.K) := by
 intro value slice pins s σ H x y v u Q I rx ry h hs
 obtain ⟨p, xs, i, z, rfl, rfl, hq, he, q⟩ := h
 cases rx
 obtain ⟨t, rfl⟩ := ry
 obtain ⟨its, r, pl, hz⟩ := I.list hq
 obtain ⟨j, h1, h2, h3, h4, h5⟩ := atI_get he
 obtain ⟨w, ew, rw'⟩ := r.get h2
 have hl := r.length
 have hn := line63
 have fin : EP X pins σ Q w s := ⟨z, H, I, rw', q⟩
 by_cases h0 : 0 ≤ i
 ·have hj : i.toNat = j := by
   rw [seqIndex_of h0 h5] at h1
   exact Option.some.inj h1
  exact item_listR pl.isList h0 (by omega) (by rw [hj]; simpa using ew) fin hs
 ·have hj : (i + (its.toArray.size : Int)).toNat = j := by
   rw [seqIndex_neg (by omega) h4] at h1
   rw [List.size_toArray, ← hl]
   exact Option.some.inj h1
  exact subscriptTail_builtinR (x := w) pl.isList.typeIs slot_list_getitem.lookup
   (wpAny_getItem_list_neg (Q := fun r s' => r = w ∧ EP X pins σ Q r s') pl.isList (by omega) (by rw [List.size_toArray] <;> omega) (by omega) (by rw [hj]; simpa using ew) ⟨rfl, fin⟩) hs
theorem ix_tup : IxR X (rIxT X.K) := by
 intro value slice pins s σ H x y v u Q I rx ry h hs
 obtain ⟨p, xs, i, z, rfl, rfl, hq, he, q⟩ := h
 cases rx
 obtain ⟨t, rfl⟩ := ry
 obtain ⟨its, r, pl, hz⟩ := I.tuple hq
 obtain ⟨j, h1, h2, h3, h4, h5⟩ := atI_get he
 obtain ⟨w, ew, rw'⟩ := r.get h2
 have hl := r.length
 have hn := line63
 have fin : EP X pins σ Q w s := ⟨z, H, I, rw', q⟩
 exact subscriptTail_builtinR (x := w) pl.typeIs slot_tuple_getitem.lookup
  (getItem_tuple (j := j) (Q := fun r s' => r = w ∧ EP X pins σ Q r s') pl (by omega) (by omega) (by rw [List.size_toArray, ← hl]; exact h1) (by simpa using ew) ⟨rfl, fin⟩) hs
theorem ix_str : IxR X rIxS := by
 intro value slice pins s σ H x y v u Q I rx ry h hs
 obtain ⟨z, i, c, rfl, rfl, hz, he, q⟩ := h
 obtain ⟨t, rfl⟩ := rx
 obtain ⟨t', rfl⟩ := ry
 obtain ⟨j, h1, h2, h3, h4, h5⟩ := atI_get he
 have hl : z.cps.toList.length = z.length := by simp [Str.length]
 rw [hl] at h1 h4 h5
 have hn := line63
 exact tail_any (typeIs_str s z t) slot_str_getitem.lookup (getItem_str (c := c) (by
  have e1 : decide (i < -(2 ^ 63 : Int)) = false := decide_eq_false (by omega)
  have e2 : decide (i ≥ 2 ^ 63) = false := decide_eq_false (by omega)
  rw [e1, e2, Bool.or_false]) (by rw [h1]; simpa using h2) ⟨.str ⟨#[c]⟩, H, I.tok _, ⟨_, rfl⟩, q⟩) hs
theorem slice_bounds (lo hi : Option Int) (n : Nat) : (sliceBounds lo hi none n).1 = ((HT.sIx n 0 lo : Nat) : Int) ∧ (sliceBounds lo hi none n).2.1 = ((HT.sIx n n hi : Nat) : Int) ∧ (sliceBounds lo hi none n).2.2 = 1 := by
 refine ⟨?_, ?_, rfl⟩
 ·cases lo with
  | none => simp [sliceBounds, HT.sIx]
  | some i =>
   simp only [sliceBounds, HT.sIx, Option.getD_none, show (1 : Int) > 0 by decide, if_true]
   by_cases h : i < 0
   ·simp only [h, if_true] <;> omega
   ·simp only [h, if_false] <;> omega
 ·cases hi with
  | none => simp [sliceBounds, HT.sIx]
  | some i =>
   simp only [sliceBounds, HT.sIx, Option.getD_none, show (1 : Int) > 0 by decide, if_true]
   by_cases h : i < 0
   ·simp only [h, if_true] <;> omega
   ·simp only [h, if_false] <;> omega
theorem slicePick_cut (its : List Value) (lo hi : Option Int) : slicePick its.toArray lo hi none = ((its.drop (HT.sIx its.length 0 lo)).take (HT.sIx its.length its.length hi - HT.sIx its.length 0 lo)).toArray := by
 obtain ⟨h1, h2, h3⟩ := slice_bounds lo hi its.toArray.size
 unfold slicePick
 rw [h1, h2, h3]
 simp only [sliceRange_one, pick_run, List.size_toArray] <;> rfl
noncomputable def rSlL (K : PySem.W.Frag) : V → Option Int → Option Int → Hp → VK → Prop := fun x lo hi H Q => ∃ a xs, x = .ref a ∧ SqL K H a xs ∧ ∀ p, H p = none → Q (.ref p) (upd H p (.lst (cutV xs lo hi)))
theorem sl_list : SlR X (rSlL X.K) := by
 intro pins s σ H x v vl vu lo hi sl Q I rx hs pl pu h
 obtain ⟨a, xs, rfl, hx, q⟩ := h
 cases rx
 obtain ⟨its, r, ht, hz⟩ := I.list hx
 have hlen := r.length
 refine ⟨"list", _, slot_list_getitem.lookup, ht.isList.typeIs, ?_⟩
 refine wpAny_getItem_list_slice ht.isList hs pl pu .none (by simp) ?_ (by rw [List.size_toArray] <;> omega)
 rw [slicePick_cut, ← hlen]
 refine ⟨.ref s.heap.objs.size, _, I.laid (t' := s.toks) (o := .lst (cutV xs lo hi)) (fun b ob q => Heap.get?_push_of_some _ q) (Nat.le_refl _) ?_, rfl, q _ (I.hok.fresh (Nat.le_refl _))⟩
 exact ⟨Nat.le_trans (cutV_length xs lo hi) hz, _, 0, (r.drop (HT.sIx xs.length 0 lo)).take (HT.sIx xs.length xs.length hi - HT.sIx xs.length 0 lo), Heap.get?_push_size _ rfl⟩
noncomputable def flatV : V → Bool
 | .non => true
 | .bl _ => true
 | .int _ => true
 | .str _ => true
 | _ => false
theorem call_len_seq : CallR X (.builtin "len") (fun xs H Q => ∃ p ys, xs = [.ref p] ∧ (SqL X.K H p ys ∨ SqT X.K H p ys) ∧ Q (.int ys.length) H) := by
 intro pins s σ H xs us Q I r h
 obtain ⟨p, ys, rfl, hq, q⟩ := h
 obtain ⟨u, rfl, rx⟩ := vals1 r
 cases rx
 have hn := line63
 rcases hq with hq | hq
 ·obtain ⟨its, r', pl, hz⟩ := I.list hq
  have hlen := r'.length
  exact Calls.call_len_list pl.isList (by simp only [List.size_toArray] <;> omega) ⟨.int ys.length, H, I.tok _, ⟨s.toks + 1, by rw [List.size_toArray, hlen]⟩, q⟩
 ·obtain ⟨its, r', pl, hz⟩ := I.tuple hq
  have hlen := r'.length
  exact len_tuple pl (by simp only [List.size_toArray] <;> omega) ⟨.int ys.length, H, I.tok _, ⟨s.toks + 1, by rw [List.size_toArray, hlen]⟩, q⟩
theorem call_len_str : CallR X (.builtin "len") (fun xs H Q => ∃ z, xs = [.str z] ∧ z.length ≤ sizeLine ∧ Q (.int z.length) H) := by
 intro pins s σ H xs us Q I r h
 obtain ⟨z, rfl, hz, q⟩ := h
 obtain ⟨u, rfl, t, rfl⟩ := vals1 r
 have hn := line63
 exact len_str (by omega) ⟨.int z.length, H, I.tok _, ⟨_, rfl⟩, q⟩
theorem call_list_of : CallR X (.type "list") (fun xs H Q => ∃ p ys, xs = [.ref p] ∧ (SqL X.K H p ys ∨ SqT X.K H p ys) ∧ ∀ l, H l = none → Q (.ref l) (upd H l (.lst ys))) := by
 intro pins s σ H xs us Q I r h
 obtain ⟨p, ys, rfl, hq, q⟩ := h
 obtain ⟨u, rfl, rx⟩ := vals1 r
 cases rx
 have fin : ∀ (its : List Value), Vals ys its → ys.length ≤ sizeLine → ∀ (h' : Heap) (c' : Nat), (∀ b o', s.heap.get? b = some o' → h'.get? b = some o') →
   h'.get? s.heap.objs.size = some { cls := .type "list", dict := none, data := .seq its.toArray c', slots := #[] } → EP X pins σ Q (.ref s.heap.objs.size) { s with heap := h' } := fun its r' hz h' c' kp e =>
  ⟨.ref s.heap.objs.size, _, I.laid (t' := s.toks) kp (Nat.le_refl _) (show ObjOk X.prog X.w _ h' _ (.lst ys) from ⟨hz, its, c', r', e⟩), rfl, q _ (I.hok.fresh (Nat.le_refl _))⟩
 rcases hq with hq | hq
 ·obtain ⟨its, r', pl, hz⟩ := I.list hq
  have hlen := r'.length
  obtain ⟨o, ho, hc, n, hd⟩ := pl.isList
  exact call_list_seq p (.inl rfl) ho hc hd (fun h' c' kp e => fin its r' hz h' c' kp e) (by simp only [List.size_toArray] <;> omega)
 ·obtain ⟨its, r', pl, hz⟩ := I.tuple hq
  have hlen := r'.length
  obtain ⟨o, ho, hc, n, hd⟩ := pl
  exact call_list_seq p (.inr rfl) ho hc hd (fun h' c' kp e => fin its r' hz h' c' kp e) (by simp only [List.size_toArray] <;> omega)
theorem call_tuple_of : CallR X (.type "tuple") (fun xs H Q => ∃ p ys, xs = [.ref p] ∧ ((SqL X.K H p ys ∧ ∀ l, H l = none → Q (.ref l) (upd H l (.tup ys))) ∨ (SqT X.K H p ys ∧ Q (.ref p) H))) := by
 intro pins s σ H xs us Q I r h
 obtain ⟨p, ys, rfl, h⟩ := h
 obtain ⟨u, rfl, rx⟩ := vals1 r
 cases rx
 rcases h with ⟨hq, q⟩ | ⟨hq, q⟩
 ·obtain ⟨its, r', pl, hz⟩ := I.list hq
  have hlen := r'.length
  refine call_tuple_list pl.isList (fun h' kp => ?_) (by simp only [List.size_toArray] <;> omega)
  have I1 : Inv X pins σ H { s with heap := h' } := I.kept (t' := s.toks) kp
  have I2 : Inv X pins σ (upd H h'.objs.size (.tup ys)) { s with heap := h'.push { cls := .type "tuple", data := .seq its.toArray } } :=
   I1.laid (t' := s.toks) (fun b o e => Heap.get?_push_of_some _ e) (Nat.le_refl _) (show ObjOk X.prog X.w _ _ _ (.tup ys) from ⟨hz, its, r', IsTup.new _ _⟩)
  exact ⟨.ref h'.objs.size, _, I2, rfl, q _ (I1.hok.fresh (Nat.le_refl _))⟩
 ·obtain ⟨its, r', pl, hz⟩ := I.tuple hq
  exact call_tuple_same pl ⟨.ref p, H, I, rfl, q⟩
noncomputable def tyV (K : PySem.W.Frag) (T : String) (x : V) (H : Hp) : Prop := match x with
 | .str _ => T = "str"
 | .int _ => T = "int"
 | .ref p => (T = "list" ∧ ∃ xs, SqL K H p xs) ∨ (T = "tuple" ∧ ∃ o, K.lookup p = some o ∧ o.cls = .type "tuple" ∧ o.dict = none) ∨
   (T = "dict" ∧ ((∃ kvs, H p = some (.dK kvs)) ∨ ∃ kvs, H p = some (.dT kvs))) ∨ (T = "set" ∧ ∃ S n, H p = some (.set S n))
 | _ => False
theorem tyV_is {pins : List (Addr × Obj)} {σ : St} {H : Hp} {s : Shared} {T : String} {x : V} {v : Value} (I : Inv X pins σ H s) (r : RelV x v) (ty : tyV X.K T x H) :
  s.TypeIs v T ∧ ∀ a, v = .ref a → ∃ ob, s.heap.get? a = some ob ∧ ob.dict = none := by
 cases x with
 | str z =>
  obtain ⟨t, rfl⟩ := r
  cases (show T = "str" from ty)
  exact ⟨typeIs_str s z t, fun _ e => nomatch e⟩
 | int i =>
  obtain ⟨t, rfl⟩ := r
  cases (show T = "int" from ty)
  exact ⟨typeIs_int s i t, fun _ e => nomatch e⟩
 | ref p =>
  cases r
  rcases ty with ⟨rfl, xs, hq⟩ | ⟨rfl, o, hk, hc, hd⟩ | ⟨rfl, hk⟩ | ⟨rfl, S, n, hk⟩
  ·obtain ⟨its, _, pl, _⟩ := I.list hq
   refine ⟨pl.isList.typeIs, fun a e => ?_⟩
   cases e
   obtain ⟨o, n, e, c, hd, _⟩ := pl
   exact ⟨o, e, hd⟩
  ·refine ⟨⟨o, I.kIn p o hk, hc⟩, fun a e => ?_⟩
   cases e
   exact ⟨o, I.kIn _ o hk, hd⟩
  ·have z : ∃ o, s.heap.get? p = some o ∧ o.ExactDict := by
    rcases hk with ⟨kvs, hk⟩ | ⟨kvs, hk⟩
    ·obtain ⟨_, _, _, _, o, _, _, e, ex, _⟩ := I.hok p _ hk
     exact ⟨o, e, ex⟩
    ·obtain ⟨_, _, _, _, o, _, _, e, ex, _⟩ := I.hok p _ hk
     exact ⟨o, e, ex⟩
   obtain ⟨o, e, ex⟩ := z
   refine ⟨⟨o, e, ex.1⟩, fun a e2 => ?_⟩
   cases e2
   exact ⟨o, e, ex.2.1⟩
  ·obtain ⟨o, _, _, _, e, ex, _⟩ := I.hok p _ hk
   refine ⟨⟨o, e, ex.1⟩, fun a e2 => ?_⟩
   cases e2
   exact ⟨o, e, ex.2.1⟩
 | _ => exact False.elim ty
noncomputable def tBM0 (K : PySem.W.Frag) (T : String) (r : V → List V → Hp → VK → Prop) (to : TE) : TE := fun σ H Q => to σ H fun x H1 => tyV K T x H1 ∧ r x [] H1 Q
noncomputable def tBM (K : PySem.W.Frag) (T : String) (r : V → List V → Hp → VK → Prop) (to : TE) (t : TA) : TE := fun σ H Q => to σ H fun x H1 => tyV K T x H1 ∧ t σ H1 fun xs H2 => r x xs H2 Q
variable {o e : Expr} {es : List Expr} {to : TE} {t : TA} {name : Str} {apos cpos : Pos} {T id : String} {r : V → List V → Hp → VK → Prop}
theorem pe_bm0 (pa : PlainAttrs T) (slot : Slot T name id) (hty : typeOf (.builtin id) = pure (.type "method_descriptor")) (hm : MtR X id r) (ho : PE X o to)
  (hbase : attributeBase o name X.env (eval o X.env) = eval o X.env := by rfl) (hline : (apos.endLine == cpos.line) = true := by rfl) : PE X (.Call (.Attribute o name apos) [] [] cpos) (tBM0 X.K T r to) := by
 intro pins s σ H Q I h
 refine wpAny_Call_method0_late hbase hline (thn (ho pins s σ H _ I h) fun v s1 ⟨x, H1, I1, r1, ty, q1⟩ => ?_)
 obtain ⟨h1, h2⟩ := tyV_is I1 r1 ty
 exact ⟨T, id, pa, slot, hty, h1, h2, Calls.callWith_builtin rfl (PySem.evalArgs_none (hm pins s1 σ H1 x [] v [] Q I1 r1 .nil q1))⟩
theorem pe_bm (pa : PlainAttrs T) (slot : Slot T name id) (hty : typeOf (.builtin id) = pure (.type "method_descriptor")) (hm : MtR X id r) (ho : PE X o to) (ha : PA X (e :: es) t)
  (hbase : attributeBase o name X.env (eval o X.env) = eval o X.env := by rfl)
  (hfew : ((backTo cpos (starEach (e :: es) X.env)).all (fun x => !x.1) && (backToKw cpos (keywordEach [] X.env)).all (fun x => x.1.isSome)
   && decide ((e :: es).length + ([] : List Keyword).length + (if ([] : List Keyword).isEmpty then 0 else 1) < 30)) = true := by rfl)
  (hline : (apos.endLine == cpos.line) = true := by rfl) (hs : starEach (e :: es) X.env = (false, eval e X.env) :: starEach es X.env := by rfl) (hplain : (backTo cpos (starEach es X.env)).any (·.1) = false := by rfl) :
  PE X (.Call (.Attribute o name apos) (e :: es) [] cpos) (tBM X.K T r to t) := by
 intro pins s σ H Q I h
 refine wpAny_Call_method_late hbase hfew hline rfl (thn (ho pins s σ H _ I h) fun v s1 ⟨x, H1, I1, r1, ty, q1⟩ => ?_)
 obtain ⟨h1, h2⟩ := tyV_is I1 r1 ty
 refine ⟨T, id, pa, slot, hty, h1, h2, ?_⟩
 have hA := ha cpos pins s1 σ H1 _ I1 q1
 rw [hs] at hA ⊢
 refine Calls.callWith_builtin (by show (false || (backTo cpos (starEach es X.env)).any (·.1)) = false; rw [hplain] <;> rfl) (Calls.evalArgs_plain ?_)
 exact thn hA fun us s2 ⟨vs, H2, I2, r2, q2⟩ => hm pins s2 σ H2 x vs v us Q I2 r1 r2 q2
end
end L2
namespace L2
open PySem PySem.Spec PyProof.Rows
noncomputable def MtM (X : Cx) (id : String) (r : V → List V → Hp → VK → Prop) : Prop :=
 ∀ (pins : List (Addr × Obj)) (s : Shared) (σ : St) (H : Hp) (x : V) (xs : List V) (v : Value) (us : List Value) (Q : VK), Inv X pins σ H s → RelV x v → Vals xs us → r x xs H Q →
  wpAny (model X.prog X.w) X.A (call (.builtin id) (v :: us)) (EP X pins σ Q) X.xe s
theorem Vals.one : ∀ {x : V} {us : List Value}, Vals [x] us → ∃ u, us = [u] ∧ RelV x u
 | _, _, .cons r .nil => ⟨_, rfl, r⟩
theorem Vals.zero : ∀ {us : List Value}, Vals [] us → us = []
 | _, .nil => rfl
theorem Vals.dropLast {xs : List V} {us : List Value} (h : Vals xs us) : Vals xs.dropLast us.dropLast := by
 induction h with
 | nil => exact .nil
 | cons r t ih =>
  cases t with
  | nil => exact .nil
  | cons q t' => exact .cons r ih
theorem Vals.reverse {xs : List V} {us : List Value} (h : Vals xs us) : Vals xs.reverse us.reverse := by
 induction h with
 | nil => exact .nil
 | cons r t ih => rw [List.reverse_cons, List.reverse_cons]; exact Vals.append ih (.cons r .nil)
theorem Vals.rep {xs : List V} {us : List Value} (h : Vals xs us) : ∀ k : Nat, Vals (List.replicate k xs).flatten (List.replicate k us).flatten
 | 0 => .nil
 | k + 1 => by
  rw [List.replicate_succ, List.replicate_succ, List.flatten_cons, List.flatten_cons]
  exact Vals.append h (Vals.rep h k)
theorem erase_last {α : Type} (l : List α) : l.eraseIdx (l.length - 1) = l.dropLast := by
 induction l with
 | nil => rfl
 | cons a r ih =>
  cases r with
  | nil => rfl
  | cons b r =>
   have e : (a :: b :: r).length - 1 = ((b :: r).length - 1) + 1 := by
    have h1 : (a :: b :: r).length = r.length + 2 := rfl
    have h2 : (b :: r).length = r.length + 1 := rfl
    omega
   rw [e, List.eraseIdx_cons_succ, ih]
   all_goals rfl
theorem foldl_rep (its : List Value) : ∀ (k : Nat) (acc : List Value),
  List.foldl (fun x1 x2 => x1 ++ x2) acc.toArray (List.replicate k its.toArray) = (acc ++ (List.replicate k its).flatten).toArray
 | 0, acc => by simp
 | k + 1, acc => by
  have e : acc.toArray ++ its.toArray = (acc ++ its).toArray := by simp
  have e2 : (acc ++ its) ++ (List.replicate k its).flatten = acc ++ (List.replicate (k + 1) its).flatten := by
   rw [List.replicate_succ, List.flatten_cons, List.append_assoc]
  rw [← e2, ← foldl_rep its k (acc ++ its), ← e, List.replicate_succ, List.foldl_cons]
section
variable {X : Cx} {pins : List (Addr × Obj)} {σ : St} {H : Hp} {s : Shared} {l b : Addr} {xs ys zs : List V}
theorem Inv.lset {its its' : List Value} {n : Nat} {f : Array Value → Array Value} {t' : Nat} (I : Inv X pins σ H s) (hH : H l = some (.lst xs))
  (e : s.heap.get? l = some { cls := .type "list", data := .seq its.toArray n }) (hf : f its.toArray = its'.toArray) (hv : Vals ys its') (hz : ys.length ≤ sizeLine) :
  Inv X pins σ (upd H l (.lst ys)) { s with heap := s.heap.update l (Obj.mapSeq f), toks := t' } := by
 have q := PySem.IsL.update e f
 rw [hf] at q
 refine I.write (x := l) (e := l) (by rw [hH]; exact trivial) (.inl rfl) (fun b' u hb hu => (Heap.get?_update_other s.heap (Obj.mapSeq f) (Ne.symm hb)).trans hu) ⟨_, q⟩ ?_
 exact ⟨hz, its', _, hv, q⟩
theorem Inv.lnew {its : List Value} {t' : Nat} (I : Inv X pins σ H s) (hv : Vals ys its) (hz : ys.length ≤ sizeLine) :
  Inv X pins σ (upd H s.heap.objs.size (.lst ys)) { s with heap := s.heap.push { cls := .type "list", data := .seq its.toArray }, toks := t' } :=
 I.laid (fun _ _ q => Heap.get?_push_of_some _ q) (Nat.le_refl _) ⟨hz, its, 0, hv, Heap.get?_push_size _ rfl⟩
theorem Inv.fresh (I : Inv X pins σ H s) : H s.heap.objs.size = none := I.hok.fresh (Nat.le_refl _)
theorem Inv.lstM (I : Inv X pins σ H s) (hH : H l = some (.lst xs)) : xs.length ≤ sizeLine ∧ ∃ (its : List Value) (n : Nat), Vals xs its ∧ xs.length = its.length ∧ s.heap.get? l = some { cls := .type "list", data := .seq its.toArray n } := by
 obtain ⟨z, its, n, r, e⟩ := I.hok l _ hH
 exact ⟨z, its, n, r, r.length, e⟩
theorem notLongL {n : Nat} (h : n ≤ sizeLine) : Builtin.List.listTooLong n = false := by
 unfold Builtin.List.listTooLong
 exact decide_eq_false (by omega)
end
section
variable {X : Cx}
noncomputable def rAppend : V → List V → Hp → VK → Prop := fun x vs H Q => ∃ l xs y, x = .ref l ∧ vs = [y] ∧ H l = some (.lst xs) ∧ xs.length < sizeLine ∧ Q .non (upd H l (.lst (xs ++ [y])))
theorem mt_append : MtM X "list.append" rAppend := by
 intro pins s σ H x vs v us Q I rx rv h
 obtain ⟨l, xs, y, rfl, rfl, hH, hz, q⟩ := h
 cases rx
 obtain ⟨u, rfl, ru⟩ := rv.one
 obtain ⟨z, its, n, r, hl, e⟩ := I.lstM hH
 refine call_meets F.slot_list_append ⟨_, e, rfl⟩ F.entry_list_append (F.args_list_append_2 _ _) (PySem.list_append l its.toArray n u (by rw [List.size_toArray]; omega)) ⟨e, ?_⟩
 refine ⟨.non, _, I.lset (its' := its ++ [u]) hH e (by simp) (r.append (.cons ru .nil)) ?_, rfl, q⟩
 rw [List.length_append, List.length_singleton]
 omega
noncomputable def rExtend : V → List V → Hp → VK → Prop := fun x vs H Q => ∃ l b xs zs, x = .ref l ∧ vs = [.ref b] ∧ H l = some (.lst xs) ∧ H b = some (.lst zs) ∧ xs.length + zs.length ≤ sizeLine ∧ Q .non (upd H l (.lst (xs ++ zs)))
theorem mt_extend : MtM X "list.extend" rExtend := by
 intro pins s σ H x vs v us Q I rx rv h
 obtain ⟨l, b, xs, zs, rfl, rfl, hH, hB, hz, q⟩ := h
 cases rx
 obtain ⟨u, rfl, ru⟩ := rv.one
 cases ru
 obtain ⟨z, its, n, r, hl, e⟩ := I.lstM hH
 obtain ⟨z2, its2, n2, r2, hl2, e2⟩ := I.lstM hB
 have hsz : its.toArray.size + its2.toArray.size ≤ sizeLine := by rw [List.size_toArray, List.size_toArray]; omega
 have hlong : ¬ (!its.toArray.isEmpty && Builtin.List.listTooLong (its.toArray.size + its2.toArray.size)) = true := by
  rw [notLongL hsz, Bool.and_false]
  exact Bool.false_ne_true
 refine call_meets F.slot_list_extend ⟨_, e, rfl⟩ F.entry_list_extend (F.args_list_extend_2 _ _)
  (AutoSeq1.list_extend_list_list_0 l its.toArray n b its2.toArray n2 hlong (by rw [List.size_toArray]; omega) (by omega)) ⟨e, e2, ?_⟩
 refine ⟨.non, _, I.lset (its' := its ++ its2) hH e (by simp) (r.append r2) ?_, rfl, q⟩
 rw [List.length_append]
 omega
noncomputable def rPop : V → List V → Hp → VK → Prop := fun x vs H Q => ∃ l xs y, x = .ref l ∧ vs = [] ∧ H l = some (.lst xs) ∧ xs[xs.length - 1]? = some y ∧ Q y (upd H l (.lst xs.dropLast))
theorem mt_pop : MtM X "list.pop" rPop := by
 intro pins s σ H x vs v us Q I rx rv h
 obtain ⟨l, xs, y, rfl, rfl, hH, hy, q⟩ := h
 cases rx
 have hus := rv.zero
 subst hus
 obtain ⟨z, its, n, r, hl, e⟩ := I.lstM hH
 obtain ⟨u, hu, ru⟩ := r.get hy
 have hy' : its.toArray[its.toArray.size - 1]? = some u := by
  show its.toArray[its.length - 1]? = some u
  rw [← Array.getElem?_toList, ← hl]
  exact hu
 refine call_meets F.slot_list_pop ⟨_, e, rfl⟩ F.entry_list_pop (F.args_list_pop_1 _) (MeetsSeq.list_pop_last l its.toArray n u hy' (by rw [List.size_toArray]; omega)) ⟨e, ?_⟩
 refine ⟨y, _, I.lset (its' := its.dropLast) hH e ?_ r.dropLast ?_, ru, q⟩
 ·show its.toArray.eraseIdxIfInBounds (its.toArray.size - 1) = its.dropLast.toArray
  rw [List.size_toArray, List.eraseIdxIfInBounds_toArray, erase_last]
 ·rw [List.length_dropLast]
  omega
noncomputable def rCat : R2 := fun x y H Q => ∃ l b xs zs, x = .ref l ∧ y = .ref b ∧ H l = some (.lst xs) ∧ H b = some (.lst zs) ∧ xs.length + zs.length ≤ sizeLine ∧ ∀ p, H p = none → Q (.ref p) (upd H p (.lst (xs ++ zs)))
theorem op_cat : OpR X (binaryOp .Add) rCat := by
 intro pins s σ H x y v u Q I rx ry h
 obtain ⟨l, b, xs, zs, rfl, rfl, hH, hB, hz, q⟩ := h
 cases rx
 cases ry
 obtain ⟨z, its, n, r, hl, e⟩ := I.lstM hH
 obtain ⟨z2, its2, n2, r2, hl2, e2⟩ := I.lstM hB
 refine PySem.P.add_list e e2 ?_ (by rw [List.size_toArray, List.size_toArray]; omega)
 have ea : its.toArray ++ its2.toArray = (its ++ its2).toArray := by simp
 rw [ea]
 exact ⟨.ref _, _, I.lnew (t' := s.toks) (r.append r2) (by rw [List.length_append]; omega), rfl, q _ I.fresh⟩
noncomputable def rRep : R2 := fun x y H Q => ∃ l k xs, x = .ref l ∧ y = .int k ∧ H l = some (.lst xs) ∧ -(2 ^ 63) ≤ k ∧ k < 2 ^ 63 ∧ xs.length * k.toNat ≤ sizeLine ∧
 ∀ p, H p = none → Q (.ref p) (upd H p (.lst (List.replicate k.toNat xs).flatten))
theorem len_rep {α : Type} (xs : List α) (k : Nat) : (List.replicate k xs).flatten.length = k * xs.length := by
 induction k with
 | zero => simp
 | succ k ih => rw [List.replicate_succ, List.flatten_cons, List.length_append, ih, Nat.succ_mul, Nat.add_comm]
theorem op_rep : OpR X (binaryOp .Mult) rRep := by
 intro pins s σ H x y v u Q I rx ry h
 obtain ⟨l, k, xs, rfl, rfl, hH, h1, h2, hz, q⟩ := h
 cases rx
 obtain ⟨t, rfl⟩ := ry
 obtain ⟨z, its, n, r, hl, e⟩ := I.lstM hH
 have hlen : its.toArray.size * k.toNat ≤ sizeLine := by rw [List.size_toArray, ← hl]; exact hz
 have hcap : ¬ its.toArray.size * k.toNat > (2 ^ 63 - 1) / 8 := by
  have : (sizeLine : Nat) ≤ (2 ^ 63 - 1) / 8 := by decide
  omega
 have hfit : ¬ (!Builtin.List.listFitsIndex k) = true := by
  rw [fitsIndex_both h1 h2]
  exact Bool.false_ne_true
 have hlong : ¬ Builtin.List.listTooLong (its.toArray.size * k.toNat) = true := by
  rw [notLongL hlen]
  exact Bool.false_ne_true
 have hnew : List.foldl (fun x1 x2 => x1 ++ x2) #[] (List.replicate (if its.toArray.isEmpty = true then 0 else k.toNat) its.toArray) = (List.replicate k.toNat its).flatten.toArray := by
  have f0 : ∀ m : Nat, List.foldl (fun x1 x2 => x1 ++ x2) #[] (List.replicate m its.toArray) = (List.replicate m its).flatten.toArray := fun m => by
   have := foldl_rep its m []
   rw [List.nil_append] at this
   exact this
  rw [f0]
  cases its with
  | nil => simp
  | cons a r' => rw [if_neg (by simp)]
 refine wpAny_binaryOp_repeat_ref (T := "list") (U := "int") (by decide) ⟨_, e, rfl⟩ (fun s' => typeIs_int s' k t) noFill_list_mul F.fills_int_mul F.slot_int_rmul repeat_list F.slot_int_index.lookup
  (call_meets F.slot_int_rmul (typeIs_int s k t) F.entry_int_rmul (F.args_int_rmul_2 _ _) (int___rmul___int_list k t l its.toArray n)
   ⟨e, rfl, ⟨_, e, rfl⟩, call_meets F.slot_list_mul ⟨_, e, rfl⟩ F.entry_list_mul (F.args_list_mul_2 _ _) (AutoListH.list___mul___list_int_3 l its.toArray n k t hfit hcap hlong) ⟨e, ?_⟩⟩)
 rw [hnew]
 exact ⟨.ref _, _, I.lnew (t' := s.toks) (r.rep k.toNat) (by rw [len_rep, Nat.mul_comm]; exact hz), rfl, q _ I.fresh⟩
end
section
variable {prog : Program} {w : World} {A : Around} {E : Value → Shared → Prop} {s : Shared}
end
section
variable {X : Cx}
end
end L2
namespace Att
open PySem PySem.W PySem.Calls PyProof.Rows
theorem ints_of_wellAll {P : Params} {h : Heap} : ∀ (ns : List Int) (vs : List Value), WellAll P h vs (ns.map WData.int) → IntsAre vs ns := by
 intro ns
 induction ns with
 | nil =>
  intro vs w
  rw [List.map_nil] at w
  cases w
  exact .nil
 | cons n ns ih =>
  intro vs w
  rw [List.map_cons] at w
  cases w with
  | cons a b =>
   cases a
   exact .cons _ _ (ih _ b)
theorem script_of {l : OpenLaw} {n : Nat} (hn : l.most = some n) {P : Params} {h : Heap} {args : List WData} {vals : List Value}
  (hpre : l.row.toRowW.claim.pre args = true) (hwl : WellAll P h vals args) :
  ∃ a vs ns, vals = [Value.ref a] ∧ args = [WData.list (ns.map WData.int)] ∧ h.get? a = some { cls := .type "list", data := .seq vs.toArray } ∧ IntsAre vs ns ∧ ns.length ≤ n := by
 have hsh : WShape.hasAll [] args [.list .int] = true := (pre_splitW hpre).1
 have hc : l.pre.holds [] { args := args } = true := (pre_splitW hpre).2
 obtain ⟨d, r, rfl, h1, h2⟩ := hasAllW_cons hsh
 obtain rfl := hasAllW_nil h2
 obtain ⟨xs, rfl, h3⟩ := hasW_list h1
 obtain ⟨ns, rfl⟩ := items_int h3
 have hlen : ns.length ≤ n := by
  unfold OpenLaw.pre at hc
  have h4 : (WTm.not (.lt (.lit (.int (n : Int))) (.len (.arg 0)))).holds [] { args := [.list (ns.map .int)] } = true := by
   have h4 := (holds_andW hc).1
   rw [hn] at h4
   exact h4
  have h5 := condW_of h4 (w_not (w_lt w_lit (w_len_list (w_arg rfl))))
  rw [List.length_map] at h5
  refine Nat.le_of_not_lt fun q => ?_
  have q' : (n : Int) < ((ns.length : Nat) : Int) := by omega
  first
   | (rw [decide_eq_true q'] at h5; exact absurd h5 (by decide))
   | (simp at h5; omega)
 cases hwl with
 | cons w1 w2 =>
  cases w2
  cases w1 with
  | list ho hall => exact ⟨_, _, ns, rfl, rfl, ho, ints_of_wellAll ns _ hall, hlen⟩
theorem post_true (l : OpenLaw) (args : List WData) : l.row.toRowW.claim.post args (.bool true) args = true :=
 postW_of (r := l.row.toRowW) (X := (true == true))
  (show WShape.has [] (.bool true) .bool = true by first | rfl | decide | simp [WShape.has, WShape.arms, WShape.armsAll])
  (show (WTm.eq .res (.lit (.bool true))).value [] { args := args, res := some (.bool true), after := args } = some (.bool (true == true)) from w_eq_bool (w_res rfl) w_lit) rfl
theorem attach_call {l : OpenLaw} {n : Nat} {q : Program} {loose : List Str} {XP : (Str → Option Value) → Heap → Prop} {YP : World → Heap → Prop} {d : DefRec}
  (hn : l.most = some n) (hdf : d.params.defaults = [])
  (call : ∀ (w : World) (s₀ s₁ : Shared) (mg mb : Str → Option Value) (fa : Addr) (o : Obj) (pm cd doc : Value) (a : Addr) (vs : List Value) (ns : List Int),
   Ground q loose [] XP w s₀ mg mb s₁.heap → YP w s₁.heap →
   s₁.heap.get? fa = some o → o.data = .func (docDef d.name d.params d.body d.scope pm cd doc) → s₁.heap.CodeRec cd d.name → mg d.name = some (.ref fa) →
   s₁.heap.get? a = some { cls := .type "list", data := .seq vs.toArray } → IntsAre vs ns → ns.length ≤ n → s₁.gens = #[] →
   codeAny (model l.prog w) callerA (.call (.ref fa) ⟨[.ref a], []⟩) (fun r s' => r = .ok (.ret (.bool true)) ∧ OldK s₁.heap s'.heap ∧ s'.os = s₁.os ∧ AllBare s'.gens) s₁) :
  WalkO q loose XP YP l.row.toRowW d [] (fun f vs => PySem.call f vs) := by
 intro w s₀ s₁ mg mb G Y fa o pm cd doc dV kV ho hd hcd hD hmg hg args vals as hpre hlay hrd hwl hlo
 obtain rfl : dV = .none := Dflts.none hD hdf
 obtain rfl : kV = .none := Dflts.noKw hD
 obtain ⟨a, vs, ns, rfl, rfl, hobj, hints, hlen⟩ := script_of hn hpre hwl
 refine enter_call (codeAny_mono (call w s₀ s₁ mg mb fa o pm cd doc a vs ns G Y ho (fd_plain hd) hcd hmg hobj hints hlen hg) fun r s' hq => ?_)
 obtain ⟨rfl, h2, h3, h4⟩ := hq
 exact ⟨.inl ⟨.bool true, .bool true, [], rfl, fun _ => rfl, .bool true, post_true l _, fun _ => ⟨List.Pairwise.nil, fun _ hm => (nomatch hm)⟩⟩, h2, h3, h4⟩
section
variable {prog : Program} {w : World} {A : Around} {E : Value → Shared → Prop} {s : Shared} {K : Frag}
end
end Att
namespace L2
open PySem PySem.Spec PyProof.Rows
theorem vals_ints : ∀ {vs : List Value} {ns : List Int}, IntsAre vs ns → Vals (ns.map V.int) vs
 | _, _, .nil => .nil
 | _, _, .cons n t h => .cons ⟨t, rfl⟩ (vals_ints h)
noncomputable def Only (H : Hp) : Prop := ∀ b, H b = none ∨ ∃ o xs, H b = some (.frz o (.lst xs))
theorem law_call {P : Program} {w : World} {K : PySem.W.Frag} {mg mb : Str → Option Value} {CX : CXT} {k : Nat} {fa a : Addr} {fd : FuncData} {x : Str} {sp : Sp} {s₁ : Shared} {vs : List Value} {ns : List Int}
  (KX : K.In s₁.heap) (hns : s₁.heap.Ns mainGlobals mg) (hb : s₁.heap.Ns builtinsNs mb) (hbb : ∀ x : Str, x ≠ "__name__" → mb x = bootBuiltins x) (hlim : s₁.heap.NoLimit) (hg : s₁.gens = #[])
  (ha : s₁.heap.get? a = some { cls := .type "list", data := .seq vs.toArray }) (hi : IntsAre vs ns) (hl : ns.length ≤ sizeLine) (hr : Room k callerA)
  (F : ∀ base : Heap, K.In base → base.Ns mainGlobals mg → FnOk P w K mg base CX k fa fd [x] sp) (hbind : ∀ (s : Shared) (u : Value), BindsTo s fd ⟨[u], []⟩ [(x, u)])
  (hsp : ∀ H : Hp, Only H → SqL K H a (ns.map V.int) → sp [.ref a] H (fun v _ => v = .bl true) fun _ _ _ => False)
  (hCX : ∀ H e s', CX [] H s₁ (fun _ _ _ => False) e s' → False) :
  codeAny (model P w) callerA (.call (.ref fa) ⟨[.ref a], []⟩) (fun r s' => r = .ok (.ret (.bool true)) ∧ OldK s₁.heap s'.heap ∧ s'.os = s₁.os ∧ AllBare s'.gens) s₁ := by
 have rv := vals_ints hi
 have lenV := hi.length
 have core : ∀ H : Hp, Only H → SqL K H a (ns.map V.int) → HOk P w H s₁.heap → (∀ b, H b ≠ none → b = a) → (H a ≠ none → K.lookup a = none) →
   codeAny (model P w) callerA (.call (.ref fa) ⟨[.ref a], []⟩) (fun r s' => r = .ok (.ret (.bool true)) ∧ OldK s₁.heap s'.heap ∧ s'.os = s₁.os ∧ AllBare s'.gens) s₁ := by
  intro H hO hS hok hA hK
  have base_of : ∀ {b : Addr} {o : Obj}, s₁.heap.get? b = some o → H b = none → (hidT s₁.heap H).get? b = some o := fun e n => hidT_get e n
  have noA : ∀ {b : Addr} {o : Obj} {es : Array DictEntry} {ep : Nat}, s₁.heap.get? b = some o → o.data = .dict es ep → H b = none := fun {b o es ep} e d => by
   cases q : H b with
   | none => rfl
   | some u =>
    have e' : b = a := hA b (by rw [q]; simp)
    subst e'
    rw [ha] at e; cases e
    have d' : Data.seq vs.toArray _ = Data.dict es ep := d
    cases d'
  have nsK : ∀ {b : Addr} {m : Str → Option Value}, s₁.heap.Ns b m → (hidT s₁.heap H).Ns b m := fun {b m} ⟨o, es, ep, e, d, r⟩ => ⟨o, es, ep, base_of e (noA e d), d, r⟩
  have hKb : K.In (hidT s₁.heap H) := fun b o e => base_of (KX b o e) (by
   cases q : H b with
   | none => rfl
   | some u =>
    have e' : b = a := hA b (by rw [q]; simp)
    subst e'
    rw [hK (by rw [q]; simp)] at e; cases e)
  have hM : Mod K mg (hidT s₁.heap H) := ⟨hKb, nsK hns, ⟨mb, nsK hb, hbb⟩, let ⟨mc, h1, h2⟩ := hlim; ⟨mc, nsK h1, h2⟩⟩
  have e0 : Env0 P w K mg (hidT s₁.heap H) callerA [] s₁ H := ⟨rfl, hM, fun b o e => of_hidT e, Nat.le_of_eq (hidT_size _ _), trivial, fun b hb => absurd (show b ∈ ([] : List Addr) from hb) (by simp), hok, .of_eq hg⟩
  refine codeAny_mono ((F _ hKb (nsK hns)).run callerA [] s₁ H ⟨[.ref a], []⟩ [.ref a] [.ref a] _ _ hr e0 (hbind s₁ (.ref a)) (.cons rfl .nil) (hsp H hO hS)) fun r s' h => ?_
  cases r with
  | error e => exact (hCX H e s' h).elim
  | ok fl =>
   cases fl with
   | next => exact False.elim h
   | brk => exact False.elim h
   | cont => exact False.elim h
   | ret u =>
    obtain ⟨v, H', os, bare, un, hok', r', q⟩ := h
    have q' : v = .bl true := q
    subst q'
    obtain rfl : u = Value.bool true := r'
    refine ⟨rfl, OldK.of_keep fun b o e => ?_, os, bare⟩
    cases q : H b with
    | none => exact un.keep b o e q (by intro z; exact absurd (show b ∈ ([] : List Addr) from z) (by simp)) (by simp)
    | some u =>
     rcases hO b with z | ⟨ob, xs, z⟩
     ·rw [q] at z; cases z
     ·have z2 := un.frzs b ob _ z
      obtain ⟨e1, _⟩ := hok b _ z
      obtain ⟨e2, _⟩ := hok' b _ z2
      rw [e] at e1; cases e1
      exact e2
 cases hk : K.lookup a with
 | some o =>
  have e := KX a o hk
  rw [ha] at e
  cases e
  refine core (fun _ => none) (fun _ => .inl rfl) (.inr ⟨_, vs.toArray, _, hk, rfl, rfl, rfl, by rw [List.size_toArray, lenV]; exact hl, by simpa using rv⟩) (fun b u z => by have z' : (none : Option HO) = some u := z; cases z') (fun b z => absurd rfl z) fun z => absurd rfl z
 | none =>
  refine core (fun b => if b = a then some (.frz { cls := .type "list", data := .seq vs.toArray } (.lst (ns.map V.int))) else none) (fun b => ?_) (.inl (.inr ⟨{ cls := .type "list", data := .seq vs.toArray }, if_pos rfl⟩)) (fun b u z => ?_) (fun b z => ?_) fun _ => hk
  ·by_cases hb : b = a
   ·exact .inr ⟨_, _, if_pos hb⟩
   ·exact .inl (if_neg hb)
  ·by_cases hb : b = a
   ·have z' := (if_pos hb).symm.trans z
    cases z'
    subst hb
    exact ⟨ha, by rw [List.length_map]; exact hl, vs, _, rv, ha⟩
   ·have z' := (if_neg hb).symm.trans z
    cases z'
  ·by_cases hb : b = a
   ·exact hb
   ·exact absurd (if_neg hb) z
end L2
namespace L2
open PySem PySem.Spec PyProof.Rows
theorem walk_of {l : PySem.W.OpenLaw} {n k : Nat} {q : Program} {loose : List Str} {XP : (Str → Option Value) → Heap → Prop} {YP : World → Heap → Prop} {d : DefRec} {K : Params → PySem.W.Frag} {CX : World → CXT} {sp : World → Sp} {x : Str}
  (hn : l.most = some n) (hn2 : n ≤ sizeLine) (hdf : d.params.defaults = []) (hr : Room k callerA)
  (hY : ∀ (w : World) (h : Heap), YP w h → (K w.params).In h)
  (F : ∀ (w : World) (mg : Str → Option Value) (fa : Addr) (h : Heap), (K w.params).In h → h.Ns mainGlobals mg → mg d.name = some (.ref fa) →
   ∃ fd : FuncData, (∀ (s : Shared) (u : Value), BindsTo s fd ⟨[u], []⟩ [(x, u)]) ∧
    ∀ base : Heap, (K w.params).In base → base.Ns mainGlobals mg → FnOk l.prog w (K w.params) mg base (CX w) k fa fd [x] (sp w))
  (hsp : ∀ (w : World) (H : Hp) (a : Addr) (ns : List Int), ns.length ≤ n → Only H → SqL (K w.params) H a (ns.map V.int) → sp w [.ref a] H (fun v _ => v = .bl true) fun _ _ _ => False)
  (hCX : ∀ (w : World) (H : Hp) (s : Shared) (e : Value) (s' : Shared), CX w [] H s (fun _ _ _ => False) e s' → False) :
  PySem.W.WalkO q loose XP YP l.row.toRowW d [] (fun f vs => PySem.call f vs) := by
 refine Att.attach_call hn hdf fun w s₀ s₁ mg mb fa o pm cd doc a vs ns G Y ho hd hcd hmg hobj hints hlen hg => ?_
 have KX := hY w _ Y
 obtain ⟨fd, hb, hF⟩ := F w mg fa _ KX G.T.g hmg
 exact law_call KX G.T.g G.T.b G.T.builtins G.T.nolimit hg hobj hints (Nat.le_trans hlen hn2) hr hF hb (fun H hO hS => hsp w H a ns hlen hO hS) fun H e s' => hCX w H s₁ e s'
theorem walk_ofK {l : PySem.W.OpenLaw} {n k : Nat} {q : Program} {loose : List Str} {XP : (Str → Option Value) → Heap → Prop} {YP : World → Heap → Prop} {d : DefRec} {K : Params → PySem.W.Frag} {CX : CXT} {sp : PySem.W.Frag → Sp} {x : Str}
  (hn : l.most = some n) (hn2 : n ≤ sizeLine) (hdf : d.params.defaults = []) (hr : Room k callerA)
  (hY : ∀ (w : World) (h : Heap), YP w h → (K w.params).In h)
  (F : ∀ (w : World) (mg : Str → Option Value) (fa : Addr) (h : Heap), (K w.params).In h → h.Ns mainGlobals mg → mg d.name = some (.ref fa) →
   ∃ fd : FuncData, (∀ (s : Shared) (u : Value), BindsTo s fd ⟨[u], []⟩ [(x, u)]) ∧
    ∀ base : Heap, (K w.params).In base → base.Ns mainGlobals mg → FnOk l.prog w (K w.params) mg base CX k fa fd [x] (sp (K w.params)))
  (hsp : ∀ (K : PySem.W.Frag) (H : Hp) (a : Addr) (ns : List Int), ns.length ≤ n → Only H → SqL K H a (ns.map V.int) → sp K [.ref a] H (fun v _ => v = .bl true) fun _ _ _ => False)
  (hCX : ∀ (H : Hp) (s : Shared) (e : Value) (s' : Shared), CX [] H s (fun _ _ _ => False) e s' → False) :
  PySem.W.WalkO q loose XP YP l.row.toRowW d [] (fun f vs => PySem.call f vs) :=
 walk_of (K := K) (CX := fun _ => CX) (sp := fun w => sp (K w.params)) hn hn2 hdf hr hY F (fun w H a ns h1 h2 h3 => hsp (K w.params) H a ns h1 h2 h3) fun _ H s e s' => hCX H s e s'
end L2
namespace L2
open PySem PySem.Spec PyProof.Rows
noncomputable def defArgs (s : Stmt) : Arguments := match s with
 | .FunctionDef _ a _ _ _ _ _ _ _ _ => a
 | _ => { posonlyargs := [], args := [], vararg := none, kwonlyargs := [], kw_defaults := [], kwarg := none, defaults := [] }
noncomputable def defBody (s : Stmt) : List Stmt := match s with
 | .FunctionDef _ _ b _ _ _ _ _ _ _ => b
 | _ => []
noncomputable def defScope (s : Stmt) : Scope := match s with
 | .FunctionDef _ _ _ _ _ _ sc _ _ _ => sc
 | _ => { kind := .function, names := [], isGenerator := false, isCoroutine := false }
abbrev CX0 : CXT := fun _ _ _ _ _ _ => False
abbrev E0 : XK := fun _ _ _ => False
theorem pass0 {X : Cx} : Passes CX0 X E0 := fun _ _ _ _ _ _ _ h => h.elim
structure Fun (K : PySem.W.Frag) (x qual : Str) (st : Stmt) (f : Addr) (fd : FuncData) : Prop where
 ex : ∃ (oc : Value) (od : Option Addr) (kV doc pm : Value) (an : Option Addr) (cdv ct : Value) (osl : Array (Option Value)),
  fd = PySem.W.fnOf x qual (defArgs st) (defBody st) (defScope st) .none kV doc pm an cdv ct ∧ K.lookup f = some ⟨oc, od, .func fd, osl⟩ ∧ PySem.W.codeIn K cdv qual = true
 kp : PySem.W.keepIn K (.ref f) = true
section
variable {P : Program} {w : World} {K : PySem.W.Frag} {mg : Str → Option Value} {base : Heap}
theorem Fun.ok {x qual : Str} {st : Stmt} {f : Addr} {fd : FuncData} {N ps : List Str} {k : Nat} {sp : Sp} (F : Fun K x qual st f fd) (S : FnScope N ps (defScope st)) (len : ∀ vs H Q E, sp vs H Q E → vs.length = ps.length)
  (hbody : ∀ (cdv : Value) (A : Around) (outer : List Env) (s : Shared) (H : Hp) (vs : List V) (Q : VK) (E : XK), Room k (A.deeper (envOfC qual (defScope st) s.heap.objs.size f cdv)) → sp vs H Q E →
   ∃ t, PSs (cxOf CX0 P w K mg base N qual (defScope st) f cdv A outer s H E).nox (defBody st) t ∧ t { nx := fun _ H' => Q .non H', rt := Q } (start N vs) H) : FnOk P w K mg base CX0 (k + 1) f fd ps sp := by
 obtain ⟨oc, od, kV, doc, pm, an, cdv, ct, osl, rfl, lk, hcd⟩ := F.ex
 refine fn_of lk hcd S len fun A outer s H vs Q E hr hsp => ?_
 obtain ⟨t, h, q⟩ := hbody cdv A outer s H vs Q E hr hsp
 exact ⟨t, h.nox, q⟩
theorem Fun.binds {x qual : Str} {st : Stmt} {f : Addr} {fd : FuncData} {ps : List Str} (F : Fun K x qual st f fd)
  (h : ∀ (kV doc pm : Value) (an : Option Addr) (cdv ct : Value) (us : List Value), us.length = ps.length → bindArgs (PySem.W.fnOf x qual (defArgs st) (defBody st) (defScope st) .none kV doc pm an cdv ct) ⟨us, []⟩ = pure (ps.zip us)) : Binds K fd ps [] := by
 obtain ⟨oc, od, kV, doc, pm, an, cdv, ct, osl, rfl, lk, hcd⟩ := F.ex
 exact .all (h kV doc pm an cdv ct)
theorem fun_mk {x qual : Str} {st : Stmt} {f : Addr} {oc : Value} {od an : Option Addr} {osl : Array (Option Value)} {kV doc pm cdv ct : Value} (l : K.lookup f = some ⟨oc, od, .func (PySem.W.fnOf x qual (defArgs st) (defBody st) (defScope st) .none kV doc pm an cdv ct), osl⟩)
  (c : PySem.W.codeIn K cdv qual = true) (k : PySem.W.keepIn K (.ref f) = true) : Fun K x qual st f (PySem.W.fnOf x qual (defArgs st) (defBody st) (defScope st) .none kV doc pm an cdv ct) := ⟨⟨oc, od, kV, doc, pm, an, cdv, ct, osl, rfl, l, c⟩, k⟩
end
section
variable {X : Cx}
theorem pv (i : Nat) {x : Str} {pos : Pos} (hN : X.N[i]? = some x := by rfl) (hv : Vis X.env.scope x := by first | exact Or.inl rfl | exact Or.inr (Or.inl rfl) | exact Or.inr (Or.inr rfl)) (hd : (x == ("__debug__" : Str)) = false := by decide)
  (hcd : (x == ("__classdict__" : Str)) = false := by decide) : PE X (.Name x pos) (tVar i) := pe_var hN hv hd hcd
end
end L2
namespace Ev
inductive D where
 | non | bl (b : Bool) | int (i : Int) | str (s : List Nat) | tup (ds : List D) | ref (n : Nat)
inductive O where
 | lst (ds : List D) | frz (ds : List D)
abbrev Hh := List O
abbrev Fr := List (Option D)
inductive R (α : Type) where
 | ok (a : α) (h : Hh)
 | bad
noncomputable def R.bind {α β : Type} (r : R α) (f : α → Hh → R β) : R β :=
 match r with
 | .ok a h => f a h
 | .bad => .bad
@[simp] theorem bind_ok {α β : Type} (a : α) (h : Hh) (f : α → Hh → R β) : (R.ok a h).bind f = f a h := rfl
@[simp] theorem bind_bad {α β : Type} (f : α → Hh → R β) : (R.bad : R α).bind f = .bad := rfl
theorem bind_eq_ok {α β : Type} {r : R α} {f : α → Hh → R β} {b : β} {h : Hh} (e : r.bind f = .ok b h) : ∃ a h1, r = .ok a h1 ∧ f a h1 = .ok b h := by
 cases r with
 | ok a h1 => exact ⟨a, h1, rfl, e⟩
 | bad => cases e
noncomputable def R.of {α : Type} (o : Option α) (h : Hh) : R α := match o with
 | some a => .ok a h
 | none => .bad
@[simp] theorem of_some {α : Type} (a : α) (h : Hh) : R.of (some a) h = .ok a h := rfl
@[simp] theorem of_none {α : Type} (h : Hh) : R.of (none : Option α) h = .bad := rfl
theorem of_eq_ok {α : Type} {o : Option α} {h h' : Hh} {a : α} (e : R.of o h = .ok a h') : o = some a ∧ h' = h := by
 cases o with
 | none => cases e
 | some b => cases e; exact ⟨rfl, rfl⟩
inductive BOp where
 | add | sub | mul | fdiv | mod
inductive COp where
 | eq | ne | lt | gt
inductive TY where
 | int | bool | str | tuple | list
inductive BI where
 | len | sum | min
inductive ME where
 | join | append | extend | pop
inductive T where
 | one (i : Nat) | many (l : List Nat)
mutual
inductive E where
 | c (d : D) | v (i : Nat) | tup (es : Es) | lst (es : Es)
 | bin (o : BOp) (a b : E) | cmp (o : COp) (a b : E)
 | nt (a : E) | neg (a : E) | an (a b : E) | orr (a b : E) | ife (t a b : E)
 | ix (a b : E) | sl (a : E) (lo hi : Eo)
 | cl (f : Nat) (es : Es) | bi (b : BI) (es : Es) | me (m : ME) (o : E) (es : Es)
 | comp (elt : E) (t : T) (it : It) (cond : Eo)
 | lof (it : It)
 | dget (kvs : List (D × D)) (a : E) | ttp (a : E)
inductive Es where
 | nil | cons (e : E) (es : Es)
inductive Eo where
 | no | yes (e : E)
inductive It where
 | seq (e : E) | rng (es : Es)
 | enum (a : E) | rev (a : E)
end
mutual
inductive S where
 | set (i : Nat) (e : E) | setT (l : List Nat) (e : E)
 | exp (e : E) | ret (e : E) | iff (t : E) (a b : Ss) | for (t : T) (it : It) (b : Ss) | whl (t : E) (b : Ss)
 | nev
inductive Ss where
 | nil | cons (s : S) (ss : Ss)
end
inductive Fl where
 | nx | bk | ct | ret (d : D)
noncomputable def big : Nat := 16777216
noncomputable def eqL (f : D → D → Option Bool) : List D → List D → Option Bool
 | [], [] => some true
 | x :: xs, y :: ys => do
  let b ← f x y
  let c ← eqL f xs ys
  pure (b && c)
 | _, _ => some false
noncomputable def lstOf (h : Hh) (n : Nat) : Option (List D) := match h[n]? with
 | some (.lst ds) => some ds
 | some (.frz ds) => some ds
 | none => none
noncomputable def b2i (b : Bool) : Int := if b then 1 else 0
noncomputable def deqR (h : Hh) (f : D → D → Option Bool) (a b : Nat) : Option Bool := if a = b then (lstOf h a).map fun _ => true else match h[a]?, h[b]? with
 | some (.lst x), some (.lst y) => eqL f x y
 | some (.frz x), some (.lst y) => eqL f x y
 | some (.lst x), some (.frz y) => eqL f x y
 | _, _ => none
noncomputable def deq (h : Hh) : Nat → D → D → Option Bool
 | 0, _, _ => none
 | _ + 1, .non, _ => none
 | _ + 1, .bl _, _ => none
 | _ + 1, _, .non => none
 | _ + 1, _, .bl _ => none
 | _ + 1, .int a, .int b => some (a == b)
 | _ + 1, .str a, .str b => some (a == b)
 | n + 1, .tup a, .tup b => eqL (deq h n) a b
 | n + 1, .ref a, .ref b => deqR h (deq h n) a b
 | _ + 1, .ref a, _ => (lstOf h a).map fun _ => false
 | _ + 1, _, .ref a => (lstOf h a).map fun _ => false
 | _ + 1, _, _ => some false
noncomputable def deep : Nat := 20
noncomputable def truthy (h : Hh) : D → Option Bool
 | .non => some false
 | .bl b => some b
 | .int i => some (i != 0)
 | .str s => some (!s.isEmpty)
 | .tup ds => some (!ds.isEmpty)
 | .ref n => (lstOf h n).map fun ds => !ds.isEmpty
noncomputable def alloc (ds : List D) (h : Hh) : R D := if ds.length ≤ big then .ok (.ref h.length) (h ++ [.lst ds]) else .bad
noncomputable def rep {α : Type} (k : Nat) (l : List α) : List α := (List.replicate k l).flatten
noncomputable def mulOk (i j : Int) : Bool := (decide (-(2 ^ 64) < i) && decide (i < 2 ^ 64)) || (decide (-(2 ^ 64) < j) && decide (j < 2 ^ 64))
noncomputable def bop : BOp → D → D → Hh → R D
 | .add, .int i, .int j, h => .ok (.int (i + j)) h
 | .add, .str a, .str b, h => if a.length + b.length ≤ big then .ok (.str (a ++ b)) h else .bad
 | .add, .tup a, .tup b, h => if a.length + b.length ≤ big then .ok (.tup (a ++ b)) h else .bad
 | .add, .ref a, .ref b, h => match h[a]?, h[b]? with
  | some (.lst x), some (.lst y) => alloc (x ++ y) h
  | _, _ => .bad
 | .sub, .int i, .int j, h => .ok (.int (i - j)) h
 | .mul, .int i, .int j, h => if mulOk i j then .ok (.int (i * j)) h else .bad
 | .mul, .str a, .int k, h => if 0 ≤ k ∧ k ≤ 1000 ∧ a.length ≤ 1000 then .ok (.str (rep k.toNat a)) h else .bad
 | .mul, .tup a, .int k, h => if 0 ≤ k ∧ k ≤ 1000 ∧ a.length ≤ 1000 then .ok (.tup (rep k.toNat a)) h else .bad
 | .mul, .ref a, .int k, h => match h[a]? with
  | some (.lst x) => if 0 ≤ k ∧ k ≤ 1000 ∧ x.length ≤ 1000 then alloc (rep k.toNat x) h else .bad
  | _ => .bad
 | .fdiv, .int i, .int j, h => if 0 < j ∧ j < 1073741824 then .ok (.int (i / j)) h else .bad
 | .mod, .int i, .int j, h => if 0 < j then .ok (.int (i % j)) h else .bad
 | _, _, _, _ => .bad
noncomputable def cop (o : COp) (x y : D) (h : Hh) : Option Bool := match o, x, y with
 | .eq, x, y => deq h deep x y
 | .ne, x, y => (deq h deep x y).map (!·)
 | .lt, .int i, .int j => some (decide (i < j))
 | .gt, .int i, .int j => some (decide (j < i))
 | _, _, _ => none
noncomputable def ixN (n : Nat) (i : Int) : Option Nat := if 0 ≤ i then (if i < n then some i.toNat else none) else if -(n : Int) ≤ i then some (i + n).toNat else none
noncomputable def atI {α : Type} (xs : List α) (i : Int) : Option α := (ixN xs.length i).bind fun j => xs[j]?
noncomputable def ixd (x y : D) (h : Hh) : Option D := match x, y with
 | .tup ds, .int i => atI ds i
 | .str s, .int i => (atI s i).map fun c => .str [c]
 | .ref n, .int i => (lstOf h n).bind fun ds => atI ds i
 | _, _ => none
noncomputable def sIx (n d : Nat) : Option Int → Nat
 | none => d
 | some v => if v < 0 then (v + n).toNat else min v.toNat n
noncomputable def cut {α : Type} (xs : List α) (lo hi : Option Int) : List α := (xs.drop (sIx xs.length 0 lo)).take (sIx xs.length xs.length hi - sIx xs.length 0 lo)
noncomputable def sld (x : D) (lo hi : Option Int) (h : Hh) : R D := match x with
 | .tup ds => .ok (.tup (cut ds lo hi)) h
 | .str s => .ok (.str (cut s lo hi)) h
 | .ref n => match lstOf h n with
  | some ds => alloc (cut ds lo hi) h
  | none => .bad
 | _ => .bad
noncomputable def boolsOf : List D → Option (List Bool)
 | [] => some []
 | .bl b :: ds => (boolsOf ds).map fun r => b :: r
 | _ => none
noncomputable def intsOf : List D → Option (List Int)
 | [] => some []
 | .int i :: ds => (intsOf ds).map fun r => i :: r
 | _ => none
noncomputable def strsOf : List D → Option (List (List Nat))
 | [] => some []
 | .str s :: ds => (strsOf ds).map fun r => s :: r
 | _ => none
noncomputable def joinS (sep : List Nat) : List (List Nat) → List Nat
 | [] => []
 | [s] => s
 | s :: t :: r => s ++ sep ++ joinS sep (t :: r)
noncomputable def lexLe : List Nat → List Nat → Bool
 | [], _ => true
 | _ :: _, [] => false
 | x :: xs, y :: ys => if x = y then lexLe xs ys else decide (x < y)
noncomputable def insS (x : List Nat) : List (List Nat) → List (List Nat)
 | [] => [x]
 | y :: ys => if lexLe x y then x :: y :: ys else y :: insS x ys
noncomputable def sortS : List (List Nat) → List (List Nat)
 | [] => []
 | x :: xs => insS x (sortS xs)
noncomputable def bfn (b : BI) (xs : List D) (h : Hh) : R D := match b, xs with
 | .len, [.str s] => if s.length ≤ big then .ok (.int s.length) h else .bad
 | .len, [.tup ds] => .ok (.int ds.length) h
 | .len, [.ref n] => R.of ((lstOf h n).map fun ds => .int ds.length) h
 | .sum, [.ref n] => R.of (((lstOf h n).bind intsOf).map fun is => .int is.sum) h
 | .min, [.int i, .int j] => .ok (.int (if j < i then j else i)) h
 | _, _ => .bad
noncomputable def mef (m : ME) (o : D) (xs : List D) (h : Hh) : R D := match m, o, xs with
 | .join, .str sep, [.ref n] => match (lstOf h n).bind strsOf with
  | some ss => if (ss.map (·.length)).sum + ss.length * sep.length ≤ big then .ok (.str (joinS sep ss)) h else .bad
  | none => .bad
 | .append, .ref n, [x] => match h[n]? with
  | some (.lst ds) => if ds.length < big then .ok .non (h.set n (.lst (ds ++ [x]))) else .bad
  | _ => .bad
 | .extend, .ref n, [.ref m] => match h[n]?, h[m]? with
  | some (.lst ds), some (.lst es) => if ds.length + es.length ≤ big then .ok .non (h.set n (.lst (ds ++ es))) else .bad
  | _, _ => .bad
 | .pop, .ref n, [] => match h[n]? with
  | some (.lst ds) => match ds[ds.length - 1]? with
   | some x => .ok x (h.set n (.lst ds.dropLast))
   | none => .bad
  | _ => .bad
 | _, _, _ => .bad
noncomputable def rcv (m : ME) (x : D) (h : Hh) : Bool := match m, x with
 | .join, .str _ => true
 | .join, _ => false
 | _, .ref n => (lstOf h n).isSome
 | _, _ => false
noncomputable def lookD (x : D) : List (D × D) → Option D
 | [] => none
 | (k, v) :: r => match deq [] 1 k x with
  | some true => some v
  | some false => lookD x r
  | none => none
abbrev Src := List D × List (Nat × List D)
noncomputable def seqOf (h : Hh) : D → Option Src
 | .tup ds => some (ds, [])
 | .str s => some (s.map fun c => .str [c], [])
 | .ref n => (lstOf h n).map fun ds => (ds, [(n, ds)])
 | _ => none
noncomputable def range (lo : Int) (n : Nat) : List D := (List.range n).map fun (i : Nat) => .int (lo + i)
noncomputable def rngOf : List D → Option Src
 | [.int j] => if -(2 ^ 62) ≤ j ∧ j < 2 ^ 62 then some (range 0 j.toNat, []) else none
 | [.int i, .int j] => if -(2 ^ 62) ≤ i ∧ i < 2 ^ 62 ∧ -(2 ^ 62) ≤ j ∧ j < 2 ^ 62 then some (range i (j - i).toNat, []) else none
 | _ => none
noncomputable def enumD : Int → List D → List D
 | _, [] => []
 | k, x :: xs => .tup [.int k, x] :: enumD (k + 1) xs
noncomputable def sameL (a b : List D) : Bool := @decide (a = b) (Classical.propDecidable _)
theorem sameL_iff (a b : List D) : sameL a b = true ↔ a = b := @decide_eq_true_iff _ (Classical.propDecidable _)
@[simp] theorem sameL_self (a : List D) : sameL a a = true := (sameL_iff a a).mpr rfl
noncomputable def stays (h : Hh) : List (Nat × List D) → Bool
 | [] => true
 | (n, ds) :: r => (match lstOf h n with | some es => sameL es ds | none => false) && stays h r
noncomputable def setAll : List Nat → List D → Fr → Option Fr
 | [], [], fr => some fr
 | i :: is, d :: ds, fr => setAll is ds (fr.set i (some d))
 | _, _, _ => none
noncomputable def bindT : T → D → Fr → Option Fr
 | .one i, d, fr => some (fr.set i (some d))
 | .many l, .tup ds, fr => setAll l ds fr
 | _, _, _ => none
noncomputable def slots : T → List Nat
 | .one i => [i]
 | .many l => l
noncomputable def undef (t : T) (fr : Fr) : Bool := (slots t).all fun i => (fr[i]?.join).isNone
noncomputable def tupD : D → Option (List D)
 | .tup ds => some ds
 | _ => none
noncomputable def tofD : D → Hh → R D
 | .tup ds, h => .ok (.tup ds) h
 | .ref n, h => match lstOf h n with
  | some ds => if ds.length ≤ big then .ok (.tup ds) h else .bad
  | none => .bad
 | _, _ => .bad
noncomputable def lstS (h : Hh) : D → Option Src
 | .ref n => (lstOf h n).map fun ds => (ds, [(n, ds)])
 | _ => none
noncomputable def compL (f : D → Hh → R (Option D)) (ck : List (Nat × List D)) : List D → Hh → R (List D)
 | [], h => if stays h ck then .ok [] h else .bad
 | d :: ds, h => if stays h ck then (f d h).bind fun o h1 => (compL f ck ds h1).bind fun r h2 => .ok (o.toList ++ r) h2 else .bad
noncomputable def forL (f : D → Fr → Hh → R (Fl × Fr)) (ck : List (Nat × List D)) : List D → Fr → Hh → R (Fl × Fr)
 | [], fr, h => if stays h ck then .ok (.nx, fr) h else .bad
 | d :: ds, fr, h => if stays h ck then (f d fr h).bind fun p h1 => match p.1 with
   | .nx => forL f ck ds p.2 h1
   | .ct => forL f ck ds p.2 h1
   | .bk => .ok (.nx, p.2) h1
   | .ret x => .ok (.ret x, p.2) h1
  else .bad
noncomputable def whlL (t : Fr → Hh → R Bool) (f : Fr → Hh → R (Fl × Fr)) : Nat → Fr → Hh → R (Fl × Fr)
 | 0, _, _ => .bad
 | n + 1, fr, h => (t fr h).bind fun b h1 => if b then (f fr h1).bind fun p h2 => match p.1 with
   | .nx => whlL t f n p.2 h2
   | .ct => whlL t f n p.2 h2
   | .bk => .ok (.nx, p.2) h2
   | .ret x => .ok (.ret x, p.2) h2
  else .ok (.nx, fr) h1
abbrev Phi := Nat → List D → Hh → R D
noncomputable def intOf : D → Option Int
 | .int i => some i
 | _ => none
mutual
noncomputable def ev (P : Phi) : E → Fr → Hh → R D
 | .c d, _, h => .ok d h
 | .v i, fr, h => R.of (fr[i]?.join) h
 | .tup es, fr, h => (evs P es fr h).bind fun ds h1 => if ds.length ≤ big then .ok (.tup ds) h1 else .bad
 | .lst es, fr, h => (evs P es fr h).bind fun ds h1 => alloc ds h1
 | .bin o a b, fr, h => (ev P a fr h).bind fun x h1 => (ev P b fr h1).bind fun y h2 => bop o x y h2
 | .cmp o a b, fr, h => (ev P a fr h).bind fun x h1 => (ev P b fr h1).bind fun y h2 => R.of ((cop o x y h2).map .bl) h2
 | .nt a, fr, h => (ev P a fr h).bind fun x h1 => match x with
   | .bl b => .ok (.bl (!b)) h1
   | _ => .bad
 | .neg a, fr, h => (ev P a fr h).bind fun x h1 => match x with
   | .int i => .ok (.int (-i)) h1
   | _ => .bad
 | .an a b, fr, h => (ev P a fr h).bind fun x h1 => match x with
   | .bl true => ev P b fr h1
   | .bl false => .ok (.bl false) h1
   | _ => .bad
 | .orr a b, fr, h => (ev P a fr h).bind fun x h1 => match x with
   | .bl true => .ok (.bl true) h1
   | .bl false => ev P b fr h1
   | _ => .bad
 | .ife t a b, fr, h => (evT P t fr h).bind fun k h1 => if k then ev P a fr h1 else ev P b fr h1
 | .ix a b, fr, h => (ev P a fr h).bind fun x h1 => (ev P b fr h1).bind fun y h2 => R.of (ixd x y h2) h2
 | .sl a lo hi, fr, h => (ev P a fr h).bind fun x h1 => (evo P lo fr h1).bind fun l h2 => (evo P hi fr h2).bind fun u h3 => sld x l u h3
 | .cl f es, fr, h => (evs P es fr h).bind fun ds h1 => P f ds h1
 | .bi b es, fr, h => (evs P es fr h).bind fun ds h1 => bfn b ds h1
 | .me m o es, fr, h => (ev P o fr h).bind fun x h1 => if rcv m x h1 then (evs P es fr h1).bind fun ds h2 => mef m x ds h2 else .bad
 | .comp elt t it cond, fr, h => (evi P it fr h).bind fun s h1 => if undef t fr then
   (compL (fun d h2 => match bindT t d fr with
    | none => .bad
    | some fr2 => (evc P cond fr2 h2).bind fun k h3 => if k then (ev P elt fr2 h3).bind fun x h4 => .ok (some x) h4 else .ok none h3) s.2 s.1 h1).bind fun ds h2 => alloc ds h2 else .bad
 | .lof it, fr, h => (evi P it fr h).bind fun s h1 => alloc s.1 h1
 | .dget kvs a, fr, h => (ev P a fr h).bind fun x h1 => R.of (lookD x kvs) h1
 | .ttp a, fr, h => (ev P a fr h).bind fun x h1 => tofD x h1
noncomputable def evs (P : Phi) : Es → Fr → Hh → R (List D)
 | .nil, _, h => .ok [] h
 | .cons e es, fr, h => (ev P e fr h).bind fun d h1 => (evs P es fr h1).bind fun ds h2 => .ok (d :: ds) h2
noncomputable def evo (P : Phi) : Eo → Fr → Hh → R (Option Int)
 | .no, _, h => .ok none h
 | .yes e, fr, h => (ev P e fr h).bind fun d h1 => R.of ((intOf d).map some) h1
noncomputable def evc (P : Phi) : Eo → Fr → Hh → R Bool
 | .no, _, h => .ok true h
 | .yes e, fr, h => evT P e fr h
noncomputable def evT (P : Phi) : E → Fr → Hh → R Bool
 | .an a b, fr, h => (evT P a fr h).bind fun k h1 => if k then evT P b fr h1 else .ok false h1
 | .orr a b, fr, h => (evT P a fr h).bind fun k h1 => if k then .ok true h1 else evT P b fr h1
 | .nt a, fr, h => (evT P a fr h).bind fun k h1 => .ok (!k) h1
 | e, fr, h => (ev P e fr h).bind fun x h1 => R.of (truthy h1 x) h1
noncomputable def evi (P : Phi) : It → Fr → Hh → R Src
 | .seq e, fr, h => (ev P e fr h).bind fun x h1 => R.of (seqOf h1 x) h1
 | .rng es, fr, h => (evs P es fr h).bind fun ds h1 => R.of (rngOf ds) h1
 | .enum a, fr, h => (ev P a fr h).bind fun x h1 => R.of ((lstS h1 x).map fun s => (enumD 0 s.1, s.2)) h1
 | .rev a, fr, h => (ev P a fr h).bind fun x h1 => R.of ((tupD x).map fun ds => (ds.reverse, [])) h1
end
mutual
noncomputable def ex (P : Phi) (w : Nat) : S → Fr → Hh → R (Fl × Fr)
 | .set i e, fr, h => (ev P e fr h).bind fun x h1 => .ok (.nx, fr.set i (some x)) h1
 | .setT l e, fr, h => (ev P e fr h).bind fun x h1 => match bindT (.many l) x fr with
   | some fr2 => .ok (.nx, fr2) h1
   | none => .bad
 | .exp e, fr, h => (ev P e fr h).bind fun _ h1 => .ok (.nx, fr) h1
 | .ret e, fr, h => (ev P e fr h).bind fun x h1 => .ok (.ret x, fr) h1
 | .iff t a b, fr, h => (evT P t fr h).bind fun k h1 => if k then exs P w a fr h1 else exs P w b fr h1
 | .for t it b, fr, h => (evi P it fr h).bind fun s h1 => forL (fun d fr2 h2 => match bindT t d fr2 with
   | some fr3 => exs P w b fr3 h2
   | none => .bad) s.2 s.1 fr h1
 | .whl t b, fr, h => whlL (fun fr2 h2 => evT P t fr2 h2) (fun fr2 h2 => exs P w b fr2 h2) w fr h
 | .nev, _, _ => .bad
noncomputable def exs (P : Phi) (w : Nat) : Ss → Fr → Hh → R (Fl × Fr)
 | .nil, fr, h => .ok (.nx, fr) h
 | .cons s ss, fr, h => (ex P w s fr h).bind fun p h1 => match p.1 with
   | .nx => exs P w ss p.2 h1
   | _ => .ok p h1
end
structure Fn where
 np : Nat
 ns : Nat
 body : Ss
noncomputable def fr0 (fn : Fn) (ds : List D) : Fr := ds.map some ++ List.replicate (fn.ns - fn.np) none
noncomputable def endOf (r : R (Fl × Fr)) : R D := r.bind fun p h => match p.1 with
 | .ret d => .ok d h
 | .nx => .ok .non h
 | _ => .bad
noncomputable def run (F : List Fn) (w : Nat) : Nat → Phi
 | 0, _, _, _ => .bad
 | n + 1, f, ds, h => match F[f]? with
  | some fn => if ds.length = fn.np then endOf (exs (run F w n) w fn.body (fr0 fn ds) h) else .bad
  | none => .bad
end Ev
set_option maxRecDepth 100000
namespace Sm
open PySem PySem.Spec PyProof.Rows L2
noncomputable def sOf (l : List Nat) : Str := ⟨l.toArray⟩
theorem sOf_len (l : List Nat) : (sOf l).length = l.length := by simp [sOf, Str.length]
theorem sOf_inj {a b : List Nat} (h : sOf a = sOf b) : a = b := by
 have h1 : a.toArray = b.toArray := congrArg Str.cps h
 simpa using congrArg Array.toList h1
theorem big_eq : Ev.big = sizeLine := by rw [sizeLine_eq]; rfl
section
variable (K : PySem.W.Frag)
mutual
noncomputable def RV (H : Hp) (r : List Addr) : Ev.D → V → Prop
 | .non, v => v = .non
 | .bl b, v => v = .bl b
 | .int i, v => v = .int i
 | .str s, v => v = .str (sOf s) ∧ s.length ≤ sizeLine
 | .ref n, v => ∃ a, v = .ref a ∧ r[n]? = some a
 | .tup ds, v => ∃ a vs, v = .ref a ∧ SqT K H a vs ∧ RVs H r ds vs
noncomputable def RVs (H : Hp) (r : List Addr) : List Ev.D → List V → Prop
 | [], vs => vs = []
 | d :: ds, vs => ∃ v w, vs = v :: w ∧ RV H r d v ∧ RVs H r ds w
end
noncomputable def FrzL (H : Hp) (a : Addr) (vs : List V) : Prop := (∃ o, H a = some (.frz o (.lst vs))) ∨
 ∃ (o : Obj) (its : Array Value) (n : Nat), K.lookup a = some o ∧ o.cls = .type "list" ∧ o.dict = none ∧ o.data = .seq its n ∧ its.size ≤ sizeLine ∧ Vals vs its.toList
noncomputable def RO (H : Hp) (r : List Addr) : Ev.O → Addr → Prop
 | .lst ds, a => ∃ vs, H a = some (.lst vs) ∧ RVs K H r ds vs
 | .frz ds, a => ∃ vs, FrzL K H a vs ∧ RVs K H r ds vs
structure HR (H : Hp) (r : List Addr) (h : Ev.Hh) : Prop where
 len : r.length = h.length
 ob : ∀ (n : Nat) o, h[n]? = some o → ∃ a, r[n]? = some a ∧ RO K H r o a
 inj : ∀ (n m : Nat) a x y, r[n]? = some a → r[m]? = some a → h[n]? = some (.lst x) → h[m]? = some (.lst y) → n = m
structure Fm (r r' : List Addr) (H H' : Hp) : Prop where
 pre : ∀ (n : Nat) a, r[n]? = some a → r'[n]? = some a
 new : ∀ a ∈ r', a ∈ r ∨ H a = none
 keep : ∀ a o, H a = some o → a ∉ r → H' a = some o
 tups : ∀ a vs, SqT K H a vs → SqT K H' a vs
end
section
variable {K : PySem.W.Frag} {H H1 H2 : Hp} {r r1 r2 : List Addr} {h : Ev.Hh}
theorem Fm.refl : Fm K r r H H := ⟨fun _ _ e => e, fun _ e => .inl e, fun _ _ e _ => e, fun _ _ e => e⟩
theorem Fm.trans (a : Fm K r r1 H H1) (b : Fm K r1 r2 H1 H2) : Fm K r r2 H H2 where
 pre := fun n x e => b.pre n x (a.pre n x e)
 new := fun x e => by
  rcases b.new x e with q | q
  ·exact a.new x q
  ·by_cases z : x ∈ r
   ·exact .inl z
   ·refine .inr ?_
    cases w : H x with
    | none => rfl
    | some o => rw [a.keep x o w z] at q; cases q
 keep := fun x o e n => by
  refine b.keep x o (a.keep x o e n) fun z => ?_
  rcases a.new x z with q | q
  ·exact n q
  ·rw [e] at q; cases q
 tups := fun x vs e => b.tups x vs (a.tups x vs e)
mutual
theorem RV.grow (f : ∀ (n : Nat) a, r[n]? = some a → r1[n]? = some a) (g : ∀ a vs, SqT K H a vs → SqT K H1 a vs) : ∀ {d : Ev.D} {v : V}, RV K H r d v → RV K H1 r1 d v
 | .non, _, e => e
 | .bl _, _, e => e
 | .int _, _, e => e
 | .str _, _, e => e
 | .ref n, _, ⟨a, e, z⟩ => ⟨a, e, f n a z⟩
 | .tup ds, _, ⟨a, vs, e, z, q⟩ => ⟨a, vs, e, g a vs z, RVs.grow f g q⟩
theorem RVs.grow (f : ∀ (n : Nat) a, r[n]? = some a → r1[n]? = some a) (g : ∀ a vs, SqT K H a vs → SqT K H1 a vs) : ∀ {ds : List Ev.D} {vs : List V}, RVs K H r ds vs → RVs K H1 r1 ds vs
 | [], _, e => e
 | _ :: _, _, ⟨v, w, e, z, q⟩ => ⟨v, w, e, RV.grow f g z, RVs.grow f g q⟩
end
theorem RV.mono (f : Fm K r r1 H H1) {d : Ev.D} {v : V} (q : RV K H r d v) : RV K H1 r1 d v := q.grow f.pre f.tups
theorem RVs.mono (f : Fm K r r1 H H1) {ds : List Ev.D} {vs : List V} (q : RVs K H r ds vs) : RVs K H1 r1 ds vs := q.grow f.pre f.tups
theorem RVs.nil : RVs K H r [] [] := by simp [RVs]
theorem RVs.cons {d : Ev.D} {v : V} {ds : List Ev.D} {vs : List V} (a : RV K H r d v) (b : RVs K H r ds vs) : RVs K H r (d :: ds) (v :: vs) := by
 simp only [RVs]; exact ⟨v, vs, rfl, a, b⟩
theorem RVs.length : ∀ {ds : List Ev.D} {vs : List V}, RVs K H r ds vs → vs.length = ds.length
 | [], _, e => by simp only [RVs] at e; subst e; rfl
 | _ :: _, _, e => by
  simp only [RVs] at e
  obtain ⟨v, w, rfl, _, q⟩ := e
  simp [RVs.length q]
theorem RVs.get : ∀ {ds : List Ev.D} {vs : List V} {i : Nat} {d : Ev.D}, RVs K H r ds vs → ds[i]? = some d → ∃ v, vs[i]? = some v ∧ RV K H r d v
 | [], _, _, _, _, e => by simp at e
 | _ :: _, _, 0, _, h, e => by
  simp only [RVs] at h
  obtain ⟨v, w, rfl, z, q⟩ := h
  simp at e; subst e
  exact ⟨v, by simp, z⟩
 | _ :: _, _, i + 1, _, h, e => by
  simp only [RVs] at h
  obtain ⟨v, w, rfl, z, q⟩ := h
  obtain ⟨u, a, b⟩ := RVs.get (i := i) q (by simpa using e)
  exact ⟨u, by simpa using a, b⟩
theorem RVs.append : ∀ {ds es : List Ev.D} {vs ws : List V}, RVs K H r ds vs → RVs K H r es ws → RVs K H r (ds ++ es) (vs ++ ws)
 | [], _, _, _, a, b => by simp only [RVs] at a; subst a; simpa using b
 | _ :: _, _, _, _, a, b => by
  simp only [RVs] at a
  obtain ⟨v, w, rfl, z, q⟩ := a
  simp only [List.cons_append]
  exact .cons z (RVs.append q b)
theorem RVs.take : ∀ {ds : List Ev.D} {vs : List V} (n : Nat), RVs K H r ds vs → RVs K H r (ds.take n) (vs.take n)
 | _, _, 0, _ => by simp [RVs]
 | [], _, _ + 1, a => by simp only [RVs] at a; subst a; simp [RVs]
 | _ :: _, _, n + 1, a => by
  simp only [RVs] at a
  obtain ⟨v, w, rfl, z, q⟩ := a
  simp only [List.take_succ_cons]
  exact .cons z (RVs.take n q)
theorem RVs.drop : ∀ {ds : List Ev.D} {vs : List V} (n : Nat), RVs K H r ds vs → RVs K H r (ds.drop n) (vs.drop n)
 | _, _, 0, a => by simpa using a
 | [], _, _ + 1, a => by simp only [RVs] at a; subst a; simp [RVs]
 | _ :: _, _, n + 1, a => by
  simp only [RVs] at a
  obtain ⟨v, w, rfl, z, q⟩ := a
  simp only [List.drop_succ_cons]
  exact RVs.drop n q
theorem RVs.reverse : ∀ {ds : List Ev.D} {vs : List V}, RVs K H r ds vs → RVs K H r ds.reverse vs.reverse
 | [], _, a => by simp only [RVs] at a; subst a; simp [RVs]
 | _ :: _, _, a => by
  simp only [RVs] at a
  obtain ⟨v, w, rfl, z, q⟩ := a
  simp only [List.reverse_cons]
  exact (RVs.reverse q).append (.cons z .nil)
theorem RVs.rep {ds : List Ev.D} {vs : List V} (a : RVs K H r ds vs) : ∀ k : Nat, RVs K H r (Ev.rep k ds) (Ev.rep k vs)
 | 0 => by simp [Ev.rep, RVs]
 | k + 1 => by
  have h := RVs.rep a k
  simp only [Ev.rep, List.replicate_succ, List.flatten_cons] at h ⊢
  exact a.append h
theorem Fm.laid {p : Addr} {o : HO} (hp : H p = none) : Fm K r (r ++ [p]) H (upd H p o) where
 pre := fun n a e => by rw [List.getElem?_append_left (List.getElem?_eq_some_iff.mp e).1]; exact e
 new := fun a e => by
  rcases List.mem_append.mp e with q | q
  ·exact .inl q
  ·rw [List.mem_singleton] at q; subst q; exact .inr hp
 keep := fun a ob e _ => by rw [upd_ne (ne_of_none e hp)]; exact e
 tups := fun a vs e => by
  rcases e with (e | ⟨ob, e⟩) | e
  ·exact .inl (.inl (by rw [upd_ne (ne_of_none e hp)]; exact e))
  ·exact .inl (.inr ⟨ob, by rw [upd_ne (ne_of_none e hp)]; exact e⟩)
  ·exact .inr e
theorem Fm.tup {p : Addr} {o : HO} (hp : H p = none) : Fm K r r H (upd H p o) where
 pre := fun n a e => e
 new := fun a e => .inl e
 keep := fun a ob e _ => by rw [upd_ne (ne_of_none e hp)]; exact e
 tups := (Fm.laid (r := r) hp).tups
theorem RO.mono {o : Ev.O} {a : Addr} (f : Fm K r r1 H H1) (q : RO K H r o a) (hl : ∀ ds vs, o = .lst ds → H a = some (.lst vs) → H1 a = some (.lst vs)) (hf : ∀ ob vs, H a = some (.frz ob vs) → H1 a = some (.frz ob vs)) : RO K H1 r1 o a := by
 cases o with
 | lst ds =>
  obtain ⟨vs, e, z⟩ := q
  exact ⟨vs, hl ds vs rfl e, z.mono f⟩
 | frz ds =>
  obtain ⟨vs, e, z⟩ := q
  refine ⟨vs, ?_, z.mono f⟩
  rcases e with ⟨ob, e⟩ | e
  ·exact .inl ⟨ob, hf _ _ e⟩
  ·exact .inr e
theorem HR.tup {p : Addr} {o : HO} (hr : HR K H r h) (hp : H p = none) : HR K (upd H p o) r h where
 len := hr.len
 ob := fun n ob e => by
  obtain ⟨a, e1, q⟩ := hr.ob n ob e
  exact ⟨a, e1, q.mono (Fm.tup hp) (fun _ vs _ z => by rw [upd_ne (ne_of_none z hp)]; exact z) fun _ _ z => by rw [upd_ne (ne_of_none z hp)]; exact z⟩
 inj := hr.inj
theorem HR.lst {p : Addr} {ds : List Ev.D} {vs : List V} (hr : HR K H r h) (hp : H p = none) (q : RVs K H r ds vs) : HR K (upd H p (.lst vs)) (r ++ [p]) (h ++ [.lst ds]) where
 len := by simp [hr.len]
 ob := fun n ob e => by
  by_cases hn : n < h.length
  ·rw [List.getElem?_append_left hn] at e
   obtain ⟨a, e1, z⟩ := hr.ob n ob e
   exact ⟨a, (Fm.laid (K := K) (o := .lst vs) hp).pre n a e1, z.mono (Fm.laid hp) (fun _ vs _ z => by rw [upd_ne (ne_of_none z hp)]; exact z) fun _ _ z => by rw [upd_ne (ne_of_none z hp)]; exact z⟩
  ·have e2 := (List.getElem?_eq_some_iff.mp e).1
   simp only [List.length_append, List.length_singleton] at e2
   have e3 : n = h.length := by omega
   subst e3
   simp at e
   subst e
   exact ⟨p, by rw [← hr.len]; simp, vs, upd_same, q.mono (Fm.laid hp)⟩
 inj := fun n m a x y e1 e2 e3 e4 => by
  have out : ∀ (k : Nat) z, (h ++ [Ev.O.lst ds])[k]? = some (.lst z) → (r ++ [p])[k]? = some a → (k < h.length ∧ r[k]? = some a ∧ h[k]? = some (.lst z) ∧ a ≠ p) ∨ (k = h.length ∧ a = p) := fun k z q1 q2 => by
   by_cases hk : k < h.length
   ·rw [List.getElem?_append_left hk] at q1
    rw [List.getElem?_append_left (by rw [hr.len]; exact hk)] at q2
    obtain ⟨b, e5, vs', e6, _⟩ := hr.ob k _ q1
    rw [q2] at e5; cases e5
    exact .inl ⟨hk, q2, q1, ne_of_none e6 hp⟩
   ·have e5 := (List.getElem?_eq_some_iff.mp q1).1
    simp only [List.length_append, List.length_singleton] at e5
    have e6 : k = r.length := by rw [hr.len]; omega
    subst e6
    simp at q2
    exact .inr ⟨hr.len, q2.symm⟩
  rcases out n x e3 e1 with ⟨h1, h2, h3, h4⟩ | ⟨h1, h2⟩
  ·rcases out m y e4 e2 with ⟨k1, k2, k3, k4⟩ | ⟨k1, k2⟩
   ·exact hr.inj n m a x y h2 k2 h3 k3
   ·exact absurd k2 h4
  ·rcases out m y e4 e2 with ⟨k1, k2, k3, k4⟩ | ⟨k1, k2⟩
   ·exact absurd h2 k4
   ·rw [h1, k1]
theorem HR.read {n : Nat} {ds : List Ev.D} (hr : HR K H r h) (e : Ev.lstOf h n = some ds) : ∃ a vs, r[n]? = some a ∧ SqL K H a vs ∧ RVs K H r ds vs := by
 unfold Ev.lstOf at e
 split at e
 ·rename_i z
  cases e
  obtain ⟨a, e1, vs, e2, e3⟩ := hr.ob n _ z
  exact ⟨a, vs, e1, .inl (.inl e2), e3⟩
 ·rename_i z
  cases e
  obtain ⟨a, e1, vs, e2, e3⟩ := hr.ob n _ z
  refine ⟨a, vs, e1, ?_, e3⟩
  rcases e2 with ⟨ob, e2⟩ | e2
  ·exact .inl (.inr ⟨ob, e2⟩)
  ·exact .inr e2
 ·cases e
theorem Fm.write {a : Addr} {vs ws : List V} (ha : H a = some (.lst vs)) (hm : a ∈ r) : Fm K r r H (upd H a (.lst ws)) where
 pre := fun n b e => e
 new := fun b e => .inl e
 keep := fun b ob e n => by rw [upd_ne (fun z => n (by rw [z]; exact hm))]; exact e
 tups := fun b us e => by
  rcases e with (e | ⟨ob, e⟩) | e
  ·exact .inl (.inl (by rw [upd_ne (ne_of e ha (by intro z; cases z))]; exact e))
  ·exact .inl (.inr ⟨ob, by rw [upd_ne (ne_of e ha (by intro z; cases z))]; exact e⟩)
  ·exact .inr e
theorem HR.write {n : Nat} {a : Addr} {ds es : List Ev.D} {vs ws : List V} (hr : HR K H r h) (hn : h[n]? = some (.lst ds)) (hra : r[n]? = some a) (ha : H a = some (.lst vs)) (q : RVs K H r es ws) :
  HR K (upd H a (.lst ws)) r (h.set n (.lst es)) where
 len := by simp [hr.len]
 ob := fun m ob e => by
  have f := Fm.write (K := K) (ws := ws) ha (List.mem_of_getElem? hra)
  by_cases hm : m = n
  ·subst hm
   rw [List.getElem?_set_self (List.getElem?_eq_some_iff.mp hn).1] at e
   cases e
   exact ⟨a, hra, ws, upd_same, q.mono f⟩
  ·rw [List.getElem?_set_ne (fun z => hm z.symm)] at e
   obtain ⟨b, e1, z⟩ := hr.ob m ob e
   refine ⟨b, e1, z.mono f (fun ds2 us z3 z2 => ?_) fun ob' us z2 => by rw [upd_ne (ne_of z2 ha (by intro z; cases z))]; exact z2⟩
   by_cases hb : b = a
   ·subst hb
    subst z3
    exact absurd (hr.inj m n b ds2 ds e1 hra e hn) hm
   ·rw [upd_ne hb]; exact z2
 inj := fun k m b x y e1 e2 e3 e4 => by
  have back : ∀ (j : Nat) z, (h.set n (Ev.O.lst es))[j]? = some (.lst z) → ∃ z', h[j]? = some (.lst z') := fun j z w => by
   by_cases hj : j = n
   ·subst hj; exact ⟨ds, hn⟩
   ·rw [List.getElem?_set_ne (fun z => hj z.symm)] at w; exact ⟨z, w⟩
  obtain ⟨x', e5⟩ := back k x e3
  obtain ⟨y', e6⟩ := back m y e4
  exact hr.inj k m b x' y' e1 e2 e5 e6
theorem tups_other {p : Addr} {vs ws : List V} (hp : H p = some (.lst vs)) : ∀ a us, SqT K H a us → SqT K (upd H p (.lst ws)) a us := fun b us e => by
 rcases e with (e | ⟨ob, e⟩) | e
 ·exact .inl (.inl (by rw [upd_ne (ne_of e hp (by intro z; cases z))]; exact e))
 ·exact .inl (.inr ⟨ob, by rw [upd_ne (ne_of e hp (by intro z; cases z))]; exact e⟩)
 ·exact .inr e
theorem HR.other {p : Addr} {vs ws : List V} (hr : HR K H r h) (hp : H p = some (.lst vs)) (hn : p ∉ r) : HR K (upd H p (.lst ws)) r h where
 len := hr.len
 ob := fun n ob e => by
  obtain ⟨a, e1, q⟩ := hr.ob n ob e
  have ha : a ≠ p := fun z => hn (by rw [← z]; exact List.mem_of_getElem? e1)
  refine ⟨a, e1, ?_⟩
  cases ob with
  | lst ds =>
   obtain ⟨us, e2, e3⟩ := q
   exact ⟨us, by rw [upd_ne ha]; exact e2, e3.grow (fun _ _ z => z) (tups_other hp)⟩
  | frz ds =>
   obtain ⟨us, e2, e3⟩ := q
   refine ⟨us, ?_, e3.grow (fun _ _ z => z) (tups_other hp)⟩
   rcases e2 with ⟨o, e2⟩ | e2
   ·exact .inl ⟨o, by rw [upd_ne ha]; exact e2⟩
   ·exact .inr e2
 inj := hr.inj
theorem Fm.other {p : Addr} {vs ws : List V} (f : Fm K r r1 H H1) (h0 : H p = none) (hp : H1 p = some (.lst vs)) : Fm K r r1 H (upd H1 p (.lst ws)) where
 pre := f.pre
 new := f.new
 keep := fun a o e n => by rw [upd_ne (ne_of_none e h0)]; exact f.keep a o e n
 tups := fun a us e => tups_other hp a us (f.tups a us e)
theorem Fm.notin {p : Addr} {o : HO} (f : Fm K r r1 H H1) (hp : H p = some o) (hn : p ∉ r) : p ∉ r1 ∧ H1 p = some o := by
 refine ⟨fun z => ?_, f.keep p o hp hn⟩
 rcases f.new p z with q | q
 ·exact hn q
 ·rw [hp] at q; cases q
theorem HR.known {p : Addr} {ds : List Ev.D} {vs : List V} (hr : HR K H r h) (hp : H p = some (.lst vs)) (hn : p ∉ r) (q : RVs K H r ds vs) : HR K H (r ++ [p]) (h ++ [.lst ds]) := by
 have pre : ∀ (n : Nat) a, r[n]? = some a → (r ++ [p])[n]? = some a := fun n a e => by rw [List.getElem?_append_left (List.getElem?_eq_some_iff.mp e).1]; exact e
 refine ⟨by simp [hr.len], fun n ob e => ?_, fun n m a x y e1 e2 e3 e4 => ?_⟩
 ·by_cases hk : n < h.length
  ·rw [List.getElem?_append_left hk] at e
   obtain ⟨a, e1, z⟩ := hr.ob n ob e
   refine ⟨a, pre n a e1, ?_⟩
   cases ob with
   | lst ds => obtain ⟨us, e2, e3⟩ := z; exact ⟨us, e2, e3.grow pre fun _ _ z => z⟩
   | frz ds => obtain ⟨us, e2, e3⟩ := z; exact ⟨us, e2, e3.grow pre fun _ _ z => z⟩
  ·have e2 := (List.getElem?_eq_some_iff.mp e).1
   simp only [List.length_append, List.length_singleton] at e2
   have e3 : n = h.length := by omega
   subst e3
   simp at e
   subst e
   exact ⟨p, by rw [← hr.len]; simp, vs, hp, q.grow pre fun _ _ z => z⟩
 ·have out : ∀ (k : Nat) z, (h ++ [Ev.O.lst ds])[k]? = some (.lst z) → (r ++ [p])[k]? = some a → (k < h.length ∧ r[k]? = some a ∧ h[k]? = some (.lst z) ∧ a ≠ p) ∨ (k = h.length ∧ a = p) := fun k z q1 q2 => by
   by_cases hk : k < h.length
   ·rw [List.getElem?_append_left hk] at q1
    rw [List.getElem?_append_left (by rw [hr.len]; exact hk)] at q2
    exact .inl ⟨hk, q2, q1, fun z => hn (by rw [← z]; exact List.mem_of_getElem? q2)⟩
   ·have e5 := (List.getElem?_eq_some_iff.mp q1).1
    simp only [List.length_append, List.length_singleton] at e5
    have e6 : k = r.length := by rw [hr.len]; omega
    subst e6
    simp at q2
    exact .inr ⟨hr.len, q2.symm⟩
  rcases out n x e3 e1 with ⟨h1, h2, h3, h4⟩ | ⟨h1, h2⟩
  ·rcases out m y e4 e2 with ⟨k1, k2, k3, k4⟩ | ⟨k1, k2⟩
   ·exact hr.inj n m a x y h2 k2 h3 k3
   ·exact absurd k2 h4
  ·rcases out m y e4 e2 with ⟨k1, k2, k3, k4⟩ | ⟨k1, k2⟩
   ·exact absurd h2 k4
   ·rw [h1, k1]
theorem Fm.known {p : Addr} (f : Fm K r r1 H H1) (h0 : H p = none) : Fm K r (r1 ++ [p]) H H1 where
 pre := fun n a e => by
  have e' := f.pre n a e
  rw [List.getElem?_append_left (List.getElem?_eq_some_iff.mp e').1]; exact e'
 new := fun a e => by
  rcases List.mem_append.mp e with q | q
  ·exact f.new a q
  ·rw [List.mem_singleton] at q; subst q; exact .inr h0
 keep := f.keep
 tups := f.tups
end
end Sm
set_option maxRecDepth 100000
namespace Sm
open PySem PySem.Spec PyProof.Rows L2
open Ev (D O Hh Fr R Phi E Es Eo It T S Ss Fl Src BOp COp TY BI ME)
section
variable (K : PySem.W.Frag)
noncomputable def Res (r : List Addr) (H : Hp) (h' : Hh) (d : D) (Q : VK) : Prop := ∀ v H' r', RV K H' r' d v → HR K H' r' h' → Fm K r r' H H' → Q v H'
structure SR (m : List Nat) (H : Hp) (r : List Addr) (fr : Fr) (s : L2.St) : Prop where
 len : s.length = m.length
 sl : ∀ (j i : Nat) d, m[j]? = some i → fr[i]? = some (some d) → ∃ v, s[j]? = some (some v) ∧ RV K H r d v
inductive tJ (m : List Nat) (P : Phi) (e : E) (s : L2.St) (H : Hp) (Q : VK) : Prop
 | mk (r : List Addr) (fr : Fr) (h : Hh) (d : D) (h' : Hh) (c0 : SR K m H r fr s) (c1 : HR K H r h) (c2 : Ev.ev P e fr h = .ok d h') (c3 : Res K r H h' d Q) : tJ m P e s H Q
inductive tJT (m : List Nat) (P : Phi) (e : E) (s : L2.St) (H : Hp) (Q : Bool → Hp → Prop) : Prop
 | mk (r : List Addr) (fr : Fr) (h : Hh) (k : Bool) (h' : Hh) (c0 : SR K m H r fr s) (c1 : HR K H r h) (c2 : Ev.evT P e fr h = .ok k h') (c3 : ∀ H' r', HR K H' r' h' → Fm K r r' H H' → Q k H') : tJT m P e s H Q
inductive tJA (m : List Nat) (P : Phi) (es : Es) (s : L2.St) (H : Hp) (Q : List V → Hp → Prop) : Prop
 | mk (r : List Addr) (fr : Fr) (h : Hh) (ds : List D) (h' : Hh) (c0 : SR K m H r fr s) (c1 : HR K H r h) (c2 : Ev.evs P es fr h = .ok ds h') (c3 : ∀ vs H' r', RVs K H' r' ds vs → HR K H' r' h' → Fm K r r' H H' → Q vs H') : tJA m P es s H Q
inductive tJO (m : List Nat) (P : Phi) (e : Eo) (s : L2.St) (H : Hp) (Q : Option Int → Hp → Prop) : Prop
 | mk (r : List Addr) (fr : Fr) (h : Hh) (o : Option Int) (h' : Hh) (c0 : SR K m H r fr s) (c1 : HR K H r h) (c2 : Ev.evo P e fr h = .ok o h') (c3 : ∀ H' r', HR K H' r' h' → Fm K r r' H H' → Q o H') : tJO m P e s H Q
inductive rD2 (f : D → D → Hh → R D) (x : V) (y : V) (H : Hp) (Q : VK) : Prop
 | mk (r : List Addr) (h : Hh) (a : D) (b : D) (d : D) (h' : Hh) (c0 : HR K H r h) (c1 : RV K H r a x) (c2 : RV K H r b y) (c3 : f a b h = .ok d h') (c4 : Res K r H h' d Q) : rD2 f x y H Q
inductive rD1 (f : D → Hh → R D) (x : V) (H : Hp) (Q : VK) : Prop
 | mk (r : List Addr) (h : Hh) (a : D) (d : D) (h' : Hh) (c0 : HR K H r h) (c1 : RV K H r a x) (c2 : f a h = .ok d h') (c3 : Res K r H h' d Q) : rD1 f x H Q
inductive rDn (f : List D → Hh → R D) (xs : List V) (H : Hp) (Q : VK) : Prop
 | mk (r : List Addr) (h : Hh) (as : List D) (d : D) (h' : Hh) (c0 : HR K H r h) (c1 : RVs K H r as xs) (c2 : f as h = .ok d h') (c3 : Res K r H h' d Q) : rDn f xs H Q
inductive rDm (f : D → List D → Hh → R D) (x : V) (xs : List V) (H : Hp) (Q : VK) : Prop
 | mk (r : List Addr) (h : Hh) (a : D) (as : List D) (d : D) (h' : Hh) (c0 : HR K H r h) (c1 : RV K H r a x) (c2 : RVs K H r as xs) (c3 : f a as h = .ok d h') (c4 : Res K r H h' d Q) : rDm f x xs H Q
inductive rDs  (x : V) (lo : Option Int) (hi : Option Int) (H : Hp) (Q : VK) : Prop
 | mk (r : List Addr) (h : Hh) (a : D) (d : D) (h' : Hh) (c0 : HR K H r h) (c1 : RV K H r a x) (c2 : Ev.sld a lo hi h = .ok d h') (c3 : Res K r H h' d Q) : rDs x lo hi H Q
end
section
variable {K : PySem.W.Frag} {m : List Nat} {H H' : Hp} {r r' : List Addr} {fr : Fr} {s : L2.St} {h h' : Hh} {d : D} {Q : VK}
theorem SR.mono (a : SR K m H r fr s) (f : Fm K r r' H H') : SR K m H' r' fr s := ⟨a.len, fun j i d e1 e2 => by
 obtain ⟨v, q, z⟩ := a.sl j i d e1 e2
 exact ⟨v, q, z.mono f⟩⟩
theorem Res.here {v : V} (q : Res K r H h d Q) (a : RV K H r d v) (b : HR K H r h) : Q v H := q v H r a b .refl
theorem Res.later (q : Res K r H h' d Q) (f : Fm K r r' H H') : Res K r' H' h' d Q := fun v H2 r2 a b g => q v H2 r2 a b (f.trans g)
theorem Res.lst {ds : List D} {vs : List V} (q : Res K r H h' d Q) (e : Ev.alloc ds h = .ok d h') (a : RVs K H r ds vs) (b : HR K H r h) : vs.length ≤ sizeLine ∧ ∀ p, H p = none → Q (.ref p) (upd H p (.lst vs)) := by
 unfold Ev.alloc at e
 split at e
 ·rename_i z
  cases e
  refine ⟨by rw [a.length, ← big_eq]; exact z, fun p hp => ?_⟩
  exact q _ _ (r ++ [p]) ⟨p, rfl, by rw [← b.len]; simp⟩ (b.lst hp a) (.laid hp)
 ·cases e
theorem Res.tup {ds : List D} {vs : List V} (q : Res K r H h (.tup ds) Q) (a : RVs K H r ds vs) (b : HR K H r h) {p : Addr} (hp : H p = none) : Q (.ref p) (upd H p (.tup vs)) :=
 q _ _ r ⟨p, vs, rfl, .of upd_same, a.mono (.tup hp)⟩ (b.tup hp) (.tup hp)
end
theorem PE.of {X : Cx} {e : Expr} {t t' : TE} (h : PE X e t) (w : ∀ s H Q, t' s H Q → t s H Q) : PE X e t' := fun pins s σ H Q I q => h pins s σ H Q I (w _ _ _ q)
theorem PT.of {X : Cx} {e : Expr} {t t' : TT} (h : PT X e t) (w : ∀ s H Q, t' s H Q → t s H Q) : PT X e t' := fun pins s σ H Q I q => h pins s σ H Q I (w _ _ _ q)
theorem PW.of {X : Cx} {e : Expr} {t t' : TT} (h : PW X e t) (w : ∀ s H Q, t' s H Q → t s H Q) : PW X e t' := fun wh pins s σ H Q I q => h wh pins s σ H Q I (w _ _ _ q)
theorem PA.of {X : Cx} {es : List Expr} {t t' : TA} (h : PA X es t) (w : ∀ s H Q, t' s H Q → t s H Q) : PA X es t' := fun pos pins s σ H Q I q => h pos pins s σ H Q I (w _ _ _ q)
theorem PO.of {X : Cx} {e : Option Expr} {t t' : TO} (h : PO X e t) (w : ∀ s H Q, t' s H Q → t s H Q) : PO X e t' := fun pins s σ H Q I q => h pins s σ H Q I (w _ _ _ q)
structure FI where
 name : Str
 addr : Addr
 fd : FuncData
 ps : List Str
noncomputable def spF (K : PySem.W.Frag) (F : List Ev.Fn) (w n f : Nat) : Sp := fun vs H Q _ => ∃ r h ds d h', RVs K H r ds vs ∧ HR K H r h ∧ Ev.run F w n f ds h = .ok d h' ∧ Res K r H h' d Q
noncomputable def isC : D → V → Prop
 | .non, v => v = .non
 | .bl b, v => v = .bl b
 | .int i, v => v = .int i
 | .str s, v => v = .str (sOf s) ∧ s.length ≤ sizeLine
 | _, _ => False
theorem isC.rv {K : PySem.W.Frag} {H : Hp} {r : List Addr} {d : D} {v : V} (h : isC d v) : RV K H r d v := by
 cases d <;> simp only [isC] at h <;> simp only [RV] <;> first | exact h | exact h.elim
structure Tb where
 F : List Ev.Fn
 w : Nat
 fi : List FI
 bl : List Str
 cs : List (Str × D)
 dk : List (Str × List (D × D))
noncomputable def tabOf : List (D × D) → List (PyData × PyData)
 | (.str k, .str v) :: r => (.str (sOf k), .str (sOf v)) :: tabOf r
 | _ => []
structure Good (G : Tb) (n : Nat) (sc : Scope) (N : List Str) (df : Bool) (X : Cx) : Prop where
 nm : X.N = N
 sc : X.env.scope = sc
 calm : X.calm = true
 own : df = true → ∀ x, X.fn x = true
 room : Room n X.A
 xe : X.xe = fun _ _ => False
 fn : ∀ (f : Nat) i, G.fi[f]? = some i → X.mg i.name = some (.ref i.addr) ∧ PySem.W.keepIn X.K (.ref i.addr) = true ∧ Binds X.K i.fd i.ps [] ∧ FnOk X.prog X.w X.K X.mg X.base CX0 n i.addr i.fd i.ps (spF X.K G.F G.w n f)
 bl : ∀ x ∈ G.bl, X.mg x = none
 cs : ∀ x d, (x, d) ∈ G.cs → ∃ v u, X.mg x = some u ∧ RelV v u ∧ isC d v
 dk : ∀ x kvs, (x, kvs) ∈ G.dk → ∃ a, X.mg x = some (.ref a) ∧ ∀ h : Heap, X.K.In h → StrTab X.prog X.w h a (tabOf kvs)
section
variable (G : Tb) (n : Nat) (sc : Scope) (N : List Str) (df : Bool) (m : List Nat)
noncomputable def JE (e : E) (x : Expr) : Prop := ∀ X, Good G n sc N df X → PE X x (tJ X.K m (Ev.run G.F G.w n) e)
noncomputable def JT (e : E) (x : Expr) : Prop := ∀ X, Good G n sc N df X → PT X x (tJT X.K m (Ev.run G.F G.w n) e)
noncomputable def JW (e : E) (x : Expr) : Prop := ∀ X, Good G n sc N df X → PW X x (tJT X.K m (Ev.run G.F G.w n) e)
noncomputable def JA (es : Es) (xs : List Expr) : Prop := ∀ X, Good G n sc N df X → PA X xs (tJA X.K m (Ev.run G.F G.w n) es)
noncomputable def JO (e : Eo) (x : Option Expr) : Prop := ∀ X, Good G n sc N df X → PO X x (tJO X.K m (Ev.run G.F G.w n) e)
end
section
variable {G : Tb} {n : Nat} {sc : Scope} {N : List Str} {df : Bool} {m : List Nat} {a b c : E} {xa xb xc : Expr} {pos : Pos}
theorem Good.vis {X : Cx} (g : Good G n sc N df X) {x : Str} (h : sc.names.lookup x = some .local ∨ sc.names.lookup x = some .cell ∨ sc.names.lookup x = some .free) : Vis X.env.scope x := by
 rw [g.sc]; exact h
theorem Good.gl {X : Cx} (g : Good G n sc N df X) {x : Str} (h : sc.names.lookup x = some .globalImplicit) : Gl X x := by
 unfold Gl Env.kindOf; rw [g.sc]; exact h
theorem je_v (j i : Nat) {x : Str} (hj : m[j]? = some i := by rfl) (hN : N[j]? = some x := by rfl)
  (hv : sc.names.lookup x = some .local ∨ sc.names.lookup x = some .cell ∨ sc.names.lookup x = some .free := by first | exact Or.inl rfl | exact Or.inr (Or.inl rfl) | exact Or.inr (Or.inr rfl))
  (hd : (x == ("__debug__" : Str)) = false := by decide) (hcd : (x == ("__classdict__" : Str)) = false := by decide) : JE G n sc N df m (.v i) (.Name x pos) := by
 intro X g
 refine PE.of (pe_var (i := j) (by rw [g.nm]; exact hN) (g.vis hv) hd hcd) fun s H Q q => ?_
 obtain ⟨r, fr, h, d, h', sr, hr, e, q⟩ := q
 simp only [Ev.ev] at e
 obtain ⟨e2, e3⟩ := Ev.of_eq_ok e
 subst e3
 obtain ⟨v, q1, q2⟩ := sr.sl j i d hj (by
  cases z : fr[i]? with
  | none => rw [z] at e2; cases e2
  | some o =>
   rw [z] at e2
   have e' : o = some d := e2
   rw [e'])
 exact ⟨v, q1, q.here q2 hr⟩
theorem tC_of {K : PySem.W.Frag} {P : Phi} {d : D} {v : V} (hc : isC d v) : ∀ s H Q, tJ K m P (.c d) s H Q → tC v s H Q := fun s H Q q => by
 obtain ⟨r, fr, h, d', h', sr, hr, e, q⟩ := q
 simp only [Ev.ev] at e
 cases e
 exact q.here hc.rv hr
theorem je_int {i : Int} {j} : JE G n sc N df m (.c (.int i)) (.Constant (.int i) j pos) := fun X g => PE.of pe_int (tC_of rfl)
theorem je_bl {k : Bool} {j} : JE G n sc N df m (.c (.bl k)) (.Constant (.bool k) j pos) := fun X g => PE.of pe_bl (tC_of rfl)
theorem je_non {j} : JE G n sc N df m (.c .non) (.Constant .none j pos) := fun X g => PE.of pe_non (tC_of rfl)
theorem je_str {l : List Nat} {x : Str} {j} (hx : x = sOf l := by decide +kernel) (hl : l.length ≤ sizeLine := by decide) : JE G n sc N df m (.c (.str l)) (.Constant (.str x) j pos) :=
 fun X g => PE.of pe_str (tC_of (by subst hx; exact ⟨rfl, hl⟩))
theorem ja_nil : JA G n sc N df m .nil [] := fun X g => PA.of pa_nil fun s H Q q => by
 obtain ⟨r, fr, h, ds, h', sr, hr, e, q⟩ := q
 simp only [Ev.evs] at e
 cases e
 exact q [] H r .nil hr .refl
theorem ja_cons {es : Es} {xs : List Expr} (ha : JE G n sc N df m a xa) (hs : JA G n sc N df m es xs) (hst : ∀ env : Env, starEach (xa :: xs) env = (false, eval xa env) :: starEach xs env := by intro _; rfl) : JA G n sc N df m (.cons a es) (xa :: xs) :=
 fun X g => PA.of (pa_cons (ha X g) (hs X g) (hst _)) fun s H Q q => by
  obtain ⟨r, fr, h, ds, h', sr, hr, e, q⟩ := q
  simp only [Ev.evs] at e
  obtain ⟨d, h1, e1, e⟩ := Ev.bind_eq_ok e
  obtain ⟨ds', h2, e2, e⟩ := Ev.bind_eq_ok e
  cases e
  refine ⟨r, fr, h, d, h1, sr, hr, e1, fun v H1 r1 v1 hr1 f1 => ?_⟩
  refine ⟨r1, fr, h1, ds', _, sr.mono f1, hr1, e2, fun vs H2 r2 v2 hr2 f2 => ?_⟩
  exact q _ H2 r2 (.cons (v1.mono f2) v2) hr2 (f1.trans f2)
theorem je_tup {es : Es} {xs : List Expr} {k} (hs : JA G n sc N df m es xs) : JE G n sc N df m (.tup es) (.Tuple xs k pos) := fun X g => PE.of (pe_tup (hs X g)) fun s H Q q => by
 obtain ⟨r, fr, h, d, h', sr, hr, e, q⟩ := q
 simp only [Ev.ev] at e
 obtain ⟨ds, h1, e1, e⟩ := Ev.bind_eq_ok e
 split at e
 ·rename_i z
  cases e
  refine ⟨r, fr, h, ds, _, sr, hr, e1, fun vs H1 r1 v1 hr1 f1 => ⟨by rw [v1.length, ← big_eq]; exact z, fun p hp => ?_⟩⟩
  exact (q.later f1).tup v1 hr1 hp
 ·cases e
theorem je_lst {es : Es} {xs : List Expr} (hs : JA G n sc N df m es xs) : JE G n sc N df m (.lst es) (.List xs pos) := fun X g => PE.of (pe_lst (hs X g)) fun s H Q q => by
 obtain ⟨r, fr, h, d, h', sr, hr, e, q⟩ := q
 simp only [Ev.ev] at e
 obtain ⟨ds, h1, e1, e⟩ := Ev.bind_eq_ok e
 refine ⟨r, fr, h, ds, h1, sr, hr, e1, fun vs H1 r1 v1 hr1 f1 => ?_⟩
 exact (q.later f1).lst e v1 hr1
theorem two_of {K : PySem.W.Frag} {P : Phi} {f : D → D → Hh → R D} {e' : E} (he : ∀ fr h, Ev.ev P e' fr h = (Ev.ev P a fr h).bind fun x h1 => (Ev.ev P b fr h1).bind fun y h2 => f x y h2) :
  ∀ s H Q, tJ K m P e' s H Q → tOp (rD2 K f) (tJ K m P a) (tJ K m P b) s H Q := fun s H Q q => by
 obtain ⟨r, fr, h, d, h', sr, hr, e, q⟩ := q
 rw [he] at e
 obtain ⟨x, h1, e1, e⟩ := Ev.bind_eq_ok e
 obtain ⟨y, h2, e2, e⟩ := Ev.bind_eq_ok e
 refine ⟨r, fr, h, x, h1, sr, hr, e1, fun v H1 r1 v1 hr1 f1 => ?_⟩
 refine ⟨r1, fr, h1, y, h2, sr.mono f1, hr1, e2, fun u H2 r2 v2 hr2 f2 => ?_⟩
 exact ⟨r2, h2, x, y, d, h', hr2, v1.mono f2, v2, e, q.later (f1.trans f2)⟩
theorem je_bin {o : BOp} {op : Operator} (ho : ∀ X, Good G n sc N df X → OpR X (binaryOp op) (rD2 X.K (Ev.bop o))) (ha : JE G n sc N df m a xa) (hb : JE G n sc N df m b xb) : JE G n sc N df m (.bin o a b) (.BinOp xa op xb pos) :=
 fun X g => PE.of (pe_op (ho X g) (ha X g) (hb X g)) (two_of fun fr h => by simp only [Ev.ev])
noncomputable def cmpD (o : COp) : D → D → Hh → R D := fun x y h => R.of ((Ev.cop o x y h).map .bl) h
theorem je_cmp {o : COp} {op : CmpOp} (ho : ∀ X, Good G n sc N df X → OpR X (compareOp op) (rD2 X.K (cmpD o))) (ha : JE G n sc N df m a xa) (hb : JE G n sc N df m b xb) (hm : behindInMarks op xb = false) : JE G n sc N df m (.cmp o a b) (.Compare xa [op] [xb] pos) :=
 fun X g => PE.of (pe_cmpR (ho X g) (ha X g) (hb X g) hm) (two_of fun fr h => by simp only [Ev.ev, cmpD])
theorem cmpD_ok {o : COp} {x y d : D} {h h' : Hh} (e : cmpD o x y h = .ok d h') : ∃ k, Ev.cop o x y h = some k ∧ d = .bl k ∧ h' = h := by
 unfold cmpD at e
 obtain ⟨e1, rfl⟩ := Ev.of_eq_ok e
 cases z : Ev.cop o x y h' with
 | none => rw [z] at e1; cases e1
 | some k => rw [z] at e1; cases e1; exact ⟨k, rfl, rfl, rfl⟩
theorem jt_cmp {o : COp} {op : CmpOp} (ho : ∀ X, Good G n sc N df X → OpR X (compareOp op) (rD2 X.K (cmpD o))) (ha : JE G n sc N df m a xa) (hb : JE G n sc N df m b xb) (hm : behindInMarks op xb = false) : JT G n sc N df m (.cmp o a b) (.Compare xa [op] [xb] pos) :=
 fun X g => PT.of (pt_cmpR (ho X g) (ha X g) (hb X g) hm) fun s H Q q => by
  obtain ⟨r, fr, h, k, h', sr, hr, e, q⟩ := q
  simp only [Ev.evT] at e
  obtain ⟨d, h1, e1, e⟩ := Ev.bind_eq_ok e
  have e0 := e1
  simp only [Ev.ev] at e0
  obtain ⟨x, h2, _, e0⟩ := Ev.bind_eq_ok e0
  obtain ⟨y, h3, _, e0⟩ := Ev.bind_eq_ok e0
  obtain ⟨k', e2, e3, e4⟩ := cmpD_ok (o := o) (show cmpD o x y h3 = _ from e0)
  subst e3
  simp only [Ev.truthy] at e
  cases e
  refine two_of (e' := .cmp o a b) (f := cmpD o) (fun fr h => by simp only [Ev.ev, cmpD]) s H _ ⟨r, fr, h, .bl k, _, sr, hr, e1, fun v H1 r1 v1 hr1 f1 => ?_⟩
  exact ⟨k, v1, q H1 r1 hr1 f1⟩
end
end Sm
set_option maxRecDepth 100000
namespace Sm
open PySem PySem.Spec PyProof.Rows L2
open Ev (D O Hh Fr R Phi E Es Eo It T S Ss Fl Src BOp COp TY BI ME)
section
variable {G : Tb} {n : Nat} {sc : Scope} {N : List Str} {df : Bool} {m : List Nat} {a b c : E} {xa xb xc : Expr} {pos : Pos}
theorem je_neg (ha : JE G n sc N df m a xa) : JE G n sc N df m (.neg a) (.UnaryOp .USub xa pos) := fun X g => PE.of (pe_un un_neg (ha X g)) fun s H Q q => by
 obtain ⟨r, fr, h, d, h', sr, hr, e, q⟩ := q
 simp only [Ev.ev] at e
 obtain ⟨x, h1, e1, e⟩ := Ev.bind_eq_ok e
 split at e
 ·cases e
  exact ⟨r, fr, h, _, _, sr, hr, e1, fun v H1 r1 v1 hr1 f1 => ⟨_, v1, (q.later f1).here rfl hr1⟩⟩
 ·cases e
theorem je_ife (ha : JT G n sc N df m a xa) (hb : JE G n sc N df m b xb) (hc : JE G n sc N df m c xc) : JE G n sc N df m (.ife a b c) (.IfExp xa xb xc pos) := fun X g => PE.of (pe_ifExp (ha X g) (hb X g) (hc X g)) fun s H Q q => by
 obtain ⟨r, fr, h, d, h', sr, hr, e, q⟩ := q
 simp only [Ev.ev] at e
 obtain ⟨k, h1, e1, e⟩ := Ev.bind_eq_ok e
 refine ⟨r, fr, h, k, h1, sr, hr, e1, fun H1 r1 hr1 f1 => ?_⟩
 cases k with
 | true => exact ⟨r1, fr, h1, d, h', sr.mono f1, hr1, e, q.later f1⟩
 | false => exact ⟨r1, fr, h1, d, h', sr.mono f1, hr1, e, q.later f1⟩
theorem jt_w (h : JW G n sc N df m a xa) : JT G n sc N df m a xa := fun X g => (h X g).pt
theorem jw_an1 (ha : JT G n sc N df m a xa) : JW G n sc N df m a (.BoolOp .And [xa] pos) := fun X g => pw_and1 (ha X g)
theorem jw_orr1 (ha : JT G n sc N df m a xa) : JW G n sc N df m a (.BoolOp .Or [xa] pos) := fun X g => pw_or1 (ha X g)
theorem jw_an {rest : List Expr} (ha : JT G n sc N df m a xa) (hb : JW G n sc N df m b (.BoolOp .And (xb :: rest) pos)) : JW G n sc N df m (.an a b) (.BoolOp .And (xa :: xb :: rest) pos) := fun X g => PW.of (pw_and (ha X g) (hb X g)) fun s H Q q => by
 obtain ⟨r, fr, h, k, h', sr, hr, e, q⟩ := q
 simp only [Ev.evT] at e
 obtain ⟨k1, h1, e1, e⟩ := Ev.bind_eq_ok e
 refine ⟨r, fr, h, k1, h1, sr, hr, e1, fun H1 r1 hr1 f1 => ?_⟩
 cases k1 with
 | true => exact ⟨r1, fr, h1, k, h', sr.mono f1, hr1, e, fun H2 r2 hr2 f2 => q H2 r2 hr2 (f1.trans f2)⟩
 | false =>
  have e' : R.ok false h1 = R.ok k h' := e
  cases e'
  exact q H1 r1 hr1 f1
theorem jw_orr {rest : List Expr} (ha : JT G n sc N df m a xa) (hb : JW G n sc N df m b (.BoolOp .Or (xb :: rest) pos)) : JW G n sc N df m (.orr a b) (.BoolOp .Or (xa :: xb :: rest) pos) := fun X g => PW.of (pw_or (ha X g) (hb X g)) fun s H Q q => by
 obtain ⟨r, fr, h, k, h', sr, hr, e, q⟩ := q
 simp only [Ev.evT] at e
 obtain ⟨k1, h1, e1, e⟩ := Ev.bind_eq_ok e
 refine ⟨r, fr, h, k1, h1, sr, hr, e1, fun H1 r1 hr1 f1 => ?_⟩
 cases k1 with
 | false => exact ⟨r1, fr, h1, k, h', sr.mono f1, hr1, e, fun H2 r2 hr2 f2 => q H2 r2 hr2 (f1.trans f2)⟩
 | true =>
  have e' : R.ok true h1 = R.ok k h' := e
  cases e'
  exact q H1 r1 hr1 f1
theorem jt_nt (ha : JT G n sc N df m a xa) : JT G n sc N df m (.nt a) (.UnaryOp .Not xa pos) := fun X g => PT.of (pt_not (ha X g)) fun s H Q q => by
 obtain ⟨r, fr, h, k, h', sr, hr, e, q⟩ := q
 simp only [Ev.evT] at e
 obtain ⟨k1, h1, e1, e⟩ := Ev.bind_eq_ok e
 cases e
 exact ⟨r, fr, h, k1, _, sr, hr, e1, fun H1 r1 hr1 f1 => q H1 r1 hr1 f1⟩
theorem tru_of {K : PySem.W.Frag} {H : Hp} {r : List Addr} {h : Hh} {d : D} {v : V} {k : Bool} (hr : HR K H r h) (v1 : RV K H r d v) (e : Ev.truthy h d = some k) : TruV K v H k := by
 cases d with
 | non => simp only [RV] at v1; subst v1; cases e; rfl
 | bl x => simp only [RV] at v1; subst v1; cases e; rfl
 | int x => simp only [RV] at v1; subst v1; cases e; rfl
 | str x =>
  simp only [RV] at v1
  obtain ⟨rfl, z⟩ := v1
  cases e
  refine ⟨by rw [sOf_len]; exact z, ?_⟩
  rw [sOf_len]
  cases x with
  | nil => rfl
  | cons c l => simp; omega
 | tup ds =>
  simp only [RV] at v1
  obtain ⟨p, vs, rfl, z, q⟩ := v1
  cases e
  refine .inr (.inl ⟨vs, z, ?_⟩)
  have hl := q.length
  cases ds <;> cases vs <;> simp_all
 | ref i =>
  simp only [RV] at v1
  obtain ⟨p, rfl, z⟩ := v1
  simp only [Ev.truthy, Option.map_eq_some_iff] at e
  obtain ⟨ds, e1, rfl⟩ := e
  obtain ⟨p', vs, e2, q1, q2⟩ := hr.read e1
  rw [z] at e2; cases e2
  refine .inl ⟨vs, q1, ?_⟩
  have hl := q2.length
  cases ds <;> cases vs <;> simp_all
theorem jt_val (ha : JE G n sc N df m a xa) (he : ∀ (P : Phi) fr h, Ev.evT P a fr h = (Ev.ev P a fr h).bind fun x h1 => R.of (Ev.truthy h1 x) h1 := by intros; simp only [Ev.evT])
  (hx : ∀ (env : Env) whole, isTrue xa env whole = (do let v ← whole; standAt xa.pos; holding [v] (truthy v)) := by intro _ _; rfl) : JT G n sc N df m a xa := fun X g => PT.of (pt_truth (ha X g) (hx _)) fun s H Q q => by
 obtain ⟨r, fr, h, k, h', sr, hr, e, q⟩ := q
 rw [he] at e
 obtain ⟨d, h1, e1, e⟩ := Ev.bind_eq_ok e
 obtain ⟨e, rfl⟩ := Ev.of_eq_ok e
 refine ⟨r, fr, h, d, _, sr, hr, e1, fun v H1 r1 v1 hr1 f1 => ⟨k, tru_of hr1 v1 e, q H1 r1 hr1 f1⟩⟩
noncomputable def ixR : D → D → Hh → R D := fun x y h => R.of (Ev.ixd x y h) h
theorem je_ix (ho : ∀ X, Good G n sc N df X → IxR X (rD2 X.K ixR)) (ha : JE G n sc N df m a xa) (hb : JE G n sc N df m b xb) (hs : PlainIx xb := by intro _ _; rfl) : JE G n sc N df m (.ix a b) (.Subscript xa xb pos) :=
 fun X g => PE.of (pe_ix (ho X g) (ha X g) (hb X g) hs) (two_of fun fr h => by simp only [Ev.ev, ixR])
theorem jo_no : JO G n sc N df m .no none := fun X g => PO.of po_none fun s H Q q => by
 obtain ⟨r, fr, h, o, h', sr, hr, e, q⟩ := q
 simp only [Ev.evo] at e
 cases e
 exact q H r hr .refl
theorem jo_yes (ha : JE G n sc N df m a xa) : JO G n sc N df m (.yes a) (some xa) := fun X g => PO.of (po_some (ha X g)) fun s H Q q => by
 obtain ⟨r, fr, h, o, h', sr, hr, e, q⟩ := q
 simp only [Ev.evo] at e
 obtain ⟨d, h1, e1, e⟩ := Ev.bind_eq_ok e
 obtain ⟨e, rfl⟩ := Ev.of_eq_ok e
 cases d with
 | int i =>
  cases e
  exact ⟨r, fr, h, .int i, _, sr, hr, e1, fun v H1 r1 v1 hr1 f1 => ⟨i, v1, q H1 r1 hr1 f1⟩⟩
 | _ => cases e
theorem je_sl {lo hi : Eo} {xl xh : Option Expr} {p2} (ho : ∀ X, Good G n sc N df X → SlR X (rDs X.K)) (ha : JE G n sc N df m a xa) (hl : JO G n sc N df m lo xl) (hu : JO G n sc N df m hi xh) : JE G n sc N df m (.sl a lo hi) (.Subscript xa (.Slice xl xh none p2) pos) :=
 fun X g => PE.of (pe_slice (ho X g) (ha X g) (hl X g) (hu X g)) fun s H Q q => by
  obtain ⟨r, fr, h, d, h', sr, hr, e, q⟩ := q
  simp only [Ev.ev] at e
  obtain ⟨x, h1, e1, e⟩ := Ev.bind_eq_ok e
  obtain ⟨l, h2, e2, e⟩ := Ev.bind_eq_ok e
  obtain ⟨u, h3, e3, e⟩ := Ev.bind_eq_ok e
  refine ⟨r, fr, h, x, h1, sr, hr, e1, fun v H1 r1 v1 hr1 f1 => ?_⟩
  refine ⟨r1, fr, h1, l, h2, sr.mono f1, hr1, e2, fun H2 r2 hr2 f2 => ?_⟩
  refine ⟨r2, fr, h2, u, h3, (sr.mono f1).mono f2, hr2, e3, fun H3 r3 hr3 f3 => ?_⟩
  exact ⟨r3, h3, x, d, h', hr3, (v1.mono f2).mono f3, e, q.later ((f1.trans f2).trans f3)⟩
theorem args_of {K : PySem.W.Frag} {P : Phi} {es : Es} {f : List D → Hh → R D} {e' : E} (he : ∀ fr h, Ev.ev P e' fr h = (Ev.evs P es fr h).bind f) :
  ∀ s H Q, tJ K m P e' s H Q → tCB (rDn K f) (tJA K m P es) s H Q := fun s H Q q => by
 obtain ⟨r, fr, h, d, h', sr, hr, e, q⟩ := q
 rw [he] at e
 obtain ⟨ds, h1, e1, e⟩ := Ev.bind_eq_ok e
 exact ⟨r, fr, h, ds, h1, sr, hr, e1, fun vs H1 r1 v1 hr1 f1 => ⟨r1, h1, ds, d, h', hr1, v1, e, q.later f1⟩⟩
theorem je_bi {k : BI} {es : Es} {x : Str} {id : String} {e0 : Expr} {xs : List Expr} {p : Pos} (hc : ∀ X, Good G n sc N df X → CallR X (.builtin id) (rDn X.K (Ev.bfn k))) (hs : JA G n sc N df m es (e0 :: xs)) (hb : x ∈ G.bl := by decide +kernel)
  (hg : sc.names.lookup x = some .globalImplicit := by rfl) (hv : bootBuiltins x = some (.builtin id)) (hn : x ≠ "__name__" := by decide) (hd : (x == ("__debug__" : Str)) = false := by decide)
  (hst : ∀ env : Env, starEach (e0 :: xs) env = (false, eval e0 env) :: starEach xs env := by intro _; rfl) (hpl : ∀ env : Env, (backTo pos (starEach xs env)).any (·.1) = false := by intro _; rfl) :
  JE G n sc N df m (.bi k es) (.Call (.Name x p) (e0 :: xs) [] pos) :=
 fun X g => PE.of (pe_callB (hc X g) (g.gl hg) (g.bl x hb) hv (hs X g) hn hd (hst _) (hpl _)) (args_of fun fr h => by simp only [Ev.ev])
theorem je_cl {f : Nat} {i : FI} {es : Es} {e0 : Expr} {xs : List Expr} {p : Pos} (hf : G.fi[f]? = some i) (hs : JA G n sc N df m es (e0 :: xs))
  (hg : sc.names.lookup i.name = some .globalImplicit := by rfl) (hd : (i.name == ("__debug__" : Str)) = false := by decide)
  (hst : ∀ env : Env, starEach (e0 :: xs) env = (false, eval e0 env) :: starEach xs env := by intro _; rfl) (hpl : ∀ env : Env, (backTo pos (starEach xs env)).any (·.1) = false := by intro _; rfl) :
  JE G n sc N df m (.cl f es) (.Call (.Name i.name p) (e0 :: xs) [] pos) := fun X g => by
 obtain ⟨h1, h2, h3, h4⟩ := g.fn f i hf
 refine PE.of (pe_call h4 g.room (g.gl hg) h1 h2 h3 .nil pass0 (hs X g) hd (hst _) (hpl _)) fun s H Q q => ?_
 obtain ⟨r, fr, h, d, h', sr, hr, e, q⟩ := q
 simp only [Ev.ev] at e
 obtain ⟨ds, h5, e1, e⟩ := Ev.bind_eq_ok e
 refine ⟨r, fr, h, ds, h5, sr, hr, e1, fun vs H1 r1 v1 hr1 f1 => ?_⟩
 exact ⟨r1, h5, ds, d, h', by rw [List.append_nil]; exact v1, hr1, e, q.later f1⟩
noncomputable def meTy : ME → String
 | .join => "str"
 | _ => "list"
theorem rcv_ty {K : PySem.W.Frag} {H : Hp} {r : List Addr} {h : Hh} {k : ME} {d : D} {v : V} {ty : String} (hr : HR K H r h) (v1 : RV K H r d v) (e : Ev.rcv k d h = true) (ht : ty = meTy k) : tyV K ty v H := by
 subst ht
 have lst : ∀ i, d = .ref i → (Ev.lstOf h i).isSome = true → tyV K "list" v H := fun i ed es => by
  subst ed
  obtain ⟨ds, e1⟩ := Option.isSome_iff_exists.mp es
  obtain ⟨p, vs, e2, q1, q2⟩ := hr.read e1
  simp only [RV] at v1
  obtain ⟨p', rfl, e3⟩ := v1
  rw [e2] at e3; cases e3
  exact .inl ⟨rfl, vs, q1⟩
 cases k with
 | join =>
  cases d with
  | str l => simp only [RV] at v1; obtain ⟨rfl, _⟩ := v1; rfl
  | _ => cases e
 | append => cases d with | ref i => exact lst i rfl e | _ => cases e
 | extend => cases d with | ref i => exact lst i rfl e | _ => cases e
 | pop => cases d with | ref i => exact lst i rfl e | _ => cases e
theorem je_me {k : ME} {es : Es} {e0 : Expr} {xs : List Expr} {name : Str} {apos : Pos} {ty id : String} (pa : PlainAttrs ty) (slot : Slot ty name id) (hty : typeOf (.builtin id) = pure (.type "method_descriptor"))
  (hm : ∀ X, Good G n sc N df X → MtR X id (rDm X.K (Ev.mef k))) (ht : ty = meTy k) (ha : JE G n sc N df m a xa) (hs : JA G n sc N df m es (e0 :: xs))
  (hbase : ∀ env : Env, attributeBase xa name env (eval xa env) = eval xa env := by intro _; rfl)
  (hfew : ∀ env : Env, ((backTo pos (starEach (e0 :: xs) env)).all (fun x => !x.1) && (backToKw pos (keywordEach [] env)).all (fun x => x.1.isSome)
   && decide ((e0 :: xs).length + ([] : List Keyword).length + (if ([] : List Keyword).isEmpty then 0 else 1) < 30)) = true := by intro _; rfl)
  (hline : (apos.endLine == pos.line) = true := by rfl) (hst : ∀ env : Env, starEach (e0 :: xs) env = (false, eval e0 env) :: starEach xs env := by intro _; rfl) (hpl : ∀ env : Env, (backTo pos (starEach xs env)).any (·.1) = false := by intro _; rfl) :
  JE G n sc N df m (.me k a es) (.Call (.Attribute xa name apos) (e0 :: xs) [] pos) := fun X g =>
 PE.of (pe_bm pa slot hty (hm X g) (ha X g) (hs X g) (hbase _) (hfew _) hline (hst _) (hpl _)) fun s H Q q => by
  obtain ⟨r, fr, h, d, h', sr, hr, e, q⟩ := q
  simp only [Ev.ev] at e
  obtain ⟨x, h1, e1, e⟩ := Ev.bind_eq_ok e
  split at e
  ·rename_i hk
   obtain ⟨ds, h2, e2, e⟩ := Ev.bind_eq_ok e
   refine ⟨r, fr, h, x, h1, sr, hr, e1, fun v H1 r1 v1 hr1 f1 => ⟨rcv_ty hr1 v1 hk ht, ?_⟩⟩
   refine ⟨r1, fr, h1, ds, h2, sr.mono f1, hr1, e2, fun vs H2 r2 v2 hr2 f2 => ?_⟩
   exact ⟨r2, h2, x, ds, d, h', hr2, v1.mono f2, v2, e, q.later (f1.trans f2)⟩
  ·cases e
theorem je_me0 {k : ME} {name : Str} {apos : Pos} {ty id : String} (pa : PlainAttrs ty) (slot : Slot ty name id) (hty : typeOf (.builtin id) = pure (.type "method_descriptor"))
  (hm : ∀ X, Good G n sc N df X → MtR X id (rDm X.K (Ev.mef k))) (ht : ty = meTy k) (ha : JE G n sc N df m a xa)
  (hbase : ∀ env : Env, attributeBase xa name env (eval xa env) = eval xa env := by intro _; rfl) (hline : (apos.endLine == pos.line) = true := by rfl) :
  JE G n sc N df m (.me k a .nil) (.Call (.Attribute xa name apos) [] [] pos) := fun X g =>
 PE.of (pe_bm0 pa slot hty (hm X g) (ha X g) (hbase _) hline) fun s H Q q => by
  obtain ⟨r, fr, h, d, h', sr, hr, e, q⟩ := q
  simp only [Ev.ev] at e
  obtain ⟨x, h1, e1, e⟩ := Ev.bind_eq_ok e
  split at e
  ·rename_i hk
   simp only [Ev.evs, Ev.bind_ok] at e
   refine ⟨r, fr, h, x, h1, sr, hr, e1, fun v H1 r1 v1 hr1 f1 => ⟨rcv_ty hr1 v1 hk ht, ?_⟩⟩
   exact ⟨r1, h1, x, [], d, h', hr1, v1, .nil, e, q.later f1⟩
  ·cases e
end
end Sm
set_option maxRecDepth 100000
namespace Sm
open PySem PySem.Spec PyProof.Rows L2
open Ev (D O Hh Fr R Phi E Es Eo T S Ss Fl Src BOp COp TY BI ME)
noncomputable def ItOf (K : PySem.W.Frag) (r0 : List Addr) (H0 : Hp) (s : Src) (J : L2.It) : Prop := ∀ (i : Nat) H1 r1 h1, HR K H1 r1 h1 → Fm K r0 r1 H0 H1 → Ev.stays h1 s.2 = true →
 (∀ d, s.1[i]? = some d → J.go i H1 ∧ ∀ x H2, J.yld i H1 x H2 → ∃ r2, RV K H2 r2 d x ∧ HR K H2 r2 h1 ∧ Fm K r1 r2 H1 H2) ∧ (s.1.length ≤ i → J.stop i H1)
inductive tJI (K : PySem.W.Frag) (m : List Nat) (P : Phi) (it : Ev.It) (s : L2.St) (H : Hp) (Rr : L2.It → Hp → Prop) : Prop
 | mk (r : List Addr) (fr : Fr) (h : Hh) (src : Src) (h' : Hh) (c0 : SR K m H r fr s) (c1 : HR K H r h) (c2 : Ev.evi P it fr h = .ok src h') (c3 : ∀ J H' r', HR K H' r' h' → Fm K r r' H H' → ItOf K r' H' src J → Rr J H') : tJI K m P it s H Rr
noncomputable def JI (G : Tb) (n : Nat) (sc : Scope) (N : List Str) (df : Bool) (m : List Nat) (it : Ev.It) (tg x : Expr) : Prop := ∀ X, Good G n sc N df X → PI X tg x (tJI X.K m (Ev.run G.F G.w n) it)
noncomputable def Its (z : Str) : L2.It := ⟨fun i _ => i < z.length, fun i H x H' => H' = H ∧ ∃ c, z.cps[i]? = some c ∧ x = .str ⟨#[c]⟩, fun i _ => z.length ≤ i⟩
theorem go_str {M : Model} {A : Around} {E : Value → Shared → Prop} {s : Shared} {tg : Expr} {it : Value} {x : Str} {t : Tok} {Q : Unit → Shared → Prop} (hQ : Q () s) : wpAny M A (letOwnedTupleGo tg it (.str x t)) Q E s := by
 unfold letOwnedTupleGo
 cases tg <;> first
  | exact wpAny_pure hQ
  | (cases it <;> exact wpAny_pure hQ)
theorem turn_str {P : Program} {w : World} {K : PySem.W.Frag} {tg : Expr} (z : Str) (t : Tok) (it : Addr) (ty : String) (hty : ty = "str_ascii_iterator" ∨ ty = "str_iterator") :
  Turn P w K tg (Its z) [it] it (fun i h => h.IsStrIter it ty z t i) where
 mem := by simp
 obj := fun i h st b hb => by
  have e : b = it := by simpa using hb
  subst e
  obtain ⟨o, e, c, d⟩ := st
  exact ⟨o, e, fun v z => by rw [d] at z; cases z⟩
 keep := fun i h h' st k => by
  obtain ⟨o, e, c, d⟩ := st
  exact ⟨o, k it (by simp) o e, c, d⟩
 item := by
  intro X hP hw hK hc i pins s σ H E I hf st hg
  subst hP hw hK
  obtain ⟨f0, f1, f2, f3, f4, f5⟩ := hf it (by simp)
  have W : Walks X.prog X.w X.A it [it] [it] z.cps.size (SignAt z) (fun i h => h.IsStrIter it ty z t i) := by
   rcases hty with e | e
   ·subst e; exact Walks.strAscii (I.ok.hd hc) it z t
   ·subst e; exact Walks.strWide (I.ok.hd hc) it z t
  refine W.item i s _ _ hg st fun v h' tk hv st' kk => ?_
  obtain ⟨c, u, hc', rfl⟩ := hv
  have I1 : Inv X pins σ H { s with heap := h', toks := tk } := I.turned (fun b o hb e => kk b o (by simpa using hb) e) f0 f1 f3 f4 f5
  exact ⟨_, rfl, go_str ⟨.str ⟨#[c]⟩, H, I1, ⟨u, rfl⟩, ⟨rfl, c, hc', rfl⟩, st', fun b hb => (hf b hb).1⟩⟩
 done := by
  intro X hP hw hK hc i pins s σ H E I hf st hg
  subst hP hw hK
  obtain ⟨f0, f1, f2, f3, f4, f5⟩ := hf it (by simp)
  rcases hty with e | e
  ·subst e
   exact wpAny_pyNext_ascii_end (I.ok.hd hc) st (by simpa [Str.length, Its] using hg) fun h' eb => ⟨rfl, I.turned (t' := s.toks) (fun b o hb e => eb b o hb e) f0 f1 f3 f4 f5⟩
  ·subst e
   exact wpAny_pyNext_wide_end (I.ok.hd hc) st (by simpa [Str.length, Its] using hg) fun h' eb => ⟨rfl, I.turned (t' := s.toks) (fun b o hb e => eb b o hb e) f0 f1 f3 f4 f5⟩
 self := fun _ _ _ _ _ st h => by
  rcases hty with e | e
  ·subst e; exact wpAny_pyIter_striter_ascii st h
  ·subst e; exact wpAny_pyIter_striter_wide st h
noncomputable def IterV (K : PySem.W.Frag) (x : V) (H : Hp) (Rr : L2.It → Hp → Prop) : Prop :=
 (∃ a xs, x = .ref a ∧ SqL K H a xs ∧ Rr (Itl K a) H) ∨ (∃ a xs, x = .ref a ∧ SqT K H a xs ∧ Rr (Itt K a) H) ∨ ∃ z, x = .str z ∧ Rr (Its z) H
theorem pi_any {X : Cx} {tg l : Expr} {tl : TE} {wi : TI} (hl : PE X l tl) (hw : ∀ s H Rr, wi s H Rr → tl s H fun x H1 => IterV X.K x H1 Rr) : PI X tg l wi := by
 intro pins s σ H Rr I h
 refine thn (hl pins s σ H _ I (hw _ _ _ h)) fun v s1 ⟨x, H1, I1, r1, q1⟩ => ?_
 have fp : ∀ (o : Obj) b, b ∈ [s1.heap.objs.size] → FpOk X pins H1 b := fun o b hb => by
  have e : b = s1.heap.objs.size := by simpa using hb
  subst e
  exact I1.fpOk (Nat.le_refl _) (I1.hok.fresh (Nat.le_refl _))
 rcases q1 with ⟨a, xs, rfl, hq, q⟩ | ⟨a, xs, rfl, hq, q⟩ | ⟨z, rfl, q⟩
 ·cases r1
  obtain ⟨its, rv, p, hz⟩ := I1.list hq
  refine wpAny_pyIter_list p.isList ?_
  exact ⟨s1.heap.objs.size, [s1.heap.objs.size], _, _, H1, rfl, I1.kept (t' := s1.toks) fun b o e => Heap.get?_push_of_some _ e, turn_list a _, ⟨_, Heap.get?_push_size _ rfl, rfl, rfl⟩, fp default, q⟩
 ·cases r1
  obtain ⟨its, rv, p, hz⟩ := I1.tuple hq
  refine wpAny_pyIter_tuple (show s1.heap.IsTuple a its.toArray from p) ?_
  exact ⟨s1.heap.objs.size, [s1.heap.objs.size], _, _, H1, rfl, I1.kept (t' := s1.toks) fun b o e => Heap.get?_push_of_some _ e, turn_tuple a _, ⟨_, Heap.get?_push_size _ rfl, rfl, rfl⟩, fp default, q⟩
 ·obtain ⟨t, rfl⟩ := r1
  cases ha : z.cps.all (· < 128)
  ·refine wpAny_pyIter_wide ha ?_
   exact ⟨s1.heap.objs.size, [s1.heap.objs.size], _, _, H1, rfl, I1.kept (t' := s1.toks) fun b o e => Heap.get?_push_of_some _ e, turn_str z t _ _ (.inr rfl), ⟨_, Heap.get?_push_size _ rfl, rfl, rfl⟩, fp default, q⟩
  ·refine wpAny_pyIter_ascii ha ?_
   exact ⟨s1.heap.objs.size, [s1.heap.objs.size], _, _, H1, rfl, I1.kept (t' := s1.toks) fun b o e => Heap.get?_push_of_some _ e, turn_str z t _ _ (.inl rfl), ⟨_, Heap.get?_push_size _ rfl, rfl, rfl⟩, fp default, q⟩
theorem stays_one {h : Hh} {n : Nat} {ds : List D} (e : Ev.stays h [(n, ds)] = true) : Ev.lstOf h n = some ds := by
 simp only [Ev.stays, Bool.and_true] at e
 split at e
 ·rename_i es q
  rw [q, (Ev.sameL_iff _ _).mp e]
 ·cases e
theorem iter_of {K : PySem.W.Frag} {H : Hp} {r : List Addr} {h : Hh} {d : D} {v : V} {src : Src} {Rr : L2.It → Hp → Prop} (hr : HR K H r h) (v1 : RV K H r d v) (e : Ev.seqOf h d = some src) (q : ∀ J, ItOf K r H src J → Rr J H) : IterV K v H Rr := by
 cases d with
 | tup ds =>
  simp only [RV] at v1
  obtain ⟨a, vs, rfl, z, w⟩ := v1
  cases e
  refine .inr (.inl ⟨a, vs, rfl, z, q _ fun i H1 r1 h1 hr1 f1 st => ⟨fun d' e' => ?_, fun hl => ?_⟩⟩)
  ·obtain ⟨u, e1, e2⟩ := w.get e'
   refine ⟨⟨vs, u, f1.tups _ _ z, e1⟩, fun x H2 y => ?_⟩
   obtain ⟨rfl, y⟩ := y
   have := y vs (f1.tups _ _ z)
   rw [e1] at this; cases this
   exact ⟨r1, e2.mono f1, hr1, .refl⟩
  ·exact ⟨vs, f1.tups _ _ z, by rw [w.length]; exact hl⟩
 | str l =>
  simp only [RV] at v1
  obtain ⟨rfl, z⟩ := v1
  cases e
  refine .inr (.inr ⟨_, rfl, q _ fun i H1 r1 h1 hr1 f1 st => ⟨fun d' e' => ?_, fun hl => ?_⟩⟩)
  ·rw [List.getElem?_map] at e'
   cases e2 : l[i]? with
   | none => rw [e2] at e'; cases e'
   | some c =>
    rw [e2] at e'
    cases e'
    refine ⟨by show i < (sOf l).length; rw [sOf_len]; exact (List.getElem?_eq_some_iff.mp e2).1, fun x H2 y => ?_⟩
    obtain ⟨rfl, c', y1, rfl⟩ := y
    have e3 : (sOf l).cps[i]? = some c := by simp [sOf, e2]
    rw [e3] at y1; cases y1
    exact ⟨r1, ⟨rfl, by show 1 ≤ sizeLine; decide⟩, hr1, .refl⟩
  ·show (sOf l).length ≤ i
   rw [sOf_len]; simpa using hl
 | ref k =>
  simp only [RV] at v1
  obtain ⟨a, rfl, z⟩ := v1
  simp only [Ev.seqOf, Option.map_eq_some_iff] at e
  obtain ⟨ds, e1, rfl⟩ := e
  obtain ⟨a', vs, e2, e3, e4⟩ := hr.read e1
  rw [z] at e2; cases e2
  refine .inl ⟨a, vs, rfl, e3, q _ fun i H1 r1 h1 hr1 f1 st => ?_⟩
  obtain ⟨a', us, e5, e6, e7⟩ := hr1.read (stays_one st)
  rw [f1.pre _ _ z] at e5; cases e5
  refine ⟨fun d' e' => ?_, fun hl => ⟨us, e6, by rw [e7.length]; exact hl⟩⟩
  obtain ⟨u, g1, g2⟩ := e7.get e'
  refine ⟨⟨us, u, e6, g1⟩, fun x H2 y => ?_⟩
  obtain ⟨rfl, y⟩ := y
  have := y us e6
  rw [g1] at this; cases this
  exact ⟨r1, g2, hr1, .refl⟩
 | _ => cases e
section
variable {G : Tb} {n : Nat} {sc : Scope} {N : List Str} {df : Bool} {m : List Nat} {a b c : E} {xa xb xc tg : Expr} {pos : Pos}
theorem ji_seq (ha : JE G n sc N df m a xa) : JI G n sc N df m (.seq a) tg xa := fun X g => pi_any (ha X g) fun s H Rr q => by
 obtain ⟨r, fr, h, src, h', sr, hr, e, q⟩ := q
 simp only [Ev.evi] at e
 obtain ⟨d, h1, e1, e⟩ := Ev.bind_eq_ok e
 obtain ⟨e, rfl⟩ := Ev.of_eq_ok e
 refine ⟨r, fr, h, d, _, sr, hr, e1, fun v H1 r1 v1 hr1 f1 => ?_⟩
 exact iter_of hr1 v1 e fun J hJ => q J H1 r1 hr1 f1 hJ
theorem PI.of {X : Cx} {tg l : Expr} {t t' : TI} (h : PI X tg l t) (w : ∀ s H Q, t' s H Q → t s H Q) : PI X tg l t' := fun pins s σ H Q I q => h pins s σ H Q I (w _ _ _ q)
theorem it_rng {K : PySem.W.Frag} {r : List Addr} {H : Hp} (lo : Int) (k : Nat) : ItOf K r H (Ev.range lo k, []) (Itr lo k) := fun i H1 r1 h1 hr1 f1 st => by
 refine ⟨fun d e => ?_, fun hl => ?_⟩
 ·simp only [Ev.range, List.getElem?_map] at e
  cases e2 : (List.range k)[i]? with
  | none => rw [e2] at e; cases e
  | some j =>
   rw [e2] at e
   cases e
   have hi : i < k := by simpa using (List.getElem?_eq_some_iff.mp e2).1
   have hj : j = i := by
    rw [List.getElem?_range hi] at e2
    exact (Option.some.inj e2).symm
   subst hj
   refine ⟨hi, fun x H2 y => ?_⟩
   obtain ⟨rfl, rfl⟩ := y
   exact ⟨r1, rfl, hr1, .refl⟩
 ·have : (Ev.range lo k).length = k := by simp [Ev.range]
  show k ≤ i
  have hl' : (Ev.range lo k).length ≤ i := hl
  omega
theorem ji_rng1 {e1 : E} {p : Pos} (hs : JA G n sc N df m (.cons e1 .nil) [xa]) (hg : sc.names.lookup ("range" : Str) = some .globalImplicit := by rfl) (hb : ("range" : Str) ∈ G.bl := by decide +kernel)
  (hst : ∀ env : Env, starEach [xa] env = [(false, eval xa env)] := by intro _; rfl) : JI G n sc N df m (.rng (.cons e1 .nil)) tg (.Call (.Name "range" p) [xa] [] pos) := fun X g =>
 PI.of (pi_range1 (g.gl hg) (g.bl _ hb) (hs X g) (hst _)) fun s H Rr q => by
  obtain ⟨r, fr, h, src, h', sr, hr, e, q⟩ := q
  simp only [Ev.evi] at e
  obtain ⟨ds, h1, e1, e⟩ := Ev.bind_eq_ok e
  obtain ⟨e, rfl⟩ := Ev.of_eq_ok e
  refine ⟨r, fr, h, ds, _, sr, hr, e1, fun vs H1 r1 v1 hr1 f1 => ?_⟩
  unfold Ev.rngOf at e
  split at e
  ·rename_i j
   split at e
   ·rename_i hj
    cases e
    simp only [RVs, RV] at v1
    obtain ⟨v, w, rfl, rfl, rfl⟩ := v1
    exact ⟨_, rfl, hj.1, hj.2, q _ H1 r1 hr1 f1 (it_rng 0 _)⟩
   ·cases e
  ·exfalso
   simp only [Ev.evs] at e1
   obtain ⟨d, _, _, e1⟩ := Ev.bind_eq_ok e1
   simp only [Ev.bind_ok] at e1
   cases e1
  ·cases e
inductive gJ (K : PySem.W.Frag) (m : List Nat) (t : T) (v : V) (s : L2.St) (H : Hp) (Q : L2.St → Hp → Prop) : Prop
 | mk (r : List Addr) (fr : Fr) (h : Hh) (d : D) (fr' : Fr) (c0 : SR K m H r fr s) (c1 : HR K H r h) (c2 : RV K H r d v) (c3 : Ev.bindT t d fr = some fr') (c4 : ∀ s' , SR K m H r fr' s' → Q s' H) : gJ K m t v s H Q
noncomputable def JG (G : Tb) (n : Nat) (sc : Scope) (N : List Str) (df : Bool) (m : List Nat) (t : T) (x : Expr) : Prop := ∀ X, Good G n sc N df X → PG X x (gJ X.K m t)
theorem PG.of {X : Cx} {e : Expr} {t t' : TG} (h : PG X e t) (w : ∀ v s H Q, t' v s H Q → t v s H Q) : PG X e t' := fun pins s σ H v u Q I r q => h pins s σ H v u Q I r (w _ _ _ _ q)
theorem SR.set {K : PySem.W.Frag} {m : List Nat} {H : Hp} {r : List Addr} {fr : Fr} {s : L2.St} (sr : SR K m H r fr s) (hm : m.Nodup) {j i : Nat} (hj : m[j]? = some i) {d : D} {v : V} (v1 : RV K H r d v) : SR K m H r (fr.set i (some d)) (s.set j (some v)) := by
 refine ⟨by simp [sr.len], fun j' i' d' e1 e2 => ?_⟩
 by_cases hi : i' = i
 ·subst hi
  have : j' = j := nodup_ix' hm e1 hj
  subst this
  have hlt : i' < fr.length := by
   have := (List.getElem?_eq_some_iff.mp e2).1
   simpa using this
  rw [List.getElem?_set_self hlt] at e2
  cases e2
  refine ⟨v, List.getElem?_set_self ?_, v1⟩
  rw [sr.len]
  exact (List.getElem?_eq_some_iff.mp hj).1
 ·rw [List.getElem?_set_ne (fun z => hi z.symm)] at e2
  obtain ⟨u, q1, q2⟩ := sr.sl j' i' d' e1 e2
  refine ⟨u, ?_, q2⟩
  rw [List.getElem?_set_ne]
  ·exact q1
  ·intro z
   subst z
   rw [hj] at e1; cases e1
   exact hi rfl
where
 nodup_ix' {l : List Nat} (hl : l.Nodup) {i j : Nat} {x : Nat} (a : l[i]? = some x) (b : l[j]? = some x) : i = j := by
  have ha := (List.getElem?_eq_some_iff.mp a)
  have hb := (List.getElem?_eq_some_iff.mp b)
  obtain ⟨h1, e1⟩ := ha
  obtain ⟨h2, e2⟩ := hb
  exact (List.getElem_inj hl).mp (e1.trans e2.symm)
theorem Good.loc {X : Cx} (g : Good G n sc N df X) {x : Str} (h : sc.names.lookup x = some .local ∨ (df = true ∧ sc.names.lookup x = some .cell)) : Loc X.env.scope x ∧ (X.fn x = true ∨ X.env.scope.names.lookup x = some .local) := by
 rw [show Loc X.env.scope x ↔ Loc sc x by rw [g.sc], g.sc]
 rcases h with h | ⟨h1, h⟩
 ·exact ⟨.inl h, .inr h⟩
 ·exact ⟨.inr h, .inl (g.own h1 x)⟩
theorem jg_one (j i : Nat) {x : Str} (hm : m.Nodup) (hN : N.Nodup) (hj : m[j]? = some i := by rfl) (hNj : N[j]? = some x := by rfl)
  (hl : sc.names.lookup x = some .local ∨ (df = true ∧ sc.names.lookup x = some .cell) := by first | exact Or.inl rfl | exact Or.inr ⟨rfl, rfl⟩) : JG G n sc N df m (.one i) (.Name x pos) := fun X g => by
 obtain ⟨h1, h2⟩ := g.loc hl
 refine PG.of (pg_name (i := j) (by rw [g.nm]; exact hN) (by rw [g.nm]; exact hNj) h1 h2) fun v s H Q q => ?_
 obtain ⟨r, fr, h, d, fr', sr, hr, v1, e, q⟩ := q
 cases e
 exact q _ (sr.set hm hj v1)
inductive gJs (K : PySem.W.Frag) (m : List Nat) (l : List Nat) (vs : List V) (s : L2.St) (H : Hp) (Q : L2.St → Hp → Prop) : Prop
 | mk (r : List Addr) (fr : Fr) (h : Hh) (ds : List D) (fr' : Fr) (c0 : SR K m H r fr s) (c1 : HR K H r h) (c2 : RVs K H r ds vs) (c3 : Ev.setAll l ds fr = some fr') (c4 : ∀ s', SR K m H r fr' s' → Q s' H) : gJs K m l vs s H Q
noncomputable def JGs (G : Tb) (n : Nat) (sc : Scope) (N : List Str) (df : Bool) (m : List Nat) (l : List Nat) (xs : List Expr) : Prop := ∀ X, Good G n sc N df X → PGs X xs (gJs X.K m l)
theorem PGs.of {X : Cx} {e : List Expr} {t t' : TGs} (h : PGs X e t) (w : ∀ v s H Q, t' v s H Q → t v s H Q) : PGs X e t' := fun pins s σ H v u Q I r q => h pins s σ H v u Q I r (w _ _ _ _ q)
theorem jgs_nil : JGs G n sc N df m [] [] := fun X g => PGs.of pgs_nil fun vs s H Q q => by
 obtain ⟨r, fr, h, ds, fr', sr, hr, v1, e, q⟩ := q
 cases ds with
 | nil => simp only [RVs] at v1; subst v1; cases e; exact ⟨rfl, q _ sr⟩
 | cons _ _ => cases e
theorem jgs_cons (j i : Nat) {x : Str} {l : List Nat} {xs : List Expr} (hm : m.Nodup) (hN : N.Nodup) (hs : JGs G n sc N df m l xs) (hj : m[j]? = some i := by rfl) (hNj : N[j]? = some x := by rfl)
  (hl : sc.names.lookup x = some .local ∨ (df = true ∧ sc.names.lookup x = some .cell) := by first | exact Or.inl rfl | exact Or.inr ⟨rfl, rfl⟩)
  (hst : ∀ env : Env, (assignEach (.Name x pos :: xs) env).map (·.2) = assign (.Name x pos) env :: (assignEach xs env).map (·.2) := by intro _; rfl) : JGs G n sc N df m (i :: l) (.Name x pos :: xs) := fun X g => by
 obtain ⟨h1, h2⟩ := g.loc hl
 refine PGs.of (pgs_cons (pg_name (i := j) (by rw [g.nm]; exact hN) (by rw [g.nm]; exact hNj) h1 h2) (hs X g) (hst _)) fun vs s H Q q => ?_
 obtain ⟨r, fr, h, ds, fr', sr, hr, v1, e, q⟩ := q
 cases ds with
 | nil => cases e
 | cons d ds =>
  simp only [RVs] at v1
  obtain ⟨v, w, rfl, v2, v3⟩ := v1
  exact ⟨v, w, rfl, r, _, h, ds, fr', sr.set hm hj v2, hr, v3, e, q⟩
theorem jg_many {l : List Nat} {xs : List Expr} {k : Nat} (hs : JGs G n sc N df m l xs) (hn : ∀ env : Env, (assignEach xs env).length = l.length := by intro _; rfl) (hst : ∀ env : Env, (assignEach xs env).findIdx? (·.1) = none := by intro _; rfl) :
  JG G n sc N df m (.many l) (.Tuple xs k pos) := fun X g => PG.of (pg_tup (n := l.length) g.calm (hs X g) (hn _) (hst _)) fun v s H Q q => by
 obtain ⟨r, fr, h, d, fr', sr, hr, v1, e, q⟩ := q
 cases d with
 | tup ds =>
  simp only [RV] at v1
  obtain ⟨p, vs, rfl, z, w⟩ := v1
  have hlen : ∀ (l : List Nat) (ds : List D) fr fr', Ev.setAll l ds fr = some fr' → ds.length = l.length := by
   intro l
   induction l with
   | nil => intro ds fr fr' e; cases ds with | nil => rfl | cons _ _ => cases e
   | cons i l ih => intro ds fr fr' e; cases ds with | nil => cases e | cons d ds => simp [ih ds _ _ e]
  exact ⟨p, vs, rfl, z, by rw [w.length]; exact hlen _ _ _ _ e, r, fr, h, ds, fr', sr, hr, w, e, q⟩
 | _ => cases e
end
end Sm
set_option maxRecDepth 100000
namespace Sm
open PySem PySem.Spec PyProof.Rows L2
open Ev (D O Hh Fr R Phi E Es Eo T S Ss Fl Src BOp COp TY BI ME)
noncomputable def Fin (K : PySem.W.Frag) (m : List Nat) (r : List Addr) (H : Hp) (h' : Hh) (fl : Fl) (fr' : Fr) (Q : Ends) : Prop := match fl with
 | .nx => ∀ s' H' r', SR K m H' r' fr' s' → HR K H' r' h' → Fm K r r' H H' → Q.nx s' H'
 | .bk => ∀ s' H' r', SR K m H' r' fr' s' → HR K H' r' h' → Fm K r r' H H' → Q.bk s' H'
 | .ct => ∀ s' H' r', SR K m H' r' fr' s' → HR K H' r' h' → Fm K r r' H H' → Q.ct s' H'
 | .ret d => Res K r H h' d Q.rt
theorem Fin.later {K : PySem.W.Frag} {m : List Nat} {r r' : List Addr} {H H' : Hp} {h' : Hh} {fl : Fl} {fr' : Fr} {Q : Ends} (q : Fin K m r H h' fl fr' Q) (f : Fm K r r' H H') : Fin K m r' H' h' fl fr' Q := by
 cases fl with
 | nx => exact fun s2 H2 r2 a b g => q s2 H2 r2 a b (f.trans g)
 | bk => exact fun s2 H2 r2 a b g => q s2 H2 r2 a b (f.trans g)
 | ct => exact fun s2 H2 r2 a b g => q s2 H2 r2 a b (f.trans g)
 | ret d => exact Res.later q f
inductive tJS (K : PySem.W.Frag) (m : List Nat) (P : Phi) (w : Nat) (st : S) (Q : Ends) (s : L2.St) (H : Hp) : Prop
 | mk (r : List Addr) (fr : Fr) (h : Hh) (fl : Fl) (fr' : Fr) (h' : Hh) (c0 : SR K m H r fr s) (c1 : HR K H r h) (c2 : Ev.ex P w st fr h = .ok (fl, fr') h') (c3 : Fin K m r H h' fl fr' Q) : tJS K m P w st Q s H
inductive tJSs (K : PySem.W.Frag) (m : List Nat) (P : Phi) (w : Nat) (ss : Ss) (Q : Ends) (s : L2.St) (H : Hp) : Prop
 | mk (r : List Addr) (fr : Fr) (h : Hh) (fl : Fl) (fr' : Fr) (h' : Hh) (c0 : SR K m H r fr s) (c1 : HR K H r h) (c2 : Ev.exs P w ss fr h = .ok (fl, fr') h') (c3 : Fin K m r H h' fl fr' Q) : tJSs K m P w ss Q s H
theorem PS.of {X : Cx} {st : Stmt} {t t' : TS} (h : PS X st t) (w : ∀ Q s H, t' Q s H → t Q s H) : PS X st t' := fun pins s σ H Q I q => h pins s σ H Q I (w _ _ _ q)
theorem PSs.of {X : Cx} {st : List Stmt} {t t' : TS} (h : PSs X st t) (w : ∀ Q s H, t' Q s H → t Q s H) : PSs X st t' := fun pins s σ H Q I q => h pins s σ H Q I (w _ _ _ q)
section
variable (G : Tb) (n : Nat) (sc : Scope) (N : List Str) (df : Bool) (m : List Nat)
noncomputable def JS (st : S) (x : Stmt) : Prop := ∀ X, Good G n sc N df X → PS X x (tJS X.K m (Ev.run G.F G.w n) G.w st)
noncomputable def JSs (ss : Ss) (xs : List Stmt) : Prop := ∀ X, Good G n sc N df X → PSs X xs (tJSs X.K m (Ev.run G.F G.w n) G.w ss)
end
section
variable {G : Tb} {n : Nat} {sc : Scope} {N : List Str} {df : Bool} {m : List Nat} {a b c : E} {xa xb xc tg : Expr} {pos : Pos}
theorem jss_nil : JSs G n sc N df m .nil [] := fun X g => PSs.of pss_nil fun Q s H q => by
 obtain ⟨r, fr, h, fl, fr', h', sr, hr, e, q⟩ := q
 simp only [Ev.exs] at e
 cases e
 exact q s H r sr hr .refl
theorem jss_cons {st : S} {ss : Ss} {x : Stmt} {xs : List Stmt} (h1 : JS G n sc N df m st x) (h2 : JSs G n sc N df m ss xs) : JSs G n sc N df m (.cons st ss) (x :: xs) := fun X g => PSs.of (pss_cons (h1 X g) (h2 X g)) fun Q s H q => by
 obtain ⟨r, fr, h, fl, fr', h', sr, hr, e, q⟩ := q
 simp only [Ev.exs] at e
 obtain ⟨⟨fl1, fr1⟩, h1, e1, e⟩ := Ev.bind_eq_ok e
 refine ⟨r, fr, h, fl1, fr1, h1, sr, hr, e1, ?_⟩
 cases fl1 with
 | nx => exact fun s1 H1 r1 sr1 hr1 f1 => ⟨r1, fr1, h1, fl, fr', h', sr1, hr1, e, q.later f1⟩
 | bk => cases e; exact q
 | ct => cases e; exact q
 | ret d => cases e; exact q
theorem js_set (j i : Nat) {x : Str} {pos' : Pos} (hm : m.Nodup) (hN : N.Nodup) (ha : JE G n sc N df m a xa) (hs : ∀ env : Env, swapsWith xa (some (.Name x pos')) pos.line env = pure false := by intro _; rfl) (hj : m[j]? = some i := by rfl) (hNj : N[j]? = some x := by rfl)
  (hl : sc.names.lookup x = some .local ∨ (df = true ∧ sc.names.lookup x = some .cell) := by first | exact Or.inl rfl | exact Or.inr ⟨rfl, rfl⟩) : JS G n sc N df m (.set i a) (.Assign [.Name x pos'] xa pos) := fun X g => by
 obtain ⟨h1, h2⟩ := g.loc hl
 refine PS.of (ps_set (i := j) (by rw [g.nm]; exact hN) (by rw [g.nm]; exact hNj) h1 (ha X g) (hs _) h2) fun Q s H q => ?_
 obtain ⟨r, fr, h, fl, fr', h', sr, hr, e, q⟩ := q
 simp only [Ev.ex] at e
 obtain ⟨d, h1, e1, e⟩ := Ev.bind_eq_ok e
 cases e
 exact ⟨r, fr, h, d, _, sr, hr, e1, fun v H1 r1 v1 hr1 f1 => q _ H1 r1 ((sr.mono f1).set hm hj v1) hr1 f1⟩
theorem js_setT {l : List Nat} (ha : JE G n sc N df m a xa) (hg : JG G n sc N df m (.many l) tg) (hs : ∀ env : Env, swapsWithSole [tg] xa pos.line env = pure false := by intro _; rfl) (hw : ∀ env : Env, swappedStores [tg] xa env = pure none := by intro _; rfl)
  (h1 : ∀ env : Env, (assignEach [tg] env).map (·.2) = [assign tg env] := by intro _; rfl) : JS G n sc N df m (.setT l a) (.Assign [tg] xa pos) := fun X g => PS.of (ps_asg (ha X g) (hg X g) (hs _) (hw _) (h1 _)) fun Q s H q => by
 obtain ⟨r, fr, h, fl, fr', h', sr, hr, e, q⟩ := q
 simp only [Ev.ex] at e
 obtain ⟨d, h2, e1, e⟩ := Ev.bind_eq_ok e
 split at e
 ·rename_i fr2 e2
  cases e
  exact ⟨r, fr, h, d, _, sr, hr, e1, fun v H1 r1 v1 hr1 f1 => ⟨r1, fr, _, d, _, sr.mono f1, hr1, v1, e2, fun s' sr' => q s' H1 r1 sr' hr1 f1⟩⟩
 ·cases e
theorem js_exp (ha : JE G n sc N df m a xa) (hs : ∀ env : Env, swapsWith xa none pos.line env = pure false := by intro _; rfl) : JS G n sc N df m (.exp a) (.Expr xa pos) := fun X g => PS.of (ps_expr (ha X g) (hs _)) fun Q s H q => by
 obtain ⟨r, fr, h, fl, fr', h', sr, hr, e, q⟩ := q
 simp only [Ev.ex] at e
 obtain ⟨d, h1, e1, e⟩ := Ev.bind_eq_ok e
 cases e
 exact ⟨r, fr, h, d, _, sr, hr, e1, fun v H1 r1 v1 hr1 f1 => q s H1 r1 (sr.mono f1) hr1 f1⟩
theorem js_ret (ha : JE G n sc N df m a xa) : JS G n sc N df m (.ret a) (.Return (some xa) pos) := fun X g => PS.of (ps_ret (ha X g)) fun Q s H q => by
 obtain ⟨r, fr, h, fl, fr', h', sr, hr, e, q⟩ := q
 simp only [Ev.ex] at e
 obtain ⟨d, h1, e1, e⟩ := Ev.bind_eq_ok e
 cases e
 exact ⟨r, fr, h, d, _, sr, hr, e1, q⟩
theorem js_iff {ta tb : Ss} {ya yb : List Stmt} (hc : JT G n sc N df m a xa) (h1 : JSs G n sc N df m ta ya) (h2 : JSs G n sc N df m tb yb) : JS G n sc N df m (.iff a ta tb) (.If xa ya yb pos) := fun X g => PS.of (ps_if (hc X g) (h1 X g) (h2 X g)) fun Q s H q => by
 obtain ⟨r, fr, h, fl, fr', h', sr, hr, e, q⟩ := q
 simp only [Ev.ex] at e
 obtain ⟨k, h3, e1, e⟩ := Ev.bind_eq_ok e
 refine ⟨r, fr, h, k, h3, sr, hr, e1, fun H1 r1 hr1 f1 => ?_⟩
 cases k with
 | true => exact ⟨r1, fr, h3, fl, fr', h', sr.mono f1, hr1, e, q.later f1⟩
 | false => exact ⟨r1, fr, h3, fl, fr', h', sr.mono f1, hr1, e, q.later f1⟩
theorem Good.pass {X : Cx} (g : Good G n sc N df X) : PassesOwn (model X.prog X.w) X.A X.env X.xe := by
 rw [g.xe]; exact PassesOwn.never
noncomputable def FN (K : PySem.W.Frag) (m : List Nat) (fl1 : Fl) (fr4 : Fr) (h4 : Hh) (r1 : List Addr) (H1 : Hp) (s5 : L2.St) (H5 : Hp) : Prop := (fl1 = .nx ∨ fl1 = .ct) ∧ ∃ r5, SR K m H5 r5 fr4 s5 ∧ HR K H5 r5 h4 ∧ Fm K r1 r5 H1 H5
section
variable {K : PySem.W.Frag} {r r1 r2 : List Addr} {H H1 H2 : Hp} {h4 h' : Hh} {fl fl1 : Fl} {fr4 fr' : Fr} {Q : Ends}
noncomputable def goOn (L : R (Fl × Fr)) (p : Fl × Fr) (h1 : Hh) : R (Fl × Fr) := match p.1 with
 | .nx => L
 | .ct => L
 | .bk => .ok (.nx, p.2) h1
 | .ret x => .ok (.ret x, p.2) h1
theorem turn_go {L : R (Fl × Fr)} (e : goOn L (fl1, fr4) h4 = .ok (fl, fr') h') (z : fl1 = .nx ∨ fl1 = .ct) : L = .ok (fl, fr') h' := by rcases z with rfl | rfl <;> exact e
theorem turn_fin {L : R (Fl × Fr)} (e : goOn L (fl1, fr4) h4 = .ok (fl, fr') h') (q : Fin K m r H h' fl fr' Q) (f : Fm K r r1 H H1) (f2 : Fm K r1 r2 H1 H2) : Fin K m r2 H2 h4 fl1 fr4 { Q with nx := FN K m fl1 fr4 h4 r1 H1, ct := FN K m fl1 fr4 h4 r1 H1, bk := Q.nx } := by
 cases fl1 with
 | nx => exact fun s6 H6 r6 sr6 hr6 f6 => ⟨.inl rfl, r6, sr6, hr6, f2.trans f6⟩
 | ct => exact fun s6 H6 r6 sr6 hr6 f6 => ⟨.inr rfl, r6, sr6, hr6, f2.trans f6⟩
 | bk =>
  cases e
  exact fun s6 H6 r6 sr6 hr6 f6 => q s6 H6 r6 sr6 hr6 ((f.trans f2).trans f6)
 | ret d =>
  cases e
  exact Res.later q (f.trans f2)
noncomputable def oneF (P : Phi) (w : Nat) (t : T) (tb : Ss) : D → Fr → Hh → R (Fl × Fr) := fun d fr2 h2 => match Ev.bindT t d fr2 with
 | some fr3 => Ev.exs P w tb fr3 h2
 | none => .bad
theorem ex_for (P : Phi) (w : Nat) (t : T) (it : Ev.It) (tb : Ss) (fr : Fr) (h : Hh) : Ev.ex P w (.for t it tb) fr h = (Ev.evi P it fr h).bind fun s h1 => Ev.forL (oneF P w t tb) s.2 s.1 fr h1 := by simp only [Ev.ex]; rfl
theorem forL_cons (f : D → Fr → Hh → R (Fl × Fr)) (ck : List (Nat × List D)) (d : D) (ds : List D) (fr : Fr) (h : Hh) : Ev.forL f ck (d :: ds) fr h = if Ev.stays h ck then (f d fr h).bind fun p h1 => goOn (Ev.forL f ck ds p.2 h1) p h1 else .bad := rfl
noncomputable def FW (K : PySem.W.Frag) (m : List Nat) (f : D → Fr → Hh → R (Fl × Fr)) (src : Src) (r1 : List Addr) (H1 : Hp) (o : Fl × Fr) (h' : Hh) (i k : Nat) (s3 : L2.St) (H3 : Hp) : Prop :=
 k = src.1.length - i ∧ i ≤ src.1.length ∧ ∃ r3 fr3 h3, SR K m H3 r3 fr3 s3 ∧ HR K H3 r3 h3 ∧ Fm K r1 r3 H1 H3 ∧ Ev.forL f src.2 (src.1.drop i) fr3 h3 = .ok o h'
theorem for_turn {P : Phi} {w : Nat} {t : T} {tb : Ss} {src : Src} {J : L2.It} {i k : Nat} {s3 : L2.St} {H3 : Hp} (hJ : ItOf K r1 H1 src J) (q : Fin K m r H h' fl fr' Q) (f1 : Fm K r r1 H H1) (hW : FW K m (oneF P w t tb) src r1 H1 (fl, fr') h' i k s3 H3) :
  (J.stop i H3 ∧ Q.nx s3 H3) ∨ (J.go i H3 ∧ ∃ N : L2.St → Hp → Prop, (∀ σ' H', N σ' H' → ∃ m', m' < k ∧ FW K m (oneF P w t tb) src r1 H1 (fl, fr') h' (i + 1) m' σ' H') ∧ ∀ x H', J.yld i H3 x H' → gJ K m t x s3 H' fun σ2 H2 => tJSs K m P w tb { Q with nx := N, ct := N, bk := Q.nx } σ2 H2) := by
 obtain ⟨rfl, hle, r3, fr3, h3, sr3, hr3, f3, e3⟩ := hW
 rcases Nat.lt_or_ge i src.1.length with hlt | hge
 ·rw [List.drop_eq_getElem_cons hlt, forL_cons] at e3
  split at e3
  ·rename_i hst
   obtain ⟨g1, g2⟩ := (hJ i H3 r3 h3 hr3 f3 hst).1 src.1[i] (List.getElem?_eq_getElem hlt)
   obtain ⟨⟨fl1, fr4⟩, h4, e4, e3⟩ := Ev.bind_eq_ok e3
   unfold oneF at e4
   split at e4
   ·rename_i fr5 e5
    exact .inr ⟨g1, FN K m fl1 fr4 h4 r1 H1, fun s5 H5 ⟨hfl, r5, sr5, hr5, f5⟩ => ⟨_, Nat.sub_lt_sub_left hlt (Nat.lt_succ_self i), rfl, hlt, r5, fr4, h4, sr5, hr5, f5, turn_go e3 hfl⟩, fun x H4 y =>
     let ⟨r4, v4, hr4, f4⟩ := g2 x H4 y
     ⟨r4, fr3, h3, _, fr5, sr3.mono f4, hr4, v4, e5, fun s5 sr5 => ⟨r4, fr5, h3, fl1, fr4, h4, sr5, hr4, e4, turn_fin e3 q f1 (f3.trans f4)⟩⟩⟩
   ·cases e4
  ·cases e3
 ·have hi : i = src.1.length := Nat.le_antisymm hle hge
  subst hi
  rw [List.drop_length] at e3
  unfold Ev.forL at e3
  split at e3
  ·rename_i hst
   cases e3
   exact .inl ⟨(hJ _ H3 r3 _ hr3 f3 hst).2 (Nat.le_refl _), q s3 H3 r3 sr3 hr3 (f1.trans f3)⟩
  ·cases e3
end
theorem whlL_succ (t : Fr → Hh → R Bool) (f : Fr → Hh → R (Fl × Fr)) (n : Nat) (fr : Fr) (h : Hh) : Ev.whlL t f (n + 1) fr h = (t fr h).bind fun b h1 => if b then (f fr h1).bind fun p h2 => goOn (Ev.whlL t f n p.2 h2) p h2 else .ok (.nx, fr) h1 := rfl
noncomputable def WW (K : PySem.W.Frag) (m : List Nat) (P : Phi) (w : Nat) (a : E) (tb : Ss) (r : List Addr) (H : Hp) (o : Fl × Fr) (h' : Hh) (k : Nat) (s1 : L2.St) (H1 : Hp) : Prop :=
 ∃ r1 fr1 h1, SR K m H1 r1 fr1 s1 ∧ HR K H1 r1 h1 ∧ Fm K r r1 H H1 ∧ Ev.whlL (fun fr2 h2 => Ev.evT P a fr2 h2) (fun fr2 h2 => Ev.exs P w tb fr2 h2) k fr1 h1 = .ok o h'
theorem js_whl {tb : Ss} {yb : List Stmt} (hc : JT G n sc N df m a xa) (h1 : JSs G n sc N df m tb yb) : JS G n sc N df m (.whl a tb) (.While xa yb [] pos) := fun X g => PS.of (ps_while g.pass (hc X g) (h1 X g)) fun Q s H q => by
 obtain ⟨r, fr, h, fl, fr', h', sr, hr, e, q⟩ := q
 simp only [Ev.ex] at e
 refine ⟨WW X.K m (Ev.run G.F G.w n) G.w a tb r H (fl, fr') h', ⟨_, r, fr, h, sr, hr, .refl, e⟩, fun k s1 H1 hW => ?_⟩
 obtain ⟨r1, fr1, h1, sr1, hr1, f1, e1⟩ := hW
 cases k with
 | zero => cases e1
 | succ k =>
  rw [whlL_succ] at e1
  obtain ⟨bb, h2, e2, e1⟩ := Ev.bind_eq_ok e1
  refine ⟨r1, fr1, h1, bb, h2, sr1, hr1, e2, fun H2 r2 hr2 f2 => ?_⟩
  cases bb with
  | false =>
   cases e1
   exact q s1 H2 r2 (sr1.mono f2) hr2 (f1.trans f2)
  | true =>
   rw [if_pos rfl] at e1
   obtain ⟨⟨fl1, fr2⟩, h3, e3, e1⟩ := Ev.bind_eq_ok e1
   exact ⟨FN X.K m fl1 fr2 h3 r H, fun s3 H3 ⟨hfl, r3, sr3, hr3, f3⟩ => ⟨k, Nat.lt_succ_self k, r3, fr2, h3, sr3, hr3, f3, turn_go e1 hfl⟩, r2, fr1, h2, fl1, fr2, h3, sr1.mono f2, hr2, e3, turn_fin e1 q .refl (f1.trans f2)⟩
theorem js_for {t : T} {it : Ev.It} {tb : Ss} {yb : List Stmt} (hi : JI G n sc N df m it tg xa) (hg : JG G n sc N df m t tg) (h1 : JSs G n sc N df m tb yb) (hs : ∀ (env : Env) x, foldedSetIterable xa env x = pure x := by intro _ _; rfl) :
  JS G n sc N df m (.for t it tb) (.For tg xa yb [] pos) := fun X g => PS.of (ps_for g.pass g.calm (hi X g) (hg X g) (h1 X g) (hs _)) fun Q s H q => by
 obtain ⟨r, fr, h, fl, fr', h', sr, hr, e, q⟩ := q
 rw [ex_for] at e
 obtain ⟨src, h2, e1, e⟩ := Ev.bind_eq_ok e
 exact ⟨r, fr, h, src, h2, sr, hr, e1, fun J H1 r1 hr1 f1 hJ => ⟨FW X.K m (oneF (Ev.run G.F G.w n) G.w t tb) src r1 H1 (fl, fr') h', ⟨src.1.length, rfl, Nat.zero_le _, r1, fr, h2, sr.mono f1, hr1, .refl, by rw [List.drop_zero]; exact e⟩, fun i k s3 H3 hW => for_turn hJ q f1 hW⟩⟩
end
theorem getElem?_range' {k j i : Nat} (h : (List.range k)[j]? = some i) : i = j := by
 obtain ⟨h1, h2⟩ := List.getElem?_eq_some_iff.mp h
 simpa using h2.symm
theorem sr_start {K : PySem.W.Frag} {H : Hp} {r : List Addr} {ds : List D} {vs : List V} {N : List Str} {fn : Ev.Fn} (v1 : RVs K H r ds vs) (hN : vs.length ≤ N.length) : SR K (List.range N.length) H r (Ev.fr0 fn ds) (L2.start N vs) := by
 refine ⟨by unfold L2.start; simp; omega, fun j i d e1 e2 => ?_⟩
 have e3 := getElem?_range' e1
 subst e3
 unfold Ev.fr0 at e2
 by_cases hj : i < ds.length
 ·rw [List.getElem?_append_left (by simpa using hj), List.getElem?_map] at e2
  cases e4 : ds[i]? with
  | none => rw [e4] at e2; cases e2
  | some d' =>
   rw [e4] at e2
   cases e2
   obtain ⟨v, q1, q2⟩ := v1.get e4
   refine ⟨v, ?_, q2⟩
   unfold L2.start
   rw [List.getElem?_append_left (by have := v1.length; simpa using (by omega : i < vs.length)), List.getElem?_map, q1]
   rfl
 ·rw [List.getElem?_append_right (by simpa using Nat.not_lt.mp hj), List.getElem?_replicate] at e2
  split at e2 <;> cases e2
section
variable {P : Program} {w : World} {K : PySem.W.Frag} {mg : Str → Option Value} {base : Heap} {G : Tb}
noncomputable def AllOk (P : Program) (w : World) (K : PySem.W.Frag) (mg : Str → Option Value) (base : Heap) (G : Tb) (n : Nat) : Prop := ∀ (f : Nat) i, G.fi[f]? = some i → FnOk P w K mg base CX0 n i.addr i.fd i.ps (spF K G.F G.w n f)
structure Top (P : Program) (w : World) (K : PySem.W.Frag) (mg : Str → Option Value) (G : Tb) : Prop where
 fn : ∀ (f : Nat) i, G.fi[f]? = some i → mg i.name = some (.ref i.addr) ∧ PySem.W.keepIn K (.ref i.addr) = true ∧ Binds K i.fd i.ps []
 bl : ∀ x ∈ G.bl, mg x = none
 cs : ∀ x d, (x, d) ∈ G.cs → ∃ v u, mg x = some u ∧ RelV v u ∧ isC d v
 dk : ∀ x kvs, (x, kvs) ∈ G.dk → ∃ a, mg x = some (.ref a) ∧ ∀ h : Heap, K.In h → StrTab P w h a (tabOf kvs)
theorem ok_zero {f : Addr} {fd : FuncData} {ps : List Str} {k : Nat} : FnOk P w K mg base CX0 0 f fd ps (spF K G.F G.w 0 k) := by
 have no : ∀ vs H Q E, ¬ spF K G.F G.w 0 k vs H Q E := fun vs H Q E h => by
  obtain ⟨r, h, ds, d, h', _, _, e, _⟩ := h
  cases e
 exact ⟨fun vs H Q E h => absurd h (no vs H Q E), fun A outer s H args us vs Q E _ _ _ _ h => absurd h (no vs H Q E)⟩
theorem fn_ok {x qual : Str} {st : Stmt} {i : FI} {N : List Str} {n f : Nat} {fn : Ev.Fn} (T : Top P w K mg G) (A0 : AllOk P w K mg base G n) (F : Fun K x qual st i.addr i.fd) (S : FnScope N i.ps (defScope st)) (hf : G.F[f]? = some fn) (hp : i.ps.length = fn.np)
  (hb : JSs G n (defScope st) N true (List.range N.length) fn.body (defBody st)) : FnOk P w K mg base CX0 (n + 1) i.addr i.fd i.ps (spF K G.F G.w (n + 1) f) := by
 have hlen : ∀ vs H Q E, spF K G.F G.w (n + 1) f vs H Q E → vs.length = i.ps.length := fun vs H Q E h => by
  obtain ⟨r, h, ds, d, h', v1, _, e, _⟩ := h
  simp only [Ev.run, hf] at e
  split at e
  ·rename_i z
   rw [v1.length, z, hp]
  ·cases e
 refine F.ok S hlen fun cdv A outer s H vs Q E hr hsp => ?_
 have hl := hlen vs H Q E hsp
 have hN : vs.length ≤ N.length := by
  have := congrArg List.length S.pre
  rw [List.length_take] at this
  omega
 have g : Good G n (defScope st) N true (cxOf CX0 P w K mg base N qual (defScope st) i.addr cdv A outer s H E).nox :=
  ⟨rfl, rfl, rfl, fun _ _ => rfl, hr, rfl, fun f i hi => ⟨(T.fn f i hi).1, (T.fn f i hi).2.1, (T.fn f i hi).2.2, A0 f i hi⟩, T.bl, T.cs, T.dk⟩
 refine ⟨_, hb _ g, ?_⟩
 obtain ⟨r, h, ds, d, h', v1, hr1, e, q⟩ := hsp
 simp only [Ev.run, hf] at e
 split at e
 ·unfold Ev.endOf at e
  obtain ⟨⟨fl, fr'⟩, h2, e1, e⟩ := Ev.bind_eq_ok e
  refine ⟨r, Ev.fr0 fn ds, h, fl, fr', h2, sr_start v1 hN, hr1, e1, ?_⟩
  cases fl with
  | nx =>
   cases e
   exact fun s' H' r' _ hr' f' => q _ H' r' rfl hr' f'
  | ret d' =>
   cases e
   exact q
  | bk => cases e
  | ct => cases e
 ·cases e
end
end Sm
set_option maxRecDepth 100000
namespace Sm
open PySem PySem.Spec PyProof.Rows L2
open Ev (D O Hh Fr R Phi E Es Eo T S Ss Fl Src BOp COp TY BI ME)
theorem clos_go (env : Env) : ∀ (names : List (Str × NameKind)) (acc : List (Str × Addr)), (∀ x, (x, NameKind.free) ∈ names → ∃ c, env.cells.lookup x = some c) → (∀ x c, acc.lookup x = some c → env.cells.lookup x = some c) →
  ∃ cl, (forIn names acc (fun (x : Str × NameKind) cs => if (x.2 == NameKind.free) = true then (do let c ← cellOf env x.1; pure (ForInStep.yield ((x.1, c) :: cs))) else pure (ForInStep.yield cs)) : Sem (List (Str × Addr))) = pure cl ∧
   (∀ x c, cl.lookup x = some c → env.cells.lookup x = some c) ∧ (∀ x, (x, NameKind.free) ∈ names → (cl.lookup x).isSome = true) ∧ (∀ x, (acc.lookup x).isSome = true → (cl.lookup x).isSome = true)
 | [], acc, _, h2 => ⟨acc, rfl, h2, (fun x h => by simp at h), fun _ h => h⟩
 | (y, k) :: r, acc, h1, h2 => by
  by_cases hk : k = .free
  ·subst hk
   obtain ⟨c, hc⟩ := h1 y (List.mem_cons_self ..)
   have h2' : ∀ x c', ((y, c) :: acc).lookup x = some c' → env.cells.lookup x = some c' := fun x c' e => by
    rw [List.lookup_cons] at e
    split at e
    ·rename_i hx
     have hx' : x = y := by simpa using hx
     cases e; rw [hx']; exact hc
    ·exact h2 x c' e
   obtain ⟨cl, e1, e2, e3, e4⟩ := clos_go env r ((y, c) :: acc) (fun x hx => h1 x (List.mem_cons_of_mem _ hx)) h2'
   refine ⟨cl, ?_, e2, fun x hx => ?_, fun x hx => e4 x ?_⟩
   ·rw [List.forIn_cons]
    simp only [beq_self_eq_true, if_true]
    unfold cellOf
    rw [hc]
    exact e1
   ·rcases List.mem_cons.mp hx with z | z
    ·cases z
     exact e4 y (by simp [List.lookup_cons])
    ·exact e3 x z
   ·rw [List.lookup_cons]
    split
    ·rfl
    ·exact hx
  ·have hk' : (k == NameKind.free) = false := by simpa using hk
   obtain ⟨cl, e1, e2, e3, e4⟩ := clos_go env r acc (fun x hx => h1 x (List.mem_cons_of_mem _ hx)) h2
   refine ⟨cl, ?_, e2, fun x hx => ?_, e4⟩
   ·rw [List.forIn_cons]
    simp only [hk', Bool.false_eq_true, if_false]
    exact e1
   ·rcases List.mem_cons.mp hx with z | z
    ·cases z; exact absurd rfl hk
    ·exact e3 x z
theorem clos_of {scope : Scope} {env : Env} (h : ∀ x, (x, NameKind.free) ∈ scope.names → ∃ c, env.cells.lookup x = some c) :
  ∃ cl, closureFor scope env = pure cl ∧ (∀ x c, cl.lookup x = some c → env.cells.lookup x = some c) ∧ ∀ x, (x, NameKind.free) ∈ scope.names → ∃ c, cl.lookup x = some c := by
 obtain ⟨cl, e1, e2, e3, _⟩ := clos_go env scope.names [] h (fun x c e => by simp at e)
 refine ⟨cl, ?_, e2, fun x hx => Option.isSome_iff_exists.mp (e3 x hx)⟩
 unfold closureFor
 show (forIn scope.names [] _ >>= fun cs => pure cs : Sem (List (Str × Addr))) = pure cl
 have e : (forIn scope.names [] (fun (x : Str × NameKind) cs => if (x.2 == NameKind.free) = true then (do let c ← cellOf env x.1; pure (ForInStep.yield ((x.1, c) :: cs))) else pure (ForInStep.yield cs)) : Sem (List (Str × Addr))) = pure cl := e1
 exact congrArg (fun t : Sem (List (Str × Addr)) => t >>= fun cs => pure cs) e
noncomputable def relb (sc scope : Scope) : Scope := { scope with names := scope.names.map fun (n, k) => if (k == .free && sc.kind == .function && sc.names.lookup n == some .cell) then (n, .cell) else (n, k) }
theorem relb_eq {env : Env} {sc scope : Scope} (h : env.scope = sc) : relabel scope env = relb sc scope := by
 subst h; rfl
theorem relb_free {sc : Scope} : ∀ {names : List (Str × NameKind)} {x : Str}, (∀ y ∈ names, y.2 ≠ .cell) →
  ((names.map fun (n, k) => if (k == NameKind.free && sc.kind == .function && sc.names.lookup n == some .cell) then (n, NameKind.cell) else (n, k)).lookup x = some .cell ∨
   (names.map fun (n, k) => if (k == NameKind.free && sc.kind == .function && sc.names.lookup n == some .cell) then (n, NameKind.cell) else (n, k)).lookup x = some .free) → (x, NameKind.free) ∈ names
 | [], _, _, h => by rcases h with h | h <;> simp at h
 | (n, k) :: r, x, hc, h => by
  have ih := @relb_free sc r x fun y hy => hc y (List.mem_cons_of_mem _ hy)
  simp only [List.map_cons] at h
  have nk : ∀ (k' : NameKind), (if (k == NameKind.free && sc.kind == .function && sc.names.lookup n == some .cell) then (n, NameKind.cell) else (n, k)) = (n, k') → k' = .cell ∨ k' = .free → k = .free := fun k' e hk' => by
   split at e
   ·rename_i z
    simp only [Bool.and_eq_true, beq_iff_eq] at z
    exact z.1.1
   ·cases e
    rcases hk' with z | z
    ·exact absurd z (hc (n, _) (List.mem_cons_self ..))
    ·exact z
  generalize hg : (if (k == NameKind.free && sc.kind == .function && sc.names.lookup n == some .cell) then (n, NameKind.cell) else (n, k)) = p at h nk
  have hp : p.1 = n := by rw [← hg]; split <;> rfl
  obtain ⟨p1, p2⟩ := p
  simp only at hp
  subst hp
  simp only [List.lookup_cons] at h
  cases hx : (x == p1) with
  | true =>
   have hx' : x = p1 := by simpa using hx
   rw [hx] at h
   have := nk p2 rfl (by rcases h with h | h <;> simp at h <;> simp [h])
   subst this
   rw [hx']
   exact List.mem_cons_self ..
  | false =>
   rw [hx] at h
   exact List.mem_cons_of_mem _ (ih h)
section
variable {prog : Program} {w : World} {A : Around} {R' : Result → Shared → Prop} {s : Shared}
abbrev nev : Value → Shared → Prop := fun _ _ => False
noncomputable def testsOf (ifs : List Expr) (env : Env) : Sem Bool := forIn ifs true fun c r => if r = true then do let ok ← isTrue c env (eval c env); pure (ForInStep.yield ok) else pure (ForInStep.yield r)
theorem compLoop_any {elt target iter : Expr} {ifs : List Expr} {scope : Scope} {pos : Pos} {it acc : Value} {env : Env} (I : Nat → Shared → Prop)
  (turn : ∀ n s, I n s → wpAny (model prog w) A (pyNext it) (fun r s₁ => match r with
   | none => R' (.ok .next) s₁
   | some v => wpAny (model prog w) A (letOwnedTupleGo target it v) (fun _ s₂ => wpAny (model prog w) A (assign target env v) (fun _ s₃ =>
     wpAny (model prog w) A (testsOf ifs env) (fun ok s₄ =>
      if ok = true then wpAny (model prog w) A (eval elt env) (fun x s₅ =>
       wpAny (model prog w) A (call (.builtin "list.append") [acc, x]) (fun _ s₆ => ∃ m, m < n ∧ I m s₆) nev s₅) nev s₄
      else ∃ m, m < n ∧ I m s₄) nev s₃) nev s₂) nev s₁) nev s)
  (n : Nat) (h : I n s) : codeAny (model prog w) A (.compLoop (.ListComp elt [⟨target, iter, ifs, 0⟩] scope pos) 0 it acc env) R' s := by
 refine codeAny_loop rfl I (fun n s hI => ?_) n h
 show wpAny _ A ((compTurn (.ListComp elt [⟨target, iter, ifs, 0⟩] scope pos) 0 it acc env).onRaise (fun x => do noteFrame x env; theTreesLotGoes x)) _ _ s
 refine wpAny_noted ?_
 rw [compTurn_list]
 refine wpAny_bind (wpAny_standAt (wpAny_bind (wpAny_mono (turn n s hI) (fun r s₁ h₁ => ?_) fun _ _ h' => h'.elim)))
 cases r with
 | none => exact wpAny_pure h₁
 | some v =>
  refine wpAny_bind (wpAny_mono h₁ (fun _ s₂ h₂ => ?_) fun _ _ h' => h'.elim)
  refine wpAny_bind (wpAny_mono h₂ (fun _ s₃ h₃ => wpAny_bind (wpAny_mono h₃ (fun ok s₄ h₄ => ?_) fun _ _ h' => h'.elim)) fun _ _ h' => h'.elim)
  cases ok with
  | false => exact wpAny_pure ⟨rfl, h₄⟩
  | true =>
   exact wpAny_bind (wpAny_bind (wpAny_mono h₄ (fun x s₅ h₅ => wpAny_bind (wpAny_mono h₅ (fun _ s₆ h₆ => wpAny_pure (wpAny_pure ⟨rfl, h₆⟩)) fun _ _ h' => h'.elim)) fun _ _ h' => h'.elim))
end
inductive tJC (K : PySem.W.Frag) (m : List Nat) (P : Phi) (e : Eo) (s : L2.St) (H : Hp) (Q : Bool → Hp → Prop) : Prop
 | mk (r : List Addr) (fr : Fr) (h : Hh) (k : Bool) (h' : Hh) (c0 : SR K m H r fr s) (c1 : HR K H r h) (c2 : Ev.evc P e fr h = .ok k h') (c3 : ∀ H' r', HR K H' r' h' → Fm K r r' H H' → Q k H') : tJC K m P e s H Q
noncomputable def JC (G : Tb) (n : Nat) (sc : Scope) (N : List Str) (df : Bool) (m : List Nat) (e : Eo) (ifs : List Expr) : Prop := ∀ X, Good G n sc N df X → ∀ (pins : List (Addr × Obj)) (s : Shared) (σ : L2.St) (H : Hp) (Q : Bool → Hp → Prop), Inv X pins σ H s →
 tJC X.K m (Ev.run G.F G.w n) e σ H Q → wpAny (model X.prog X.w) X.A (testsOf ifs X.env) (TP X pins σ Q) X.xe s
section
variable {G : Tb} {n : Nat} {sc : Scope} {N : List Str} {df : Bool} {m : List Nat} {a b c : E} {xa xb xc tg : Expr} {pos : Pos}
theorem jc_no : JC G n sc N df m .no [] := fun X g pins s σ H Q I q => by
 obtain ⟨r, fr, h, k, h', sr, hr, e, q⟩ := q
 simp only [Ev.evc] at e
 cases e
 exact wpAny_pure ⟨H, I, q H r hr .refl⟩
theorem jc_yes (hc : JT G n sc N df m a xa) : JC G n sc N df m (.yes a) [xa] := fun X g pins s σ H Q I q => by
 obtain ⟨r, fr, h, k, h', sr, hr, e, q⟩ := q
 simp only [Ev.evc] at e
 exact wpAny_tests_one (hc X g pins s σ H Q I ⟨r, fr, h, k, h', sr, hr, e, q⟩)
end
noncomputable def cxC (X : Cx) (N' : List Str) (scope : Scope) (cl : List (Str × Addr)) (C : Addr) (s3 : Shared) (H3 : Hp) (fp : List Addr) : Cx :=
 { X with N := N', s₀ := s3, H₀ := H3, env := compEnvC scope cl C X.env, outer := X.stack, stack := X.stack, ex := fp, fn := fun _ => false, pn := [], xe := fun _ _ => False }
noncomputable def namesOk (sc : Scope) (N : List Str) (m : List Nat) (scope : Scope) (t : T) (N' : List Str) (m' : List Nat) : Prop := m'.length = N'.length ∧
 ∀ (j : Nat) x i, N'[j]? = some x → m'[j]? = some i → i ∈ Ev.slots t ∨ ((x, NameKind.free) ∈ scope.names ∧ ∃ jo : Nat, N[jo]? = some x ∧ m[jo]? = some i)
noncomputable def namesB (sc : Scope) (N : List Str) (m : List Nat) (scope : Scope) (t : T) (N' : List Str) (m' : List Nat) : Bool := m'.length == N'.length &&
 (List.range N'.length).all fun j => match N'[j]?, m'[j]? with
  | some x, some i => (Ev.slots t).contains i || (scope.names.contains (x, NameKind.free) && (List.range N.length).any fun jo => N[jo]? == some x && m[jo]? == some i)
  | _, _ => true
theorem namesOk.of {sc : Scope} {N : List Str} {m : List Nat} {scope : Scope} {t : T} {N' : List Str} {m' : List Nat} (h : namesB sc N m scope t N' m' = true) : namesOk sc N m scope t N' m' := by
 unfold namesB at h
 rw [Bool.and_eq_true] at h
 refine ⟨by simpa using h.1, fun j x i e1 e2 => ?_⟩
 have hj : j < N'.length := (List.getElem?_eq_some_iff.mp e1).1
 have q := List.all_eq_true.mp h.2 j (List.mem_range.mpr hj)
 rw [e1, e2] at q
 simp only [Bool.or_eq_true, Bool.and_eq_true, List.any_eq_true] at q
 rcases q with q | ⟨q1, jo, _, q2⟩
 ·exact .inl (by simpa using q)
 ·exact .inr ⟨by simpa using q1, jo, by simpa using q2.1, by simpa using q2.2⟩
theorem bindT_other {t : T} {d : D} {fr fr2 : Fr} (e : Ev.bindT t d fr = some fr2) {i : Nat} (hi : i ∉ Ev.slots t) : fr2[i]? = fr[i]? := by
 have go : ∀ (l : List Nat) (ds : List D) (fr fr2 : Fr), Ev.setAll l ds fr = some fr2 → i ∉ l → fr2[i]? = fr[i]? := by
  intro l
  induction l with
  | nil =>
   intro ds fr fr2 e _
   cases ds with
   | nil => cases e; rfl
   | cons _ _ => cases e
  | cons j l ih =>
   intro ds fr fr2 e hj
   cases ds with
   | nil => cases e
   | cons d ds =>
    rw [ih ds _ _ e fun z => hj (List.mem_cons_of_mem _ z), List.getElem?_set_ne]
    intro z
    exact hj (by rw [z]; exact List.mem_cons_self ..)
 cases t with
 | one j =>
  cases e
  rw [List.getElem?_set_ne]
  intro z
  exact hi (by simp [Ev.slots, z])
 | many l =>
  cases d with
  | tup ds => exact go l ds fr fr2 e hi
  | _ => cases e
theorem SR.unbind {K : PySem.W.Frag} {m : List Nat} {H : Hp} {r : List Addr} {t : T} {d : D} {fr fr2 : Fr} {s : L2.St} (sr : SR K m H r fr2 s) (e : Ev.bindT t d fr = some fr2) (hu : Ev.undef t fr = true) : SR K m H r fr s := by
 refine ⟨sr.len, fun j i d' e1 e2 => sr.sl j i d' e1 ?_⟩
 rw [bindT_other e]
 ·exact e2
 ·intro hi
  have q := List.all_eq_true.mp hu i hi
  rw [e2] at q
  cases q
end Sm
set_option maxRecDepth 100000
namespace Sm
open PySem PySem.Spec PyProof.Rows L2
open Ev (D O Hh Fr R Phi E Es Eo T S Ss Fl Src BOp COp TY BI ME)
structure ScOk (sc scope : Scope) : Prop where
 kind : scope.kind = .function
 nocell : ∀ y ∈ scope.names, y.2 ≠ .cell
 free : ∀ x, (x, NameKind.free) ∈ scope.names → (sc.names.lookup x = some .cell ∨ sc.names.lookup x = some .free) ∧ scope.names.lookup x = some .free
 loc : ∀ y ∈ scope.names, y.2 = .local → scope.names.lookup y.1 = some .local
noncomputable def scB (sc scope : Scope) : Bool := scope.kind == .function && scope.names.all fun y => y.2 != .cell && (y.2 != .free || ((sc.names.lookup y.1 == some .cell || sc.names.lookup y.1 == some .free) && scope.names.lookup y.1 == some .free)) && (y.2 != .local || scope.names.lookup y.1 == some .local)
theorem ScOk.of {sc scope : Scope} (h : scB sc scope = true) : ScOk sc scope := by
 unfold scB at h
 rw [Bool.and_eq_true] at h
 have q : ∀ y ∈ scope.names, y.2 ≠ .cell ∧ (y.2 = .free → (sc.names.lookup y.1 = some .cell ∨ sc.names.lookup y.1 = some .free) ∧ scope.names.lookup y.1 = some .free) ∧ (y.2 = .local → scope.names.lookup y.1 = some .local) := fun y hy => by
  have z := List.all_eq_true.mp h.2 y hy
  simp only [Bool.and_eq_true, Bool.or_eq_true, bne_iff_ne, beq_iff_eq, ne_eq] at z
  refine ⟨z.1.1, fun e => ?_, fun e => ?_⟩
  ·rcases z.1.2 with w | w
   ·exact absurd e w
   ·exact w
  ·rcases z.2 with w | w
   ·exact absurd e w
   ·exact w
 exact ⟨by simpa using h.1, fun y hy => (q y hy).1, fun x hx => (q _ hx).2.1 rfl, fun y hy => (q y hy).2.2⟩
theorem relb_look {sc : Scope} : ∀ {names : List (Str × NameKind)} {x : Str}, names.lookup x = some .free →
  ((names.map fun (n, k) => if (k == NameKind.free && sc.kind == .function && sc.names.lookup n == some .cell) then (n, NameKind.cell) else (n, k)).lookup x = some .cell ∨
   (names.map fun (n, k) => if (k == NameKind.free && sc.kind == .function && sc.names.lookup n == some .cell) then (n, NameKind.cell) else (n, k)).lookup x = some .free)
 | [], _, h => by simp at h
 | (n, k) :: r, x, h => by
  have ih := @relb_look sc r x
  simp only [List.map_cons]
  simp only [List.lookup_cons] at h
  by_cases hc : (k == NameKind.free && sc.kind == .function && sc.names.lookup n == some .cell) = true
  ·rw [if_pos hc]
   simp only [List.lookup_cons]
   cases hx : (x == n) with
   | true => exact .inl rfl
   | false => rw [hx] at h; exact ih h
  ·rw [if_neg hc]
   simp only [List.lookup_cons]
   cases hx : (x == n) with
   | true => rw [hx] at h; exact .inr h
   | false => rw [hx] at h; exact ih h
section
variable {G : Tb} {n : Nat} {sc scope : Scope} {N N' : List Str} {df : Bool} {m m' : List Nat} {elt : E} {t : T} {it : Ev.It} {cond : Eo} {xe xi tg : Expr} {ifs : List Expr} {pos : Pos} {X : Cx}
theorem Good.comp (g : Good G n sc N df X) {cl : List (Str × Addr)} {C : Addr} {s3 : Shared} {H3 : Hp} {fp : List Addr} : Good G n (relb sc scope) N' false (cxC X N' scope cl C s3 H3 fp) :=
 ⟨rfl, relb_eq g.sc, g.calm, (fun h => by cases h), g.room, rfl, g.fn, g.bl, g.cs, g.dk⟩
theorem ok_comp {pins : List (Addr × Obj)} {σ : L2.St} {H3 : Hp} {s3 : Shared} (g : Good G n sc N df X) (I : Inv X pins σ H3 s3) (hs : ScOk sc scope) {cl : List (Str × Addr)} (hcl1 : ∀ x c, cl.lookup x = some c → X.env.cells.lookup x = some c)
  (hcl2 : ∀ x, (x, NameKind.free) ∈ scope.names → ∃ c, cl.lookup x = some c) {fp : List Addr} (hfp : ∀ b ∈ fp, FpOk X pins H3 b) (hfl : ∀ b ∈ fp, b < s3.heap.objs.size) : (cxC X N' scope cl s3.heap.objs.size s3 H3 fp).Ok where
 mod := I.ok.mod
 kind := hs.kind
 glob := I.ok.glob
 blt := I.ok.blt
 above := Nat.le_refl _
 inj := fun x y c h1 h2 => I.ok.inj x y c (hcl1 x c h1) (hcl1 y c h2)
 has := fun x h => by
  have h' : (relb sc scope).names.lookup x = some .cell ∨ (relb sc scope).names.lookup x = some .free := by
   rw [← relb_eq (scope := scope) g.sc]; exact h
  exact hcl2 x (relb_free hs.nocell h')
 cab := fun x c h => by cases h
 hd := I.ok.hd
 frames := I.ok.frames
 stk := .inl rfl
 exf := fun b hb => ⟨Nat.ne_of_lt (hfl b hb), fun x c e => (hfp b hb).2.2.2.2.1 x c (hcl1 x c e)⟩
 bs := I.bs
 bsz := Nat.le_trans I.ok.bsz I.sz
 noex := fun b o e hb => by
  rcases (hfp b hb).2.2.2.1 with z | z
  ·exact I.ok.noex b o e z
  ·have := Heap.lt_size (I.ok.bs b o e).1
   exact absurd (Nat.lt_of_lt_of_le this z) (Nat.lt_irrefl _)
 exfs := fun b hb z => by
  rcases List.mem_cons.mp (I.stkSub b z) with q | q
  ·exact (hfp b hb).2.1 q
  ·exact (hfp b hb).2.2.1 q
 funs := I.stack
 frf := I.stkFree
open Classical in
noncomputable def sig (scope : Scope) (N N' : List Str) (m' : List Nat) (K : PySem.W.Frag) (H : Hp) (r : List Addr) (fr : Fr) (σ : L2.St) : L2.St :=
 (List.range N'.length).map fun j => if h : ∃ v, ∃ x i, N'[j]? = some x ∧ m'[j]? = some i ∧ (x, NameKind.free) ∈ scope.names ∧ (∃ jo : Nat, N[jo]? = some x ∧ σ[jo]? = some (some v)) ∧ ∀ d, fr[i]? = some (some d) → RV K H r d v then some h.choose else none
theorem sig_at {K : PySem.W.Frag} {H : Hp} {r : List Addr} {fr : Fr} {σ : L2.St} {j : Nat} {v : V} (h : (sig scope N N' m' K H r fr σ)[j]? = some (some v)) :
  ∃ x i, N'[j]? = some x ∧ m'[j]? = some i ∧ (x, NameKind.free) ∈ scope.names ∧ (∃ jo : Nat, N[jo]? = some x ∧ σ[jo]? = some (some v)) ∧ ∀ d, fr[i]? = some (some d) → RV K H r d v := by
 unfold sig at h
 rw [List.getElem?_map] at h
 cases e : (List.range N'.length)[j]? with
 | none => rw [e] at h; cases h
 | some j' =>
  have := getElem?_range' e
  subst this
  rw [e] at h
  simp only [Option.map_some, Option.some.injEq] at h
  split at h
  ·rename_i hh
   cases h
   exact hh.choose_spec
  ·cases h
theorem sig_sr {K : PySem.W.Frag} {H : Hp} {r : List Addr} {fr : Fr} {σ : L2.St} (sr : SR K m H r fr σ) (hn : namesOk sc N m scope t N' m') (hu : Ev.undef t fr = true) : SR K m' H r fr (sig scope N N' m' K H r fr σ) := by
 refine ⟨by unfold sig; simp [hn.1], fun j i d e1 e2 => ?_⟩
 have hj : j < N'.length := by rw [← hn.1]; exact (List.getElem?_eq_some_iff.mp e1).1
 have hx : N'[j]? = some N'[j] := List.getElem?_eq_getElem hj
 rcases hn.2 j _ i hx e1 with hi | ⟨h1, jo, h2, h3⟩
 ·exfalso
  have q := List.all_eq_true.mp hu i hi
  rw [e2] at q
  cases q
 ·obtain ⟨v, h4, h5⟩ := sr.sl jo i d h3 e2
  have ex : ∃ v, ∃ x i, N'[j]? = some x ∧ m'[j]? = some i ∧ (x, NameKind.free) ∈ scope.names ∧ (∃ jo : Nat, N[jo]? = some x ∧ σ[jo]? = some (some v)) ∧ ∀ d, fr[i]? = some (some d) → RV K H r d v :=
   ⟨v, N'[j], i, hx, e1, h1, ⟨jo, h2, h4⟩, fun d' e' => by rw [e2] at e'; cases e'; exact h5⟩
  refine ⟨ex.choose, ?_, ?_⟩
  ·unfold sig
   rw [List.getElem?_map, List.getElem?_range hj]
   simp only [Option.map_some]
   rw [dif_pos ex]
  ·obtain ⟨x', i', q1, q2, q3, q4, q5⟩ := ex.choose_spec
   rw [e1] at q2; cases q2
   exact q5 d e2
theorem inv_comp {pins : List (Addr × Obj)} {σ : L2.St} {H3 : Hp} {s3 : Shared} (g : Good G n sc N df X) (I : Inv X pins σ H3 s3) (hs : ScOk sc scope) {cl : List (Str × Addr)} (hcl1 : ∀ x c, cl.lookup x = some c → X.env.cells.lookup x = some c)
  (hcl2 : ∀ x, (x, NameKind.free) ∈ scope.names → ∃ c, cl.lookup x = some c) {fp : List Addr} (hfp : ∀ b ∈ fp, FpOk X pins H3 b) (hfl : ∀ b ∈ fp, b < s3.heap.objs.size) {h1 : Heap} {tk : Nat} {mm : Str → Option Value}
  (hns : h1.Ns s3.heap.objs.size mm) (hk : ∀ b o, s3.heap.get? b = some o → h1.get? b = some o) {r : List Addr} {fr : Fr} :
  Inv (cxC X N' scope cl s3.heap.objs.size s3 H3 fp) [] (sig scope N N' m' X.K H3 r fr σ) H3 { s3 with heap := h1, toks := tk } := by
 refine ⟨ok_comp g I hs hcl1 hcl2 hfp hfl, rfl, I.bare, Un.kept hk, ⟨mm, hns, fun j x v e1 e2 e3 => ?_⟩, fun x c e => ?_, I.hok.fresh (Nat.le_refl _), fun x c e => I.freeC x c (hcl1 x c e), (fun p hp => by simp [cxC] at hp), I.hok.kept hk, (by unfold sig; simp [cxC])⟩
 ·obtain ⟨x', i, q1, q2, q3, ⟨jo, q4, q5⟩, _⟩ := sig_at e2
  have e1' : N'[j]? = some x := e1
  rw [e1'] at q1; cases q1
  obtain ⟨f1, f2⟩ := hs.free x q3
  obtain ⟨mO, hnO, hlO⟩ := I.loc
  obtain ⟨u, ru, lk⟩ := hlO jo x v (by rw [g.nm]; exact q4) q5 (by rw [g.sc]; rcases f1 with z | z <;> simp [Vis, z])
  refine ⟨u, ru, ?_⟩
  have hkd : X.env.kindOf x = some .cell ∨ X.env.kindOf x = some .free := by unfold Env.kindOf; rw [g.sc]; exact f1
  rcases lk with ⟨z, _⟩ | ⟨_, c, hc, hcell⟩
  ·rcases hkd with w | w <;> (rw [z] at w; cases w)
  ·obtain ⟨c', hc'⟩ := hcl2 x q3
   have : c' = c := by
    have := hcl1 x c' hc'
    rw [hc] at this; cases this; rfl
   subst this
   refine .inr ⟨?_, c', hc', ?_⟩
   ·show (relabel scope X.env).names.lookup x = some .cell ∨ (relabel scope X.env).names.lookup x = some .free
    rw [relb_eq (scope := scope) g.sc]
    exact relb_look f2
   ·obtain ⟨o, ho, hd⟩ := hcell
    exact ⟨o, hk _ _ ho, hd⟩
 ·obtain ⟨v, o, ho, hd⟩ := I.cell x c (hcl1 x c e)
  exact ⟨v, o, hk _ _ ho, hd⟩
end
end Sm
set_option maxRecDepth 100000
namespace Sm
open PySem PySem.Spec PyProof.Rows L2
open Ev (D O Hh Fr R Phi E Es Eo T S Ss Fl Src BOp COp TY BI ME)
section
variable {G : Tb} {n : Nat} {sc scope : Scope} {N N' : List Str} {df : Bool} {m m' : List Nat} {elt : E} {t : T} {it : Ev.It} {cond : Eo} {xe xi tg : Expr} {ifs : List Expr} {pos : Pos} {X : Cx}
noncomputable def oneC (P : Phi) (elt : E) (t : T) (cond : Eo) (fr : Fr) : D → Hh → R (Option D) := fun d h2 => match Ev.bindT t d fr with
 | none => .bad
 | some fr2 => (Ev.evc P cond fr2 h2).bind fun k h3 => if k then (Ev.ev P elt fr2 h3).bind fun x h4 => .ok (some x) h4 else .ok none h3
theorem ev_comp (P : Phi) (elt : E) (t : T) (it : Ev.It) (cond : Eo) (fr : Fr) (h : Hh) : Ev.ev P (.comp elt t it cond) fr h = (Ev.evi P it fr h).bind fun s h1 => if Ev.undef t fr then
  (Ev.compL (oneC P elt t cond fr) s.2 s.1 h1).bind fun ds h2 => Ev.alloc ds h2 else .bad := by
 simp only [Ev.ev]
 rfl
noncomputable def CI (Y : Cx) (m' : List Nat) (f : D → Hh → R (Option D)) (fr : Fr) (src : Src) (fp : List Addr) (tn : Nat → Heap → Prop) (r2 : List Addr) (H2 : Hp) (Dd : Addr) (ds : List D) (h2 : Hh) (k : Nat) (s : Shared) : Prop :=
 ∃ i σc Hc rc hc dn vs rest, Inv Y [] σc Hc s ∧ tn i s.heap ∧ (∀ b ∈ fp, Hc b = none) ∧ k = src.1.length - i ∧ i ≤ src.1.length ∧
  SR Y.K m' Hc rc fr σc ∧ HR Y.K Hc rc hc ∧ Fm Y.K r2 rc H2 Hc ∧ Hc Dd = some (.lst vs) ∧ Dd ∉ rc ∧ RVs Y.K Hc rc dn vs ∧ Ev.compL f src.2 (src.1.drop i) hc = .ok rest h2 ∧ dn ++ rest = ds
section
variable {Y : Cx} {sc' : Scope} {J : L2.It} {fp : List Addr} {ita : Addr} {tn : Nat → Heap → Prop} {fr : Fr} {src : Src} {r2 : List Addr} {H2 : Hp} {Dd : Addr} {ds : List D} {h2 : Hh}
theorem noxY (gC : Good G n sc' N' false Y) {α : Type} {tt : Sem α} {Q : α → Shared → Prop} {s : Shared} (hw : wpAny (model Y.prog Y.w) Y.A tt Q Y.xe s) : wpAny (model Y.prog Y.w) Y.A tt Q nev s := by rw [gC.xe] at hw; exact hw
theorem ci_skip {i : Nat} {σ8 : L2.St} {H9 : Hp} {r9 : List Addr} {h9 : Hh} {dn : List D} {vs : List V} {rest' : List D} {s9 : Shared} {p : List (Addr × Obj)} {f : D → Hh → R (Option D)} (hlt : i < src.1.length) (I9 : Inv Y ([] ++ p) σ8 H9 s9) (bk : tn (i + 1) s9.heap ∧ ∀ b ∈ fp, H9 b = none) (q : SR Y.K m' H9 r9 fr σ8) (hr9 : HR Y.K H9 r9 h9) (fm : Fm Y.K r2 r9 H2 H9) (hDv9 : H9 Dd = some (.lst vs)) (hDn9 : Dd ∉ r9) (rv : RVs Y.K H9 r9 dn vs) (e7 : Ev.compL f src.2 (src.1.drop (i + 1)) h9 = .ok rest' h2) (ed : dn ++ rest' = ds) :
  ∃ k, k < src.1.length - i ∧ CI Y m' f fr src fp tn r2 H2 Dd ds h2 k s9 :=
 ⟨src.1.length - (i + 1), Nat.sub_lt_sub_left hlt (Nat.lt_succ_self i), i + 1, σ8, H9, r9, h9, dn, vs, rest', I9.unpinned, bk.1, bk.2, rfl, hlt, q, hr9, fm, hDv9, hDn9, rv, e7, ed⟩
theorem ci_add {i : Nat} {σ8 : L2.St} {H9 : Hp} {r9 : List Addr} {h9 : Hh} {dn : List D} {vs : List V} {xd : D} {v10 : V} {u10 : Value} {rest' : List D} {s9 : Shared} {p : List (Addr × Obj)} {f : D → Hh → R (Option D)} (hlt : i < src.1.length) (hD0 : H2 Dd = none) (hsz : ds.length ≤ sizeLine) (gC : Good G n sc' N' false Y) (I9 : Inv Y ([] ++ p) σ8 H9 s9) (ru10 : RelV v10 u10) (bk : ∀ {σ' : L2.St} {H' : Hp} {s' : Shared}, Inv Y ([] ++ p) σ' H' s' → tn (i + 1) s'.heap ∧ ∀ b ∈ fp, H' b = none) (q : SR Y.K m' H9 r9 fr σ8) (hr9 : HR Y.K H9 r9 h9) (fm : Fm Y.K r2 r9 H2 H9) (hDv : H9 Dd = some (.lst vs)) (hDn : Dd ∉ r9) (rv : RVs Y.K H9 r9 dn vs) (rv10 : RV Y.K H9 r9 xd v10) (e7 : Ev.compL f src.2 (src.1.drop (i + 1)) h9 = .ok rest' h2) (ed : dn ++ xd :: rest' = ds) :
  wpAny (model Y.prog Y.w) Y.A (call (.builtin "list.append") [.ref Dd, u10]) (fun _ s11 => ∃ k, k < src.1.length - i ∧ CI Y m' f fr src fp tn r2 H2 Dd ds h2 k s11) nev s9 := by
 have hlen : vs.length < sizeLine := by
  have h1 := rv.length
  have h2 := congrArg List.length ed
  simp at h2
  omega
 refine thn (noxY gC (mt_append _ s9 σ8 H9 (.ref Dd) [v10] (.ref Dd) [u10] (fun _ H11 => H11 = upd H9 Dd (.lst (vs ++ [v10]))) I9 rfl (.cons ru10 .nil) ⟨Dd, vs, v10, rfl, rfl, hDv, hlen, rfl⟩)) fun _ s11 ⟨_, H11, I11, _, hH11⟩ => ?_
 subst hH11
 refine ci_skip (dn := dn ++ [xd]) (vs := vs ++ [v10]) hlt I11 (bk I11) ?_ (hr9.other hDv hDn) (fm.other hD0 hDv) upd_same hDn ?_ e7 ?_
 ·exact ⟨q.len, fun j i' d' a1 a2 => by
   obtain ⟨w, b1, b2⟩ := q.sl j i' d' a1 a2
   exact ⟨w, b1, b2.grow (fun _ _ z => z) (tups_other hDv)⟩⟩
 ·exact (rv.append (.cons rv10 .nil)).grow (fun _ _ z => z) (tups_other hDv)
 ·rw [← ed]; simp
theorem comp_loop (gC : Good G n sc' N' false Y) (hg : JG G n sc' N' false m' t tg) (hc : JC G n sc' N' false m' cond ifs) (he : JE G n sc' N' false m' elt xe) (Tn : Turn Y.prog Y.w Y.K tg J fp ita tn) (stat : ∀ {Hc : Hp}, (∀ b ∈ fp, Hc b = none) → ∀ b ∈ fp, FpOk Y [] Hc b)
  (hu : Ev.undef t fr = true) (hJ : ItOf Y.K r2 H2 src J) (hD0 : H2 Dd = none) (hsz : ds.length ≤ sizeLine) {R' : Result → Shared → Prop}
  (hfin : ∀ s6 σc Hc rc vs, Inv Y [] σc Hc s6 → HR Y.K Hc rc h2 → Fm Y.K r2 rc H2 Hc → Hc Dd = some (.lst vs) → Dd ∉ rc → RVs Y.K Hc rc ds vs → R' (.ok .next) s6) {k : Nat} {s : Shared}
  (h : CI Y m' (oneC (Ev.run G.F G.w n) elt t cond fr) fr src fp tn r2 H2 Dd ds h2 k s) : codeAny (model Y.prog Y.w) Y.A (.compLoop (.ListComp xe [⟨tg, xi, ifs, 0⟩] scope pos) 0 (.ref ita) (.ref Dd) Y.env) R' s := by
 refine compLoop_any (CI Y m' (oneC (Ev.run G.F G.w n) elt t cond fr) fr src fp tn r2 H2 Dd ds h2) ?_ k h
 rintro k s5 ⟨i, σc, Hc, rc, hc', dn, vs, rest, I5, st5, fr5, rfl, hle, sr5, hr5, fm5, hDv, hDn, rv5, e5, ed5⟩
 rcases Nat.lt_or_ge i src.1.length with hlt | hge
 ·rw [List.drop_eq_getElem_cons hlt] at e5
  simp only [Ev.compL] at e5
  split at e5
  ·rename_i hst
   obtain ⟨hgo, _⟩ := hJ i Hc rc hc' hr5 fm5 hst
   obtain ⟨g1, g2⟩ := hgo src.1[i] (List.getElem?_eq_getElem hlt)
   obtain ⟨o, h6, e6, e5⟩ := Ev.bind_eq_ok e5
   obtain ⟨rest', h7, e7, e5⟩ := Ev.bind_eq_ok e5
   cases e5
   refine thn (Tn.item Y rfl rfl rfl gC.calm i [] s5 σc Hc nev I5 (stat fr5) st5 g1) fun rr s6 ⟨u, hru, h8⟩ => ?_
   subst hru
   refine thn h8 fun _ s7 ⟨x, H7, I7, rx, y7, st7, fr7⟩ => ?_
   obtain ⟨r7, v7, hr7, fm7⟩ := g2 x H7 y7
   obtain ⟨hDn7, hDv7⟩ := fm7.notin hDv hDn
   unfold oneC at e6
   split at e6
   ·cases e6
   ·rename_i fr2 eb
    obtain ⟨kk, h9, e9, e6⟩ := Ev.bind_eq_ok e6
    have I7' := I7.pinned (stat fr7) (Tn.obj _ _ st7)
    refine thn (noxY gC (hg _ gC _ s7 σc H7 x u (fun σ8 H8 => H8 = H7 ∧ SR Y.K m' H7 r7 fr2 σ8) I7' rx ⟨r7, fr, hc', _, fr2, sr5.mono fm7, hr7, v7, eb, fun s' q => ⟨rfl, q⟩⟩)) fun _ s8 ⟨σ8, H8, I8, hH8, sr8⟩ => ?_
    subst hH8
    refine thn (noxY gC (hc _ gC _ s8 σ8 _ (fun b H9 => b = kk ∧ ∃ r9, HR Y.K H9 r9 h9 ∧ Fm Y.K r7 r9 _ H9) I8 ⟨r7, fr2, hc', kk, h9, sr8, hr7, e9, fun H9 r9 hr9 f9 => ⟨rfl, r9, hr9, f9⟩⟩)) fun bb s9 ⟨H9, I9, hbb, r9, hr9, fm9⟩ => ?_
    subst hbb
    obtain ⟨hDn9, hDv9⟩ := fm9.notin hDv7 hDn7
    have back : ∀ {σ' : L2.St} {H' : Hp} {s' : Shared}, Inv Y ([] ++ pinsAt fp s7.heap) σ' H' s' → tn (i + 1) s'.heap ∧ ∀ b ∈ fp, H' b = none := fun {σ' H' s'} I' =>
     ⟨Tn.keep _ _ _ st7 fun b hb o e => (I'.pin (b, o) (List.mem_append_right _ (List.mem_append_right _ (mem_pinsAt hb e)))).1, fun b hb =>
      let ⟨o, e, _⟩ := Tn.obj _ _ st7 b hb
      (I'.pin (b, o) (List.mem_append_right _ (List.mem_append_right _ (mem_pinsAt hb e)))).2.1⟩
    cases bb with
    | false =>
     simp only [Bool.false_eq_true, if_false] at e6 ⊢
     cases e6
     exact ci_skip hlt I9 (back I9) ((sr8.mono fm9).unbind eb hu) hr9 ((fm5.trans fm7).trans fm9) hDv9 hDn9 ((rv5.mono fm7).mono fm9) e7 ed5
    | true =>
     simp only [if_true] at e6 ⊢
     obtain ⟨xd, h10, e10, e6⟩ := Ev.bind_eq_ok e6
     cases e6
     refine thn (noxY gC (he _ gC _ s9 σ8 H9 (fun v H10 => ∃ r10, RV Y.K H10 r10 xd v ∧ HR Y.K H10 r10 _ ∧ Fm Y.K r9 r10 H9 H10) I9 ⟨r9, fr2, h9, xd, _, sr8.mono fm9, hr9, e10, fun v H10 r10 v10 hr10 f10 => ⟨r10, v10, hr10, f10⟩⟩)) fun u10 s10 ⟨v10, H10, I10, ru10, r10, rv10, hr10, fm10⟩ => ?_
     obtain ⟨hDn10, hDv10⟩ := fm10.notin hDv9 hDn9
     exact ci_add hlt hD0 hsz gC I10 ru10 back (((sr8.mono fm9).mono fm10).unbind eb hu) hr10 (((fm5.trans fm7).trans fm9).trans fm10) hDv10 hDn10 (((rv5.mono fm7).mono fm9).mono fm10) rv10 e7 ed5
  ·cases e5
 ·have hi' : i = src.1.length := Nat.le_antisymm hle hge
  subst hi'
  rw [List.drop_length] at e5
  simp only [Ev.compL] at e5
  split at e5
  ·rename_i hst
   cases e5
   refine thn (Tn.done Y rfl rfl rfl gC.calm _ [] s5 σc Hc nev I5 (stat fr5) st5 ((hJ _ Hc rc _ hr5 fm5 hst).2 (Nat.le_refl _))) fun rr s6 ⟨hrr, I6⟩ => ?_
   subst hrr
   rw [List.append_nil] at ed5
   subst ed5
   exact hfin s6 σc Hc rc vs I6 hr5 fm5 hDv hDn rv5
  ·cases e5
end
theorem comp_core (g : Good G n sc N df X) (hi : JI G n sc N df m it tg xi) (hg : JG G n (relb sc scope) N' false m' t tg) (hc : JC G n (relb sc scope) N' false m' cond ifs) (he : JE G n (relb sc scope) N' false m' elt xe)
  (hn : namesOk sc N m scope t N' m') (hs : ScOk sc scope) {cl : List (Str × Addr)} (hcl1 : ∀ x c, cl.lookup x = some c → X.env.cells.lookup x = some c) (hcl2 : ∀ x, (x, NameKind.free) ∈ scope.names → ∃ c, cl.lookup x = some c)
  {pins : List (Addr × Obj)} {σ : L2.St} {H : Hp} {s : Shared} (I : Inv X pins σ H s) {r : List Addr} {fr : Fr} {h : Hh} {d : D} {h' : Hh} (sr : SR X.K m H r fr σ) (hr : HR X.K H r h)
  (e : Ev.ev (Ev.run G.F G.w n) (.comp elt t it cond) fr h = .ok d h') (post : Value → Addr → Result → Shared → Prop)
  (hpost : ∀ Dd C s' H' r', Inv X pins σ H' s' → (∃ mm, s'.heap.Ns C mm) → FpOk X pins H' C → RV X.K H' r' d (.ref Dd) → HR X.K H' r' h' → Fm X.K r r' H H' → post (.ref Dd) C (.ok .next) s') {E : Value → Shared → Prop} (hE : X.xe = fun _ _ => False) :
  wpAny (model X.prog X.w) X.A (eval xi X.env) (fun x s₁ => wpAny (model X.prog X.w) X.A (pyIter x) (fun itv s₂ => wpAny (model X.prog X.w) X.A (newList []) (fun acc s₃ =>
   wpAny (model X.prog X.w) X.A (newFunctionEnv scope X.env.globals cl [] X.env.qual none .none (some X.env)) (fun cenv s₄ =>
    codeAny (model X.prog X.w) X.A (.compStart (.ListComp xe [⟨tg, xi, ifs, 0⟩] scope pos) 0 itv acc { cenv with scope := relabel scope X.env }) (post acc cenv.locals) s₄) E s₃) E s₂) E s₁) E s := by
 rw [ev_comp] at e
 obtain ⟨src, h1, e1, e⟩ := Ev.bind_eq_ok e
 split at e
 ·rename_i hu
  obtain ⟨ds, h2, e2, e⟩ := Ev.bind_eq_ok e
  have nox : ∀ {α : Type} {tt : Sem α} {Q : α → Shared → Prop} {s : Shared}, wpAny (model X.prog X.w) X.A tt Q X.xe s → wpAny (model X.prog X.w) X.A tt Q E s := fun {α tt Q s} hw => wpAny_mono hw (fun _ _ q => q) fun _ _ q => by rw [hE] at q; exact q.elim
  refine thn (nox (hi X g pins s σ H (fun J H2 => ∃ r2, HR X.K H2 r2 h1 ∧ Fm X.K r r2 H H2 ∧ ItOf X.K r2 H2 src J) I ⟨r, fr, h, src, h1, sr, hr, e1, fun J H2 r2 hr2 f2 hJ => ⟨r2, hr2, f2, hJ⟩⟩)) fun v s1 q1 => ?_
  refine thn (nox q1) fun itv s2 q2 => ?_
  obtain ⟨ita, fp, tn, J, H2, rfl, I2, Tn, st2, f2, r2, hr2, fm2, hJ⟩ := q2
  refine wpAny_newObj_type ?_
  generalize hDd : s2.heap.objs.size = Dd
  have hD0 : H2 Dd = none := by rw [← hDd]; exact I2.fresh
  have I3 : Inv X pins σ (upd H2 Dd (.lst [])) { s2 with heap := s2.heap.push { cls := .type "list", data := .seq ([] : List Value).toArray } } := by
   have := I2.lnew (ys := []) (its := []) (t' := s2.toks) .nil (Nat.zero_le _)
   rw [hDd] at this
   exact this
  have hlt2 : ∀ b ∈ fp, b < s2.heap.objs.size := fun b hb => by
   obtain ⟨o, e, _⟩ := Tn.obj 0 _ st2 b hb
   exact Heap.lt_size e
  generalize hs3 : ({ s2 with heap := s2.heap.push { cls := .type "list", data := .seq ([] : List Value).toArray } } : Shared) = s3 at I3
  have hsz3 : s3.heap.objs.size = s2.heap.objs.size + 1 := by rw [← hs3]; exact Heap.size_push ..
  have k3 : ∀ b o, s2.heap.get? b = some o → s3.heap.get? b = some o := fun b o e => by rw [← hs3]; exact Heap.get?_push_of_some _ e
  have hfl3 : ∀ b ∈ fp, b < s3.heap.objs.size := fun b hb => Nat.lt_of_lt_of_le (hlt2 b hb) (by rw [hsz3]; exact Nat.le_succ _)
  have hfp3 : ∀ b ∈ fp, FpOk X pins (upd H2 Dd (.lst [])) b := fun b hb => ⟨by rw [upd_ne (fun z => absurd (hlt2 b hb) (by rw [z, hDd]; exact Nat.lt_irrefl _))]; exact (f2 b hb).1, (f2 b hb).2⟩
  refine wpAny_newFunctionEnv (hs.nocell) (fun y hy => by simp at hy) (fun hh1 hns1 hsb1 => ?_) hs.kind
  have k4 : ∀ b o, s3.heap.get? b = some o → hh1.get? b = some o := fun b o e => hsb1.extBut b o (Nat.ne_of_lt (Heap.lt_size e)) (Heap.get?_push_of_some _ e)
  have gC : Good G n (relb sc scope) N' false (cxC X N' scope cl s3.heap.objs.size s3 (upd H2 Dd (.lst [])) fp) := g.comp
  have I4 : Inv (cxC X N' scope cl s3.heap.objs.size s3 (upd H2 Dd (.lst [])) fp) [] (sig scope N N' m' X.K (upd H2 Dd (.lst [])) r2 fr σ) (upd H2 Dd (.lst [])) { s3 with heap := hh1, toks := s3.toks + 0 } :=
   inv_comp g I3 hs hcl1 hcl2 hfp3 hfl3 hns1 k4
  have sr3 : SR X.K m' (upd H2 Dd (.lst [])) r2 fr (sig scope N N' m' X.K (upd H2 Dd (.lst [])) r2 fr σ) := sig_sr (((sr.mono fm2).mono (Fm.tup hD0))) hn hu
  have hr3 : HR X.K (upd H2 Dd (.lst [])) r2 h1 := hr2.tup hD0
  have hDr : Dd ∉ r2 := fun hm => by
   obtain ⟨k, hk⟩ := List.getElem?_of_mem hm
   have hlt : k < h1.length := by rw [← hr2.len]; exact (List.getElem?_eq_some_iff.mp hk).1
   obtain ⟨a, e3, e4⟩ := hr2.ob k _ (List.getElem?_eq_getElem hlt)
   rw [hk] at e3; cases e3
   cases eo : h1[k] with
   | lst dd => rw [eo] at e4; obtain ⟨us, e5, _⟩ := e4; rw [hD0] at e5; cases e5
   | frz dd =>
    rw [eo] at e4
    obtain ⟨us, e5, _⟩ := e4
    rcases e5 with ⟨ob, e5⟩ | ⟨ob, _, _, e5, _⟩
    ·rw [hD0] at e5; cases e5
    ·have := Heap.lt_size (I2.kIn _ _ e5)
     rw [hDd] at this
     exact absurd this (Nat.lt_irrefl _)
  have hDH : H Dd = none := by
   cases z : H Dd with
   | none => rfl
   | some o =>
    have hnr : Dd ∉ r := fun hm => by
     obtain ⟨k, hk⟩ := List.getElem?_of_mem hm
     exact hDr (List.mem_of_getElem? (fm2.pre _ _ hk))
    have := fm2.keep _ _ z hnr
    rw [hD0] at this; cases this
  have stat : ∀ {Hc : Hp}, (∀ b ∈ fp, Hc b = none) → ∀ b ∈ fp, FpOk (cxC X N' scope cl s3.heap.objs.size s3 (upd H2 Dd (.lst [])) fp) [] Hc b := fun {Hc} hz b hb => by
   refine ⟨hz b hb, Nat.ne_of_lt (hfl3 b hb), (I4.ok).exfs b hb, .inl hb, fun x c e => ((I4.ok).exf b hb).2 x c e, fun p hp => ?_⟩
   simp [cxC] at hp
  have hsz : ds.length ≤ sizeLine := by
   unfold Ev.alloc at e
   split at e
   ·rename_i z; rw [← big_eq]; exact z
   ·cases e
  have fin : codeAny (model X.prog X.w) X.A (.compLoop (.ListComp xe [⟨tg, xi, ifs, 0⟩] scope pos) 0 (.ref ita) (.ref Dd) (compEnvC scope cl s3.heap.objs.size X.env)) (post (.ref Dd) s3.heap.objs.size) { s3 with heap := hh1, toks := s3.toks + 0 } := by
   refine comp_loop gC hg hc he Tn stat hu hJ hD0 hsz (fun s6 σc Hc rc vs I6 hr5 fm5 hDv hDn rv5 => ?_) ⟨0, _, _, r2, h1, [], [], ds, I4, Tn.keep _ _ _ st2 fun b hb o eo => k4 b o (k3 b o eo), fun b hb => (hfp3 b hb).1, rfl, Nat.zero_le _, sr3, hr3, Fm.tup hD0, upd_same, hDr, .nil, by rw [List.drop_zero]; exact e2, rfl⟩
   unfold Ev.alloc at e
   split at e
   ·cases e
    obtain ⟨mm6, hns6, _⟩ := I6.loc
    refine hpost Dd _ s6 Hc (rc ++ [Dd]) ?_ ⟨mm6, hns6⟩ ?_ ⟨Dd, rfl, ?_⟩ (hr5.known hDv hDn rv5) ((fm2.trans fm5).known ?_)
    ·exact I3.call' (ch := fp) (I6.os) I6.base I6.hok I6.bare fun b hb => ⟨(hfp3 b hb).2.2.2.1, (hfp3 b hb).2.1, (hfp3 b hb).2.2.2.2.1, (hfp3 b hb).2.2.2.2.2⟩
    ·exact I3.fpOk (Nat.le_refl _) I6.free
    ·rw [← hr5.len]; simp
    ·exact hDH
   ·cases e
  subst hs3
  exact codeAny_compStart_list fin (Tn.self _ 0 _ _ _ (Tn.keep _ _ _ st2 fun b hb o eo => k4 b o (k3 b o eo)) fin)
 ·cases e
end
end Sm
set_option maxRecDepth 100000
namespace Sm
open PySem PySem.Spec PyProof.Rows L2
open Ev (D O Hh Fr R Phi E Es Eo T S Ss Fl Src BOp COp TY BI ME)
section
variable {G : Tb} {n : Nat} {sc scope : Scope} {N N' : List Str} {df : Bool} {m m' : List Nat} {elt : E} {t : T} {it : Ev.It} {cond : Eo} {xe xi tg : Expr} {ifs : List Expr} {pos : Pos}
theorem Good.cells {X : Cx} {pins : List (Addr × Obj)} {σ : L2.St} {H : Hp} {s : Shared} (g : Good G n sc N df X) (I : Inv X pins σ H s) (hs : ScOk sc scope) :
  ∃ cl, closureFor scope X.env = pure cl ∧ (∀ x c, cl.lookup x = some c → X.env.cells.lookup x = some c) ∧ ∀ x, (x, NameKind.free) ∈ scope.names → ∃ c, cl.lookup x = some c :=
 clos_of fun x hx => I.ok.has x (by unfold Env.kindOf; rw [g.sc]; exact (hs.free x hx).1)
theorem let_go {X : Cx} {pins : List (Addr × Obj)} {σ : L2.St} {H : Hp} {s : Shared} (I : Inv X pins σ H s) {C : Addr} (fp : FpOk X pins H C) {h' : Heap} (hs : Heap.SameBut C s.heap h') : Inv X pins σ H { s with heap := h' } :=
 I.turned (t' := s.toks) (fun b o hb e => hs.extBut b o hb e) fp.1 fp.2.1 fp.2.2.2.1 fp.2.2.2.2.1 fp.2.2.2.2.2
theorem je_comp (hi : JI G n sc N df m it tg xi) (hg : JG G n (relb sc scope) N' false m' t tg) (hc : JC G n (relb sc scope) N' false m' cond ifs) (he : JE G n (relb sc scope) N' false m' elt xe)
  (hn : namesOk sc N m scope t N' m') (hs : ScOk sc scope) (hf : ∀ (env : Env) x, foldedSetIterable xi env x = pure x := by intro _ _; rfl) : JE G n sc N df m (.comp elt t it cond) (.ListComp xe [⟨tg, xi, ifs, 0⟩] scope pos) := fun X g pins s σ H Q I q => by
 obtain ⟨r, fr, h, d, h', sr, hr, e, q⟩ := q
 obtain ⟨cl, hcl, hcl1, hcl2⟩ := g.cells I hs
 rw [eval_ListComp]
 refine wpAny_comprehension_free (use := none) (Q := EP X pins σ Q) rfl (hf _) hcl hs.kind hs.loc ?_
 refine comp_core g hi hg hc he hn hs hcl1 hcl2 I sr hr e (fun acc C => compPost (model X.prog X.w) X.A X.xe none (EP X pins σ Q) acc C) (fun Dd C s' H' r' I' hC fp rv hr' fm' => ?_) g.xe
 obtain ⟨mm, hC⟩ := hC
 exact ⟨mm, hC, fun h'' hsb => ⟨.ref Dd, H', let_go I' fp hsb, rfl, q _ H' r' rv hr' fm'⟩⟩
end
end Sm
set_option maxRecDepth 100000
namespace Sm
open PySem PySem.Spec PyProof.Rows L2 PySem.SeqAt
open Ev (D O Hh Fr R Phi E Es Eo T S Ss Fl Src BOp COp TY BI ME)
structure EqU (A : Around) (s : Shared) (u w : Value) (k : Bool) : Prop where
 eq : EqAt A s u w k
 rc : RcAt A s u w k
 ne : RcNeAt A s u w (!k)
theorem eqL_len {f : D → D → Option Bool} : ∀ {x y : List D}, x.length ≠ y.length → ∀ {k}, Ev.eqL f x y = some k → k = false
 | [], [], h, _, _ => absurd rfl h
 | [], _ :: _, _, _, e => by cases e; rfl
 | _ :: _, [], _, _, e => by cases e; rfl
 | a :: x, b :: y, h, k, e => by
  simp only [Ev.eqL, Option.bind_eq_bind, Option.bind_eq_some_iff] at e
  obtain ⟨p, _, q, e2, e3⟩ := e
  have := eqL_len (x := x) (y := y) (by simpa using h) e2
  subst this
  cases e3
  simp
theorem eqL_all {f : D → D → Option Bool} : ∀ {x y : List D} {k}, Ev.eqL f x y = some k → x.length = y.length → ∃ e : Nat → Bool, (∀ (j : Nat) a b, x[j]? = some a → y[j]? = some b → f a b = some (e j)) ∧ (List.range x.length).all e = k
 | [], [], _, h, _ => ⟨fun _ => true, (fun j a b h1 => by simp at h1), by cases h; simp⟩
 | [], _ :: _, _, _, h => by simp at h
 | _ :: _, [], _, _, h => by simp at h
 | a :: x, b :: y, k, h, hl => by
  simp only [Ev.eqL, Option.bind_eq_bind, Option.bind_eq_some_iff] at h
  obtain ⟨p, e1, q, e2, e3⟩ := h
  cases e3
  obtain ⟨e, h1, h2⟩ := eqL_all e2 (by simpa using hl)
  refine ⟨fun j => match j with | 0 => p | j + 1 => e j, fun j a' b' g1 g2 => ?_, ?_⟩
  ·cases j with
   | zero => simp at g1 g2; subst g1 g2; exact e1
   | succ j => exact h1 j a' b' (by simpa using g1) (by simpa using g2)
  ·rw [List.length_cons, List.range_succ_eq_map, List.all_cons, List.all_map, ← h2]
   rfl
theorem eqL_pre {f : D → D → Option Bool} : ∀ {x y : List D} {k}, Ev.eqL f x y = some k → ∃ e : Nat → Bool, ∀ (j : Nat) a b, x[j]? = some a → y[j]? = some b → f a b = some (e j)
 | [], _, _, _ => ⟨fun _ => true, fun j a b h1 => by simp at h1⟩
 | _ :: _, [], _, _ => ⟨fun _ => true, fun j a b _ h1 => by simp at h1⟩
 | a :: x, b :: y, k, h => by
  simp only [Ev.eqL, Option.bind_eq_bind, Option.bind_eq_some_iff] at h
  obtain ⟨p, e1, q, e2, e3⟩ := h
  obtain ⟨e, h1⟩ := eqL_pre e2
  refine ⟨fun j => match j with | 0 => p | j + 1 => e j, fun j a' b' g1 g2 => ?_⟩
  cases j with
  | zero => simp at g1 g2; subst g1 g2; exact e1
  | succ j => exact h1 j a' b' (by simpa using g1) (by simpa using g2)
section
variable {X : Cx} {pins : List (Addr × Obj)} {σ : L2.St} {H : Hp} {s : Shared} {r : List Addr} {h : Hh}
theorem frz_lst (I : Inv X pins σ H s) {a b : Addr} {vs ws : List V} (h1 : FrzL X.K H a vs) (h2 : H b = some (.lst ws)) : a ≠ b := by
 rintro rfl
 rcases h1 with ⟨o, h1⟩ | ⟨o, _, _, h1, _⟩
 ·rw [h2] at h1; cases h1
 ·have := (I.bs a o (I.ok.mod.kin a o h1)).2
  rw [h2] at this; cases this
theorem seq_items {x y : List D} {vs ws : List V} {us zs : List Value} {f : D → D → Option Bool} {A : Around} {k : Bool} (v1 : RVs X.K H r x vs) (v2 : RVs X.K H r y ws) (p1 : Vals vs us) (p2 : Vals ws zs)
  (ih : ∀ a b va vb u w k, RV X.K H r a va → RV X.K H r b vb → RelV va u → RelV vb w → f a b = some k → EqU A s u w k) (hl : x.length = y.length) (e : Ev.eqL f x y = some k) :
  ∃ e' : Nat → Bool, (∀ j (h1 : j < us.toArray.size) (h2 : j < zs.toArray.size), EqAt A s us.toArray[j] zs.toArray[j] (e' j)) ∧ (List.range us.toArray.size).all e' = k ∧ us.length = zs.length := by
 obtain ⟨e', h1, h2⟩ := eqL_all e hl
 have l1 := v1.length
 have l2 := v2.length
 have l3 := p1.length
 have l4 := p2.length
 refine ⟨e', fun j g1 g2 => ?_, ?_, by omega⟩
 ·have g1' : j < us.length := by simpa using g1
  have g2' : j < zs.length := by simpa using g2
  have ha : x[j]? = some x[j] := List.getElem?_eq_getElem (by omega)
  have hb : y[j]? = some y[j] := List.getElem?_eq_getElem (by omega)
  obtain ⟨va, a1, a2⟩ := v1.get ha
  obtain ⟨vb, b1, b2⟩ := v2.get hb
  obtain ⟨u, a3, a4⟩ := p1.get a1
  obtain ⟨w, b3, b4⟩ := p2.get b1
  have eu : us.toArray[j] = u := by
   have := (List.getElem?_eq_some_iff.mp a3).2
   simpa using this
  have ew : zs.toArray[j] = w := by
   have := (List.getElem?_eq_some_iff.mp b3).2
   simpa using this
  rw [eu, ew]
  exact (ih _ _ _ _ _ _ _ a2 b2 a4 b4 (h1 j _ _ ha hb)).eq
 ·rw [← h2]
  have : us.toArray.size = x.length := by simp; omega
  rw [this]
noncomputable def Shp (K : PySem.W.Frag) (H : Hp) (r : List Addr) : D → V → Prop
 | .non, v => v = .non
 | .bl b, v => v = .bl b
 | .int i, v => v = .int i
 | .str l, v => v = .str (sOf l)
 | .ref n, v => ∃ a, v = .ref a ∧ r[n]? = some a
 | .tup ds, v => ∃ a vs, v = .ref a ∧ SqT K H a vs ∧ RVs K H r ds vs
theorem RV.shape {d : D} {v : V} (h : RV X.K H r d v) : Shp X.K H r d v := by
 cases d <;> simp only [RV] at h <;> simp only [Shp] <;> first | exact h | exact h.1
theorem str_dec {a b : List Nat} : (sOf a == sOf b) = (a == b) := by
 by_cases e : a = b
 ·subst e; simp
 ·have e1 : (sOf a == sOf b) = false := beq_eq_false_iff_ne.mpr fun z => e (sOf_inj z)
  have e2 : (a == b) = false := beq_eq_false_iff_ne.mpr e
  rw [e1, e2]
theorem lists_eq {n : Nat} {A : Around} {x y : List D} {a b : Addr} {vs ws : List V} {k : Bool} (I : Inv X pins σ H s) (hu : A.units < cLine) (q1 : SqL X.K H a vs) (q2 : SqL X.K H b ws) (v1 : RVs X.K H r x vs) (v2 : RVs X.K H r y ws) (hab : a ≠ b)
  (ih : ∀ a b va vb u w k, RV X.K H r a va → RV X.K H r b vb → RelV va u → RelV vb w → Ev.deq h n a b = some k → EqU A.in1 s u w k) (e : Ev.eqL (Ev.deq h n) x y = some k) : EqU A s (.ref a) (.ref b) k := by
 obtain ⟨us, p1, pl1, _⟩ := I.list q1
 obtain ⟨zs, p2, pl2, _⟩ := I.list q2
 by_cases hl : x.length = y.length
 ·obtain ⟨e', h1, h2, h3⟩ := seq_items v1 v2 p1 p2 ih hl e
  have hs : us.toArray.size = zs.toArray.size := by simpa using h3
  have rc := RcAt.lists pl1.isList pl2.isList hs hu h1
  have ne := RcNeAt.lists pl1.isList pl2.isList hs hu h1
  rw [h2] at rc ne
  exact ⟨.of_refs hab rc, rc, ne⟩
 ·have hk := eqL_len hl e
  subst hk
  have hs : (us.toArray.size != zs.toArray.size) = true := by
   have l1 := v1.length
   have l2 := v2.length
   have l3 := p1.length
   have l4 := p2.length
   simp only [List.size_toArray, bne_iff_ne, ne_eq]
   omega
  exact ⟨.of_refs hab (.lists_lengths pl1.isList pl2.isList hs hu), .lists_lengths pl1.isList pl2.isList hs hu, .lists_lengths pl1.isList pl2.isList hs hu⟩
theorem lst_at (I : Inv X pins σ H s) (hr : HR X.K H r h) {n : Nat} {a : Addr} {ds : List D} (e : Ev.lstOf h n = some ds) (ha : r[n]? = some a) : ∃ us : List Value, PlainL s.heap a us.toArray := by
 obtain ⟨a', vs, e1, e2, e3⟩ := hr.read e
 rw [ha] at e1; cases e1
 obtain ⟨us, _, pl, _⟩ := I.list e2
 exact ⟨us, pl⟩
theorem same_true (I : Inv X pins σ H s) (hr : HR X.K H r h) : ∀ (n : Nat) (a b : D) (v : V) (k : Bool), RV X.K H r a v → RV X.K H r b v → Ev.deq h n a b = some k → k = true := by
 intro n
 induction n with
 | zero => intro a b v k _ _ e; cases e
 | succ n ih =>
  have items : ∀ (x y : List D) (vs : List V) (k : Bool), RVs X.K H r x vs → RVs X.K H r y vs → Ev.eqL (Ev.deq h n) x y = some k → k = true := by
   intro x
   induction x with
   | nil =>
    intro y vs k h1 h2 e
    simp only [RVs] at h1
    subst h1
    cases y with
    | nil => cases e; rfl
    | cons _ _ => simp only [RVs] at h2; obtain ⟨_, _, h2, _⟩ := h2; cases h2
   | cons d x ihx =>
    intro y vs k h1 h2 e
    simp only [RVs] at h1
    obtain ⟨v, w, rfl, h3, h4⟩ := h1
    cases y with
    | nil => simp only [RVs] at h2; cases h2
    | cons d' y =>
     simp only [RVs] at h2
     obtain ⟨v', w', e2, h5, h6⟩ := h2
     cases e2
     simp only [Ev.eqL, Option.bind_eq_bind, Option.bind_eq_some_iff] at e
     obtain ⟨p, e1, q, e2, e3⟩ := e
     cases e3
     rw [ih d d' v p h3 h5 e1, ihx y w q h4 h6 e2]
     rfl
  have lt : ∀ (a : Addr) (vs : List V) (i : Nat) (ds : List D), SqT X.K H a vs → r[i]? = some a → Ev.lstOf h i = some ds → False := fun a vs i ds h1 h2 h3 => by
   obtain ⟨us, pl⟩ := lst_at I hr h3 h2
   obtain ⟨zs, _, pt, _⟩ := I.tuple h1
   exact ne_of_list_tuple pl.isList pt rfl
  intro a b v k h1 h2 e
  have s1 := h1.shape
  have s2 := h2.shape
  clear h1 h2
  cases a with
  | non => cases e
  | bl _ => cases e
  | int x => simp only [Shp] at s1; cases b with
   | int y => simp only [Shp] at s2; rw [s1] at s2; cases s2; cases e; simp
   | ref m => obtain ⟨p, z, _⟩ := s2; rw [s1] at z; cases z
   | tup y => obtain ⟨p, _, z, _⟩ := s2; rw [s1] at z; cases z
   | _ => simp only [Shp] at s2; rw [s1] at s2; cases s2
  | str x => simp only [Shp] at s1; cases b with
   | str y =>
    simp only [Shp] at s2
    rw [s1] at s2
    have : x = y := sOf_inj (by injection s2)
    subst this
    cases e; simp
   | ref m => obtain ⟨p, z, _⟩ := s2; rw [s1] at z; cases z
   | tup y => obtain ⟨p, _, z, _⟩ := s2; rw [s1] at z; cases z
   | _ => simp only [Shp] at s2; rw [s1] at s2; cases s2
  | tup x =>
   obtain ⟨p, vs, rfl, z, w⟩ := s1
   cases b with
   | tup y =>
    obtain ⟨p', vs', z', z2, w2⟩ := s2
    cases z'
    rw [I.tuple_inj z2 z] at w2
    exact items x y vs k w w2 e
   | ref m =>
    obtain ⟨p', z', z2⟩ := s2
    cases z'
    obtain ⟨ds, e1, _⟩ := Option.map_eq_some_iff.mp e
    exact (lt _ _ _ _ z z2 e1).elim
   | _ => cases s2
  | ref i =>
   obtain ⟨p, rfl, z⟩ := s1
   cases b with
   | ref m =>
    obtain ⟨p', z', z2⟩ := s2
    cases z'
    replace e : Ev.deqR h (Ev.deq h n) i m = some k := e
    unfold Ev.deqR at e
    split at e
    ·simp only [Option.map_eq_some_iff] at e
     obtain ⟨_, _, e⟩ := e
     exact e.symm
    ·rename_i hne
     split at e
     ·rename_i x y g1 g2
      exact absurd (hr.inj _ _ _ _ _ z z2 g1 g2) hne
     ·rename_i x y g1 g2
      obtain ⟨p1, q1, vs1, q2, _⟩ := hr.ob _ _ g1
      obtain ⟨p2, q3, vs2, q4, _⟩ := hr.ob _ _ g2
      rw [z] at q1; cases q1
      rw [z2] at q3; cases q3
      exact absurd rfl (frz_lst I q2 q4)
     ·rename_i x y g1 g2
      obtain ⟨p1, q1, vs1, q2, _⟩ := hr.ob _ _ g1
      obtain ⟨p2, q3, vs2, q4, _⟩ := hr.ob _ _ g2
      rw [z] at q1; cases q1
      rw [z2] at q3; cases q3
      exact absurd rfl (frz_lst I q4 q2)
     ·cases e
   | tup y =>
    obtain ⟨p', vs', z', z2, w2⟩ := s2
    cases z'
    obtain ⟨ds, e1, _⟩ := Option.map_eq_some_iff.mp e
    exact (lt _ _ _ _ z2 z e1).elim
   | _ => cases s2
theorem tups_eq {n : Nat} {A : Around} {x y : List D} {a b : Addr} {vs ws : List V} {k : Bool} (I : Inv X pins σ H s) (hr : HR X.K H r h) (hu : A.units < cLine) (q1 : SqT X.K H a vs) (q2 : SqT X.K H b ws) (v1 : RVs X.K H r x vs) (v2 : RVs X.K H r y ws)
  (ih : ∀ a b va vb u w k, RV X.K H r a va → RV X.K H r b vb → RelV va u → RelV vb w → Ev.deq h n a b = some k → EqU A.in1 s u w k) (e : Ev.eqL (Ev.deq h n) x y = some k) : EqU A s (.ref a) (.ref b) k := by
 obtain ⟨us, p1, pl1, _⟩ := I.tuple q1
 obtain ⟨zs, p2, pl2, _⟩ := I.tuple q2
 have l1 := v1.length
 have l2 := v2.length
 have l3 := p1.length
 have l4 := p2.length
 have both : RcAt A s (.ref a) (.ref b) k ∧ RcNeAt A s (.ref a) (.ref b) (!k) := by
  by_cases hl : x.length = y.length
  ·obtain ⟨e', h1, h2, h3⟩ := seq_items v1 v2 p1 p2 ih hl e
   have rc := RcAt.tuples pl1 pl2 hu h1
   have ne := RcNeAt.tuples pl1 pl2 hu h1
   have hs : us.toArray.size = zs.toArray.size := by simpa using h3
   have hb : ((List.range (min us.toArray.size zs.toArray.size)).all e' && us.toArray.size == zs.toArray.size) = k := by
    rw [← hs, Nat.min_self, h2]; simp
   rw [hb] at rc ne
   exact ⟨rc, ne⟩
  ·have hk := eqL_len hl e
   subst hk
   have hcl : ∃ e' : Nat → Bool, ∀ j (h1 : j < us.toArray.size) (h2 : j < zs.toArray.size), EqAt A.in1 s us.toArray[j] zs.toArray[j] (e' j) := by
    obtain ⟨e', h1⟩ := eqL_pre e
    refine ⟨e', fun j g1 g2 => ?_⟩
    have g1' : j < us.length := by simpa using g1
    have g2' : j < zs.length := by simpa using g2
    have ha : x[j]? = some x[j] := List.getElem?_eq_getElem (by omega)
    have hb : y[j]? = some y[j] := List.getElem?_eq_getElem (by omega)
    obtain ⟨va, a1, a2⟩ := v1.get ha
    obtain ⟨vb, b1, b2⟩ := v2.get hb
    obtain ⟨u, a3, a4⟩ := p1.get a1
    obtain ⟨w, b3, b4⟩ := p2.get b1
    have eu : us.toArray[j] = u := by
     have := (List.getElem?_eq_some_iff.mp a3).2
     simpa using this
    have ew : zs.toArray[j] = w := by
     have := (List.getElem?_eq_some_iff.mp b3).2
     simpa using this
    rw [eu, ew]
    exact (ih _ _ _ _ _ _ _ a2 b2 a4 b4 (h1 j _ _ ha hb)).eq
   obtain ⟨e', h1⟩ := hcl
   have rc := RcAt.tuples pl1 pl2 hu h1
   have ne := RcNeAt.tuples pl1 pl2 hu h1
   have hs : (us.toArray.size == zs.toArray.size) = false := by
    simp only [List.size_toArray, beq_eq_false_iff_ne, ne_eq]; omega
   rw [hs, Bool.and_false] at rc ne
   exact ⟨rc, ne⟩
 by_cases hab : a = b
 ·subst hab
  rw [I.tuple_inj q2 q1] at v2
  have hk : k = true := same_true I hr (n + 1) (.tup x) (.tup y) (.ref a) k ⟨a, vs, rfl, q1, v1⟩ ⟨a, vs, rfl, q1, v2⟩ e
  subst hk
  exact ⟨.same _, both.1, both.2⟩
 ·exact ⟨.of_refs hab both.1, both.1, both.2⟩
end
end Sm
set_option maxRecDepth 100000
namespace Sm
open PySem PySem.Spec PyProof.Rows L2 PySem.SeqAt
open Ev (D O Hh Fr R Phi E Es Eo T S Ss Fl Src BOp COp TY BI ME)
section
variable {X : Cx} {pins : List (Addr × Obj)} {σ : L2.St} {H : Hp} {s : Shared} {r : List Addr} {h : Hh}
theorem eq_at (I : Inv X pins σ H s) (hr : HR X.K H r h) : ∀ (n : Nat) (A : Around) (a b : D) (va vb : V) (u w : Value) (k : Bool), A.units + n < cLine → RV X.K H r a va → RV X.K H r b vb → RelV va u → RelV vb w → Ev.deq h n a b = some k → EqU A s u w k := by
 intro n
 induction n with
 | zero => intro A a b va vb u w k _ _ _ _ _ e; cases e
 | succ n ih =>
  intro A a b va vb u w k hu h1 h2 r1 r2 e
  have hu0 : A.units < cLine := by omega
  have ih' : ∀ a b va vb u w k, RV X.K H r a va → RV X.K H r b vb → RelV va u → RelV vb w → Ev.deq h n a b = some k → EqU A.in1 s u w k := fun a b va vb u w k => ih A.in1 a b va vb u w k (by show A.units + 1 + n < cLine; omega)
  have s1 := h1.shape
  have s2 := h2.shape
  have lst : ∀ {i : Nat} {v : V} {u : Value} {ds : List D}, Shp X.K H r (.ref i) v → RelV v u → Ev.lstOf h i = some ds → ∃ p us, u = .ref p ∧ PlainL s.heap p (List.toArray us) := fun {i v u ds} hv ru el => by
   obtain ⟨p, rfl, z⟩ := hv
   cases ru
   obtain ⟨us, pl⟩ := lst_at I hr el z
   exact ⟨p, us, rfl, pl⟩
  have tup : ∀ {ds : List D} {v : V} {u : Value}, Shp X.K H r (.tup ds) v → RelV v u → ∃ p us, u = .ref p ∧ s.heap.IsTuple p (List.toArray us) := fun {ds v u} hv ru => by
   obtain ⟨p, vs, rfl, z, _⟩ := hv
   cases ru
   obtain ⟨us, _, pt, _⟩ := I.tuple z
   exact ⟨p, us, rfl, pt⟩
  cases a with
  | non => cases e
  | bl _ => cases e
  | int x =>
   simp only [Shp] at s1; subst s1; obtain ⟨t0, rfl⟩ := r1
   cases b with
   | non => cases e
   | bl _ => cases e
   | int y => simp only [Shp] at s2; subst s2; obtain ⟨t, rfl⟩ := r2; cases e; exact ⟨.int_int _ _ _ _, .int_int _ _ _ _, .int_int _ _ _ _⟩
   | str y => simp only [Shp] at s2; subst s2; obtain ⟨t, rfl⟩ := r2; cases e; exact ⟨.int_str _ _ _ _, .int_str _ _ _ _, .int_str _ _ _ _⟩
   | tup y => obtain ⟨p, us, rfl, pt⟩ := tup s2 r2; cases e; exact ⟨.int_tuple _ _ pt hu0, .int_tuple _ _ pt hu0, .int_tuple _ _ pt hu0⟩
   | ref m =>
    obtain ⟨ds, e1, rfl⟩ := Option.map_eq_some_iff.mp e
    obtain ⟨p, us, rfl, pl⟩ := lst s2 r2 e1
    exact ⟨.int_list _ _ pl.isList hu0, .int_list _ _ pl.isList hu0, .int_list _ _ pl.isList hu0⟩
  | str x =>
   simp only [Shp] at s1; subst s1; obtain ⟨t0, rfl⟩ := r1
   cases b with
   | non => cases e
   | bl _ => cases e
   | int y => simp only [Shp] at s2; subst s2; obtain ⟨t, rfl⟩ := r2; cases e; exact ⟨.str_int _ _ _ _, .str_int _ _ _ _, .str_int _ _ _ _⟩
   | str y =>
    simp only [Shp] at s2; subst s2; obtain ⟨t, rfl⟩ := r2
    cases e
    rw [← str_dec]
    exact ⟨.str_str _ _ _ _, .str_str _ _ _ _, .str_str _ _ _ _⟩
   | tup y => obtain ⟨p, us, rfl, pt⟩ := tup s2 r2; cases e; exact ⟨.str_tuple _ _ pt hu0, .str_tuple _ _ pt hu0, .str_tuple _ _ pt hu0⟩
   | ref m =>
    obtain ⟨ds, e1, rfl⟩ := Option.map_eq_some_iff.mp e
    obtain ⟨p, us, rfl, pl⟩ := lst s2 r2 e1
    exact ⟨.str_list _ _ pl.isList hu0, .str_list _ _ pl.isList hu0, .str_list _ _ pl.isList hu0⟩
  | tup x =>
   cases b with
   | tup y =>
    obtain ⟨p, vs, rfl, z, w1⟩ := s1
    obtain ⟨p', vs', rfl, z', w2⟩ := s2
    cases r1; cases r2
    exact tups_eq I hr hu0 z z' w1 w2 ih' e
   | non => cases e
   | bl _ => cases e
   | int y => obtain ⟨p, us, rfl, pt⟩ := tup s1 r1; simp only [Shp] at s2; subst s2; obtain ⟨t, rfl⟩ := r2; cases e; exact ⟨.tuple_int _ _ pt hu0, .tuple_int _ _ pt hu0, .tuple_int _ _ pt hu0⟩
   | str y => obtain ⟨p, us, rfl, pt⟩ := tup s1 r1; simp only [Shp] at s2; subst s2; obtain ⟨t, rfl⟩ := r2; cases e; exact ⟨.tuple_str _ _ pt hu0, .tuple_str _ _ pt hu0, .tuple_str _ _ pt hu0⟩
   | ref m =>
    obtain ⟨p, us, rfl, pt⟩ := tup s1 r1
    obtain ⟨ds, e1, rfl⟩ := Option.map_eq_some_iff.mp e
    obtain ⟨p', us', rfl, pl⟩ := lst s2 r2 e1
    exact ⟨.tuple_list pt pl.isList hu0, .tuple_list pt pl.isList hu0, .tuple_list pt pl.isList hu0⟩
  | ref i =>
   cases b with
   | ref m =>
    replace e : Ev.deqR h (Ev.deq h n) i m = some k := e
    unfold Ev.deqR at e
    split at e
    ·rename_i him
     subst him
     simp only [Option.map_eq_some_iff] at e
     obtain ⟨ds, e1, rfl⟩ := e
     obtain ⟨p, us, rfl, pl⟩ := lst s1 r1 e1
     obtain ⟨p0, rfl, z⟩ := s1
     obtain ⟨p1, rfl, z'⟩ := s2
     rw [z] at z'; cases z'
     cases r1; cases r2
     have q : (List.range (List.toArray us).size).all (fun _ => true) = true := by simp
     have rc := RcAt.lists (A := A) (e := fun _ => true) pl.isList pl.isList rfl hu0 fun j _ _ => EqAt.same _
     have ne := RcNeAt.lists (A := A) (e := fun _ => true) pl.isList pl.isList rfl hu0 fun j _ _ => EqAt.same _
     rw [q] at rc ne
     exact ⟨.same _, rc, ne⟩
    ·rename_i hne
     obtain ⟨p0, rfl, z⟩ := s1
     obtain ⟨p1, rfl, z'⟩ := s2
     cases r1; cases r2
     split at e
     ·rename_i x y g1 g2
      obtain ⟨q0, q1, vs1, q2, q3⟩ := hr.ob _ _ g1
      obtain ⟨q4, q5, vs2, q6, q7⟩ := hr.ob _ _ g2
      rw [z] at q1; cases q1
      rw [z'] at q5; cases q5
      exact lists_eq I hu0 (.of q2) (.of q6) q3 q7 (fun w => hne (hr.inj _ _ _ _ _ z (by rw [w]; exact z') g1 g2)) ih' e
     ·rename_i x y g1 g2
      obtain ⟨q0, q1, vs1, q2, q3⟩ := hr.ob _ _ g1
      obtain ⟨q4, q5, vs2, q6, q7⟩ := hr.ob _ _ g2
      rw [z] at q1; cases q1
      rw [z'] at q5; cases q5
      exact lists_eq I hu0 (frzSq q2) (.of q6) q3 q7 (frz_lst I q2 q6) ih' e
     ·rename_i x y g1 g2
      obtain ⟨q0, q1, vs1, q2, q3⟩ := hr.ob _ _ g1
      obtain ⟨q4, q5, vs2, q6, q7⟩ := hr.ob _ _ g2
      rw [z] at q1; cases q1
      rw [z'] at q5; cases q5
      exact lists_eq I hu0 (.of q2) (frzSq q6) q3 q7 (frz_lst I q6 q2).symm ih' e
     ·cases e
   | non => cases e
   | bl _ => cases e
   | int y => obtain ⟨ds, e1, rfl⟩ := Option.map_eq_some_iff.mp e; obtain ⟨p, us, rfl, pl⟩ := lst s1 r1 e1; simp only [Shp] at s2; subst s2; obtain ⟨t, rfl⟩ := r2; exact ⟨.list_int _ _ pl.isList hu0, .list_int _ _ pl.isList hu0, .list_int _ _ pl.isList hu0⟩
   | str y => obtain ⟨ds, e1, rfl⟩ := Option.map_eq_some_iff.mp e; obtain ⟨p, us, rfl, pl⟩ := lst s1 r1 e1; simp only [Shp] at s2; subst s2; obtain ⟨t, rfl⟩ := r2; exact ⟨.list_str _ _ pl.isList hu0, .list_str _ _ pl.isList hu0, .list_str _ _ pl.isList hu0⟩
   | tup y =>
    obtain ⟨ds, e1, rfl⟩ := Option.map_eq_some_iff.mp e
    obtain ⟨p, us, rfl, pl⟩ := lst s1 r1 e1
    obtain ⟨p', us', rfl, pt⟩ := tup s2 r2
    exact ⟨.list_tuple pl.isList pt hu0, .list_tuple pl.isList pt hu0, .list_tuple pl.isList pt hu0⟩
where
 frzSq {K : PySem.W.Frag} {H : Hp} {a : Addr} {vs : List V} (q : FrzL K H a vs) : SqL K H a vs := by
  rcases q with ⟨ob, e2⟩ | e2
  ·exact .inl (.inr ⟨ob, e2⟩)
  ·exact .inr e2
end
theorem Good.units {G : Tb} {n : Nat} {sc : Scope} {N : List Str} {df : Bool} {X : Cx} (g : Good G n sc N df X) : X.A.units + 1 + Ev.deep < cLine := by
 have := g.room.un
 have : Ev.deep = 20 := rfl
 omega
section
variable {G : Tb} {n : Nat} {sc : Scope} {N : List Str} {df : Bool} {X : Cx}
theorem fin_cmp {pins : List (Addr × Obj)} {σ : L2.St} {H : Hp} {s : Shared} {Q : VK} {r : List Addr} {h : Hh} {k : Bool} (I : Inv X pins σ H s) (hr : HR X.K H r h) (q : Res X.K r H h (.bl k) Q) : EP X pins σ Q (.bool k) s :=
 ⟨.bl k, H, I, rfl, q.here rfl hr⟩
theorem oc_eq (g : Good G n sc N df X) : OpR X (compareOp .Eq) (rD2 X.K (cmpD .eq)) := by
 intro pins s σ H x y v u Q I rx ry q
 obtain ⟨r, h, a, b, d, h', hr, v1, v2, e, q⟩ := q
 obtain ⟨k, e1, rfl, rfl⟩ := cmpD_ok e
 have := g.units
 exact (eq_at I hr Ev.deep X.A a b x y v u k (by omega) v1 v2 rx ry e1).rc _ _ _ _ (fin_cmp I hr q)
theorem oc_ne (g : Good G n sc N df X) : OpR X (compareOp .NotEq) (rD2 X.K (cmpD .ne)) := by
 intro pins s σ H x y v u Q I rx ry q
 obtain ⟨r, h, a, b, d, h', hr, v1, v2, e, q⟩ := q
 obtain ⟨k, e1, rfl, rfl⟩ := cmpD_ok e
 have := g.units
 delta Ev.cop at e1; dsimp only at e1; simp only [Option.map_eq_some_iff] at e1
 obtain ⟨k', e2, rfl⟩ := e1
 exact (eq_at I hr Ev.deep X.A a b x y v u k' (by omega) v1 v2 rx ry e2).ne _ _ _ _ (fin_cmp I hr q)
theorem oc_int {op : CmpOp} {o : COp} {p : Int → Int → Bool} (ho : OpR X (compareOp op) (rI0 fun i j => .bl (p i j))) (hc : ∀ a b h k, Ev.cop o a b h = some k → ∃ i j, a = .int i ∧ b = .int j ∧ k = p i j) : OpR X (compareOp op) (rD2 X.K (cmpD o)) := by
 intro pins s σ H x y v u Q I rx ry q
 obtain ⟨r, h, a, b, d, h', hr, v1, v2, e, q⟩ := q
 obtain ⟨k, e1, rfl, rfl⟩ := cmpD_ok e
 obtain ⟨i, j, rfl, rfl, rfl⟩ := hc _ _ _ _ e1
 exact ho pins s σ H x y v u Q I rx ry ⟨i, j, v1, v2, q.here rfl hr⟩
theorem oc_lt : OpR X (compareOp .Lt) (rD2 X.K (cmpD .lt)) := oc_int op_lt fun a b h k e => by
 cases a <;> cases b <;> (delta Ev.cop at e; dsimp only at e) <;> first | (cases e; exact ⟨_, _, rfl, rfl, rfl⟩) | cases e
theorem oc_gt : OpR X (compareOp .Gt) (rD2 X.K (cmpD .gt)) := oc_int op_gt fun a b h k e => by
 cases a <;> cases b <;> (delta Ev.cop at e; dsimp only at e) <;> first | (cases e; exact ⟨_, _, rfl, rfl, rfl⟩) | cases e
end
end Sm
set_option maxRecDepth 100000
namespace Sm
open PySem PySem.Spec PyProof.Rows L2 PySem.SeqAt
open Ev (D O Hh Fr R Phi E Es Eo T S Ss Fl Src BOp COp TY BI ME)
section
variable {X : Cx} {pins : List (Addr × Obj)} {σ : L2.St} {H : Hp} {s : Shared} {r : List Addr} {h : Hh}
end
section
variable {G : Tb} {n : Nat} {sc : Scope} {N : List Str} {df : Bool} {X : Cx}
theorem sOf_app (a b : List Nat) : sOf a ++ sOf b = sOf (a ++ b) := by
 show Str.append (sOf a) (sOf b) = _
 simp [Str.append, sOf]
theorem cat_nil {pins : List (Addr × Obj)} {σ : L2.St} {H : Hp} {s : Shared} {Q : Value → Shared → Prop} {E : Value → Shared → Prop} (I : Inv X pins σ H s) {a b : Addr} {ys : List V} (h1 : SqT X.K H a []) (h2 : SqT X.K H b ys) (q : Q (.ref b) s) : wpAny (model X.prog X.w) X.A (binaryOp .Add (.ref a) (.ref b)) Q E s := by
 obtain ⟨us, p1, pt1, _⟩ := I.tuple h1
 obtain ⟨zs, p2, pt2, _⟩ := I.tuple h2
 cases p1
 obtain ⟨⟨cls, dd, data, sl⟩, ho, hc, n, hd⟩ := id pt1
 obtain ⟨⟨cls2, dd2, data2, sl2⟩, ho2, hc2, n2, hd2⟩ := id pt2
 simp only at hc hd hc2 hd2
 subst hc hd hc2 hd2
 exact concat_meets ⟨_, ho, rfl⟩ ⟨_, ho2, rfl⟩ noFill_tuple_add seq_tuple_add PySem.F.slot_tuple_add PySem.F.entry_tuple_add (PySem.F.args_tuple_add_2 _ _)
  (tuple_addW0 a b _ _ n n2 dd dd2 sl sl2 (by simp)) ⟨ho, ho2, q⟩
theorem ob_add : OpR X (binaryOp .Add) (rD2 X.K (Ev.bop .add)) := by
 intro pins s σ H x y v u Q I rx ry q
 obtain ⟨r, h, a, b, d, h', hr, v1, v2, e, q⟩ := q
 have s1 := v1.shape
 have s2 := v2.shape
 cases a with
 | int i => cases b with
  | int j => cases e; exact op_add pins s σ H x y v u Q I rx ry ⟨i, j, s1, s2, q.here rfl hr⟩
  | _ => cases e
 | str i => cases b with
  | str j =>
   delta Ev.bop at e; dsimp only at e
   split at e
   ·rename_i hz
    cases e
    rw [big_eq] at hz
    refine op_add_str pins s σ H x y v u Q I rx ry ⟨sOf i, sOf j, s1, s2, by rw [sOf_len, sOf_len]; exact hz, ?_⟩
    rw [sOf_app]
    exact q.here ⟨rfl, by rw [List.length_append]; exact hz⟩ hr
   ·cases e
  | _ => cases e
 | tup i => cases b with
  | tup j =>
   delta Ev.bop at e; dsimp only at e
   split at e
   ·rename_i hz
    cases e
    rw [big_eq] at hz
    obtain ⟨pa, vs, rfl, z1, w1⟩ := s1
    obtain ⟨pb, ws, rfl, z2, w2⟩ := s2
    have l1 := w1.length
    have l2 := w2.length
    cases vs with
    | nil =>
     cases rx; cases ry
     refine cat_nil I z1 z2 ⟨.ref pb, H, I, rfl, q.here ?_ hr⟩
     have : i = [] := by cases i with | nil => rfl | cons _ _ => simp at l1
     subst this
     exact ⟨pb, ws, rfl, z2, by simpa using w2⟩
    | cons v0 vs =>
     refine op_catT pins s σ H _ _ v u Q I rx ry ⟨pa, pb, v0 :: vs, ws, rfl, rfl, z1, z2, by simp, by rw [l1, l2]; exact hz, fun hw => ?_, fun hw p hp => ?_⟩
     ·subst hw
      have : j = [] := by cases j with | nil => rfl | cons _ _ => simp at l2
      subst this
      exact q.here ⟨pa, v0 :: vs, rfl, z1, by simpa using w1⟩ hr
     ·exact q.tup (w1.append w2) hr hp
   ·cases e
  | _ => cases e
 | ref i => cases b with
  | ref j =>
   delta Ev.bop at e; dsimp only at e
   split at e
   ·rename_i ds es e1 e2
    obtain ⟨pa, rfl, z1⟩ := s1
    obtain ⟨pb, rfl, z2⟩ := s2
    cases rx; cases ry
    obtain ⟨p1, g1, vs, g2, g3⟩ := hr.ob _ _ e1
    obtain ⟨p2, k1, ws, k2, k3⟩ := hr.ob _ _ e2
    rw [z1] at g1; cases g1
    rw [z2] at k1; cases k1
    obtain ⟨hz, q2⟩ := q.lst e (g3.append k3) hr
    exact op_cat pins s σ H (.ref pa) (.ref pb) _ _ Q I rfl rfl ⟨_, _, vs, ws, rfl, rfl, g2, k2, by rw [List.length_append] at hz; exact hz, q2⟩
   ·cases e
  | _ => cases e
 | _ => cases b <;> cases e
theorem ob_sub : OpR X (binaryOp .Sub) (rD2 X.K (Ev.bop .sub)) := by
 intro pins s σ H x y v u Q I rx ry q
 obtain ⟨r, h, a, b, d, h', hr, v1, v2, e, q⟩ := q
 cases a with
 | int i => cases b with
  | int j => cases e; exact op_sub pins s σ H x y v u Q I rx ry ⟨i, j, v1, v2, q.here rfl hr⟩
  | _ => cases e
 | _ => cases b <;> cases e
theorem ob_fdiv : OpR X (binaryOp .FloorDiv) (rD2 X.K (Ev.bop .fdiv)) := by
 intro pins s σ H x y v u Q I rx ry q
 obtain ⟨r, h, a, b, d, h', hr, v1, v2, e, q⟩ := q
 cases a with
 | int i => cases b with
  | int j =>
   delta Ev.bop at e; dsimp only at e
   split at e
   ·rename_i hz; cases e; exact op_fdiv pins s σ H x y v u Q I rx ry ⟨i, j, v1, v2, hz, q.here rfl hr⟩
   ·cases e
  | _ => cases e
 | _ => cases b <;> cases e
theorem ob_mod : OpR X (binaryOp .Mod) (rD2 X.K (Ev.bop .mod)) := by
 intro pins s σ H x y v u Q I rx ry q
 obtain ⟨r, h, a, b, d, h', hr, v1, v2, e, q⟩ := q
 cases a with
 | int i => cases b with
  | int j =>
   delta Ev.bop at e; dsimp only at e
   split at e
   ·rename_i hz; cases e; exact op_mod pins s σ H x y v u Q I rx ry ⟨i, j, v1, v2, hz, q.here rfl hr⟩
   ·cases e
  | _ => cases e
 | _ => cases b <;> cases e
end
end Sm
set_option maxRecDepth 100000
namespace Sm
open PySem PySem.Spec PyProof.Rows L2 PySem.SeqAt
open Ev (D O Hh Fr R Phi E Es Eo T S Ss Fl Src BOp COp TY BI ME)
section
variable {X : Cx}
theorem ixN_eq (n : Nat) (i : Int) : Ev.ixN n i = L2.ixN n i := rfl
theorem atI_eq {α : Type} (xs : List α) (i : Int) : Ev.atI xs i = L2.atI xs i := rfl
theorem RVs.atI {K : PySem.W.Frag} {H : Hp} {r : List Addr} {ds : List D} {vs : List V} {i : Int} {d : D} (w : RVs K H r ds vs) (e : Ev.atI ds i = some d) : ∃ v, L2.atI vs i = some v ∧ RV K H r d v := by
 unfold Ev.atI at e
 obtain ⟨j, e1, e2⟩ := Option.bind_eq_some_iff.mp e
 obtain ⟨v, e3, e4⟩ := w.get e2
 exact ⟨v, by unfold L2.atI; rw [w.length, ← ixN_eq, e1]; exact e3, e4⟩
theorem ox_ix : IxR X (rD2 X.K ixR) := by
 intro value slice pins s σ H x y v u Q I rx ry q hs
 obtain ⟨r, h, a, b, d, h', hr, v1, v2, e, q⟩ := q
 obtain ⟨e, rfl⟩ := Ev.of_eq_ok e
 cases b with
 | int i =>
  have s2 := v2.shape
  cases a with
  | tup ds =>
   obtain ⟨p, vs, rfl, z, w⟩ := v1.shape
   obtain ⟨v', g1, g2⟩ := w.atI e
   exact ix_tup value slice pins s σ H _ y v u Q I rx ry ⟨p, vs, i, v', rfl, s2, z, g1, q.here g2 hr⟩ hs
  | str l =>
   simp only [RV] at v1
   obtain ⟨rfl, hl⟩ := v1
   simp only [Ev.ixd, Option.map_eq_some_iff] at e
   obtain ⟨c, e1, rfl⟩ := e
   exact ix_str value slice pins s σ H _ y v u Q I rx ry ⟨sOf l, i, c, rfl, s2, by rw [sOf_len]; exact hl, by simpa [sOf, atI_eq] using e1, q.here ⟨rfl, by show 1 ≤ sizeLine; decide⟩ hr⟩ hs
  | ref m =>
   simp only [Ev.ixd, Option.bind_eq_some_iff] at e
   obtain ⟨ds, e1, e2⟩ := e
   obtain ⟨p, rfl, z⟩ := v1.shape
   obtain ⟨p', vs, z', q1, w⟩ := hr.read e1
   rw [z] at z'; cases z'
   obtain ⟨v', g1, g2⟩ := w.atI e2
   exact ix_list value slice pins s σ H _ y v u Q I rx ry ⟨p, vs, i, v', rfl, s2, q1, g1, q.here g2 hr⟩ hs
  | _ => cases e
 | _ => cases a <;> cases e
theorem RVs.cut {K : PySem.W.Frag} {H : Hp} {r : List Addr} {ds : List D} {vs : List V} (w : RVs K H r ds vs) (lo hi : Option Int) : RVs K H r (Ev.cut ds lo hi) (cutV vs lo hi) := by
 unfold Ev.cut cutV
 rw [w.length]
 exact (w.drop _).take _
theorem cut_whole {α : Type} (xs : List α) (lo hi : Option Int) (h : Ev.sIx xs.length 0 lo = 0 ∧ Ev.sIx xs.length xs.length hi = xs.length) : Ev.cut xs lo hi = xs := by
 unfold Ev.cut
 rw [h.1, h.2]
 simp
theorem cut_len {α : Type} (xs : List α) (lo hi : Option Int) : (Ev.cut xs lo hi).length ≤ xs.length := by
 unfold Ev.cut
 rw [List.length_take, List.length_drop]
 omega
theorem getItem_whole {prog : Program} {w : World} {A : Around} {E : Value → Shared → Prop} {s : Shared} {t sl : Addr} {items : Array Value} {vl vu : Value} {lo hi : Option Int} {Q : Value → Shared → Prop} (ht : IsTup s.heap t items) (hs : s.heap.IsSliceOf sl vl vu .none) (pl : IsPart vl lo) (pu : IsPart vu hi)
  (hw : HT.sIx items.size 0 lo = 0 ∧ HT.sIx items.size items.size hi = items.size) (h : Q (.ref t) s) : wpAny (model prog w) A (getItem (.ref t) (.ref sl)) Q E s := by
 obtain ⟨os, hos, hcs, hds⟩ := id hs
 have hTs : s.TypeIs (.ref sl) "slice" := ⟨os, hos, hcs⟩
 unfold getItem
 try with_reducible refine wpAny_holding ?_
 first | refine wpAny_bind (wpAny_pure ?_) | skip
 refine wpAny_bind (wpAny_sequenceKey ht.typeIs (by decide) ?_)
 refine wpAny_bind (wpAny_callSpecial?_slot (name := Str.ofString "__getitem__") ht.typeIs PyProof.Rows.slot_tuple_getitem
  (wpAny_call_entry PyProof.Rows.slot_tuple_getitem ht.typeIs entry_tuple_getitem ?_ (args_tuple_getitem _ _)))
 show wpAny _ _ (Builtin.Tuple.tupleItemsOf (.ref t) >>= _) _ _ s
 refine wpAny_bind (tupleItemsOf_ ht ?_)
 refine wpAny_bind (wpAny_typeOf hTs ?_)
 rw [if_pos (by decide)]
 refine wpAny_bind (HT.sliceApplied_gen hs pl pu ?_)
 have hyes : (((HT.sIx items.size 0 lo : Nat) : Int) == 0 && (1 : Int) == 1 && (HT.sIx items.size items.size hi - HT.sIx items.size 0 lo) == items.size) = true := by
  rw [hw.1, hw.2]; simp
 show wpAny _ _ (if (((HT.sIx items.size 0 lo : Nat) : Int) == 0 && (1 : Int) == 1 && (HT.sIx items.size items.size hi - HT.sIx items.size 0 lo) == items.size) = true then _ else _) _ _ s
 rw [if_pos hyes]
 refine wpAny_bind (m := Builtin.Tuple.tupleIsExact (.ref t)) (wpAny_bind (wpAny_typeOf ht.typeIs (wpAny_pure ?_)))
 show wpAny _ _ (if ((Value.type "tuple" == Value.type "tuple") = true) then _ else _) _ _ s
 rw [if_pos (by decide)]
 exact wpAny_bind (wpAny_rule (wpAny_bind (wpAny_pure (wpAny_pure ⟨_, rfl, wpAny_pure h⟩))))
theorem strIdx (lo hi : Option Int) (n : Nat) : Builtin.Str.strSliceIndices lo hi 1 n = (List.range (Ev.sIx n n hi - Ev.sIx n 0 lo)).map (fun k => Ev.sIx n 0 lo + k) := by
 have clipLo : ∀ o : Option Int, ((match o with | none => (0 : Int) | some i => max 0 (min (if i < 0 then i + (n : Int) else i) (n : Int)))) = ((Ev.sIx n 0 o : Nat) : Int) := fun o => by
  cases o with
  | none => rfl
  | some i => simp only [Ev.sIx]; split <;> omega
 have clipHi : ∀ o : Option Int, ((match o with | none => (n : Int) | some i => max 0 (min (if i < 0 then i + (n : Int) else i) (n : Int)))) = ((Ev.sIx n n o : Nat) : Int) := fun o => by
  cases o with
  | none => rfl
  | some i => simp only [Ev.sIx]; split <;> omega
 have e : Builtin.Str.strSliceIndices lo hi 1 n = sliceRange (match lo with | none => (0 : Int) | some i => max 0 (min (if i < 0 then i + (n : Int) else i) (n : Int))) (match hi with | none => (n : Int) | some i => max 0 (min (if i < 0 then i + (n : Int) else i) (n : Int))) 1 := by
  unfold Builtin.Str.strSliceIndices
  cases lo <;> cases hi <;> simp
 rw [e, clipLo, clipHi, sliceRange_one]
theorem strCut (l : List Nat) (lo hi : Option Int) : ((Builtin.Str.strSliceIndices lo hi 1 (sOf l).length).filterMap ((sOf l).cps[·]?)).toArray = (Ev.cut l lo hi).toArray := by
 rw [sOf_len, strIdx, pick_run]
 simp [sOf, Ev.cut]
theorem sl_any : SlR X (rDs X.K) := by
 intro pins s σ H x v vl vu lo hi sl Q I rx hs pl pu q
 obtain ⟨r, h, a, d, h', hr, v1, e, q⟩ := q
 cases a with
 | tup ds =>
  cases e
  obtain ⟨p, vs, rfl, z, w⟩ := v1.shape
  by_cases hw : HT.sIx vs.length 0 lo = 0 ∧ HT.sIx vs.length vs.length hi = vs.length
  ·cases rx
   obtain ⟨us, pv, pt, hz⟩ := I.tuple z
   have hl := pv.length
   have hw' : Ev.sIx ds.length 0 lo = 0 ∧ Ev.sIx ds.length ds.length hi = ds.length := by rw [← w.length]; exact hw
   refine ⟨"tuple", _, PyProof.Rows.slot_tuple_getitem.lookup, pt.typeIs, ?_⟩
   refine getItem_whole pt hs pl pu (by rw [List.size_toArray, ← hl]; exact hw) ⟨.ref p, H, I, rfl, q.here ?_ hr⟩
   rw [cut_whole ds lo hi hw']
   exact ⟨p, vs, rfl, z, w⟩
  ·exact sl_tup pins s σ H _ v vl vu lo hi sl Q I rx hs pl pu ⟨p, vs, rfl, z, hw, fun p' hp => q.tup (w.cut lo hi) hr hp⟩
 | str l =>
  simp only [RV] at v1
  obtain ⟨rfl, hl⟩ := v1
  obtain ⟨t, rfl⟩ := rx
  cases e
  refine ⟨"str", _, PySem.F.slot_str_getitem.lookup, typeIs_str s _ t, ?_⟩
  have part : ∀ {v : Value} {o : Option Int}, IsPart v o → ∃ p : Option (Int × Tok), v = partValue p ∧ p.map (·.1) = o := fun {v o} hp => by
   cases hp with
   | none => exact ⟨none, rfl, rfl⟩
   | int i t => exact ⟨some (i, t), rfl, rfl⟩
  obtain ⟨l1, e1, e2⟩ := part pl
  obtain ⟨u1, e3, e4⟩ := part pu
  subst e1 e3
  obtain ⟨os, hos, hcs, hds⟩ := hs
  refine wpAny_getItem_str_slice (l := l1) (u := u1) (st := none) ⟨os, hos, hcs, hds⟩ rfl ?_
  have hpick : ((slicePicked (sOf l) l1 u1 none).filterMap ((sOf l).cps[·]?)).toArray = (Ev.cut l lo hi).toArray := by
   show ((Builtin.Str.strSliceIndices (l1.map (·.1)) (u1.map (·.1)) 1 (sOf l).length).filterMap ((sOf l).cps[·]?)).toArray = _
   rw [e2, e4]
   exact strCut l lo hi
  have hcl := cut_len l lo hi
  unfold sliceMade
  refine post_val_or_made (fun _ => ?_) fun t' k => ?_
  ·rw [hpick]
   show (Ev.cut l lo hi).toArray.size ≤ sizeLine
   simp only [List.size_toArray]
   omega
  ·have hres : (if (((none : Option (Int × Tok)).map (·.1)).getD 1 == 1 && (slicePicked (sOf l) l1 u1 none).length == (sOf l).length) = true then sOf l else (⟨((slicePicked (sOf l) l1 u1 none).filterMap ((sOf l).cps[·]?)).toArray⟩ : Str)) = sOf (Ev.cut l lo hi) := by
    split
    ·rename_i hc
     rw [Bool.and_eq_true] at hc
     have hlen : (slicePicked (sOf l) l1 u1 none).length = (sOf l).length := eq_of_beq hc.2
     have hlen2 : (slicePicked (sOf l) l1 u1 none).length = Ev.sIx l.length l.length hi - Ev.sIx l.length 0 lo := by
      show (Builtin.Str.strSliceIndices (l1.map (·.1)) (u1.map (·.1)) 1 (sOf l).length).length = _
      rw [e2, e4, strIdx, sOf_len]
      simp
     rw [sOf_len] at hlen
     have hb : Ev.sIx l.length l.length hi ≤ l.length := HT.sIx_le _ _ (Nat.le_refl _) hi
     have ha : Ev.sIx l.length 0 lo ≤ l.length := HT.sIx_le _ _ (Nat.zero_le _) lo
     rw [cut_whole l lo hi ⟨by omega, by omega⟩]
    ·rw [hpick]; rfl
   rw [hres]
   exact ⟨.str (sOf (Ev.cut l lo hi)), H, I.tok _, ⟨_, rfl⟩, q.here ⟨rfl, by omega⟩ hr⟩
 | ref m =>
  simp only [Ev.sld] at e
  split at e
  ·rename_i ds e1
   obtain ⟨p, rfl, z⟩ := v1.shape
   obtain ⟨p', vs, z', q1, w⟩ := hr.read e1
   rw [z] at z'; cases z'
   obtain ⟨hz, q2⟩ := q.lst e (w.cut lo hi) hr
   exact sl_list pins s σ H _ v vl vu lo hi sl Q I rx hs pl pu ⟨p, vs, rfl, q1, q2⟩
  ·cases e
 | _ => cases e
theorem rep_fold : ∀ (k : Nat) (l : List Nat) (acc : List Nat), (List.replicate k l.toArray).foldl (· ++ ·) acc.toArray = (acc ++ Ev.rep k l).toArray
 | 0, l, acc => by simp [Ev.rep]
 | k + 1, l, acc => by
  rw [List.replicate_succ, List.foldl_cons]
  have : acc.toArray ++ l.toArray = (acc ++ l).toArray := by simp
  rw [this, rep_fold k l (acc ++ l)]
  simp [Ev.rep, List.replicate_succ]
theorem rep_len {α : Type} (k : Nat) (l : List α) : (Ev.rep k l).length = k * l.length := by
 unfold Ev.rep
 exact len_rep l k
theorem txt_mul {l : List Nat} {k : Int} (h : 0 ≤ k) : Txt.mul (sOf l) k = sOf (Ev.rep k.toNat l) := by
 unfold Txt.mul
 by_cases h1 : k < 1
 ·have : k = 0 := by omega
  subst this
  rw [if_pos (by decide)]
  rfl
 ·rw [if_neg h1]
  split
  ·rename_i hc
   rw [Bool.or_eq_true] at hc
   rcases hc with hc | hc
   ·have : k = 1 := by simpa using hc
    subst this
    simp [Ev.rep]
   ·rw [sOf_len] at hc
    have : l = [] := by cases l with | nil => rfl | cons _ _ => simp at hc
    subst this
    simp [Ev.rep, sOf]
  ·show (⟨(List.replicate k.toNat (sOf l).cps).foldl (· ++ ·) #[]⟩ : Str) = _
   have := rep_fold k.toNat l []
   simp only [List.nil_append] at this
   exact congrArg Str.mk this
theorem small_mul {a b : Nat} (h1 : a ≤ 1000) (h2 : b ≤ 1000) : a * b ≤ sizeLine := Nat.le_trans (Nat.mul_le_mul h1 h2) (by decide)
theorem ob_mulS {pins : List (Addr × Obj)} {σ : L2.St} {H : Hp} {s : Shared} {Q : VK} (I : Inv X pins σ H s) {l : List Nat} {k : Int} {t u : Tok} (hk : 0 ≤ k ∧ k ≤ 1000 ∧ l.length ≤ 1000) (q : Q (.str (sOf (Ev.rep k.toNat l))) H) :
  wpAny (model X.prog X.w) X.A (binaryOp .Mult (.str (sOf l) t) (.int k u)) (EP X pins σ Q) X.xe s := by
 have hok : MulOk (sOf l) k := mulOk_of 1000 1000 (by rw [sOf_len]; exact hk.2.2) (by exact hk.2.1) (by omega) (by decide) (by decide)
 refine SB.mul hok fun t' k' => ?_
 rw [txt_mul hk.1]
 exact ⟨.str _, H, I.tok _, ⟨_, rfl⟩, q⟩
theorem noFill_tuple_mul : fillsNumberSlot (.type "tuple") "mul" = pure false :=
 PySem.fillsNumberSlot_seq (id := "tuple.__mul__") (r := some (.builtin "tuple.__rmul__")) PySem.F.slot_tuple_mul.lookup (by decide +kernel) PySem.F.slot_tuple_rmul.lookup (by decide +kernel)
theorem repeat_tuple : seqRepeat? (.type "tuple") = pure (some (.builtin "tuple.__mul__")) := by
 unfold seqRepeat?
 rw [PySem.seqSlot_of (T := "tuple") (name := "__mul__") (id := "tuple.__mul__") PySem.F.slot_tuple_mul.lookup (by decide +kernel), PySem.seqSlot_of (T := "tuple") (name := "__rmul__") (id := "tuple.__rmul__") PySem.F.slot_tuple_rmul.lookup (by decide +kernel)]
 rfl
theorem rmul_tuple (a : Int) (t : Tok) (l : Addr) (items : Array Value) (n : Nat) (dd : Option Addr) (sl : Array (Option Value)) :
  Meets (Builtin.«int.__rmul__» ⟨[.int a t, .ref l], []⟩) (fun _ R s => s.heap.get? l = some { cls := .type "tuple", dict := dd, data := .seq items n, slots := sl } ∧ R (.ok (.ret Value.notImplemented)) s) :=
 .of_wp fun prog w A R s h => by obtain ⟨hp, g, d, tk, os⟩ := s; obtain ⟨hl, h⟩ := h; wp_walk; exact ⟨_, rfl, h⟩
theorem mul_tuple1 (l : Addr) (items : Array Value) (n : Nat) (dd : Option Addr) (sl : Array (Option Value)) (k : Int) (u : Tok) (h1 : ¬ (decide (k < -2 ^ 63) || decide (k ≥ 2 ^ 63)) = true) (h3 : (items.isEmpty || k == 1) = true) :
  Meets (Builtin.«tuple.__mul__» ⟨[.ref l, .int k u], []⟩) (fun _ R s => s.heap.get? l = some { cls := .type "tuple", dict := dd, data := .seq items n, slots := sl } ∧ R (.ok (.ret (.ref l))) s) :=
 .of_wp fun prog w A R s h => by obtain ⟨hp, g, d, tk, os⟩ := s; obtain ⟨hl, h⟩ := h; have f1 := AutoSeq1.idx_int; wp_walk using AutoSeq1.wpAny_loadPart' hl; rw [if_neg h1]; wp_walk using AutoSeq1.wpAny_loadPart' hl; exact ⟨_, rfl, h⟩
theorem mul_tuple0 (l : Addr) (items : Array Value) (n : Nat) (dd : Option Addr) (sl : Array (Option Value)) (k : Int) (u : Tok) (h1 : ¬ (decide (k < -2 ^ 63) || decide (k ≥ 2 ^ 63)) = true) (h3 : ¬ (items.isEmpty || k == 1) = true) (h4 : (decide (k ≤ 0) || items.isEmpty) = true) :
  Meets (Builtin.«tuple.__mul__» ⟨[.ref l, .int k u], []⟩) (fun _ R s => s.heap.get? l = some { cls := .type "tuple", dict := dd, data := .seq items n, slots := sl } ∧ R (.ok (.ret (Value.ref s.heap.objs.size))) { s with heap := s.heap.push { cls := Value.type "tuple", data := Data.seq #[] }, toks := s.toks }) :=
 .of_wp fun prog w A R s h => by obtain ⟨hp, g, d, tk, os⟩ := s; obtain ⟨hl, h⟩ := h; have f1 := AutoSeq1.idx_int; wp_walk using AutoSeq1.wpAny_loadPart' hl; rw [if_neg h1]; wp_walk using AutoSeq1.wpAny_loadPart' hl; exact ⟨_, rfl, h⟩
theorem mul_tupleN (l : Addr) (items : Array Value) (n : Nat) (dd : Option Addr) (sl : Array (Option Value)) (k : Int) (u : Tok) (h1 : ¬ (decide (k < -2 ^ 63) || decide (k ≥ 2 ^ 63)) = true) (h3 : ¬ (items.isEmpty || k == 1) = true) (h4 : ¬ (decide (k ≤ 0) || items.isEmpty) = true)
  (h5 : ¬ (items.size * k > (2 ^ 63 - 1) / 8)) (h6 : ¬ Builtin.Tuple.tupleTooMany (items.size * k) = true) (hsz : (List.foldl (fun x1 x2 => x1 ++ x2) #[] (List.replicate k.toNat items)).size ≤ sizeLine) :
  Meets (Builtin.«tuple.__mul__» ⟨[.ref l, .int k u], []⟩) (fun _ R s => s.heap.get? l = some { cls := .type "tuple", dict := dd, data := .seq items n, slots := sl } ∧ R (.ok (.ret (Value.ref s.heap.objs.size))) { s with heap := s.heap.push { cls := Value.type "tuple", data := Data.seq (List.foldl (fun x1 x2 => x1 ++ x2) #[] (List.replicate k.toNat items)) }, toks := s.toks }) :=
 .of_wp fun prog w A R s h => by obtain ⟨hp, g, d, tk, os⟩ := s; obtain ⟨hl, h⟩ := h; have f1 := AutoSeq1.idx_int; wp_walk using AutoSeq1.wpAny_loadPart' hl; rw [if_neg h1]; wp_walk using AutoSeq1.wpAny_loadPart' hl; rw [if_neg h5]; wp_walk using AutoSeq1.wpAny_loadPart' hl; exact ⟨_, rfl, h⟩
theorem fold_vals : ∀ (k : Nat) (l acc : List Value), (List.replicate k l.toArray).foldl (· ++ ·) acc.toArray = (acc ++ Ev.rep k l).toArray
 | 0, l, acc => by simp [Ev.rep]
 | k + 1, l, acc => by
  rw [List.replicate_succ, List.foldl_cons]
  have : acc.toArray ++ l.toArray = (acc ++ l).toArray := by simp
  rw [this, fold_vals k l (acc ++ l)]
  simp [Ev.rep, List.replicate_succ]
theorem ob_mulT {pins : List (Addr × Obj)} {σ : L2.St} {H : Hp} {s : Shared} {Q : VK} (I : Inv X pins σ H s) {p : Addr} {vs : List V} {k : Int} {u : Tok} (hk : 0 ≤ k ∧ k ≤ 1000 ∧ vs.length ≤ 1000) (hp : SqT X.K H p vs)
  (q1 : Ev.rep k.toNat vs = vs → Q (.ref p) H) (q2 : ∀ p', H p' = none → Q (.ref p') (upd H p' (.tup (Ev.rep k.toNat vs)))) :
  wpAny (model X.prog X.w) X.A (binaryOp .Mult (.ref p) (.int k u)) (EP X pins σ Q) X.xe s := by
 obtain ⟨us, pv, pt, hz⟩ := I.tuple hp
 obtain ⟨⟨cls, dd, data, sl⟩, ho, hc, n, hd⟩ := id pt
 simp only at hc hd
 subst hc hd
 have hl := pv.length
 have h1 : ¬ (decide (k < -2 ^ 63) || decide (k ≥ 2 ^ 63)) = true := by simp; omega
 refine wpAny_binaryOp_repeat_ref (T := "tuple") (U := "int") (by decide) ⟨_, ho, rfl⟩ (fun s' => typeIs_int s' k u) noFill_tuple_mul PySem.F.fills_int_mul PySem.F.slot_int_rmul repeat_tuple PySem.F.slot_int_index.lookup
  (call_meets PySem.F.slot_int_rmul (typeIs_int s k u) PySem.F.entry_int_rmul (PySem.F.args_int_rmul_2 _ _) (rmul_tuple k u p us.toArray n dd sl) ⟨ho, rfl, ⟨_, ho, rfl⟩, ?_⟩)
 have hrep : ∀ m : Nat, (Ev.rep m us).length = m * us.length := fun m => rep_len m us
 by_cases h3 : (us.toArray.isEmpty || k == 1) = true
 ·refine call_meets PySem.F.slot_tuple_mul ⟨_, ho, rfl⟩ PySem.F.entry_tuple_mul (PySem.F.args_tuple_mul_2 _ _) (mul_tuple1 p us.toArray n dd sl k u h1 h3) ⟨ho, ?_⟩
  refine ⟨.ref p, H, I, rfl, q1 ?_⟩
  rw [Bool.or_eq_true] at h3
  rcases h3 with h3 | h3
  ·have : us = [] := by simpa using h3
   subst this
   cases pv
   simp [Ev.rep]
  ·have : k = 1 := by simpa using h3
   subst this
   simp [Ev.rep]
 ·have laid : ∀ m : Nat, m = k.toNat → EP X pins σ Q (.ref s.heap.objs.size) { s with heap := s.heap.push { cls := .type "tuple", data := .seq (Ev.rep m us).toArray } } := fun m hm => by
   subst hm
   refine ⟨.ref s.heap.objs.size, _, I.laid (t' := s.toks) (o := .tup (Ev.rep k.toNat vs)) (fun b ob q => Heap.get?_push_of_some _ q) (Nat.le_refl _) ?_, rfl, q2 _ (I.hok.fresh (Nat.le_refl _))⟩
   exact ⟨by rw [rep_len]; exact small_mul (by omega) hk.2.2, _, pv.rep k.toNat, IsTup.new _ _⟩
  by_cases h4 : (decide (k ≤ 0) || us.toArray.isEmpty) = true
  ·refine call_meets PySem.F.slot_tuple_mul ⟨_, ho, rfl⟩ PySem.F.entry_tuple_mul (PySem.F.args_tuple_mul_2 _ _) (mul_tuple0 p us.toArray n dd sl k u h1 h3 h4) ⟨ho, ?_⟩
   have hk0 : k = 0 := by
    rw [Bool.or_eq_true] at h4 h3
    rcases h4 with h4 | h4
    ·have : k ≤ 0 := of_decide_eq_true h4
     omega
    ·exact absurd (.inl h4) h3
   have := laid 0 (by rw [hk0]; rfl)
   exact this
  ·have hm : us.toArray.size * k.toNat ≤ 1000000 := by
    rw [List.size_toArray]
    exact Nat.mul_le_mul (by omega : us.length ≤ 1000) (by omega : k.toNat ≤ 1000)
   have hm' : (us.toArray.size : Int) * k ≤ 1000000 := by
    have e : (us.toArray.size : Int) * k = ((us.toArray.size * k.toNat : Nat) : Int) := by
     rw [Int.natCast_mul, Int.toNat_of_nonneg hk.1]
    rw [e]; omega
   have hf : List.foldl (fun x1 x2 => x1 ++ x2) #[] (List.replicate k.toNat us.toArray) = (Ev.rep k.toNat us).toArray := by
    have := fold_vals k.toNat us []
    simpa using this
   refine call_meets PySem.F.slot_tuple_mul ⟨_, ho, rfl⟩ PySem.F.entry_tuple_mul (PySem.F.args_tuple_mul_2 _ _) (mul_tupleN p us.toArray n dd sl k u h1 h3 h4 (by omega) ?_ ?_) ⟨ho, ?_⟩
   ·unfold Builtin.Tuple.tupleTooMany
    simp only [decide_eq_true_eq]
    have : (sizeLine : Int) = 16777216 := by rw [sizeLine_eq]; rfl
    omega
   ·rw [hf]
    simp only [List.size_toArray]
    rw [rep_len]
    exact small_mul (by omega) (by omega)
   ·rw [hf]
    exact laid _ rfl
theorem ob_mul : OpR X (binaryOp .Mult) (rD2 X.K (Ev.bop .mul)) := by
 intro pins s σ H x y v u Q I rx ry q
 obtain ⟨r, h, a, b, d, h', hr, v1, v2, e, q⟩ := q
 cases b with
 | int k =>
  have s2 := v2.shape
  simp only [Shp] at s2
  subst s2
  cases a with
  | int i =>
   delta Ev.bop at e; dsimp only at e
   split at e
   ·rename_i hz
    cases e
    refine op_mul pins s σ H x _ v u Q I rx ry ⟨i, k, v1, rfl, ?_, q.here rfl hr⟩
    unfold Ev.mulOk at hz
    simp only [Bool.or_eq_true, Bool.and_eq_true, decide_eq_true_eq] at hz
    exact hz
   ·cases e
  | str l =>
   delta Ev.bop at e; dsimp only at e
   split at e
   ·rename_i hz
    cases e
    simp only [RV] at v1
    obtain ⟨rfl, hl⟩ := v1
    obtain ⟨t, rfl⟩ := rx
    obtain ⟨t', rfl⟩ := ry
    exact ob_mulS I hz (q.here ⟨rfl, by rw [rep_len]; exact small_mul (by omega) hz.2.2⟩ hr)
   ·cases e
  | tup ds =>
   delta Ev.bop at e; dsimp only at e
   split at e
   ·rename_i hz
    cases e
    obtain ⟨p, vs, rfl, z, w⟩ := v1.shape
    cases rx
    obtain ⟨t', rfl⟩ := ry
    refine ob_mulT I ⟨hz.1, hz.2.1, by rw [w.length]; exact hz.2.2⟩ z (fun hrp => q.here ⟨p, vs, rfl, z, ?_⟩ hr) fun p' hp => q.tup (w.rep k.toNat) hr hp
    have := w.rep k.toNat
    rw [hrp] at this
    exact this
   ·cases e
  | ref i =>
   delta Ev.bop at e; dsimp only at e
   split at e
   ·rename_i ds e1
    split at e
    ·rename_i hz
     obtain ⟨p, rfl, z⟩ := v1.shape
     obtain ⟨p', g1, vs, g2, g3⟩ := hr.ob _ _ e1
     rw [z] at g1; cases g1
     obtain ⟨hz2, q2⟩ := q.lst e (g3.rep k.toNat) hr
     exact op_rep pins s σ H (.ref p) _ v u Q I rx ry ⟨p, k, vs, rfl, rfl, g2, by omega, by omega, small_mul (by rw [g3.length]; exact hz.2.2) (by omega), q2⟩
    ·cases e
   ·cases e
  | _ => cases e
 | _ => cases a <;> cases e
end
end Sm
set_option maxRecDepth 100000
namespace Sm
open PySem PySem.Spec PyProof.Rows L2 PySem.SeqAt
open Ev (D O Hh Fr R Phi E Es Eo T S Ss Fl Src BOp COp TY BI ME)
section
variable {X : Cx}
theorem ints_at {K : PySem.W.Frag} {H : Hp} {r : List Addr} : ∀ {ds : List D} {is : List Int} {vs : List V} {us : List Value}, Ev.intsOf ds = some is → RVs K H r ds vs → Vals vs us → IntsAre us is
 | [], bs, vs, us, e, w, p => by
  cases e
  simp only [RVs] at w; subst w; cases p; exact .nil
 | d :: ds, bs, vs, us, e, w, p => by
  cases d with
  | int b =>
   simp only [Ev.intsOf, Option.map_eq_some_iff] at e
   obtain ⟨bs', e1, rfl⟩ := e
   simp only [RVs, RV] at w
   obtain ⟨v, w', rfl, rfl, w2⟩ := w
   cases p with
   | cons p1 p2 =>
    obtain ⟨t, rfl⟩ := p1
    exact .cons _ _ (ints_at e1 w2 p2)
  | _ => cases e
theorem strs_at {K : PySem.W.Frag} {H : Hp} {r : List Addr} : ∀ {ds : List D} {ss : List (List Nat)} {vs : List V} {us : List Value}, Ev.strsOf ds = some ss → RVs K H r ds vs → Vals vs us → StrsAre us (ss.map sOf) ∧ ∀ l ∈ ss, l.length ≤ sizeLine
 | [], bs, vs, us, e, w, p => by
  cases e
  simp only [RVs] at w; subst w; cases p; exact ⟨.nil, fun l h => nomatch h⟩
 | d :: ds, bs, vs, us, e, w, p => by
  cases d with
  | str b =>
   simp only [Ev.strsOf, Option.map_eq_some_iff] at e
   obtain ⟨bs', e1, rfl⟩ := e
   simp only [RVs, RV] at w
   obtain ⟨v, w', rfl, ⟨rfl, hb⟩, w2⟩ := w
   cases p with
   | cons p1 p2 =>
    obtain ⟨t, rfl⟩ := p1
    obtain ⟨g1, g2⟩ := strs_at e1 w2 p2
    refine ⟨.cons _ _ g1, fun l hl => ?_⟩
    rcases List.mem_cons.mp hl with z | z
    ·subst z; exact hb
    ·exact g2 l z
  | _ => cases e
variable {G : Tb} {n : Nat} {sc : Scope} {N : List Str} {df : Bool}
theorem cb_sum (g : Good G n sc N df X) : CallR X (.builtin "sum") (rDn X.K (Ev.bfn .sum)) := by
 intro pins s σ H xs us Q I r q
 obtain ⟨rr, h, as, d, h', hr, v1, e, q⟩ := q
 match as, e with
 | [.ref m], e =>
  obtain ⟨e, rfl⟩ := Ev.of_eq_ok e
  simp only [Option.map_eq_some_iff, Option.bind_eq_some_iff] at e
  obtain ⟨is, ⟨ds, e1, e2⟩, rfl⟩ := e
  simp only [RVs, RV] at v1
  obtain ⟨v, w, rfl, ⟨p, rfl, z⟩, rfl⟩ := v1
  obtain ⟨u, rfl, ru⟩ := vals1 r
  cases ru
  obtain ⟨p', vs, z', q1, w⟩ := hr.read e1
  rw [z] at z'; cases z'
  obtain ⟨zs, pv, pl, _⟩ := I.list q1
  have hi := ints_at e2 w pv
  obtain ⟨ys, hys⟩ := (hi.allInts).items
  have hl : s.heap.IsList p (intItems ys) := by rw [← hys]; exact pl.isList
  refine sum_intListG (I.ok.hd g.calm) hl fun h'' tk t' hk => ?_
  have hsum : preSum (numAt ys) ys.size = is.sum := by
   have h1 : numsOf zs.toArray.toList = is := by rw [show zs.toArray.toList = zs from rfl]; exact hi.numsOf
   rw [hys, nums_intItems] at h1
   rw [preSum_eq, List.take_of_length_le (by simp), h1]
  rw [hsum]
  exact ⟨.int is.sum, H, I.kept hk, ⟨_, rfl⟩, q.here rfl hr⟩
theorem cb_len : CallR X (.builtin "len") (rDn X.K (Ev.bfn .len)) := by
 intro pins s σ H xs us Q I r q
 obtain ⟨rr, h, as, d, h', hr, v1, e, q⟩ := q
 match as, e with
 | [.str l], e =>
  delta Ev.bfn at e; dsimp only at e
  split at e
  ·cases e
   simp only [RVs, RV] at v1
   obtain ⟨v, w, rfl, ⟨rfl, hl⟩, rfl⟩ := v1
   refine call_len_str pins s σ H _ us Q I r ⟨_, rfl, by rw [sOf_len]; exact hl, ?_⟩
   rw [sOf_len]
   exact q.here rfl hr
  ·cases e
 | [.tup ds], e =>
  cases e
  simp only [RVs, RV] at v1
  obtain ⟨v, w, rfl, ⟨p, vs, rfl, z, w'⟩, rfl⟩ := v1
  refine call_len_seq pins s σ H _ us Q I r ⟨p, vs, rfl, .inr z, ?_⟩
  rw [w'.length]
  exact q.here rfl hr
 | [.ref m], e =>
  obtain ⟨e, rfl⟩ := Ev.of_eq_ok e
  simp only [Option.map_eq_some_iff] at e
  obtain ⟨ds, e1, rfl⟩ := e
  simp only [RVs, RV] at v1
  obtain ⟨v, w, rfl, ⟨p, rfl, z⟩, rfl⟩ := v1
  obtain ⟨p', vs, z', q1, w⟩ := hr.read e1
  rw [z] at z'; cases z'
  refine call_len_seq pins s σ H _ us Q I r ⟨p, vs, rfl, .inl q1, ?_⟩
  rw [w.length]
  exact q.here rfl hr
theorem cb_min (g : Good G n sc N df X) : CallR X (.builtin "min") (rDn X.K (Ev.bfn .min)) := by
 intro pins s σ H xs us Q I r q
 obtain ⟨rr, h, as, d, h', hr, v1, e, q⟩ := q
 match as, e with
 | [.int i, .int j], e =>
  cases e
  simp only [RVs, RV] at v1
  obtain ⟨v, w, rfl, rfl, v', w', rfl, rfl, rfl⟩ := v1
  exact call_min2 g.calm pins s σ H _ us Q I r ⟨i, j, rfl, q.here rfl hr⟩
theorem mm_append : MtR X "list.append" (rDm X.K (Ev.mef .append)) := by
 intro pins s σ H x xs v us Q I rx rs q
 obtain ⟨r, h, a, as, d, h', hr, v1, v2, e, q⟩ := q
 cases a with
 | ref m =>
  match as, e with
  | [b], e =>
   delta Ev.mef at e; dsimp only at e
   split at e
   ·rename_i ds e1
    split at e
    ·rename_i hz
     cases e
     rw [big_eq] at hz
     obtain ⟨p, rfl, z⟩ := v1.shape
     simp only [RVs] at v2
     obtain ⟨y, w, rfl, v3, rfl⟩ := v2
     obtain ⟨p', g1, vs, g2, g3⟩ := hr.ob _ _ e1
     rw [z] at g1; cases g1
     refine mt_append pins s σ H _ _ v us Q I rx rs ⟨p, vs, y, rfl, rfl, g2, by rw [g3.length]; exact hz, ?_⟩
     have f := Fm.write (K := X.K) (ws := vs ++ [y]) g2 (List.mem_of_getElem? z)
     exact q _ _ r rfl (hr.write e1 z g2 (g3.append (.cons v3 .nil))) f
    ·cases e
   ·cases e
  | [], e => cases e
  | _ :: _ :: _, e => cases e
 | _ => cases e
theorem mm_extend : MtR X "list.extend" (rDm X.K (Ev.mef .extend)) := by
 intro pins s σ H x xs v us Q I rx rs q
 obtain ⟨r, h, a, as, d, h', hr, v1, v2, e, q⟩ := q
 cases a with
 | ref m =>
  match as, e with
  | [.ref k], e =>
   delta Ev.mef at e; dsimp only at e
   split at e
   ·rename_i ds es e1 e2
    split at e
    ·rename_i hz
     cases e
     rw [big_eq] at hz
     obtain ⟨p, rfl, z⟩ := v1.shape
     simp only [RVs, RV] at v2
     obtain ⟨y, w, rfl, ⟨p2, rfl, z2⟩, rfl⟩ := v2
     obtain ⟨p', g1, vs, g2, g3⟩ := hr.ob _ _ e1
     rw [z] at g1; cases g1
     obtain ⟨p'', k1, ws, k2, k3⟩ := hr.ob _ _ e2
     rw [z2] at k1; cases k1
     refine mt_extend pins s σ H _ _ v us Q I rx rs ⟨p, p2, vs, ws, rfl, rfl, g2, k2, by rw [g3.length, k3.length]; exact hz, ?_⟩
     have f := Fm.write (K := X.K) (ws := vs ++ ws) g2 (List.mem_of_getElem? z)
     exact q _ _ r rfl (hr.write e1 z g2 (g3.append k3)) f
    ·cases e
   ·cases e
 | _ => cases e
theorem mm_pop : MtR X "list.pop" (rDm X.K (Ev.mef .pop)) := by
 intro pins s σ H x xs v us Q I rx rs q
 obtain ⟨r, h, a, as, d, h', hr, v1, v2, e, q⟩ := q
 cases a with
 | ref m =>
  match as, e with
  | [], e =>
   delta Ev.mef at e; dsimp only at e
   split at e
   ·rename_i ds e1
    split at e
    ·rename_i y e2
     cases e
     obtain ⟨p, rfl, z⟩ := v1.shape
     simp only [RVs] at v2
     subst v2
     obtain ⟨p', g1, vs, g2, g3⟩ := hr.ob _ _ e1
     rw [z] at g1; cases g1
     obtain ⟨vy, g4, g5⟩ := g3.get e2
     refine mt_pop pins s σ H _ _ v us Q I rx rs ⟨p, vs, vy, rfl, rfl, g2, by rw [g3.length]; exact g4, ?_⟩
     have f := Fm.write (K := X.K) (ws := vs.dropLast) g2 (List.mem_of_getElem? z)
     have hd : RVs X.K H r ds.dropLast vs.dropLast := by
      rw [List.dropLast_eq_take, List.dropLast_eq_take, g3.length]
      exact g3.take _
     exact q _ _ r (g5.mono f) (hr.write e1 z g2 hd) f
    ·cases e
   ·cases e
  | _ :: _, e => cases e
 | _ => cases e
theorem join_eq' (sep : List Nat) : ∀ ss : List (List Nat), Str.join (sOf sep) (ss.map sOf) = sOf (Ev.joinS sep ss)
 | [] => rfl
 | [s] => rfl
 | s :: t :: r => by
  have ih := join_eq' sep (t :: r)
  show sOf s ++ sOf sep ++ Str.join (sOf sep) ((t :: r).map sOf) = _
  rw [ih, sOf_app, sOf_app]
  rfl
theorem join_eq (sep : List Nat) (ss : List (List Nat)) : Txt.join (sOf sep) (ss.map sOf) = sOf (Ev.joinS sep ss) := by
 rw [← join_eq']
 exact PySem.StrLaws.glued_eq_join _ _
theorem mm_join : MtR X "str.join" (rDm X.K (Ev.mef .join)) := by
 intro pins s σ H x xs v us Q I rx rs q
 obtain ⟨r, h, a, as, d, h', hr, v1, v2, e, q⟩ := q
 cases a with
 | str sep =>
  match as, e with
  | [.ref k], e =>
   delta Ev.mef at e; dsimp only at e
   split at e
   ·rename_i ss e1
    split at e
    ·rename_i hz
     cases e
     simp only [Option.bind_eq_some_iff] at e1
     obtain ⟨ds, e1, e2⟩ := e1
     simp only [RV] at v1
     obtain ⟨rfl, hl⟩ := v1
     obtain ⟨t, rfl⟩ := rx
     simp only [RVs, RV] at v2
     obtain ⟨y, w, rfl, ⟨p2, rfl, z2⟩, rfl⟩ := v2
     obtain ⟨u, rfl, ru⟩ := vals1 rs
     cases ru
     obtain ⟨p', vs, z', q1, w⟩ := hr.read e1
     rw [z2] at z'; cases z'
     obtain ⟨zs, pv, pl, _⟩ := I.list q1
     obtain ⟨g1, g2⟩ := strs_at e2 w pv
     have hlen : ((ss.map sOf).map (·.length)).sum + (ss.map sOf).length * (sOf sep).length ≤ 16777216 := by
      rw [List.map_map, List.length_map, sOf_len]
      have : (fun x : Str => x.length) ∘ sOf = fun l : List Nat => l.length := funext fun l => sOf_len l
      rw [this]
      exact hz
     refine join_list pl.isList g1 hlen fun t' k' => ?_
     rw [join_eq]
     refine ⟨.str _, H, I.tok _, ⟨_, rfl⟩, q.here ⟨rfl, ?_⟩ hr⟩
     have hj := PySem.StrLaws.join_length_le (sOf sep) (ss.map sOf)
     rw [join_eq', sOf_len] at hj
     have : sizeLine = 16777216 := sizeLine_eq
     omega
    ·cases e
   ·cases e
 | _ => cases e
end
end Sm
set_option maxRecDepth 100000
namespace Sm
open PySem PySem.Spec PyProof.Rows L2 PySem.SeqAt
open Ev (D O Hh Fr R Phi E Es Eo T S Ss Fl Src BOp COp TY BI ME)
section
variable {X : Cx} {G : Tb} {n : Nat} {sc : Scope} {N : List Str} {df : Bool} {m : List Nat} {a b c : E} {xa xb xc tg : Expr} {pos : Pos}
theorem RVs.ofStr {K : PySem.W.Frag} {H : Hp} {r : List Addr} : ∀ (l : List Nat), RVs K H r (l.map fun c => .str [c]) (l.map fun c => .str (sOf [c]))
 | [] => .nil
 | c :: l => .cons ⟨rfl, by show 1 ≤ sizeLine; decide⟩ (RVs.ofStr l)
theorem vals_signs {x : List Nat} {acc : Array Value} (h : ItemsOf (SignAt (sOf x)) acc (sOf x).cps.size) : Vals (x.map fun c => .str (sOf [c])) acc.toList := by
 obtain ⟨h1, h2⟩ := h
 have hl : acc.toList.length = x.length := by simpa [sOf] using h1
 have go : ∀ (y : List Nat) (l : List Value) (k : Nat), l.length = y.length → (∀ j v, l[j]? = some v → SignAt (sOf x) (k + j) v) → (∀ j, y[j]? = x[k + j]?) → Vals (y.map fun c => .str (sOf [c])) l := by
  intro y
  induction y with
  | nil => intro l k hl _ _; cases l with | nil => exact .nil | cons _ _ => simp at hl
  | cons c y ih =>
   intro l k hl hv hy
   cases l with
   | nil => simp at hl
   | cons v l =>
    refine .cons ?_ (ih l (k + 1) (by simpa using hl) (fun j w hw => ?_) fun j => ?_)
    ·obtain ⟨c', u, hc', rfl⟩ := hv 0 v (by simp)
     have := hy 0
     simp at this
     have hc2 : x[k]? = some c' := by simpa [sOf] using hc'
     rw [hc2] at this
     cases this
     exact ⟨u, rfl⟩
    ·have := hv (j + 1) w (by simpa using hw)
     rw [show k + 1 + j = k + (j + 1) by omega]
     exact this
    ·have := hy (j + 1)
     simp at this
     rw [this]
     congr 1
     omega
 exact go x acc.toList 0 hl (fun j v hv => by simpa using h2 j v (by simpa using hv)) fun j => by simp
theorem cl_list (g : Good G n sc N df X) : CallR X (.type "list") (fun xs H Q => ∃ r h d src x, HR X.K H r h ∧ RV X.K H r d x ∧ xs = [x] ∧ Ev.seqOf h d = some src ∧ src.1.length ≤ sizeLine ∧ ∀ vs, RVs X.K H r src.1 vs → ∀ l, H l = none → Q (.ref l) (upd H l (.lst vs))) := by
 intro pins s σ H xs us Q I rv q
 obtain ⟨r, h, d, src, x, hr, v1, rfl, e, hz, q⟩ := q
 cases d with
 | tup ds =>
  cases e
  obtain ⟨p, vs, rfl, z, w⟩ := v1.shape
  exact call_list_of pins s σ H _ us Q I rv ⟨p, vs, rfl, .inr z, q vs w⟩
 | ref i =>
  simp only [Ev.seqOf, Option.map_eq_some_iff] at e
  obtain ⟨ds, e1, rfl⟩ := e
  obtain ⟨p, rfl, z⟩ := v1.shape
  obtain ⟨p', vs, z', q1, w⟩ := hr.read e1
  rw [z] at z'; cases z'
  exact call_list_of pins s σ H _ us Q I rv ⟨p, vs, rfl, .inl q1, q vs w⟩
 | str l =>
  cases e
  simp only [RV] at v1
  obtain ⟨rfl, hl⟩ := v1
  obtain ⟨u, rfl, ru⟩ := vals1 rv
  obtain ⟨t, rfl⟩ := ru
  refine call_list_str (I.ok.hd g.calm) (sOf l) t (fun h' tk acc' c' hk hS' hacc => ?_) (by simpa [sOf] using hl)
  refine ⟨.ref s.heap.objs.size, _, I.laid (t' := tk) (o := .lst (l.map fun c => .str (sOf [c]))) hk (Nat.le_refl _) ?_, rfl, q _ (RVs.ofStr l) _ (I.hok.fresh (Nat.le_refl _))⟩
  exact ⟨by simpa using hl, acc'.toList, c', vals_signs hacc, by simpa using hS'⟩
 | _ => cases e
theorem je_lof {p : Pos} (ha : JE G n sc N df m a xa) (h1 : ("list" : Str) ∈ G.bl := by decide +kernel) (hg1 : sc.names.lookup ("list" : Str) = some .globalImplicit := by rfl)
  (hst : ∀ env : Env, starEach [xa] env = [(false, eval xa env)] := by intro _; rfl) : JE G n sc N df m (.lof (.seq a)) (.Call (.Name "list" p) [xa] [] pos) := fun X g => by
 refine PE.of (pe_callTy (cl_list g) (g.gl hg1) (g.bl _ h1) (by decide +kernel) (pa_cons (ha X g) pa_nil (hst _)) (by decide) (by decide) (hst _) rfl) fun s H Q q => ?_
 obtain ⟨r, fr, h, d, h', sr, hr, e, q⟩ := q
 simp only [Ev.ev, Ev.evi] at e
 obtain ⟨src, h3, e1, e⟩ := Ev.bind_eq_ok e
 obtain ⟨x, h4, e2, e1⟩ := Ev.bind_eq_ok e1
 obtain ⟨e1, rfl⟩ := Ev.of_eq_ok e1
 refine ⟨r, fr, h, x, _, sr, hr, e2, fun v H1 r1 v1 hr1 f1 => ?_⟩
 have hz : src.1.length ≤ sizeLine := by
  unfold Ev.alloc at e
  split at e
  ·rename_i z; rw [← big_eq]; exact z
  ·cases e
 exact ⟨r1, _, x, src, v, hr1, v1, rfl, e1, hz, fun vs w l hl => ((q.later f1).lst e w hr1).2 l hl⟩
theorem vals_range {lo : Int} {acc : Array Value} {k : Nat} (h : ItemsOf (fun i v => ∃ t, v = Value.int (lo + i * 1) t) acc k) : Vals ((List.range k).map fun i => V.int (lo + (i : Nat))) acc.toList := by
 obtain ⟨h1, h2⟩ := h
 subst h1
 have go : ∀ (l : List Value) (b : Nat), (∀ j v, l[j]? = some v → ∃ t, v = Value.int (lo + ((b + j : Nat) : Int)) t) → Vals ((List.range' b l.length).map fun i => V.int (lo + (i : Nat))) l := by
  intro l
  induction l with
  | nil => intro b _; exact .nil
  | cons v l ih =>
   intro b hv
   rw [List.length_cons, List.range'_succ]
   refine .cons (by obtain ⟨t, e⟩ := hv 0 v (by simp); subst e; exact ⟨t, by simp⟩) (ih (b + 1) fun j w hw => ?_)
   have := hv (j + 1) w (by simpa using hw)
   rw [show b + 1 + j = b + (j + 1) by omega]
   exact this
 have := go acc.toList 0 fun j v hv => by
  obtain ⟨t, e⟩ := h2 j v (by simpa using hv)
  exact ⟨t, by simpa using e⟩
 rw [List.range_eq_range']
 simpa using this
theorem RVs.ofRange {K : PySem.W.Frag} {H : Hp} {r : List Addr} (lo : Int) (k : Nat) : RVs K H r (Ev.range lo k) ((List.range k).map fun i => V.int (lo + (i : Nat))) := by
 unfold Ev.range
 generalize List.range k = l
 induction l with
 | nil => exact .nil
 | cons i l ih => exact .cons rfl ih
end
end Sm
set_option maxRecDepth 100000
namespace Sm
open PySem PySem.Spec PyProof.Rows L2 PySem.SeqAt
open Ev (D O Hh Fr R Phi E Es Eo T S Ss Fl Src BOp COp TY BI ME)
section
variable {X : Cx} {G : Tb} {n : Nat} {sc : Scope} {N : List Str} {df : Bool} {m : List Nat} {a b c : E} {xa xb xc tg : Expr} {pos : Pos}
theorem Vals.reverse {vs : List V} {us : List Value} (w : Vals vs us) : Vals vs.reverse us.reverse := by
 induction w with
 | nil => exact .nil
 | cons a _ ih => rw [List.reverse_cons, List.reverse_cons]; exact ih.append (.cons a .nil)
end
end Sm
set_option maxRecDepth 100000
namespace Sm
open PySem PySem.Spec PyProof.Rows L2 PySem.SeqAt
open Ev (D O Hh Fr R Phi E Es Eo T S Ss Fl Src BOp COp TY BI ME)
section
variable {G : Tb} {n : Nat} {sc : Scope} {N : List Str} {df : Bool} {m : List Nat} {a b c : E} {xa xb xc tg : Expr} {pos : Pos}
theorem cl_tuple (g : Good G n sc N df X) : CallR X (.type "tuple") (fun xs H Q => ∃ r h d x d' h', HR X.K H r h ∧ RV X.K H r d x ∧ xs = [x] ∧ Ev.tofD d h = .ok d' h' ∧ Res X.K r H h' d' Q) := by
 intro pins s σ H xs us Q I rv q
 obtain ⟨r, h, d, x, d', h', hr, v1, rfl, e, q⟩ := q
 cases d with
 | tup ds =>
  cases e
  have v2 := v1
  obtain ⟨p, vs, rfl, z, w⟩ := v1.shape
  exact call_tuple_of pins s σ H _ us Q I rv ⟨p, vs, rfl, .inr ⟨z, q.here v2 hr⟩⟩
 | ref i =>
  simp only [Ev.tofD] at e
  split at e
  ·rename_i ds e1
   split at e
   ·cases e
    obtain ⟨p, rfl, z⟩ := v1.shape
    obtain ⟨p', vs, z', q1, w⟩ := hr.read e1
    rw [z] at z'; cases z'
    exact call_tuple_of pins s σ H _ us Q I rv ⟨p, vs, rfl, .inl ⟨q1, fun l hl => q.tup w hr hl⟩⟩
   ·cases e
  ·cases e
 | _ => cases e
theorem je_ttp {p : Pos} (ha : JE G n sc N df m a xa) (h1 : ("tuple" : Str) ∈ G.bl := by decide +kernel) (hg1 : sc.names.lookup ("tuple" : Str) = some .globalImplicit := by rfl)
  (hst : ∀ env : Env, starEach [xa] env = [(false, eval xa env)] := by intro _; rfl) : JE G n sc N df m (.ttp a) (.Call (.Name "tuple" p) [xa] [] pos) := fun X g => by
 refine PE.of (pe_callTy (cl_tuple g) (g.gl hg1) (g.bl _ h1) (by decide +kernel) (pa_cons (ha X g) pa_nil (hst _)) (by decide) (by decide) (hst _) rfl) fun s H Q q => ?_
 obtain ⟨r, fr, h, d, h', sr, hr, e, q⟩ := q
 simp only [Ev.ev] at e
 obtain ⟨x, h3, e1, e⟩ := Ev.bind_eq_ok e
 refine ⟨r, fr, h, x, _, sr, hr, e1, fun v H1 r1 v1 hr1 f1 => ?_⟩
 exact ⟨r1, h3, x, v, d, h', hr1, v1, rfl, e, q.later f1⟩
theorem js_nev {st : Stmt} : JS G n sc N df m .nev st := fun X g => PS.of ps_never fun Q s H q => by
 obtain ⟨r, fr, h, fl, fr', h', sr, hr, e, q⟩ := q
 simp only [Ev.ex] at e
 cases e
theorem list_rng {X : Cx} (g : Good G n sc N df X) {pins : List (Addr × Obj)} {σ : L2.St} {H : Hp} {s : Shared} {Q : VK} {lo hi : Int} {t u v : Tok} {tk : Nat} (I : Inv X pins σ H s) (h1 : -(2 ^ 62) ≤ lo) (h2 : lo < 2 ^ 62) (h3 : -(2 ^ 62) ≤ hi) (h4 : hi < 2 ^ 62)
  (hl : (hi - lo).toNat ≤ sizeLine) (q : ∀ l, H l = none → Q (.ref l) (upd H l (.lst ((List.range (hi - lo).toNat).map fun i => V.int (lo + (i : Nat)))))) :
  wpAny (model X.prog X.w) X.A (call (.type "list") [.ref s.heap.objs.size]) (EP X pins σ Q) X.xe { s with heap := s.heap.push { cls := .type "range", data := .fields #[.int lo t, .int hi u, .int 1 v] }, toks := tk } := by
 have I1 : Inv X pins σ H { s with heap := s.heap.push { cls := .type "range", data := .fields #[.int lo t, .int hi u, .int 1 v] }, toks := tk } := I.kept fun b o e => Heap.get?_push_of_some _ e
 have e2 : Builtin.Range.rangeSize lo hi 1 = (((hi - lo).toNat : Nat) : Int) := by rw [rangeSize_one]; split <;> omega
 refine call_list_range (n := (hi - lo).toNat) (I.ok.hd g.calm) (IsRange.new ..) (small_one h1 h2 h3 h4) e2 (by rw [sizeLine_eq] at hl; exact hl) fun h' tk' acc' c' hk hS' hacc => ?_
 refine ⟨.ref _, _, I1.laid (t' := tk') (o := .lst ((List.range (hi - lo).toNat).map fun i => V.int (lo + (i : Nat)))) hk (Nat.le_refl _) ?_, rfl, q _ (I1.hok.fresh (Nat.le_refl _))⟩
 exact ⟨by simpa using hl, acc'.toList, c', vals_range hacc, by simpa using hS'⟩
theorem je_lofR2 {e1 e2 : E} {p p2 pos2 : Pos} (hs : JA G n sc N df m (.cons e1 (.cons e2 .nil)) [xa, xb]) (h1 : ("list" : Str) ∈ G.bl := by decide +kernel) (hg1 : sc.names.lookup ("list" : Str) = some .globalImplicit := by rfl)
  (hg : sc.names.lookup ("range" : Str) = some .globalImplicit := by rfl) (hb : ("range" : Str) ∈ G.bl := by decide +kernel)
  (hst : ∀ env : Env, starEach [xa, xb] env = [(false, eval xa env), (false, eval xb env)] := by intro _; rfl) (hst2 : ∀ env : Env, starEach [xb] env = [(false, eval xb env)] := by intro _; rfl)
  (hst3 : ∀ env : Env, starEach [Expr.Call (.Name "range" p2) [xa, xb] [] pos2] env = [(false, eval (Expr.Call (.Name "range" p2) [xa, xb] [] pos2) env)] := by intro _; rfl) :
  JE G n sc N df m (.lof (.rng (.cons e1 (.cons e2 .nil)))) (.Call (.Name "list" p) [.Call (.Name "range" p2) [xa, xb] [] pos2] [] pos) := fun X g => by
 intro pins s σ H Q I q
 obtain ⟨r, fr, h, d, h', sr, hr, e, q⟩ := q
 simp only [Ev.ev, Ev.evi] at e
 replace e := Ev.bind_eq_ok e; obtain ⟨src, h3, e1, e⟩ := e
 replace e1 := Ev.bind_eq_ok e1; obtain ⟨ds, h4, e2, e1⟩ := e1
 replace e1 := Ev.of_eq_ok e1; obtain ⟨e1, y0⟩ := e1; subst y0
 refine wpAny_Call_Name_kw (ld_blt I (g.gl hg1) (g.bl _ h1) (show bootBuiltins ("list" : Str) = some (.type "list") by decide +kernel) ?_ (by decide) (by decide))
 refine PyProof.Rows.callWith_type1 ?_ (hst3 _) rfl
 rw [hst3]
 show wpAny _ _ (spliced ((false, eval (Expr.Call (.Name "range" p2) [xa, xb] [] pos2) X.env) :: backTo pos [])) _ _ s
 refine Calls.spliced_cons ?_
 refine Call_ (ld_blt I (g.gl hg) (g.bl _ hb) boot_range (PyProof.Rows.callWith_type1 (thn ((hs X g) pos2 pins s σ H (fun vs H1 => ∃ r1, RVs X.K H1 r1 ds vs ∧ HR X.K H1 r1 h3 ∧ Fm X.K r r1 H H1) I ⟨r, fr, h, ds, h3, sr, hr, e2, fun vs H1 r1 v1 hr1 f1 => ⟨r1, v1, hr1, f1⟩⟩) fun us s1 z => ?_) (by rw [hst, hst2]) (by rw [hst2]; rfl)))
 ·obtain ⟨vs, H1, I1, rv, r1, v1, hr1, f1⟩ := z
  unfold Ev.rngOf at e1
  split at e1
  ·exfalso
   simp only [Ev.evs] at e2
   obtain ⟨d, _, _, e2⟩ := Ev.bind_eq_ok e2
   obtain ⟨d2, _, e3, e2⟩ := Ev.bind_eq_ok e2
   obtain ⟨d3, _, e4, e3⟩ := Ev.bind_eq_ok e3
   simp only [Ev.bind_ok] at e3
   cases e3
   cases e2
  ·rename_i i j
   split at e1
   ·rename_i hj
    cases e1
    simp only [RVs, RV] at v1
    obtain ⟨v, w, rfl, rfl, v', w', rfl, rfl, rfl⟩ := v1
    cases rv with
    | cons ra rb =>
    cases rb with
    | cons rb rc =>
    cases rc
    obtain ⟨t, rfl⟩ := ra
    obtain ⟨u, rfl⟩ := rb
    refine call_range_2 ?_
    refine Calls.spliced_nil ?_
    have hz : (j - i).toNat ≤ sizeLine := by
     unfold Ev.alloc at e
     split at e
     ·rename_i z; rw [← big_eq]; simpa [Ev.range] using z
     ·cases e
    refine list_rng g I1 hj.1 hj.2.1 hj.2.2.1 hj.2.2.2 hz fun l hl => ?_
    exact ((q.later f1).lst e (RVs.ofRange i (j - i).toNat) hr1).2 l hl
   ·cases e1
  ·cases e1
end
theorem turnedL {X : Cx} {pins : List (Addr × Obj)} {σ : L2.St} {H : Hp} {s : Shared} {h' : Heap} {t' : Nat} {ch : List Addr} (I : Inv X pins σ H s) (k : ∀ b o, b ∉ ch → s.heap.get? b = some o → h'.get? b = some o) (hf : ∀ b ∈ ch, FpOk X pins H b) : Inv X pins σ H { s with heap := h', toks := t' } := by
 have nit : ∀ b u, H b = some u → b ∉ ch := fun b u e z => by rw [(hf b z).1] at e; cases e
 refine I.step (g' := s.gens) (d' := s.drawn) (ch := ch) (fun b hb => ?_) (fun b o _ _ hc e _ => k b o hc e) (fun b o _ _ hc e _ => ⟨o.slots, k b o hc e⟩) (fun _ _ _ _ n => n)
  (fun b o hc e => ⟨o, k b o hc e⟩) (fun _ _ e => e) (fun _ _ _ e => e) (fun b ps e => ⟨#[], by rw [e]; simp⟩) (fun m hm => ?_) (fun b u e => ?_) I.bare
 ·obtain ⟨f0, f1, f2, f3, f4, f5⟩ := hf b hb
  exact ⟨f3, f1, f4, f5⟩
 ·obtain ⟨o, es, ep, ho, r⟩ := hm
  exact ⟨o, es, ep, k _ o (fun z => (hf _ z).2.1 rfl) ho, r⟩
 ·refine (I.hok b u e).stay (fun c v hc q => k c v ?_ q) (fun _ q => q) fun _ _ q => q
  rcases hc with z | z
  ·rw [z]; exact nit b u e
  ·exact nit c _ z
end Sm
set_option maxRecDepth 100000
namespace Sm
open PySem PySem.Spec PyProof.Rows L2 PySem.SeqAt
open Ev (D O Hh Fr R Phi E Es Eo T S Ss Fl Src BOp COp TY BI ME)
section
variable {G : Tb} {n : Nat} {sc : Scope} {N : List Str} {df : Bool} {m : List Nat} {a b c : E} {xa xb xc : Expr} {pos : Pos}
end
end Sm
set_option maxRecDepth 100000
namespace Sm
open PySem PySem.Spec PyProof.Rows L2 PySem.SeqAt
open Ev (D O Hh Fr R Phi E Es Eo T S Ss Fl Src BOp COp TY BI ME)
noncomputable def allS : List (D × D) → Bool
 | [] => true
 | (.str k, .str v) :: r => decide (v.length ≤ 1000) && allS r
 | _ => false
theorem tab_look {s : List Nat} {r : D} : ∀ {kvs : List (D × D)}, allS kvs = true → Ev.lookD (.str s) kvs = some r → ∃ t, r = .str t ∧ t.length ≤ 1000 ∧ PySem.Spec.lookup (.str (sOf s)) (tabOf kvs) = some (.str (sOf t))
 | [], _, e => by simp [Ev.lookD] at e
 | (k, v) :: l, ha, e => by
  cases k <;> cases v <;> simp only [allS, Bool.false_eq_true, Bool.and_eq_true, decide_eq_true_eq] at ha
  rename_i k v
  simp only [Ev.lookD] at e
  rw [show Ev.deq [] 1 (.str k) (.str s) = some (k == s) from rfl] at e
  simp only [tabOf, PySem.Spec.lookup]
  by_cases h : k = s
  ·subst h
   simp at e
   subst e
   refine ⟨v, rfl, ha.1, ?_⟩
   have : PySem.Spec.same (.str (sOf k)) (.str (sOf k)) = true := by rw [PyProof.V.same_str]; simp
   rw [this]; rfl
  ·have hb : (k == s) = false := by simpa using h
   rw [hb] at e
   simp only at e
   obtain ⟨t, h1, h2, h3⟩ := tab_look ha.2 e
   refine ⟨t, h1, h2, ?_⟩
   have : PySem.Spec.same (.str (sOf k)) (.str (sOf s)) = false := by
    rw [PyProof.V.same_str]
    simp
    exact fun z => h (sOf_inj z)
   rw [this]
   exact h3
theorem look_str {y r : D} : ∀ {kvs : List (D × D)}, allS kvs = true → Ev.lookD y kvs = some r → ∃ s, y = .str s
 | [], _, e => by simp [Ev.lookD] at e
 | (k, v) :: l, ha, e => by
  cases k <;> cases v <;> simp only [allS, Bool.false_eq_true, Bool.and_eq_true, decide_eq_true_eq] at ha
  cases y with
  | str s => exact ⟨s, rfl⟩
  | ref a => cases e
  | _ => first | exact look_str ha.2 e | cases e
section
variable {G : Tb} {n : Nat} {sc : Scope} {N : List Str} {df : Bool} {m : List Nat} {a b c : E} {xa xb xc : Expr} {pos : Pos}
theorem je_dget {x : Str} {kvs : List (D × D)} {p : Pos} (hm : (x, kvs) ∈ G.dk) (ha : JE G n sc N df m a xa) (hk : allS kvs = true := by decide) (hg : sc.names.lookup x = some .globalImplicit := by rfl) (hd : (x == ("__debug__" : Str)) = false := by decide) (hs : PlainIx xa := by intro _ _; rfl) :
  JE G n sc N df m (.dget kvs a) (.Subscript (.Name x p) xa pos) := fun X g => by
 intro pins s σ H Q I q
 obtain ⟨r, fr, h, d, h', sr, hr, e, q⟩ := q
 simp only [Ev.ev] at e
 replace e := Ev.bind_eq_ok e; obtain ⟨y, h1, e1, e⟩ := e
 replace e := Ev.of_eq_ok e; obtain ⟨e, y0⟩ := e; subst y0
 obtain ⟨ad, hmg, htab⟩ := g.dk x kvs hm
 refine Subscript_ (binT (pe_glob (v := .ref ad) (g.gl hg) hmg rfl hd) (ha X g) I (R := fun x' y' H2 => x' = .ref ad ∧ ∃ r1, RV X.K H2 r1 y y' ∧ HR X.K H2 r1 h' ∧ Fm X.K r r1 H H2) ?_ fun v u s2 x' y' H2 I2 rx ry z => ?_)
 ·refine ⟨r, fr, h, y, h', sr, hr, e1, fun v H1 r1 v1 hr1 f1 => ⟨rfl, r1, v1, hr1, f1⟩⟩
 ·obtain ⟨rfl, r1, v1, hr1, f1⟩ := z
  obtain rfl : v = Value.ref ad := rx
  have hy : ∃ sx, y = .str sx := look_str hk e
  obtain ⟨sx, rfl⟩ := hy
  obtain ⟨t, rfl, ht, hl⟩ := tab_look hk e
  simp only [RV] at v1
  obtain ⟨rfl, _⟩ := v1
  obtain ⟨tk, rfl⟩ := ry
  refine item_strTab (htab s2.heap I2.kIn) hl (fun v hv => ?_) (hs _ _)
  obtain ⟨t2, rfl⟩ := PyProof.V.Flat.str_inv hv
  exact ⟨.str (sOf t), H2, I2.tok _, ⟨t2, rfl⟩, q _ H2 r1 ⟨rfl, Nat.le_trans ht (by rw [sizeLine_eq]; decide)⟩ hr1 f1⟩
end
end Sm
set_option maxRecDepth 100000
namespace Sm
open PySem PySem.Spec PyProof.Rows L2 PySem.SeqAt
open Ev (D O Hh Fr R Phi E Es Eo T S Ss Fl Src BOp COp TY BI ME)
section
variable {X : Cx} {G : Tb} {n : Nat} {sc : Scope} {N : List Str} {df : Bool} {m : List Nat} {a b c : E} {xa xb xc xd tg : Expr} {pos : Pos}
end
end Sm
set_option maxRecDepth 100000
namespace Rv
open PySem PyProof.Rows
theorem owner_rev : Manifest.owners.lookup (String.ofList ['d', 'e', 's', 'r', 'e', 'v', 'e', 'r'].reverse) = some Manifest.sig_reversed := by kernel_rfl
theorem slot_next : Slot "reversed" "__next__" "reversed.__next__" :=
 .of (owner := "reversed") (n := "__next__") (by rw [typeLookup_type, builtinLookup_eq_fast]; kernel_rfl) (by decide +kernel) (by decide +kernel) (by decide +kernel)
  (by first | exact .inl (by decide +kernel) | exact .inr (by decide +kernel)) (by rw [isSubtype_type]; kernel_rfl)
theorem entry_next : entryFor table "reversed.__next__" = some Builtin.«reversed.__next__» := entryFor_of_tree (by kernel_rfl)
theorem args_next (a : Value) : argsOk "reversed.__next__" ⟨[a], []⟩ := by
 unfold argsOk; rw [signature?_of (id := "reversed.__next__") (n := ['_', '_', 't', 'x', 'e', 'n', '_', '_']) (o := ['d', 'e', 's', 'r', 'e', 'v', 'e', 'r']) (by kernel_rfl) owner_rev]; kernel_rfl
theorem slot_iter : Slot "reversed" "__iter__" "reversed.__iter__" :=
 .of (owner := "reversed") (n := "__iter__") (by rw [typeLookup_type, builtinLookup_eq_fast]; kernel_rfl) (by decide +kernel) (by decide +kernel) (by decide +kernel)
  (by first | exact .inl (by decide +kernel) | exact .inr (by decide +kernel)) (by rw [isSubtype_type]; kernel_rfl)
theorem args_iter (a : Value) : argsOk "reversed.__iter__" ⟨[a], []⟩ := by
 unfold argsOk; rw [signature?_of (id := "reversed.__iter__") (n := ['_', '_', 'r', 'e', 't', 'i', '_', '_']) (o := ['d', 'e', 's', 'r', 'e', 'v', 'e', 'r']) (by kernel_rfl) owner_rev]; kernel_rfl
theorem entry_iter : entryFor table "reversed.__iter__" = some Builtin.«dict_keyiterator.__iter__» :=
 entryFor_alias (id' := "dict_keyiterator.__iter__") (by kernel_rfl) (by first | rfl | decide +kernel | (unfold String.splitOn; simp +decide [String.splitOnAux])) (by decide +kernel) (by kernel_rfl)
theorem slot_hint : Slot "reversed" "__length_hint__" "reversed.__length_hint__" :=
 .of (owner := "reversed") (n := "__length_hint__") (by rw [typeLookup_type, builtinLookup_eq_fast]; kernel_rfl) (by decide +kernel) (by decide +kernel) (by decide +kernel)
  (by first | exact .inl (by decide +kernel) | exact .inr (by decide +kernel)) (by rw [isSubtype_type]; kernel_rfl)
theorem entry_hint : entryFor table "reversed.__length_hint__" = some Builtin.«reversed.__length_hint__» := entryFor_of_tree (by kernel_rfl)
theorem args_hint (a : Value) : argsOk "reversed.__length_hint__" ⟨[a], []⟩ := by
 unfold argsOk; rw [signature?_of (id := "reversed.__length_hint__") (n := ['_', '_', 't', 'n', 'i', 'h', '_', 'h', 't', 'g', 'n', 'e', 'l', '_', '_']) (o := ['d', 'e', 's', 'r', 'e', 'v', 'e', 'r']) (by kernel_rfl) owner_rev]; kernel_rfl
theorem no_len : typeLookup (.type "reversed") "__len__" = pure none := by rw [typeLookup_type, builtinLookup_eq_fast]; kernel_rfl
theorem no_rev : typeLookup (.type "tuple") "__reversed__" = pure none := by rw [typeLookup_type, builtinLookup_eq_fast]; kernel_rfl
section
variable {prog : Program} {w : World} {A : Around} {E : Value → Shared → Prop} {s : Shared}
theorem slot_init : Slot "reversed" "__init__" "object.__init__" :=
 .of (owner := "object") (n := "__init__") (by rw [typeLookup_type, builtinLookup_eq_fast]; kernel_rfl) (by decide +kernel) (by decide +kernel) (by decide +kernel)
  (by first | exact .inl (by decide +kernel) | exact .inr (by decide +kernel)) (by rw [isSubtype_type]; kernel_rfl)
theorem called : TypeCalled "reversed" "reversed.__new__" "object.__init__" :=
 ⟨by decide +kernel, by decide +kernel, ⟨_, _, F.mro_reversed⟩, F.made_reversed, by decide +kernel, F.sub_reversed_self, slot_init⟩
noncomputable def IsRv (h : Heap) (a t : Addr) (i : Int) : Prop := ∃ o, h.get? a = some o ∧ o.cls = .type "reversed" ∧ o.data = .fields #[.ref t, rawInt i]
theorem IsRv.typeIs {a l : Addr} {i : Int} (x : IsRv s.heap a l i) : s.TypeIs (.ref a) "reversed" := let ⟨o, ho, hc, _⟩ := x; ⟨o, ho, hc⟩
theorem IsRv.at {h h' : Heap} {a l : Addr} {i : Int} (x : IsRv h a l i) (e : ∀ o, h.get? a = some o → h'.get? a = some o) : IsRv h' a l i := let ⟨o, ho, r⟩ := x; ⟨o, e _ ho, r⟩
noncomputable def rvObj (l : Addr) (i : Int) : Obj := { cls := .type "reversed", data := .fields #[.ref l, rawInt i] }
theorem tupAt {h h' : Heap} {t : Addr} {items : Array Value} (x : IsTup h t items) (e : ∀ o, h.get? t = some o → h'.get? t = some o) : IsTup h' t items := let ⟨o, ho, r⟩ := x; ⟨o, e _ ho, r⟩
theorem code_new {t : Addr} {items : Array Value} {Q₁ : Value → Shared → Prop} (ht : IsTup s.heap t items) (hfit : (items.size : Int) < 2 ^ 63)
  (h : Q₁ (.ref s.heap.objs.size) { s with heap := s.heap.push (rvObj t ((items.size : Int) - 1)), toks := s.toks + 1 + 1 }) :
  codeAny (model prog w) A (.call (.builtin "reversed.__new__") ⟨[.type "reversed", .ref t], []⟩) (wants Q₁ E) s := by
 refine codeAny_of_tree ?_
 show wpAny _ A.in1 (do checkBuiltinCall "reversed.__new__" ⟨[.type "reversed", .ref t], []⟩; again (.builtin "reversed.__new__" ⟨[.type "reversed", .ref t], []⟩)) _ _ s
 refine wpAny_bind (wpAny_of_eq (F.newCall_reversed_1 _) (wpAny_pure ⟨plainId_quiet F.plain_reversed_new _, codeAny_builtin F.entry_reversed_new ?_⟩))
 rw [Around.under_plainId F.plain_reversed_new _]
 unfold Builtin.«reversed.__new__»
 refine wpAny_bind (wpAny_of_eq (newClass_reversed _) ?_)
 try dsimp only
 refine wpAny_bind (wpAny_of_eq (a := ()) (by first | rfl | kernel_rfl) ?_)
 refine wpAny_bind (wpAny_of_eq (a := ()) (by first | rfl | kernel_rfl) ?_)
 try dsimp only
 refine wpAny_bind (wpAny_specialOf ht.typeIs no_rev ?_)
 try dsimp only
 refine wpAny_bind ?_
 wp_delta
 refine wpAny_bind (wpAny_isInstance (T := "tuple") (b := false) ht.typeIs (by rw [isSubtype_type]; kernel_rfl) ?_)
 refine wpAny_ite_split (fun hab => absurd hab (by decide)) (fun _ => ?_)
 refine wpAny_bind (wpAny_specialOf ht.typeIs slot_tuple_getitem.lookup ?_)
 try dsimp only
 refine wpAny_ite_split (fun _ => ?_) (fun hab => absurd (by decide) hab)
 refine wpAny_pure ?_
 refine wpAny_ite_split (fun hab => absurd hab (by decide)) (fun _ => ?_)
 refine wpAny_bind (len_tuple ht hfit ?_)
 refine wpAny_bind (m := asInt? _) (wpAny_pure ?_)
 try dsimp only
 refine wpAny_bind (m := Builtin.SmallTypes.newRecord _ _) ?_
 unfold Builtin.SmallTypes.newRecord
 refine wpAny_newObj_type ?_ (by size_fits)
 exact wpAny_pure h
theorem call_rev {t : Addr} {items : Array Value} {Q : Value → Shared → Prop} (ht : IsTup s.heap t items) (hfit : (items.size : Int) < 2 ^ 63)
  (h : Q (.ref s.heap.objs.size) { s with heap := s.heap.push (rvObj t ((items.size : Int) - 1)), toks := s.toks + 1 + 1 }) : wpAny (model prog w) A (call (.type "reversed") [.ref t]) Q E s := by
 refine callType_codes (Q₁ := fun obj s₁ => obj = .ref s.heap.objs.size ∧ s₁ = { s with heap := s.heap.push (rvObj t ((items.size : Int) - 1)), toks := s.toks + 1 + 1 }) called (F.typeCall_reversed_1 _) F.entry_object_init (code_new ht hfit ⟨rfl, rfl⟩) ?_
 rintro obj s₁ ⟨rfl, rfl⟩
 have hT : ({ s with heap := s.heap.push (rvObj t ((items.size : Int) - 1)), toks := s.toks + 1 + 1 } : Shared).TypeIs (.ref s.heap.objs.size) "reversed" := ⟨_, Heap.get?_push_size _ rfl, rfl⟩
 refine ⟨hT, F.args_object_init_2 _ _, ?_⟩
 exact object_init_meets (self := Value.ref s.heap.objs.size) (rest := [Value.ref t]) called.init.lookup called.made (by decide) prog w A.in1 _ _ ⟨hT, rfl, h⟩
theorem next_item {it t : Addr} {i : Nat} {items : Array Value} {x : Value} {Q : Option Value → Shared → Prop} (hit : IsRv s.heap it t (i : Int)) (ht : IsTup s.heap t items) (hx : items[i]? = some x) (hfit : (items.size : Int) < 2 ^ 62)
  (hQ : ∀ h' tk, IsRv h' it t ((i : Int) - 1) → Heap.SameBut it s.heap h' → Q (some x) { s with heap := h', toks := tk }) : wpAny (model prog w) A (pyNext (.ref it)) Q E s := by
 obtain ⟨o, ho, hc, hd⟩ := id hit
 have hi : i < items.size := (Array.getElem?_eq_some_iff.mp hx).1
 unfold pyNext
 refine wpAny_bind (wpAny_attempt (wpAny_callSpecial?_slot (name := Str.ofString "__next__") hit.typeIs slot_next
  (wpAny_call_entry slot_next hit.typeIs entry_next ?_ (args_next _))))
 unfold Builtin.«reversed.__next__»
 refine wpAny_bind (wpAny_of_eq (a := (Value.ref it, [])) rfl ?_)
 try dsimp only
 refine wpAny_bind (wpAny_field ho hd (x := .ref t) rfl ?_)
 refine wpAny_bind (wpAny_field ho hd (x := rawInt (i : Int)) rfl ?_)
 show wpAny _ _ (if (i : Int) < 0 then _ else _) _ _ s
 rw [if_neg (by omega)]
 try dsimp only
 refine wpAny_bind (wpAny_specialOf ht.typeIs slot_tuple_getitem.lookup ?_)
 try dsimp only
 refine wpAny_ite_split (fun hab => absurd hab (by decide)) (fun _ => ?_)
 refine wpAny_bind (wpAny_mkInt ?_)
 refine wpAny_bind (wpAny_attempt (getItem_tuple (j := i) ht (by omega) (by omega) (by unfold seqIndex?; simp; omega) hx ?_))
 try dsimp only
 refine wpAny_bind (wpAny_field ho hd (x := rawInt (i : Int)) rfl ?_)
 show wpAny _ _ (setField (.ref it) 1 (rawInt ((i : Int) - 1)) >>= _) _ _ _
 refine wpAny_bind (wpAny_setField ho hd (by simp) ?_)
 refine wpAny_pure ⟨x, rfl, wpAny_pure (hQ _ _ ?_ (Heap.SameBut.update ..))⟩
 exact ⟨_, Heap.get?_update_self _ ho (Obj.isFreed_of_fields (Obj.data_mapFields hd _)), (Obj.cls_mapFields ..).trans hc, by
  rw [Obj.data_mapFields hd]; simp⟩
theorem next_end {it t : Addr} {Q : Option Value → Shared → Prop} (hh : A.handled = none) (hit : IsRv s.heap it t (-1))
  (hQ : ∀ h', Heap.ExtBut it s.heap h' → Q none { s with heap := h' }) : wpAny (model prog w) A (pyNext (.ref it)) Q E s := by
 obtain ⟨o, ho, hc, hd⟩ := id hit
 unfold pyNext
 refine wpAny_bind (wpAny_attempt (wpAny_callSpecial?_slot (name := Str.ofString "__next__") hit.typeIs slot_next
  (wpAny_call_entry slot_next hit.typeIs entry_next ?_ (args_next _))))
 unfold Builtin.«reversed.__next__»
 refine wpAny_bind (wpAny_of_eq (a := (Value.ref it, [])) rfl ?_)
 try dsimp only
 refine wpAny_bind (wpAny_field ho hd (x := .ref t) rfl ?_)
 refine wpAny_bind (wpAny_field ho hd (x := rawInt (-1)) rfl ?_)
 show wpAny _ _ (if (-1 : Int) < 0 then _ else _) _ _ s
 rw [if_pos (by decide)]
 refine wpAny_bind (wpAny_rule ?_)
 refine wpAny_bind ?_
 wp_delta
 refine wpAny_bind (wpAny_setField ho hd (by simp) ?_)
 have ho2 := Heap.get?_update_self (Obj.mapFields fun x => x.setIfInBounds 1 (rawInt (-1))) ho (Obj.isFreed_of_fields (Obj.data_mapFields hd _))
 refine wpAny_setField ho2 (Obj.data_mapFields hd _) (by simp) ?_
 refine wpAny_bind ?_
 unfold Builtin.SmallTypes.stopIteration
 first
 | show wpAny _ _ (newExc (.type "StopIteration") [] >>= _) _ _ _
 | (refine wpAny_bind ?_; show wpAny _ _ (newExc (.type "StopIteration") [] >>= _) _ _ _)
 refine wpAny_bind ?_
 simp only [newExc, newTuple]
 refine wpAny_bind (wpAny_newObj_type ?_ (by size_fits))
 refine wpAny_bind (m := firstArgMember _ _) (wpAny_of_eq (a := Value.none) (by first | rfl | (simp only [firstArgMember]; rfl)) ?_)
 refine wpAny_newObj_type ?_ (by size_fits)
 simp only [raiseNew]
 refine wpAny_bind (wpAny_handled ?_)
 first | rw [show A.in1.handled = none from hh] | rw [hh]
 refine wpAny_bind (wpAny_pure (wpAny_throw ?_))
 refine wpAny_bind (wpAny_isInstance (T := "StopIteration") (b := true) ⟨_, Heap.get?_push_size _ rfl, rfl⟩ isSubtype_stop ?_)
 exact wpAny_pure (hQ _ ((((Heap.SameBut.update ..).extBut.trans (Heap.SameBut.update ..).extBut).push _).push _))
theorem iter_rev {it t : Addr} {i : Int} {Q : Value → Shared → Prop} (hit : IsRv s.heap it t i) (h : Q (.ref it) s) : wpAny (model prog w) A (pyIter (.ref it)) Q E s := by
 refine wpAny_pyIter_slot hit.typeIs slot_iter (wpAny_call_entry slot_iter hit.typeIs entry_iter ?_ (args_iter _))
 show wpAny _ _ (ret (.ref it)) _ _ s
 exact wpAny_pure ⟨_, rfl, "reversed", _, hit.typeIs, slot_next.lookup, h⟩
theorem hint_rev {it t : Addr} {items : Array Value} {Q : Bool → Shared → Prop} (hit : IsRv s.heap it t ((items.size : Int) - 1)) (ht : IsTup s.heap t items) (hfit : items.size ≤ sizeLine)
  (h : ∀ tk, Q ((items.size : Int) != 0) { s with toks := tk }) : wpAny (model prog w) A (Builtin.List.listLengthHint (.ref it)) Q E s := by
 obtain ⟨o, ho, hc, hd⟩ := id hit
 unfold Builtin.List.listLengthHint
 refine wpAny_bind (wpAny_specialOf hit.typeIs no_len ?_)
 refine wpAny_ite_split (fun hab => absurd hab (by decide +kernel)) (fun _ => ?_)
 refine wpAny_ite_split (fun hab => absurd hab (by decide)) (fun _ => ?_)
 refine wpAny_bind (wpAny_specialOf hit.typeIs slot_hint.lookup ?_)
 generalize hid : ("reversed.__length_hint__" : String) = id0
 dsimp only
 rw [show splitId id0 = some ("reversed", "__length_hint__") from by subst hid; decide +kernel]
 subst hid
 dsimp only
 refine wpAny_bind (wpAny_isInstance (T := "reversed") (b := true) hit.typeIs (by rw [isSubtype_type]; kernel_rfl) ?_)
 refine wpAny_ite_split (fun hab => absurd hab (by decide)) (fun _ => ?_)
 refine wpAny_ite_split (fun hab => absurd hab (by decide +kernel)) (fun _ => ?_)
 refine wpAny_bind (wpAny_rule ?_)
 refine wpAny_bind (wpAny_of_eq (slot_hint.bind _) ?_)
 refine wpAny_bind (wpAny_attempt (wpAny_call_entry slot_hint hit.typeIs entry_hint ?_ (args_hint _)))
 unfold Builtin.«reversed.__length_hint__»
 refine wpAny_bind (wpAny_of_eq (a := Value.ref it) rfl ?_)
 refine wpAny_bind (wpAny_field ho hd (x := .ref t) rfl ?_)
 refine wpAny_ite_split (fun hab => absurd hab Bool.false_ne_true) (fun _ => ?_)
 have hf2 : (items.size : Int) < 2 ^ 63 := by rw [sizeLine_eq] at hfit; omega
 refine wpAny_bind (len_tuple ht hf2 ?_)
 refine wpAny_bind (m := asInt? _) (wpAny_pure ?_)
 refine wpAny_bind (wpAny_field ho hd (x := rawInt ((items.size : Int) - 1)) rfl ?_)
 show wpAny _ _ (if (items.size : Int) < (items.size : Int) - 1 + 1 then _ else _) _ _ _
 rw [if_neg (by omega)]
 have e1 : (items.size : Int) - 1 + 1 = (items.size : Int) := by omega
 rw [e1]
 unfold retInt
 refine wpAny_bind (wpAny_mkInt (wpAny_pure ⟨_, rfl, ?_⟩))
 generalize s.toks + 1 + 1 = tk
 show wpAny _ _ (asInt? (Value.int (items.size : Int) tk) >>= _) _ _ _
 refine wpAny_bind ?_
 refine wpAny_pure (a := some (items.size : Int)) ?_
 have hfi : Builtin.List.listFitsIndex (items.size : Int) = true := by unfold Builtin.List.listFitsIndex; rw [decide_eq_true (by omega), decide_eq_true (by omega)]; rfl
 show wpAny _ _ (if (!Builtin.List.listFitsIndex (items.size : Int)) = true then _ else _) _ _ _
 rw [if_neg (by rw [hfi]; decide)]
 show wpAny _ _ (if (items.size : Int) < 0 then _ else _) _ _ _
 rw [if_neg (by omega)]
 have htl : Builtin.List.listTooLong ((items.size : Int).toNat) = false := by unfold Builtin.List.listTooLong; rw [Int.toNat_natCast]; exact decide_eq_false (by omega)
 show wpAny _ _ (if Builtin.List.listTooLong ((items.size : Int).toNat) = true then _ else _) _ _ _
 rw [if_neg (by rw [htl]; decide)]
 exact wpAny_pure (h _)
theorem _root_.PySem.Walks.tupRev (hh : A.handled = none) (I t : Addr) (hne : t ≠ I) (items : Array Value) (hfit : (items.size : Int) < 2 ^ 62) :
  Walks prog w A I [I, t] [I] items.size (fun i v => items[items.size - 1 - i]? = some v) (fun i h => i ≤ items.size ∧ IsRv h I t ((items.size : Int) - 1 - (i : Int)) ∧ IsTup h t items) where
 sub := fun b hb => by simp at hb; simp [hb]
 frame := fun _ _ _ x hk => ⟨x.1, x.2.1.at fun o e => hk I (by simp) o e, tupAt x.2.2 fun o e => hk t (by simp) o e⟩
 item := fun i s Q E hi x hQ => by
  have e : (items.size : Int) - 1 - (i : Int) = ((items.size - 1 - i : Nat) : Int) := by omega
  have hit := x.2.1
  rw [e] at hit
  have hx : items[items.size - 1 - i]? = some (items[items.size - 1 - i]'(by omega)) := Array.getElem?_eq_getElem (by omega)
  refine next_item hit x.2.2 hx hfit fun h' tk hit' hs' => ?_
  have e2 : ((items.size - 1 - i : Nat) : Int) - 1 = (items.size : Int) - 1 - ((i + 1 : Nat) : Int) := by omega
  rw [e2] at hit'
  exact hQ _ h' tk hx ⟨hi, hit', tupAt x.2.2 fun o eo => (hs'.2 t hne).trans eo⟩ fun b o hb eo => hs'.extBut b o (fun h => hb (by simp [h])) eo
 done := fun s Q E x hQ => by
  have e : (items.size : Int) - 1 - (items.size : Int) = -1 := by omega
  have hit := x.2.1
  rw [e] at hit
  exact next_end hh hit fun h' he' => hQ h' s.toks fun b o hb eo => he' b o (fun h => hb (by simp [h])) eo
 self := fun _ _ _ _ x hQ => iter_rev x.2.1 hQ
theorem extend_rev {R : Result → Shared → Prop} {I t : Addr} {items : Array Value} (hh : A.handled = none) (hit : IsRv s.heap I t ((items.size : Int) - 1)) (ht : IsTup s.heap t items) (hne : t ≠ I) (hlen : items.size ≤ sizeLine)
  (S : Addr) (hSI : S ≠ I) (hSt : S ≠ t) (res : Value) (c₀ : Nat) (hS : s.heap.get? S = some { cls := .type "list", data := .seq #[] c₀ })
  (hR : ∀ h' tk acc' c', (∀ b o, b ≠ S → b ≠ I → s.heap.get? b = some o → h'.get? b = some o) → h'.get? S = some { cls := .type "list", dict := none, data := .seq acc' c', slots := #[] } →
   ItemsOf (fun i v => items[items.size - 1 - i]? = some v) acc' items.size → R (.ok (.ret res)) { s with heap := h', toks := tk }) :
  wpAny (model prog w) A.in1 (Builtin.List.listExtendWith (.ref S) (.ref I) res)
   (fun fin s' => match fin with | .done f => R (.ok f) s' | .again c' => c'.quiet = true ∧ codeAny (model prog w) A c' R s') (fun e s' => R (.error e) s') s := by
 have hf : (items.size : Int) < 2 ^ 62 := by rw [sizeLine_eq] at hlen; omega
 have hSf : S ∉ [I, t] := fun hm => by rcases List.mem_cons.mp hm with e | e; exact hSI e; exact hSt (List.mem_singleton.mp e)
 have W := (Walks.tupRev (prog := prog) (w := w) (A := A.in1) hh I t hne items hf).toS
 have key : ∀ (h : Heap) (c₁ tk : Nat), IsRv h I t ((items.size : Int) - 1 - ((0 : Nat) : Int)) → IsTup h t items → (∀ b o, b ≠ S → s.heap.get? b = some o → h.get? b = some o) →
   h.get? S = some { cls := .type "list", data := .seq #[] c₁ } → codeAny (model prog w) A (.builtin "list.extend.loop" ⟨[.ref S, .ref I, res], []⟩) R { s with heap := h, toks := tk } := by
  intro h c₁ tk hit ht hk hS₁
  refine codeAny_extend_loopS W hlen S hSf res items.size 0 _ #[] c₁ rfl (Nat.zero_le _) ⟨Nat.zero_le _, hit, ht⟩ hS₁ (ItemsOf.nil _) fun s' acc' c' hm hS' hacc => ?_
  rw [Moved.eq_with hm]
  refine hR s'.heap s'.toks acc' c' (fun b o hb hb2 e => hm.heap b o (fun hmem => ?_) (hk b o hb e)) hS' hacc
  rcases List.mem_cons.mp hmem with e' | hmem
  ·exact hb e'
  ·exact hb2 (List.mem_singleton.mp hmem)
 unfold Builtin.List.listExtendWith
 refine wpAny_bind (wpAny_typeOf (T := "reversed") hit.typeIs ?_)
 have h1 : Builtin.List.listSameRef (.ref S) (.ref I) = false := by simp [Builtin.List.listSameRef, hSI]
 have h2 : (Value.type "reversed" == Value.type "list") = false := by decide
 have h3 : (Value.type "reversed" == Value.type "tuple") = false := by decide
 simp only [h1, h2, h3, Bool.or_false, Bool.false_eq_true, if_false]
 refine wpAny_bind (iter_rev hit ?_)
 refine wpAny_bind (wpAny_holding (hint_rev hit ht hlen fun tk => ?_))
 have hit0 : IsRv s.heap I t ((items.size : Int) - 1 - ((0 : Nat) : Int)) := by simpa using hit
 refine wpAny_ite_split (fun _ => ?_) (fun _ => wpAny_pure ⟨plainId_quiet F.plain_extend_loop _, key _ c₀ _ hit0 ht (fun b o _ e => e) hS⟩)
 refine wpAny_bind (wpAny_rule ?_)
 refine wpAny_bind ?_
 show wpAny _ _ (updateSeq S (·.push .none) >>= fun _ => updateSeq S (·.pop)) _ _ _
 refine wpAny_bind (wpAny_updateSeq hS rfl ?_)
 have hS₂ := Heap.get?_update_self (Obj.mapSeq (·.push Value.none)) hS rfl
 refine wpAny_updateSeq (hz := by seq_fits) hS₂ rfl ?_
 have hS₃ := Heap.get?_update_self (Obj.mapSeq (·.pop)) hS₂ rfl
 have ot : ∀ b o, b ≠ S → s.heap.get? b = some o → ((s.heap.update S (Obj.mapSeq (·.push Value.none))).update S (Obj.mapSeq (·.pop))).get? b = some o := fun b o hb e => (Heap.get?_update_other _ _ (Ne.symm hb)).trans ((Heap.get?_update_other _ _ (Ne.symm hb)).trans e)
 exact wpAny_pure ⟨plainId_quiet F.plain_extend_loop _, key _ _ _ (hit0.at fun o e => ot _ _ (Ne.symm hSI) e) (tupAt ht fun o e => ot _ _ (Ne.symm hSt) e) ot hS₃⟩
theorem init_rev {R : Result → Shared → Prop} {I t : Addr} {items : Array Value} (hh : A.handled = none) (hit : IsRv s.heap I t ((items.size : Int) - 1)) (ht : IsTup s.heap t items) (hne : t ≠ I) (hlen : items.size ≤ sizeLine)
  (S : Addr) (hSI : S ≠ I) (hSt : S ≠ t) (hS : s.heap.get? S = some { cls := .type "list", data := .seq #[] })
  (hR : ∀ h' tk acc' c', (∀ b o, b ≠ S → b ≠ I → s.heap.get? b = some o → h'.get? b = some o) → h'.get? S = some { cls := .type "list", dict := none, data := .seq acc' c', slots := #[] } →
   ItemsOf (fun i v => items[items.size - 1 - i]? = some v) acc' items.size → R (.ok (.ret .none)) { s with heap := h', toks := tk }) :
  wpAny (model prog w) A.in1 (Builtin.«list.__init__» ⟨[.ref S, .ref I], []⟩)
   (fun fin s' => match fin with | .done f => R (.ok f) s' | .again c' => c'.quiet = true ∧ codeAny (model prog w) A c' R s') (fun e s' => R (.error e) s') s := by
 show wpAny _ _ (do let old ← Builtin.List.listItems (.ref S); Builtin.List.listUpdate (.ref S) (fun _ => #[]); letGo old.toList.reverse; Builtin.List.listExtendWith (.ref S) (.ref I) .none) _ _ s
 refine wpAny_bind ?_
 unfold Builtin.List.listItems
 refine wpAny_bind (wpAny_seqItems hS rfl (wpAny_pure ?_))
 show wpAny _ _ (updateSeq S (fun _ => #[]) >>= fun _ => letGo (#[] : Array Value).toList.reverse >>= fun _ => Builtin.List.listExtendWith (.ref S) (.ref I) .none) _ _ s
 refine wpAny_bind (wpAny_updateSeq hS rfl ?_)
 have hS₂ := Heap.get?_update_self (Obj.mapSeq (fun _ => (#[] : Array Value))) hS rfl
 have oth : ∀ b o, b ≠ S → s.heap.get? b = some o → (s.heap.update S (Obj.mapSeq (fun _ => (#[] : Array Value)))).get? b = some o :=
  fun b o hb e => (Heap.get?_update_other _ _ (Ne.symm hb)).trans e
 refine wpAny_bind (wpAny_letGo ?_)
 refine extend_rev hh (hit.at fun o e => oth _ _ (Ne.symm hSI) e) (tupAt ht fun o e => oth _ _ (Ne.symm hSt) e) hne hlen S hSI hSt .none _ hS₂ fun h' tk acc' c' hk hS' hacc => ?_
 exact hR h' tk acc' c' (fun b o hb hb2 e => hk b o hb hb2 (oth b o hb e)) hS' hacc
theorem call_list_rev {Q : Value → Shared → Prop} {I t : Addr} {items : Array Value} (hh : A.handled = none) (hit : IsRv s.heap I t ((items.size : Int) - 1)) (ht : IsTup s.heap t items) (hne : t ≠ I) (hlen : items.size ≤ sizeLine)
  (hQ : ∀ h' tk acc' c', (∀ b o, b ≠ I → s.heap.get? b = some o → h'.get? b = some o) →
   h'.get? s.heap.objs.size = some { cls := .type "list", dict := none, data := .seq acc' c', slots := #[] } → ItemsOf (fun i v => items[items.size - 1 - i]? = some v) acc' items.size → Q (.ref s.heap.objs.size) { s with heap := h', toks := tk }) :
  wpAny (model prog w) A (call (.type "list") [.ref I]) Q E s := by
 refine callType_codes (Q₁ := fun obj s₁ => obj = .ref s.heap.objs.size ∧ s₁ = { s with heap := s.heap.push { cls := .type "list", data := .seq #[] } }) F.called_list (F.typeCall_list_1 _) F.entry_list_init
  (code_list_new _ ⟨rfl, rfl⟩) fun obj s₁ h₁ => ?_
 obtain ⟨rfl, rfl⟩ := h₁
 have hS : (s.heap.push { cls := .type "list", data := .seq #[] }).get? s.heap.objs.size = some { cls := .type "list", data := .seq #[] } := Heap.get?_push_size _ rfl
 have hI : I < s.heap.objs.size := by obtain ⟨o, ho, _⟩ := hit; exact Heap.lt_size ho
 have hT : t < s.heap.objs.size := by obtain ⟨o, ho, _⟩ := ht; exact Heap.lt_size ho
 refine ⟨⟨_, hS, rfl⟩, F.args_list_init_2 _ _, init_rev (A := A.in1) hh (hit.at fun o e => Heap.get?_push_of_some _ e) (tupAt ht fun o e => Heap.get?_push_of_some _ e) hne hlen _ (Nat.ne_of_gt hI) (Nat.ne_of_gt hT) hS fun h' tk acc' c' hk hS' hacc => ?_⟩
 exact ⟨rfl, hQ h' tk acc' c' (fun b o hb e => hk b o (Nat.ne_of_lt (Heap.lt_size e)) hb (Heap.get?_push_of_some _ e)) hS' hacc⟩
end
end Rv
namespace Sm
open PySem PySem.Spec PyProof.Rows L2 PySem.SeqAt
open Ev (D O Hh Fr R Phi E Es Eo T S Ss Fl Src BOp COp TY BI ME)
section
variable {X : Cx} {G : Tb} {n : Nat} {sc : Scope} {N : List Str} {df : Bool} {m : List Nat} {a b c : E} {xa xb xc tg : Expr} {pos : Pos}
theorem vals_rev {vs : List V} {us : List Value} (r : Vals vs us) {acc : Array Value} (h : ItemsOf (fun i v => us.toArray[us.toArray.size - 1 - i]? = some v) acc us.toArray.size) : Vals vs.reverse acc.toList := by
 obtain ⟨h1, h2⟩ := h
 have e : acc.toList = us.reverse := by
  apply List.ext_getElem?
  intro i
  by_cases hi : i < us.length
  ·have ha : i < acc.size := by rw [h1]; simpa using hi
   have := h2 i _ (Array.getElem?_eq_getElem ha)
   rw [List.getElem?_reverse hi]
   simp only [List.size_toArray, List.getElem?_toArray] at this
   rw [this]
   simp [ha]
  ·have hs : acc.size = us.length := by rw [h1]; simp
   rw [List.getElem?_eq_none (by rw [Array.length_toList]; omega), List.getElem?_eq_none (by rw [List.length_reverse]; omega)]
 rw [e]; exact Vals.reverse r
theorem je_lofV {p p2 pos2 : Pos} (ha : JE G n sc N df m a xa) (h1 : ("list" : Str) ∈ G.bl := by decide +kernel) (hg1 : sc.names.lookup ("list" : Str) = some .globalImplicit := by rfl)
  (hg : sc.names.lookup ("reversed" : Str) = some .globalImplicit := by rfl) (hb : ("reversed" : Str) ∈ G.bl := by decide +kernel)
  (hst : ∀ env : Env, starEach [xa] env = [(false, eval xa env)] := by intro _; rfl)
  (hst3 : ∀ env : Env, starEach [Expr.Call (.Name "reversed" p2) [xa] [] pos2] env = [(false, eval (Expr.Call (.Name "reversed" p2) [xa] [] pos2) env)] := by intro _; rfl) :
  JE G n sc N df m (.lof (.rev a)) (.Call (.Name "list" p) [.Call (.Name "reversed" p2) [xa] [] pos2] [] pos) := fun X g => by
 intro pins s σ H Q I q
 obtain ⟨r, fr, h, d, h', sr, hr, e, q⟩ := q
 rw [Ev.ev, Ev.evi] at e
 replace e := Ev.bind_eq_ok e; obtain ⟨src, h3, e1, e⟩ := e
 replace e1 := Ev.bind_eq_ok e1; obtain ⟨x, h4, e2, e1⟩ := e1
 replace e1 := Ev.of_eq_ok e1; obtain ⟨e1, y0⟩ := e1; subst y0
 refine wpAny_Call_Name_kw (ld_blt I (g.gl hg1) (g.bl _ h1) (show bootBuiltins ("list" : Str) = some (.type "list") by decide +kernel) ?_ (by decide) (by decide))
 refine PyProof.Rows.callWith_type1 ?_ (hst3 _) rfl
 rw [hst3]
 show wpAny _ _ (spliced ((false, eval (Expr.Call (.Name "reversed" p2) [xa] [] pos2) X.env) :: backTo pos [])) _ _ s
 refine Calls.spliced_cons ?_
 have PAs : PA X [xa] _ := pa_cons (ha X g) pa_nil (by rw [hst]; rfl)
 refine Call_ (ld_blt I (g.gl hg) (g.bl _ hb) (show bootBuiltins ("reversed" : Str) = some (.type "reversed") by decide +kernel) (PyProof.Rows.callWith_type1 (thn (PAs pos2 pins s σ H (fun vs H1 => ∃ r1 u, vs = [u] ∧ RV X.K H1 r1 x u ∧ HR X.K H1 r1 h3 ∧ Fm X.K r r1 H H1) I ⟨r, fr, h, x, h3, sr, hr, e2, fun u H1 r1 v1 hr1 f1 => ⟨r1, u, rfl, v1, hr1, f1⟩⟩) fun us s1 z => ?_) (hst _) rfl))
 obtain ⟨vs, H1, I1, rv, r1, u, rfl, v1, hr1, f1⟩ := z
 cases x <;> simp only [Ev.tupD, Option.map, reduceCtorEq] at e1
 rename_i ds
 cases e1
 obtain ⟨t, ws, rfl, z, w⟩ := v1.shape
 cases rv with
 | cons ra rb =>
 cases rb
 cases ra
 obtain ⟨its, pv, pt, hz⟩ := I1.tuple z
 have hlen : its.toArray.size ≤ sizeLine := by rw [List.size_toArray, ← pv.length]; exact hz
 have hf : (its.toArray.size : Int) < 2 ^ 63 := by rw [sizeLine_eq] at hlen; omega
 refine Rv.call_rev pt hf ?_
 refine Calls.spliced_nil ?_
 have I2 : Inv X pins σ H1 { s1 with heap := s1.heap.push (Rv.rvObj t ((its.toArray.size : Int) - 1)), toks := s1.toks + 1 + 1 } := I1.kept fun b o e => Heap.get?_push_of_some _ e
 have hne : t ≠ s1.heap.objs.size := by obtain ⟨o, ho, _⟩ := pt; exact Nat.ne_of_lt (Heap.lt_size ho)
 refine Rv.call_list_rev (I1.ok.hd g.calm) ⟨_, Heap.get?_push_size _ rfl, rfl, rfl⟩ (Rv.tupAt pt fun o e => Heap.get?_push_of_some _ e) hne hlen fun h' tk acc' c' hk hS' hacc => ?_
 obtain ⟨hz2, q2⟩ := (q.later f1).lst e w.reverse hr1
 have hp : s1.heap.objs.size ≤ (s1.heap.push (Rv.rvObj t ((its.toArray.size : Int) - 1))).objs.size := by rw [size_push']; exact Nat.le_succ _
 refine ⟨.ref _, _, I1.laid (t' := tk) (o := .lst ws.reverse) (fun b u e => hk b u (Nat.ne_of_lt (Heap.lt_size e)) (Heap.get?_push_of_some _ e)) hp ?_, rfl, q2 _ (I1.hok.fresh hp)⟩
 exact ⟨by simpa using hz, acc'.toList, c', vals_rev pv hacc, by simpa using hS'⟩
end
end Sm
set_option maxRecDepth 100000
namespace Sm
open PySem PySem.Spec PyProof.Rows L2 PySem.SeqAt
open Ev (D O Hh Fr R Phi E Es Eo T S Ss Fl Src BOp COp TY BI ME)
noncomputable def Ite (K : PySem.W.Frag) (a : Addr) : L2.It :=
  ⟨fun i H => ∃ xs x, SqL K H a xs ∧ xs[i]? = some x,
   fun i H x H' => ∃ p u, H p = none ∧ x = .ref p ∧ H' = upd H p (.tup [.int i, u]) ∧ ∀ xs, SqL K H a xs → xs[i]? = some u,
   fun i H => ∃ xs, SqL K H a xs ∧ xs.length ≤ i⟩
theorem turn_enum {P : Program} {w : World} {K : PySem.W.Frag} {elts : List Expr} {x1} {pos : Pos} {l e it : Addr} (hne : e ≠ it) :
  Turn P w K (.Tuple elts x1 pos) (Ite K l) [e, it] e (fun i h => (∃ old, IsEnum h e it i old) ∧ h.IsListIter it l i) where
 mem := by simp
 obj := fun i h st b hb => by
  obtain ⟨⟨old, s1⟩, s2⟩ := st
  simp only [List.mem_cons, List.mem_nil_iff, or_false] at hb
  rcases hb with rfl | rfl
  ·exact ⟨_, s1, fun v z => by have z' : Data.fields _ = Data.cell v := z; cases z'⟩
  ·obtain ⟨o, e, c, d⟩ := s2; exact ⟨o, e, fun v z => by rw [d] at z; cases z⟩
 keep := fun i h h' st k => by
  obtain ⟨⟨old, s1⟩, s2⟩ := st
  exact ⟨⟨old, k e (by simp) _ s1⟩, s2.at fun o e => k it (by simp) o e⟩
 item := by
  intro X hP hw hK hc i pins s σ H E I hf st hg
  subst hP hw hK
  obtain ⟨⟨old, s1⟩, s2⟩ := st
  obtain ⟨xs, x, hx, ex⟩ := hg
  obtain ⟨xt, rx, px, _⟩ := I.list hx
  obtain ⟨u, hu, ru⟩ := rx.get ex
  refine wpAny_pyNext_enum_item s1 s2 px.isList (x := u) (by simpa using hu) hne fun h' a1 a2 a3 a4 hk => ?_
  refine ⟨_, rfl, wpAny_letOwnedTupleGo_enum (s := { s with heap := h', toks := s.toks + 1 }) a1 fun h'' b1 b2 => ?_⟩
  have lt : ∀ {c o}, s.heap.get? c = some o → c ≠ s.heap.objs.size := fun e => Nat.ne_of_lt (Heap.lt_size e)
  have hT : H s.heap.objs.size = none := I.hok.fresh (Nat.le_refl _)
  have I0 : Inv X pins σ (upd H s.heap.objs.size (.tup [.int i, x])) { s with heap := s.heap.push { cls := .type "tuple", data := .seq #[.int i s.toks, u] }, toks := s.toks + 1 } :=
   I.laid (fun b o e => Heap.get?_push_of_some _ e) (Nat.le_refl _) ⟨by show 2 ≤ sizeLine; decide, [.int i s.toks, u], .cons ⟨_, rfl⟩ (.cons ru .nil), ⟨_, Heap.get?_push_size _ rfl, rfl, _, rfl⟩⟩
  have ne : ∀ b ∈ [e, it], b ≠ s.heap.objs.size := fun b hb => by
   simp only [List.mem_cons, List.mem_nil_iff, or_false] at hb
   rcases hb with rfl | rfl
   ·exact lt s1
   ·obtain ⟨o, e, _⟩ := s2; exact lt e
  have fp : ∀ b ∈ [e, it], FpOk X pins (upd H s.heap.objs.size (.tup [.int i, x])) b := fun b hb => ⟨by rw [upd_ne (ne b hb)]; exact (hf b hb).1, (hf b hb).2⟩
  have I1 : Inv X pins σ (upd H s.heap.objs.size (.tup [.int i, x])) { s with heap := h'', toks := s.toks + 1 } := by
   refine turnedL (s := { s with heap := s.heap.push { cls := .type "tuple", data := .seq #[.int i s.toks, u] }, toks := s.toks + 1 }) (ch := [e, it]) I0 (fun b o hb e => ?_) fp
   simp only [List.mem_cons, List.mem_nil_iff, or_false, not_or] at hb
   refine b2.extBut _ _ hb.1 ?_
   by_cases hT : b = s.heap.objs.size
   ·subst hT
    have e' : (s.heap.push { cls := .type "tuple", data := .seq #[.int i s.toks, u] }).get? s.heap.objs.size = some o := e
    rw [Heap.get?_push_size _ rfl] at e'
    cases e'
    exact a3
   ·refine hk b o hb.1 hb.2 ?_
    have e' : (s.heap.push { cls := .type "tuple", data := .seq #[.int i s.toks, u] }).get? b = some o := e
    rw [Heap.get?_push_ne _ _ _ hT] at e'; exact e'
  refine ⟨.ref s.heap.objs.size, _, I1, rfl, ⟨s.heap.objs.size, x, hT, rfl, rfl, fun xs' h => by rw [I.list_inj h hx]; exact ex⟩, ?_, fun b hb => (fp b hb).1⟩
  exact ⟨⟨_, by simpa using b1⟩, a2.extBut b2.extBut (Ne.symm hne)⟩
 done := by
  intro X hP hw hK hc i pins s σ H E I hf st hg
  subst hP hw hK
  obtain ⟨⟨old, s1⟩, s2⟩ := st
  obtain ⟨xs, hx, hl⟩ := hg
  obtain ⟨xt, rx, px, _⟩ := I.list hx
  have hl1 := rx.length
  refine wpAny_pyNext_enum_end (I.ok.hd hc) s1 s2 px.isList (by simp; omega) fun h' hk => ⟨rfl, ?_⟩
  refine turnedL (ch := [e, it]) (t' := s.toks) I (fun b o hb e => ?_) hf
  simp only [List.mem_cons, List.mem_nil_iff, or_false, not_or] at hb
  exact hk b o hb.2 e
 self := fun _ _ _ _ _ st h => by obtain ⟨⟨old, s1⟩, s2⟩ := st; exact wpAny_pyIter_enum s1 h
theorem enum_get : ∀ {ds : List D} {k : Int} {i : Nat} {d : D}, (Ev.enumD k ds)[i]? = some d → ∃ x, ds[i]? = some x ∧ d = .tup [.int (k + i), x]
 | [], _, _, _, e => by simp [Ev.enumD] at e
 | x :: ds, k, 0, d, e => by simp [Ev.enumD] at e; exact ⟨x, by simp, by simp [e]⟩
 | x :: ds, k, i + 1, d, e => by
  simp only [Ev.enumD, List.getElem?_cons_succ] at e
  obtain ⟨y, h1, h2⟩ := enum_get e
  refine ⟨y, by simpa using h1, ?_⟩
  rw [h2]
  have : k + 1 + (i : Int) = k + ((i + 1 : Nat) : Int) := by omega
  rw [this]
theorem enum_len : ∀ (ds : List D) (k : Int), (Ev.enumD k ds).length = ds.length
 | [], _ => rfl
 | _ :: ds, k => by simp [Ev.enumD, enum_len ds]
theorem it_enum {K : PySem.W.Frag} {r : List Addr} {H : Hp} {h : Hh} {n1 : Nat} {a1 : Addr} {ds : List D} (z1 : r[n1]? = some a1) : ItOf K r H (Ev.enumD 0 ds, [(n1, ds)]) (Ite K a1) := fun i H1 r1 h1 hr1 f1 st => by
 obtain ⟨b1, vs, e1, e2, e3⟩ := hr1.read (stays_one st)
 rw [f1.pre _ _ z1] at e1; cases e1
 refine ⟨fun d e => ?_, fun hl => ?_⟩
 ·obtain ⟨x, k1, rfl⟩ := enum_get e
  obtain ⟨u, p1, p2⟩ := e3.get k1
  refine ⟨⟨vs, u, e2, p1⟩, fun X H2 y => ?_⟩
  obtain ⟨p, u', hp, rfl, rfl, hu⟩ := y
  have hu' := hu vs e2
  rw [p1] at hu'; cases hu'
  exact ⟨r1, ⟨p, [.int i, u], rfl, .of upd_same, .cons (by simp [RV]) (.cons (p2.mono (.tup hp)) .nil)⟩, hr1.tup hp, .tup hp⟩
 ·refine ⟨vs, e2, ?_⟩
  have := e3.length
  have hl' : (Ev.enumD 0 ds).length ≤ i := hl
  rw [enum_len] at hl'
  omega
section
variable {G : Tb} {n : Nat} {sc : Scope} {N : List Str} {df : Bool} {m : List Nat} {a b c : E} {xa xb xc : Expr} {pos : Pos}
theorem ji_enum {elts : List Expr} {x1} {tpos p : Pos} (ha : JE G n sc N df m a xa) (hg : sc.names.lookup ("enumerate" : Str) = some .globalImplicit := by rfl) (hbl : ("enumerate" : Str) ∈ G.bl := by decide +kernel)
  (hst : ∀ env : Env, starEach [xa] env = [(false, eval xa env)] := by intro _; rfl) :
  JI G n sc N df m (.enum a) (.Tuple elts x1 tpos) (.Call (.Name "enumerate" p) [xa] [] pos) := fun X g => by
 intro pins s σ H Rr I q
 obtain ⟨r, fr, h, src, h', sr, hr, e, q⟩ := q
 rw [Ev.evi] at e
 replace e := Ev.bind_eq_ok e; obtain ⟨x, h1, e1, e⟩ := e
 replace e := Ev.of_eq_ok e; obtain ⟨e, y0⟩ := e; subst y0
 have PAs : PA X [xa] _ := pa_cons (ha X g) pa_nil (by rw [hst]; rfl)
 refine Call_ (ld_blt I (g.gl hg) (g.bl _ hbl) (show bootBuiltins ("enumerate" : Str) = some (.type "enumerate") by decide +kernel) (PyProof.Rows.callWith_type1 (thn (PAs pos pins s σ H (fun vs H1 => ∃ r1 u, vs = [u] ∧ RV X.K H1 r1 x u ∧ HR X.K H1 r1 h' ∧ Fm X.K r r1 H H1) I ⟨r, fr, h, x, h', sr, hr, e1, fun u H1 r1 v1 hr1 f1 => ⟨r1, u, rfl, v1, hr1, f1⟩⟩) fun us s1 z => ?_) (hst _) rfl))
 obtain ⟨vs, H1, I1, rv, r1, u, rfl, v1, hr1, f1⟩ := z
 simp only [Option.map_eq_some_iff] at e
 obtain ⟨s1', k1, rfl⟩ := e
 cases x <;> simp only [Ev.lstS, reduceCtorEq, Option.map_eq_some_iff] at k1
 rename_i n1
 obtain ⟨ds, k1, rfl⟩ := k1
 obtain ⟨a1, rfl, z1⟩ := v1.shape
 obtain ⟨b1, xs, w1, w2, w3⟩ := hr1.read k1
 rw [z1] at w1; cases w1
 cases rv with
 | cons ra rb =>
 cases rb
 cases ra
 obtain ⟨xt, _, px, _⟩ := I1.list w2
 refine call_enumerate_list px.isList fun hp c1 c2 c3 c4 => ?_
 have I2 : Inv X pins σ H1 { s1 with heap := hp, toks := s1.toks } := I1.kept c4
 have nb : ∀ b ∈ [s1.heap.objs.size + 1, s1.heap.objs.size], s1.heap.objs.size ≤ b := fun b hb => by
  simp only [List.mem_cons, List.mem_nil_iff, or_false] at hb
  rcases hb with rfl | rfl
  ·exact Nat.le_succ _
  ·exact Nat.le_refl _
 exact wpAny_pyIter_enum c1 ⟨_, [s1.heap.objs.size + 1, s1.heap.objs.size], _, _, H1, rfl, I2, turn_enum (Nat.succ_ne_self _), ⟨⟨_, c1⟩, c2⟩, fun b hb => I1.fpOk (nb b hb) (I1.hok.fresh (nb b hb)), q _ H1 r1 hr1 f1 (it_enum (h := h') z1)⟩
end
end Sm
set_option maxRecDepth 100000
namespace Sm
open PySem PySem.Spec PyProof.Rows L2 PySem.SeqAt
open Ev (D O Hh Fr R Phi E Es Eo T S Ss Fl Src BOp COp TY BI ME)
theorem RVs.ofInts {K : PySem.W.Frag} {H : Hp} {r : List Addr} : ∀ ns : List Int, RVs K H r (ns.map D.int) (ns.map V.int)
 | [] => .nil
 | _ :: l => .cons rfl (RVs.ofInts l)
theorem frz_of {K : PySem.W.Frag} {H : Hp} {a : Addr} {vs : List V} (hO : Only H) (hS : SqL K H a vs) : FrzL K H a vs := by
 rcases hS with h | h
 ·rcases h with h | ⟨o, h⟩
  ·rcases hO a with q | ⟨o, xs, q⟩
   ·rw [q] at h; cases h
   ·rw [q] at h; cases h
  ·exact .inl ⟨o, h⟩
 ·exact .inr h
theorem sp_of {K : PySem.W.Frag} {F : List Ev.Fn} {w n f : Nat} {H : Hp} {a : Addr} {ns : List Int} (hO : Only H) (hS : SqL K H a (ns.map V.int)) {h' : Hh} (e : Ev.run F w n f [.ref 0] [.frz (ns.map D.int)] = .ok (.bl true) h') :
  spF K F w n f [.ref a] H (fun v _ => v = .bl true) fun _ _ _ => False := by
 refine ⟨[a], [.frz (ns.map D.int)], [.ref 0], .bl true, h', .cons (show RV K H [a] (.ref 0) (.ref a) from ⟨a, rfl, rfl⟩) .nil, ⟨rfl, fun k o hk => ?_, fun k l b x y _ _ hk _ => ?_⟩, e, fun v H' r' v1 _ _ => v1⟩
 ·cases k with
  | zero =>
   simp at hk
   subst hk
   exact ⟨a, rfl, _, frz_of hO hS, RVs.ofInts ns⟩
  | succ k => simp at hk
 ·cases k with
  | zero => simp at hk
  | succ k => simp at hk
theorem walk_ev {F : List Ev.Fn} {wh n f : Nat} {l : PySem.W.OpenLaw} {q : Program} {loose : List Str} {XP : (Str → Option Value) → Heap → Prop} {YP : World → Heap → Prop} {d : DefRec} {K : Params → PySem.W.Frag} {x : Str} (hn : l.most = some 63) (hdf : d.params.defaults = []) (hr : Room n callerA)
  (hY : ∀ (w : World) (h : Heap), YP w h → (K w.params).In h) (good : ∀ ns : List Int, ns.length ≤ 63 → ∃ h', Ev.run F wh n f [.ref 0] [.frz (ns.map D.int)] = .ok (.bl true) h')
  (Fo : ∀ (w : World) (mg : Str → Option Value) (fa : Addr) (h : Heap), (K w.params).In h → h.Ns mainGlobals mg → mg d.name = some (.ref fa) →
   ∃ fd : FuncData, (∀ (s : Shared) (u : Value), BindsTo s fd ⟨[u], []⟩ [(x, u)]) ∧ ∀ base : Heap, (K w.params).In base → base.Ns mainGlobals mg → FnOk l.prog w (K w.params) mg base CX0 n fa fd [x] (spF (K w.params) F wh n f)) :
  PySem.W.WalkO q loose XP YP l.row.toRowW d [] (fun f vs => PySem.call f vs) :=
 L2.walk_ofK (n := 63) (k := n) (x := x) (CX := CX0) (sp := fun K => spF K F wh n f) hn (by decide) hdf hr hY Fo (fun K H a ns hl hO hS => by
  obtain ⟨h', e⟩ := good ns hl
  exact sp_of hO hS e) fun _ _ _ _ z => z
theorem all_ok {P : Program} {w : World} {K : PySem.W.Frag} {mg : Str → Option Value} {base : Heap} {G : Tb} (T : Top P w K mg G)
  (st : ∀ n, AllOk P w K mg base G n → AllOk P w K mg base G (n + 1)) : ∀ n, AllOk P w K mg base G n
 | 0 => fun f i _ => ok_zero
 | n + 1 => st n (all_ok T st n)
structure At (K : PySem.W.Frag) (x : Str) (st : Stmt) (i : FI) : Prop where
 name : i.name = x
 ns : PySem.W.nsIn K mainGlobals x = some (some (.ref i.addr))
 fu : Fun K x x st i.addr i.fd
 bd : Binds K i.fd i.ps []
end Sm
namespace Pv
open Ev (D BOp COp TY BI ME T E Es Eo It S Ss Fn big deep b2i rep mulOk ixN atI sIx cut joinS sortS slots)
theorem nd {α : Type _} {a b : α} (h : a = b) : a = b := h
inductive V where
 | non | bl (b : Bool) | int (i : Int) | str (s : List Nat) | tup (l : List V) | lst (l : List V) | frz (l : List V)
inductive Sl where
 | val (v : V) | own (l : List V) | bor (l : List V) | ro (l : List V)
abbrev Fr := List (Option Sl)
inductive R (α : Type) where
 | ok (a : α) (fr : Fr)
 | bad
noncomputable def R.bind {α β : Type} (r : R α) (f : α → Fr → R β) : R β :=
 match r with
 | .ok a h => f a h
 | .bad => .bad
@[simp] theorem bind_ok {α β : Type} (a : α) (h : Fr) (f : α → Fr → R β) : (R.ok a h).bind f = f a h := nd rfl
@[simp] theorem bind_bad {α β : Type} (f : α → Fr → R β) : (R.bad : R α).bind f = .bad := nd rfl
theorem bind_eq_ok {α β : Type} {r : R α} {f : α → Fr → R β} {b : β} {h : Fr} (e : r.bind f = .ok b h) : ∃ a h1, r = .ok a h1 ∧ f a h1 = .ok b h := by
 cases r with
 | ok a h1 => exact ⟨a, h1, rfl, e⟩
 | bad => cases e
noncomputable def R.of {α : Type} (o : Option α) (h : Fr) : R α := match o with
 | some a => .ok a h
 | none => .bad
@[simp] theorem of_some {α : Type} (a : α) (h : Fr) : R.of (some a) h = .ok a h := nd rfl
@[simp] theorem of_none {α : Type} (h : Fr) : R.of (none : Option α) h = .bad := nd rfl
theorem of_eq_ok {α : Type} {o : Option α} {h h' : Fr} {a : α} (e : R.of o h = .ok a h') : o = some a ∧ h' = h := by
 cases o with
 | none => cases e
 | some b => cases e; exact ⟨rfl, rfl⟩
inductive Fl where
 | nx | bk | ct | ret (v : V)
mutual
noncomputable def ofD : D → Option V
 | .non => some .non
 | .bl b => some (.bl b)
 | .int i => some (.int i)
 | .str s => some (.str s)
 | .tup ds => (ofDs ds).map .tup
 | .ref _ => none
noncomputable def ofDs : List D → Option (List V)
 | [] => some []
 | d :: ds => (ofD d).bind fun v => (ofDs ds).map fun vs => v :: vs
end
noncomputable def eqL (f : V → V → Option Bool) : List V → List V → Option Bool
 | [], [] => some true
 | x :: xs, y :: ys => (f x y).bind fun b => (eqL f xs ys).bind fun c => some (b && c)
 | _, _ => some false
noncomputable def veq : Nat → V → V → Option Bool
 | 0, _, _ => none
 | _ + 1, .non, _ => none
 | _ + 1, .bl _, _ => none
 | _ + 1, _, .non => none
 | _ + 1, _, .bl _ => none
 | _ + 1, .int a, .int b => some (a == b)
 | _ + 1, .str a, .str b => some (a == b)
 | n + 1, .tup a, .tup b => eqL (veq n) a b
 | n + 1, .lst a, .lst b => eqL (veq n) a b
 | n + 1, .frz a, .lst b => eqL (veq n) a b
 | n + 1, .lst a, .frz b => eqL (veq n) a b
 | _ + 1, .frz _, .frz _ => none
 | _ + 1, _, _ => some false
noncomputable def truthy : V → Bool
 | .non => false
 | .bl b => b
 | .int i => i != 0
 | .str s => !s.isEmpty
 | .tup ds => !ds.isEmpty
 | .lst ds => !ds.isEmpty
 | .frz ds => !ds.isEmpty
noncomputable def mkL (l : List V) : Option V := if l.length ≤ big then some (.lst l) else none
noncomputable def mkT (l : List V) : Option V := if l.length ≤ big then some (.tup l) else none
noncomputable def bop : BOp → V → V → Option V
 | .add, .int i, .int j => some (.int (i + j))
 | .add, .str a, .str b => if a.length + b.length ≤ big then some (.str (a ++ b)) else none
 | .add, .tup a, .tup b => if a.length + b.length ≤ big then some (.tup (a ++ b)) else none
 | .add, .lst a, .lst b => mkL (a ++ b)
 | .sub, .int i, .int j => some (.int (i - j))
 | .mul, .int i, .int j => if mulOk i j then some (.int (i * j)) else none
 | .mul, .str a, .int k => if 0 ≤ k ∧ k ≤ 1000 ∧ a.length ≤ 1000 then some (.str (rep k.toNat a)) else none
 | .mul, .tup a, .int k => if 0 ≤ k ∧ k ≤ 1000 ∧ a.length ≤ 1000 then some (.tup (rep k.toNat a)) else none
 | .mul, .lst a, .int k => if 0 ≤ k ∧ k ≤ 1000 ∧ a.length ≤ 1000 then mkL (rep k.toNat a) else none
 | .fdiv, .int i, .int j => if 0 < j ∧ j < 1073741824 then some (.int (i / j)) else none
 | .mod, .int i, .int j => if 0 < j then some (.int (i % j)) else none
 | _, _, _ => none
noncomputable def cop (o : COp) (x y : V) : Option Bool := match o, x, y with
 | .eq, x, y => veq deep x y
 | .ne, x, y => (veq deep x y).map (!·)
 | .lt, .int i, .int j => some (decide (i < j))
 | .gt, .int i, .int j => some (decide (j < i))
 | _, _, _ => none
noncomputable def ixd (x y : V) : Option V := match x, y with
 | .tup ds, .int i => atI ds i
 | .str s, .int i => (atI s i).map fun c => .str [c]
 | .lst ds, .int i => atI ds i
 | .frz ds, .int i => atI ds i
 | _, _ => none
noncomputable def sld (x : V) (lo hi : Option Int) : Option V := match x with
 | .tup ds => some (.tup (cut ds lo hi))
 | .str s => some (.str (cut s lo hi))
 | .lst ds => mkL (cut ds lo hi)
 | .frz ds => mkL (cut ds lo hi)
 | _ => none
noncomputable def toT : V → Option V
 | .tup l => some (.tup l)
 | .lst l => mkT l
 | .frz l => mkT l
 | _ => none
noncomputable def boolsOf : List V → Option (List Bool)
 | [] => some []
 | .bl b :: ds => (boolsOf ds).map fun r => b :: r
 | _ => none
noncomputable def intsOf : List V → Option (List Int)
 | [] => some []
 | .int i :: ds => (intsOf ds).map fun r => i :: r
 | _ => none
noncomputable def strsOf : List V → Option (List (List Nat))
 | [] => some []
 | .str s :: ds => (strsOf ds).map fun r => s :: r
 | _ => none
noncomputable def lOf : V → Option (List V)
 | .lst l => some l
 | .frz l => some l
 | _ => none
noncomputable def bfn (b : BI) (xs : List V) : Option V := match b, xs with
 | .len, [.str s] => if s.length ≤ big then some (.int s.length) else none
 | .len, [.tup ds] => some (.int ds.length)
 | .len, [x] => (lOf x).map fun ds => .int ds.length
 | .sum, [x] => ((lOf x).bind intsOf).map fun is => .int is.sum
 | .min, [.int i, .int j] => some (.int (if j < i then j else i))
 | _, _ => none
noncomputable def mef (m : ME) (o : V) (xs : List V) : Option V := match m, o, xs with
 | .join, .str sep, [x] => ((lOf x).bind strsOf).bind fun ss => if (ss.map (·.length)).sum + ss.length * sep.length ≤ big then some (.str (joinS sep ss)) else none
 | _, _, _ => none
noncomputable def mtf (m : ME) (l : List V) (xs : List V) : Option (V × List V) := match m, xs with
 | .append, [x] => if l.length < big then some (.non, l ++ [x]) else none
 | .extend, [.lst es] => if l.length + es.length ≤ big then some (.non, l ++ es) else none
 | .pop, [] => match l[l.length - 1]? with
  | some x => some (x, l.dropLast)
  | none => none
 | _, _ => none
noncomputable def exK : ME → Bool
 | .extend => true
 | _ => false
noncomputable def isMut : ME → Bool
 | .append => true
 | .extend => true
 | .pop => true
 | _ => false
noncomputable def flatV : V → Bool
 | .non => true
 | .bl _ => true
 | .int _ => true
 | .str _ => true
 | _ => false
noncomputable def lookL (x : V) : List (D × D) → Option V
 | [] => none
 | (k, v) :: r => match (ofD k).bind fun k' => veq 1 k' x with
  | some true => ofD v
  | some false => lookL x r
  | none => none
noncomputable def lookD (x : V) (kvs : List (D × D)) : Option V := if flatV x then lookL x kvs else none
noncomputable def seqOf : V → Option (List V)
 | .tup ds => some ds
 | .str s => some (s.map fun c => .str [c])
 | .lst ds => some ds
 | .frz ds => some ds
 | _ => none
noncomputable def tupV : V → Option (List V)
 | .tup ds => some ds
 | _ => none
noncomputable def range (lo : Int) (n : Nat) : List V := (List.range n).map fun (i : Nat) => .int (lo + i)
noncomputable def rngOf : List V → Option (List V)
 | [.int j] => if -(2 ^ 62) ≤ j ∧ j < 2 ^ 62 then some (range 0 j.toNat) else none
 | [.int i, .int j] => if -(2 ^ 62) ≤ i ∧ i < 2 ^ 62 ∧ -(2 ^ 62) ≤ j ∧ j < 2 ^ 62 then some (range i (j - i).toNat) else none
 | _ => none
noncomputable def enumD : Int → List V → List V
 | _, [] => []
 | k, x :: xs => .tup [.int k, x] :: enumD (k + 1) xs
noncomputable def put (fr : Fr) (i : Nat) (s : Sl) : Option Fr := match fr[i]? with
 | some (some (.bor _)) => none
 | some (some (.ro _)) => none
 | _ => some (fr.set i (some s))
noncomputable def setAll : List Nat → List V → Fr → Option Fr
 | [], [], fr => some fr
 | i :: is, d :: ds, fr => (put fr i (.val d)).bind (setAll is ds)
 | _, _, _ => none
noncomputable def bindT : T → V → Fr → Option Fr
 | .one i, d, fr => put fr i (.val d)
 | .many l, .tup ds, fr => setAll l ds fr
 | _, _, _ => none
noncomputable def undef (t : T) (fr : Fr) : Bool := (slots t).all fun i => (fr[i]?.join).isNone
noncomputable def Sl.read : Sl → Sl
 | .own l => .ro l
 | .bor l => .ro l
 | s => s
noncomputable def roF (fr : Fr) : Fr := fr.map (Option.map Sl.read)
noncomputable def Sl.shut : Sl → Sl
 | .own l => .val (.lst l)
 | s => s
noncomputable def shutF (fr : Fr) : Fr := fr.map (Option.map Sl.shut)
noncomputable def Sl.walk : Sl → Sl
 | .own l => .val (.lst l)
 | .bor l => .ro l
 | s => s
noncomputable def walkF (is : List Nat) (fr : Fr) : Fr := is.foldl (fun fr i => match fr[i]? with
 | some (some s) => fr.set i (some s.walk)
 | _ => fr) fr
noncomputable def Sl.out : Sl → Option (List V)
 | .bor l => some l
 | .ro l => some l
 | _ => none
noncomputable def Sl.lend : Sl → Option Sl
 | .own l => some (.bor l)
 | .bor l => some (.bor l)
 | .ro l => some (.ro l)
 | .val _ => none
noncomputable def lent (fr : Fr) (i : Nat) : Option Sl := match fr[i]? with
 | some (some s) => s.lend
 | _ => none
noncomputable def Sl.with : Sl → List V → Sl
 | .own _, l => .own l
 | .bor _, l => .bor l
 | s, _ => s
noncomputable def back : List Nat → List (List V) → Fr → Option Fr
 | [], [], fr => some fr
 | i :: is, l :: ls, fr => match fr[i]? with
  | some (some s) => back is ls (fr.set i (some (s.with l)))
  | _ => none
 | _, _, _ => none
noncomputable def compL (f : V → Option (Option V)) : List V → Option (List V)
 | [] => some []
 | d :: ds => (f d).bind fun o => (compL f ds).bind fun r => some (o.toList ++ r)
noncomputable def forL (f : V → Fr → R Fl) : List V → Fr → R Fl
 | [], fr => .ok .nx fr
 | d :: ds, fr => (f d fr).bind fun p fr1 => match p with
   | .nx => forL f ds fr1
   | .ct => forL f ds fr1
   | .bk => .ok .nx fr1
   | .ret x => .ok (.ret x) fr1
noncomputable def whlL (t : Fr → R Bool) (f : Fr → R Fl) : Nat → Fr → R Fl
 | 0, _ => .bad
 | n + 1, fr => (t fr).bind fun b fr1 => if b then (f fr1).bind fun p fr2 => match p with
   | .nx => whlL t f n fr2
   | .ct => whlL t f n fr2
   | .bk => .ok .nx fr2
   | .ret x => .ok (.ret x) fr2
  else .ok .nx fr1
noncomputable def dvs : Es → List Nat
 | .nil => []
 | .cons (.v i) es => i :: dvs es
 | .cons _ es => dvs es
noncomputable def mvs (m : ME) : E → List Nat
 | .v i => if isMut m then [i] else []
 | _ => []
mutual
noncomputable def tch : E → List Nat
 | .c _ => [] | .v _ => [] | .tup es => tchs es | .lst es => tchs es
 | .bin _ a b => tch a ++ tch b | .cmp _ a b => tch a ++ tch b
 | .nt a => tch a | .neg a => tch a | .an a b => tch a ++ tch b | .orr a b => tch a ++ tch b | .ife t a b => tch t ++ (tch a ++ tch b)
 | .ix a b => tch a ++ tch b | .sl a lo hi => tch a ++ (tcho lo ++ tcho hi)
 | .cl _ es => tchs es ++ dvs es | .bi _ es => tchs es | .me m o es => tch o ++ (tchs es ++ mvs m o)
 | .comp _ _ it _ => tchi it
 | .lof it => tchi it
 | .dget _ a => tch a
 | .ttp a => tch a
noncomputable def tchs : Es → List Nat
 | .nil => []
 | .cons e es => tch e ++ tchs es
noncomputable def tcho : Eo → List Nat
 | .no => []
 | .yes e => tch e
noncomputable def tchi : It → List Nat
 | .seq e => tch e | .rng es => tchs es
 | .enum a => tch a | .rev a => tch a
end
noncomputable def kf (a : E) (l : List Nat) : Bool := match a with
 | .v i => !l.contains i
 | _ => l.isEmpty
noncomputable def itv : It → List Nat
 | .seq (.v i) => [i]
 | .enum (.v i) => [i]
 | .rev (.v i) => [i]
 | _ => []
abbrev Phi := Nat → List Sl → Option (V × List (List V))
noncomputable def intOf : V → Option Int
 | .int i => some i
 | _ => none
noncomputable def getV (k : Bool) (fr : Fr) (i : Nat) : Option V := match fr[i]? with
 | some (some (.val v)) => some v
 | some (some (.own l)) => if k then some (.lst l) else none
 | some (some (.bor l)) => if k then some (.lst l) else none
 | some (some (.ro l)) => if k then some (.lst l) else none
 | _ => none
noncomputable def getS (k : Bool) (fr : Fr) (i : Nat) : Option V := match fr[i]? with
 | some (some (.ro l)) => some (.lst l)
 | _ => getV k fr i
noncomputable def src (k : Bool) (fr : Fr) (e : E) (r : R V) : R V := match e with
 | .v i => R.of (getS k fr i) fr
 | _ => r
noncomputable def isV (fr : Fr) : E → Option Nat
 | .v i => if (lent fr i).isSome then some i else none
 | _ => none
noncomputable def args (fr : Fr) : List (Nat ⊕ V) → Option (List Sl)
 | [] => some []
 | .inl i :: r => (lent fr i).bind fun s => (args fr r).map fun l => s :: l
 | .inr v :: r => (args fr r).map fun l => .val v :: l
noncomputable def lefts : List (Nat ⊕ V) → List Nat
 | [] => []
 | .inl i :: r => i :: lefts r
 | .inr _ :: r => lefts r
noncomputable def callF (P : Phi) (f : Nat) (as : List (Nat ⊕ V)) (fr : Fr) : R V :=
 if (lefts as).Nodup then match args fr as with
  | some sl => match P f sl with
   | some (v, outs) => R.of ((back (lefts as) outs fr).map fun fr1 => (v, fr1)) fr |>.bind fun p _ => .ok p.1 p.2
   | none => .bad
  | none => .bad
 else .bad
mutual
noncomputable def ev (P : Phi) : Bool → E → Fr → R V
 | _, .c d, fr => R.of (ofD d) fr
 | k, .v i, fr => R.of (getV k fr i) fr
 | _, .tup es, fr => (evs P false es fr).bind fun ds fr1 => R.of (mkT ds) fr1
 | _, .lst es, fr => (evs P false es fr).bind fun ds fr1 => R.of (mkL ds) fr1
 | _, .bin o a b, fr => (ev P (kf a (tch b)) a fr).bind fun x fr1 => (ev P true b fr1).bind fun y fr2 => R.of (bop o x y) fr2
 | _, .cmp o a b, fr => (ev P (kf a (tch b)) a fr).bind fun x fr1 => (ev P true b fr1).bind fun y fr2 => R.of ((cop o x y).map .bl) fr2
 | _, .nt a, fr => (ev P true a fr).bind fun x fr1 => match x with
   | .bl b => .ok (.bl (!b)) fr1
   | _ => .bad
 | _, .neg a, fr => (ev P true a fr).bind fun x fr1 => match x with
   | .int i => .ok (.int (-i)) fr1
   | _ => .bad
 | k, .an a b, fr => (ev P true a fr).bind fun x fr1 => match x with
   | .bl true => ev P k b fr1
   | .bl false => .ok (.bl false) fr1
   | _ => .bad
 | k, .orr a b, fr => (ev P true a fr).bind fun x fr1 => match x with
   | .bl true => .ok (.bl true) fr1
   | .bl false => ev P k b fr1
   | _ => .bad
 | k, .ife t a b, fr => (evT P t fr).bind fun c fr1 => if c then ev P k a fr1 else ev P k b fr1
 | _, .ix a b, fr => (ev P (kf a (tch b)) a fr).bind fun x fr1 => (ev P true b fr1).bind fun y fr2 => R.of (ixd x y) fr2
 | _, .sl a lo hi, fr => (ev P (kf a (tcho lo ++ tcho hi)) a fr).bind fun x fr1 => (evo P lo fr1).bind fun l fr2 => (evo P hi fr2).bind fun u fr3 => R.of (sld x l u) fr3
 | _, .cl f es, fr => (evA P es fr).bind fun as fr1 => callF P f as fr1
 | _, .bi b es, fr => (evs P true es fr).bind fun ds fr1 => R.of (bfn b ds) fr1
 | _, .me m o es, fr => if isMut m then match isV fr o with
   | some i => (evs P (exK m) es fr).bind fun ds fr1 => match fr1[i]? with
    | some (some (.own l)) => match mtf m l ds with
     | some (v, l') => .ok v (fr1.set i (some (.own l')))
     | none => .bad
    | some (some (.bor l)) => match mtf m l ds with
     | some (v, l') => .ok v (fr1.set i (some (.bor l')))
     | none => .bad
    | _ => .bad
   | none => .bad
  else (ev P (kf o (tchs es)) o fr).bind fun x fr1 => (evs P true es fr1).bind fun ds fr2 => R.of (mef m x ds) fr2
 | _, .comp elt t it cond, fr => (evi P true it fr).bind fun s fr1 => if undef t fr1 then
   R.of ((compL (fun d => match bindT t d (roF fr1) with
    | none => none
    | some fr2 => match evc P cond fr2 with
     | .ok c _ => if c then (match ev P false elt fr2 with | .ok x _ => some (some x) | .bad => none) else some none
     | .bad => none) s).bind mkL) fr1 else .bad
 | _, .lof it, fr => (evi P true it fr).bind fun s fr1 => R.of (mkL s) fr1
 | _, .dget kvs a, fr => (ev P true a fr).bind fun x fr1 => R.of (lookD x kvs) fr1
 | _, .ttp a, fr => (ev P true a fr).bind fun x fr1 => R.of (toT x) fr1
termination_by _ e => (sizeOf e, 0)
noncomputable def evs (P : Phi) : Bool → Es → Fr → R (List V)
 | _, .nil, fr => .ok [] fr
 | k, .cons e es, fr => (ev P (k && kf e (tchs es)) e fr).bind fun d fr1 => (evs P k es fr1).bind fun ds fr2 => .ok (d :: ds) fr2
termination_by _ e => (sizeOf e, 0)
noncomputable def evA (P : Phi) : Es → Fr → R (List (Nat ⊕ V))
 | .nil, fr => .ok [] fr
 | .cons e es, fr => match isV fr e with
   | some i => (evA P es fr).bind fun r fr1 => .ok (.inl i :: r) fr1
   | none => (ev P false e fr).bind fun d fr1 => (evA P es fr1).bind fun r fr2 => .ok (.inr d :: r) fr2
termination_by e => (sizeOf e, 0)
noncomputable def evo (P : Phi) : Eo → Fr → R (Option Int)
 | .no, fr => .ok none fr
 | .yes e, fr => (ev P true e fr).bind fun d fr1 => R.of ((intOf d).map some) fr1
termination_by e => (sizeOf e, 0)
noncomputable def evc (P : Phi) : Eo → Fr → R Bool
 | .no, fr => .ok true fr
 | .yes e, fr => evT P e fr
termination_by e => (sizeOf e, 0)
noncomputable def evT (P : Phi) : E → Fr → R Bool
 | .an a b, fr => (evT P a fr).bind fun k fr1 => if k then evT P b fr1 else .ok false fr1
 | .orr a b, fr => (evT P a fr).bind fun k fr1 => if k then .ok true fr1 else evT P b fr1
 | .nt a, fr => (evT P a fr).bind fun k fr1 => .ok (!k) fr1
 | e, fr => (ev P true e fr).bind fun x fr1 => .ok (truthy x) fr1
termination_by e => (sizeOf e, 1)
noncomputable def evi (P : Phi) : Bool → It → Fr → R (List V)
 | k, .seq e, fr => (src k fr e (ev P k e fr)).bind fun x fr1 => R.of (seqOf x) fr1
 | _, .rng es, fr => (evs P true es fr).bind fun ds fr1 => R.of (rngOf ds) fr1
 | k, .enum a, fr => (src k fr a (ev P k a fr)).bind fun x fr1 => R.of ((lOf x).map fun s => enumD 0 s) fr1
 | _, .rev a, fr => (ev P true a fr).bind fun x fr1 => R.of ((tupV x).map fun s => s.reverse) fr1
termination_by _ e => (sizeOf e, 0)
end
noncomputable def isNew : E → Bool
 | .lst _ => true
 | .lof _ => true
 | _ => false
mutual
noncomputable def ex (P : Phi) (w : Nat) : S → Fr → R Fl
 | .set i e, fr => (ev P false e fr).bind fun x fr1 => if isNew e then (match x with
   | .lst l => (R.of (put fr1 i (.own l)) fr1).bind fun fr2 _ => .ok .nx fr2
   | _ => .bad)
  else (R.of (put fr1 i (.val x)) fr1).bind fun fr2 _ => .ok .nx fr2
 | .setT l e, fr => (ev P false e fr).bind fun x fr1 => (R.of (bindT (.many l) x fr1) fr1).bind fun fr2 _ => .ok .nx fr2
 | .exp e, fr => (ev P true e fr).bind fun _ fr1 => .ok .nx fr1
 | .ret e, fr => (ev P false e (shutF fr)).bind fun x fr1 => .ok (.ret x) fr1
 | .iff t a b, fr => (evT P t fr).bind fun k fr1 => if k then exs P w a fr1 else exs P w b fr1
 | .for t it b, fr => (evi P false it (walkF (itv it) fr)).bind fun s fr1 => forL (fun d fr2 => match bindT t d fr2 with
   | some fr3 => exs P w b fr3
   | none => .bad) s fr1
 | .whl t b, fr => whlL (fun fr2 => evT P t fr2) (fun fr2 => exs P w b fr2) w fr
 | .nev, _ => .bad
noncomputable def exs (P : Phi) (w : Nat) : Ss → Fr → R Fl
 | .nil, fr => .ok .nx fr
 | .cons s ss, fr => (ex P w s fr).bind fun p fr1 => match p with
   | .nx => exs P w ss fr1
   | p => .ok p fr1
end
noncomputable def fr0 (fn : Fn) (ds : List Sl) : Fr := ds.map some ++ List.replicate (fn.ns - fn.np) none
noncomputable def outs (np : Nat) (fr : Fr) : List (List V) := (fr.take np).filterMap fun o => o.bind Sl.out
noncomputable def run (F : List Fn) (w : Nat) : Nat → Phi
 | 0, _, _ => none
 | n + 1, f, ds => match F[f]? with
  | some fn => if ds.length = fn.np then match exs (run F w n) w fn.body (fr0 fn ds) with
    | .ok (.ret v) fr => some (v, outs fn.np fr)
    | .ok .nx fr => some (.non, outs fn.np fr)
    | _ => none
   else none
  | none => none
end Pv
namespace Pv
open Ev (D O Hh BOp COp TY BI ME T E Es Eo It S Ss Fn big deep b2i rep mulOk ixN atI sIx cut joinS sortS slots lstOf)
section
variable (h : Hh) (S : Nat → Prop)
mutual
noncomputable def Rep : V → D → Prop
 | .non, d => d = .non
 | .bl b, d => d = .bl b
 | .int i, d => d = .int i
 | .str s, d => d = .str s
 | .tup l, d => ∃ ds, d = .tup ds ∧ RepL l ds
 | .lst l, d => ∃ n ds, d = .ref n ∧ S n ∧ h[n]? = some (.lst ds) ∧ RepL l ds
 | .frz l, d => ∃ n ds, d = .ref n ∧ S n ∧ h[n]? = some (.frz ds) ∧ RepL l ds
noncomputable def RepL : List V → List D → Prop
 | [], ds => ds = []
 | v :: vs, ds => ∃ d es, ds = d :: es ∧ Rep v d ∧ RepL vs es
end
noncomputable def RepT : V → D → Prop
 | .lst l, d => ∃ n ds, d = .ref n ∧ h[n]? = some (.lst ds) ∧ RepL h S l ds
 | v, d => Rep h S v d
noncomputable def RepTL : List V → List D → Prop
 | [], ds => ds = []
 | v :: vs, ds => ∃ d es, ds = d :: es ∧ RepT h S v d ∧ RepTL vs es
end
abbrev U : Nat → Prop := fun _ => True
section
variable {h h' : Hh} {S S' : Nat → Prop}
mutual
theorem Rep.mono (f : ∀ m, S m → h'[m]? = h[m]?) (g : ∀ m, S m → S' m) : ∀ {v : V} {d : D}, Rep h S v d → Rep h' S' v d
 | .non, _, q => q
 | .bl _, _, q => q
 | .int _, _, q => q
 | .str _, _, q => q
 | .tup l, _, ⟨ds, a, b⟩ => ⟨ds, a, RepL.mono f g b⟩
 | .lst l, _, ⟨n, ds, a, b, c, e⟩ => ⟨n, ds, a, g n b, by rw [f n b]; exact c, RepL.mono f g e⟩
 | .frz l, _, ⟨n, ds, a, b, c, e⟩ => ⟨n, ds, a, g n b, by rw [f n b]; exact c, RepL.mono f g e⟩
theorem RepL.mono (f : ∀ m, S m → h'[m]? = h[m]?) (g : ∀ m, S m → S' m) : ∀ {v : List V} {d : List D}, RepL h S v d → RepL h' S' v d
 | [], _, q => q
 | _ :: _, _, ⟨d, es, a, b, c⟩ => ⟨d, es, a, Rep.mono f g b, RepL.mono f g c⟩
end
theorem RepL.nil : RepL h S [] [] := by simp [RepL]
theorem RepL.cons {v : V} {d : D} {vs : List V} {ds : List D} (a : Rep h S v d) (b : RepL h S vs ds) : RepL h S (v :: vs) (d :: ds) := by simp only [RepL]; exact ⟨d, ds, rfl, a, b⟩
theorem Rep.top {v : V} {d : D} (q : Rep h S v d) : RepT h S v d := by
 cases v <;> first | exact q | (obtain ⟨n, ds, a, b, c, e⟩ := q; exact ⟨n, ds, a, c, e⟩)
theorem RepT.u {v : V} {d : D} (q : RepT h S v d) : Rep h U v d := by
 cases v with
 | lst l => obtain ⟨n, ds, a, b, c⟩ := q; exact ⟨n, ds, a, trivial, b, c.mono (fun _ _ => rfl) fun _ _ => trivial⟩
 | _ => exact Rep.mono (S := S) (fun _ _ => rfl) (fun _ _ => trivial) q
theorem RepL.u {v : List V} {d : List D} (q : RepL h S v d) : RepL h U v d := q.mono (fun _ _ => rfl) fun _ _ => trivial
theorem RepT.mono {v : V} {d : D} (f : ∀ m, m < h.length → h'[m]? = h[m]?) (k : ∀ m, S m → m < h.length) (g : ∀ m, S m → S' m) (q : RepT h S v d) : RepT h' S' v d := by
 cases v with
 | lst l =>
  obtain ⟨n, ds, a, b, c⟩ := q
  exact ⟨n, ds, a, by rw [f n (List.getElem?_eq_some_iff.mp b).1]; exact b, c.mono (fun m z => f m (k m z)) g⟩
 | _ => exact Rep.mono (fun m z => f m (k m z)) g q
theorem RepL.length : ∀ {v : List V} {d : List D}, RepL h S v d → v.length = d.length
 | [], _, q => by simp only [RepL] at q; subst q; rfl
 | _ :: _, _, q => by simp only [RepL] at q; obtain ⟨d, es, rfl, _, c⟩ := q; simp [c.length]
theorem RepL.get : ∀ {v : List V} {d : List D} {i : Nat} {x : V}, RepL h S v d → v[i]? = some x → ∃ y, d[i]? = some y ∧ Rep h S x y
 | [], _, _, _, _, e => by simp at e
 | _ :: _, _, 0, _, q, e => by
  simp only [RepL] at q
  obtain ⟨d, es, rfl, b, _⟩ := q
  simp at e; subst e
  exact ⟨d, by simp, b⟩
 | _ :: _, _, i + 1, _, q, e => by
  simp only [RepL] at q
  obtain ⟨d, es, rfl, _, c⟩ := q
  obtain ⟨y, a, b⟩ := c.get (i := i) (by simpa using e)
  exact ⟨y, by simpa using a, b⟩
theorem RepL.append : ∀ {v w : List V} {d e : List D}, RepL h S v d → RepL h S w e → RepL h S (v ++ w) (d ++ e)
 | [], _, _, _, a, b => by simp only [RepL] at a; subst a; simpa using b
 | _ :: _, _, _, _, a, b => by
  simp only [RepL] at a
  obtain ⟨d, es, rfl, x, y⟩ := a
  exact .cons x (y.append b)
theorem RepL.take : ∀ {v : List V} {d : List D} (n : Nat), RepL h S v d → RepL h S (v.take n) (d.take n)
 | _, _, 0, _ => by simp [RepL]
 | [], _, _ + 1, a => by simp only [RepL] at a; subst a; simp [RepL]
 | _ :: _, _, n + 1, a => by
  simp only [RepL] at a
  obtain ⟨d, es, rfl, x, y⟩ := a
  simp only [List.take_succ_cons]
  exact .cons x (y.take n)
theorem RepL.drop : ∀ {v : List V} {d : List D} (n : Nat), RepL h S v d → RepL h S (v.drop n) (d.drop n)
 | _, _, 0, a => by simpa using a
 | [], _, _ + 1, a => by simp only [RepL] at a; subst a; simp [RepL]
 | _ :: _, _, n + 1, a => by
  simp only [RepL] at a
  obtain ⟨d, es, rfl, x, y⟩ := a
  simp only [List.drop_succ_cons]
  exact y.drop n
theorem RepL.dropLast : ∀ {v : List V} {d : List D}, RepL h S v d → RepL h S v.dropLast d.dropLast := fun {v d} a => by
 rw [List.dropLast_eq_take, List.dropLast_eq_take, a.length]; exact a.take _
theorem RepL.reverse : ∀ {v : List V} {d : List D}, RepL h S v d → RepL h S v.reverse d.reverse
 | [], _, a => by simp only [RepL] at a; subst a; simp [RepL]
 | _ :: _, _, a => by
  simp only [RepL] at a
  obtain ⟨d, es, rfl, x, y⟩ := a
  simp only [List.reverse_cons]
  exact y.reverse.append (.cons x .nil)
theorem RepL.rep {v : List V} {d : List D} (a : RepL h S v d) : ∀ k : Nat, RepL h S (Ev.rep k v) (Ev.rep k d)
 | 0 => by simp [Ev.rep, RepL]
 | k + 1 => by
  have z := RepL.rep a k
  simp only [Ev.rep, List.replicate_succ, List.flatten_cons] at z ⊢
  exact a.append z
theorem RepL.cut {v : List V} {d : List D} (a : RepL h S v d) (lo hi : Option Int) : RepL h S (Ev.cut v lo hi) (Ev.cut d lo hi) := by
 unfold Ev.cut
 rw [a.length]
 exact (a.drop _).take _
theorem RepL.map {α : Type} {f : α → V} {g : α → D} (q : ∀ a, Rep h S (f a) (g a)) : ∀ l : List α, RepL h S (l.map f) (l.map g)
 | [] => .nil
 | _ :: l => .cons (q _) (RepL.map q l)
mutual
theorem Rep.uniq : ∀ {v w : V} {d : D}, Rep h U v d → Rep h U w d → v = w
 | .non, w, _, a, b => by simp only [Rep] at a; subst a; cases w <;> simp [Rep] at b <;> rfl
 | .bl _, w, _, a, b => by simp only [Rep] at a; subst a; cases w <;> simp [Rep] at b <;> rw [b]
 | .int _, w, _, a, b => by simp only [Rep] at a; subst a; cases w <;> simp [Rep] at b <;> rw [b]
 | .str _, w, _, a, b => by simp only [Rep] at a; subst a; cases w <;> simp [Rep] at b <;> rw [b]
 | .tup l, w, _, a, b => by
  simp only [Rep] at a; obtain ⟨ds, rfl, a⟩ := a
  cases w <;> simp [Rep] at b
  rw [RepL.uniq a b]
 | .lst l, w, _, a, b => by
  simp only [Rep] at a; obtain ⟨n, ds, rfl, _, a1, a⟩ := a
  cases w <;> simp [Rep] at b
  ·obtain ⟨ds', b1, b⟩ := b
   rw [a1] at b1; cases b1
   rw [RepL.uniq a b]
  ·obtain ⟨ds', b1, b⟩ := b
   rw [a1] at b1; cases b1
 | .frz l, w, _, a, b => by
  simp only [Rep] at a; obtain ⟨n, ds, rfl, _, a1, a⟩ := a
  cases w <;> simp [Rep] at b
  ·obtain ⟨ds', b1, b⟩ := b
   rw [a1] at b1; cases b1
  ·obtain ⟨ds', b1, b⟩ := b
   rw [a1] at b1; cases b1
   rw [RepL.uniq a b]
theorem RepL.uniq : ∀ {v w : List V} {d : List D}, RepL h U v d → RepL h U w d → v = w
 | [], w, _, a, b => by simp only [RepL] at a; subst a; cases w <;> simp [RepL] at b; rfl
 | x :: xs, w, _, a, b => by
  simp only [RepL] at a; obtain ⟨d, es, rfl, a1, a2⟩ := a
  cases w <;> simp only [RepL] at b
  ·cases b
  obtain ⟨d', es', e, b1, b2⟩ := b
  cases e
  rw [Rep.uniq a1 b1, RepL.uniq a2 b2]
end
theorem eqL_refl {n : Nat} (f : ∀ v b, veq n v v = some b → b = true) : ∀ l b, eqL (veq n) l l = some b → b = true
 | [], b, e => by simp [eqL] at e; exact e
 | x :: xs, b, e => by
  simp only [eqL, Option.bind_eq_some_iff] at e
  obtain ⟨c, e1, c2, e2, e⟩ := e
  rw [f x c e1, eqL_refl f xs c2 e2] at e
  simpa using e.symm
theorem veq_refl : ∀ n v b, veq n v v = some b → b = true
 | 0, _, _, e => by cases e
 | n + 1, v, b, e => by
  cases v <;> first | exact eqL_refl (veq_refl n) _ _ e | (cases e <;> first | rfl | exact beq_self_eq_true _)
theorem eqL_ok {n : Nat} (f : ∀ {v w : V} {d e : D} {b}, veq n v w = some b → Rep h U v d → Rep h U w e → Ev.deq h n d e = some b) : ∀ {l m : List V} {ds es : List D} {b}, eqL (veq n) l m = some b → RepL h U l ds → RepL h U m es → Ev.eqL (Ev.deq h n) ds es = some b
 | [], [], _, _, b, e, p, q => by simp only [RepL] at p q; subst p q; simpa [eqL, Ev.eqL] using e
 | [], _ :: _, _, _, b, e, p, q => by simp only [RepL] at p q; subst p; obtain ⟨_, _, rfl, _⟩ := q; simpa [eqL, Ev.eqL] using e
 | _ :: _, [], _, _, b, e, p, q => by simp only [RepL] at p q; subst q; obtain ⟨_, _, rfl, _⟩ := p; simpa [eqL, Ev.eqL] using e
 | x :: xs, y :: ys, _, _, b, e, p, q => by
  simp only [RepL] at p q
  obtain ⟨d, ds, rfl, p1, p2⟩ := p
  obtain ⟨d', ds', rfl, q1, q2⟩ := q
  simp only [eqL, Option.bind_eq_some_iff] at e
  obtain ⟨c, e1, c2, e2, e⟩ := e
  simp [Ev.eqL, f e1 p1 q1, eqL_ok f e2 p2 q2]
  simpa using e
theorem lo_l {n : Nat} {ds : List D} (q : h[n]? = some (.lst ds)) : lstOf h n = some ds := by simp [lstOf, q]
theorem lo_f {n : Nat} {ds : List D} (q : h[n]? = some (.frz ds)) : lstOf h n = some ds := by simp [lstOf, q]
theorem veq_ok : ∀ (n : Nat) {v w : V} {d e : D} {b}, veq n v w = some b → Rep h U v d → Rep h U w e → Ev.deq h n d e = some b
  | 0, _, _, _, _, _, e, _, _ => by cases e
  | n + 1, v, w, d, e, b, x, p, q => by
    by_cases hr : ∃ m, d = .ref m ∧ e = .ref m
    · obtain ⟨m, rfl, rfl⟩ := hr
      have hvw := p.uniq q
      subst hvw
      have hb := veq_refl _ _ _ x
      subst hb
      cases v <;> simp [Rep] at p
      · obtain ⟨ds, p1, p2⟩ := p; show Ev.deqR _ _ _ _ = _; rw [Ev.deqR, if_pos rfl, lo_l p1]; rfl
      · obtain ⟨ds, p1, p2⟩ := p; show Ev.deqR _ _ _ _ = _; rw [Ev.deqR, if_pos rfl, lo_f p1]; rfl
    · cases v <;> cases w <;> simp only [Rep] at p q <;>
      first
      | (subst p; subst q; exact x)
      | (obtain ⟨ds, rfl, p⟩ := p; subst q; exact x)
      | (obtain ⟨ds, rfl, q⟩ := q; subst p; exact x)
      | (obtain ⟨ds, rfl, p⟩ := p; obtain ⟨es, rfl, q⟩ := q; exact eqL_ok (fun a b c => veq_ok n a b c) x p q)
      | (cases x; done)
      | (obtain ⟨m, ds, rfl, _, p1, p⟩ := p; obtain ⟨k, es, rfl, _, q1, q⟩ := q
         have hne : m ≠ k := fun z => hr ⟨m, rfl, by rw [z]⟩
         show Ev.deqR _ _ _ _ = _
         rw [Ev.deqR, if_neg hne, p1, q1]; exact eqL_ok (fun a b c => veq_ok n a b c) x p q)
      | (cases x; obtain ⟨m, ds, rfl, _, p1, p⟩ := p; subst q; exact congrArg (Option.map fun _ => false) (lo_l p1))
      | (cases x; obtain ⟨m, ds, rfl, _, p1, p⟩ := p; subst q; exact congrArg (Option.map fun _ => false) (lo_f p1))
      | (cases x; obtain ⟨m, ds, rfl, _, p1, p⟩ := p; obtain ⟨es, rfl, q⟩ := q; exact congrArg (Option.map fun _ => false) (lo_l p1))
      | (cases x; obtain ⟨m, ds, rfl, _, p1, p⟩ := p; obtain ⟨es, rfl, q⟩ := q; exact congrArg (Option.map fun _ => false) (lo_f p1))
      | (cases x; obtain ⟨m, ds, rfl, _, q1, q⟩ := q; subst p; exact congrArg (Option.map fun _ => false) (lo_l q1))
      | (cases x; obtain ⟨m, ds, rfl, _, q1, q⟩ := q; subst p; exact congrArg (Option.map fun _ => false) (lo_f q1))
      | (cases x; obtain ⟨m, ds, rfl, _, q1, q⟩ := q; obtain ⟨es, rfl, p⟩ := p; exact congrArg (Option.map fun _ => false) (lo_l q1))
      | (cases x; obtain ⟨m, ds, rfl, _, q1, q⟩ := q; obtain ⟨es, rfl, p⟩ := p; exact congrArg (Option.map fun _ => false) (lo_f q1))
end
end Pv
namespace Pv
open Ev (D O Hh BOp COp TY BI ME T E Es Eo It S Ss Fn big deep b2i rep mulOk ixN atI sIx cut joinS sortS slots lstOf)
structure Al (h : Hh) (S : Nat → Prop) (h' : Hh) (S' : Nat → Prop) : Prop where
 len : h.length ≤ h'.length
 keep : ∀ m, m < h.length → h'[m]? = h[m]?
 sub : ∀ m, S m → S' m
 new : ∀ m, S' m → S m ∨ (h.length ≤ m ∧ m < h'.length)
section
variable {h h' : Hh} {S S' : Nat → Prop}
theorem Al.refl : Al h S h S := ⟨Nat.le_refl _, fun _ _ => rfl, fun _ q => q, fun _ q => .inl q⟩
theorem Al.snoc (o : O) : Al h S (h ++ [o]) (fun m => S m ∨ m = h.length) where
 len := by simp
 keep := fun m q => by rw [List.getElem?_append_left q]
 sub := fun _ q => .inl q
 new := fun m q => by
  rcases q with q | q
  ·exact .inl q
  ·subst q; exact .inr ⟨Nat.le_refl _, by simp⟩
theorem mkL_ok {l : List V} {v : V} {ds : List D} (w : ∀ m, S m → m < h.length) (e : mkL l = some v) (q : RepL h S l ds) : ∃ r h' S', Ev.alloc ds h = .ok r h' ∧ Rep h' S' v r ∧ Al h S h' S' := by
 unfold mkL at e
 split at e
 ·rename_i z
  cases e
  refine ⟨.ref h.length, h ++ [.lst ds], fun m => S m ∨ m = h.length, by unfold Ev.alloc; rw [if_pos (by rw [← q.length]; exact z)], ?_, Al.snoc _⟩
  simp only [Rep]
  refine ⟨h.length, ds, rfl, .inr rfl, by simp, q.mono (fun m z => ?_) fun _ z => .inl z⟩
  rw [List.getElem?_append_left (w m z)]
 ·cases e
theorem lOf_ok {v : V} {l : List V} {d : D} (e : lOf v = some l) (q : RepT h S v d) : ∃ n ds, d = .ref n ∧ lstOf h n = some ds ∧ RepL h S l ds := by
 cases v <;> simp [lOf] at e
 ·subst e; simp only [RepT] at q; obtain ⟨n, ds, rfl, a, b⟩ := q; exact ⟨n, ds, rfl, lo_l a, b⟩
 ·subst e; simp only [RepT, Rep] at q; obtain ⟨n, ds, rfl, _, a, b⟩ := q; exact ⟨n, ds, rfl, lo_f a, b⟩
mutual
theorem ofD_ok : ∀ {d : D} {v : V}, ofD d = some v → Rep h S v d
 | .non, _, e => by simp [ofD] at e; subst e; simp [Rep]
 | .bl _, _, e => by simp [ofD] at e; subst e; simp [Rep]
 | .int _, _, e => by simp [ofD] at e; subst e; simp [Rep]
 | .str _, _, e => by simp [ofD] at e; subst e; simp [Rep]
 | .ref _, _, e => by simp [ofD] at e
 | .tup ds, _, e => by
  simp [ofD] at e
  obtain ⟨vs, e, rfl⟩ := e
  exact ⟨ds, rfl, ofDs_ok e⟩
theorem ofDs_ok : ∀ {d : List D} {v : List V}, ofDs d = some v → RepL h S v d
 | [], _, e => by simp [ofDs] at e; subst e; exact .nil
 | d :: ds, _, e => by
  simp only [ofDs, Option.bind_eq_some_iff, Option.map_eq_some_iff] at e
  obtain ⟨v, e1, vs, e2, rfl⟩ := e
  exact .cons (ofD_ok e1) (ofDs_ok e2)
end
theorem RepL.emp {l : List V} {ds : List D} (q : RepL h S l ds) : ds.isEmpty = l.isEmpty := by
 have := q.length
 cases l <;> cases ds <;> simp at this ⊢
theorem truthy_ok {v : V} {d : D} (q : RepT h S v d) : Ev.truthy h d = some (truthy v) := by
 cases v <;> simp only [RepT, Rep] at q
 ·subst q; rfl
 ·subst q; rfl
 ·subst q; rfl
 ·subst q; rfl
 ·obtain ⟨ds, rfl, q⟩ := q; simp only [Ev.truthy, truthy, q.emp]
 ·obtain ⟨n, ds, rfl, a, q⟩ := q; simp only [Ev.truthy, truthy, lo_l a, Option.map, q.emp]
 ·obtain ⟨n, ds, rfl, _, a, q⟩ := q; simp only [Ev.truthy, truthy, lo_f a, Option.map, q.emp]
theorem nn {α : Type} {v : α} {p : Prop} (z : none = some v) : p := Option.noConfusion rfl (heq_of_eq z)
theorem bop_ok {o : BOp} {x y v : V} {d e : D} (w : ∀ m, S m → m < h.length) (z : bop o x y = some v) (p : RepT h S x d) (q : RepT h S y e) : ∃ r h' S', Ev.bop o d e h = .ok r h' ∧ Rep h' S' v r ∧ Al h S h' S' := by
 cases o <;> cases x <;> first | exact nn z | (cases y <;> first | exact nn z | skip)
 all_goals (delta bop at z; dsimp only at z; simp only [RepT, Rep] at p q)
 ·subst p q; cases z; exact ⟨_, _, S, rfl, rfl, .refl⟩
 ·subst p q; split at z
  ·rename_i k; cases z; exact ⟨_, _, S, by delta Ev.bop; dsimp only; rw [if_pos k], rfl, .refl⟩
  ·cases z
 ·obtain ⟨ds, rfl, p⟩ := p; obtain ⟨es, rfl, q⟩ := q; split at z
  ·rename_i k; cases z; exact ⟨_, _, S, by delta Ev.bop; dsimp only; rw [if_pos (by rw [← p.length, ← q.length]; exact k)], ⟨_, rfl, p.append q⟩, .refl⟩
  ·cases z
 ·obtain ⟨n, ds, rfl, a, p⟩ := p; obtain ⟨m, es, rfl, b, q⟩ := q
  delta Ev.bop; dsimp only; simp only [a, b]
  exact mkL_ok w z (p.append q)
 ·subst p q; cases z; exact ⟨_, _, S, rfl, rfl, .refl⟩
 ·subst p q; split at z
  ·rename_i k; cases z; exact ⟨_, _, S, by delta Ev.bop; dsimp only; rw [if_pos k], rfl, .refl⟩
  ·cases z
 ·subst p q; split at z
  ·rename_i k; cases z; exact ⟨_, _, S, by delta Ev.bop; dsimp only; rw [if_pos k], rfl, .refl⟩
  ·cases z
 ·obtain ⟨ds, rfl, p⟩ := p; subst q; split at z
  ·rename_i k; cases z; exact ⟨_, _, S, by delta Ev.bop; dsimp only; rw [if_pos (by rw [← p.length]; exact k)], ⟨_, rfl, p.rep _⟩, .refl⟩
  ·cases z
 ·obtain ⟨n, ds, rfl, a, p⟩ := p; subst q; split at z
  ·rename_i k
   delta Ev.bop; dsimp only; simp only [a]
   rw [if_pos (by rw [← p.length]; exact k)]
   exact mkL_ok w z (p.rep _)
  ·cases z
 ·subst p q; split at z
  ·rename_i k; cases z; exact ⟨_, _, S, by delta Ev.bop; dsimp only; rw [if_pos k], rfl, .refl⟩
  ·cases z
 ·subst p q; split at z
  ·rename_i k; cases z; exact ⟨_, _, S, by delta Ev.bop; dsimp only; rw [if_pos k], rfl, .refl⟩
  ·cases z
theorem cop_ok {o : COp} {x y : V} {d e : D} {b : Bool} (z : cop o x y = some b) (p : Rep h U x d) (q : Rep h U y e) : Ev.cop o d e h = some b := by
 cases o
 case eq => delta cop at z; dsimp only at z; delta Ev.cop; dsimp only; exact veq_ok deep z p q
 case ne =>
  delta cop at z; dsimp only at z; simp only [Option.map_eq_some_iff] at z; obtain ⟨c, z, rfl⟩ := z
  delta Ev.cop; dsimp only; simp only [veq_ok deep z p q]; rfl
 all_goals (
  cases x <;> first | exact nn z | (cases y <;> first | exact nn z | skip)
  simp only [Rep] at p q; subst p q; exact z)
theorem at_ok {l : List V} {ds : List D} {i : Int} {v : V} (e : atI l i = some v) (q : RepL h S l ds) : ∃ d, atI ds i = some d ∧ Rep h S v d := by
 unfold atI at e ⊢
 rw [q.length] at e
 cases z : ixN ds.length i with
 | none => rw [z] at e; cases e
 | some j => rw [z] at e; exact q.get e
theorem ixd_ok {x y v : V} {d e : D} (z : ixd x y = some v) (p : RepT h S x d) (q : RepT h S y e) : ∃ r, Ev.ixd d e h = some r ∧ Rep h S v r := by
 cases x <;> cases y <;> simp only [ixd, reduceCtorEq] at z <;> simp only [RepT, Rep] at p q
 ·subst p q
  simp only [Option.map_eq_some_iff] at z
  obtain ⟨c, z, rfl⟩ := z
  exact ⟨.str [c], by simp [Ev.ixd, z], rfl⟩
 ·obtain ⟨ds, rfl, p⟩ := p; subst q; simpa [Ev.ixd] using at_ok z p
 ·obtain ⟨n, ds, rfl, a, p⟩ := p; subst q; simpa [Ev.ixd, lo_l a] using at_ok z p
 ·obtain ⟨n, ds, rfl, _, a, p⟩ := p; subst q; simpa [Ev.ixd, lo_f a] using at_ok z p
theorem sld_ok {x v : V} {d : D} {lo hi : Option Int} (w : ∀ m, S m → m < h.length) (z : sld x lo hi = some v) (p : RepT h S x d) : ∃ r h' S', Ev.sld d lo hi h = .ok r h' ∧ Rep h' S' v r ∧ Al h S h' S' := by
 cases x <;> simp only [sld, reduceCtorEq] at z <;> simp only [RepT, Rep] at p
 ·subst p; cases z; exact ⟨_, _, S, rfl, rfl, .refl⟩
 ·obtain ⟨ds, rfl, p⟩ := p; cases z; exact ⟨_, _, S, rfl, ⟨_, rfl, p.cut _ _⟩, .refl⟩
 ·obtain ⟨n, ds, rfl, a, p⟩ := p; simp only [Ev.sld, lo_l a]; exact mkL_ok w z (p.cut _ _)
 ·obtain ⟨n, ds, rfl, _, a, p⟩ := p; simp only [Ev.sld, lo_f a]; exact mkL_ok w z (p.cut _ _)
theorem toT_ok {x v : V} {d : D} (z : toT x = some v) (p : RepT h S x d) : ∃ r, Ev.tofD d h = .ok r h ∧ Rep h S v r := by
 cases x <;> simp only [toT, reduceCtorEq] at z <;> simp only [RepT, Rep] at p
 ·obtain ⟨ds, rfl, p⟩ := p; cases z; exact ⟨_, rfl, ⟨_, rfl, p⟩⟩
 ·obtain ⟨n, ds, rfl, a, p⟩ := p
  unfold mkT at z
  split at z
  ·rename_i k; cases z
   refine ⟨.tup ds, ?_, ⟨_, rfl, p⟩⟩
   simp only [Ev.tofD, lo_l a]; rw [if_pos (by rw [← p.length]; exact k)]
  ·cases z
 ·obtain ⟨n, ds, rfl, _, a, p⟩ := p
  unfold mkT at z
  split at z
  ·rename_i k; cases z
   refine ⟨.tup ds, ?_, ⟨_, rfl, p⟩⟩
   simp only [Ev.tofD, lo_f a]; rw [if_pos (by rw [← p.length]; exact k)]
  ·cases z
theorem lstS_ok {x : V} {l : List V} {d : D} (z : lOf x = some l) (p : RepT h S x d) : ∃ s, Ev.lstS h d = some s ∧ RepL h S l s.1 ∧ (∀ q ∈ s.2, d = .ref q.1 ∧ lstOf h q.1 = some q.2) := by
 obtain ⟨n, ds, rfl, a, q⟩ := lOf_ok z p
 exact ⟨(ds, [(n, ds)]), by simp [Ev.lstS, a], q, by simp [a]⟩
theorem bools_ok : ∀ {l : List V} {ds : List D} {bs}, boolsOf l = some bs → RepL h S l ds → Ev.boolsOf ds = some bs
 | [], _, _, e, q => by simp only [RepL] at q; subst q; exact e
 | x :: xs, _, bs, e, q => by
  cases x <;> simp only [boolsOf, reduceCtorEq, Option.map_eq_some_iff] at e
  obtain ⟨r, e, rfl⟩ := e
  simp only [RepL, Rep] at q
  obtain ⟨_, ds, rfl, rfl, q⟩ := q
  simp [Ev.boolsOf, bools_ok e q]
theorem ints_ok : ∀ {l : List V} {ds : List D} {bs}, intsOf l = some bs → RepL h S l ds → Ev.intsOf ds = some bs
 | [], _, _, e, q => by simp only [RepL] at q; subst q; exact e
 | x :: xs, _, bs, e, q => by
  cases x <;> simp only [intsOf, reduceCtorEq, Option.map_eq_some_iff] at e
  obtain ⟨r, e, rfl⟩ := e
  simp only [RepL, Rep] at q
  obtain ⟨_, ds, rfl, rfl, q⟩ := q
  simp [Ev.intsOf, ints_ok e q]
theorem strs_ok : ∀ {l : List V} {ds : List D} {bs}, strsOf l = some bs → RepL h S l ds → Ev.strsOf ds = some bs
 | [], _, _, e, q => by simp only [RepL] at q; subst q; exact e
 | x :: xs, _, bs, e, q => by
  cases x <;> simp only [strsOf, reduceCtorEq, Option.map_eq_some_iff] at e
  obtain ⟨r, e, rfl⟩ := e
  simp only [RepL, Rep] at q
  obtain ⟨_, ds, rfl, rfl, q⟩ := q
  simp [Ev.strsOf, strs_ok e q]
theorem RepTL.one {v : V} {ds : List D} (q : RepTL h S [v] ds) : ∃ d, ds = [d] ∧ RepT h S v d := by
 simp only [RepTL] at q
 obtain ⟨d, es, rfl, a, rfl⟩ := q
 exact ⟨d, rfl, a⟩
theorem bfn_ok {b : BI} {xs : List V} {v : V} {ds : List D} (w : ∀ m, S m → m < h.length) (z : bfn b xs = some v) (p : RepTL h S xs ds) : ∃ r h' S', Ev.bfn b ds h = .ok r h' ∧ Rep h' S' v r ∧ Al h S h' S' := by
 delta bfn at z
 rcases xs with _ | ⟨x, _ | ⟨y, _ | ⟨u, xs⟩⟩⟩
 ·cases b <;> exact nn z
 ·obtain ⟨d, rfl, p1⟩ := p.one
  cases b
  case len =>
   cases x
   case str s =>
    dsimp only at z; simp only [RepT, Rep] at p1; subst p1
    split at z
    ·rename_i k; cases z; exact ⟨_, _, S, by delta Ev.bfn; dsimp only; rw [if_pos k], rfl, .refl⟩
    ·cases z
   case tup l =>
    dsimp only at z; simp only [RepT, Rep] at p1; obtain ⟨es, rfl, p2⟩ := p1
    cases z; exact ⟨_, _, S, rfl, by simp [Rep, p2.length], .refl⟩
   all_goals
    dsimp only at z
    simp only [Option.map_eq_some_iff] at z; obtain ⟨l, z, rfl⟩ := z
    obtain ⟨n, es, rfl, a, q⟩ := lOf_ok z p1
    exact ⟨.int es.length, h, S, by delta Ev.bfn; dsimp only; simp [a], by simp [Rep, q.length], .refl⟩
  case sum =>
   dsimp only at z
   simp only [Option.map_eq_some_iff, Option.bind_eq_some_iff] at z; obtain ⟨bs, ⟨l, z, z2⟩, rfl⟩ := z
   obtain ⟨n, es, rfl, a, q⟩ := lOf_ok z p1
   exact ⟨_, _, S, by delta Ev.bfn; dsimp only; simp only [a, Option.bind, ints_ok z2 q]; rfl, rfl, .refl⟩
  case min => cases x <;> exact nn z
 ·cases b
  case min =>
   cases x
   case int i =>
    cases y
    case int j =>
     dsimp only at z
     simp only [RepTL, RepT, Rep] at p; obtain ⟨_, _, rfl, rfl, _, _, rfl, rfl, rfl⟩ := p
     cases z; exact ⟨_, _, S, rfl, rfl, .refl⟩
    all_goals exact nn z
   all_goals exact nn z
  case len => cases x <;> exact nn z
  all_goals exact nn z
 ·cases b
  case min => cases x <;> (try cases y) <;> exact nn z
  case len => cases x <;> exact nn z
  all_goals exact nn z
theorem mef_ok {m : ME} {o : V} {xs : List V} {v : V} {d : D} {ds : List D} (z : mef m o xs = some v) (hm : isMut m = false) (po : RepT h S o d) (p : RepTL h S xs ds) : Ev.rcv m d h = true ∧ ∃ r, Ev.mef m d ds h = .ok r h ∧ Rep h S v r := by
 unfold mef at z
 split at z
 ·obtain ⟨d, rfl, p1⟩ := p.one; simp only [RepT, Rep] at po; subst po
  simp only [Option.bind_eq_some_iff] at z; obtain ⟨ss, ⟨l, z, z2⟩, z3⟩ := z
  obtain ⟨n, es, rfl, a, q⟩ := lOf_ok z p1
  split at z3
  ·rename_i k; cases z3
   refine ⟨rfl, _, ?_, rfl⟩
   delta Ev.mef; dsimp only; simp only [a, Option.bind, strs_ok z2 q]
   rw [if_pos k]
  ·cases z3
 ·cases z
theorem flat_ok {x : V} {d : D} (f : flatV x = true) (p : Rep h U x d) : Rep [] U x d := by
 cases x <;> simp only [flatV, Bool.false_eq_true] at f <;> exact p
theorem lookD_ok {x : V} {d : D} (p : Rep h U x d) : ∀ {kvs : List (D × D)} {v : V}, lookD x kvs = some v → ∃ r, Ev.lookD d kvs = some r ∧ Rep h S v r := by
 intro kvs v z
 unfold lookD at z
 split at z
 ·rename_i f
  have p' := flat_ok f p
  induction kvs with
  | nil => cases z
  | cons kv r ih =>
   obtain ⟨k, u⟩ := kv
   simp only [lookL] at z
   simp only [Ev.lookD]
   split at z
   ·rename_i y
    simp only [Option.bind_eq_some_iff] at y
    obtain ⟨k', y1, y2⟩ := y
    rw [veq_ok 1 y2 (ofD_ok y1) p']
    exact ⟨u, rfl, ofD_ok z⟩
   ·rename_i y
    simp only [Option.bind_eq_some_iff] at y
    obtain ⟨k', y1, y2⟩ := y
    rw [veq_ok 1 y2 (ofD_ok y1) p']
    exact ih z
   ·cases z
 ·cases z
theorem seqOf_ok {x : V} {l : List V} {d : D} (z : seqOf x = some l) (p : RepT h S x d) : ∃ s, Ev.seqOf h d = some s ∧ RepL h S l s.1 ∧ (∀ q ∈ s.2, d = .ref q.1 ∧ lstOf h q.1 = some q.2) := by
 cases x <;> simp only [seqOf, reduceCtorEq] at z <;> simp only [RepT, Rep] at p
 ·subst p; cases z; exact ⟨_, rfl, RepL.map (f := fun c => V.str [c]) (g := fun c => D.str [c]) (fun _ => by simp [Rep]) _, by simp⟩
 ·obtain ⟨ds, rfl, p⟩ := p; cases z; exact ⟨_, rfl, p, by simp⟩
 ·obtain ⟨n, ds, rfl, a, p⟩ := p; cases z; exact ⟨(ds, [(n, ds)]), by simp [Ev.seqOf, lo_l a], p, by simp [lo_l a]⟩
 ·obtain ⟨n, ds, rfl, _, a, p⟩ := p; cases z; exact ⟨(ds, [(n, ds)]), by simp [Ev.seqOf, lo_f a], p, by simp [lo_f a]⟩
theorem range_ok (lo : Int) (n : Nat) : RepL h S (range lo n) (Ev.range lo n) := RepL.map (f := fun (i : Nat) => V.int (lo + i)) (g := fun (i : Nat) => D.int (lo + i)) (fun _ => by simp [Rep]) _
theorem rng_ok {xs l : List V} {ds : List D} (z : rngOf xs = some l) (p : RepTL h S xs ds) : ∃ s, Ev.rngOf ds = some (s, []) ∧ RepL h S l s := by
 unfold rngOf at z
 split at z
 ·obtain ⟨d, rfl, p1⟩ := p.one; simp only [RepT, Rep] at p1; subst p1
  split at z
  ·rename_i k; cases z; exact ⟨_, by simp only [Ev.rngOf]; rw [if_pos k], range_ok _ _⟩
  ·cases z
 ·simp only [RepTL, RepT, Rep] at p; obtain ⟨_, _, rfl, rfl, _, _, rfl, rfl, rfl⟩ := p
  split at z
  ·rename_i k; cases z; exact ⟨_, by simp only [Ev.rngOf]; rw [if_pos k], range_ok _ _⟩
  ·cases z
 ·cases z
theorem enum_ok : ∀ {a : List V} {ds : List D} (k : Int), RepL h S a ds → RepL h S (enumD k a) (Ev.enumD k ds)
 | [], _, _, p => by simp only [RepL] at p; subst p; simp [enumD, Ev.enumD, RepL]
 | x :: xs, _, k, p => by
  simp only [RepL] at p
  obtain ⟨d, ds, rfl, p1, p2⟩ := p
  simp only [enumD, Ev.enumD]
  exact .cons ⟨_, rfl, .cons rfl (.cons p1 .nil)⟩ (enum_ok _ p2)
end
end Pv
namespace Pv
open Ev (D O Hh BOp COp TY BI ME T E Es Eo It S Ss Fn big deep b2i rep mulOk ixN atI sIx cut joinS sortS slots lstOf)
noncomputable def SlR (M B : Nat → Prop) (h : Hh) (S : Nat → Prop) : Option Sl → Option D → Prop
 | none, p => p = none
 | some (.val v), p => ∃ d, p = some d ∧ Rep h S v d
 | some (.own l), p => ∃ m ds, p = some (.ref m) ∧ (M m ∧ ¬ B m) ∧ h[m]? = some (.lst ds) ∧ RepL h S l ds
 | some (.bor l), p => ∃ m ds, p = some (.ref m) ∧ (M m ∧ B m) ∧ h[m]? = some (.lst ds) ∧ RepL h S l ds
 | some (.ro l), p => ∃ m ds, p = some (.ref m) ∧ ¬ M m ∧ h[m]? = some (.lst ds) ∧ RepL h S l ds
noncomputable def isM : Option Sl → Bool
 | some (.own _) => true
 | some (.bor _) => true
 | _ => false
noncomputable def lkS : Option Sl → Bool
 | some (.bor _) => true
 | some (.ro _) => true
 | _ => false
noncomputable def locked (fr : Fr) (i : Nat) : Bool := match fr[i]? with
 | some o => lkS o
 | none => false
structure FrR (M B : Nat → Prop) (h : Hh) (S : Nat → Prop) (fr : Fr) (fr' : Ev.Fr) : Prop where
 wS : ∀ m, S m → m < h.length ∧ ¬ M m ∧ ¬ B m
 wM : ∀ m, M m → m < h.length
 wB : ∀ m, B m → m < h.length
 len : fr.length = fr'.length
 sl : ∀ (i : Nat) o p, fr[i]? = some o → fr'[i]? = some p → SlR M B h S o p
 inj : ∀ (i j : Nat) o o' m, fr[i]? = some o → fr[j]? = some o' → isM o = true → isM o' = true → fr'[i]? = some (some (.ref m)) → fr'[j]? = some (some (.ref m)) → i = j
structure Tk (X : Nat → Prop) (h : Hh) (S : Nat → Prop) (h' : Hh) (S' : Nat → Prop) : Prop where
 len : h.length ≤ h'.length
 keep : ∀ m, m < h.length → ¬ X m → h'[m]? = h[m]?
 sub : ∀ m, S m → S' m
 new : ∀ m, S' m → S m ∨ (h.length ≤ m ∧ m < h'.length)
noncomputable def Xs (M : Nat → Prop) (fr' : Ev.Fr) (l : List Nat) : Nat → Prop := fun m => M m ∧ ∃ i ∈ l, fr'[i]? = some (some (.ref m))
structure Out (M B : Nat → Prop) (c : List Nat) (h : Hh) (S : Nat → Prop) (fr : Fr) (fr' : Ev.Fr) (h' : Hh) (S' : Nat → Prop) (fr1 : Fr) : Prop where
 f : FrR M B h' S' fr1 fr'
 tr : Tk (Xs M fr' c) h S h' S'
 lk : ∀ i, locked fr1 i = locked fr i
section
variable {M B M' : Nat → Prop} {h h' h1 h2 : Hh} {S S' S1 S2 : Nat → Prop} {fr fr1 fr2 : Fr} {fr' : Ev.Fr} {c c1 c2 : List Nat} {v : V} {d : D} {X X1 X2 : Nat → Prop}
theorem FrR.get (f : FrR M B h S fr fr') {i : Nat} {o : Option Sl} (e : fr[i]? = some o) : ∃ p, fr'[i]? = some p ∧ SlR M B h S o p := by
 have h1 := (List.getElem?_eq_some_iff.mp e).1
 rw [f.len] at h1
 exact ⟨fr'[i], List.getElem?_eq_getElem h1, f.sl i o _ e (List.getElem?_eq_getElem h1)⟩
theorem FrR.w (f : FrR M B h S fr fr') : ∀ m, S m → m < h.length := fun m q => (f.wS m q).1
theorem Al.tr (a : Al h S h' S') : Tk X h S h' S' := ⟨a.len, fun m q _ => a.keep m q, a.sub, a.new⟩
theorem Tk.al (t : Tk X h S h' S') (z : ∀ m, ¬ X m) : Al h S h' S' := ⟨t.len, fun m q => t.keep m q (z m), t.sub, t.new⟩
theorem Tk.weak (t : Tk X h S h' S') (q : ∀ m, X m → X1 m) : Tk X1 h S h' S' := ⟨t.len, fun m k z => t.keep m k fun y => z (q m y), t.sub, t.new⟩
theorem Tk.trans (a : Tk X1 h S h1 S1) (b : Tk X2 h1 S1 h2 S2) : Tk (fun m => X1 m ∨ X2 m) h S h2 S2 where
 len := Nat.le_trans a.len b.len
 keep := fun m q z => by rw [b.keep m (Nat.lt_of_lt_of_le q a.len) (fun y => z (.inr y)), a.keep m q (fun y => z (.inl y))]
 sub := fun m q => b.sub m (a.sub m q)
 new := fun m q => by
  rcases b.new m q with q | ⟨q1, q2⟩
  ·rcases a.new m q with q | ⟨q1, q2⟩
   ·exact .inl q
   ·exact .inr ⟨q1, Nat.lt_of_lt_of_le q2 b.len⟩
  ·exact .inr ⟨Nat.le_trans a.len q1, q2⟩
theorem Al.trans (a : Al h S h1 S1) (b : Al h1 S1 h2 S2) : Al h S h2 S2 := ((a.tr (X := fun _ => False)).trans (b.tr (X := fun _ => False))).al fun m z => by simp at z
theorem Tk.refl : Tk X h S h S := ⟨Nat.le_refl _, fun _ _ _ => rfl, fun _ q => q, fun _ q => .inl q⟩
theorem Xs.app {l1 l2 : List Nat} {m : Nat} : Xs M fr' (l1 ++ l2) m ↔ Xs M fr' l1 m ∨ Xs M fr' l2 m := by
 unfold Xs
 constructor
 ·rintro ⟨a, i, hi, e⟩
  rcases List.mem_append.mp hi with hi | hi
  ·exact .inl ⟨a, i, hi, e⟩
  ·exact .inr ⟨a, i, hi, e⟩
 ·rintro (⟨a, i, hi, e⟩ | ⟨a, i, hi, e⟩)
  ·exact ⟨a, i, List.mem_append.mpr (.inl hi), e⟩
  ·exact ⟨a, i, List.mem_append.mpr (.inr hi), e⟩
theorem Xs.nil {m : Nat} : ¬ Xs M fr' [] m := by rintro ⟨_, i, hi, _⟩; simp at hi
theorem Xs.mono {l1 l2 : List Nat} (q : ∀ i ∈ l1, i ∈ l2) {m : Nat} : Xs M fr' l1 m → Xs M fr' l2 m := fun ⟨a, i, hi, e⟩ => ⟨a, i, q i hi, e⟩
theorem Rep.tr (q : Rep h S v d) (f : FrR M B h S fr fr') (t : Tk (Xs M fr' c) h S h' S') : Rep h' S' v d := q.mono (fun m z => t.keep m (f.wS m z).1 (fun y => (f.wS m z).2.1 y.1)) t.sub
theorem RepL.tr {l : List V} {ds : List D} (q : RepL h S l ds) (f : FrR M B h S fr fr') (t : Tk (Xs M fr' c) h S h' S') : RepL h' S' l ds := q.mono (fun m z => t.keep m (f.wS m z).1 (fun y => (f.wS m z).2.1 y.1)) t.sub
theorem RepT.tr (q : RepT h S v d) (f : FrR M B h S fr fr') (t : Tk X h S h' S') (z : ∀ m, ¬ X m) : RepT h' S' v d := q.mono (fun m k => t.keep m k (z m)) f.w t.sub
theorem SlR.al {o : Option Sl} {p : Option D} (q : SlR M B h S o p) (w : ∀ m, S m → m < h.length) (a : Al h S h' S') : SlR M B h' S' o p := by
 have k : ∀ m, S m → h'[m]? = h[m]? := fun m z => a.keep m (w m z)
 have g : ∀ (m : Nat) (ds : List D), h[m]? = some (O.lst ds) → h'[m]? = some (O.lst ds) := fun m ds z => by rw [a.keep m (List.getElem?_eq_some_iff.mp z).1]; exact z
 rcases o with _ | s
 ·exact q
 ·cases s with
  | val v => obtain ⟨d, e, q⟩ := q; exact ⟨d, e, q.mono k a.sub⟩
  | own l => obtain ⟨m, ds, e, z, y, q⟩ := q; exact ⟨m, ds, e, z, g m ds y, q.mono k a.sub⟩
  | bor l => obtain ⟨m, ds, e, z, y, q⟩ := q; exact ⟨m, ds, e, z, g m ds y, q.mono k a.sub⟩
  | ro l => obtain ⟨m, ds, e, z, y, q⟩ := q; exact ⟨m, ds, e, z, g m ds y, q.mono k a.sub⟩
theorem FrR.al (f : FrR M B h S fr fr') (a : Al h S h' S') : FrR M B h' S' fr fr' where
 wS := fun m q => by
  rcases a.new m q with q | ⟨q1, q2⟩
  ·exact ⟨Nat.lt_of_lt_of_le (f.wS m q).1 a.len, (f.wS m q).2⟩
  ·exact ⟨q2, fun z => by have := f.wM m z; omega, fun z => by have := f.wB m z; omega⟩
 wM := fun m q => Nat.lt_of_lt_of_le (f.wM m q) a.len
 wB := fun m q => Nat.lt_of_lt_of_le (f.wB m q) a.len
 len := f.len
 sl := fun i o p e1 e2 => (f.sl i o p e1 e2).al f.w a
 inj := f.inj
theorem Out.refl (f : FrR M B h S fr fr') : Out M B c h S fr fr' h S fr := ⟨f, .refl, fun _ => rfl⟩
theorem Out.trans (a : Out M B c1 h S fr fr' h1 S1 fr1) (b : Out M B c2 h1 S1 fr1 fr' h2 S2 fr2) : Out M B (c1 ++ c2) h S fr fr' h2 S2 fr2 := ⟨b.f, (a.tr.trans b.tr).weak fun m z => Xs.app.mpr z, fun i => (b.lk i).trans (a.lk i)⟩
theorem Out.al (a : Out M B c h S fr fr' h1 S1 fr1) (b : Al h1 S1 h2 S2) : Out M B c h S fr fr' h2 S2 fr1 := ⟨a.f.al b, (a.tr.trans (b.tr (X := fun _ => False))).weak (fun m z => by rcases z with z | z; exact z; exact z.elim), a.lk⟩
theorem Out.weak (a : Out M B c h S fr fr' h1 S1 fr1) (q : ∀ i ∈ c, i ∈ c1) : Out M B c1 h S fr fr' h1 S1 fr1 := ⟨a.f, a.tr.weak fun m z => Xs.mono q z, a.lk⟩
noncomputable def RepK (k : Bool) (h : Hh) (S : Nat → Prop) (v : V) (d : D) : Prop := if k = true then RepT h S v d else Rep h S v d
theorem RepK.of {k : Bool} (q : Rep h S v d) : RepK k h S v d := by unfold RepK; split; exact q.top; exact q
theorem RepK.t {k : Bool} (q : RepK k h S v d) : RepT h S v d := by unfold RepK at q; split at q; exact q; exact q.top
theorem RepK.n (q : RepK false h S v d) : Rep h S v d := by simpa [RepK] using q
theorem FrR.slot (f : FrR M B h S fr fr') {i m : Nat} (e : fr'[i]? = some (some (.ref m))) (hm : M m) : ∃ o, fr[i]? = some o ∧ isM o = true := by
 have hl : i < fr.length := by rw [f.len]; exact (List.getElem?_eq_some_iff.mp e).1
 refine ⟨fr[i], List.getElem?_eq_getElem hl, ?_⟩
 have s := f.sl i _ _ (List.getElem?_eq_getElem hl) e
 revert s
 generalize fr[i] = o
 intro s
 rcases o with _ | s'
 ·cases s
 ·cases s' with
  | own l => rfl
  | bor l => rfl
  | ro l => obtain ⟨m', ds, e, y, _⟩ := s; cases e; exact absurd hm y
  | val v =>
   obtain ⟨d, e, q⟩ := s
   cases e
   exfalso
   cases v <;> simp only [Rep, reduceCtorEq] at q
   ·obtain ⟨_, e, _⟩ := q; cases e
   ·obtain ⟨n, ds, e, sn, _⟩ := q; cases e; exact (f.wS _ sn).2.1 hm
   ·obtain ⟨n, ds, e, sn, _⟩ := q; cases e; exact (f.wS _ sn).2.1 hm
theorem RepK.tr {k : Bool} {a : E} (q : RepK k h S v d) (f : FrR M B h S fr fr') (t : Tk (Xs M fr' c) h S h' S') (hk : k = true → kf a c = true) (ha : ∀ i, a = .v i → fr'[i]?.join = some d) : RepK k h' S' v d := by
 unfold RepK at q ⊢
 split at q
 ·rename_i e
  rw [if_pos e]
  have hk := hk e
  have gen : c = [] → RepT h' S' v d := fun z => q.tr f t fun m y => by subst z; exact Xs.nil y
  by_cases hv : ∃ i, a = .v i
  ·obtain ⟨i0, rfl⟩ := hv
   simp only [kf, Bool.not_eq_true', List.contains_eq_mem, decide_eq_false_iff_not] at hk
   cases v
   case lst l =>
    simp only [RepT] at q ⊢
    obtain ⟨n, ds, rfl, b1, b2⟩ := q
    refine ⟨n, ds, rfl, ?_, b2.tr f t⟩
    rw [t.keep n (List.getElem?_eq_some_iff.mp b1).1 ?_]
    ·exact b1
    ·rintro ⟨mn, j, hj, ej⟩
     have e2 : fr'[i0]? = some (some (D.ref n)) := by
      have := ha i0 rfl
      cases z : fr'[i0]? with
      | none => rw [z] at this; cases this
      | some p => rw [z] at this; simp at this; rw [this]
     obtain ⟨o1, y1, y2⟩ := f.slot e2 mn
     obtain ⟨o2, y3, y4⟩ := f.slot ej mn
     have := f.inj i0 j o1 o2 n y1 y3 y2 y4 e2 ej
     subst this
     exact hk hj
   all_goals exact Rep.tr (show Rep h S _ d from q) f t
  ·have : kf a c = c.isEmpty := by
    cases a <;> first | rfl | exact absurd ⟨_, rfl⟩ hv
   rw [this, List.isEmpty_iff] at hk
   exact gen hk
 ·rename_i e
  rw [if_neg e]
  exact q.tr f t
theorem getV_ok {k : Bool} {i : Nat} (e : getV k fr i = some v) (f : FrR M B h S fr fr') : ∃ d, fr'[i]?.join = some d ∧ RepK k h S v d := by
  unfold getV at e
  split at e
  · rename_i z
    obtain ⟨p, e1, q⟩ := f.get z
    obtain ⟨d, rfl, q⟩ := q
    cases e
    exact ⟨d, by rw [e1]; rfl, .of q⟩
  all_goals first
    | (rename_i z
       obtain ⟨p, e1, q⟩ := f.get z
       obtain ⟨m, ds, rfl, _, y, q⟩ := q
       split at e
       · rename_i hk
         cases e
         exact ⟨.ref m, by rw [e1]; rfl, by unfold RepK; rw [if_pos hk]; exact ⟨m, ds, rfl, y, q⟩⟩
       · cases e)
    | cases e
theorem lent_ok {i : Nat} {s : Sl} (e : lent fr i = some s) (f : FrR M B h S fr fr') : ∃ m ds l o, fr[i]? = some o ∧ fr'[i]? = some (some (.ref m)) ∧ h[m]? = some (.lst ds) ∧ RepL h S l ds ∧ ((s = .bor l ∧ M m ∧ isM o = true) ∨ (s = .ro l ∧ ¬ M m ∧ o = some (.ro l))) := by
 unfold lent at e
 split at e
 ·rename_i s' z
  obtain ⟨p, e1, q⟩ := f.get z
  cases s' with
  | val v => simp [Sl.lend] at e
  | own l =>
   simp [Sl.lend] at e; subst e
   obtain ⟨m, ds, rfl, y, y1, q⟩ := q
   exact ⟨m, ds, l, _, z, e1, y1, q, .inl ⟨rfl, y.1, rfl⟩⟩
  | bor l =>
   simp [Sl.lend] at e; subst e
   obtain ⟨m, ds, rfl, y, y1, q⟩ := q
   exact ⟨m, ds, l, _, z, e1, y1, q, .inl ⟨rfl, y.1, rfl⟩⟩
  | ro l =>
   simp [Sl.lend] at e; subst e
   obtain ⟨m, ds, rfl, y, y1, q⟩ := q
   exact ⟨m, ds, l, _, z, e1, y1, q, .inr ⟨rfl, y, rfl⟩⟩
 ·cases e
noncomputable def AsR (h : Hh) (S : Nat → Prop) (fr' : Ev.Fr) : List (Nat ⊕ V) → List D → Prop
 | [], ds => ds = []
 | .inl i :: r, ds => ∃ d es, ds = d :: es ∧ fr'[i]? = some (some d) ∧ AsR h S fr' r es
 | .inr v :: r, ds => ∃ d es, ds = d :: es ∧ Rep h S v d ∧ AsR h S fr' r es
noncomputable def OutR (h : Hh) (S : Nat → Prop) : List Sl → List D → List (List V) → Prop
 | [], _, os => os = []
 | .val _ :: sl, ds, os => ∃ d es, ds = d :: es ∧ OutR h S sl es os
 | .own _ :: _, _, _ => False
 | _ :: sl, ds, os => ∃ d es l r m cs, ds = d :: es ∧ os = l :: r ∧ d = .ref m ∧ h[m]? = some (.lst cs) ∧ RepL h S l cs ∧ OutR h S sl es r
noncomputable def PhiOk (P : Phi) (P' : Ev.Phi) : Prop := ∀ f sl v os, P f sl = some (v, os) → ∀ (h : Hh) (S B : Nat → Prop) (ds : List D), FrR B B h S (sl.map some) (ds.map some) →
 ∃ d h' S', P' f ds h = .ok d h' ∧ Rep h' S' v d ∧ Tk B h S h' S' ∧ OutR h' S' sl ds os
theorem args_get (f : FrR M B h S fr fr') : ∀ {as : List (Nat ⊕ V)} {sl : List Sl} {ds : List D}, args fr as = some sl → AsR h S fr' as ds → sl.length = ds.length ∧ ∀ (a : Nat) s d, sl[a]? = some s → ds[a]? = some d →
  (∃ i, as[a]? = some (.inl i) ∧ lent fr i = some s ∧ fr'[i]? = some (some d)) ∨ (∃ v, s = .val v ∧ Rep h S v d)
 | [], sl, ds, e, q => by
  simp [args] at e; simp only [AsR] at q; subst e q; simp
 | .inl i :: r, sl, ds, e, q => by
  simp only [args, Option.bind_eq_some_iff, Option.map_eq_some_iff] at e
  obtain ⟨s, e1, l, e2, rfl⟩ := e
  obtain ⟨d, es, rfl, q1, q⟩ := q
  obtain ⟨h1, h2⟩ := args_get f e2 q
  refine ⟨by simp [h1], fun a s' d' z1 z2 => ?_⟩
  cases a with
  | zero => simp at z1 z2; subst z1 z2; exact .inl ⟨i, by simp, e1, q1⟩
  | succ a => exact (h2 a s' d' (by simpa using z1) (by simpa using z2)).imp (fun ⟨i, k, z⟩ => ⟨i, by simpa using k, z⟩) id
 | .inr v :: r, sl, ds, e, q => by
  simp only [args, Option.map_eq_some_iff] at e
  obtain ⟨l, e2, rfl⟩ := e
  obtain ⟨d, es, rfl, q1, q⟩ := q
  obtain ⟨h1, h2⟩ := args_get f e2 q
  refine ⟨by simp [h1], fun a s' d' z1 z2 => ?_⟩
  cases a with
  | zero => simp at z1 z2; subst z1 z2; exact .inr ⟨v, rfl, q1⟩
  | succ a => exact (h2 a s' d' (by simpa using z1) (by simpa using z2)).imp (fun ⟨i, k, z⟩ => ⟨i, by simpa using k, z⟩) id
theorem lefts_mem : ∀ {as : List (Nat ⊕ V)} {a i : Nat}, as[a]? = some (.inl i) → i ∈ lefts as
 | [], _, _, e => by simp at e
 | .inl j :: r, 0, i, e => by simp at e; subst e; simp [lefts]
 | .inr j :: r, 0, i, e => by simp at e
 | .inl j :: r, a + 1, i, e => by have := lefts_mem (as := r) (a := a) (i := i) (by simpa using e); simp [lefts, this]
 | .inr j :: r, a + 1, i, e => by have := lefts_mem (as := r) (a := a) (i := i) (by simpa using e); simp [lefts, this]
theorem lefts_inj : ∀ {as : List (Nat ⊕ V)} {a b i : Nat}, (lefts as).Nodup → as[a]? = some (.inl i) → as[b]? = some (.inl i) → a = b
 | [], _, _, _, _, e, _ => by simp at e
 | x :: r, 0, 0, _, _, _, _ => rfl
 | .inr j :: r, 0, b + 1, i, n, e, _ => by simp at e
 | .inl j :: r, 0, b + 1, i, n, e, e2 => by
  simp at e; subst e
  simp only [lefts, List.nodup_cons] at n
  exact absurd (lefts_mem (as := r) (a := b) (by simpa using e2)) n.1
 | .inr j :: r, a + 1, 0, i, n, _, e => by simp at e
 | .inl j :: r, a + 1, 0, i, n, e2, e => by
  simp at e; subst e
  simp only [lefts, List.nodup_cons] at n
  exact absurd (lefts_mem (as := r) (a := a) (by simpa using e2)) n.1
 | .inl j :: r, a + 1, b + 1, i, n, e1, e2 => by
  simp only [lefts, List.nodup_cons] at n
  have := lefts_inj (as := r) (a := a) (b := b) (i := i) n.2 (by simpa using e1) (by simpa using e2)
  omega
 | .inr j :: r, a + 1, b + 1, i, n, e1, e2 => by
  simp only [lefts] at n
  have := lefts_inj (as := r) (a := a) (b := b) (i := i) n (by simpa using e1) (by simpa using e2)
  omega
theorem with_isM {s : Sl} {l : List V} : isM (some (s.with l)) = isM (some s) := by cases s <;> rfl
theorem with_lk {s : Sl} {l : List V} : lkS (some (s.with l)) = lkS (some s) := by cases s <;> rfl
theorem back_get : ∀ {is : List Nat} {ls : List (List V)} {fr fr1 : Fr}, back is ls fr = some fr1 → is.Nodup → fr1.length = fr.length ∧ (∀ i, i ∉ is → fr1[i]? = fr[i]?) ∧ ∀ i ∈ is, ∃ (k : Nat) (s : Sl) (l : List V), is[k]? = some i ∧ ls[k]? = some l ∧ fr[i]? = some (some s) ∧ fr1[i]? = some (some (s.with l))
 | [], [], fr, fr1, e, _ => by simp [back] at e; subst e; simp
 | [], _ :: _, _, _, e, _ => by simp [back] at e
 | _ :: _, [], _, _, e, _ => by simp [back] at e
 | i :: is, l :: ls, fr, fr1, e, n => by
  simp only [back] at e
  simp only [List.nodup_cons] at n
  split at e
  ·rename_i s z
   obtain ⟨h1, h2, h3⟩ := back_get e n.2
   refine ⟨by simpa using h1, fun j hj => ?_, fun j hj => ?_⟩
   ·simp at hj
    rw [h2 j hj.2, List.getElem?_set_ne (fun q => hj.1 q.symm)]
   ·rcases List.mem_cons.mp hj with rfl | hj
    ·exact ⟨0, s, l, by simp, by simp, z, by rw [h2 j n.1, List.getElem?_set_self (List.getElem?_eq_some_iff.mp z).1]⟩
    ·obtain ⟨k, s', l', a, b, c, d⟩ := h3 j hj
     have hne : i ≠ j := fun q => n.1 (q ▸ hj)
     rw [List.getElem?_set_ne hne] at c
     exact ⟨k + 1, s', l', by simpa using a, by simpa using b, c, d⟩
  ·cases e
theorem outR_left (f : FrR M B h S fr fr') : ∀ {as : List (Nat ⊕ V)} {sl : List Sl} {ds : List D} {os : List (List V)}, args fr as = some sl → AsR h S fr' as ds → OutR h' S' sl ds os →
  ∀ (k i : Nat) l, (lefts as)[k]? = some i → os[k]? = some l → ∃ m cs, fr'[i]? = some (some (.ref m)) ∧ h'[m]? = some (.lst cs) ∧ RepL h' S' l cs
 | [], sl, ds, os, e, q, o => by simp [lefts]
 | .inl i :: r, sl, ds, os, e, q, o => by
  simp only [args, Option.bind_eq_some_iff, Option.map_eq_some_iff] at e
  obtain ⟨s, e1, l, e2, rfl⟩ := e
  obtain ⟨d, es, rfl, q1, q⟩ := q
  obtain ⟨m, cs, l0, o0, _, z2, z3, z4, z5⟩ := lent_ok e1 f
  have key : ∃ l1 r1 cs, os = l1 :: r1 ∧ h'[m]? = some (.lst cs) ∧ RepL h' S' l1 cs ∧ OutR h' S' l es r1 := by
   rw [q1] at z2; cases z2
   rcases z5 with ⟨rfl, _⟩ | ⟨rfl, _⟩
   ·obtain ⟨d', es', l1, r1, m1, cs1, a1, a2, a3, a4, a5, a6⟩ := o
    cases a1; cases a3
    exact ⟨l1, r1, cs1, a2, a4, a5, a6⟩
   ·obtain ⟨d', es', l1, r1, m1, cs1, a1, a2, a3, a4, a5, a6⟩ := o
    cases a1; cases a3
    exact ⟨l1, r1, cs1, a2, a4, a5, a6⟩
  obtain ⟨l1, r1, cs1, rfl, a4, a5, a6⟩ := key
  intro k j l' y1 y2
  cases k with
  | zero => simp [lefts] at y1 y2; subst y1 y2; exact ⟨m, cs1, z2, a4, a5⟩
  | succ k => exact outR_left f e2 q a6 k j l' (by simpa [lefts] using y1) (by simpa using y2)
 | .inr v :: r, sl, ds, os, e, q, o => by
  simp only [args, Option.map_eq_some_iff] at e
  obtain ⟨l, e2, rfl⟩ := e
  obtain ⟨d, es, rfl, q1, q⟩ := q
  obtain ⟨d', es', a1, a2⟩ := o
  cases a1
  intro k j l' y1 y2
  exact outR_left f e2 q a2 k j l' (by simpa [lefts] using y1) y2
theorem lefts_lent : ∀ {as : List (Nat ⊕ V)} {sl : List Sl} {i : Nat}, args fr as = some sl → i ∈ lefts as → ∃ s, lent fr i = some s
 | [], _, _, _, q => by simp [lefts] at q
 | .inl j :: r, _, i, z, q => by
  simp only [args, Option.bind_eq_some_iff, Option.map_eq_some_iff] at z
  obtain ⟨s, e1, l, e2, rfl⟩ := z
  simp [lefts] at q
  rcases q with rfl | q
  ·exact ⟨s, e1⟩
  ·exact lefts_lent e2 q
 | .inr u :: r, _, i, z, q => by
  simp only [args, Option.map_eq_some_iff] at z
  obtain ⟨l, e2, rfl⟩ := z
  exact lefts_lent e2 (by simpa [lefts] using q)
theorem callF_ok {P : Phi} {P' : Ev.Phi} (HP : PhiOk P P') {g : Nat} {as : List (Nat ⊕ V)} {ds : List D} (e : callF P g as fr = .ok v fr1) (f : FrR M B h S fr fr') (q : AsR h S fr' as ds) :
  ∃ d h' S', P' g ds h = .ok d h' ∧ Rep h' S' v d ∧ Out M B (lefts as) h S fr fr' h' S' fr1 := by
 unfold callF at e
 split at e
 case isFalse => cases e
 rename_i nd
 cases z : args fr as with
 | none => rw [z] at e; cases e
 | some sl =>
 rw [z] at e
 simp only at e
 cases z2 : P g sl with
 | none => rw [z2] at e; cases e
 | some vo =>
 obtain ⟨v', os⟩ := vo
 rw [z2] at e
 simp only at e
 cases z3 : back (lefts as) os fr with
 | none => rw [z3] at e; cases e
 | some fr2 =>
 rw [z3] at e
 simp at e
 obtain ⟨rfl, rfl⟩ := e
 obtain ⟨hl, hg⟩ := args_get f z q
 let B0 : Nat → Prop := fun m => ∃ i o, i ∈ lefts as ∧ fr[i]? = some o ∧ isM o = true ∧ fr'[i]? = some (some (.ref m))
 have B0M : ∀ m, B0 m → M m := fun m ⟨i, o, _, a, b, c⟩ => by
  have s := f.sl i o _ a c
  rcases o with _ | s'
  ·cases b
  ·cases s' with
   | val v => cases b
   | ro l => cases b
   | own l => obtain ⟨m', ds', e, y, _⟩ := s; cases e; exact y.1
   | bor l => obtain ⟨m', ds', e, y, _⟩ := s; cases e; exact y.1
 have F0 : FrR B0 B0 h S (sl.map some) (ds.map some) := by
  refine ⟨fun m y => ⟨(f.wS m y).1, fun z => (f.wS m y).2.1 (B0M m z), fun z => (f.wS m y).2.1 (B0M m z)⟩, fun m y => f.wM m (B0M m y), fun m y => f.wM m (B0M m y), by simp [hl], fun a o p y1 y2 => ?_, fun a b o o' m y1 y2 y3 y4 y5 y6 => ?_⟩
  ·simp at y1 y2
   obtain ⟨s, y1, rfl⟩ := y1
   obtain ⟨d, y2, rfl⟩ := y2
   rcases hg a s d y1 y2 with ⟨i, k1, k2, k3⟩ | ⟨u, rfl, k⟩
   ·obtain ⟨m, cs, l0, o0, w1, w2, w3, w4, w5⟩ := lent_ok k2 f
    rw [k3] at w2; cases w2
    rcases w5 with ⟨rfl, w6, w7⟩ | ⟨rfl, w6, w7⟩
    ·exact ⟨m, cs, rfl, ⟨⟨i, o0, lefts_mem k1, w1, w7, k3⟩, ⟨i, o0, lefts_mem k1, w1, w7, k3⟩⟩, w3, w4⟩
    ·exact ⟨m, cs, rfl, fun z => w6 (B0M m z), w3, w4⟩
   ·exact ⟨d, rfl, k⟩
  ·simp at y1 y2 y5 y6
   obtain ⟨s, y1, rfl⟩ := y1
   obtain ⟨s', y2, rfl⟩ := y2
   rcases hg a s _ y1 y5 with ⟨i, k1, k2, k3⟩ | ⟨u, rfl, k⟩
   ·rcases hg b s' _ y2 y6 with ⟨j, k4, k5, k6⟩ | ⟨u, rfl, k⟩
    ·obtain ⟨m1, _, l1, o1, w1, w2, _, _, w5⟩ := lent_ok k2 f
     obtain ⟨m2, _, l2, o2, x1, x2, _, _, x5⟩ := lent_ok k5 f
     have i1 : isM o1 = true := by rcases w5 with ⟨_, _, w7⟩ | ⟨rfl, _, _⟩; exact w7; cases y3
     have i2 : isM o2 = true := by rcases x5 with ⟨_, _, w7⟩ | ⟨rfl, _, _⟩; exact w7; cases y4
     have := f.inj i j o1 o2 m w1 x1 i1 i2 k3 k6
     subst this
     exact lefts_inj nd k1 k4
    ·cases y4
   ·cases y3
 obtain ⟨d, h', S', c1, c2, c3, c4⟩ := HP g sl v' os z2 h S B0 ds F0
 obtain ⟨b1, b2, b3⟩ := back_get z3 nd
 have hL := outR_left f z q c4
 have keepS : ∀ m, S m → h'[m]? = h[m]? := fun m y => c3.keep m (f.wS m y).1 (fun z => (f.wS m y).2.1 (B0M m z))
 refine ⟨d, h', S', c1, c2, ⟨?_, ?_, ?_⟩⟩
 ·refine ⟨fun m y => ?_, fun m y => Nat.lt_of_lt_of_le (f.wM m y) c3.len, fun m y => Nat.lt_of_lt_of_le (f.wB m y) c3.len, by rw [b1, f.len], fun i o p y1 y2 => ?_, fun i j o o' m y1 y2 y3 y4 y5 y6 => ?_⟩
  ·rcases c3.new m y with y | ⟨y1, y2⟩
   ·exact ⟨Nat.lt_of_lt_of_le (f.wS m y).1 c3.len, (f.wS m y).2⟩
   ·exact ⟨y2, fun z => by have := f.wM m z; omega, fun z => by have := f.wB m z; omega⟩
  ·by_cases hi : i ∈ lefts as
   ·obtain ⟨k, s, l, w1, w2, w3, w4⟩ := b3 i hi
    rw [w4] at y1; cases y1
    obtain ⟨m, cs, x1, x2, x3⟩ := hL k i l w1 w2
    rw [x1] at y2; cases y2
    have old := f.sl i _ _ w3 x1
    cases s with
    | val u =>
     exfalso
     have : ∃ s, lent fr i = some s := lefts_lent z hi
     obtain ⟨s, hs⟩ := this
     simp [lent, w3, Sl.lend] at hs
    | own u => obtain ⟨m', ds', e, y, _⟩ := old; cases e; exact ⟨m, cs, rfl, y, x2, x3⟩
    | bor u => obtain ⟨m', ds', e, y, _⟩ := old; cases e; exact ⟨m, cs, rfl, y, x2, x3⟩
    | ro u =>
     obtain ⟨m', ds', e, y, y1, y2⟩ := old; cases e
     refine ⟨m, ds', rfl, y, ?_, y2.mono keepS c3.sub⟩
     rw [c3.keep m (List.getElem?_eq_some_iff.mp y1).1 (fun z => y (B0M m z))]; exact y1
   ·rw [b2 i hi] at y1
    have old := f.sl i o p y1 y2
    rcases o with _ | s
    ·exact old
    ·cases s with
     | val u => obtain ⟨d, e, q⟩ := old; exact ⟨d, e, q.mono keepS c3.sub⟩
     | own u =>
      obtain ⟨m, ds', rfl, w1, w2, w3⟩ := old
      refine ⟨m, ds', rfl, w1, ?_, w3.mono keepS c3.sub⟩
      rw [c3.keep m (f.wM m w1.1) (fun ⟨j, o2, x1, x2, x3, x4⟩ => hi (f.inj i j _ o2 m y1 x2 rfl x3 y2 x4 ▸ x1))]; exact w2
     | bor u =>
      obtain ⟨m, ds', rfl, w1, w2, w3⟩ := old
      refine ⟨m, ds', rfl, w1, ?_, w3.mono keepS c3.sub⟩
      rw [c3.keep m (f.wM m w1.1) (fun ⟨j, o2, x1, x2, x3, x4⟩ => hi (f.inj i j _ o2 m y1 x2 rfl x3 y2 x4 ▸ x1))]; exact w2
     | ro u =>
      obtain ⟨m, ds', rfl, w1, w2, w3⟩ := old
      refine ⟨m, ds', rfl, w1, ?_, w3.mono keepS c3.sub⟩
      rw [c3.keep m (List.getElem?_eq_some_iff.mp w2).1 (fun z => w1 (B0M m z))]; exact w2
  ·have kind : ∀ (i : Nat) o, fr2[i]? = some o → isM o = true → ∃ o0, fr[i]? = some o0 ∧ isM o0 = true := fun i o w1 w2 => by
    by_cases hi : i ∈ lefts as
    ·obtain ⟨k, s, l, x1, x2, x3, x4⟩ := b3 i hi
     rw [x4] at w1; cases w1
     exact ⟨_, x3, by rw [with_isM] at w2; exact w2⟩
    ·rw [b2 i hi] at w1; exact ⟨o, w1, w2⟩
   obtain ⟨oi, k1, k2⟩ := kind i o y1 y3
   obtain ⟨oj, k3, k4⟩ := kind j o' y2 y4
   exact f.inj i j oi oj m k1 k3 k2 k4 y5 y6
 ·exact c3.weak fun m z => ⟨B0M m z, by obtain ⟨i, o, a1, a2, a3, a4⟩ := z; exact ⟨i, a1, a4⟩⟩
 ·intro i
  unfold locked
  by_cases hi : i ∈ lefts as
  ·obtain ⟨k, s, l, x1, x2, x3, x4⟩ := b3 i hi
   rw [x3, x4]; exact with_lk
  ·rw [b2 i hi]
end
end Pv
namespace Pv
open Ev (D O Hh BOp COp TY BI ME T E Es Eo It S Ss Fn big deep b2i rep mulOk ixN atI sIx cut joinS sortS slots lstOf)
section
variable {M B M' : Nat → Prop} {h h' h1 h2 : Hh} {S S' S1 S2 : Nat → Prop} {fr fr1 fr2 : Fr} {fr' : Ev.Fr} {c c1 c2 : List Nat} {v : V} {d : D}
theorem set_ne {n m : Nat} {o : O} (q : n ≠ m) : (h.set n o)[m]? = h[m]? := List.getElem?_set_ne q
theorem FrR.mM (f : FrR M B h S fr fr') {i n : Nat} {o : Option Sl} (e : fr[i]? = some o) (hM : isM o = true) (e' : fr'[i]? = some (some (.ref n))) : M n := by
 have s := f.sl i o _ e e'
 rcases o with _ | s'
 ·cases hM
 ·cases s' with
  | val v => cases hM
  | ro l => cases hM
  | own l => obtain ⟨m', ds', e, y, _⟩ := s; cases e; exact y.1
  | bor l => obtain ⟨m', ds', e, y, _⟩ := s; cases e; exact y.1
theorem FrR.write (f : FrR M B h S fr fr') {i n : Nat} {s : Sl} {l' : List V} {ds' : List D} (e : fr[i]? = some (some s)) (hM : isM (some s) = true) (e' : fr'[i]? = some (some (.ref n))) (q : RepL h S l' ds') :
  FrR M B (h.set n (.lst ds')) S (fr.set i (some (s.with l'))) fr' := by
 have mn := f.mM e hM e'
 have kp : ∀ m, S m → (h.set n (.lst ds'))[m]? = h[m]? := fun m z => set_ne fun y => (f.wS m z).2.1 (y ▸ mn)
 have il := (List.getElem?_eq_some_iff.mp e).1
 refine ⟨fun m y => by simpa using f.wS m y, fun m y => by simpa using f.wM m y, fun m y => by simpa using f.wB m y, by simp [f.len], fun j o p y1 y2 => ?_, fun j k o o' m y1 y2 y3 y4 y5 y6 => ?_⟩
 ·by_cases hj : i = j
  ·subst hj
   rw [List.getElem?_set_self il] at y1
   cases y1
   rw [e'] at y2; cases y2
   have old := f.sl i _ _ e e'
   have hn : (h.set n (.lst ds'))[n]? = some (.lst ds') := List.getElem?_set_self (f.wM n mn)
   cases s with
   | val v => cases hM
   | ro l => cases hM
   | own l => obtain ⟨m', _, e, y, _⟩ := old; cases e; exact ⟨n, ds', rfl, y, hn, q.mono kp fun _ z => z⟩
   | bor l => obtain ⟨m', _, e, y, _⟩ := old; cases e; exact ⟨n, ds', rfl, y, hn, q.mono kp fun _ z => z⟩
  ·rw [List.getElem?_set_ne hj] at y1
   have old := f.sl j o p y1 y2
   rcases o with _ | s'
   ·exact old
   ·cases s' with
    | val u => obtain ⟨d, e, q⟩ := old; exact ⟨d, e, q.mono kp fun _ z => z⟩
    | own u =>
     obtain ⟨m, es, rfl, w1, w2, w3⟩ := old
     refine ⟨m, es, rfl, w1, ?_, w3.mono kp fun _ z => z⟩
     rw [set_ne fun (z : n = m) => hj (f.inj i j _ _ n e y1 hM rfl e' (by rw [z]; exact y2))]; exact w2
    | bor u =>
     obtain ⟨m, es, rfl, w1, w2, w3⟩ := old
     refine ⟨m, es, rfl, w1, ?_, w3.mono kp fun _ z => z⟩
     rw [set_ne fun (z : n = m) => hj (f.inj i j _ _ n e y1 hM rfl e' (by rw [z]; exact y2))]; exact w2
    | ro u =>
     obtain ⟨m, es, rfl, w1, w2, w3⟩ := old
     refine ⟨m, es, rfl, w1, ?_, w3.mono kp fun _ z => z⟩
     rw [set_ne fun (z : n = m) => w1 (z ▸ mn)]; exact w2
 ·have kind : ∀ (j : Nat) o, (fr.set i (some (s.with l')))[j]? = some o → isM o = true → ∃ o0, fr[j]? = some o0 ∧ isM o0 = true := fun j o w1 w2 => by
   by_cases hj : i = j
   ·subst hj; exact ⟨_, e, hM⟩
   ·rw [List.getElem?_set_ne hj] at w1; exact ⟨o, w1, w2⟩
  obtain ⟨oi, k1, k2⟩ := kind j o y1 y3
  obtain ⟨oj, k3, k4⟩ := kind k o' y2 y4
  exact f.inj j k oi oj m k1 k3 k2 k4 y5 y6
theorem mtf_ok {m : ME} {l l' : List V} {xs : List V} {n : Nat} {ds es : List D} (z : mtf m l xs = some (v, l')) (e : h[n]? = some (.lst ds)) (q : RepL h S l ds) (p : RepTL h S xs es) (p' : exK m = false → RepL h S xs es) (hS : ∀ k, S k → k ≠ n) :
  ∃ r ds', Ev.mef m (.ref n) es h = .ok r (h.set n (.lst ds')) ∧ Rep h S v r ∧ RepL h S l' ds' := by
 unfold mtf at z
 split at z
 ·have p' := p' rfl
  split at z
  ·rename_i k
   cases z
   simp only [RepL] at p'
   obtain ⟨d, _, rfl, p1, rfl⟩ := p'
   refine ⟨_, _, ?_, rfl, q.append (.cons p1 .nil)⟩
   delta Ev.mef; dsimp only; simp only [e]
   rw [if_pos (by rw [← q.length]; exact k)]
  ·cases z
 ·split at z
  ·rename_i k
   cases z
   obtain ⟨d, rfl, p1⟩ := p.one
   simp only [RepT] at p1
   obtain ⟨n2, cs, rfl, e2, p1⟩ := p1
   refine ⟨_, _, ?_, rfl, q.append p1⟩
   delta Ev.mef; dsimp only; simp only [e, e2]
   rw [if_pos (by rw [← q.length, ← p1.length]; exact k)]
  ·cases z
 ·simp only [RepTL] at p
  subst p
  split at z
  ·rename_i x y
   cases z
   obtain ⟨d, k1, k2⟩ := q.get y
   refine ⟨d, _, ?_, k2, q.dropLast⟩
   delta Ev.mef; dsimp only; simp only [e]
   rw [← q.length, k1]
  ·cases z
 ·cases z
theorem FrR.set (f : FrR M B h S fr fr') {i : Nat} (e : put fr i (.val v) = some fr1) (q : Rep h S v d) : FrR M B h S fr1 (fr'.set i (some d)) ∧ (∀ j, locked fr1 j = locked fr j) ∧ ∀ j, locked fr j = true → (fr'.set i (some d))[j]? = fr'[j]? := by
 have hx : fr1 = fr.set i (some (.val v)) ∧ locked fr i = false := by
  unfold put at e
  unfold locked
  split at e
  ·cases e
  ·cases e
  ·rename_i k1 k2
   cases e
   refine ⟨rfl, ?_⟩
   cases z : fr[i]? with
   | none => rfl
   | some o =>
    rcases o with _ | s
    ·rfl
    ·cases s with
     | bor l => exact absurd z (k1 l)
     | ro l => exact absurd z (k2 l)
     | _ => rfl
 obtain ⟨rfl, hk⟩ := hx
 have lk : ∀ j, locked (fr.set i (some (.val v))) j = locked fr j := fun j => by
  by_cases hj : i = j
  ·subst hj
   rw [hk]
   unfold locked
   by_cases hl : i < fr.length
   ·rw [List.getElem?_set_self hl]; rfl
   ·rw [List.getElem?_eq_none (by simpa using hl)]
  ·unfold locked; rw [List.getElem?_set_ne hj]
 refine ⟨⟨f.wS, f.wM, f.wB, by simp [f.len], fun j o p y1 y2 => ?_, fun j k o o' m y1 y2 y3 y4 y5 y6 => ?_⟩, lk, fun j hj => ?_⟩
 ·by_cases hj : i = j
  ·subst hj
   have hl : i < fr.length := by have := (List.getElem?_eq_some_iff.mp y1).1; simpa using this
   rw [List.getElem?_set_self hl] at y1
   rw [List.getElem?_set_self (by rw [← f.len]; exact hl)] at y2
   cases y1; cases y2
   exact ⟨d, rfl, q⟩
  ·rw [List.getElem?_set_ne hj] at y1 y2
   exact f.sl j o p y1 y2
 ·have hn : ∀ (j : Nat) o, (fr.set i (some (.val v)))[j]? = some o → isM o = true → i ≠ j := fun j o w1 w2 w3 => by
   subst w3
   have hl : i < fr.length := by have := (List.getElem?_eq_some_iff.mp w1).1; simpa using this
   rw [List.getElem?_set_self hl] at w1
   cases w1; cases w2
  have n1 := hn j o y1 y3
  have n2 := hn k o' y2 y4
  rw [List.getElem?_set_ne n1] at y1 y5
  rw [List.getElem?_set_ne n2] at y2 y6
  exact f.inj j k o o' m y1 y2 y3 y4 y5 y6
 ·have : i ≠ j := fun z => by subst z; rw [hk] at hj; cases hj
  rw [List.getElem?_set_ne this]
theorem FrR.setAll : ∀ {is : List Nat} {vs : List V} {ds : List D} {fr fr1 : Fr} {fr' : Ev.Fr}, FrR M B h S fr fr' → setAll is vs fr = some fr1 → RepL h S vs ds → ∃ fr1', Ev.setAll is ds fr' = some fr1' ∧ FrR M B h S fr1 fr1' ∧ (∀ j, locked fr1 j = locked fr j) ∧ ∀ j, locked fr j = true → fr1'[j]? = fr'[j]?
 | [], [], ds, fr, fr1, fr', f, e, q => by
  simp [Pv.setAll] at e; simp only [RepL] at q; subst e q
  exact ⟨fr', rfl, f, fun _ => rfl, fun _ _ => rfl⟩
 | [], _ :: _, _, _, _, _, _, e, _ => by simp [Pv.setAll] at e
 | _ :: _, [], _, _, _, _, _, e, _ => by simp [Pv.setAll] at e
 | i :: is, v :: vs, ds, fr, fr1, fr', f, e, q => by
  simp only [Pv.setAll, Option.bind_eq_some_iff] at e
  obtain ⟨fr2, e1, e2⟩ := e
  simp only [RepL] at q
  obtain ⟨d, es, rfl, q1, q2⟩ := q
  obtain ⟨f2, l2, r2⟩ := f.set e1 q1
  obtain ⟨fr1', a, f3, l3, r3⟩ := f2.setAll e2 q2
  exact ⟨fr1', a, f3, fun j => (l3 j).trans (l2 j), fun j hj => (r3 j (by rw [l2 j]; exact hj)).trans (r2 j hj)⟩
theorem FrR.bindT (f : FrR M B h S fr fr') {t : T} (e : bindT t v fr = some fr1) (q : Rep h S v d) : ∃ fr1', Ev.bindT t d fr' = some fr1' ∧ FrR M B h S fr1 fr1' ∧ (∀ j, locked fr1 j = locked fr j) ∧ ∀ j, locked fr j = true → fr1'[j]? = fr'[j]? := by
 cases t with
 | one i => exact ⟨_, rfl, f.set e q⟩
 | many l =>
  cases v <;> simp only [Pv.bindT, reduceCtorEq] at e
  simp only [Rep] at q
  obtain ⟨ds, rfl, q⟩ := q
  exact f.setAll e q
theorem FrR.undef (f : FrR M B h S fr fr') {t : T} (e : undef t fr = true) : Ev.undef t fr' = true := by
 unfold Pv.undef at e
 unfold Ev.undef
 rw [List.all_eq_true] at e ⊢
 intro i hi
 have := e i hi
 cases z : fr[i]? with
 | none =>
  have : fr'[i]? = none := by
   rw [List.getElem?_eq_none_iff] at z ⊢
   rw [← f.len]; exact z
  rw [this]; rfl
 | some o =>
  obtain ⟨p, e1, q⟩ := f.get z
  rw [z] at this
  rcases o with _ | s
  ·simp only [SlR] at q; subst q; rw [e1]; rfl
  ·simp at this
theorem roF_get {i : Nat} {o : Option Sl} (e : (roF fr)[i]? = some o) : ∃ o0, fr[i]? = some o0 ∧ o = o0.map Sl.read := by
 unfold roF at e
 rw [List.getElem?_map] at e
 cases z : fr[i]? with
 | none => rw [z] at e; cases e
 | some o0 => rw [z] at e; cases e; exact ⟨o0, rfl, rfl⟩
theorem FrR.ro (f : FrR M B h S fr fr') : FrR (fun _ => False) B h S (roF fr) fr' := by
 refine ⟨fun m y => ⟨(f.wS m y).1, id, (f.wS m y).2.2⟩, fun m y => y.elim, f.wB, by simp [roF, f.len], fun i o p y1 y2 => ?_, fun i j o o' m y1 y2 y3 y4 y5 y6 => ?_⟩
 ·obtain ⟨o0, z, rfl⟩ := roF_get y1
  have q := f.sl i o0 p z y2
  rcases o0 with _ | s
  ·exact q
  ·cases s with
   | val v => exact q
   | own l => obtain ⟨m, ds, a, b, c, d⟩ := q; exact ⟨m, ds, a, id, c, d⟩
   | bor l => obtain ⟨m, ds, a, b, c, d⟩ := q; exact ⟨m, ds, a, id, c, d⟩
   | ro l => obtain ⟨m, ds, a, b, c, d⟩ := q; exact ⟨m, ds, a, id, c, d⟩
 ·obtain ⟨o0, z, rfl⟩ := roF_get y1
  rcases o0 with _ | s
  ·cases y3
  ·cases s <;> cases y3
theorem stays_of : ∀ {ck : List (Nat × List D)}, (∀ q ∈ ck, lstOf h q.1 = some q.2) → Ev.stays h ck = true
 | [], _ => rfl
 | (n, ds) :: r, q => by
  simp only [Ev.stays, Bool.and_eq_true]
  refine ⟨?_, stays_of fun x hx => q x (List.mem_cons_of_mem _ hx)⟩
  rw [q (n, ds) (List.mem_cons_self ..)]
  exact Ev.sameL_self _
theorem lst_keep {n : Nat} {ds : List D} (q : lstOf h n = some ds) (k : h'[n]? = h[n]?) : lstOf h' n = some ds := by
 unfold lstOf at q ⊢; rw [k]; exact q
theorem lst_lt {n : Nat} {ds : List D} (q : lstOf h n = some ds) : n < h.length := by
 unfold lstOf at q
 cases z : h[n]? with
 | none => rw [z] at q; cases q
 | some o => exact (List.getElem?_eq_some_iff.mp z).1
noncomputable def OptR (h : Hh) (S : Nat → Prop) : Option V → Option D → Prop
 | none, o => o = none
 | some v, o => ∃ d, o = some d ∧ Rep h S v d
theorem comp_ok {f : V → Option (Option V)} {f' : D → Hh → Ev.R (Option D)} {ck : List (Nat × List D)} {h0 : Hh} {S0 : Nat → Prop} (w0 : ∀ m, S0 m → m < h0.length) (st : ∀ q ∈ ck, lstOf h0 q.1 = some q.2)
  (turn : ∀ v o d h S, Al h0 S0 h S → f v = some o → Rep h S v d → ∃ o' h' S', f' d h = .ok o' h' ∧ OptR h' S' o o' ∧ Al h S h' S') :
  ∀ {vs : List V} {ds : List D} {rs : List V} {h : Hh} {S : Nat → Prop}, Al h0 S0 h S → compL f vs = some rs → RepL h S vs ds → ∃ rs' h' S', Ev.compL f' ck ds h = .ok rs' h' ∧ RepL h' S' rs rs' ∧ Al h S h' S'
 | [], ds, rs, h, S, a, e, q => by
  simp [compL] at e; simp only [RepL] at q; subst e q
  refine ⟨[], h, S, ?_, .nil, .refl⟩
  simp only [Ev.compL]
  rw [if_pos (stays_of fun x hx => lst_keep (st x hx) (a.keep _ (lst_lt (st x hx))))]
 | v :: vs, ds, rs, h, S, a, e, q => by
  simp only [compL, Option.bind_eq_some_iff] at e
  obtain ⟨o, e1, r, e2, e3⟩ := e
  cases e3
  simp only [RepL] at q
  obtain ⟨d, es, rfl, q1, q2⟩ := q
  have w : ∀ m, S m → m < h.length := fun m z => by
   rcases a.new m z with z | z
   ·exact Nat.lt_of_lt_of_le (w0 m z) a.len
   ·exact z.2
  obtain ⟨o', h1, S1, t1, t2, t3⟩ := turn v o d h S a e1 q1
  obtain ⟨rs', h2, S2, u1, u2, u3⟩ := comp_ok w0 st turn (a.trans t3) e2 (q2.mono (fun m z => t3.keep m (w m z)) t3.sub)
  have w1 : ∀ m, S1 m → m < h1.length := fun m z => by
   rcases t3.new m z with z | z
   ·exact Nat.lt_of_lt_of_le (w m z) t3.len
   ·exact z.2
  refine ⟨o'.toList ++ rs', h2, S2, ?_, ?_, t3.trans u3⟩
  ·simp only [Ev.compL]
   rw [if_pos (stays_of fun x hx => lst_keep (st x hx) (a.keep _ (lst_lt (st x hx)))), t1, Ev.bind_ok, u1, Ev.bind_ok]
  ·cases o with
   | none => simp only [OptR] at t2; subst t2; simpa using u2
   | some v' =>
    simp only [OptR] at t2
    obtain ⟨d', rfl, t2⟩ := t2
    exact .cons (t2.mono (fun m z => u3.keep m (w1 m z)) u3.sub) u2
end
noncomputable def RepKL (k : Bool) (h : Hh) (S : Nat → Prop) (v : List V) (d : List D) : Prop := if k = true then RepTL h S v d else RepL h S v d
inductive EvR (P' : Ev.Phi) (e : E) (k : Bool) (v : V) (M B : Nat → Prop) (h : Hh) (S : Nat → Prop) (fr : Fr) (fr' : Ev.Fr) (fr1 : Fr) : Prop
 | mk (d : D) (h' : Hh) (S' : Nat → Prop) (c0 : Ev.ev P' e fr' h = .ok d h') (c1 : RepK k h' S' v d) (c2 : Out M B (tch e) h S fr fr' h' S' fr1) : EvR P' e k v M B h S fr fr' fr1
inductive EvTR (P' : Ev.Phi) (e : E) (b : Bool) (M B : Nat → Prop) (h : Hh) (S : Nat → Prop) (fr : Fr) (fr' : Ev.Fr) (fr1 : Fr) : Prop
 | mk (h' : Hh) (S' : Nat → Prop) (c0 : Ev.evT P' e fr' h = .ok b h') (c1 : Out M B (tch e) h S fr fr' h' S' fr1) : EvTR P' e b M B h S fr fr' fr1
inductive EvsR (P' : Ev.Phi) (e : Es) (k : Bool) (v : List V) (M B : Nat → Prop) (h : Hh) (S : Nat → Prop) (fr : Fr) (fr' : Ev.Fr) (fr1 : Fr) : Prop
 | mk (d : List D) (h' : Hh) (S' : Nat → Prop) (c0 : Ev.evs P' e fr' h = .ok d h') (c1 : RepKL k h' S' v d) (c2 : Out M B (tchs e) h S fr fr' h' S' fr1) : EvsR P' e k v M B h S fr fr' fr1
inductive EvAR (P' : Ev.Phi) (e : Es) (v : List (Nat ⊕ V)) (M B : Nat → Prop) (h : Hh) (S : Nat → Prop) (fr : Fr) (fr' : Ev.Fr) (fr1 : Fr) : Prop
 | mk (d : List D) (h' : Hh) (S' : Nat → Prop) (c0 : Ev.evs P' e fr' h = .ok d h') (c1 : AsR h' S' fr' v d) (c2 : Out M B (tchs e) h S fr fr' h' S' fr1) : EvAR P' e v M B h S fr fr' fr1
inductive EvoR (P' : Ev.Phi) (e : Eo) (v : Option Int) (M B : Nat → Prop) (h : Hh) (S : Nat → Prop) (fr : Fr) (fr' : Ev.Fr) (fr1 : Fr) : Prop
 | mk (h' : Hh) (S' : Nat → Prop) (c0 : Ev.evo P' e fr' h = .ok v h') (c1 : Out M B (tcho e) h S fr fr' h' S' fr1) : EvoR P' e v M B h S fr fr' fr1
inductive EvcR (P' : Ev.Phi) (e : Eo) (v : Bool) (M B : Nat → Prop) (h : Hh) (S : Nat → Prop) (fr : Fr) (fr' : Ev.Fr) (fr1 : Fr) : Prop
 | mk (h' : Hh) (S' : Nat → Prop) (c0 : Ev.evc P' e fr' h = .ok v h') (c1 : Out M B (tcho e) h S fr fr' h' S' fr1) : EvcR P' e v M B h S fr fr' fr1
inductive EviR (P' : Ev.Phi) (e : It) (k : Bool) (v : List V) (M B : Nat → Prop) (h : Hh) (S : Nat → Prop) (fr : Fr) (fr' : Ev.Fr) (fr1 : Fr) : Prop
 | mk (s : Ev.Src) (h' : Hh) (S' : Nat → Prop) (c0 : Ev.evi P' e fr' h = .ok s h') (c1 : RepL h' S' v s.1) (c2 : ∀ q ∈ s.2, lstOf h' q.1 = some q.2 ∧ (k = false → ¬ M q.1)) (c3 : Out M B (tchi e) h S fr fr' h' S' fr1) : EviR P' e k v M B h S fr fr' fr1
section
variable (P : Phi) (P' : Ev.Phi)
noncomputable def EvOk (e : E) : Prop := ∀ {k : Bool} {fr : Fr} {v : V} {fr1 : Fr} {M B : Nat → Prop} {h : Hh} {S : Nat → Prop} {fr' : Ev.Fr}, ev P k e fr = .ok v fr1 → FrR M B h S fr fr' → EvR P' e k v M B h S fr fr' fr1
noncomputable def EvTOk (e : E) : Prop := ∀ {fr : Fr} {b : Bool} {fr1 : Fr} {M B : Nat → Prop} {h : Hh} {S : Nat → Prop} {fr' : Ev.Fr}, evT P e fr = .ok b fr1 → FrR M B h S fr fr' → EvTR P' e b M B h S fr fr' fr1
noncomputable def EvsOk (e : Es) : Prop := ∀ {k : Bool} {fr : Fr} {v : List V} {fr1 : Fr} {M B : Nat → Prop} {h : Hh} {S : Nat → Prop} {fr' : Ev.Fr}, evs P k e fr = .ok v fr1 → FrR M B h S fr fr' → EvsR P' e k v M B h S fr fr' fr1
noncomputable def EvAOk (e : Es) : Prop := ∀ {fr : Fr} {v : List (Nat ⊕ V)} {fr1 : Fr} {M B : Nat → Prop} {h : Hh} {S : Nat → Prop} {fr' : Ev.Fr}, evA P e fr = .ok v fr1 → FrR M B h S fr fr' → EvAR P' e v M B h S fr fr' fr1
noncomputable def EvoOk (e : Eo) : Prop := ∀ {fr : Fr} {v : Option Int} {fr1 : Fr} {M B : Nat → Prop} {h : Hh} {S : Nat → Prop} {fr' : Ev.Fr}, evo P e fr = .ok v fr1 → FrR M B h S fr fr' → EvoR P' e v M B h S fr fr' fr1
noncomputable def EvcOk (e : Eo) : Prop := ∀ {fr : Fr} {v : Bool} {fr1 : Fr} {M B : Nat → Prop} {h : Hh} {S : Nat → Prop} {fr' : Ev.Fr}, evc P e fr = .ok v fr1 → FrR M B h S fr fr' → EvcR P' e v M B h S fr fr' fr1
noncomputable def EviOk (e : It) : Prop := ∀ {k : Bool} {fr : Fr} {v : List V} {fr1 : Fr} {M B : Nat → Prop} {h : Hh} {S : Nat → Prop} {fr' : Ev.Fr}, evi P k e fr = .ok v fr1 → FrR M B h S fr fr' → EviR P' e k v M B h S fr fr' fr1
end
section
variable {P : Phi} {P' : Ev.Phi} {a b e tt : E} {es : Es} {lo hi : Eo} {it : It}
theorem c_ok {d : D} : EvOk P P' (.c d) := fun z f => by
 simp only [ev] at z
 replace z := of_eq_ok z; obtain ⟨z, y0⟩ := z; subst y0
 exact ⟨d, _, _, by simp only [Ev.ev], .of (ofD_ok z), .refl f⟩
theorem v_ok {i : Nat} : EvOk P P' (.v i) := fun z f => by
 simp only [ev] at z
 replace z := of_eq_ok z; obtain ⟨z, y0⟩ := z; subst y0
 obtain ⟨d, e1, q⟩ := getV_ok z f
 exact ⟨d, _, _, by simp only [Ev.ev, e1, Ev.of_some], q, .refl f⟩
theorem RepKL.n {h : Hh} {S : Nat → Prop} {v : List V} {d : List D} (q : RepKL false h S v d) : RepL h S v d := by simpa [RepKL] using q
theorem RepL.tl {h : Hh} {S : Nat → Prop} : ∀ {v : List V} {d : List D}, RepL h S v d → RepTL h S v d
 | [], _, q => q
 | _ :: _, _, ⟨d, es, a, b, q⟩ => ⟨d, es, a, b.top, q.tl⟩
theorem RepKL.t {k : Bool} {h : Hh} {S : Nat → Prop} {v : List V} {d : List D} (q : RepKL k h S v d) : RepTL h S v d := by
 unfold RepKL at q
 split at q
 ·exact q
 ·exact q.tl
theorem tup_ok (is : EvsOk P P' es) : EvOk P P' (.tup es) := fun z f => by
 simp only [ev] at z
 obtain ⟨ds, fr2, z1, z2⟩ := bind_eq_ok z
 replace z2 := of_eq_ok z2; obtain ⟨z2, y0⟩ := z2; subst y0
 obtain ⟨ds', h', S', e1, q, o⟩ := is z1 f
 unfold mkT at z2
 split at z2
 ·rename_i hk
  cases z2
  refine ⟨.tup ds', h', S', ?_, .of ⟨ds', rfl, q.n⟩, o⟩
  simp only [Ev.ev, e1, Ev.bind_ok]
  rw [if_pos (by rw [← q.n.length]; exact hk)]
 ·cases z2
theorem lst_ok (is : EvsOk P P' es) : EvOk P P' (.lst es) := fun z f => by
 simp only [ev] at z
 obtain ⟨ds, fr2, z1, z2⟩ := bind_eq_ok z
 replace z2 := of_eq_ok z2; obtain ⟨z2, y0⟩ := z2; subst y0
 obtain ⟨ds', h', S', e1, q, o⟩ := is z1 f
 obtain ⟨r, h2, S2, a1, a2, a3⟩ := mkL_ok o.f.w z2 q.n
 exact ⟨r, h2, S2, by simp only [Ev.ev, e1, Ev.bind_ok, a1], .of a2, o.al a3⟩
theorem ev_vd {a : E} {fr' : Ev.Fr} {h h1 : Hh} {d : D} (e : Ev.ev P' a fr' h = .ok d h1) : ∀ i, a = .v i → fr'[i]?.join = some d := fun i hi => by
 subst hi
 simp only [Ev.ev] at e
 exact (Ev.of_eq_ok e).1
theorem two (ia : EvOk P P' a) (ib : EvOk P P' b) {α : Type} {X : V → V → Fr → R α} {u : α} {fr frz : Fr} {M B : Nat → Prop} {h : Hh} {S : Nat → Prop} {fr' : Ev.Fr}
  (z : ((ev P (kf a (tch b)) a fr).bind fun x fr1 => (ev P true b fr1).bind fun y fr2 => X x y fr2) = .ok u frz) (f : FrR M B h S fr fr') :
  ∃ x y d e h2 S2 fr2, (∀ {β : Type} (g : D → D → Hh → Ev.R β), ((Ev.ev P' a fr' h).bind fun x h1 => (Ev.ev P' b fr' h1).bind fun y h2 => g x y h2) = g d e h2) ∧ X x y fr2 = .ok u frz ∧ RepT h2 S2 x d ∧ RepT h2 S2 y e ∧ Out M B (tch a ++ tch b) h S fr fr' h2 S2 fr2 := by
 replace z := bind_eq_ok z; obtain ⟨x, fr1, z1, z⟩ := z
 replace z := bind_eq_ok z; obtain ⟨y, fr2, z2, z⟩ := z
 obtain ⟨d, h1, S1, e1, q1, o1⟩ := ia z1 f
 obtain ⟨e, h2, S2, e2, q2, o2⟩ := ib z2 o1.f
 exact ⟨x, y, d, e, h2, S2, fr2, fun g => by rw [e1, Ev.bind_ok, e2, Ev.bind_ok], z, (q1.tr o1.f o2.tr id (ev_vd e1)).t, q2.t, o1.trans o2⟩
theorem bin_ok {o : BOp} (ia : EvOk P P' a) (ib : EvOk P P' b) : EvOk P P' (.bin o a b) := fun z f => by
 simp only [ev] at z
 replace z := two ia ib z f; obtain ⟨x, y, d, e, h2, S2, fr2, k, z, q1, q2, ou⟩ := z
 replace z := of_eq_ok z; obtain ⟨z, y0⟩ := z; subst y0
 obtain ⟨r, h3, S3, a1, a2, a3⟩ := bop_ok ou.f.w z q1 q2
 exact ⟨r, h3, S3, by simp only [Ev.ev]; rw [k]; exact a1, .of a2, ou.al a3⟩
theorem cmp_ok {o : COp} (ia : EvOk P P' a) (ib : EvOk P P' b) : EvOk P P' (.cmp o a b) := fun z f => by
 simp only [ev] at z
 replace z := two ia ib z f; obtain ⟨x, y, d, e, h2, S2, fr2, k, z, q1, q2, ou⟩ := z
 replace z := of_eq_ok z; obtain ⟨z, y0⟩ := z; subst y0
 simp only [Option.map_eq_some_iff] at z
 obtain ⟨b, z, rfl⟩ := z
 exact ⟨.bl b, h2, S2, by simp only [Ev.ev]; rw [k, cop_ok z q1.u q2.u]; rfl, .of rfl, ou⟩
theorem ix_ok (ia : EvOk P P' a) (ib : EvOk P P' b) : EvOk P P' (.ix a b) := fun z f => by
 simp only [ev] at z
 replace z := two ia ib z f; obtain ⟨x, y, d, e, h2, S2, fr2, k, z, q1, q2, ou⟩ := z
 replace z := of_eq_ok z; obtain ⟨z, y0⟩ := z; subst y0
 obtain ⟨r, a1, a2⟩ := ixd_ok z q1 q2
 exact ⟨r, h2, S2, by simp only [Ev.ev]; rw [k, a1]; rfl, .of a2, ou⟩
theorem nt_ok (ia : EvOk P P' a) : EvOk P P' (.nt a) := fun z f => by
 simp only [ev] at z
 replace z := bind_eq_ok z; obtain ⟨x, fr1, z1, z⟩ := z
 obtain ⟨d, h1, S1, e1, q1, o1⟩ := ia z1 f
 cases x <;> simp only [reduceCtorEq] at z
 cases z
 have q := q1.t
 simp only [RepT, Rep] at q
 subst q
 exact ⟨_, h1, S1, by simp only [Ev.ev, e1, Ev.bind_ok], .of rfl, o1⟩
theorem neg_ok (ia : EvOk P P' a) : EvOk P P' (.neg a) := fun z f => by
 simp only [ev] at z
 replace z := bind_eq_ok z; obtain ⟨x, fr1, z1, z⟩ := z
 obtain ⟨d, h1, S1, e1, q1, o1⟩ := ia z1 f
 cases x <;> simp only [reduceCtorEq] at z
 cases z
 have q := q1.t
 simp only [RepT, Rep] at q
 subst q
 exact ⟨_, h1, S1, by simp only [Ev.ev, e1, Ev.bind_ok], .of rfl, o1⟩
theorem an_ok (ia : EvOk P P' a) (ib : EvOk P P' b) : EvOk P P' (.an a b) := fun z f => by
 simp only [ev] at z
 replace z := bind_eq_ok z; obtain ⟨x, fr1, z1, z⟩ := z
 obtain ⟨d, h1, S1, e1, q1, o1⟩ := ia z1 f
 cases x <;> try (cases z; done)
 rename_i k
 have q := q1.t
 simp only [RepT, Rep] at q
 subst q
 cases k with
 | true =>
  try simp only at z
  obtain ⟨d, h2, S2, e2, q2, o2⟩ := ib z o1.f
  exact ⟨d, h2, S2, by simp only [Ev.ev, e1, Ev.bind_ok, e2], q2, o1.trans o2⟩
 | false =>
  try simp only at z
  cases z
  exact ⟨_, h1, S1, by simp only [Ev.ev, e1, Ev.bind_ok], .of rfl, o1.weak (by simp only [tch]; intro i hi; simp [hi])⟩
theorem orr_ok (ia : EvOk P P' a) (ib : EvOk P P' b) : EvOk P P' (.orr a b) := fun z f => by
 simp only [ev] at z
 replace z := bind_eq_ok z; obtain ⟨x, fr1, z1, z⟩ := z
 obtain ⟨d, h1, S1, e1, q1, o1⟩ := ia z1 f
 cases x <;> try (cases z; done)
 rename_i k
 have q := q1.t
 simp only [RepT, Rep] at q
 subst q
 cases k with
 | false =>
  try simp only at z
  obtain ⟨d, h2, S2, e2, q2, o2⟩ := ib z o1.f
  exact ⟨d, h2, S2, by simp only [Ev.ev, e1, Ev.bind_ok, e2], q2, o1.trans o2⟩
 | true =>
  try simp only at z
  cases z
  exact ⟨_, h1, S1, by simp only [Ev.ev, e1, Ev.bind_ok], .of rfl, o1.weak (by simp only [tch]; intro i hi; simp [hi])⟩
theorem ife_ok (it : EvTOk P P' tt) (ia : EvOk P P' a) (ib : EvOk P P' b) : EvOk P P' (.ife tt a b) := fun z f => by
 simp only [ev] at z
 replace z := bind_eq_ok z; obtain ⟨k, fr1, z1, z⟩ := z
 obtain ⟨h1, S1, e1, o1⟩ := it z1 f
 cases k with
 | true =>
  simp only [if_true] at z
  obtain ⟨d, h2, S2, e2, q2, o2⟩ := ia z o1.f
  exact ⟨d, h2, S2, by simp only [Ev.ev, e1, Ev.bind_ok, if_true, e2], q2, (o1.trans o2).weak (by simp only [tch]; intro i hi; simp at hi ⊢; rcases hi with hi | hi <;> simp [hi])⟩
 | false =>
  simp only [Bool.false_eq_true, if_false] at z
  obtain ⟨d, h2, S2, e2, q2, o2⟩ := ib z o1.f
  exact ⟨d, h2, S2, by simp only [Ev.ev, e1, Ev.bind_ok]; rw [if_neg (by decide)]; exact e2, q2, (o1.trans o2).weak (by simp only [tch]; intro i hi; simp at hi ⊢; rcases hi with hi | hi <;> simp [hi])⟩
theorem sl_ok (ia : EvOk P P' a) (il : EvoOk P P' lo) (ih : EvoOk P P' hi) : EvOk P P' (.sl a lo hi) := fun z f => by
 simp only [ev] at z
 replace z := bind_eq_ok z; obtain ⟨x, fr1, z1, z⟩ := z
 replace z := bind_eq_ok z; obtain ⟨l, fr2, z2, z⟩ := z
 replace z := bind_eq_ok z; obtain ⟨u, fr3, z3, z⟩ := z
 replace z := of_eq_ok z; obtain ⟨z, y0⟩ := z; subst y0
 obtain ⟨d, h1, S1, e1, q1, o1⟩ := ia z1 f
 obtain ⟨h2, S2, e2, o2⟩ := il z2 o1.f
 obtain ⟨h3, S3, e3, o3⟩ := ih z3 o2.f
 have q := (q1.tr o1.f (o2.trans o3).tr id (ev_vd e1)).t
 obtain ⟨r, h4, S4, a1, a2, a3⟩ := sld_ok o3.f.w z q
 exact ⟨r, h4, S4, by simp only [Ev.ev, e1, Ev.bind_ok, e2, e3, a1], .of a2, (o1.trans (o2.trans o3)).al a3⟩
theorem lefts_dvs : ∀ {es : Es} {fr fr1 : Fr} {as : List (Nat ⊕ V)}, evA P es fr = .ok as fr1 → ∀ i ∈ lefts as, i ∈ dvs es
 | .nil, _, _, _, z => by simp only [evA] at z; cases z; simp [lefts]
 | .cons e es, fr, fr1, as, z => by
  simp only [evA] at z
  cases y : isV fr e with
  | some i =>
   rw [y] at z
   simp only at z
   replace z := bind_eq_ok z; obtain ⟨xs, fr3, z2, z⟩ := z
   cases z
   have hy : e = .v i := by
    cases e <;> simp only [isV, reduceCtorEq] at y
    split at y
    ·cases y; rfl
    ·cases y
   subst hy
   intro j hj
   simp only [lefts, List.mem_cons] at hj
   simp only [dvs, List.mem_cons]
   exact hj.imp id fun hj => lefts_dvs z2 j hj
  | none =>
   rw [y] at z
   simp only at z
   replace z := bind_eq_ok z; obtain ⟨x, fr2, z1, z⟩ := z
   replace z := bind_eq_ok z; obtain ⟨xs, fr3, z2, z⟩ := z
   cases z
   intro j hj
   simp only [lefts] at hj
   have := lefts_dvs z2 j hj
   cases e <;> simp only [dvs] <;> first | exact this | exact List.mem_cons_of_mem _ this
theorem cl_ok (HP : PhiOk P P') {g : Nat} (is : EvAOk P P' es) : EvOk P P' (.cl g es) := fun z f => by
 simp only [ev] at z
 replace z := bind_eq_ok z; obtain ⟨as, fr1, z1, z⟩ := z
 obtain ⟨ds, h1, S1, e1, q1, o1⟩ := is z1 f
 obtain ⟨d, h2, S2, e2, q2, o2⟩ := callF_ok HP z o1.f q1
 exact ⟨d, h2, S2, by simp only [Ev.ev, e1, Ev.bind_ok, e2], .of q2, (o1.trans o2).weak (by
  simp only [tch]
  intro i hi
  rcases List.mem_append.mp hi with hi | hi
  ·exact List.mem_append.mpr (.inl hi)
  ·exact List.mem_append.mpr (.inr (lefts_dvs z1 i hi)))⟩
theorem bi_ok {g : BI} (is : EvsOk P P' es) : EvOk P P' (.bi g es) := fun z f => by
 simp only [ev] at z
 replace z := bind_eq_ok z; obtain ⟨as, fr1, z1, z⟩ := z
 replace z := of_eq_ok z; obtain ⟨z, y0⟩ := z; subst y0
 obtain ⟨ds, h1, S1, e1, q1, o1⟩ := is z1 f
 obtain ⟨r, h4, S4, a1, a2, a3⟩ := bfn_ok o1.f.w z q1.t
 exact ⟨r, h4, S4, by simp only [Ev.ev, e1, Ev.bind_ok, a1], .of a2, o1.al a3⟩
theorem dget_ok {kvs : List (D × D)} (ia : EvOk P P' a) : EvOk P P' (.dget kvs a) := fun z f => by
 simp only [ev] at z
 replace z := bind_eq_ok z; obtain ⟨x, fr1, z1, z⟩ := z
 replace z := of_eq_ok z; obtain ⟨z, y0⟩ := z; subst y0
 obtain ⟨d, h1, S1, e1, q1, o1⟩ := ia z1 f
 obtain ⟨r, a1, a2⟩ := lookD_ok (S := S1) q1.t.u z
 exact ⟨r, h1, S1, by simp only [Ev.ev, e1, Ev.bind_ok, a1, Ev.of_some], .of a2, o1⟩
theorem ttp_ok (ia : EvOk P P' a) : EvOk P P' (.ttp a) := fun z f => by
 simp only [ev] at z
 replace z := bind_eq_ok z; obtain ⟨x, fr1, z1, z⟩ := z
 replace z := of_eq_ok z; obtain ⟨z, y0⟩ := z; subst y0
 obtain ⟨d, h1, S1, e1, q1, o1⟩ := ia z1 f
 obtain ⟨r, a1, a2⟩ := toT_ok z q1.t
 exact ⟨r, h1, S1, by simp only [Ev.ev, e1, Ev.bind_ok, a1], .of a2, o1⟩
theorem me_ok {m : ME} {o : E} (io : EvOk P P' o) (is : EvsOk P P' es) : EvOk P P' (.me m o es) := fun {k fr v fr1 M B h S fr'} z f => by
 simp only [ev] at z
 by_cases hm : isMut m = true
 ·rw [if_pos hm] at z
  cases y : isV fr o with
  | none => rw [y] at z; cases z
  | some i =>
  rw [y] at z
  try simp only at z
  replace z := bind_eq_ok z; obtain ⟨as, fr2, z1, z⟩ := z
  have hy : o = .v i ∧ ∃ s, lent fr i = some s := by
   cases o <;> simp only [isV, reduceCtorEq] at y
   rename_i j
   split at y
   ·rename_i hs
    cases y
    exact ⟨rfl, Option.isSome_iff_exists.mp hs⟩
   ·cases y
  obtain ⟨rfl, s, hs⟩ := hy
  obtain ⟨n, cs, _, _, _, w2, w3, _, _⟩ := lent_ok hs f
  obtain ⟨ds, h1, S1, e1, q1, o1⟩ := is z1 f
  have hr : Ev.rcv m (.ref n) h = true := by cases m <;> simp [isMut] at hm <;> simp [Ev.rcv, lo_l w3]
  have hap : exK m = false → RepL h1 S1 as ds := fun hh => by rw [hh] at q1; exact q1.n
  have fin : ∀ s l l', fr2[i]? = some (some s) → isM (some s) = true → (∃ m' cs', fr'[i]? = some (some (.ref m')) ∧ h1[m']? = some (.lst cs') ∧ RepL h1 S1 l cs') → mtf m l as = some (v, l') → fr1 = fr2.set i (some (s.with l')) →
    EvR P' (.me m (.v i) es) k v M B h S fr fr' fr1 := by
   intro s l l' k1 k2 ⟨m', cs', k3, k4, k5⟩ k6 k7
   rw [w2] at k3; cases k3
   have mn := o1.f.mM k1 k2 w2
   obtain ⟨r, ds', a1, a2, a3⟩ := mtf_ok k6 k4 k5 q1.t hap fun k z y => (o1.f.wS k z).2.1 (y ▸ mn)
   have fw := o1.f.write (l' := l') k1 k2 w2 a3
   subst k7
   refine ⟨r, _, S1, ?_, .of (a2.mono (fun m z => set_ne fun y => (o1.f.wS m z).2.1 (y ▸ mn)) fun _ z => z), fw, ?_, fun j => ?_⟩
   ·simp only [Ev.ev, w2, Option.join, Ev.of_some, Ev.bind_ok, hr, if_true, e1]
    simp only [Option.bind, id, Ev.of_some, Ev.bind_ok, hr, if_true, e1]
    exact a1
   ·refine ⟨by simpa using o1.tr.len, fun m y1 y2 => ?_, o1.tr.sub, fun m y => by simpa using o1.tr.new m y⟩
    have y3 : ¬ Xs M fr' (tchs es) m := fun z => y2 (Xs.mono (by simp only [tch]; intro i hi; simp [hi]) z)
    have y4 : m ≠ n := fun z => y2 ⟨z ▸ mn, i, by simp [tch, mvs, hm], by rw [z]; exact w2⟩
    rw [set_ne (fun (z : n = m) => y4 z.symm)]
    exact o1.tr.keep m y1 y3
   ·rw [← o1.lk j]
    unfold locked
    by_cases hj : i = j
    ·subst hj
     rw [List.getElem?_set_self (List.getElem?_eq_some_iff.mp k1).1, k1]
     exact with_lk
    ·rw [List.getElem?_set_ne hj]
  split at z
  ·rename_i l k1
   have old := o1.f.get k1
   obtain ⟨p, k2, m', cs', rfl, _, k4, k5⟩ := old
   split at z
   ·rename_i v' l' k6
    cases z
    exact fin _ l l' k1 rfl ⟨m', cs', k2, k4, k5⟩ k6 rfl
   ·cases z
  ·rename_i l k1
   have old := o1.f.get k1
   obtain ⟨p, k2, m', cs', rfl, _, k4, k5⟩ := old
   split at z
   ·rename_i v' l' k6
    cases z
    exact fin _ l l' k1 rfl ⟨m', cs', k2, k4, k5⟩ k6 rfl
   ·cases z
  ·cases z
 ·rw [if_neg hm] at z
  replace z := bind_eq_ok z; obtain ⟨x, fr2, z1, z⟩ := z
  replace z := bind_eq_ok z; obtain ⟨as, fr3, z2, z⟩ := z
  replace z := of_eq_ok z; obtain ⟨z, y0⟩ := z; subst y0
  obtain ⟨d, h1, S1, e1, q1, o1⟩ := io z1 f
  obtain ⟨ds, h2, S2, e2, q2, o2⟩ := is z2 o1.f
  have hm' : isMut m = false := by simpa using hm
  have q1' := (q1.tr o1.f o2.tr id (ev_vd e1)).t
  obtain ⟨a1, r, a2, a3⟩ := mef_ok z hm' q1' q2.t
  have hr : Ev.rcv m d h1 = true := by
   unfold mef at z
   split at z
   ·have := q1.t; simp only [RepT, Rep] at this; subst this; rfl
   ·cases z
  exact ⟨r, h2, S2, by simp only [Ev.ev, e1, Ev.bind_ok, hr, if_true, e2, a2], .of a3, (o1.trans o2).weak (by simp only [tch]; intro i hi; simp at hi ⊢; rcases hi with hi | hi <;> simp [hi])⟩
theorem comp_okE {elt : E} {t : T} {cond : Eo} (ii : EviOk P P' it) (ic : EvcOk P P' cond) (ie : EvOk P P' elt) : EvOk P P' (.comp elt t it cond) := fun z f => by
 simp only [ev] at z
 replace z := bind_eq_ok z; obtain ⟨vs, fr2, z1, z⟩ := z
 split at z
 case isFalse => cases z
 rename_i hu
 replace z := of_eq_ok z; obtain ⟨z, y0⟩ := z; subst y0
 simp only [Option.bind_eq_some_iff] at z
 obtain ⟨rs, z2, z3⟩ := z
 obtain ⟨s, h1, S1, e1, q1, q2, o1⟩ := ii z1 f
 have fro := o1.f.ro
 obtain ⟨rs', h2, S2, c1, c2, c3⟩ := comp_ok (f' := fun d h2 => match Ev.bindT t d _ with
    | none => .bad
    | some fr2 => (Ev.evc P' cond fr2 h2).bind fun k h3 => if k then (Ev.ev P' elt fr2 h3).bind fun x h4 => .ok (some x) h4 else .ok none h3) (ck := s.2) o1.f.w (fun q hq => (q2 q hq).1) (fun v o d h S al y q => by
  split at y
  ·cases y
  ·rename_i fr3 y1
   obtain ⟨fr3', b1, b2, _, _⟩ := (fro.al al).bindT y1 q
   rw [b1]
   split at y
   ·rename_i c fr4 y2
    obtain ⟨h3, S3, c1, oc⟩ := ic y2 b2
    have al3 : Al h S h3 S3 := oc.tr.al fun m z => z.1
    split at y
    ·rename_i hc
     subst hc
     split at y
     ·rename_i x fr5 y3
      cases y
      obtain ⟨d', h4, S4, d1, d2, od⟩ := ie y3 (b2.al al3)
      refine ⟨some d', h4, S4, ?_, ⟨d', rfl, d2.n⟩, al3.trans (od.tr.al fun m z => z.1)⟩
      simp only [c1, Ev.bind_ok, if_true, d1]
     ·cases y
    ·rename_i hc
     cases y
     refine ⟨none, h3, S3, ?_, rfl, al3⟩
     simp only [c1, Ev.bind_ok]
     rw [if_neg hc]
   ·cases y) Al.refl z2 q1
 obtain ⟨r, h4, S4, a1, a2, a3⟩ := mkL_ok (o1.f.al c3).w z3 c2
 refine ⟨r, h4, S4, ?_, .of a2, (o1.al c3).al a3⟩
 simp only [Ev.ev, e1, Ev.bind_ok]
 rw [if_pos (o1.f.undef hu)]
 refine Eq.trans (congrArg (fun q : Ev.R (List D) => q.bind fun ds h2 => Ev.alloc ds h2) c1) ?_
 simp only [Ev.bind_ok, a1]
theorem lof_ok (ii : EviOk P P' it) : EvOk P P' (.lof it) := fun z f => by
 simp only [ev] at z
 replace z := bind_eq_ok z; obtain ⟨vs, fr2, z1, z⟩ := z
 replace z := of_eq_ok z; obtain ⟨z, y0⟩ := z; subst y0
 obtain ⟨s, h1, S1, e1, q1, q2, o1⟩ := ii z1 f
 obtain ⟨r, h4, S4, a1, a2, a3⟩ := mkL_ok o1.f.w z q1
 exact ⟨r, h4, S4, by simp only [Ev.ev, e1, Ev.bind_ok, a1], .of a2, o1.al a3⟩
theorem nil_ok : EvsOk P P' .nil := fun {k fr v fr1 M B h S fr'} z f => by
 simp only [evs] at z
 cases z
 refine ⟨[], _, _, by simp only [Ev.evs], ?_, .refl f⟩
 unfold RepKL; split <;> rfl
theorem cons_ok (ie : EvOk P P' e) (is : EvsOk P P' es) : EvsOk P P' (.cons e es) := fun {k fr v fr1 M B h S fr'} z f => by
 simp only [evs] at z
 replace z := bind_eq_ok z; obtain ⟨x, fr2, z1, z⟩ := z
 replace z := bind_eq_ok z; obtain ⟨xs, fr3, z2, z⟩ := z
 cases z
 obtain ⟨d, h1, S1, e1, q1, o1⟩ := ie z1 f
 obtain ⟨ds, h2, S2, e2, q2, o2⟩ := is z2 o1.f
 have q1' := q1.tr (a := e) o1.f o2.tr (by intro z; simp at z; exact z.2) (ev_vd e1)
 refine ⟨d :: ds, h2, S2, by simp only [Ev.evs, e1, Ev.bind_ok, e2], ?_, o1.trans o2⟩
 unfold RepKL at q2 ⊢
 cases k with
 | true => simp only [if_true] at q2 ⊢; exact ⟨d, ds, rfl, q1'.t, q2⟩
 | false =>
  simp only [Bool.false_eq_true, if_false] at q2 ⊢
  exact .cons (by simpa [RepK] using q1') q2
theorem nilA_ok : EvAOk P P' .nil := fun z f => by
 simp only [evA] at z
 cases z
 exact ⟨[], _, _, by simp only [Ev.evs], rfl, .refl f⟩
theorem consA_ok (ie : EvOk P P' e) (is : EvAOk P P' es) : EvAOk P P' (.cons e es) := fun {fr v fr1 M B h S fr'} z f => by
 simp only [evA] at z
 cases y : isV fr e with
 | some i =>
  rw [y] at z
  try simp only at z
  replace z := bind_eq_ok z; obtain ⟨xs, fr3, z2, z⟩ := z
  cases z
  have hy : e = .v i ∧ ∃ s, lent fr i = some s := by
   cases e <;> simp only [isV, reduceCtorEq] at y
   rename_i j
   split at y
   ·rename_i hs
    cases y
    exact ⟨rfl, Option.isSome_iff_exists.mp hs⟩
   ·cases y
  obtain ⟨rfl, s, hs⟩ := hy
  obtain ⟨n, cs, _, _, _, w2, w3, _, _⟩ := lent_ok hs f
  obtain ⟨ds, h2, S2, e2, q2, o2⟩ := is z2 f
  refine ⟨.ref n :: ds, h2, S2, ?_, ⟨_, _, rfl, w2, q2⟩, o2.weak (by simp only [tchs, tch]; intro i hi; simpa using hi)⟩
  simp only [Ev.evs, Ev.ev, w2, Option.join, Option.bind, id, Ev.of_some, Ev.bind_ok, e2]
 | none =>
  rw [y] at z
  try simp only at z
  replace z := bind_eq_ok z; obtain ⟨x, fr2, z1, z⟩ := z
  replace z := bind_eq_ok z; obtain ⟨xs, fr3, z2, z⟩ := z
  cases z
  obtain ⟨d, h1, S1, e1, q1, o1⟩ := ie z1 f
  obtain ⟨ds, h2, S2, e2, q2, o2⟩ := is z2 o1.f
  exact ⟨d :: ds, h2, S2, by simp only [Ev.evs, e1, Ev.bind_ok, e2], ⟨_, _, rfl, q1.n.tr o1.f o2.tr, q2⟩, o1.trans o2⟩
theorem no_ok : EvoOk P P' .no := fun z f => by
 simp only [evo] at z; cases z
 exact ⟨_, _, by simp only [Ev.evo], .refl f⟩
theorem yes_ok (ie : EvOk P P' e) : EvoOk P P' (.yes e) := fun z f => by
 simp only [evo] at z
 replace z := bind_eq_ok z; obtain ⟨x, fr2, z1, z⟩ := z
 replace z := of_eq_ok z; obtain ⟨z, y0⟩ := z; subst y0
 obtain ⟨d, h1, S1, e1, q1, o1⟩ := ie z1 f
 cases x <;> simp [intOf] at z
 subst z
 have q := q1.t
 simp only [RepT, Rep] at q
 subst q
 exact ⟨h1, S1, by simp only [Ev.evo, e1, Ev.bind_ok]; rfl, o1⟩
theorem noc_ok : EvcOk P P' .no := fun z f => by
 simp only [evc] at z; cases z
 exact ⟨_, _, by simp only [Ev.evc], .refl f⟩
theorem yesc_ok (ie : EvTOk P P' e) : EvcOk P P' (.yes e) := fun z f => by
 simp only [evc] at z
 obtain ⟨h1, S1, e1, o1⟩ := ie z f
 exact ⟨h1, S1, by simp only [Ev.evc, e1], o1⟩
theorem t_an (ia : EvTOk P P' a) (ib : EvTOk P P' b) : EvTOk P P' (.an a b) := fun z f => by
 simp only [evT] at z
 replace z := bind_eq_ok z; obtain ⟨k, fr1, z1, z⟩ := z
 obtain ⟨h1, S1, e1, o1⟩ := ia z1 f
 cases k with
 | true =>
  simp only [if_true] at z
  obtain ⟨h2, S2, e2, o2⟩ := ib z o1.f
  exact ⟨h2, S2, by simp only [Ev.evT, e1, Ev.bind_ok, if_true, e2], o1.trans o2⟩
 | false =>
  simp only [Bool.false_eq_true, if_false] at z
  cases z
  exact ⟨h1, S1, by simp only [Ev.evT, e1, Ev.bind_ok]; rfl, o1.weak (by simp only [tch]; intro i hi; simp [hi])⟩
theorem t_orr (ia : EvTOk P P' a) (ib : EvTOk P P' b) : EvTOk P P' (.orr a b) := fun z f => by
 simp only [evT] at z
 replace z := bind_eq_ok z; obtain ⟨k, fr1, z1, z⟩ := z
 obtain ⟨h1, S1, e1, o1⟩ := ia z1 f
 cases k with
 | false =>
  simp only [Bool.false_eq_true, if_false] at z
  obtain ⟨h2, S2, e2, o2⟩ := ib z o1.f
  exact ⟨h2, S2, by simp only [Ev.evT, e1, Ev.bind_ok]; rw [if_neg (by decide)]; exact e2, o1.trans o2⟩
 | true =>
  simp only [if_true] at z
  cases z
  exact ⟨h1, S1, by simp only [Ev.evT, e1, Ev.bind_ok]; rfl, o1.weak (by simp only [tch]; intro i hi; simp [hi])⟩
theorem t_nt (ia : EvTOk P P' a) : EvTOk P P' (.nt a) := fun z f => by
 simp only [evT] at z
 replace z := bind_eq_ok z; obtain ⟨k, fr1, z1, z⟩ := z
 obtain ⟨h1, S1, e1, o1⟩ := ia z1 f
 cases z
 exact ⟨h1, S1, by simp only [Ev.evT, e1, Ev.bind_ok], o1⟩
theorem t_val (ie : EvOk P P' e) (h1 : ∀ fr, evT P e fr = (ev P true e fr).bind fun x fr1 => .ok (truthy x) fr1) (h2 : ∀ fr h, Ev.evT P' e fr h = (Ev.ev P' e fr h).bind fun x h1 => Ev.R.of (Ev.truthy h1 x) h1) : EvTOk P P' e := fun z f => by
 rw [h1] at z
 replace z := bind_eq_ok z; obtain ⟨x, fr1, z1, z⟩ := z
 cases z
 obtain ⟨d, h1, S1, e1, q1, o1⟩ := ie z1 f
 exact ⟨h1, S1, by rw [h2, e1, Ev.bind_ok, truthy_ok q1.t]; rfl, o1⟩
theorem src_ok (ie : EvOk P P' e) {k : Bool} {fr : Fr} {v : V} {fr1 : Fr} {M B : Nat → Prop} {h : Hh} {S : Nat → Prop} {fr' : Ev.Fr} (z : src k fr e (ev P k e fr) = .ok v fr1) (f : FrR M B h S fr fr') :
  ∃ d h' S', Ev.ev P' e fr' h = .ok d h' ∧ RepT h' S' v d ∧ (k = false → ∀ n, d = .ref n → ¬ M n) ∧ Out M B (tch e) h S fr fr' h' S' fr1 := by
 have gen : ev P k e fr = .ok v fr1 → ∃ d h' S', Ev.ev P' e fr' h = .ok d h' ∧ RepT h' S' v d ∧ (k = false → ∀ n, d = .ref n → ¬ M n) ∧ Out M B (tch e) h S fr fr' h' S' fr1 := fun z => by
  obtain ⟨d, h1, S1, e1, q1, o1⟩ := ie z f
  refine ⟨d, h1, S1, e1, q1.t, fun hk n hd => ?_, o1⟩
  subst hk
  have q := q1.n
  cases v <;> simp only [Rep] at q
  ·cases q.symm.trans hd
  ·cases q.symm.trans hd
  ·cases q.symm.trans hd
  ·cases q.symm.trans hd
  ·obtain ⟨_, q, _⟩ := q; cases q.symm.trans hd
  ·obtain ⟨m, ds, q, sm, _⟩ := q; cases q.symm.trans hd; exact (o1.f.wS _ sm).2.1
  ·obtain ⟨m, ds, q, sm, _⟩ := q; cases q.symm.trans hd; exact (o1.f.wS _ sm).2.1
 cases e
 case v i =>
  simp only [src] at z
  replace z := of_eq_ok z; obtain ⟨z, y0⟩ := z; subst y0
  unfold getS at z
  split at z
  ·rename_i l y
   cases z
   obtain ⟨p, e1, m, ds, rfl, y1, y2, y3⟩ := f.get y
   exact ⟨.ref m, h, S, by simp only [Ev.ev, e1, Option.join, Option.bind, id, Ev.of_some], ⟨m, ds, rfl, y2, y3⟩, fun _ n hn => by cases hn; exact y1, .refl f⟩
  ·exact gen (by simp only [ev, z, of_some])
 all_goals exact gen z
theorem seq_ok (ie : EvOk P P' e) : EviOk P P' (.seq e) := fun z f => by
 simp only [evi] at z
 replace z := bind_eq_ok z; obtain ⟨x, fr1, z1, z⟩ := z
 replace z := of_eq_ok z; obtain ⟨z, y0⟩ := z; subst y0
 obtain ⟨d, h1, S1, e1, q1, q2, o1⟩ := src_ok ie z1 f
 obtain ⟨s, a1, a2, a3⟩ := seqOf_ok z q1
 exact ⟨s, h1, S1, by simp only [Ev.evi, e1, Ev.bind_ok, a1, Ev.of_some], a2, fun q hq => ⟨(a3 q hq).2, fun hk => q2 hk _ (a3 q hq).1⟩, o1⟩
theorem rng_okI (is : EvsOk P P' es) : EviOk P P' (.rng es) := fun z f => by
 simp only [evi] at z
 replace z := bind_eq_ok z; obtain ⟨x, fr1, z1, z⟩ := z
 replace z := of_eq_ok z; obtain ⟨z, y0⟩ := z; subst y0
 obtain ⟨d, h1, S1, e1, q1, o1⟩ := is z1 f
 obtain ⟨s, a1, a2⟩ := rng_ok z q1.t
 exact ⟨(s, []), h1, S1, by simp only [Ev.evi, e1, Ev.bind_ok, a1, Ev.of_some], a2, fun q hq => by simp at hq, o1⟩
theorem enum_okI (ie : EvOk P P' e) : EviOk P P' (.enum e) := fun z f => by
 simp only [evi] at z
 replace z := bind_eq_ok z; obtain ⟨x, fr1, z1, z⟩ := z
 replace z := of_eq_ok z; obtain ⟨z, y0⟩ := z; subst y0
 obtain ⟨d, h1, S1, e1, q1, q2, o1⟩ := src_ok ie z1 f
 simp only [Option.map_eq_some_iff] at z
 obtain ⟨l, z, rfl⟩ := z
 obtain ⟨s, a1, a2, a3⟩ := lstS_ok z q1
 exact ⟨(Ev.enumD 0 s.1, s.2), h1, S1, by simp only [Ev.evi, e1, Ev.bind_ok, a1, Option.map, Ev.of_some], enum_ok 0 a2, fun q hq => ⟨(a3 q hq).2, fun hk => q2 hk _ (a3 q hq).1⟩, o1⟩
theorem rev_okI (ie : EvOk P P' e) : EviOk P P' (.rev e) := fun z f => by
 simp only [evi] at z
 replace z := bind_eq_ok z; obtain ⟨x, fr1, z1, z⟩ := z
 replace z := of_eq_ok z; obtain ⟨z, y0⟩ := z; subst y0
 obtain ⟨d, h1, S1, e1, q1, o1⟩ := ie z1 f
 simp only [Option.map_eq_some_iff] at z
 obtain ⟨l, z, rfl⟩ := z
 cases x <;> simp only [tupV, reduceCtorEq] at z
 cases z
 have k1 := q1.t
 simp only [RepT, Rep] at k1
 obtain ⟨ds, y1, k2⟩ := k1
 subst y1
 exact ⟨(ds.reverse, []), h1, S1, by simp only [Ev.evi, e1, Ev.bind_ok, Ev.tupD, Option.map, Ev.of_some], k2.reverse, fun q hq => by simp at hq, o1⟩
end
section
variable {P : Phi} {P' : Ev.Phi} (HP : PhiOk P P')
include HP
mutual
theorem ev_ok : ∀ e : E, EvOk P P' e
 | .c _ => c_ok
 | .v _ => v_ok
 | .tup es => tup_ok (evs_ok es)
 | .lst es => lst_ok (evs_ok es)
 | .bin _ a b => bin_ok (ev_ok a) (ev_ok b)
 | .cmp _ a b => cmp_ok (ev_ok a) (ev_ok b)
 | .nt a => nt_ok (ev_ok a)
 | .neg a => neg_ok (ev_ok a)
 | .an a b => an_ok (ev_ok a) (ev_ok b)
 | .orr a b => orr_ok (ev_ok a) (ev_ok b)
 | .ife t a b => ife_ok (evT_ok t) (ev_ok a) (ev_ok b)
 | .ix a b => ix_ok (ev_ok a) (ev_ok b)
 | .sl a lo hi => sl_ok (ev_ok a) (evo_ok lo) (evo_ok hi)
 | .cl _ es => cl_ok HP (evA_ok es)
 | .bi _ es => bi_ok (evs_ok es)
 | .me _ o es => me_ok (ev_ok o) (evs_ok es)
 | .comp elt _ it cond => comp_okE (evi_ok it) (evc_ok cond) (ev_ok elt)
 | .lof it => lof_ok (evi_ok it)
 | .dget _ a => dget_ok (ev_ok a)
 | .ttp a => ttp_ok (ev_ok a)
theorem evT_ok : ∀ e : E, EvTOk P P' e
 | .an a b => t_an (evT_ok a) (evT_ok b)
 | .orr a b => t_orr (evT_ok a) (evT_ok b)
 | .nt a => t_nt (evT_ok a)
 | .c x => t_val c_ok (fun _ => by simp only [evT]) (fun _ _ => by simp only [Ev.evT])
 | .v x => t_val v_ok (fun _ => by simp only [evT]) (fun _ _ => by simp only [Ev.evT])
 | .tup es => t_val (tup_ok (evs_ok es)) (fun _ => by simp only [evT]) (fun _ _ => by simp only [Ev.evT])
 | .lst es => t_val (lst_ok (evs_ok es)) (fun _ => by simp only [evT]) (fun _ _ => by simp only [Ev.evT])
 | .bin _ a b => t_val (bin_ok (ev_ok a) (ev_ok b)) (fun _ => by simp only [evT]) (fun _ _ => by simp only [Ev.evT])
 | .cmp _ a b => t_val (cmp_ok (ev_ok a) (ev_ok b)) (fun _ => by simp only [evT]) (fun _ _ => by simp only [Ev.evT])
 | .neg a => t_val (neg_ok (ev_ok a)) (fun _ => by simp only [evT]) (fun _ _ => by simp only [Ev.evT])
 | .ife t a b => t_val (ife_ok (evT_ok t) (ev_ok a) (ev_ok b)) (fun _ => by simp only [evT]) (fun _ _ => by simp only [Ev.evT])
 | .ix a b => t_val (ix_ok (ev_ok a) (ev_ok b)) (fun _ => by simp only [evT]) (fun _ _ => by simp only [Ev.evT])
 | .sl a lo hi => t_val (sl_ok (ev_ok a) (evo_ok lo) (evo_ok hi)) (fun _ => by simp only [evT]) (fun _ _ => by simp only [Ev.evT])
 | .cl _ es => t_val (cl_ok HP (evA_ok es)) (fun _ => by simp only [evT]) (fun _ _ => by simp only [Ev.evT])
 | .bi _ es => t_val (bi_ok (evs_ok es)) (fun _ => by simp only [evT]) (fun _ _ => by simp only [Ev.evT])
 | .me _ o es => t_val (me_ok (ev_ok o) (evs_ok es)) (fun _ => by simp only [evT]) (fun _ _ => by simp only [Ev.evT])
 | .comp elt _ it cond => t_val (comp_okE (evi_ok it) (evc_ok cond) (ev_ok elt)) (fun _ => by simp only [evT]) (fun _ _ => by simp only [Ev.evT])
 | .lof it => t_val (lof_ok (evi_ok it)) (fun _ => by simp only [evT]) (fun _ _ => by simp only [Ev.evT])
 | .dget _ a => t_val (dget_ok (ev_ok a)) (fun _ => by simp only [evT]) (fun _ _ => by simp only [Ev.evT])
 | .ttp a => t_val (ttp_ok (ev_ok a)) (fun _ => by simp only [evT]) (fun _ _ => by simp only [Ev.evT])
theorem evs_ok : ∀ e : Es, EvsOk P P' e
 | .nil => nil_ok
 | .cons e es => cons_ok (ev_ok e) (evs_ok es)
theorem evA_ok : ∀ e : Es, EvAOk P P' e
 | .nil => nilA_ok
 | .cons e es => consA_ok (ev_ok e) (evA_ok es)
theorem evo_ok : ∀ e : Eo, EvoOk P P' e
 | .no => no_ok
 | .yes e => yes_ok (ev_ok e)
theorem evc_ok : ∀ e : Eo, EvcOk P P' e
 | .no => noc_ok
 | .yes e => yesc_ok (evT_ok e)
theorem evi_ok : ∀ e : It, EviOk P P' e
 | .seq e => seq_ok (ev_ok e)
 | .rng es => rng_okI (evs_ok es)
 | .enum a => enum_okI (ev_ok a)
 | .rev a => rev_okI (ev_ok a)
end
end
end Pv
namespace Pv
open Ev (D O Hh BOp COp TY BI ME T E Es Eo It S Ss Fn big deep b2i rep mulOk ixN atI sIx cut joinS sortS slots lstOf)
structure Tr (M B : Nat → Prop) (h : Hh) (S : Nat → Prop) (M' : Nat → Prop) (h' : Hh) (S' : Nat → Prop) : Prop where
 len : h.length ≤ h'.length
 keep : ∀ m, m < h.length → ¬ M m → h'[m]? = h[m]?
 sub : ∀ m, S m → S' m
 new : ∀ m, S' m → S m ∨ (h.length ≤ m ∧ m < h'.length) ∨ (M m ∧ ¬ B m)
 newM : ∀ m, M' m → M m ∨ h.length ≤ m
structure OutS (M B : Nat → Prop) (h : Hh) (S : Nat → Prop) (fr : Fr) (fr' : Ev.Fr) (M' : Nat → Prop) (h' : Hh) (S' : Nat → Prop) (fr1 : Fr) (fr1' : Ev.Fr) : Prop where
 f : FrR M' B h' S' fr1 fr1'
 tr : Tr M B h S M' h' S'
 lk : ∀ i, locked fr1 i = locked fr i
 rf : ∀ i, locked fr i = true → fr1'[i]? = fr'[i]?
noncomputable def FlR (h : Hh) (S : Nat → Prop) : Fl → Ev.Fl → Prop
 | .nx, g => g = .nx
 | .bk, g => g = .bk
 | .ct, g => g = .ct
 | .ret v, g => ∃ d, g = .ret d ∧ Rep h S v d
section
variable {M B M' M1 M2 : Nat → Prop} {h h' h1 h2 : Hh} {S S' S1 S2 : Nat → Prop} {fr fr1 fr2 : Fr} {fr' fr1' fr2' : Ev.Fr} {c c1 c2 : List Nat} {v : V} {d : D}
theorem OutS.refl (f : FrR M B h S fr fr') : OutS M B h S fr fr' M h S fr fr' := ⟨f, ⟨Nat.le_refl _, fun _ _ _ => rfl, fun _ q => q, fun _ q => .inl q, fun _ q => .inl q⟩, fun _ => rfl, fun _ _ => rfl⟩
theorem Out.s (o : Out M B c h S fr fr' h1 S1 fr1) : OutS M B h S fr fr' M h1 S1 fr1 fr' := ⟨o.f, ⟨o.tr.len, fun m y1 y2 => o.tr.keep m y1 (fun z => y2 z.1), o.tr.sub, fun m q => (o.tr.new m q).imp id .inl, fun _ q => .inl q⟩, o.lk, fun _ _ => rfl⟩
theorem OutS.trans (f0 : FrR M B h S fr fr') (a : OutS M B h S fr fr' M1 h1 S1 fr1 fr1') (b : OutS M1 B h1 S1 fr1 fr1' M2 h2 S2 fr2 fr2') : OutS M B h S fr fr' M2 h2 S2 fr2 fr2' where
 f := b.f
 tr := ⟨Nat.le_trans a.tr.len b.tr.len, fun m y1 y2 => by
   rw [b.tr.keep m (Nat.lt_of_lt_of_le y1 a.tr.len) (fun z => by
    rcases a.tr.newM m z with z | z
    ·exact y2 z
    ·omega), a.tr.keep m y1 y2], fun m q => b.tr.sub m (a.tr.sub m q), fun m q => by
   rcases b.tr.new m q with q | q | q
   ·rcases a.tr.new m q with q | q | q
    ·exact .inl q
    ·exact .inr (.inl ⟨q.1, Nat.lt_of_lt_of_le q.2 b.tr.len⟩)
    ·exact .inr (.inr q)
   ·exact .inr (.inl ⟨Nat.le_trans a.tr.len q.1, q.2⟩)
   ·rcases a.tr.newM m q.1 with z | z
    ·exact .inr (.inr ⟨z, q.2⟩)
    ·exact .inr (.inl ⟨z, Nat.lt_of_lt_of_le (a.f.wM m q.1) b.tr.len⟩), fun m q => by
   rcases b.tr.newM m q with q | q
   ·exact a.tr.newM m q
   ·exact .inr (Nat.le_trans a.tr.len q)⟩
 lk := fun i => (b.lk i).trans (a.lk i)
 rf := fun i q => (b.rf i (by rw [a.lk i]; exact q)).trans (a.rf i q)
theorem FrR.kind (f : FrR M B h S fr fr') (g : Option Sl → Option Sl → Prop) (hl : fr1.length = fr.length) (hg : ∀ (i : Nat) o, fr1[i]? = some o → ∃ o0, fr[i]? = some o0 ∧ (o = o0 ∨ (∃ l, o0 = some (.own l) ∧ o = some (.val (.lst l))) ∨ (∃ l, o0 = some (.bor l) ∧ o = some (.ro l)))) :
  ∃ M' S', OutS M B h S fr fr' M' h S' fr1 fr' := by
 let X : Nat → Prop := fun m => ∃ (i : Nat) (l : List V), fr[i]? = some (some (Sl.own l)) ∧ fr1[i]? = some (some (Sl.val (V.lst l))) ∧ fr'[i]? = some (some (D.ref m))
 let Y : Nat → Prop := fun m => ∃ (i : Nat) (l : List V), fr[i]? = some (some (Sl.bor l)) ∧ fr1[i]? = some (some (Sl.ro l)) ∧ fr'[i]? = some (some (D.ref m))
 have xM : ∀ m, X m → M m ∧ ¬ B m := fun m ⟨i, l, a, _, b⟩ => by
  obtain ⟨m', ds, e, q, _⟩ := f.sl i _ _ a b; cases e; exact q
 have yM : ∀ m, Y m → M m ∧ B m := fun m ⟨i, l, a, _, b⟩ => by
  obtain ⟨m', ds, e, q, _⟩ := f.sl i _ _ a b; cases e; exact q
 have mono : ∀ {l : List V} {ds : List D}, RepL h S l ds → RepL h (fun m => S m ∨ X m) l ds := fun q => q.mono (fun _ _ => rfl) fun _ z => .inl z
 refine ⟨fun m => M m ∧ ¬ X m ∧ ¬ Y m, fun m => S m ∨ X m, ⟨⟨fun m q => ?_, fun m q => f.wM m q.1, f.wB, by rw [hl, f.len], fun i o p e1 e2 => ?_, fun i j o o' m y1 y2 y3 y4 y5 y6 => ?_⟩, ⟨Nat.le_refl _, fun _ _ _ => rfl, fun _ q => .inl q, fun m q => ?_, fun m q => .inl q.1⟩, fun i => ?_, fun _ _ => rfl⟩⟩
 ·rcases q with q | q
  ·exact ⟨(f.wS m q).1, fun z => (f.wS m q).2.1 z.1, (f.wS m q).2.2⟩
  ·exact ⟨f.wM m (xM m q).1, fun z => z.2.1 q, (xM m q).2⟩
 ·obtain ⟨o0, e0, k⟩ := hg i o e1
  have old := f.sl i o0 p e0 e2
  rcases k with rfl | ⟨l, rfl, rfl⟩ | ⟨l, rfl, rfl⟩
  ·rcases o with _ | s
   ·exact old
   ·cases s with
    | val v => obtain ⟨d, e, q⟩ := old; exact ⟨d, e, q.mono (fun _ _ => rfl) fun _ z => .inl z⟩
    | own l =>
     obtain ⟨m, ds, rfl, z, y, q⟩ := old
     refine ⟨m, ds, rfl, ⟨⟨z.1, fun ⟨j, l', a1, a2, a3⟩ => ?_, fun ⟨j, l', a1, a2, a3⟩ => ?_⟩, z.2⟩, y, mono q⟩
     ·have := f.inj i j _ _ m e0 a1 rfl rfl e2 a3; subst this; rw [e1] at a2; cases a2
     ·have := f.inj i j _ _ m e0 a1 rfl rfl e2 a3; subst this; rw [e1] at a2; cases a2
    | bor l =>
     obtain ⟨m, ds, rfl, z, y, q⟩ := old
     refine ⟨m, ds, rfl, ⟨⟨z.1, fun ⟨j, l', a1, a2, a3⟩ => ?_, fun ⟨j, l', a1, a2, a3⟩ => ?_⟩, z.2⟩, y, mono q⟩
     ·have := f.inj i j _ _ m e0 a1 rfl rfl e2 a3; subst this; rw [e1] at a2; cases a2
     ·have := f.inj i j _ _ m e0 a1 rfl rfl e2 a3; subst this; rw [e1] at a2; cases a2
    | ro l => obtain ⟨m, ds, rfl, z, y, q⟩ := old; exact ⟨m, ds, rfl, fun w => z w.1, y, mono q⟩
  ·obtain ⟨m, ds, rfl, z, y, q⟩ := old
   exact ⟨.ref m, rfl, m, ds, rfl, .inr ⟨i, l, e0, e1, e2⟩, y, mono q⟩
  ·obtain ⟨m, ds, rfl, z, y, q⟩ := old
   exact ⟨m, ds, rfl, fun w => w.2.2 ⟨i, l, e0, e1, e2⟩, y, mono q⟩
 ·have kd : ∀ (i : Nat) o, fr1[i]? = some o → isM o = true → ∃ o0, fr[i]? = some o0 ∧ isM o0 = true := fun i o w1 w2 => by
   obtain ⟨o0, e0, k⟩ := hg i o w1
   rcases k with rfl | ⟨l, rfl, rfl⟩ | ⟨l, rfl, rfl⟩
   ·exact ⟨o, e0, w2⟩
   ·cases w2
   ·cases w2
  obtain ⟨oi, k1, k2⟩ := kd i o y1 y3
  obtain ⟨oj, k3, k4⟩ := kd j o' y2 y4
  exact f.inj i j oi oj m k1 k3 k2 k4 y5 y6
 ·rcases q with q | q
  ·exact .inl q
  ·exact .inr (.inr (xM m q))
 ·unfold locked
  cases z : fr1[i]? with
  | none =>
   have : fr[i]? = none := by rw [List.getElem?_eq_none_iff] at z ⊢; omega
   rw [this]
  | some o =>
   obtain ⟨o0, e0, k⟩ := hg i o z
   rw [e0]
   rcases k with rfl | ⟨l, rfl, rfl⟩ | ⟨l, rfl, rfl⟩ <;> rfl
theorem FrR.shut (f : FrR M B h S fr fr') : ∃ M' S', OutS M B h S fr fr' M' h S' (shutF fr) fr' := by
 refine f.kind (fun _ _ => True) (by simp [shutF]) fun i o e => ?_
 unfold shutF at e
 rw [List.getElem?_map] at e
 cases z : fr[i]? with
 | none => rw [z] at e; cases e
 | some o0 =>
  rw [z] at e; cases e
  refine ⟨o0, rfl, ?_⟩
  rcases o0 with _ | s
  ·exact .inl rfl
  ·cases s with
   | own l => exact .inr (.inl ⟨l, rfl, rfl⟩)
   | _ => exact .inl rfl
theorem FrR.walk : ∀ (is : List Nat) {M : Nat → Prop} {S : Nat → Prop} {fr : Fr}, FrR M B h S fr fr' → ∃ M' S', OutS M B h S fr fr' M' h S' (walkF is fr) fr'
 | [], _, _, _, f => ⟨_, _, .refl f⟩
 | i :: is, M, S, fr, f => by
  have one : ∃ M1 S1, OutS M B h S fr fr' M1 h S1 (match fr[i]? with | some (some s) => fr.set i (some s.walk) | _ => fr) fr' := by
   split
   ·rename_i s z
    have hl := (List.getElem?_eq_some_iff.mp z).1
    refine f.kind (fun _ _ => True) (by simp) fun j o e => ?_
    by_cases hj : i = j
    ·subst hj
     rw [List.getElem?_set_self hl] at e
     cases e
     refine ⟨_, z, ?_⟩
     cases s with
     | own l => exact .inr (.inl ⟨l, rfl, rfl⟩)
     | bor l => exact .inr (.inr ⟨l, rfl, rfl⟩)
     | _ => exact .inl rfl
    ·rw [List.getElem?_set_ne hj] at e
     exact ⟨o, e, .inl rfl⟩
   ·exact ⟨M, S, .refl f⟩
  obtain ⟨M1, S1, o1⟩ := one
  obtain ⟨M2, S2, o2⟩ := FrR.walk is o1.f
  exact ⟨M2, S2, o1.trans f o2⟩
theorem FrR.own (f : FrR M B h S fr fr') {i : Nat} {l : List V} {ds : List D} (e : put fr i (.own l) = some fr1) (q : RepL h S l ds) : OutS M B h S fr fr' (fun m => M m ∨ m = h.length) (h ++ [.lst ds]) S fr1 (fr'.set i (some (.ref h.length))) := by
 have hx : fr1 = fr.set i (some (.own l)) ∧ locked fr i = false := by
  unfold put at e
  unfold locked
  split at e
  ·cases e
  ·cases e
  ·rename_i k1 k2
   cases e
   refine ⟨rfl, ?_⟩
   cases z : fr[i]? with
   | none => rfl
   | some o =>
    rcases o with _ | s
    ·rfl
    ·cases s with
     | bor l => exact absurd z (k1 l)
     | ro l => exact absurd z (k2 l)
     | _ => rfl
 obtain ⟨rfl, hk⟩ := hx
 have kp : ∀ m, m < h.length → (h ++ [O.lst ds])[m]? = h[m]? := fun m z => by rw [List.getElem?_append_left z]
 have kS : ∀ m, S m → (h ++ [O.lst ds])[m]? = h[m]? := fun m z => kp m (f.w m z)
 refine ⟨⟨fun m y => ⟨by have := (f.wS m y).1; simp; omega, fun z => ?_, (f.wS m y).2.2⟩, fun m y => ?_, fun m y => by have := f.wB m y; simp; omega, by simp [f.len], fun j o p y1 y2 => ?_, fun j k o o' m y1 y2 y3 y4 y5 y6 => ?_⟩, ⟨by simp, fun m y _ => kp m y, fun _ z => z, fun _ z => .inl z, fun m z => z.imp id (fun z => by omega)⟩, fun j => ?_, fun j hj => ?_⟩
 ·rcases z with z | z
  ·exact (f.wS m y).2.1 z
  ·have := (f.wS m y).1; omega
 ·rcases y with y | y
  ·have := f.wM m y; simp; omega
  ·subst y; simp
 ·by_cases hj : i = j
  ·subst hj
   have hl : i < fr.length := by have := (List.getElem?_eq_some_iff.mp y1).1; simpa using this
   rw [List.getElem?_set_self hl] at y1
   rw [List.getElem?_set_self (by rw [← f.len]; exact hl)] at y2
   cases y1; cases y2
   exact ⟨h.length, ds, rfl, ⟨.inr rfl, fun z => by have := f.wB _ z; omega⟩, by simp, q.mono kS fun _ z => z⟩
  ·rw [List.getElem?_set_ne hj] at y1 y2
   have old := f.sl j o p y1 y2
   rcases o with _ | s
   ·exact old
   ·cases s with
    | val v => obtain ⟨d, e, q⟩ := old; exact ⟨d, e, q.mono kS fun _ z => z⟩
    | own l => obtain ⟨m, es, rfl, z, y, q⟩ := old; exact ⟨m, es, rfl, ⟨.inl z.1, z.2⟩, by rw [kp m (f.wM m z.1)]; exact y, q.mono kS fun _ z => z⟩
    | bor l => obtain ⟨m, es, rfl, z, y, q⟩ := old; exact ⟨m, es, rfl, ⟨.inl z.1, z.2⟩, by rw [kp m (f.wM m z.1)]; exact y, q.mono kS fun _ z => z⟩
    | ro l =>
     obtain ⟨m, es, rfl, z, y, q⟩ := old
     have hm := (List.getElem?_eq_some_iff.mp y).1
     exact ⟨m, es, rfl, fun w => by rcases w with w | w; exact z w; omega, by rw [kp m hm]; exact y, q.mono kS fun _ z => z⟩
 ·have low : ∀ (j : Nat) o, i ≠ j → fr[j]? = some o → isM o = true → fr'[j]? = some (some (.ref m)) → m < h.length := fun j o _ w1 w2 w3 => f.wM m (f.mM w1 w2 w3)
  have new : ∀ (j : Nat), j < fr.length → i = j → (fr'.set i (some (.ref h.length)))[j]? = some (some (.ref m)) → m = h.length := fun j hl hj w => by
   subst hj
   rw [List.getElem?_set_self (by rw [← f.len]; exact hl)] at w
   cases w; rfl
  have lj : j < fr.length := by have := (List.getElem?_eq_some_iff.mp y1).1; simpa using this
  have lk : k < fr.length := by have := (List.getElem?_eq_some_iff.mp y2).1; simpa using this
  by_cases hj : i = j
  ·by_cases hk2 : i = k
   ·rw [← hj, ← hk2]
   ·have a := new j lj hj y5
    rw [List.getElem?_set_ne hk2] at y2 y6
    have b := low k o' hk2 y2 y4 y6
    omega
  ·by_cases hk2 : i = k
   ·have a := new k lk hk2 y6
    rw [List.getElem?_set_ne hj] at y1 y5
    have b := low j o hj y1 y3 y5
    omega
   ·rw [List.getElem?_set_ne hj] at y1 y5
    rw [List.getElem?_set_ne hk2] at y2 y6
    exact f.inj j k o o' m y1 y2 y3 y4 y5 y6
 ·by_cases hj : i = j
  ·subst hj
   rw [hk]
   unfold locked
   by_cases hl : i < fr.length
   ·rw [List.getElem?_set_self hl]; rfl
   ·rw [List.getElem?_eq_none (by simpa using hl)]
  ·unfold locked; rw [List.getElem?_set_ne hj]
 ·have : i ≠ j := fun z => by subst z; rw [hk] at hj; cases hj
  rw [List.getElem?_set_ne this]
end
inductive ExR (P' : Ev.Phi) (w : Nat) (s : S) (g : Fl) (M B : Nat → Prop) (h : Hh) (S : Nat → Prop) (fr : Fr) (fr' : Ev.Fr) (fr1 : Fr) : Prop
 | mk (g' : Ev.Fl) (fr1' : Ev.Fr) (M' : Nat → Prop) (h' : Hh) (S' : Nat → Prop) (c0 : Ev.ex P' w s fr' h = .ok (g', fr1') h') (c1 : FlR h' S' g g') (c2 : OutS M B h S fr fr' M' h' S' fr1 fr1') : ExR P' w s g M B h S fr fr' fr1
inductive ExsR (P' : Ev.Phi) (w : Nat) (s : Ss) (g : Fl) (M B : Nat → Prop) (h : Hh) (S : Nat → Prop) (fr : Fr) (fr' : Ev.Fr) (fr1 : Fr) : Prop
 | mk (g' : Ev.Fl) (fr1' : Ev.Fr) (M' : Nat → Prop) (h' : Hh) (S' : Nat → Prop) (c0 : Ev.exs P' w s fr' h = .ok (g', fr1') h') (c1 : FlR h' S' g g') (c2 : OutS M B h S fr fr' M' h' S' fr1 fr1') : ExsR P' w s g M B h S fr fr' fr1
section
variable (P : Phi) (P' : Ev.Phi) (w : Nat)
noncomputable def ExOk (s : S) : Prop := ∀ {fr : Fr} {g : Fl} {fr1 : Fr} {M B : Nat → Prop} {h : Hh} {S : Nat → Prop} {fr' : Ev.Fr}, ex P w s fr = .ok g fr1 → FrR M B h S fr fr' → ExR P' w s g M B h S fr fr' fr1
noncomputable def ExsOk (s : Ss) : Prop := ∀ {fr : Fr} {g : Fl} {fr1 : Fr} {M B : Nat → Prop} {h : Hh} {S : Nat → Prop} {fr' : Ev.Fr}, exs P w s fr = .ok g fr1 → FrR M B h S fr fr' → ExsR P' w s g M B h S fr fr' fr1
end
section
variable {P : Phi} {P' : Ev.Phi} {w : Nat} (HP : PhiOk P P')
include HP
theorem sset_ok {i : Nat} {e : E} : ExOk P P' w (.set i e) := fun {fr g fr1 M B h S fr'} z f => by
 simp only [ex] at z
 replace z := bind_eq_ok z; obtain ⟨x, fr2, z1, z⟩ := z
 by_cases hn : isNew e = true
 ·rw [if_pos hn] at z
  have key : ∃ l ds h1 S1, x = .lst l ∧ RepL h1 S1 l ds ∧ Ev.ev P' e fr' h = .ok (.ref h1.length) (h1 ++ [.lst ds]) ∧ Out M B (tch e) h S fr fr' h1 S1 fr2 := by
   cases e <;> simp only [isNew, Bool.false_eq_true] at hn
   case lst es =>
    simp only [ev] at z1
    replace z1 := bind_eq_ok z1; obtain ⟨l, fr3, z2, z1⟩ := z1
    replace z1 := of_eq_ok z1; obtain ⟨z1, y0⟩ := z1; subst y0
    unfold mkL at z1
    split at z1
    case isFalse => cases z1
    rename_i hk
    cases z1
    obtain ⟨ds, h1, S1, e1, q1, o1⟩ := evs_ok HP es z2 f
    refine ⟨l, ds, h1, S1, rfl, q1.n, ?_, o1⟩
    simp only [Ev.ev, e1, Ev.bind_ok, Ev.alloc]
    rw [if_pos (by rw [← q1.n.length]; exact hk)]
   case lof it =>
    simp only [ev] at z1
    replace z1 := bind_eq_ok z1; obtain ⟨l, fr3, z2, z1⟩ := z1
    replace z1 := of_eq_ok z1; obtain ⟨z1, y0⟩ := z1; subst y0
    unfold mkL at z1
    split at z1
    case isFalse => cases z1
    rename_i hk
    cases z1
    obtain ⟨s, h1, S1, e1, q1, q2, o1⟩ := evi_ok HP it z2 f
    refine ⟨l, s.1, h1, S1, rfl, q1, ?_, o1⟩
    simp only [Ev.ev, e1, Ev.bind_ok, Ev.alloc]
    rw [if_pos (by rw [← q1.length]; exact hk)]
  obtain ⟨l, ds, h1, S1, rfl, q1, e1, o1⟩ := key
  simp only at z
  replace z := bind_eq_ok z; obtain ⟨fr3, fr4, z2, z⟩ := z
  replace z2 := of_eq_ok z2; obtain ⟨z2, y0⟩ := z2; subst y0
  cases z
  have o2 := o1.f.own z2 q1
  exact ⟨.nx, _, _, _, _, by simp only [Ev.ex, e1, Ev.bind_ok], rfl, o1.s.trans f o2⟩
 ·rw [if_neg hn] at z
  replace z := bind_eq_ok z; obtain ⟨fr3, fr4, z2, z⟩ := z
  replace z2 := of_eq_ok z2; obtain ⟨z2, y0⟩ := z2; subst y0
  cases z
  obtain ⟨d, h1, S1, e1, q1, o1⟩ := ev_ok HP e z1 f
  obtain ⟨f2, l2, r2⟩ := o1.f.set z2 q1.n
  refine ⟨.nx, _, _, _, _, by simp only [Ev.ex, e1, Ev.bind_ok], rfl, o1.s.trans f ⟨f2, (OutS.refl f2).tr, l2, r2⟩⟩
theorem setT_ok {l : List Nat} {e : E} : ExOk P P' w (.setT l e) := fun {fr g fr1 M B h S fr'} z f => by
 simp only [ex] at z
 replace z := bind_eq_ok z; obtain ⟨x, fr2, z1, z⟩ := z
 replace z := bind_eq_ok z; obtain ⟨fr3, fr4, z2, z⟩ := z
 replace z2 := of_eq_ok z2; obtain ⟨z2, y0⟩ := z2; subst y0
 cases z
 obtain ⟨d, h1, S1, e1, q1, o1⟩ := ev_ok HP e z1 f
 obtain ⟨fr3', b1, f2, l2, r2⟩ := o1.f.bindT z2 q1.n
 exact ⟨.nx, _, _, _, _, by simp only [Ev.ex, e1, Ev.bind_ok, b1], rfl, o1.s.trans f ⟨f2, (OutS.refl f2).tr, l2, r2⟩⟩
theorem exp_ok {e : E} : ExOk P P' w (.exp e) := fun {fr g fr1 M B h S fr'} z f => by
 simp only [ex] at z
 replace z := bind_eq_ok z; obtain ⟨x, fr2, z1, z⟩ := z
 cases z
 obtain ⟨d, h1, S1, e1, q1, o1⟩ := ev_ok HP e z1 f
 exact ⟨.nx, _, _, _, _, by simp only [Ev.ex, e1, Ev.bind_ok], rfl, o1.s⟩
theorem ret_ok {e : E} : ExOk P P' w (.ret e) := fun {fr g fr1 M B h S fr'} z f => by
 simp only [ex] at z
 replace z := bind_eq_ok z; obtain ⟨x, fr2, z1, z⟩ := z
 cases z
 obtain ⟨M1, S1, o1⟩ := f.shut
 obtain ⟨d, h2, S2, e1, q1, o2⟩ := ev_ok HP e z1 o1.f
 exact ⟨.ret d, _, _, _, _, by simp only [Ev.ex, e1, Ev.bind_ok], ⟨d, rfl, q1.n⟩, o1.trans f o2.s⟩
omit HP in
theorem for_okL {F : V → Fr → R Fl} {F' : D → Ev.Fr → Hh → Ev.R (Ev.Fl × Ev.Fr)} {ck : List (Nat × List D)} {B : Nat → Prop} {M0 : Nat → Prop} {h0 : Hh} {S0 : Nat → Prop} {fr0 : Fr} {fr0' : Ev.Fr} (f0 : FrR M0 B h0 S0 fr0 fr0') (st : ∀ q ∈ ck, lstOf h0 q.1 = some q.2 ∧ ¬ M0 q.1)
  (turn : ∀ v d fr g fr1 M h S fr', F v fr = .ok g fr1 → FrR M B h S fr fr' → Rep h S v d → ∃ g' fr1' M' h' S', F' d fr' h = .ok (g', fr1') h' ∧ FlR h' S' g g' ∧ OutS M B h S fr fr' M' h' S' fr1 fr1') :
  ∀ {vs : List V} {ds : List D} {fr : Fr} {g : Fl} {fr1 : Fr} {M : Nat → Prop} {h : Hh} {S : Nat → Prop} {fr' : Ev.Fr}, forL F vs fr = .ok g fr1 → OutS M0 B h0 S0 fr0 fr0' M h S fr fr' → RepL h S vs ds →
  ∃ g' fr1' M' h' S', Ev.forL F' ck ds fr' h = .ok (g', fr1') h' ∧ FlR h' S' g g' ∧ OutS M0 B h0 S0 fr0 fr0' M' h' S' fr1 fr1'
 | [], ds, fr, g, fr1, M, h, S, fr', e, o, q => by
  simp only [forL] at e; simp only [RepL] at q; subst q
  cases e
  refine ⟨.nx, fr', M, h, S, ?_, rfl, o⟩
  simp only [Ev.forL]
  rw [if_pos (stays_of fun x hx => lst_keep (st x hx).1 (o.tr.keep _ (lst_lt (st x hx).1) (st x hx).2))]
 | v :: vs, ds, fr, g, fr1, M, h, S, fr', e, o, q => by
  simp only [forL] at e
  replace e := bind_eq_ok e; obtain ⟨p, fr2, e1, e⟩ := e
  simp only [RepL] at q
  obtain ⟨d, es, rfl, q1, q2⟩ := q
  obtain ⟨g', fr2', M2, h2, S2, t1, t2, t3⟩ := turn v d fr p fr2 M h S fr' e1 o.f q1
  have o2 := o.trans f0 t3
  have st0 : Ev.stays h ck = true := stays_of fun x hx => lst_keep (st x hx).1 (o.tr.keep _ (lst_lt (st x hx).1) (st x hx).2)
  have q2' : RepL h2 S2 vs es := q2.mono (fun m z => t3.tr.keep m (o.f.wS m z).1 (o.f.wS m z).2.1) t3.tr.sub
  cases p with
  | nx =>
   simp only [FlR] at t2; subst t2
   simp only at e
   obtain ⟨g'', fr3', M3, h3, S3, u1, u2, u3⟩ := for_okL f0 st turn e o2 q2'
   refine ⟨g'', fr3', M3, h3, S3, ?_, u2, u3⟩
   simp only [Ev.forL]
   rw [if_pos st0, t1, Ev.bind_ok]
   exact u1
  | ct =>
   simp only [FlR] at t2; subst t2
   simp only at e
   obtain ⟨g'', fr3', M3, h3, S3, u1, u2, u3⟩ := for_okL f0 st turn e o2 q2'
   refine ⟨g'', fr3', M3, h3, S3, ?_, u2, u3⟩
   simp only [Ev.forL]
   rw [if_pos st0, t1, Ev.bind_ok]
   exact u1
  | bk =>
   simp only [FlR] at t2; subst t2
   simp only at e
   cases e
   refine ⟨.nx, fr2', M2, h2, S2, ?_, rfl, o2⟩
   simp only [Ev.forL]
   rw [if_pos st0, t1, Ev.bind_ok]
  | ret x =>
   simp only [FlR] at t2
   obtain ⟨d2, rfl, t2⟩ := t2
   simp only at e
   cases e
   refine ⟨.ret d2, fr2', M2, h2, S2, ?_, ⟨d2, rfl, t2⟩, o2⟩
   simp only [Ev.forL]
   rw [if_pos st0, t1, Ev.bind_ok]
theorem for_ok {t : T} {it : It} {b : Ss} (ib : ExsOk P P' w b) : ExOk P P' w (.for t it b) := fun {fr g fr1 M B h S fr'} z f => by
 simp only [ex] at z
 replace z := bind_eq_ok z; obtain ⟨vs, fr2, z1, z⟩ := z
 obtain ⟨M1, S1, o1⟩ := f.walk (itv it)
 obtain ⟨s, h2, S2, e1, q1, q2, o2⟩ := evi_ok HP it z1 o1.f
 have o3 := o1.trans f o2.s
 obtain ⟨g', fr1', M', h', S', u1, u2, u3⟩ := for_okL (F' := fun d fr2 h2 => match Ev.bindT t d fr2 with
   | some fr3 => Ev.exs P' w b fr3 h2
   | none => .bad) (ck := s.2) o2.f (fun q hq => ⟨(q2 q hq).1, (q2 q hq).2 rfl⟩) (fun v d fr g fr1 M h S fr' y f q => by
  split at y
  ·rename_i fr3 y1
   obtain ⟨fr3', b1, b2, b3, b4⟩ := f.bindT y1 q
   rw [b1]
   obtain ⟨g', fr1', M', h', S', c1, c2, c3⟩ := ib y b2
   exact ⟨g', fr1', M', h', S', c1, c2, (⟨b2, (OutS.refl b2).tr, b3, b4⟩ : OutS M _ h S fr fr' M h S fr3 fr3').trans f c3⟩
  ·cases y) z (OutS.refl o2.f) q1
 refine ⟨g', fr1', M', h', S', ?_, u2, o3.trans f u3⟩
 simp only [Ev.ex, e1, Ev.bind_ok]
 exact u1
theorem whl_ok {t : E} {b : Ss} (ib : ExsOk P P' w b) : ∀ (n : Nat) {fr : Fr} {g : Fl} {fr1 : Fr} {M B : Nat → Prop} {h : Hh} {S : Nat → Prop} {fr' : Ev.Fr}, whlL (fun fr2 => evT P t fr2) (fun fr2 => exs P w b fr2) n fr = .ok g fr1 → FrR M B h S fr fr' →
  ∃ g' fr1' M' h' S', Ev.whlL (fun fr2 h2 => Ev.evT P' t fr2 h2) (fun fr2 h2 => Ev.exs P' w b fr2 h2) n fr' h = .ok (g', fr1') h' ∧ FlR h' S' g g' ∧ OutS M B h S fr fr' M' h' S' fr1 fr1'
 | 0, _, _, _, _, _, _, _, _, z, _ => by simp only [whlL] at z; cases z
 | n + 1, fr, g, fr1, M, B, h, S, fr', z, f => by
  simp only [whlL] at z
  replace z := bind_eq_ok z; obtain ⟨k, fr2, z1, z⟩ := z
  obtain ⟨h1, S1, e1, o1⟩ := evT_ok HP t z1 f
  cases k with
  | false =>
   simp only [Bool.false_eq_true, if_false] at z
   cases z
   refine ⟨.nx, fr', M, h1, S1, ?_, rfl, o1.s⟩
   simp only [Ev.whlL, e1, Ev.bind_ok]
   rw [if_neg (by decide)]
  | true =>
   simp only [if_true] at z
   replace z := bind_eq_ok z; obtain ⟨p, fr3, z2, z⟩ := z
   obtain ⟨g', fr3', M2, h2, S2, t1, t2, t3⟩ := ib z2 o1.f
   have o2 := o1.s.trans f t3
   cases p with
   | nx =>
    simp only [FlR] at t2; subst t2
    simp only at z
    obtain ⟨g'', fr4', M3, h3, S3, u1, u2, u3⟩ := whl_ok ib n z t3.f
    refine ⟨g'', fr4', M3, h3, S3, ?_, u2, o2.trans f u3⟩
    simp only [Ev.whlL, e1, Ev.bind_ok, if_true, t1]
    exact u1
   | ct =>
    simp only [FlR] at t2; subst t2
    simp only at z
    obtain ⟨g'', fr4', M3, h3, S3, u1, u2, u3⟩ := whl_ok ib n z t3.f
    refine ⟨g'', fr4', M3, h3, S3, ?_, u2, o2.trans f u3⟩
    simp only [Ev.whlL, e1, Ev.bind_ok, if_true, t1]
    exact u1
   | bk =>
    simp only [FlR] at t2; subst t2
    simp only at z
    cases z
    refine ⟨.nx, fr3', M2, h2, S2, ?_, rfl, o2⟩
    simp only [Ev.whlL, e1, Ev.bind_ok, if_true, t1]
   | ret x =>
    simp only [FlR] at t2
    obtain ⟨d2, rfl, t2⟩ := t2
    simp only at z
    cases z
    refine ⟨.ret d2, fr3', M2, h2, S2, ?_, ⟨d2, rfl, t2⟩, o2⟩
    simp only [Ev.whlL, e1, Ev.bind_ok, if_true, t1]
theorem iff_ok {t : E} {a b : Ss} (ia : ExsOk P P' w a) (ib : ExsOk P P' w b) : ExOk P P' w (.iff t a b) := fun {fr g fr1 M B h S fr'} z f => by
 simp only [ex] at z
 replace z := bind_eq_ok z; obtain ⟨k, fr2, z1, z⟩ := z
 obtain ⟨h1, S1, e1, o1⟩ := evT_ok HP t z1 f
 cases k with
 | true =>
  simp only [if_true] at z
  obtain ⟨g', fr1', M', h', S', c1, c2, c3⟩ := ia z o1.f
  exact ⟨g', fr1', M', h', S', by simp only [Ev.ex, e1, Ev.bind_ok, if_true, c1], c2, o1.s.trans f c3⟩
 | false =>
  simp only [Bool.false_eq_true, if_false] at z
  obtain ⟨g', fr1', M', h', S', c1, c2, c3⟩ := ib z o1.f
  exact ⟨g', fr1', M', h', S', by simp only [Ev.ex, e1, Ev.bind_ok]; rw [if_neg (by decide)]; exact c1, c2, o1.s.trans f c3⟩
mutual
theorem ex_ok : ∀ s : S, ExOk P P' w s
 | .set _ _ => sset_ok HP
 | .setT _ _ => setT_ok HP
 | .exp _ => exp_ok HP
 | .ret _ => ret_ok HP
 | .iff _ a b => iff_ok HP (exs_ok a) (exs_ok b)
 | .for _ _ b => for_ok HP (exs_ok b)
 | .whl _ b => fun z f => by
  simp only [ex] at z
  obtain ⟨g', fr1', M', h', S', c1, c2, c3⟩ := whl_ok HP (exs_ok b) w z f
  exact ⟨g', fr1', M', h', S', by simp only [Ev.ex]; exact c1, c2, c3⟩
 | .nev => fun z _ => by simp only [ex] at z; cases z
theorem exs_ok : ∀ s : Ss, ExsOk P P' w s
 | .nil => fun z f => by simp only [exs] at z; cases z; exact ⟨.nx, _, _, _, _, by simp only [Ev.exs], rfl, .refl f⟩
 | .cons s ss => fun z f => by
  simp only [exs] at z
  replace z := bind_eq_ok z; obtain ⟨p, fr2, z1, z⟩ := z
  obtain ⟨g', fr2', M2, h2, S2, t1, t2, t3⟩ := ex_ok s z1 f
  cases p with
  | nx =>
   simp only [FlR] at t2; subst t2
   simp only at z
   obtain ⟨g'', fr3', M3, h3, S3, u1, u2, u3⟩ := exs_ok ss z t3.f
   exact ⟨g'', fr3', M3, h3, S3, by simp only [Ev.exs, t1, Ev.bind_ok, u1], u2, t3.trans f u3⟩
  | ct =>
   simp only [FlR] at t2; subst t2
   simp only at z
   cases z
   exact ⟨.ct, fr2', M2, h2, S2, by simp only [Ev.exs, t1, Ev.bind_ok], rfl, t3⟩
  | bk =>
   simp only [FlR] at t2; subst t2
   simp only at z
   cases z
   exact ⟨.bk, fr2', M2, h2, S2, by simp only [Ev.exs, t1, Ev.bind_ok], rfl, t3⟩
  | ret x =>
   simp only [FlR] at t2
   obtain ⟨d2, rfl, t2⟩ := t2
   simp only at z
   cases z
   exact ⟨.ret d2, fr2', M2, h2, S2, by simp only [Ev.exs, t1, Ev.bind_ok], ⟨d2, rfl, t2⟩, t3⟩
end
end
theorem outs_ok {h : Hh} {S : Nat → Prop} {B : Nat → Prop} {h0 : Hh} {S0 : Nat → Prop} : ∀ {sl : List Sl} {ds : List D} {cs : Fr}, sl.length = ds.length →
  (∀ (a : Nat) s d, sl[a]? = some s → ds[a]? = some d → SlR B B h0 S0 (some s) (some d) ∧ locked cs a = lkS (some s) ∧ (lkS (some s) = true → ∃ m es l s', d = .ref m ∧ h[m]? = some (.lst es) ∧ RepL h S l es ∧ cs[a]? = some (some s') ∧ s'.out = some l)) → OutR h S sl ds ((cs.take sl.length).filterMap fun o => o.bind Sl.out)
 | [], ds, cs, _, _ => by simp [OutR]
 | s :: sl, [], cs, hl, _ => by simp at hl
 | s :: sl, d :: ds, [], hl, q => by
  have ih := outs_ok (h := h) (S := S) (sl := sl) (ds := ds) (cs := []) (by simpa using hl) fun a s' d' e1 e2 => by
   obtain ⟨w1, w2, w3⟩ := q (a + 1) s' d' (by simpa using e1) (by simpa using e2)
   exact ⟨w1, by simpa [locked] using w2, fun z => by obtain ⟨_, _, _, _, _, _, _, y, _⟩ := w3 z; simp at y⟩
  obtain ⟨w1, w2, w3⟩ := q 0 s d (by simp) (by simp)
  cases s with
  | val v => simp at ih ⊢; exact ⟨d, ds, rfl, ih⟩
  | own l => exact absurd w1 (by rintro ⟨m, es, e, q, _⟩; exact q.2 q.1)
  | bor l => obtain ⟨_, _, _, _, _, _, _, y, _⟩ := w3 rfl; simp at y
  | ro l => obtain ⟨_, _, _, _, _, _, _, y, _⟩ := w3 rfl; simp at y
 | s :: sl, d :: ds, o :: cs, hl, q => by
  have ih := outs_ok (h := h) (S := S) (sl := sl) (ds := ds) (cs := cs) (by simpa using hl) fun a s' d' e1 e2 => by
   obtain ⟨w1, w2, w3⟩ := q (a + 1) s' d' (by simpa using e1) (by simpa using e2)
   exact ⟨w1, by simpa [locked] using w2, fun z => by simpa using w3 z⟩
  obtain ⟨w1, w2, w3⟩ := q 0 s d (by simp) (by simp)
  cases s with
  | val v =>
   have : o.bind Sl.out = none := by
    simp [locked] at w2
    rcases o with _ | s
    ·rfl
    ·cases s <;> first | rfl | cases w2
   simp only [List.length_cons, List.take_succ_cons, List.filterMap_cons, this]
   exact ⟨d, ds, rfl, ih⟩
  | own l => exact absurd w1 (by rintro ⟨m, es, e, q, _⟩; exact q.2 q.1)
  | bor l =>
   obtain ⟨m, es, l', s', a1, a2, a3, a4, a5⟩ := w3 rfl
   simp at a4; subst a4
   simp only [List.length_cons, List.take_succ_cons, List.filterMap_cons, Option.bind, a5]
   exact ⟨d, ds, l', _, m, es, rfl, rfl, a1, a2, a3, ih⟩
  | ro l =>
   obtain ⟨m, es, l', s', a1, a2, a3, a4, a5⟩ := w3 rfl
   simp at a4; subst a4
   simp only [List.length_cons, List.take_succ_cons, List.filterMap_cons, Option.bind, a5]
   exact ⟨d, ds, l', _, m, es, rfl, rfl, a1, a2, a3, ih⟩
theorem run_ok (F : List Fn) (w : Nat) : ∀ n, PhiOk (run F w n) (Ev.run F w n)
 | 0 => fun f sl v os e => by simp [run] at e
 | n + 1 => fun f sl v os e h S B ds F0 => by
  have HP := run_ok F w n
  simp only [run] at e
  cases z : F[f]? with
  | none => rw [z] at e; cases e
  | some fn =>
  rw [z] at e
  simp only at e
  split at e
  case isFalse => cases e
  rename_i hl
  have hlen : sl.length = ds.length := by have := F0.len; simpa using this
  have f1 : FrR B B h S (fr0 fn sl) (Ev.fr0 fn ds) := by
   unfold fr0 Ev.fr0
   have sp : ∀ (i : Nat) o, (sl.map some ++ List.replicate (fn.ns - fn.np) none)[i]? = some o → (sl.map some)[i]? = some o ∨ (sl.length ≤ i ∧ o = none) := fun i o y => by
    by_cases hi : i < sl.length
    ·rw [List.getElem?_append_left (by simpa using hi)] at y; exact .inl y
    ·rw [List.getElem?_append_right (by simpa using hi)] at y
     have := List.mem_of_getElem? y
     exact .inr ⟨by omega, (List.mem_replicate.mp this).2⟩
   have lo : ∀ (i : Nat) p, i < sl.length → (ds.map some ++ List.replicate (fn.ns - fn.np) none)[i]? = some p → (ds.map some)[i]? = some p := fun i p hi y => by
    rw [List.getElem?_append_left (by simpa [← hlen] using hi)] at y; exact y
   refine ⟨F0.wS, F0.wM, F0.wB, by simp [hlen], fun i o p y1 y2 => ?_, fun i j o o' m y1 y2 y3 y4 y5 y6 => ?_⟩
   ·rcases sp i o y1 with y1 | ⟨hi, rfl⟩
    ·have hi : i < sl.length := by have := (List.getElem?_eq_some_iff.mp y1).1; simpa using this
     exact F0.sl i o p y1 (lo i p hi y2)
    ·rw [List.getElem?_append_right (by simpa [← hlen] using hi)] at y2
     have := List.mem_of_getElem? y2
     exact (List.mem_replicate.mp this).2
   ·rcases sp i o y1 with y1 | ⟨hi, rfl⟩
    ·rcases sp j o' y2 with y2 | ⟨hj, rfl⟩
     ·have hi : i < sl.length := by have := (List.getElem?_eq_some_iff.mp y1).1; simpa using this
      have hj : j < sl.length := by have := (List.getElem?_eq_some_iff.mp y2).1; simpa using this
      exact F0.inj i j o o' m y1 y2 y3 y4 (lo i _ hi y5) (lo j _ hj y6)
     ·cases y4
    ·cases y3
  have fin : ∀ {g : Fl} {fr1 : Fr}, exs (run F w n) w fn.body (fr0 fn sl) = .ok g fr1 → ∃ g' fr1' M' h' S', Ev.exs (Ev.run F w n) w fn.body (Ev.fr0 fn ds) h = .ok (g', fr1') h' ∧ FlR h' S' g g' ∧ Tk B h S h' S' ∧ OutR h' S' sl ds (outs fn.np fr1) := fun {g fr1} y => by
   obtain ⟨g', fr1', M', h', S', c1, c2, c3⟩ := exs_ok HP fn.body y f1
   refine ⟨g', fr1', M', h', S', c1, c2, ⟨c3.tr.len, fun m y1 y2 => c3.tr.keep m y1 y2, c3.tr.sub, fun m q => ?_⟩, ?_⟩
   ·rcases c3.tr.new m q with q | q | q
    ·exact .inl q
    ·exact .inr q
    ·exact absurd q.1 q.2
   ·unfold outs
    rw [← hl]
    refine outs_ok (B := B) (h0 := h) (S0 := S) hlen fun a s d e1 e2 => ?_
    have ha : a < sl.length := (List.getElem?_eq_some_iff.mp e1).1
    have h0 : (fr0 fn sl)[a]? = some (some s) := by unfold fr0; rw [List.getElem?_append_left (by simpa using ha)]; simp [e1]
    have hlk : locked fr1 a = lkS (some s) := by rw [c3.lk a]; unfold locked; rw [h0]
    refine ⟨F0.sl a _ _ (by simp [e1]) (by simp [e2]), hlk, fun hk => ?_⟩
    have hr := c3.rf a (by unfold locked; rw [h0]; exact hk)
    have hd : (Ev.fr0 fn ds)[a]? = some (some d) := by unfold Ev.fr0; rw [List.getElem?_append_left (by simpa [← hlen] using ha)]; simp [e2]
    rw [hd] at hr
    cases y2 : fr1[a]? with
    | none => unfold locked at hlk; rw [y2] at hlk; rw [← hlk] at hk; cases hk
    | some o =>
     have sr := c3.f.sl a _ _ y2 hr
     unfold locked at hlk
     rw [y2, hk] at hlk
     rcases o with _ | s'
     ·cases hlk
     ·cases s' with
      | val v => cases hlk
      | own l => cases hlk
      | bor l => obtain ⟨m, es, e, _, k1, k2⟩ := sr; cases e; exact ⟨m, es, l, _, rfl, k1, k2, rfl, rfl⟩
      | ro l => obtain ⟨m, es, e, _, k1, k2⟩ := sr; cases e; exact ⟨m, es, l, _, rfl, k1, k2, rfl, rfl⟩
  simp only [Ev.run, z]
  have hl' : ds.length = fn.np := by omega
  rw [if_pos hl']
  split at e
  ·rename_i v' fr1 y
   cases e
   obtain ⟨g', fr1', M', h', S', c1, c2, c3, c4⟩ := fin y
   simp only [FlR] at c2
   obtain ⟨d, rfl, c2⟩ := c2
   exact ⟨d, h', S', by simp only [Ev.endOf, c1, Ev.bind_ok], c2, c3, c4⟩
  ·rename_i fr1 y
   cases e
   obtain ⟨g', fr1', M', h', S', c1, c2, c3, c4⟩ := fin y
   simp only [FlR] at c2
   subst c2
   exact ⟨.non, h', S', by simp only [Ev.endOf, c1, Ev.bind_ok], rfl, c3, c4⟩
  ·cases e
end Pv
namespace Pv
open Ev (D O Hh Fn)
theorem good_of {F : List Fn} {w n f : Nat} {ns : List Int} (e : run F w n f [.val (.frz (ns.map V.int))] = some (.bl true, [])) : ∃ h', Ev.run F w n f [.ref 0] [.frz (ns.map D.int)] = .ok (.bl true) h' := by
 have F0 : FrR (fun _ => False) (fun _ => False) [O.frz (ns.map D.int)] (fun m => m = 0) ([Sl.val (.frz (ns.map V.int))].map some) ([D.ref 0].map some) := by
  refine ⟨fun m q => ⟨by subst q; simp, id, id⟩, fun m q => q.elim, fun m q => q.elim, rfl, fun i o p y1 y2 => ?_, fun i j o o' m y1 y2 y3 y4 y5 y6 => ?_⟩
  ·cases i with
   | zero =>
    simp at y1 y2; subst y1 y2
    refine ⟨.ref 0, rfl, ?_⟩
    simp only [Rep]
    exact ⟨0, _, rfl, rfl, rfl, RepL.map (f := V.int) (g := D.int) (fun _ => by simp [Rep]) ns⟩
   | succ i => simp at y1
  ·cases i with
   | zero => simp at y1; subst y1; cases y3
   | succ i => simp at y1
 obtain ⟨d, h', S', a, b, _, _⟩ := run_ok F w n f _ _ _ e _ _ _ _ F0
 simp only [Rep] at b
 subst b
 exact ⟨h', a⟩
end Pv
namespace Pv
open Ev (D BOp COp TY BI ME T E Es Eo It S Ss Fn big deep b2i rep mulOk ixN atI sIx cut joinS sortS slots)
theorem le_big {n : Nat} (h : n ≤ 100000) : n ≤ big := Nat.le_trans h (by decide)
@[simp] theorem big1 : 1 ≤ big := le_big (by decide)
@[simp] theorem big2 : 2 ≤ big := le_big (by decide)
@[simp] theorem big3 : 3 ≤ big := le_big (by decide)
section
variable {i j : Int} {a b : List Nat} {x y : List V} {d e : V} {m n : Nat} {k l : Bool}
theorem mkL_le (h : x.length ≤ big) : mkL x = some (.lst x) := by simp [mkL, h]
theorem mkT_le (h : x.length ≤ big) : mkT x = some (.tup x) := by simp [mkT, h]
@[simp] theorem mkL_0 : mkL [] = some (.lst []) := mkL_le (by simp)
@[simp] theorem mkT_0 : mkT [] = some (.tup []) := mkT_le (by simp)
@[simp] theorem mkL_1 {a} : mkL [a] = some (.lst [a]) := mkL_le (by simp)
@[simp] theorem mkT_1 {a} : mkT [a] = some (.tup [a]) := mkT_le (by simp)
@[simp] theorem mkL_2 {a b} : mkL [a, b] = some (.lst [a, b]) := mkL_le (by simp)
@[simp] theorem mkT_2 {a b} : mkT [a, b] = some (.tup [a, b]) := mkT_le (by simp)
@[simp] theorem mkL_3 {a b c} : mkL [a, b, c] = some (.lst [a, b, c]) := mkL_le (by simp)
@[simp] theorem mkT_3 {a b c} : mkT [a, b, c] = some (.tup [a, b, c]) := mkT_le (by simp)
@[simp] theorem bop_addi : bop .add (.int i) (.int j) = some (.int (i + j)) := nd rfl
theorem bop_adds (h : a.length + b.length ≤ 100000) : bop .add (.str a) (.str b) = some (.str (a ++ b)) := by delta bop; dsimp only; simp [le_big h]
theorem bop_addt (h : x.length + y.length ≤ 100000) : bop .add (.tup x) (.tup y) = some (.tup (x ++ y)) := by delta bop; dsimp only; simp [le_big h]
theorem bop_addl (h : x.length + y.length ≤ 100000) : bop .add (.lst x) (.lst y) = some (.lst (x ++ y)) := by delta bop; dsimp only; simp [mkL_le (le_big (show (x ++ y).length ≤ 100000 by simpa using h))]
@[simp] theorem bop_subi : bop .sub (.int i) (.int j) = some (.int (i - j)) := nd rfl
@[simp] theorem bop_muli : bop .mul (.int i) (.int j) = if mulOk i j then some (.int (i * j)) else none := nd rfl
theorem bop_muls (h0 : 0 ≤ j) (h1 : j ≤ 1000) (h2 : a.length ≤ 1000) : bop .mul (.str a) (.int j) = some (.str (rep j.toNat a)) := by delta bop; dsimp only; simp [h0, h1, h2]
theorem bop_mull (h0 : 0 ≤ j) (h1 : j ≤ 1000) (h2 : x.length ≤ 1000) (h3 : (rep j.toNat x).length ≤ 100000) : bop .mul (.lst x) (.int j) = some (.lst (rep j.toNat x)) := by delta bop; dsimp only; simp [h0, h1, h2, mkL_le (le_big h3)]
@[simp] theorem bop_fdiv : bop .fdiv (.int i) (.int j) = if 0 < j ∧ j < 1073741824 then some (.int (i / j)) else none := nd rfl
@[simp] theorem bop_mod : bop .mod (.int i) (.int j) = if 0 < j then some (.int (i % j)) else none := nd rfl
@[simp] theorem cop_eq : cop .eq d e = veq deep d e := nd rfl
@[simp] theorem cop_ne : cop .ne d e = (veq deep d e).map (!·) := nd rfl
@[simp] theorem veq_ii : veq (n + 1) (.int i) (.int j) = some (decide (i = j)) := by show some (i == j) = _; by_cases h : i = j <;> simp [h]
@[simp] theorem veq_ss : veq (n + 1) (.str a) (.str b) = some (decide (a = b)) := by show some (a == b) = _; by_cases h : a = b <;> simp [h]
@[simp] theorem veq_si : veq (n + 1) (.str a) (.int i) = some false := nd rfl
@[simp] theorem veq_is : veq (n + 1) (.int i) (.str a) = some false := nd rfl
@[simp] theorem veq_tt : veq (n + 1) (.tup x) (.tup y) = eqL (veq n) x y := nd rfl
@[simp] theorem veq_ll : veq (n + 1) (.lst x) (.lst y) = eqL (veq n) x y := nd rfl
@[simp] theorem dveq_ii : veq deep (.int i) (.int j) = some (decide (i = j)) := veq_ii
@[simp] theorem dveq_ss : veq deep (.str a) (.str b) = some (decide (a = b)) := veq_ss
@[simp] theorem dveq_tt : veq deep (.tup x) (.tup y) = eqL (veq (18 + 1)) x y := nd rfl
@[simp] theorem eqL_nil {f : V → V → Option Bool} : eqL f [] [] = some true := nd rfl
@[simp] theorem eqL_nc {f : V → V → Option Bool} : eqL f [] (d :: x) = some false := nd rfl
@[simp] theorem eqL_cn {f : V → V → Option Bool} : eqL f (d :: x) [] = some false := nd rfl
@[simp] theorem eqL_cons {f : V → V → Option Bool} : eqL f (d :: x) (e :: y) = (f d e).bind fun b => (eqL f x y).bind fun c => some (b && c) := nd rfl
theorem eqL_map {α : Type} [DecidableEq α] {f : V → V → Option Bool} {g : α → V} (h : ∀ a b, f (g a) (g b) = some (decide (a = b))) : ∀ l m : List α, eqL f (l.map g) (m.map g) = some (decide (l = m))
 | [], [] => by simp
 | [], _ :: _ => by simp
 | _ :: _, [] => by simp
 | a :: l, b :: m => by simp [h, eqL_map h l m]
@[simp] theorem ixd_str : ixd (.str a) (.int i) = (atI a i).map fun c => .str [c] := nd rfl
@[simp] theorem ixd_lst : ixd (.lst x) (.int i) = atI x i := nd rfl
@[simp] theorem sld_str {lo hi : Option Int} : sld (.str a) lo hi = some (.str (cut a lo hi)) := nd rfl
theorem len_str (h : a.length ≤ 100000) : bfn .len [.str a] = some (.int a.length) := by delta bfn; dsimp only; simp [le_big h]
@[simp] theorem len_lst : bfn .len [.lst x] = some (.int x.length) := nd rfl
@[simp] theorem len_frz : bfn .len [.frz x] = some (.int x.length) := nd rfl
@[simp] theorem sum_lst : bfn .sum [.lst x] = (intsOf x).map fun is => .int is.sum := nd rfl
@[simp] theorem min_ii : bfn .min [.int i, .int j] = some (.int (if j < i then j else i)) := nd rfl
@[simp] theorem toT_lst : toT (.lst x) = mkT x := nd rfl
theorem rng1 (h0 : 0 ≤ j) (h1 : j ≤ 100000) : rngOf [.int j] = some (range 0 j.toNat) := by
 simp only [rngOf]; rw [if_pos ⟨by omega, by omega⟩]
theorem rng2 (h0 : -100000 ≤ i) (h1 : i ≤ 100000) (h2 : -100000 ≤ j) (h3 : j ≤ 100000) : rngOf [.int i, .int j] = some (range i (j - i).toNat) := by
 simp only [rngOf]; rw [if_pos ⟨by omega, by omega, by omega, by omega⟩]
theorem intsOf_map {α : Type} (g : α → Int) (l : List α) : intsOf (l.map fun x => .int (g x)) = some (l.map g) := by induction l <;> simp [intsOf, *]
theorem strsOf_map {α : Type} (g : α → List Nat) (l : List α) : strsOf (l.map fun x => .str (g x)) = some (l.map g) := by induction l <;> simp [strsOf, *]
theorem joinS_nil : ∀ l : List (List Nat), joinS [] l = l.flatten
 | [] => rfl
 | [s] => by simp [joinS]
 | s :: t :: r => by simp [joinS, joinS_nil (t :: r)]
@[simp] theorem tru_bl : truthy (.bl k) = k := nd rfl
@[simp] theorem tru_lst : truthy (.lst x) = !x.isEmpty := nd rfl
theorem join0 {l : List (List Nat)} (h : l.flatten.length ≤ 100000) : mef .join (.str []) [.lst (l.map V.str)] = some (.str l.flatten) := by
 have hs := strsOf_map (fun x => x) l
 have : (l.map (·.length)).sum ≤ big := le_big (by rw [← List.length_flatten]; exact h)
 simp only [List.map_id'] at hs
 have hs' : strsOf (l.map V.str) = some l := by simpa using strsOf_map (fun x => x) l
 delta mef; dsimp only; simp [lOf, hs', joinS_nil, this]
end
theorem compL_map {α : Type} {f : V → Option (Option V)} (e : α → V) (g : α → V) (l : List α) (h : ∀ a ∈ l, f (e a) = some (some (g a))) : compL f (l.map e) = some (l.map g) := by
 induction l with
 | nil => rfl
 | cons a l ih => simp only [List.map_cons, compL, h a (by simp), ih fun u hu => h u (by simp [hu]), Option.bind]; rfl
theorem compL_filter {α : Type} {f : V → Option (Option V)} (e : α → V) (p : α → Bool) (g : α → V) (l : List α) (h : ∀ a ∈ l, f (e a) = some (if p a then some (g a) else none)) : compL f (l.map e) = some ((l.filter p).map g) := by
 induction l with
 | nil => rfl
 | cons a l ih =>
  simp only [List.map_cons, compL, h a (by simp), ih fun u hu => h u (by simp [hu]), Option.bind]
  cases z : p a <;> simp [z]
noncomputable def Wp {α : Type} (r : R α) (Q : α → Fr → Prop) : Prop := ∃ a h, r = .ok a h ∧ Q a h
section
variable {α β : Type} {Q Q' : α → Fr → Prop}
@[simp] theorem wp_ok (a : α) (h : Fr) : Wp (.ok a h) Q = Q a h := propext ⟨fun ⟨_, _, e, q⟩ => by cases e; exact q, fun q => ⟨_, _, rfl, q⟩⟩
@[simp] theorem wp_bad : Wp (.bad : R α) Q = False := propext ⟨fun q => (by obtain ⟨_, _, e, _⟩ := q; cases e), False.elim⟩
@[simp] theorem wp_bind (r : R β) (f : β → Fr → R α) : Wp (r.bind f) Q = Wp r fun a h => Wp (f a h) Q := by cases r <;> simp
theorem Wp.mono {r : R α} (h : Wp r Q) (f : ∀ a h, Q a h → Q' a h) : Wp r Q' := by
 obtain ⟨a, h', e, q⟩ := h
 exact ⟨a, h', e, f a h' q⟩
end
noncomputable def fl (I Q : Fr → Prop) (X : V → Fr → Prop) : Fl → Fr → Prop
 | .nx, fr => I fr
 | .ct, fr => I fr
 | .bk, fr => Q fr
 | .ret v, fr => X v fr
section
variable {I J : Fr → Prop} {X : V → Fr → Prop} {fr : Fr} {v : V}
@[simp] theorem fl_nx : fl I J X .nx fr = I fr := nd rfl
end
theorem wp_forM {α : Type} {e : α → V} {f : V → Fr → R Fl} {Q : Fl → Fr → Prop} (I : List α → List α → Fr → Prop) (turn : ∀ p a l fr, I p (a :: l) fr → Wp (f (e a) fr) (fl (I (p ++ [a]) l) (Q .nx) fun v => Q (.ret v))) (fin : ∀ p fr, I p [] fr → Q .nx fr) : ∀ (l p : List α) (fr : Fr), I p l fr → Wp (forL f (l.map e) fr) Q
 | [], p, fr, i => by simp only [List.map_nil, forL, wp_ok]; exact fin p fr i
 | a :: l, p, fr, i => by
  simp only [List.map_cons, forL, wp_bind]
  refine (turn p a l fr i).mono fun g h2 q => ?_
  cases g with
  | nx => exact wp_forM I turn fin l _ h2 q
  | ct => exact wp_forM I turn fin l _ h2 q
  | bk => exact (wp_ok _ _).mpr q
  | ret x => exact (wp_ok _ _).mpr q
theorem wp_forR {f : V → Fr → R Fl} {Q : Fl → Fr → Prop} {lo : Int} {N : Nat} (I : Nat → Fr → Prop) (turn : ∀ (k : Nat) fr, k < N → I k fr → Wp (f (.int (lo + (k : Nat))) fr) (fl (I (k + 1)) (Q .nx) fun v => Q (.ret v))) (fin : ∀ fr, I N fr → Q .nx fr) {fr : Fr} (i : I 0 fr) : Wp (forL f (range lo N) fr) Q := by
 have h := wp_forM (e := fun (k : Nat) => V.int (lo + k)) (f := f) (Q := Q) (fun p l fr => ∃ k, k ≤ N ∧ p = List.range k ∧ p ++ l = List.range N ∧ I k fr)
  (fun p a l fr ⟨k, hk, hp, hl, q⟩ => by
   subst hp
   have hlen := congrArg List.length hl
   simp at hlen
   have ha : a = k := by
    have := congrArg (·[k]?) hl
    simp [List.getElem?_append_right] at this
    rw [List.getElem?_range (by omega)] at this
    simpa using this
   subst ha
   refine (turn a fr (by omega) q).mono fun g h2 z => ?_
   cases g with
   | nx => exact ⟨a + 1, by omega, by simp [List.range_succ], by simpa using hl, z⟩
   | ct => exact ⟨a + 1, by omega, by simp [List.range_succ], by simpa using hl, z⟩
   | bk => exact z
   | ret x => exact z)
  (fun p fr ⟨k, hk, hp, hl, q⟩ => by
   subst hp
   have hlen := congrArg List.length hl
   simp at hlen
   subst hlen
   exact fin fr q) (List.range N) [] fr ⟨0, Nat.zero_le _, rfl, by simp, i⟩
 exact h
theorem wp_whl {t : Fr → R Bool} {f : Fr → R Fl} {Q : Fl → Fr → Prop} (I : Nat → Fr → Prop) (turn : ∀ k fr, I k fr → Wp (t fr) fun b fr1 => if b then Wp (f fr1) (fl (fun fr2 => ∃ j, j < k ∧ I j fr2) (Q .nx) fun v => Q (.ret v)) else Q .nx fr1) : ∀ (n k : Nat) (fr : Fr), k < n → I k fr → Wp (whlL t f n fr) Q
 | 0, k, fr, hk, _ => by omega
 | n + 1, k, fr, hk, i => by
  simp only [whlL, wp_bind]
  refine (turn k fr i).mono fun b fr1 q => ?_
  cases b with
  | false => simpa using q
  | true =>
   simp only [if_true, wp_bind] at q ⊢
   refine q.mono fun g fr2 z => ?_
   cases g with
   | nx => obtain ⟨j, hj, z⟩ := z; exact wp_whl I turn n j fr2 (by omega) z
   | ct => obtain ⟨j, hj, z⟩ := z; exact wp_whl I turn n j fr2 (by omega) z
   | bk => exact (wp_ok _ _).mpr z
   | ret x => exact (wp_ok _ _).mpr z
noncomputable def fin (np : Nat) : R Fl → Option (V × List (List V))
 | .ok (.ret v) fr => some (v, outs np fr)
 | .ok .nx fr => some (.non, outs np fr)
 | _ => none
@[simp] theorem fin_ret {np : Nat} {v : V} {fr : Fr} : fin np (.ok (.ret v) fr) = some (v, outs np fr) := nd rfl
theorem run_eq {F : List Fn} {w n f : Nat} {ds : List Sl} {fn : Fn} (hf : F[f]? = some fn) (hl : ds.length = fn.np) : run F w (n + 1) f ds = fin fn.np (exs (run F w n) w fn.body (fr0 fn ds)) := by
 simp only [run, hf, hl, if_true]
 cases exs (run F w n) w fn.body (fr0 fn ds) with
 | bad => rfl
 | ok g fr => cases g <;> rfl
theorem run_wp {F : List Fn} {w n f : Nat} {ds : List Sl} {fn : Fn} {v : V} {os : List (List V)} (hf : F[f]? = some fn) (hl : ds.length = fn.np) (q : Wp (exs (run F w n) w fn.body (fr0 fn ds)) fun g fr => g = .ret v ∧ outs fn.np fr = os) : run F w (n + 1) f ds = some (v, os) := by
 rw [run_eq hf hl]
 obtain ⟨g, fr, e, rfl, rfl⟩ := q
 rw [e]; rfl
section
variable {P : Phi} {w : Nat} {fr : Fr} {k : Bool} {a b c : E} {es : Es} {ss sa sb : Ss} {st : S} {lo hi : Eo} {it : It}
@[simp] theorem ev_c {d : D} : ev P k (.c d) fr = R.of (ofD d) fr := by rw [ev]
@[simp] theorem ev_v {i : Nat} : ev P k (.v i) fr = R.of (getV k fr i) fr := by rw [ev]
@[simp] theorem ev_tup : ev P k (.tup es) fr = (evs P false es fr).bind fun ds fr1 => R.of (mkT ds) fr1 := by rw [ev]
@[simp] theorem ev_lst : ev P k (.lst es) fr = (evs P false es fr).bind fun ds fr1 => R.of (mkL ds) fr1 := by rw [ev]
@[simp] theorem ev_bin {o : BOp} : ev P k (.bin o a b) fr = (ev P (kf a (tch b)) a fr).bind fun x fr1 => (ev P true b fr1).bind fun y fr2 => R.of (bop o x y) fr2 := by rw [ev]
@[simp] theorem ev_cmp {o : COp} : ev P k (.cmp o a b) fr = (ev P (kf a (tch b)) a fr).bind fun x fr1 => (ev P true b fr1).bind fun y fr2 => R.of ((cop o x y).map .bl) fr2 := by rw [ev]
noncomputable def ntD : V → Fr → R V := fun x h1 => match x with
 | .bl b => .ok (.bl (!b)) h1
 | _ => .bad
@[simp] theorem ev_nt : ev P k (.nt a) fr = (ev P true a fr).bind ntD := by rw [ev]; rfl
noncomputable def negD : V → Fr → R V := fun x h1 => match x with
 | .int i => .ok (.int (-i)) h1
 | _ => .bad
@[simp] theorem ev_neg : ev P k (.neg a) fr = (ev P true a fr).bind negD := by rw [ev]; rfl
@[simp] theorem ev_ife : ev P k (.ife a b c) fr = (evT P a fr).bind fun t fr1 => if t then ev P k b fr1 else ev P k c fr1 := by rw [ev]
@[simp] theorem ev_ix : ev P k (.ix a b) fr = (ev P (kf a (tch b)) a fr).bind fun x fr1 => (ev P true b fr1).bind fun y fr2 => R.of (ixd x y) fr2 := by rw [ev]
@[simp] theorem ev_sl : ev P k (.sl a lo hi) fr = (ev P (kf a (tcho lo ++ tcho hi)) a fr).bind fun x fr1 => (evo P lo fr1).bind fun l fr2 => (evo P hi fr2).bind fun u fr3 => R.of (sld x l u) fr3 := by rw [ev]
@[simp] theorem ev_cl {f : Nat} : ev P k (.cl f es) fr = (evA P es fr).bind fun as fr1 => callF P f as fr1 := by rw [ev]
@[simp] theorem ev_bi {g : BI} : ev P k (.bi g es) fr = (evs P true es fr).bind fun ds fr1 => R.of (bfn g ds) fr1 := by rw [ev]
noncomputable def chgS (m : ME) (i : Nat) : List V → Fr → R V := fun ds fr1 => match fr1[i]? with
 | some (some (.own l)) => match mtf m l ds with
  | some (v, l') => .ok v (fr1.set i (some (.own l')))
  | none => .bad
 | some (some (.bor l)) => match mtf m l ds with
  | some (v, l') => .ok v (fr1.set i (some (.bor l')))
  | none => .bad
 | _ => .bad
theorem ev_meM {m : ME} {i : Nat} (hm : isMut m = true) : ev P k (.me m (.v i) es) fr = if (lent fr i).isSome then (evs P (exK m) es fr).bind (chgS m i) else .bad := by
 rw [ev, if_pos hm]
 unfold isV
 cases z : (lent fr i).isSome <;> simp [z] <;> rfl
theorem ev_meN {m : ME} (hm : isMut m = false) : ev P k (.me m a es) fr = (ev P (kf a (tchs es)) a fr).bind fun x fr1 => (evs P true es fr1).bind fun ds fr2 => R.of (mef m x ds) fr2 := by rw [ev, hm]; rfl
noncomputable def turnC (P : Phi) (elt : E) (t : T) (cond : Eo) (fr : Fr) : V → Option (Option V) := fun d => match bindT t d (roF fr) with
 | none => none
 | some fr2 => match evc P cond fr2 with
  | .ok c _ => if c then (match ev P false elt fr2 with | .ok x _ => some (some x) | .bad => none) else some none
  | .bad => none
@[simp] theorem ev_comp {elt : E} {t : T} {cond : Eo} : ev P k (.comp elt t it cond) fr = (evi P true it fr).bind fun s fr1 => if undef t fr1 then R.of ((compL (turnC P elt t cond fr1) s).bind mkL) fr1 else .bad := by rw [ev]; rfl
@[simp] theorem ev_lof : ev P k (.lof it) fr = (evi P true it fr).bind fun s fr1 => R.of (mkL s) fr1 := by rw [ev]
@[simp] theorem ev_dget {kvs : List (D × D)} : ev P k (.dget kvs a) fr = (ev P true a fr).bind fun x fr1 => R.of (lookD x kvs) fr1 := by rw [ev]
@[simp] theorem ev_ttp : ev P k (.ttp a) fr = (ev P true a fr).bind fun x fr1 => R.of (toT x) fr1 := by rw [ev]
@[simp] theorem evs_nil : evs P k .nil fr = .ok [] fr := by rw [evs]
@[simp] theorem evs_cons : evs P k (.cons a es) fr = (ev P (k && kf a (tchs es)) a fr).bind fun d fr1 => (evs P k es fr1).bind fun ds fr2 => .ok (d :: ds) fr2 := by rw [evs]
@[simp] theorem evA_nil : evA P .nil fr = .ok [] fr := by rw [evA]
noncomputable def lendA (P : Phi) (a : E) (es : Es) (fr : Fr) : Option Nat → R (List (Nat ⊕ V))
 | some i => (evA P es fr).bind fun r fr1 => .ok (.inl i :: r) fr1
 | none => (ev P false a fr).bind fun d fr1 => (evA P es fr1).bind fun r fr2 => .ok (.inr d :: r) fr2
@[simp] theorem lendA_some {i : Nat} : lendA P a es fr (some i) = (evA P es fr).bind fun r fr1 => .ok (.inl i :: r) fr1 := nd rfl
@[simp] theorem lendA_none : lendA P a es fr none = (ev P false a fr).bind fun d fr1 => (evA P es fr1).bind fun r fr2 => .ok (.inr d :: r) fr2 := nd rfl
@[simp] theorem evA_cons : evA P (.cons a es) fr = lendA P a es fr (isV fr a) := by rw [evA]; cases isV fr a <;> rfl
@[simp] theorem evo_no : evo P .no fr = .ok none fr := by rw [evo]
@[simp] theorem evo_yes : evo P (.yes a) fr = (ev P true a fr).bind fun d fr1 => R.of ((intOf d).map some) fr1 := by rw [evo]
@[simp] theorem evc_no : evc P .no fr = .ok true fr := by rw [evc]
@[simp] theorem evc_yes : evc P (.yes a) fr = evT P a fr := by rw [evc]
@[simp] theorem evT_an : evT P (.an a b) fr = (evT P a fr).bind fun k fr1 => if k then evT P b fr1 else .ok false fr1 := by rw [evT]
@[simp] theorem evT_orr : evT P (.orr a b) fr = (evT P a fr).bind fun k fr1 => if k then .ok true fr1 else evT P b fr1 := by rw [evT]
@[simp] theorem evT_nt : evT P (.nt a) fr = (evT P a fr).bind fun k fr1 => .ok (!k) fr1 := by rw [evT]
noncomputable def truR : V → Fr → R Bool := fun x fr1 => .ok (truthy x) fr1
@[simp] theorem truR_eq {x : V} : truR x fr = .ok (truthy x) fr := nd rfl
@[simp] theorem evi_seq : evi P k (.seq a) fr = (src k fr a (ev P k a fr)).bind fun x fr1 => R.of (seqOf x) fr1 := by rw [evi]
@[simp] theorem evi_rng : evi P k (.rng es) fr = (evs P true es fr).bind fun ds fr1 => R.of (rngOf ds) fr1 := by rw [evi]
@[simp] theorem evi_enum : evi P k (.enum a) fr = (src k fr a (ev P k a fr)).bind fun x fr1 => R.of ((lOf x).map fun s => enumD 0 s) fr1 := by rw [evi]
@[simp] theorem evi_rev : evi P k (.rev a) fr = (ev P true a fr).bind fun x fr1 => R.of ((tupV x).map fun s => s.reverse) fr1 := by rw [evi]
noncomputable def setN (i : Nat) (fr1 : Fr) : V → R Fl
 | .lst l => (R.of (put fr1 i (.own l)) fr1).bind fun fr2 _ => .ok .nx fr2
 | _ => .bad
@[simp] theorem setN_lst {i : Nat} {l : List V} : setN i fr (.lst l) = (R.of (put fr i (.own l)) fr).bind fun fr2 _ => .ok .nx fr2 := nd rfl
@[simp] theorem ex_set {i : Nat} : ex P w (.set i a) fr = (ev P false a fr).bind fun x fr1 => if isNew a then setN i fr1 x else (R.of (put fr1 i (.val x)) fr1).bind fun fr2 _ => .ok .nx fr2 := by
 rw [ex]; rfl
@[simp] theorem ex_setT {l : List Nat} : ex P w (.setT l a) fr = (ev P false a fr).bind fun x fr1 => (R.of (bindT (.many l) x fr1) fr1).bind fun fr2 _ => .ok .nx fr2 := by rw [ex]
@[simp] theorem ex_exp : ex P w (.exp a) fr = (ev P true a fr).bind fun _ fr1 => .ok .nx fr1 := by rw [ex]
@[simp] theorem ex_ret : ex P w (.ret a) fr = (ev P false a (shutF fr)).bind fun x fr1 => .ok (.ret x) fr1 := by rw [ex]
@[simp] theorem ex_iff : ex P w (.iff a sa sb) fr = (evT P a fr).bind fun k fr1 => if k then exs P w sa fr1 else exs P w sb fr1 := by rw [ex]
noncomputable def turnF (P : Phi) (w : Nat) (t : T) (b : Ss) : V → Fr → R Fl := fun d fr2 => match bindT t d fr2 with
 | some fr3 => exs P w b fr3
 | none => .bad
@[simp] theorem ex_for {t : T} : ex P w (.for t it ss) fr = (evi P false it (walkF (itv it) fr)).bind fun s fr1 => forL (turnF P w t ss) s fr1 := by rw [ex]; rfl
@[simp] theorem ex_whl : ex P w (.whl a ss) fr = whlL (fun fr2 => evT P a fr2) (fun fr2 => exs P w ss fr2) w fr := by rw [ex]
@[simp] theorem exs_nil : exs P w .nil fr = .ok .nx fr := by rw [exs]
noncomputable def nextS (P : Phi) (w : Nat) (ss : Ss) : Fl → Fr → R Fl := fun p h1 => match p with
 | .nx => exs P w ss h1
 | p => .ok p h1
@[simp] theorem exs_cons : exs P w (.cons st ss) fr = (ex P w st fr).bind (nextS P w ss) := by rw [exs]; rfl
end
theorem callF_all {P : Phi} {f : Nat} {vs : List V} {fr : Fr} {v : V} (h : P f (vs.map .val) = some (v, [])) : callF P f (vs.map .inr) fr = .ok v fr := by
 have h1 : ∀ vs : List V, lefts (vs.map .inr) = [] := fun vs => by induction vs <;> simp [lefts, *]
 have h2 : ∀ vs : List V, args fr (vs.map .inr) = some (vs.map .val) := fun vs => by induction vs <;> simp [args, *]
 simp [callF, h1, h2, h, back]
section
variable {P : Phi} {f : Nat} {fr : Fr} {a b c d v : V}
theorem call1 (h : P f [.val a] = some (v, [])) : callF P f [.inr a] fr = .ok v fr := callF_all (vs := [a]) h
theorem call2 (h : P f [.val a, .val b] = some (v, [])) : callF P f [.inr a, .inr b] fr = .ok v fr := callF_all (vs := [a, b]) h
theorem call3 (h : P f [.val a, .val b, .val c] = some (v, [])) : callF P f [.inr a, .inr b, .inr c] fr = .ok v fr := callF_all (vs := [a, b, c]) h
end
end Pv
namespace Pv
open Ev (D BOp COp TY BI ME T E Es Eo It S Ss Fn big deep b2i rep mulOk ixN atI sIx cut joinS sortS slots)
section
variable {fr : Fr} {i j : Nat} {k : Bool} {s : Sl} {v u : V} {l : List V} {o : Option Sl}
noncomputable def slV (k : Bool) : Option (Option Sl) → Option V
 | some (some (.val v)) => some v
 | some (some (.own l)) => if k then some (.lst l) else none
 | some (some (.bor l)) => if k then some (.lst l) else none
 | some (some (.ro l)) => if k then some (.lst l) else none
 | _ => none
@[simp] theorem getV_sl : getV k fr i = slV k fr[i]? := by unfold getV slV; split <;> simp_all
@[simp] theorem slV_val : slV k (some (some (.val v))) = some v := nd rfl
@[simp] theorem slV_own : slV k (some (some (.own l))) = if k then some (.lst l) else none := nd rfl
@[simp] theorem src_v {r : R V} : src k fr (.v i) r = R.of (getS k fr i) fr := nd rfl
noncomputable def slL : Option (Option Sl) → Option Sl
 | some (some s) => s.lend
 | _ => none
@[simp] theorem lent_sl : lent fr i = slL fr[i]? := by unfold lent slL; split <;> simp_all
@[simp] theorem slL_own : slL (some (some (.own l))) = some (.bor l) := nd rfl
noncomputable def slP (fr : Fr) (i : Nat) (s : Sl) : Option (Option Sl) → Option Fr
 | some (some (.bor _)) => none
 | some (some (.ro _)) => none
 | _ => some (fr.set i (some s))
@[simp] theorem put_sl : put fr i s = slP fr i s fr[i]? := by unfold put slP; split <;> simp_all
@[simp] theorem slP_val : slP fr i s (some (some (.val v))) = some (fr.set i (some s)) := nd rfl
@[simp] theorem slP_own : slP fr i s (some (some (.own l))) = some (fr.set i (some s)) := nd rfl
@[simp] theorem bindT_many {l : List Nat} {x : List V} : bindT (.many l) (.tup x) fr = setAll l x fr := nd rfl
@[simp] theorem setAll_nil : setAll [] [] fr = some fr := nd rfl
@[simp] theorem setAll_cons {l : List Nat} {x : List V} : setAll (i :: l) (v :: x) fr = (put fr i (.val v)).bind (setAll l x) := nd rfl
@[simp] theorem shut_val : Sl.shut (.val v) = .val v := nd rfl
@[simp] theorem shut_own : Sl.shut (.own l) = .val (.lst l) := nd rfl
noncomputable def slC (m : ME) (i : Nat) (ds : List V) (fr : Fr) : Option (Option Sl) → R V
 | some (some (.own l)) => match mtf m l ds with
  | some (v, l') => .ok v (fr.set i (some (.own l')))
  | none => .bad
 | some (some (.bor l)) => match mtf m l ds with
  | some (v, l') => .ok v (fr.set i (some (.bor l')))
  | none => .bad
 | _ => .bad
@[simp] theorem chgS_sl {m : ME} {ds : List V} : chgS m i ds fr = slC m i ds fr fr[i]? := by unfold chgS slC; split <;> simp_all <;> rfl
theorem app_own {d : V} (h : l.length < 100000) : slC .append i [d] fr (some (some (.own l))) = .ok .non (fr.set i (some (.own (l ++ [d])))) := by
 simp [slC, mtf, Nat.lt_of_lt_of_le h (show 100000 ≤ big by decide)]
theorem app_bor {d : V} (h : l.length < 100000) : slC .append i [d] fr (some (some (.bor l))) = .ok .non (fr.set i (some (.bor (l ++ [d])))) := by
 simp [slC, mtf, Nat.lt_of_lt_of_le h (show 100000 ≤ big by decide)]
theorem ext_own {d : List V} (h : l.length + d.length ≤ 100000) : slC .extend i [.lst d] fr (some (some (.own l))) = .ok .non (fr.set i (some (.own (l ++ d)))) := by
 simp [slC, mtf, le_big h]
theorem pop_own : slC .pop i [] fr (some (some (.own (l ++ [v])))) = .ok v (fr.set i (some (.own l))) := by
 simp [slC, mtf]
theorem pop_bor : slC .pop i [] fr (some (some (.bor (l ++ [v])))) = .ok v (fr.set i (some (.bor l))) := by
 simp [slC, mtf]
end
noncomputable def vo (o : Option Sl) : Prop := o = none ∨ ∃ y, o = some (.val y)
theorem vo.none : vo none := .inl rfl
theorem vo.val {v : V} : vo (some (.val v)) := .inr ⟨v, rfl⟩
theorem slP_vo {fr : Fr} {i : Nat} {s : Sl} {b : Option Sl} (h : vo b) : slP fr i s (some b) = some (fr.set i (some s)) := by rcases h with rfl | ⟨y, rfl⟩ <;> rfl
theorem shut_vo {b : Option Sl} (h : vo b) : b.map Sl.shut = b := by rcases h with rfl | ⟨y, rfl⟩ <;> rfl
noncomputable def nextL (f : V → Fr → R Fl) (ds : List V) : Fl → Fr → R Fl := fun p fr1 => match p with
 | .nx => forL f ds fr1
 | .ct => forL f ds fr1
 | .bk => .ok .nx fr1
 | .ret x => .ok (.ret x) fr1
section
variable {f : V → Fr → R Fl} {ds : List V} {d x : V} {fr : Fr}
@[simp] theorem forL_cons : forL f (d :: ds) fr = (f d fr).bind (nextL f ds) := nd rfl
end
section
variable {a b c : E} {es : Es} {lo hi : Eo} {it : It} {l : List Nat}
end
theorem atI_nn {α : Type} {l : List α} {i : Int} (h0 : 0 ≤ i) : atI l i = l[i.toNat]? := by
 unfold atI ixN
 rw [if_pos h0]
 split
 ·rfl
 ·rw [List.getElem?_eq_none (by omega)]; rfl
@[simp] theorem atI_nat {α : Type} {l : List α} {n : Nat} : atI l (n : Int) = l[n]? := by rw [atI_nn (by omega)]; simp
theorem atI_m1 {α : Type} {l : List α} : atI l (-1 : Int) = l.getLast? := by
 unfold atI ixN
 cases l with
 | nil => rfl
 | cons a l =>
  have h1 : ¬ (0 : Int) ≤ -1 := by omega
  have h2 : -(((a :: l).length : Nat) : Int) ≤ -1 := by simp; omega
  rw [if_neg h1, if_pos h2, List.getLast?_eq_getElem?]
  simp only [Option.bind]
  congr 1
  simp; omega
noncomputable def fCell : Fn := ⟨2, 2, (.cons (.iff (.cmp .eq (.v 0) (.lst .nil)) (.cons (.ret (.bin .mul (.c (.int 7)) (.v 1))) .nil) .nil) (.cons (.ret (.bin .add (.ix (.v 0) (.bin .mod (.v 1) (.bi .len (.cons (.v 0) .nil)))) (.bin .mul (.c (.int 6553)) (.bin .fdiv (.v 1) (.bi .len (.cons (.v 0) .nil)))))) .nil))⟩
noncomputable def fDrawn (c : Nat) : Fn := ⟨3, 4, (.cons (.set 3 (.bin .mod (.bin .add (.bin .mul (.bin .mod (.cl c (.cons (.v 0) (.cons (.v 1) .nil))) (.c (.int 2147483563))) (.c (.int 69069))) (.bin .mul (.c (.int 104723)) (.bin .add (.v 1) (.c (.int 1))))) (.c (.int 2147483563)))) (.cons (.set 3 (.bin .mod (.bin .add (.bin .mul (.v 3) (.v 3)) (.bin .fdiv (.v 3) (.c (.int 3)))) (.c (.int 2147483399)))) (.cons (.ret (.bin .mod (.bin .fdiv (.bin .mod (.bin .add (.bin .mul (.v 3) (.v 3)) (.bin .fdiv (.v 3) (.c (.int 7)))) (.c (.int 2147483647))) (.c (.int 11))) (.v 2))) .nil)))⟩
noncomputable def cellv (ns : List Int) (k : Int) : Int := if ns = [] then 7 * k else (ns[(k % ns.length).toNat]?.getD 0) + 6553 * (k / ns.length)
noncomputable def drw (ns : List Int) (k many : Int) : Int :=
 let c := (cellv ns k % 2147483563 * 69069 + 104723 * (k + 1)) % 2147483563
 let c := (c * c + c / 3) % 2147483399
 (c * c + c / 7) % 2147483647 / 11 % many
theorem drw_lo (ns : List Int) (k : Int) {many : Int} (h : 0 < many) : 0 ≤ drw ns k many := Int.emod_nonneg _ (by omega)
theorem drw_hi (ns : List Int) (k : Int) {many : Int} (h : 0 < many) : drw ns k many < many := Int.emod_lt_of_pos _ h
noncomputable def scr (ns : List Int) : V := .frz (ns.map V.int)
theorem scr_nil (ns : List Int) : eqL (veq (18 + 1)) (ns.map V.int) [] = some (decide (ns = [])) := by cases ns <;> simp
end Pv
namespace Pv
open Ev (D BOp COp TY BI ME T E Es Eo It S Ss Fn big deep b2i rep mulOk ixN atI sIx cut joinS sortS slots)
section
variable {P : Phi} {w : Nat} {fr fr1 fr2 fr3 fr4 : Fr} {k b : Bool} {a e c : E} {es : Es} {ss sa sb : Ss} {st : S} {lo hi : Eo} {it : It} {v x y z : V} {vs : List V} {i : Nat} {l : List V} {Q : Fl → Fr → Prop}
theorem x_c {d : D} (h : ofD d = some v) : ev P k (.c d) fr = .ok v fr := by rw [ev_c, h]; rfl
theorem x_v (h : getV k fr i = some v) : ev P k (.v i) fr = .ok v fr := by rw [ev_v, h]; rfl
theorem x_tup (h : evs P false es fr = .ok vs fr1) (h2 : mkT vs = some v) : ev P k (.tup es) fr = .ok v fr1 := by rw [ev_tup, h, bind_ok, h2]; rfl
theorem x_lst (h : evs P false es fr = .ok vs fr1) (h2 : mkL vs = some v) : ev P k (.lst es) fr = .ok v fr1 := by rw [ev_lst, h, bind_ok, h2]; rfl
theorem x_bin {o : BOp} (h : ev P (kf a (tch e)) a fr = .ok x fr1) (h2 : ev P true e fr1 = .ok y fr2) (h3 : bop o x y = some v) : ev P k (.bin o a e) fr = .ok v fr2 := by rw [ev_bin, h, bind_ok, h2, bind_ok, h3]; rfl
theorem x_cmp {o : COp} (h : ev P (kf a (tch e)) a fr = .ok x fr1) (h2 : ev P true e fr1 = .ok y fr2) (h3 : cop o x y = some b) : ev P k (.cmp o a e) fr = .ok (.bl b) fr2 := by rw [ev_cmp, h, bind_ok, h2, bind_ok, h3]; rfl
theorem x_nt (h : ev P true a fr = .ok (.bl b) fr1) : ev P k (.nt a) fr = .ok (.bl (!b)) fr1 := by rw [ev_nt, h]; rfl
theorem x_neg {j : Int} (h : ev P true a fr = .ok (.int j) fr1) : ev P k (.neg a) fr = .ok (.int (-j)) fr1 := by rw [ev_neg, h]; rfl
theorem x_ife (h : evT P a fr = .ok b fr1) (h2 : b = true → ev P k e fr1 = .ok v fr2) (h3 : b = false → ev P k c fr1 = .ok v fr2) : ev P k (.ife a e c) fr = .ok v fr2 := by
 rw [ev_ife, h, bind_ok]
 cases b with
 | true => exact h2 rfl
 | false => exact h3 rfl
theorem x_ix (h : ev P (kf a (tch e)) a fr = .ok x fr1) (h2 : ev P true e fr1 = .ok y fr2) (h3 : ixd x y = some v) : ev P k (.ix a e) fr = .ok v fr2 := by rw [ev_ix, h, bind_ok, h2, bind_ok, h3]; rfl
theorem x_sl {p q : Option Int} (h : ev P (kf a (tcho lo ++ tcho hi)) a fr = .ok x fr1) (h2 : evo P lo fr1 = .ok p fr2) (h3 : evo P hi fr2 = .ok q fr3) (h4 : sld x p q = some v) : ev P k (.sl a lo hi) fr = .ok v fr3 := by rw [ev_sl, h, bind_ok, h2, bind_ok, h3, bind_ok, h4]; rfl
theorem x_cl {f : Nat} {as : List (Nat ⊕ V)} (h : evA P es fr = .ok as fr1) (h2 : callF P f as fr1 = .ok v fr2) : ev P k (.cl f es) fr = .ok v fr2 := by rw [ev_cl, h, bind_ok]; exact h2
theorem x_bi {g : BI} (h : evs P true es fr = .ok vs fr1) (h2 : bfn g vs = some v) : ev P k (.bi g es) fr = .ok v fr1 := by rw [ev_bi, h, bind_ok, h2]; rfl
theorem x_meM {m : ME} (hm : isMut m = true) (hl : (lent fr i).isSome = true) (h : evs P (exK m) es fr = .ok vs fr1) (h2 : slC m i vs fr1 fr1[i]? = .ok v fr2) : ev P k (.me m (.v i) es) fr = .ok v fr2 := by
 rw [ev_meM hm, if_pos hl, h, bind_ok, chgS_sl]; exact h2
theorem x_meN {m : ME} (hm : isMut m = false) (h : ev P (kf a (tchs es)) a fr = .ok x fr1) (h2 : evs P true es fr1 = .ok vs fr2) (h3 : mef m x vs = some v) : ev P k (.me m a es) fr = .ok v fr2 := by rw [ev_meN hm, h, bind_ok, h2, bind_ok, h3]; rfl
theorem x_comp {t : T} {cond : Eo} (h : evi P true it fr = .ok vs fr1) (hu : undef t fr1 = true) (h2 : compL (turnC P a t cond fr1) vs = some l) (h3 : mkL l = some v) : ev P k (.comp a t it cond) fr = .ok v fr1 := by
 rw [ev_comp, h, bind_ok, if_pos hu, h2]
 show R.of (mkL l) fr1 = _
 rw [h3]; rfl
theorem x_lof (h : evi P true it fr = .ok vs fr1) (h2 : mkL vs = some v) : ev P k (.lof it) fr = .ok v fr1 := by rw [ev_lof, h, bind_ok, h2]; rfl
theorem x_dget {kvs : List (D × D)} (h : ev P true a fr = .ok x fr1) (h2 : lookD x kvs = some v) : ev P k (.dget kvs a) fr = .ok v fr1 := by rw [ev_dget, h, bind_ok, h2]; rfl
theorem x_ttp (h : ev P true a fr = .ok x fr1) (h2 : toT x = some v) : ev P k (.ttp a) fr = .ok v fr1 := by rw [ev_ttp, h, bind_ok, h2]; rfl
theorem xs_nil : evs P k .nil fr = .ok [] fr := evs_nil
theorem xs_cons (h : ev P (k && kf a (tchs es)) a fr = .ok v fr1) (h2 : evs P k es fr1 = .ok vs fr2) : evs P k (.cons a es) fr = .ok (v :: vs) fr2 := by rw [evs_cons, h, bind_ok, h2]; rfl
theorem xa_nil : evA P .nil fr = .ok [] fr := evA_nil
theorem xa_v {as : List (Nat ⊕ V)} (hi : isV fr a = none) (h : ev P false a fr = .ok v fr1) (h2 : evA P es fr1 = .ok as fr2) : evA P (.cons a es) fr = .ok (.inr v :: as) fr2 := by rw [evA_cons, hi, lendA_none, h, bind_ok, h2]; rfl
theorem xa_l {as : List (Nat ⊕ V)} (hi : isV fr a = some i) (h2 : evA P es fr = .ok as fr2) : evA P (.cons a es) fr = .ok (.inl i :: as) fr2 := by rw [evA_cons, hi, lendA_some, h2]; rfl
theorem xo_no : evo P .no fr = .ok none fr := evo_no
theorem xo_yes {j : Int} (h : ev P true a fr = .ok (.int j) fr1) : evo P (.yes a) fr = .ok (some j) fr1 := by rw [evo_yes, h]; rfl
theorem xt_anf (h : evT P a fr = .ok false fr1) : evT P (.an a e) fr = .ok false fr1 := by rw [evT_an, h]; rfl
theorem xt_ant {b2 : Bool} (h : evT P a fr = .ok true fr1) (h2 : evT P e fr1 = .ok b2 fr2) : evT P (.an a e) fr = .ok b2 fr2 := by rw [evT_an, h]; exact h2
theorem xt_ort (h : evT P a fr = .ok true fr1) : evT P (.orr a e) fr = .ok true fr1 := by rw [evT_orr, h]; rfl
theorem xt_orf {b2 : Bool} (h : evT P a fr = .ok false fr1) (h2 : evT P e fr1 = .ok b2 fr2) : evT P (.orr a e) fr = .ok b2 fr2 := by rw [evT_orr, h]; exact h2
theorem xt_nt (h : evT P a fr = .ok b fr1) : evT P (.nt a) fr = .ok (!b) fr1 := by rw [evT_nt, h]; rfl
noncomputable def plainT : E → Bool
 | .an _ _ => false
 | .orr _ _ => false
 | .nt _ => false
 | _ => true
theorem xt_val (hp : plainT a = true) (h : ev P true a fr = .ok x fr1) (h2 : truthy x = b) : evT P a fr = .ok b fr1 := by
 have : evT P a fr = (ev P true a fr).bind truR := by
  cases a <;> first | (cases hp; done) | (rw [evT]; rfl; all_goals (intros; contradiction))
 rw [this, h, bind_ok, truR_eq, h2]
theorem xi_seq (h : src k fr a (ev P k a fr) = .ok x fr1) (h2 : seqOf x = some vs) : evi P k (.seq a) fr = .ok vs fr1 := by rw [evi_seq, h, bind_ok, h2]; rfl
theorem xi_srcv (h : getS k fr i = some v) {r : R V} : src k fr (.v i) r = .ok v fr := by rw [src_v, h]; rfl
theorem xi_rng (h : evs P true es fr = .ok vs fr1) (h2 : rngOf vs = some l) : evi P k (.rng es) fr = .ok l fr1 := by rw [evi_rng, h, bind_ok, h2]; rfl
theorem xi_enum (h : src k fr a (ev P k a fr) = .ok x fr1) (h2 : lOf x = some vs) : evi P k (.enum a) fr = .ok (enumD 0 vs) fr1 := by rw [evi_enum, h, bind_ok, h2]; rfl
theorem xi_rev (h : ev P true a fr = .ok x fr1) (h2 : tupV x = some vs) : evi P k (.rev a) fr = .ok vs.reverse fr1 := by rw [evi_rev, h, bind_ok, h2]; rfl
theorem w_set (h : ev P false a fr = .ok v fr1) (hn : isNew a = false) (hp : put fr1 i (.val v) = some fr2) (q : Q .nx fr2) : Wp (ex P w (.set i a) fr) Q := by
 rw [ex_set, h, bind_ok, hn, hp]; exact ⟨_, _, rfl, q⟩
theorem w_setN (h : ev P false a fr = .ok (.lst l) fr1) (hn : isNew a = true) (hp : put fr1 i (.own l) = some fr2) (q : Q .nx fr2) : Wp (ex P w (.set i a) fr) Q := by
 rw [ex_set, h, bind_ok, hn, if_pos rfl, setN_lst, hp]; exact ⟨_, _, rfl, q⟩
theorem w_setT {is : List Nat} (h : ev P false a fr = .ok v fr1) (hp : bindT (.many is) v fr1 = some fr2) (q : Q .nx fr2) : Wp (ex P w (.setT is a) fr) Q := by
 rw [ex_setT, h, bind_ok, hp]; exact ⟨_, _, rfl, q⟩
theorem w_exp (h : ev P true a fr = .ok v fr1) (q : Q .nx fr1) : Wp (ex P w (.exp a) fr) Q := by rw [ex_exp, h]; exact ⟨_, _, rfl, q⟩
theorem w_ret (h : ev P false a (shutF fr) = .ok v fr1) (q : Q (.ret v) fr1) : Wp (ex P w (.ret a) fr) Q := by rw [ex_ret, h]; exact ⟨_, _, rfl, q⟩
theorem w_iff (h : evT P a fr = .ok b fr1) (h2 : b = true → Wp (exs P w sa fr1) Q) (h3 : b = false → Wp (exs P w sb fr1) Q) : Wp (ex P w (.iff a sa sb) fr) Q := by
 rw [ex_iff, h, bind_ok]
 cases b with
 | true => exact h2 rfl
 | false => exact h3 rfl
theorem w_nil (q : Q .nx fr) : Wp (exs P w .nil fr) Q := by rw [exs_nil]; exact ⟨_, _, rfl, q⟩
noncomputable def nx (P : Phi) (w : Nat) (ss : Ss) (Q : Fl → Fr → Prop) : Fl → Fr → Prop
 | .nx, fr => Wp (exs P w ss fr) Q
 | g, fr => Q g fr
theorem w_cons (q : Wp (ex P w st fr) (nx P w ss Q)) : Wp (exs P w (.cons st ss) fr) Q := by
 rw [exs_cons, wp_bind]
 refine q.mono fun g fr1 z => ?_
 cases g with
 | nx => exact z
 | bk => exact ⟨_, _, rfl, z⟩
 | ct => exact ⟨_, _, rfl, z⟩
 | ret v => exact ⟨_, _, rfl, z⟩
theorem w_for {t : T} (h : evi P false it (walkF (itv it) fr) = .ok vs fr1) (q : Wp (forL (turnF P w t ss) vs fr1) Q) : Wp (ex P w (.for t it ss) fr) Q := by rw [ex_for, h, bind_ok]; exact q
theorem w_whl (q : Wp (whlL (fun fr2 => evT P a fr2) (fun fr2 => exs P w ss fr2) w fr) Q) : Wp (ex P w (.whl a ss) fr) Q := by rw [ex_whl]; exact q
theorem w_turn {t : T} {d : V} (hb : bindT t d fr = some fr1) (q : Wp (exs P w ss fr1) Q) : Wp (turnF P w t ss d fr) Q := by unfold turnF; rw [hb]; exact q
theorem c_turn {t : T} {d : V} (hb : bindT t d (roF fr) = some fr1) (h : ev P false a fr1 = .ok v fr2) : turnC P a t .no fr d = some (some v) := by
 unfold turnC; rw [hb]; dsimp only; rw [evc_no]; dsimp only; rw [h]; rfl
theorem c_turnY {t : T} {d : V} (hb : bindT t d (roF fr) = some fr1) (h : evT P c fr1 = .ok b fr2) (h2 : b = true → ev P false a fr1 = .ok v fr3) : turnC P a t (.yes c) fr d = some (if b then some v else none) := by
 unfold turnC; rw [hb]; dsimp only; rw [evc_yes, h]; dsimp only
 cases b with
 | true => rw [h2 rfl]; rfl
 | false => rfl
theorem l_ss {p q : List Nat} : cop .eq (.str p) (.str q) = some (decide (p = q)) := dveq_ss
theorem l_nss {p q : List Nat} : cop .ne (.str p) (.str q) = some (!decide (p = q)) := by rw [cop_ne, dveq_ss]; rfl
theorem l_ii {p q : Int} : cop .eq (.int p) (.int q) = some (decide (p = q)) := dveq_ii
theorem l_nii {p q : Int} : cop .ne (.int p) (.int q) = some (!decide (p = q)) := by rw [cop_ne, dveq_ii]; rfl
theorem l_lt {p q : Int} : cop .lt (.int p) (.int q) = some (decide (p < q)) := rfl
theorem l_gt {p q : Int} : cop .gt (.int p) (.int q) = some (decide (q < p)) := rfl
theorem l_mul {p q : Int} (h : mulOk p q = true) : bop .mul (.int p) (.int q) = some (.int (p * q)) := by rw [bop_muli, if_pos h]
theorem l_mod {p q : Int} (h : 0 < q) : bop .mod (.int p) (.int q) = some (.int (p % q)) := by rw [bop_mod, if_pos h]
theorem l_div {p q : Int} (h : 0 < q) (h2 : q < 1073741824) : bop .fdiv (.int p) (.int q) = some (.int (p / q)) := by rw [bop_fdiv, if_pos ⟨h, h2⟩]
end
theorem put_vo {fr : Fr} {i : Nat} {s : Sl} {o : Option Sl} (e : fr[i]? = some o) (h : vo o) : put fr i s = some (fr.set i (some s)) := by rw [put_sl, e, slP_vo h]
theorem bind2 {fr : Fr} {i j : Nat} {u v : V} {a b : Option Sl} (ea : fr[i]? = some a) (ha : vo a) (eb : (fr.set i (some (.val u)))[j]? = some b) (hb : vo b) : bindT (.many [i, j]) (.tup [u, v]) fr = some ((fr.set i (some (.val u))).set j (some (.val v))) := by
 simp only [bindT_many, setAll_cons, setAll_nil, put_vo ea ha, Option.bind, put_vo eb hb]
theorem bind1 {fr : Fr} {i : Nat} {v : V} {a : Option Sl} (ea : fr[i]? = some a) (ha : vo a) : bindT (.one i) v fr = some (fr.set i (some (.val v))) := put_vo ea ha
end Pv
local macro_rules | `(tactic| array_get_dec) => `(tactic| first
 | exact Pv.xs_nil | exact Pv.xa_nil | exact Pv.xo_no
 | (apply Pv.x_v; rfl) | (apply Pv.x_c; rfl) | apply Pv.x_bin | apply Pv.x_cmp | apply Pv.x_tup | apply Pv.x_lst | apply Pv.x_ix | apply Pv.x_sl | apply Pv.x_cl | apply Pv.x_bi
 | apply Pv.x_nt | apply Pv.x_neg | apply Pv.x_ttp | apply Pv.x_lof  | (apply Pv.x_meM rfl rfl) | (apply Pv.x_meN rfl) | apply Pv.x_dget
 | apply Pv.xs_cons | (apply Pv.xa_v rfl) | (apply Pv.xa_l rfl) | apply Pv.xo_yes | apply Pv.xt_nt | apply Pv.xt_val rfl
 | exact Pv.mkT_0 | exact Pv.mkT_1 | exact Pv.mkT_2 | exact Pv.mkT_3 | exact Pv.mkL_0 | exact Pv.mkL_1 | exact Pv.mkL_2
 | (with_reducible assumption) | exact Pv.bop_addi | exact Pv.bop_subi | exact Pv.l_ss | exact Pv.l_nss | exact Pv.l_ii | exact Pv.l_nii | exact Pv.l_lt  | exact Pv.l_gt 
 | (show Pv.truthy _ = _; rfl) | (show Pv.ixd _ _ = some _; rfl) | (show Pv.toT _ = some _; rfl) | (show Pv.lookD _ _ = some _; rfl) | (show Pv.seqOf _ = some _; rfl) | assumption)
namespace Pv
open Ev (D BOp COp TY BI ME T E Es Eo It S Ss Fn big deep b2i rep mulOk ixN atI sIx cut joinS sortS slots)
theorem mulA (a b : Int) : mulOk (a % 2147483563) b = true := by have h1 := Int.emod_nonneg a (b := 2147483563) (by decide); have h2 := Int.emod_lt_of_pos a (b := 2147483563) (by decide); simp [mulOk]; omega
theorem mulB (a b : Int) : mulOk (a % 2147483399) b = true := by have h1 := Int.emod_nonneg a (b := 2147483399) (by decide); have h2 := Int.emod_lt_of_pos a (b := 2147483399) (by decide); simp [mulOk]; omega
theorem ix_frz {l : List V} {j : Int} {v : V} (h : atI l j = some v) : ixd (.frz l) (.int j) = some v := h
theorem eq_frz {l m : List V} : cop .eq (.frz l) (.lst m) = eqL (veq (18 + 1)) l m := rfl
theorem run_cell {F : List Fn} {w n c : Nat} (hc : F[c]? = some fCell) {ns : List Int} (hn : ns.length ≤ 63) (k : Int) : run F w (n + 1) c [.val (scr ns), .val (.int k)] = some (.int (cellv ns k), []) := by
 refine run_wp hc rfl (w_cons (w_iff (b := decide (ns = [])) (xt_val rfl (x_cmp (x_v rfl) (x_lst xs_nil mkL_0) (eq_frz.trans (scr_nil ns))) rfl) (fun h => ?_) fun h => w_nil ?_))
 ·have h0 := of_decide_eq_true h
  exact w_cons (w_ret (x_bin (x_c rfl) (x_v rfl) (l_mul rfl)) ⟨by rw [cellv, if_pos h0], rfl⟩)
 ·have h0 := of_decide_eq_false h
  have hlen : 0 < ns.length := List.length_pos_iff.mpr h0
  have h31 : (0 : Int) < (ns.map V.int).length := by rw [List.length_map]; exact Int.natCast_pos.mpr hlen
  have h30 : ((ns.map V.int).length : Int) < 1073741824 := by rw [List.length_map]; omega
  have hm0 := Int.emod_nonneg k (b := (ns.length : Int)) (by omega)
  have hlt : (k % (ns.length : Int)).toNat < ns.length := by have := Int.emod_lt_of_pos k (b := (ns.length : Int)) (by omega); omega
  have hx : atI (ns.map V.int) (k % ((ns.map V.int).length : Int)) = some (.int (ns[(k % (ns.length : Int)).toNat]?.getD 0)) := by
   rw [List.length_map, atI_nn hm0, List.getElem?_map, List.getElem?_eq_getElem hlt]; rfl
  refine w_cons (w_ret (x_bin (x_ix (x_v rfl) (x_bin (x_v rfl) (x_bi (xs_cons (x_v rfl) xs_nil) len_frz) (l_mod h31)) (ix_frz hx)) (x_bin (x_c rfl) (x_bin (x_v rfl) (x_bi (xs_cons (x_v rfl) xs_nil) len_frz) (l_div h31 h30)) (l_mul rfl)) bop_addi) ⟨?_, rfl⟩)
  rw [cellv, if_neg h0, List.length_map]
theorem run_drawn {F : List Fn} {w n c dr : Nat} (hc : F[c]? = some fCell) (hd : F[dr]? = some (fDrawn c)) {ns : List Int} (hn : ns.length ≤ 63) (k : Int) {many : Int} (hm : 0 < many) : run F w (n + 2) dr [.val (scr ns), .val (.int k), .val (.int many)] = some (.int (drw ns k many), []) := by
 refine run_wp hd rfl (w_cons (w_set (x_bin (x_bin (x_bin (x_bin (x_cl (xa_v rfl (x_v rfl) (xa_v rfl (x_v rfl) xa_nil)) (call2 (run_cell hc hn k))) (x_c rfl) (l_mod (by decide))) (x_c rfl) (l_mul (mulA _ _))) (x_bin (x_c rfl) (x_bin (x_v rfl) (x_c rfl) bop_addi) (l_mul rfl)) bop_addi) (x_c rfl) (l_mod (by decide))) rfl rfl ?_))
 refine w_cons (w_set (x_bin (x_bin (x_bin (x_v rfl) (x_v rfl) (l_mul (mulA _ _))) (x_bin (x_v rfl) (x_c rfl) (l_div (by decide) (by decide))) bop_addi) (x_c rfl) (l_mod (by decide))) rfl rfl ?_)
 exact w_cons (w_ret (x_bin (x_bin (x_bin (x_bin (x_bin (x_v rfl) (x_v rfl) (l_mul (mulB _ _))) (x_bin (x_v rfl) (x_c rfl) (l_div (by decide) (by decide))) bop_addi) (x_c rfl) (l_mod (by decide))) (x_c rfl) (l_div (by decide) (by decide))) (x_v rfl) (l_mod hm)) ⟨rfl, rfl⟩)
noncomputable def fText (dr : Nat) : Fn := ⟨3, 4, (.cons (.ret (.me .join (.c (.str [])) (.cons (.comp (.ix (.c (.str [97, 98, 99, 32])) (.cl dr (.cons (.v 0) (.cons (.bin .add (.bin .add (.v 1) (.c (.int 1))) (.v 3)) (.cons (.c (.int 4)) .nil))))) (.one 3) (.rng (.cons (.cl dr (.cons (.v 0) (.cons (.v 1) (.cons (.bin .add (.v 2) (.c (.int 1))) .nil)))) .nil)) .no) .nil))) .nil)⟩
noncomputable def chgB1 (dr : Nat) : S := .iff (.cmp .eq (.cl dr (.cons (.v 0) (.cons (.bin .add (.v 1) (.bin .mul (.c (.int 4)) (.v 4))) (.cons (.c (.int 4)) .nil)))) (.c (.int 0))) (.cons (.set 5 (.bin .mul (.ix (.c (.str [97, 98, 122])) (.cl dr (.cons (.v 0) (.cons (.bin .add (.bin .add (.v 1) (.bin .mul (.c (.int 4)) (.v 4))) (.c (.int 1))) (.cons (.c (.int 3)) .nil))))) (.bin .add (.c (.int 1)) (.cl dr (.cons (.v 0) (.cons (.bin .add (.bin .add (.v 1) (.bin .mul (.c (.int 4)) (.v 4))) (.c (.int 2))) (.cons (.c (.int 2)) .nil))))))) (.cons (.set 3 (.bin .add (.v 3) (.tup (.cons (.tup (.cons (.c (.str [112, 117, 116])) (.cons (.v 5) .nil))) .nil)))) .nil)) .nil
noncomputable def chgB2 (dr : Nat) : S := .iff (.cmp .lt (.v 4) (.bi .len (.cons (.v 2) .nil))) (.cons (.set 6 (.cmp .gt (.cl dr (.cons (.v 0) (.cons (.bin .add (.bin .add (.v 1) (.bin .mul (.c (.int 4)) (.v 4))) (.c (.int 3))) (.cons (.c (.int 3)) .nil)))) (.c (.int 0)))) (.cons (.set 3 (.bin .add (.v 3) (.tup (.cons (.ife (.v 6) (.tup (.cons (.c (.str [107, 101, 101, 112])) (.cons (.c (.int 1)) .nil))) (.tup (.cons (.c (.str [100, 114, 111, 112])) (.cons (.ix (.v 2) (.v 4)) .nil)))) .nil)))) .nil)) .nil
noncomputable def fChange (dr : Nat) : Fn := ⟨3, 7, (.cons (.set 3 (.tup .nil)) (.cons (.for (.one 4) (.rng (.cons (.bin .add (.bi .len (.cons (.v 2) .nil)) (.c (.int 1))) .nil)) (.cons (chgB1 dr) (.cons (chgB2 dr) .nil))) (.cons (.ret (.v 3)) .nil)))⟩
inductive Pt where
 | keep (n : Nat) | put (s : List Nat) | drop (s : List Nat)
deriving DecidableEq
noncomputable def kKeep : List Nat := [107, 101, 101, 112]
noncomputable def kPut : List Nat := [112, 117, 116]
noncomputable def kDrop : List Nat := [100, 114, 111, 112]
noncomputable def Pt.v : Pt → V
 | .keep n => .tup [.str kKeep, .int n]
 | .put s => .tup [.str kPut, .str s]
 | .drop s => .tup [.str kDrop, .str s]
noncomputable def chV (c : List Pt) : V := .tup (c.map Pt.v)
theorem veq_pt (n : Nat) (a b : Pt) : veq (n + 2) a.v b.v = some (decide (a = b)) := by
 cases a <;> cases b <;> simp [Pt.v, kKeep, kPut, kDrop]
 all_goals omega
theorem veq_ch (a b : List Pt) : veq deep (chV a) (chV b) = some (decide (a = b)) := by
 simp only [chV, dveq_tt]
 exact eqL_map (fun a b => veq_pt 17 a b) a b
noncomputable def txt (ns : List Int) (at_ most : Int) : List Nat := (List.range (drw ns at_ (most + 1)).toNat).map fun (k : Nat) => [97, 98, 99, 32].getD (drw ns (at_ + 1 + k) 4).toNat 0
theorem txt_len (ns : List Int) (at_ : Int) {most : Int} (h : 0 ≤ most) : (txt ns at_ most).length ≤ most.toNat := by
 unfold txt
 have h1 := drw_hi ns at_ (many := most + 1) (by omega)
 have h2 := drw_lo ns at_ (many := most + 1) (by omega)
 simp; omega
theorem getD_at {α : Type} {l : List α} {i : Int} (h0 : 0 ≤ i) (h1 : i < l.length) (d : α) : atI l i = some (l.getD i.toNat d) := by
 have : i.toNat < l.length := by omega
 rw [atI_nn h0]; simp [List.getD, List.getElem?_eq_getElem this]
theorem flatten_one {α β : Type} (l : List α) (f : α → β) : (l.map fun x => [f x]).flatten = l.map f := by induction l <;> simp [*]
theorem range_map (lo : Int) (n : Nat) : range lo n = (List.range n).map fun (i : Nat) => V.int (lo + i) := rfl
section
variable {F : List Fn} {w n c dr t : Nat} (hc : F[c]? = some fCell) (hd : F[dr]? = some (fDrawn c)) {ns : List Int} (hn : ns.length ≤ 63)
include hc hd hn
theorem run_text (ht : F[t]? = some (fText dr)) (k most : Int) (hm : 0 ≤ most) (hm2 : most ≤ 1000) : run F w (n + 3) t [.val (scr ns), .val (.int k), .val (.int most)] = some (.str (txt ns k most), []) := by
 have b0 := drw_lo ns k (many := most + 1) (by omega)
 have b1 := drw_hi ns k (many := most + 1) (by omega)
 have d0 := fun fr => call3 (fr := fr) (run_drawn (w := w) (n := n) hc hd hn k (many := most + 1) (by omega))
 have hcomp : compL (turnC (run F w (n + 2)) (.ix (.c (.str [97, 98, 99, 32])) (.cl dr (.cons (.v 0) (.cons (.bin .add (.bin .add (.v 1) (.c (.int 1))) (.v 3)) (.cons (.c (.int 4)) .nil))))) (.one 3) .no [some (.val (scr ns)), some (.val (.int k)), some (.val (.int most)), none]) (range 0 (drw ns k (most + 1)).toNat) = some (((List.range (drw ns k (most + 1)).toNat).map fun (j : Nat) => [[97, 98, 99, 32].getD (drw ns (k + 1 + j) 4).toNat 0]).map V.str) := by
  rw [range_map, List.map_map]
  refine compL_map _ _ _ fun j _ => ?_
  have d1 := fun fr => call3 (fr := fr) (run_drawn (w := w) (n := n) hc hd hn (k + 1 + j) (many := 4) (by decide))
  have ix : ixd (.str [97, 98, 99, 32]) (.int (drw ns (k + 1 + j) 4)) = some (.str [[97, 98, 99, 32].getD (drw ns (k + 1 + j) 4).toNat 0]) := by
   rw [ixd_str, getD_at (l := [97, 98, 99, 32]) (drw_lo ns (k + 1 + j) (many := 4) (by decide)) (drw_hi ns (k + 1 + j) (many := 4) (by decide)) 0]; rfl
  rw [show (0 : Int) + (j : Int) = j from Int.zero_add _]
  exact c_turn rfl (by (repeat (first | array_get_dec | exact d1 _)))
 have hj := join0 (l := (List.range (drw ns k (most + 1)).toNat).map fun (j : Nat) => [[97, 98, 99, 32].getD (drw ns (k + 1 + j) 4).toNat 0]) (by rw [flatten_one]; simp; omega)
 rw [flatten_one] at hj
 have hmk : mkL (((List.range (drw ns k (most + 1)).toNat).map fun (j : Nat) => [[97, 98, 99, 32].getD (drw ns (k + 1 + j) 4).toNat 0]).map V.str) = some (.lst _) := mkL_le (le_big (by simp; omega))
 have rg := rng1 b0 (show drw ns k (most + 1) ≤ 100000 by omega)
 refine run_wp ht rfl (w_cons (w_ret (x_meN rfl (x_c rfl) (xs_cons (x_comp (xi_rng (by (repeat (first | array_get_dec | exact d0 _))) rg) rfl hcomp hmk) xs_nil) hj) ⟨rfl, rfl⟩))
end
noncomputable def chgAt (ns : List Int) (at_ : Int) (s : List Nat) (k : Nat) : List Pt :=
 (if drw ns (at_ + 4 * k) 4 = 0 then [.put (rep (1 + drw ns (at_ + 4 * k + 2) 2).toNat [[97, 98, 122].getD (drw ns (at_ + 4 * k + 1) 3).toNat 0])] else []) ++
 (match s[k]? with
 | some c => [if 0 < drw ns (at_ + 4 * k + 3) 3 then .keep 1 else .drop [c]]
 | none => [])
noncomputable def chgTo (ns : List Int) (at_ : Int) (s : List Nat) (k : Nat) : List Pt := (List.range k).flatMap (chgAt ns at_ s)
noncomputable def chg (ns : List Int) (at_ : Int) (s : List Nat) : List Pt := chgTo ns at_ s (s.length + 1)
theorem chgAt_len (ns : List Int) (at_ : Int) (s : List Nat) (k : Nat) : (chgAt ns at_ s k).length ≤ 2 := by
 unfold chgAt
 split <;> split <;> simp
theorem chgTo_succ (ns : List Int) (at_ : Int) (s : List Nat) (k : Nat) : chgTo ns at_ s (k + 1) = chgTo ns at_ s k ++ chgAt ns at_ s k := by simp [chgTo, List.range_succ]
theorem chgTo_len (ns : List Int) (at_ : Int) (s : List Nat) : ∀ k, (chgTo ns at_ s k).length ≤ 2 * k
 | 0 => by simp [chgTo]
 | k + 1 => by
  have h1 := chgAt_len ns at_ s k
  have h2 := chgTo_len ns at_ s k
  rw [chgTo_succ, List.length_append]
  omega
theorem mul4 (i : Int) : mulOk 4 i = true := by simp [mulOk]
theorem addch {a b : List Pt} (h : a.length + b.length ≤ 100000) : bop .add (chV a) (chV b) = some (chV (a ++ b)) := by
 simp only [chV]; rw [bop_addt (by simpa using h)]; simp
theorem rngN {j : Int} {n : Nat} (h : n ≤ 100000) (e : j = n) : rngOf [.int j] = some (range 0 n) := by
 subst e
 rw [rng1 (by omega) (by omega)]
 rfl
theorem add_put {a : List Pt} {s : List Nat} (h : a.length < 100000) : bop .add (chV a) (.tup [.tup [.str [112, 117, 116], .str s]]) = some (chV (a ++ [.put s])) := addch (a := a) (b := [.put s]) (by simp; omega)
theorem add_drop {a : List Pt} {s : List Nat} (h : a.length < 100000) : bop .add (chV a) (.tup [.tup [.str [100, 114, 111, 112], .str s]]) = some (chV (a ++ [.drop s])) := addch (a := a) (b := [.drop s]) (by simp; omega)
theorem add_keep {a : List Pt} (h : a.length < 100000) : bop .add (chV a) (.tup [.tup [.str [107, 101, 101, 112], .int 1]]) = some (chV (a ++ [.keep 1])) := addch (a := a) (b := [.keep 1]) (by simp; omega)
section
variable {F : List Fn} {w n c dr t : Nat} (hc : F[c]? = some fCell) (hd : F[dr]? = some (fDrawn c)) {ns : List Int} (hn : ns.length ≤ 63)
include hc hd hn
theorem wp_chgB1 (k : Int) (x : V) (fd : List Pt) (j : Nat) (u v : Option Sl) (hu : vo u) (hfd : fd.length ≤ 10000) :
  Wp (ex (run F w (n + 2)) w (chgB1 dr) [some (.val (scr ns)), some (.val (.int k)), some (.val x), some (.val (chV fd)), some (.val (.int j)), u, v]) fun g fr => g = .nx ∧ ∃ b, vo b ∧ fr = [some (.val (scr ns)), some (.val (.int k)), some (.val x), some (.val (chV (fd ++ if drw ns (k + 4 * j) 4 = 0 then [.put (rep (1 + drw ns (k + 4 * j + 2) 2).toNat [[97, 98, 122].getD (drw ns (k + 4 * j + 1) 3).toNat 0])] else []))), some (.val (.int j)), b, v] := by
 have d1 := fun fr => call3 (fr := fr) (run_drawn (w := w) (n := n) hc hd hn (k + 4 * j) (many := 4) (by decide))
 have m4 : bop .mul (.int 4) (.int j) = some (.int (4 * j)) := by rw [bop_muli, mul4]; rfl
 refine w_iff (by (repeat (first | array_get_dec | exact d1 _))) (fun h => ?_) fun h => ?_
 ·have h0 := of_decide_eq_true h
  have d2 := fun fr => call3 (fr := fr) (run_drawn (w := w) (n := n) hc hd hn (k + 4 * j + 1) (many := 3) (by decide))
  have d3 := fun fr => call3 (fr := fr) (run_drawn (w := w) (n := n) hc hd hn (k + 4 * j + 2) (many := 2) (by decide))
  have c2 := drw_lo ns (k + 4 * j + 2) (many := 2) (by decide)
  have c3 := drw_hi ns (k + 4 * j + 2) (many := 2) (by decide)
  have ix : ixd (.str [97, 98, 122]) (.int (drw ns (k + 4 * j + 1) 3)) = some (.str [[97, 98, 122].getD (drw ns (k + 4 * j + 1) 3).toNat 0]) := by
   rw [ixd_str, getD_at (l := [97, 98, 122]) (drw_lo ns (k + 4 * j + 1) (many := 3) (by decide)) (drw_hi ns (k + 4 * j + 1) (many := 3) (by decide)) 0]; rfl
  have ml := bop_muls (j := 1 + drw ns (k + 4 * j + 2) 2) (a := [[97, 98, 122].getD (drw ns (k + 4 * j + 1) 3).toNat 0]) (by omega) (by omega) (by simp)
  have ad := add_put (a := fd) (s := rep (1 + drw ns (k + 4 * j + 2) 2).toNat [[97, 98, 122].getD (drw ns (k + 4 * j + 1) 3).toNat 0]) (by omega)
  refine w_cons (w_set (by (repeat (first | array_get_dec | exact d2 _ | exact d3 _))) rfl (put_vo rfl hu) ?_)
  refine w_cons (w_set (by repeat array_get_dec) rfl rfl (w_nil ?_))
  rw [if_pos h0]; exact ⟨rfl, _, .val, rfl⟩
 ·have h0 := of_decide_eq_false h
  rw [if_neg h0, List.append_nil]
  exact w_nil ⟨rfl, u, hu, rfl⟩
theorem wp_chgB2 (k : Int) (x : List Nat) (hx : x.length ≤ 1000) (fd : List Pt) (j : Nat) (u v : Option Sl) (hv : vo v) (hfd : fd.length ≤ 10000) :
  Wp (ex (run F w (n + 2)) w (chgB2 dr) [some (.val (scr ns)), some (.val (.int k)), some (.val (.str x)), some (.val (chV fd)), some (.val (.int j)), u, v]) fun g fr => g = .nx ∧ ∃ b, vo b ∧ fr = [some (.val (scr ns)), some (.val (.int k)), some (.val (.str x)), some (.val (chV (fd ++ match x[j]? with
     | some c => [if 0 < drw ns (k + 4 * j + 3) 3 then .keep 1 else .drop [c]]
     | none => []))), some (.val (.int j)), u, b] := by
 have ln : bfn .len [.str x] = some (.int (x.length : Nat)) := len_str (by omega)
 refine w_iff (by repeat array_get_dec) (fun h => ?_) fun h => ?_
 ·have hlt : j < x.length := by have := of_decide_eq_true h; omega
  have d1 := fun fr => call3 (fr := fr) (run_drawn (w := w) (n := n) hc hd hn (k + 4 * j + 3) (many := 3) (by decide))
  have m4 : bop .mul (.int 4) (.int j) = some (.int (4 * j)) := by rw [bop_muli, mul4]; rfl
  have hg : x[j]? = some x[j] := List.getElem?_eq_getElem hlt
  have ix : ixd (.str x) (.int j) = some (.str [x[j]]) := by rw [ixd_str, atI_nat, hg]; rfl
  rw [hg]
  refine w_cons (w_set (by (repeat (first | array_get_dec | exact d1 _))) rfl (put_vo rfl hv) ?_)
  by_cases hk : 0 < drw ns (k + 4 * j + 3) 3
  ·have ad := add_keep (a := fd) (by omega)
   have ht : truthy (.bl (decide (0 < drw ns (k + 4 * j + 3) 3))) = true := decide_eq_true hk
   refine w_cons (w_set (x_bin (x_v rfl) (x_tup (xs_cons (x_ife (b := true) (xt_val rfl (x_v rfl) ht) (fun _ => by repeat array_get_dec) fun h => absurd h (by decide)) xs_nil) mkT_1) ad) rfl rfl (w_nil ?_))
   refine ⟨rfl, some (.val (.bl (decide (0 < drw ns (k + 4 * j + 3) 3)))), .val, ?_⟩
   simp only [if_pos hk]; rfl
  ·have ad := add_drop (a := fd) (s := [x[j]]) (by omega)
   have ht : truthy (.bl (decide (0 < drw ns (k + 4 * j + 3) 3))) = false := decide_eq_false hk
   refine w_cons (w_set (x_bin (x_v rfl) (x_tup (xs_cons (x_ife (b := false) (xt_val rfl (x_v rfl) ht) (fun h => absurd h (by decide)) fun _ => by repeat array_get_dec) xs_nil) mkT_1) ad) rfl rfl (w_nil ?_))
   refine ⟨rfl, some (.val (.bl (decide (0 < drw ns (k + 4 * j + 3) 3)))), .val, ?_⟩
   simp only [if_neg hk]; rfl
 ·have hlt : ¬ j < x.length := by have := of_decide_eq_false h; omega
  rw [List.getElem?_eq_none (by omega), List.append_nil]
  exact w_nil ⟨rfl, v, hv, rfl⟩
theorem run_change (ht : F[t]? = some (fChange dr)) (k : Int) (x : List Nat) (hx : x.length ≤ 1000) : run F w (n + 3) t [.val (scr ns), .val (.int k), .val (.str x)] = some (chV (chg ns k x), []) := by
 refine run_wp ht rfl ?_
 have ln : bfn .len [.str x] = some (.int (x.length : Nat)) := len_str (by omega)
 have rg : rngOf [.int ((x.length : Nat) + 1)] = some (range 0 (x.length + 1)) := rngN (by omega) (by omega)
 refine w_cons (w_set (by repeat array_get_dec) rfl rfl ?_)
 refine w_cons (w_for (xi_rng (xs_cons (x_bin (x_bi (xs_cons (x_v rfl) xs_nil) ln) (x_c rfl) bop_addi) xs_nil) rg) ?_)
 refine wp_forR (fun j fr => ∃ a b c, vo a ∧ vo b ∧ vo c ∧ fr = [some (.val (scr ns)), some (.val (.int k)), some (.val (.str x)), some (.val (chV (chgTo ns k x j))), a, b, c]) (fun j fr hj ⟨a, b, c', ha, hb, hc', hfr⟩ => ?_) (fun fr ⟨a, b, c', ha, hb, hc', hfr⟩ => ?_) ⟨none, none, none, .none, .none, .none, rfl⟩
 ·subst hfr
  have hz := chgTo_len ns k x j
  rw [show (0 : Int) + (j : Int) = j from Int.zero_add _]
  refine w_turn (bind1 rfl ha) (w_cons ?_)
  refine (wp_chgB1 hc hd hn k (.str x) (chgTo ns k x j) j b c' hb (by omega)).mono fun g fr ⟨q1, b2, hb2, q3⟩ => ?_
  subst q1 q3
  refine w_cons ?_
  refine (wp_chgB2 hc hd hn k x hx _ j b2 c' hc' (by split <;> simp <;> omega)).mono fun g fr ⟨q1, b3, hb3, q3⟩ => ?_
  subst q1 q3
  refine w_nil ?_
  rw [fl_nx]
  refine ⟨some (.val (.int j)), b2, b3, .val, hb2, hb3, ?_⟩
  rw [chgTo_succ, chgAt, List.append_assoc]
 ·subst hfr
  refine w_cons (w_ret (v := chV (chg ns k x)) (fr1 := [some (.val (scr ns)), some (.val (.int k)), some (.val (.str x)), some (.val (chV (chgTo ns k x (x.length + 1)))), a, b, c']) ?_ ⟨rfl, rfl⟩)
  have sh : shutF [some (.val (scr ns)), some (.val (.int k)), some (.val (.str x)), some (.val (chV (chgTo ns k x (x.length + 1)))), a, b, c'] = [some (.val (scr ns)), some (.val (.int k)), some (.val (.str x)), some (.val (chV (chgTo ns k x (x.length + 1)))), a, b, c'] := by
   show _ :: _ :: _ :: _ :: a.map Sl.shut :: b.map Sl.shut :: [c'.map Sl.shut] = _
   rw [shut_vo ha, shut_vo hb, shut_vo hc']; rfl
  rw [sh]; exact x_v rfl
end
end Pv
namespace Pv
open Ev (D BOp COp TY BI ME T E Es Eo It S Ss Fn big deep b2i rep mulOk ixN atI sIx cut joinS sortS slots)
noncomputable def q_size_0 : S := .iff (.cmp .eq (.ix (.v 0) (.c (.int 0))) (.c (.str [107, 101, 101, 112]))) (.cons (.ret (.ix (.v 0) (.c (.int 1)))) .nil) .nil
noncomputable def q_size_1 : S := .ret (.bi .len (.cons (.ix (.v 0) (.c (.int 1))) .nil))
noncomputable def F_size : Fn := ⟨1, 1, (.cons q_size_0 (.cons q_size_1 .nil))⟩
noncomputable def q_before_0 (n_size : Nat) : S := .ret (.bi .sum (.cons (.comp (.cl n_size (.cons (.v 1) .nil)) (.one 1) (.seq (.v 0)) (.yes (.cmp .ne (.ix (.v 1) (.c (.int 0))) (.c (.str [112, 117, 116]))))) .nil))
noncomputable def F_before (n_size : Nat) : Fn := ⟨1, 2, (.cons (q_before_0 n_size) .nil)⟩
noncomputable def q_after_0 (n_size : Nat) : S := .ret (.bi .sum (.cons (.comp (.cl n_size (.cons (.v 1) .nil)) (.one 1) (.seq (.v 0)) (.yes (.cmp .ne (.ix (.v 1) (.c (.int 0))) (.c (.str [100, 114, 111, 112]))))) .nil))
noncomputable def F_after (n_size : Nat) : Fn := ⟨1, 2, (.cons (q_after_0 n_size) .nil)⟩
noncomputable def q_cost_0 (n_size : Nat) : S := .ret (.bi .sum (.cons (.comp (.cl n_size (.cons (.v 1) .nil)) (.one 1) (.seq (.v 0)) (.yes (.cmp .ne (.ix (.v 1) (.c (.int 0))) (.c (.str [107, 101, 101, 112]))))) .nil))
noncomputable def F_cost (n_size : Nat) : Fn := ⟨1, 2, (.cons (q_cost_0 n_size) .nil)⟩
noncomputable def q_form_0 : S := .set 1 (.lst .nil)
noncomputable def q_form_1 : S := .set 2 (.c (.int 0))
noncomputable def q_form_2 : S := .set 3 (.c (.str []))
noncomputable def q_form_3 : S := .set 4 (.c (.str []))
noncomputable def w_form_0 (n_stretch : Nat) : Ss := (.cons (.iff (.cmp .eq (.v 5) (.c (.str [100, 114, 111, 112]))) (.cons (.set 3 (.bin .add (.v 3) (.v 6))) .nil) (.cons (.iff (.cmp .eq (.v 5) (.c (.str [112, 117, 116]))) (.cons (.set 4 (.bin .add (.v 4) (.v 6))) .nil) (.cons (.iff (.cmp .gt (.v 6) (.c (.int 0))) (.cons (.iff (.orr (.cmp .ne (.v 3) (.c (.str []))) (.cmp .ne (.v 4) (.c (.str [])))) (.cons (.exp (.me .extend (.v 1) (.cons (.cl n_stretch (.cons (.v 2) (.cons (.v 3) (.cons (.v 4) .nil)))) .nil))) (.cons (.set 2 (.c (.int 0))) (.cons (.set 3 (.c (.str []))) (.cons (.set 4 (.c (.str []))) .nil)))) .nil) (.cons (.set 2 (.bin .add (.v 2) (.v 6))) .nil)) .nil) .nil)) .nil)) .nil)
noncomputable def q_form_4 (n_stretch : Nat) : S := .for (.many [5, 6]) (.seq (.v 0)) (w_form_0 n_stretch)
noncomputable def q_form_5 (n_stretch : Nat) : S := .exp (.me .extend (.v 1) (.cons (.cl n_stretch (.cons (.v 2) (.cons (.v 3) (.cons (.v 4) .nil)))) .nil))
noncomputable def q_form_6 : S := .ret (.ttp (.v 1))
noncomputable def F_form (n_stretch : Nat) : Fn := ⟨1, 7, (.cons q_form_0 (.cons q_form_1 (.cons q_form_2 (.cons q_form_3 (.cons (q_form_4 n_stretch) (.cons (q_form_5 n_stretch) (.cons q_form_6 .nil)))))))⟩
noncomputable def q_stretch_0 : S := .set 3 (.lst .nil)
noncomputable def q_stretch_1 : S := .iff (.cmp .gt (.v 0) (.c (.int 0))) (.cons (.exp (.me .append (.v 3) (.cons (.tup (.cons (.c (.str [107, 101, 101, 112])) (.cons (.v 0) .nil))) .nil))) .nil) .nil
noncomputable def q_stretch_2 : S := .iff (.cmp .ne (.v 1) (.c (.str []))) (.cons (.exp (.me .append (.v 3) (.cons (.tup (.cons (.c (.str [100, 114, 111, 112])) (.cons (.v 1) .nil))) .nil))) .nil) .nil
noncomputable def q_stretch_3 : S := .iff (.cmp .ne (.v 2) (.c (.str []))) (.cons (.exp (.me .append (.v 3) (.cons (.tup (.cons (.c (.str [112, 117, 116])) (.cons (.v 2) .nil))) .nil))) .nil) .nil
noncomputable def q_stretch_4 : S := .ret (.v 3)
noncomputable def F_stretch : Fn := ⟨3, 4, (.cons q_stretch_0 (.cons q_stretch_1 (.cons q_stretch_2 (.cons q_stretch_3 (.cons q_stretch_4 .nil)))))⟩
noncomputable def q_sense_0 : S := .set 1 (.lst .nil)
noncomputable def q_sense_1 : S := .set 2 (.lst .nil)
noncomputable def w_sense_0 : Ss := (.cons (.iff (.cmp .eq (.v 3) (.c (.str [107, 101, 101, 112]))) (.cons (.set 2 (.bin .add (.v 2) (.lof (.rng (.cons (.bi .len (.cons (.v 1) .nil)) (.cons (.bin .add (.bi .len (.cons (.v 1) .nil)) (.v 4)) .nil)))))) (.cons (.set 1 (.bin .add (.v 1) (.bin .mul (.lst (.cons (.c (.str [])) .nil)) (.v 4)))) .nil)) (.cons (.iff (.cmp .eq (.v 3) (.c (.str [100, 114, 111, 112]))) (.cons (.set 1 (.bin .add (.v 1) (.lof (.seq (.v 4))))) .nil) (.cons (.set 2 (.bin .add (.v 2) (.lof (.seq (.v 4))))) .nil)) .nil)) .nil)
noncomputable def q_sense_2 : S := .for (.many [3, 4]) (.seq (.v 0)) w_sense_0
noncomputable def q_sense_3 : S := .ret (.tup (.cons (.v 1) (.cons (.v 2) .nil)))
noncomputable def F_sense : Fn := ⟨1, 5, (.cons q_sense_0 (.cons q_sense_1 (.cons q_sense_2 (.cons q_sense_3 .nil))))⟩
noncomputable def Pt.n : Pt → Nat
 | .keep n => n
 | .put s => s.length
 | .drop s => s.length
noncomputable def tot (c : List Pt) : Nat := (c.map Pt.n).sum
theorem tot_app (a b : List Pt) : tot (a ++ b) = tot a + tot b := by simp [tot]
theorem tot_cons (p : Pt) (c : List Pt) : tot (p :: c) = p.n + tot c := by simp [tot]
noncomputable def isPut : Pt → Bool
 | .put _ => true
 | _ => false
noncomputable def isDrop : Pt → Bool
 | .drop _ => true
 | _ => false
noncomputable def isKeep : Pt → Bool
 | .keep _ => true
 | _ => false
noncomputable def bef (c : List Pt) : Nat := tot (c.filter fun p => !isPut p)
noncomputable def aft (c : List Pt) : Nat := tot (c.filter fun p => !isDrop p)
noncomputable def cst (c : List Pt) : Nat := tot (c.filter fun p => !isKeep p)
section
variable {F : List Fn} {w n i_size i : Nat}
theorem run_size (hs : F[i]? = some F_size) (p : Pt) (hp : p.n ≤ 100000) : run F w (n + 1) i [.val p.v] = some (.int p.n, []) := by
 cases p with
 | keep k => exact run_wp hs rfl (w_cons (w_iff (b := true) (xt_val rfl (x_cmp (x_ix (x_v rfl) (x_c rfl) rfl) (x_c rfl) l_ss) rfl) (fun _ => w_cons (w_ret (x_ix (x_v rfl) (x_c rfl) rfl) ⟨rfl, rfl⟩)) nofun))
 | put s => exact run_wp hs rfl (w_cons (w_iff (b := false) (xt_val rfl (x_cmp (x_ix (x_v rfl) (x_c rfl) rfl) (x_c rfl) l_ss) rfl) nofun (fun _ => w_nil (w_cons (w_ret (x_bi (xs_cons (x_ix (x_v rfl) (x_c rfl) rfl) xs_nil) (len_str hp)) ⟨rfl, rfl⟩)))))
 | drop s => exact run_wp hs rfl (w_cons (w_iff (b := false) (xt_val rfl (x_cmp (x_ix (x_v rfl) (x_c rfl) rfl) (x_c rfl) l_ss) rfl) nofun (fun _ => w_nil (w_cons (w_ret (x_bi (xs_cons (x_ix (x_v rfl) (x_c rfl) rfl) xs_nil) (len_str hp)) ⟨rfl, rfl⟩)))))
theorem n_le {c : List Pt} {p : Pt} (h : p ∈ c) : p.n ≤ tot c := by
 induction c with
 | nil => simp at h
 | cons q c ih =>
  rw [tot_cons]
  rcases List.mem_cons.mp h with rfl | h
  ·omega
  ·have := ih h; omega
theorem sum_n (c : List Pt) : (c.map fun p => (p.n : Int)).sum = (tot c : Int) := by
 induction c with
 | nil => rfl
 | cons p c ih => simp only [List.map_cons, List.sum_cons, ih, tot_cons]; omega
theorem run_sum {word : List Nat} {pr : Pt → Bool} (hs : F[i_size]? = some F_size) (hb : F[i]? = some ⟨1, 2, .cons (.ret (.bi .sum (.cons (.comp (.cl i_size (.cons (.v 1) .nil)) (.one 1) (.seq (.v 0)) (.yes (.cmp .ne (.ix (.v 1) (.c (.int 0))) (.c (.str word))))) .nil))) .nil⟩)
  (hw : ∀ p : Pt, ∃ x u, p.v = .tup [.str x, u] ∧ (!decide (x = word)) = pr p) (c : List Pt) (h1 : c.length ≤ 10000) (h2 : tot c ≤ 100000) : run F w (n + 2) i [.val (chV c)] = some (.int (tot (c.filter pr)), []) := by
 refine run_wp hb rfl (w_cons (w_ret (x_bi (xs_cons (x_comp (xi_seq (xi_srcv rfl) rfl) rfl (compL_filter (e := Pt.v) (p := pr) (g := fun p => .int p.n) c fun p hp => ?_) (mkL_le (le_big ?_))) xs_nil) ?_) ⟨rfl, rfl⟩))
 ·obtain ⟨x, u, hx, hpr⟩ := hw p
  have hcall := fun fr => call1 (fr := fr) (run_size (w := w) (n := n) hs p (Nat.le_trans (n_le hp) h2))
  rw [hx] at hcall
  rw [hx, ← hpr]
  exact c_turnY rfl (xt_val rfl (x_cmp (x_ix (x_v rfl) (x_c rfl) rfl) (x_c rfl) l_nss) rfl) fun _ => x_cl (xa_v rfl (x_v rfl) xa_nil) (hcall _)
 ·rw [List.length_map]; exact Nat.le_trans (List.length_filter_le _ _) (Nat.le_trans h1 (by decide))
 ·rw [sum_lst, intsOf_map (fun p : Pt => (p.n : Int))]
  show some (V.int _) = _
  rw [sum_n]
theorem run_before (hs : F[i_size]? = some F_size) (hb : F[i]? = some (F_before i_size)) (c : List Pt) (h1 : c.length ≤ 10000) (h2 : tot c ≤ 100000) : run F w (n + 2) i [.val (chV c)] = some (.int (bef c), []) :=
 run_sum (pr := fun p => !isPut p) hs hb (fun p => by cases p <;> exact ⟨_, _, rfl, rfl⟩) c h1 h2
theorem run_after (hs : F[i_size]? = some F_size) (hb : F[i]? = some (F_after i_size)) (c : List Pt) (h1 : c.length ≤ 10000) (h2 : tot c ≤ 100000) : run F w (n + 2) i [.val (chV c)] = some (.int (aft c), []) :=
 run_sum (pr := fun p => !isDrop p) hs hb (fun p => by cases p <;> exact ⟨_, _, rfl, rfl⟩) c h1 h2
theorem run_cost (hs : F[i_size]? = some F_size) (hb : F[i]? = some (F_cost i_size)) (c : List Pt) (h1 : c.length ≤ 10000) (h2 : tot c ≤ 100000) : run F w (n + 2) i [.val (chV c)] = some (.int (cst c), []) :=
 run_sum (pr := fun p => !isKeep p) hs hb (fun p => by cases p <;> exact ⟨_, _, rfl, rfl⟩) c h1 h2
end
noncomputable def stretch (k : Nat) (g w : List Nat) : List Pt := (if 0 < k then [.keep k] else []) ++ (if g = [] then [] else [.drop g]) ++ (if w = [] then [] else [.put w])
theorem stretch_len (k : Nat) (g w : List Nat) : (stretch k g w).length ≤ 3 := by unfold stretch; split <;> split <;> split <;> simp
theorem run_stretch {F : List Fn} {w n i : Nat} (hs : F[i]? = some F_stretch) (k : Nat) (g x : List Nat) : run F w (n + 1) i [.val (.int k), .val (.str g), .val (.str x)] = some (.lst ((stretch k g x).map Pt.v), []) := by
 refine run_wp hs rfl ?_
 refine w_cons (w_setN (l := []) (by repeat array_get_dec) rfl rfl ?_)
 have ap : ∀ (l : List V) (d : V) (fr : Fr) (i : Nat), l.length ≤ 3 → fr[i]? = some (some (.own l)) → slC .append i [d] fr fr[i]? = .ok .non (fr.set i (some (.own (l ++ [d])))) := fun l d fr i h e => by rw [e]; exact app_own (by omega)
 have fin : ∀ l : List V, Wp (exs (run F w n) w (.cons q_stretch_4 .nil) [some (.val (.int k)), some (.val (.str g)), some (.val (.str x)), some (.own l)]) fun g fr => g = .ret (.lst l) ∧ outs 3 fr = [] := fun l => w_cons (w_ret (by repeat array_get_dec) ⟨rfl, rfl⟩)
 have s3 : ∀ l : List V, l.length ≤ 2 → Wp (exs (run F w n) w (.cons q_stretch_3 (.cons q_stretch_4 .nil)) [some (.val (.int k)), some (.val (.str g)), some (.val (.str x)), some (.own l)]) fun g fr => g = .ret (.lst (l ++ (if x = [] then [] else [Pt.put x]).map Pt.v)) ∧ outs 3 fr = [] := fun l hl => by
  refine w_cons (w_iff (by repeat array_get_dec) (fun h => ?_) fun h => ?_)
  ·have hx : x ≠ [] := by simpa using h
   refine w_cons (w_exp (by (repeat array_get_dec); exact ap _ _ _ _ (by omega) rfl) (w_nil ?_))
   rw [if_neg hx]; exact fin _
  ·have hx : x = [] := by simpa using h
   refine w_nil ?_
   rw [if_pos hx, List.map_nil, List.append_nil]; exact fin _
 have s2 : ∀ l : List V, l.length ≤ 1 → Wp (exs (run F w n) w (.cons q_stretch_2 (.cons q_stretch_3 (.cons q_stretch_4 .nil))) [some (.val (.int k)), some (.val (.str g)), some (.val (.str x)), some (.own l)]) fun y fr => y = .ret (.lst (l ++ ((if g = [] then [] else [Pt.drop g]) ++ (if x = [] then [] else [Pt.put x])).map Pt.v)) ∧ outs 3 fr = [] := fun l hl => by
  refine w_cons (w_iff (by repeat array_get_dec) (fun h => ?_) fun h => ?_)
  ·have hx : g ≠ [] := by simpa using h
   refine w_cons (w_exp (by (repeat array_get_dec); exact ap _ _ _ _ (by omega) rfl) (w_nil ?_))
   rw [if_neg hx, List.map_append, ← List.append_assoc]; exact s3 _ (by simp; omega)
  ·have hx : g = [] := by simpa using h
   refine w_nil ?_
   rw [if_pos hx, List.nil_append]; exact s3 _ (by omega)
 refine w_cons (w_iff (by repeat array_get_dec) (fun h => ?_) fun h => ?_)
 ·have hx : 0 < k := by have := of_decide_eq_true h; omega
  refine w_cons (w_exp (by (repeat array_get_dec); exact ap _ _ _ _ (by decide) rfl) (w_nil ?_))
  unfold stretch
  rw [if_pos hx, List.append_assoc]; exact s2 _ (Nat.le_refl 1)
 ·have hx : ¬ 0 < k := by have := of_decide_eq_false h; omega
  refine w_nil ?_
  unfold stretch
  rw [if_neg hx]; exact s2 _ (by decide)
abbrev FS := List Pt × Nat × List Nat × List Nat
noncomputable def fstep (st : FS) : Pt → FS
 | .drop s => (st.1, st.2.1, st.2.2.1 ++ s, st.2.2.2)
 | .put s => (st.1, st.2.1, st.2.2.1, st.2.2.2 ++ s)
 | .keep k => if 0 < k then (if st.2.2.1 = [] ∧ st.2.2.2 = [] then (st.1, st.2.1 + k, [], []) else (st.1 ++ stretch st.2.1 st.2.2.1 st.2.2.2, k, [], [])) else st
noncomputable def fst0 : FS := ([], 0, [], [])
noncomputable def fend (st : FS) : List Pt := st.1 ++ stretch st.2.1 st.2.2.1 st.2.2.2
noncomputable def form (c : List Pt) : List Pt := fend (c.foldl fstep fst0)
theorem fs_snoc (p : List Pt) (a : Pt) : (p ++ [a]).foldl fstep fst0 = fstep (p.foldl fstep fst0) a := by simp
theorem fs_bound (c : List Pt) : ∀ st : FS, (c.foldl fstep st).1.length ≤ st.1.length + 3 * c.length ∧ (c.foldl fstep st).2.2.1.length ≤ st.2.2.1.length + tot c ∧ (c.foldl fstep st).2.2.2.length ≤ st.2.2.2.length + tot c := by
 induction c with
 | nil => intro st; simp [tot]
 | cons p c ih =>
  intro st
  have h := ih (fstep st p)
  have h2 : (fstep st p).1.length ≤ st.1.length + 3 ∧ (fstep st p).2.2.1.length ≤ st.2.2.1.length + p.n ∧ (fstep st p).2.2.2.length ≤ st.2.2.2.length + p.n := by
   have := stretch_len st.2.1 st.2.2.1 st.2.2.2
   cases p with
   | drop s => simp [fstep, Pt.n]
   | put s => simp [fstep, Pt.n]
   | keep k =>
    simp only [fstep]
    split
    ·split
     ·simp
     ·simp; omega
    ·simp
  simp only [List.foldl_cons, List.length_cons, tot_cons]
  omega
theorem run_form {F : List Fn} {w n i_stretch i : Nat} (hs : F[i_stretch]? = some F_stretch) (hf : F[i]? = some (F_form i_stretch)) (c : List Pt) (h1 : c.length ≤ 10000) (h2 : tot c ≤ 10000) : run F w (n + 2) i [.val (chV c)] = some (chV (form c), []) := by
 refine run_wp hf rfl ?_
 refine w_cons (w_setN (l := []) (by repeat array_get_dec) rfl rfl ?_)
 refine w_cons (w_set (by repeat array_get_dec) rfl rfl ?_)
 refine w_cons (w_set (by repeat array_get_dec) rfl rfl ?_)
 refine w_cons (w_set (by repeat array_get_dec) rfl rfl ?_)
 refine w_cons (w_for (vs := c.map Pt.v) (xi_seq (xi_srcv rfl) rfl) ?_)
 have ext : ∀ (st : FS) (fr : Fr), st.1.length ≤ 30010 → slC .extend 1 [.lst ((stretch st.2.1 st.2.2.1 st.2.2.2).map Pt.v)] fr (some (some (.own (st.1.map Pt.v)))) = .ok .non (fr.set 1 (some (.own ((fend st).map Pt.v)))) := fun st fr h => by
  have := stretch_len st.2.1 st.2.2.1 st.2.2.2
  unfold fend
  rw [List.map_append]; exact ext_own (by simp; omega)
 refine wp_forM (e := Pt.v) (fun p l fr => p ++ l = c ∧ ∃ a b, vo a ∧ vo b ∧ fr = [some (.val (chV c)), some (.own ((p.foldl fstep fst0).1.map Pt.v)), some (.val (.int (p.foldl fstep fst0).2.1)), some (.val (.str (p.foldl fstep fst0).2.2.1)), some (.val (.str (p.foldl fstep fst0).2.2.2)), a, b]) (fun p x l fr ⟨hpl, a, b, ha, hb, hfr⟩ => ?_) (fun p fr ⟨hpl, a, b, ha, hb, hfr⟩ => ?_) c [] _ ⟨rfl, none, none, .none, .none, rfl⟩
 ·subst hfr
  obtain ⟨b1, b2, b3⟩ := fs_bound p fst0
  have hlen : p.length + l.length + 1 = c.length := by rw [← hpl]; simp; omega
  have htot : tot p + x.n + tot l = tot c := by rw [← hpl, tot_app, tot_cons]; omega
  rw [fs_snoc]
  have hpl' : (p ++ [x]) ++ l = c := by simpa using hpl
  generalize p.foldl fstep fst0 = st at *
  simp [fst0] at b1 b2 b3
  have rs := fun fr => call3 (fr := fr) (run_stretch (w := w) (n := n) hs st.2.1 st.2.2.1 st.2.2.2)
  have ex := fun fr => ext st fr (by omega)
  cases x with
  | drop s =>
   have hs : s.length ≤ tot c := by simp only [Pt.n] at htot; omega
   have ad := bop_adds (a := st.2.2.1) (b := s) (by omega)
   refine w_turn (bind2 rfl ha rfl hb) (w_cons (w_iff (by repeat array_get_dec) (fun _ => ?_) fun h => absurd h (by decide)))
   refine w_cons (w_set (by repeat array_get_dec) rfl rfl (w_nil (w_nil ?_)))
   rw [fl_nx]; exact ⟨hpl', _, _, .val, .val, rfl⟩
  | put s =>
   have hs : s.length ≤ tot c := by simp only [Pt.n] at htot; omega
   have ad := bop_adds (a := st.2.2.2) (b := s) (by omega)
   refine w_turn (bind2 rfl ha rfl hb) (w_cons (w_iff (by repeat array_get_dec) (fun h => absurd h (by decide)) fun _ => ?_))
   refine w_cons (w_iff (by repeat array_get_dec) (fun _ => ?_) fun h => absurd h (by decide))
   refine w_cons (w_set (by repeat array_get_dec) rfl rfl (w_nil (w_nil (w_nil ?_))))
   rw [fl_nx]; exact ⟨hpl', _, _, .val, .val, rfl⟩
  | keep k =>
   refine w_turn (bind2 rfl ha rfl hb) (w_cons (w_iff (by repeat array_get_dec) (fun h => absurd h (by decide)) fun _ => ?_))
   refine w_cons (w_iff (by repeat array_get_dec) (fun h => absurd h (by decide)) fun _ => ?_)
   refine w_cons (w_iff (by repeat array_get_dec) (fun h => ?_) fun h => ?_)
   ·have hk : 0 < k := by have := of_decide_eq_true h; omega
    by_cases hg : st.2.2.1 = [] ∧ st.2.2.2 = []
    ·have n1 : cop .ne (.str st.2.2.1) (.str []) = some false := by rw [l_nss, hg.1]; rfl
     have n2 : cop .ne (.str st.2.2.2) (.str []) = some false := by rw [l_nss, hg.2]; rfl
     refine w_cons (w_iff (b := false) (xt_orf (xt_val rfl (by repeat array_get_dec) rfl) (xt_val rfl (by repeat array_get_dec) rfl)) (fun h => absurd h (by decide)) fun _ => w_nil ?_)
     refine w_cons (w_set (by repeat array_get_dec) rfl rfl (w_nil (w_nil (w_nil (w_nil ?_)))))
     rw [fl_nx]
     refine ⟨hpl', some (.val (.str kKeep)), some (.val (.int k)), .val, .val, ?_⟩
     simp only [fstep, if_pos hk, if_pos hg]
     rw [hg.1, hg.2]; rfl
    ·have tt : evT (run F w (n + 1)) (.orr (.cmp .ne (.v 3) (.c (.str []))) (.cmp .ne (.v 4) (.c (.str [])))) [some (.val (chV c)), some (.own (st.1.map Pt.v)), some (.val (.int st.2.1)), some (.val (.str st.2.2.1)), some (.val (.str st.2.2.2)), some (.val (.str kKeep)), some (.val (.int k))] = .ok true [some (.val (chV c)), some (.own (st.1.map Pt.v)), some (.val (.int st.2.1)), some (.val (.str st.2.2.1)), some (.val (.str st.2.2.2)), some (.val (.str kKeep)), some (.val (.int k))] := by
      by_cases h3 : st.2.2.1 = []
      ·have h4 : ¬ st.2.2.2 = [] := fun z => hg ⟨h3, z⟩
       have n1 : cop .ne (.str st.2.2.1) (.str []) = some false := by rw [l_nss, h3]; rfl
       have n2 : cop .ne (.str st.2.2.2) (.str []) = some true := by rw [l_nss, decide_eq_false h4]; rfl
       exact xt_orf (xt_val rfl (by repeat array_get_dec) rfl) (xt_val rfl (by repeat array_get_dec) rfl)
      ·have n1 : cop .ne (.str st.2.2.1) (.str []) = some true := by rw [l_nss, decide_eq_false h3]; rfl
       exact xt_ort (xt_val rfl (by repeat array_get_dec) rfl)
     refine w_cons (w_iff tt (fun _ => ?_) fun h => absurd h (by decide))
     refine w_cons (w_exp (by (repeat (first | array_get_dec | exact rs _ | exact ex _))) ?_)
     refine w_cons (w_set (by repeat array_get_dec) rfl rfl ?_)
     refine w_cons (w_set (by repeat array_get_dec) rfl rfl ?_)
     refine w_cons (w_set (by repeat array_get_dec) rfl rfl (w_nil ?_))
     refine w_cons (w_set (by repeat array_get_dec) rfl rfl (w_nil (w_nil (w_nil (w_nil ?_)))))
     rw [fl_nx]
     refine ⟨hpl', some (.val (.str kKeep)), some (.val (.int k)), .val, .val, ?_⟩
     simp only [fstep, if_pos hk, if_neg hg]
     rw [Int.zero_add]; rfl
   ·have hk : ¬ 0 < k := by have := of_decide_eq_false h; omega
    refine w_nil (w_nil (w_nil (w_nil ?_)))
    rw [fl_nx]
    refine ⟨hpl', some (.val (.str kKeep)), some (.val (.int k)), .val, .val, ?_⟩
    simp only [fstep, if_neg hk]; rfl
 ·subst hfr
  simp at hpl
  subst hpl
  obtain ⟨b1, b2, b3⟩ := fs_bound p fst0
  have e : form p = fend (p.foldl fstep fst0) := rfl
  rw [e]
  generalize p.foldl fstep fst0 = st at *
  simp [fst0] at b1 b2 b3
  have sl := stretch_len st.2.1 st.2.2.1 st.2.2.2
  have rs := fun fr => call3 (fr := fr) (run_stretch (w := w) (n := n) hs st.2.1 st.2.2.1 st.2.2.2)
  have ex := fun fr => ext st fr (by omega)
  have mk : toT (.lst ((fend st).map Pt.v)) = some (chV (fend st)) := by rw [toT_lst]; exact mkT_le (le_big (by simp [fend]; omega))
  refine w_cons (w_exp (by (repeat (first | array_get_dec | exact rs _ | exact ex _))) ?_)
  exact w_cons (w_ret (x_ttp (x_v rfl) mk) ⟨rfl, rfl⟩)
end Pv
namespace Pv
open Ev (D BOp COp TY BI ME T E Es Eo It S Ss Fn big deep b2i rep mulOk ixN atI sIx cut joinS sortS slots)
noncomputable def lv (o : Option Sl) (l : List V) : Prop := o = some (.own l) ∨ o = some (.val (.lst l))
section
variable {o : Option Sl} {l : List V} {fr : Fr} {i : Nat} {s : Sl}
theorem lv.own : lv (some (.own l)) l := .inl rfl
theorem lv.val : lv (some (.val (.lst l))) l := .inr rfl
theorem slV_lv (h : lv o l) : slV true (some o) = some (.lst l) := by rcases h with rfl | rfl <;> simp
theorem slP_lv (h : lv o l) : slP fr i s (some o) = some (fr.set i (some s)) := by rcases h with rfl | rfl <;> simp
theorem shut_lv (h : lv o l) : o.map Sl.shut = some (.val (.lst l)) := by rcases h with rfl | rfl <;> simp
end
theorem x_lv {P : Phi} {fr : Fr} {i : Nat} {k : Bool} {o : Option Sl} {l : List V} (hk : k = true) (e : fr[i]? = some o) (h : lv o l) : ev P k (.v i) fr = .ok (.lst l) fr := by
 subst hk
 exact x_v (by rw [getV_sl, e, slV_lv h])
theorem put_lv {fr : Fr} {i : Nat} {s : Sl} {o : Option Sl} {l : List V} (e : fr[i]? = some o) (h : lv o l) : put fr i s = some (fr.set i (some s)) := by rw [put_sl, e, slP_lv h]
inductive Tq where
 | at (i : Nat) | sg (c : Nat)
deriving DecidableEq
noncomputable def Tq.v : Tq → V
 | .at i => .int i
 | .sg c => .str [c]
theorem veq_tk (n : Nat) (a b : Tq) : veq (n + 1) a.v b.v = some (decide (a = b)) := by
 cases a <;> cases b <;> simp [Tq.v]
 all_goals omega
noncomputable def Pt.asks : Pt → List (List Nat)
 | .keep n => List.replicate n []
 | .drop s => s.map fun c => [c]
 | .put _ => []
noncomputable def asks (c : List Pt) : List (List Nat) := c.flatMap Pt.asks
noncomputable def Pt.told (k : Nat) : Pt → List Tq
 | .keep n => (List.range n).map fun j => .at (k + j)
 | .drop _ => []
 | .put s => s.map .sg
noncomputable def told (k : Nat) : List Pt → List Tq
 | [] => []
 | p :: c => p.told k ++ told (k + p.asks.length) c
theorem asks_app (a b : List Pt) : asks (a ++ b) = asks a ++ asks b := by simp [asks]
theorem told_app (a b : List Pt) : ∀ k, told k (a ++ b) = told k a ++ told (k + (asks a).length) b := by
 induction a with
 | nil => intro k; simp [told, asks]
 | cons p a ih =>
  intro k
  simp only [List.cons_append, told, ih, List.append_assoc]
  congr 3
  simp [asks]; omega
theorem asks_len (p : Pt) : p.asks.length ≤ p.n := by cases p <;> simp [Pt.asks, Pt.n]
theorem told_len (k : Nat) (p : Pt) : (p.told k).length ≤ p.n := by cases p <;> simp [Pt.told, Pt.n]
theorem asks_le (c : List Pt) : (asks c).length ≤ tot c := by
 induction c with
 | nil => simp [asks]
 | cons p c ih => have := asks_len p; simp only [asks, List.flatMap_cons, List.length_append, tot_cons] at *; omega
theorem told_le (c : List Pt) : ∀ k, (told k c).length ≤ tot c := by
 induction c with
 | nil => intro k; simp [told]
 | cons p c ih => intro k; have := told_len k p; have := ih (k + p.asks.length); simp only [told, List.length_append, tot_cons]; omega
noncomputable def askV (c : List Pt) : List V := (asks c).map V.str
noncomputable def toldV (c : List Pt) : List V := (told 0 c).map Tq.v
noncomputable def sense (c : List Pt) : List (List Nat) × List Tq := (asks c, told 0 c)
noncomputable def senV (c : List Pt) : V := .tup [.lst (askV c), .lst (toldV c)]
theorem veq_sen (a b : List Pt) : veq deep (senV a) (senV b) = some (decide (sense a = sense b)) := by
 have h1 := eqL_map (f := veq (17 + 1)) (g := V.str) (fun a b => veq_ss) (asks a) (asks b)
 have h2 := eqL_map (f := veq (17 + 1)) (g := Tq.v) (fun a b => veq_tk 17 a b) (told 0 a) (told 0 b)
 simp [senV, sense, askV, toldV, h1, h2]
theorem rngNN {i j : Int} {n : Nat} (h0 : 0 ≤ i) (h1 : i ≤ 50000) (h2 : n ≤ 50000) (e : j = i + n) : rngOf [.int i, .int j] = some (range i n) := by
 rw [rng2 (by omega) (by omega) (by omega) (by omega)]
 congr 2
 omega
theorem rep_one {α : Type} (n : Nat) (a : α) : rep n [a] = List.replicate n a := by
 induction n with
 | zero => rfl
 | succ n ih => simp only [rep, List.replicate_succ, List.flatten_cons] at ih ⊢; rw [ih]; rfl
theorem run_sense {F : List Fn} {w n i : Nat} (hs : F[i]? = some F_sense) (c : List Pt) (h1 : tot c ≤ 1000) : run F w (n + 1) i [.val (chV c)] = some (senV c, []) := by
 refine run_wp hs rfl ?_
 refine w_cons (w_setN (l := []) (by repeat array_get_dec) rfl rfl ?_)
 refine w_cons (w_setN (l := []) (by repeat array_get_dec) rfl rfl ?_)
 refine w_cons (w_for (vs := c.map Pt.v) (xi_seq (xi_srcv rfl) rfl) ?_)
 refine wp_forM (e := Pt.v) (fun p l fr => p ++ l = c ∧ ∃ o1 o2 a b, lv o1 (askV p) ∧ lv o2 (toldV p) ∧ vo a ∧ vo b ∧ fr = [some (.val (chV c)), o1, o2, a, b]) (fun p x l fr ⟨hpl, o1, o2, a, b, h1', h2', ha, hb, hfr⟩ => ?_) (fun p fr ⟨hpl, o1, o2, a, b, h1', h2', ha, hb, hfr⟩ => ?_) c [] _ ⟨rfl, _, _, none, none, .own, .own, .none, .none, rfl⟩
 ·subst hfr
  have hpl' : (p ++ [x]) ++ l = c := by simpa using hpl
  have htot : tot p + x.n + tot l = tot c := by rw [← hpl, tot_app, tot_cons]; omega
  have lA : (askV p).length ≤ tot p := by rw [askV, List.length_map]; exact asks_le p
  have lT : (toldV p).length ≤ tot p := by rw [toldV, List.length_map]; exact told_le p 0
  have hA : askV (p ++ [x]) = askV p ++ x.asks.map V.str := by simp [askV, asks]
  have hT : toldV (p ++ [x]) = toldV p ++ (x.told (askV p).length).map Tq.v := by simp [toldV, told_app, told, askV]
  cases x with
  | drop s =>
   have hs : s.length ≤ 1000 := by simp only [Pt.n] at htot; omega
   have ad := bop_addl (x := askV p) (y := s.map fun c => V.str [c]) (by simp; omega)
   have hd : askV (p ++ [.drop s]) = askV p ++ s.map fun c => V.str [c] := by rw [hA]; simp [Pt.asks]
   have ht : toldV (p ++ [.drop s]) = toldV p := by rw [hT]; simp [Pt.told]
   have mk := mkL_le (x := s.map fun c => V.str [c]) (le_big (by simp; omega))
   refine w_turn (bind2 rfl ha rfl hb) (w_cons (w_iff (by repeat array_get_dec) (fun h => absurd h (by decide)) fun _ => ?_))
   refine w_cons (w_iff (by repeat array_get_dec) (fun _ => ?_) fun h => absurd h (by decide))
   refine w_cons (w_set (x_bin (x_lv rfl rfl h1') (x_lof (xi_seq (xi_srcv rfl) rfl) mk) ad) rfl (put_lv rfl h1') (w_nil (w_nil (w_nil ?_))))
   rw [fl_nx, hd, ht]
   exact ⟨hpl', _, o2, _, _, .val, h2', .val, .val, rfl⟩
  | put s =>
   have hs : s.length ≤ 1000 := by simp only [Pt.n] at htot; omega
   have ad := bop_addl (x := toldV p) (y := s.map fun c => V.str [c]) (by simp; omega)
   have hd : toldV (p ++ [.put s]) = toldV p ++ s.map fun c => V.str [c] := by rw [hT]; simp [Pt.told, Tq.v]
   have ht : askV (p ++ [.put s]) = askV p := by rw [hA]; simp [Pt.asks]
   have mk := mkL_le (x := s.map fun c => V.str [c]) (le_big (by simp; omega))
   refine w_turn (bind2 rfl ha rfl hb) (w_cons (w_iff (by repeat array_get_dec) (fun h => absurd h (by decide)) fun _ => ?_))
   refine w_cons (w_iff (by repeat array_get_dec) (fun h => absurd h (by decide)) fun _ => ?_)
   refine w_cons (w_set (x_bin (x_lv rfl rfl h2') (x_lof (xi_seq (xi_srcv rfl) rfl) mk) ad) rfl (put_lv rfl h2') (w_nil (w_nil (w_nil ?_))))
   rw [fl_nx, hd, ht]
   exact ⟨hpl', o1, _, _, _, h1', .val, .val, .val, rfl⟩
  | keep k =>
   have hs : k ≤ 1000 := by simp only [Pt.n] at htot; omega
   have rg := rngNN (i := ((askV p).length : Int)) (j := ((askV p).length : Int) + k) (n := k) (by omega) (by omega) (by omega) rfl
   have mk := mkL_le (x := range ((askV p).length : Int) k) (le_big (by simp [range]; omega))
   have ad := bop_addl (x := toldV p) (y := range ((askV p).length : Int) k) (by simp [range]; omega)
   have ml := bop_mull (x := [V.str []]) (j := (k : Int)) (by omega) (by omega) (by simp) (by simp [rep]; omega)
   have ad2 := bop_addl (x := askV p) (y := rep (k : Int).toNat [V.str []]) (by simp [rep]; omega)
   have hd : toldV (p ++ [.keep k]) = toldV p ++ range ((askV p).length : Int) k := by rw [hT]; simp [Pt.told, Tq.v, range]
   have ht : askV (p ++ [.keep k]) = askV p ++ rep (k : Int).toNat [V.str []] := by rw [hA, rep_one]; simp [Pt.asks]
   refine w_turn (bind2 rfl ha rfl hb) (w_cons (w_iff (by repeat array_get_dec) (fun _ => ?_) fun h => absurd h (by decide)))
   have le : bfn .len [.lst (askV p)] = some (.int ((askV p).length : Nat)) := len_lst
   refine w_cons (w_set (x_bin (x_lv rfl rfl h2') (x_lof (xi_rng (vs := [.int ((askV p).length : Nat), .int (((askV p).length : Nat) + (k : Int))]) (xs_cons (x_bi (xs_cons (x_lv rfl rfl h1') xs_nil) le) (xs_cons (x_bin (x_bi (xs_cons (x_lv rfl rfl h1') xs_nil) le) (x_v rfl) bop_addi) xs_nil)) rg) mk) ad) rfl (put_lv rfl h2') ?_)
   refine w_cons (w_set (x_bin (x_lv rfl rfl h1') (x_bin (x_lst (xs_cons (x_c rfl) xs_nil) mkL_1) (x_v rfl) ml) ad2) rfl (put_lv rfl h1') (w_nil (w_nil ?_)))
   rw [fl_nx, hd, ht]
   exact ⟨hpl', _, _, _, _, .val, .val, .val, .val, rfl⟩
 ·subst hfr
  simp at hpl
  subst hpl
  have sh : shutF [some (.val (chV p)), o1, o2, a, b] = [some (.val (chV p)), some (.val (.lst (askV p))), some (.val (.lst (toldV p))), a, b] := by
   show _ :: o1.map Sl.shut :: o2.map Sl.shut :: a.map Sl.shut :: [b.map Sl.shut] = _
   rw [shut_lv h1', shut_lv h2', shut_vo ha, shut_vo hb]; rfl
  refine w_cons (w_ret (v := senV p) (fr1 := [some (.val (chV p)), some (.val (.lst (askV p))), some (.val (.lst (toldV p))), a, b]) ?_ ⟨rfl, rfl⟩)
  rw [sh]
  exact x_tup (xs_cons (x_v rfl) (xs_cons (x_v rfl) xs_nil)) mkT_2
noncomputable def Pt.word : Pt → List Nat
 | .keep _ => kKeep
 | .put _ => kPut
 | .drop _ => kDrop
noncomputable def okAdj (a b : List Nat) : Bool := !(decide (a = b) || (decide (a = kPut) && decide (b = kDrop)))
noncomputable def adjW : List (List Nat) → Bool
 | a :: b :: r => okAdj a b && adjW (b :: r)
 | _ => true
noncomputable def ne0 (p : Pt) : Bool := p.n != 0
noncomputable def isF (c : List Pt) : Bool := adjW (c.map Pt.word) && c.all ne0
theorem stretch_asks (k : Nat) (g x : List Nat) : asks (stretch k g x) = List.replicate k [] ++ g.map fun c => [c] := by
  unfold stretch
  by_cases hk : 0 < k <;> by_cases hg : g = [] <;> by_cases hx : x = [] <;> simp [hk, hg, hx, asks, Pt.asks]
  all_goals (have : k = 0 := by omega
             subst this; simp)
theorem stretch_told (k : Nat) (g x : List Nat) (j : Nat) : told j (stretch k g x) = (List.range k).map (fun i => Tq.at (j + i)) ++ x.map Tq.sg := by
  unfold stretch
  by_cases hk : 0 < k <;> by_cases hg : g = [] <;> by_cases hx : x = [] <;> simp [hk, hg, hx, told, Pt.told, Pt.asks]
  all_goals (have : k = 0 := by omega
             subst this; simp)
theorem fend_sense (st : FS) (p : Pt) : asks (fend (fstep st p)) = asks (fend st ++ [p]) ∧ ∀ j, told j (fend (fstep st p)) = told j (fend st ++ [p]) := by
 obtain ⟨ps, k, g, x⟩ := st
 have e1 : ∀ a : List Pt, asks (a ++ [p]) = asks a ++ p.asks := fun a => by simp [asks]
 have e2 : ∀ (a : List Pt) j, told j (a ++ [p]) = told j a ++ p.told (j + (asks a).length) := fun a j => by simp [told_app, told]
 rw [e1]
 cases p with
 | drop s =>
  refine ⟨by simp [fstep, fend, asks_app, stretch_asks, Pt.asks], fun j => ?_⟩
  rw [e2]
  simp [fstep, fend, told_app, stretch_told, Pt.told]
 | put s =>
  refine ⟨by simp [fstep, fend, asks_app, stretch_asks, Pt.asks], fun j => ?_⟩
  rw [e2]
  simp [fstep, fend, told_app, stretch_told, Pt.told]
 | keep m =>
  simp only [fstep]
  split
  ·split
   ·rename_i h
    obtain ⟨rfl, rfl⟩ := h
    refine ⟨by simp [fend, asks_app, stretch_asks, Pt.asks], fun j => ?_⟩
    rw [e2]
    simp [fend, asks_app, told_app, stretch_told, stretch_asks, Pt.told, List.range_add, Nat.add_assoc]
   ·refine ⟨by simp [fend, asks_app, stretch_asks, Pt.asks], fun j => ?_⟩
    rw [e2]
    simp [fend, asks_app, told_app, stretch_told, stretch_asks, Pt.told, Nat.add_assoc]
  ·rename_i h
   have : m = 0 := by omega
   subst this
   refine ⟨by simp [Pt.asks], fun j => ?_⟩
   rw [e2]
   simp [Pt.told]
theorem fold_sense (c : List Pt) : ∀ st : FS, asks (fend (c.foldl fstep st)) = asks (fend st ++ c) ∧ ∀ j, told j (fend (c.foldl fstep st)) = told j (fend st ++ c) := by
 induction c with
 | nil => intro st; simp
 | cons p c ih =>
  intro st
  obtain ⟨h1, h2⟩ := ih (fstep st p)
  obtain ⟨h3, h4⟩ := fend_sense st p
  simp only [List.foldl_cons]
  have e : fend st ++ p :: c = (fend st ++ [p]) ++ c := by simp
  refine ⟨?_, fun j => ?_⟩
  ·rw [h1, e, asks_app, asks_app _ c, h3]
  ·rw [h2 j, e, told_app, told_app _ c, h4 j, h3]
theorem asks_form (c : List Pt) : asks (form c) = asks c := by
 have := (fold_sense c fst0).1
 simpa [form, fst0, fend, stretch] using this
theorem told_form (c : List Pt) (j : Nat) : told j (form c) = told j c := by
 have := (fold_sense c fst0).2 j
 simpa [form, fst0, fend, stretch] using this
theorem sense_form (c : List Pt) : sense (form c) = sense c := by simp [sense, asks_form, told_form]
noncomputable def kps (c : List Pt) : Nat := tot (c.filter isKeep)
theorem len_asks (c : List Pt) : (asks c).length = bef c := by
 induction c with
 | nil => rfl
 | cons p c ih => cases p <;> simp [asks, bef, tot, isPut, Pt.asks, Pt.n] at ih ⊢ <;> omega
theorem len_told (c : List Pt) : ∀ j, (told j c).length = aft c := by
 induction c with
 | nil => intro j; rfl
 | cons p c ih => intro j; cases p <;> simp [told, aft, tot, isDrop, Pt.told, Pt.n, ih] at ih ⊢
theorem bef_k (n : Nat) (c : List Pt) : bef (.keep n :: c) = n + bef c := by simp [bef, tot, isPut, Pt.n]
theorem bef_d (s : List Nat) (c : List Pt) : bef (.drop s :: c) = s.length + bef c := by simp [bef, tot, isPut, Pt.n]
theorem bef_p (s : List Nat) (c : List Pt) : bef (.put s :: c) = bef c := by simp [bef, tot, isPut, Pt.n]
theorem aft_k (n : Nat) (c : List Pt) : aft (.keep n :: c) = n + aft c := by simp [aft, tot, isDrop, Pt.n]
theorem aft_d (s : List Nat) (c : List Pt) : aft (.drop s :: c) = aft c := by simp [aft, tot, isDrop, Pt.n]
theorem aft_p (s : List Nat) (c : List Pt) : aft (.put s :: c) = s.length + aft c := by simp [aft, tot, isDrop, Pt.n]
theorem cst_k (n : Nat) (c : List Pt) : cst (.keep n :: c) = cst c := by simp [cst, tot, isKeep, Pt.n]
theorem cst_d (s : List Nat) (c : List Pt) : cst (.drop s :: c) = s.length + cst c := by simp [cst, tot, isKeep, Pt.n]
theorem cst_p (s : List Nat) (c : List Pt) : cst (.put s :: c) = s.length + cst c := by simp [cst, tot, isKeep, Pt.n]
theorem kps_k (n : Nat) (c : List Pt) : kps (.keep n :: c) = n + kps c := by simp [kps, tot, List.filter_cons, isKeep, Pt.n]
theorem kps_d (s : List Nat) (c : List Pt) : kps (.drop s :: c) = kps c := by simp [kps, tot, isKeep, Pt.n]
theorem kps_p (s : List Nat) (c : List Pt) : kps (.put s :: c) = kps c := by simp [kps, tot, isKeep, Pt.n]
noncomputable def isAt : Tq → Bool
 | .at _ => true
 | _ => false
theorem len_at (c : List Pt) : ∀ j, ((told j c).filter isAt).length = kps c := by
 induction c with
 | nil => intro j; rfl
 | cons p c ih =>
  intro j
  have e1 : ∀ (m : Nat) (f : Nat → Nat), (((List.range m).map fun i => Tq.at (f i)).filter isAt).length = m := fun m f => by
   rw [List.filter_eq_self.mpr]
   ·simp
   ·intro a ha; obtain ⟨i, _, rfl⟩ := List.mem_map.mp ha; rfl
  have e2 : ∀ s : List Nat, ((s.map Tq.sg).filter isAt).length = 0 := fun s => by
   rw [List.filter_eq_nil_iff.mpr]
   ·rfl
   ·intro a ha; obtain ⟨i, _, rfl⟩ := List.mem_map.mp ha; simp [isAt]
  cases p with
  | keep m => simp only [told, Pt.told, List.filter_append, List.length_append, e1, ih, kps, tot, isKeep, List.filter_cons, if_true, List.map_cons, List.sum_cons, Pt.n]
  | put s => simp only [told, Pt.told, List.filter_append, List.length_append, e2, ih, kps, isKeep, List.filter_cons]; simp
  | drop s => simp only [told, Pt.told, List.filter_append, List.length_append, ih, kps, isKeep, List.filter_cons]; simp
theorem cst_eq (c : List Pt) : (cst c : Int) = bef c - kps c + aft c - kps c := by
 induction c with
 | nil => rfl
 | cons p c ih => cases p <;> simp only [cst_k, cst_d, cst_p, bef_k, bef_d, bef_p, aft_k, aft_d, aft_p, kps_k, kps_d, kps_p] <;> omega
theorem tot_eq (c : List Pt) : tot c + kps c = bef c + aft c := by
 induction c with
 | nil => rfl
 | cons p c ih => cases p <;> simp only [tot_cons, Pt.n, bef_k, bef_d, bef_p, aft_k, aft_d, aft_p, kps_k, kps_d, kps_p] <;> omega
theorem bef_form (c : List Pt) : bef (form c) = bef c := by rw [← len_asks, ← len_asks, asks_form]
theorem aft_form (c : List Pt) : aft (form c) = aft c := by rw [← len_told _ 0, ← len_told _ 0, told_form]
theorem kps_form (c : List Pt) : kps (form c) = kps c := by rw [← len_at _ 0, ← len_at _ 0, told_form]
theorem cst_form (c : List Pt) : cst (form c) = cst c := by
 have h1 := cst_eq (form c)
 have h2 := cst_eq c
 rw [bef_form, aft_form, kps_form] at h1
 omega
theorem tot_form (c : List Pt) : tot (form c) = tot c := by
 have h1 := tot_eq (form c)
 have h2 := tot_eq c
 rw [bef_form, aft_form, kps_form] at h1
 omega
theorem adj_app : ∀ (a : List (List Nat)) (b : List (List Nat)), adjW (a ++ b) = true ↔ adjW a = true ∧ adjW b = true ∧ ∀ x ∈ a.getLast?, ∀ y ∈ b.head?, okAdj x y = true
 | [], b => by simp [adjW]
 | [x], [] => by simp [adjW]
 | [x], y :: b => by simp [adjW, and_comm]
 | x :: y :: a, b => by
  have := adj_app (y :: a) b
  simp only [List.cons_append] at this ⊢
  simp only [adjW, Bool.and_eq_true, this, List.getLast?_cons_cons]
  constructor
  ·rintro ⟨h1, h2, h3, h4⟩; exact ⟨⟨h1, h2⟩, h3, h4⟩
  ·rintro ⟨⟨h1, h2⟩, h3, h4⟩; exact ⟨h1, h2, h3, h4⟩
theorem stretch_isF (k : Nat) (g x : List Nat) : isF (stretch k g x) = true := by
 unfold stretch
 by_cases hk : 0 < k <;> by_cases hg : g = [] <;> by_cases hx : x = [] <;> simp [hk, hg, hx, isF, ne0, adjW, okAdj, Pt.word, Pt.n, kKeep, kPut, kDrop]
 all_goals omega
noncomputable def fInv (st : FS) : Prop := isF st.1 = true ∧ (st.1 ≠ [] → 0 < st.2.1) ∧ ∀ p ∈ st.1.getLast?, p.word ≠ kKeep
theorem isF_app {a b : List Pt} (ha : isF a = true) (hb : isF b = true) (h : ∀ p ∈ a.getLast?, ∀ q ∈ b.head?, okAdj p.word q.word = true) : isF (a ++ b) = true := by
 simp only [isF, Bool.and_eq_true] at ha hb ⊢
 refine ⟨?_, by rw [List.all_append, ha.2, hb.2]; rfl⟩
 rw [List.map_append, adj_app]
 refine ⟨ha.1, hb.1, fun x hx y hy => ?_⟩
 simp at hx hy
 obtain ⟨p, hp, rfl⟩ := hx
 obtain ⟨q, hq, rfl⟩ := hy
 exact h p hp q hq
theorem stretch_head {k : Nat} {g x : List Nat} (hk : 0 < k) : (stretch k g x).head? = some (.keep k) := by simp [stretch, hk]
theorem ok_keep {w : List Nat} (h : w ≠ kKeep) (hw : w = kPut ∨ w = kDrop) : okAdj w kKeep = true := by
 rcases hw with rfl | rfl <;> decide
theorem word_or (p : Pt) : p.word = kKeep ∨ p.word = kPut ∨ p.word = kDrop := by cases p <;> simp [Pt.word]
theorem fInv_end {st : FS} (h : fInv st) : isF (fend st) = true := by
 refine isF_app h.1 (stretch_isF _ _ _) fun p hp q hq => ?_
 have hne : st.1 ≠ [] := by intro z; rw [z] at hp; simp at hp
 rw [stretch_head (h.2.1 hne)] at hq
 simp at hq; subst hq
 have hw := h.2.2 p hp
 exact ok_keep hw ((word_or p).resolve_left hw)
theorem stretch_last {k : Nat} {g x : List Nat} (h : ¬ (g = [] ∧ x = [])) : ∀ p ∈ (stretch k g x).getLast?, p.word ≠ kKeep := by
 unfold stretch
 by_cases hx : x = []
 ·have hg : g ≠ [] := fun z => h ⟨z, hx⟩
  intro p hp
  simp [hg, hx] at hp
  subst hp
  simp [Pt.word, kDrop, kKeep]
 ·intro p hp
  simp [hx] at hp
  subst hp
  simp [Pt.word, kPut, kKeep]
theorem fInv_step {st : FS} (h : fInv st) (p : Pt) : fInv (fstep st p) := by
 cases p with
 | drop s => exact h
 | put s => exact h
 | keep k =>
  simp only [fstep]
  split
  ·rename_i hk
   split
   ·exact ⟨h.1, fun z => by simp; omega, h.2.2⟩
   ·rename_i hgx
    refine ⟨fInv_end h, fun _ => hk, fun p hp => ?_⟩
    rw [List.getLast?_append] at hp
    cases z : (stretch st.2.1 st.2.2.1 st.2.2.2).getLast? with
    | none =>
     exfalso
     rw [List.getLast?_eq_none_iff] at z
     unfold stretch at z
     by_cases hx : st.2.2.2 = [] <;> by_cases hg : st.2.2.1 = [] <;> simp [hx, hg] at z hgx
    | some q =>
     rw [z] at hp
     simp at hp
     subst hp
     exact stretch_last hgx q z
  ·exact h
theorem isF_form (c : List Pt) : isF (form c) = true := by
 have : ∀ (c : List Pt) (st : FS), fInv st → fInv (c.foldl fstep st) := fun c => by
  induction c with
  | nil => exact fun st h => h
  | cons p c ih => exact fun st h => ih _ (fInv_step h p)
 exact fInv_end (this c fst0 ⟨rfl, fun z => absurd rfl z, fun p hp => by simp [fst0] at hp⟩)
end Pv
namespace Pv
open Ev (D BOp COp TY BI ME T E Es Eo It S Ss Fn big deep b2i rep mulOk ixN atI sIx cut joinS sortS slots)
abbrev Bl := List Nat × List Nat
abbrev BS := List Bl × Bl
noncomputable def bstep (st : BS) : Pt → BS
 | .drop s => (st.1, (st.2.1 ++ s, st.2.2))
 | .put s => (st.1, (st.2.1, st.2.2 ++ s))
 | .keep 0 => st
 | .keep (n + 1) => (st.1 ++ st.2 :: List.replicate n ([], []), ([], []))
noncomputable def bs0 : BS := ([], ([], []))
noncomputable def blocks (c : List Pt) : BS := c.foldl bstep bs0
noncomputable def pkstep (st : List Pt × Nat) (b : Bl) : List Pt × Nat := if b.1 = [] ∧ b.2 = [] then (st.1, st.2 + 1) else (st.1 ++ stretch st.2 b.1 b.2, 1)
noncomputable def pk (bs : List Bl) : List Pt × Nat := bs.foldl pkstep ([], 0)
theorem pk_empty (n : Nat) : ∀ st : List Pt × Nat, (List.replicate n (([], []) : Bl)).foldl pkstep st = (st.1, st.2 + n) := by
 induction n with
 | zero => intro st; simp
 | succ n ih => intro st; simp [List.replicate_succ, pkstep, ih]; omega
noncomputable def ofB (st : BS) : FS := ((pk st.1).1, (pk st.1).2, st.2.1, st.2.2)
theorem ofB_step (st : BS) (p : Pt) : fstep (ofB st) p = ofB (bstep st p) := by
 obtain ⟨bs, g, x⟩ := st
 cases p with
 | drop s => rfl
 | put s => rfl
 | keep n =>
  cases n with
  | zero => rfl
  | succ n =>
   have e : pk (bs ++ (g, x) :: List.replicate n ([], [])) = ((pkstep (pk bs) (g, x)).1, (pkstep (pk bs) (g, x)).2 + n) := by
    simp only [pk, List.foldl_append, List.foldl_cons, pk_empty]
   simp only [ofB, bstep, e, fstep, Nat.succ_pos, if_true, pkstep]
   by_cases h : g = [] ∧ x = []
   ·simp [h]; omega
   ·simp [h]; omega
theorem ofB_fold (c : List Pt) : ∀ st : BS, c.foldl fstep (ofB st) = ofB (c.foldl bstep st) := by
 induction c with
 | nil => intro st; rfl
 | cons p c ih => intro st; simp only [List.foldl_cons, ofB_step, ih]
theorem form_blocks (c : List Pt) : form c = fend (ofB (blocks c)) := by
 unfold form blocks
 rw [← ofB_fold]; rfl
noncomputable def spA (st : List (List Nat) × List Nat) : List Nat → List (List Nat) × List Nat
 | [] => (st.1 ++ [st.2], [])
 | c :: _ => (st.1, st.2 ++ [c])
noncomputable def spT (st : List (List Nat) × List Nat) : Tq → List (List Nat) × List Nat
 | .at _ => (st.1 ++ [st.2], [])
 | .sg c => (st.1, st.2 ++ [c])
theorem spA_signs (s : List Nat) : ∀ st, (s.map fun c => [c]).foldl spA st = (st.1, st.2 ++ s) := by
 induction s with
 | nil => intro st; simp
 | cons c s ih => intro st; simp [spA, ih]
theorem spA_kept (n : Nat) : ∀ st, (List.replicate n []).foldl spA st = if n = 0 then st else (st.1 ++ st.2 :: List.replicate (n - 1) [], []) := by
 induction n with
 | zero => intro st; rfl
 | succ n ih =>
  intro st
  simp only [List.replicate_succ, List.foldl_cons, spA, ih]
  cases n with
  | zero => simp
  | succ n => simp [List.replicate_succ]
theorem spT_signs (s : List Nat) : ∀ st, (s.map Tq.sg).foldl spT st = (st.1, st.2 ++ s) := by
 induction s with
 | nil => intro st; simp
 | cons c s ih => intro st; simp [spT, ih]
theorem spT_kept (n : Nat) : ∀ (k : Nat) st, ((List.range n).map fun j => Tq.at (k + j)).foldl spT st = if n = 0 then st else (st.1 ++ st.2 :: List.replicate (n - 1) [], []) := by
 induction n with
 | zero => intro k st; rfl
 | succ n ih =>
  intro k st
  rw [List.range_succ, List.map_append, List.foldl_append, ih]
  cases n with
  | zero => simp [spT]
  | succ n =>
   simp [spT]
   rw [← List.replicate_succ', List.replicate_succ]
theorem spA_blocks (c : List Pt) : ∀ st : BS, (asks c).foldl spA (st.1.map Prod.fst, st.2.1) = ((c.foldl bstep st).1.map Prod.fst, (c.foldl bstep st).2.1) := by
 induction c with
 | nil => intro st; rfl
 | cons p c ih =>
  intro st
  have e : asks (p :: c) = p.asks ++ asks c := by simp [asks]
  rw [e, List.foldl_append, List.foldl_cons, ← ih]
  congr 1
  cases p with
  | drop s => simp [Pt.asks, spA_signs, bstep]
  | put s => simp [Pt.asks, bstep]
  | keep n =>
   simp only [Pt.asks, spA_kept]
   cases n with
   | zero => rfl
   | succ n => simp [bstep]
theorem spT_blocks (c : List Pt) : ∀ (k : Nat) (st : BS), (told k c).foldl spT (st.1.map Prod.snd, st.2.2) = ((c.foldl bstep st).1.map Prod.snd, (c.foldl bstep st).2.2) := by
 induction c with
 | nil => intro k st; rfl
 | cons p c ih =>
  intro k st
  rw [told, List.foldl_append, List.foldl_cons, ← ih (k + p.asks.length)]
  congr 1
  cases p with
  | put s => simp [Pt.told, spT_signs, bstep]
  | drop s => simp [Pt.told, bstep]
  | keep n =>
   simp only [Pt.told, spT_kept]
   cases n with
   | zero => rfl
   | succ n => simp [bstep]
theorem zip_ext {α β : Type} : ∀ {a b : List (α × β)}, a.map Prod.fst = b.map Prod.fst → a.map Prod.snd = b.map Prod.snd → a = b
 | [], [], _, _ => rfl
 | [], _ :: _, h, _ => by simp at h
 | _ :: _, [], h, _ => by simp at h
 | (x, y) :: a, (x', y') :: b, h1, h2 => by
  simp at h1 h2
  rw [h1.1, h2.1, zip_ext h1.2 h2.2]
theorem blocks_sense {a b : List Pt} (h : sense a = sense b) : blocks a = blocks b := by
 have hA : asks a = asks b := congrArg Prod.fst h
 have hT : told 0 a = told 0 b := congrArg Prod.snd h
 have a1 := spA_blocks a bs0
 have b1 := spA_blocks b bs0
 have a2 := spT_blocks a 0 bs0
 have b2 := spT_blocks b 0 bs0
 rw [hA, b1] at a1
 rw [hT, b2] at a2
 have e1 := congrArg Prod.fst a1
 have e2 := congrArg Prod.snd a1
 have e3 := congrArg Prod.fst a2
 have e4 := congrArg Prod.snd a2
 unfold blocks
 exact Prod.ext (zip_ext e1.symm e3.symm) (Prod.ext e2.symm e4.symm)
theorem form_iff (a b : List Pt) : form a = form b ↔ sense a = sense b := by
 constructor
 ·intro h
  rw [← sense_form a, ← sense_form b, h]
 ·intro h
  rw [form_blocks, form_blocks, blocks_sense h]
theorem form_form (a : List Pt) : form (form a) = form a := (form_iff _ _).mpr (sense_form a)
noncomputable def Pt.sw : Pt → Pt
 | .keep n => .keep n
 | .put s => .drop s
 | .drop s => .put s
noncomputable def sw (c : List Pt) : List Pt := c.map Pt.sw
theorem blocks_sw (c : List Pt) : ∀ st : BS, (sw c).foldl bstep (st.1.map Prod.swap, st.2.swap) = ((c.foldl bstep st).1.map Prod.swap, (c.foldl bstep st).2.swap) := by
 induction c with
 | nil => intro st; rfl
 | cons p c ih =>
  intro st
  simp only [sw, List.map_cons, List.foldl_cons] at ih ⊢
  rw [← ih]
  congr 1
  cases p with
  | put s => rfl
  | drop s => rfl
  | keep n => cases n <;> simp [Pt.sw, bstep]
theorem form_sw {a b : List Pt} (h : form a = form b) : form (sw a) = form (sw b) := by
 have hb := blocks_sense ((form_iff a b).mp h)
 rw [form_blocks, form_blocks]
 have a1 := blocks_sw a bs0
 have b1 := blocks_sw b bs0
 have e : blocks (sw a) = blocks (sw b) := by
  unfold blocks at hb ⊢
  have z : ((bs0.1.map Prod.swap, bs0.2.swap) : BS) = bs0 := rfl
  rw [z] at a1 b1
  rw [a1, b1, hb]
 rw [e]
noncomputable def undo (c : List Pt) : List Pt := form (sw c)
theorem bef_sw (c : List Pt) : bef (sw c) = aft c := by
 induction c with
 | nil => rfl
 | cons p c ih => cases p <;> simp only [sw, List.map_cons, Pt.sw, bef_k, bef_d, bef_p, aft_k, aft_d, aft_p] at ih ⊢ <;> omega
noncomputable def fitG : List Pt → List Nat → Bool
 | [], t => t.isEmpty
 | .keep n :: c, t => decide (n ≤ t.length) && fitG c (t.drop n)
 | .drop s :: c, t => s.isPrefixOf t && fitG c (t.drop s.length)
 | .put _ :: c, t => fitG c t
noncomputable def doneG : List Pt → List Nat → List Nat
 | [], _ => []
 | .keep n :: c, t => t.take n ++ doneG c (t.drop n)
 | .drop s :: c, t => doneG c (t.drop s.length)
 | .put s :: c, t => s ++ doneG c t
noncomputable def fitS : List (List Nat) → List Nat → Bool
 | [], [] => true
 | x :: a, c :: t => (decide (x = []) || decide (x = [c])) && fitS a t
 | _, _ => false
theorem fitS_keep (n : Nat) (a : List (List Nat)) : ∀ t, fitS (List.replicate n [] ++ a) t = (decide (n ≤ t.length) && fitS a (t.drop n)) := by
 induction n with
 | zero => intro t; simp
 | succ n ih =>
  intro t
  cases t with
  | nil => simp [List.replicate_succ, fitS]
  | cons c t => simp [List.replicate_succ, fitS, ih]
theorem fitS_drop (s : List Nat) (a : List (List Nat)) : ∀ t, fitS ((s.map fun c => [c]) ++ a) t = (s.isPrefixOf t && fitS a (t.drop s.length)) := by
 induction s with
 | nil => intro t; simp
 | cons c s ih =>
  intro t
  cases t with
  | nil => simp [fitS]
  | cons d t =>
   simp only [List.map_cons, List.cons_append, fitS, ih, List.isPrefixOf, List.length_cons, List.drop_succ_cons]
   by_cases h : c = d <;> simp [h]
theorem fitG_S (c : List Pt) : ∀ t, fitG c t = fitS (asks c) t := by
 induction c with
 | nil => intro t; cases t <;> rfl
 | cons p c ih =>
  intro t
  have e : asks (p :: c) = p.asks ++ asks c := by simp [asks]
  rw [e]
  cases p with
  | keep n => simp [fitG, Pt.asks, fitS_keep, ih]
  | drop s => simp [fitG, Pt.asks, fitS_drop, ih]
  | put s => simp [fitG, Pt.asks, ih]
theorem fit_form (c : List Pt) (t : List Nat) : fitG (form c) t = fitG c t := by rw [fitG_S, fitG_S, asks_form]
noncomputable def pick (t : List Nat) : Tq → List Nat
 | .at i => (t[i]?).toList
 | .sg c => [c]
theorem done_T (c : List Pt) : ∀ (t : List Nat) (k : Nat), doneG c (t.drop k) = (told k c).flatMap (pick t) := by
 induction c with
 | nil => intro t k; rfl
 | cons p c ih =>
  intro t k
  rw [told, List.flatMap_append, ← ih]
  cases p with
  | put s =>
   simp only [doneG, Pt.told, Pt.asks, List.length_nil, Nat.add_zero]
   congr 1
   induction s with
   | nil => rfl
   | cons c s ih => simp [pick] at ih ⊢; exact ih
  | drop s => simp [doneG, Pt.told, Pt.asks, Nat.add_comm]
  | keep n =>
   simp only [doneG, Pt.told, Pt.asks, List.length_replicate, List.drop_drop]
   congr 1
   induction n generalizing k with
   | zero => simp
   | succ n ihn =>
    rw [List.range_succ, List.map_append, List.flatMap_append, ← ihn]
    rw [List.take_add_one]
    simp [pick]
theorem done_form (c : List Pt) (t : List Nat) : doneG (form c) t = doneG c t := by
 have h1 := done_T (form c) t 0
 have h2 := done_T c t 0
 rw [told_form, ← h2] at h1
 simpa using h1
theorem back_fit (c : List Pt) : ∀ t, fitG c t = true → fitG (sw c) (doneG c t) = true ∧ doneG (sw c) (doneG c t) = t := by
 induction c with
 | nil => intro t h; simp [fitG] at h; subst h; simp [sw, fitG, doneG]
 | cons p c ih =>
  intro t h
  cases p with
  | keep n =>
   simp only [fitG, Bool.and_eq_true, decide_eq_true_eq] at h
   obtain ⟨h1, h2⟩ := ih _ h.2
   have hl : (t.take n).length = n := by simp; omega
   simp only [sw, List.map_cons, Pt.sw, doneG, fitG] at h1 h2 ⊢
   have e1 : (t.take n ++ doneG c (t.drop n)).drop n = doneG c (t.drop n) := by rw [List.drop_append_of_le_length (by omega), List.drop_eq_nil_of_le (by omega)]; rfl
   have e2 : (t.take n ++ doneG c (t.drop n)).take n = t.take n := by rw [List.take_append_of_le_length (by omega), List.take_take, Nat.min_self]
   rw [e1, e2, h1, h2]
   simp
   omega
  | drop s =>
   simp only [fitG, Bool.and_eq_true] at h
   obtain ⟨h1, h2⟩ := ih _ h.2
   simp only [sw, List.map_cons, Pt.sw, doneG, fitG] at h1 h2 ⊢
   rw [h2]
   refine ⟨h1, ?_⟩
   obtain ⟨r, rfl⟩ := List.isPrefixOf_iff_prefix.mp h.1
   simp
  | put s =>
   simp only [fitG] at h
   obtain ⟨h1, h2⟩ := ih _ h
   simp only [sw, List.map_cons, Pt.sw, doneG, fitG] at h1 h2 ⊢
   simp [h1, h2]
end Pv
namespace Pv
open Ev (D BOp COp TY BI ME T E Es Eo It S Ss Fn big deep b2i rep mulOk ixN atI sIx cut joinS sortS slots)
noncomputable def q_fits_0 : S := .set 2 (.c (.int 0))
noncomputable def w_fits_0 (n_size : Nat) : Ss := (.cons (.iff (.an (.cmp .eq (.ix (.v 3) (.c (.int 0))) (.c (.str [100, 114, 111, 112]))) (.cmp .ne (.sl (.v 1) (.yes (.v 2)) (.yes (.bin .add (.v 2) (.cl n_size (.cons (.v 3) .nil))))) (.ix (.v 3) (.c (.int 1))))) (.cons (.ret (.c (.bl false))) .nil) .nil) (.cons (.iff (.cmp .ne (.ix (.v 3) (.c (.int 0))) (.c (.str [112, 117, 116]))) (.cons (.set 2 (.bin .add (.v 2) (.cl n_size (.cons (.v 3) .nil)))) .nil) .nil) .nil))
noncomputable def q_fits_1 (n_size : Nat) : S := .for (.one 3) (.seq (.v 0)) (w_fits_0 n_size)
noncomputable def q_fits_2 : S := .ret (.cmp .eq (.v 2) (.bi .len (.cons (.v 1) .nil)))
noncomputable def F_fits (n_size : Nat) : Fn := ⟨2, 4, (.cons q_fits_0 (.cons (q_fits_1 n_size) (.cons q_fits_2 .nil)))⟩
noncomputable def q_done_0 (n_fits : Nat) : S := .iff (.nt (.cl n_fits (.cons (.v 0) (.cons (.v 1) .nil)))) (.cons (.nev) .nil) .nil
noncomputable def q_done_1 : S := .set 2 (.lst .nil)
noncomputable def q_done_2 : S := .set 3 (.c (.int 0))
noncomputable def w_done_0 : Ss := (.cons (.iff (.cmp .eq (.v 4) (.c (.str [112, 117, 116]))) (.cons (.exp (.me .append (.v 2) (.cons (.v 5) .nil))) .nil) (.cons (.iff (.cmp .eq (.v 4) (.c (.str [100, 114, 111, 112]))) (.cons (.set 3 (.bin .add (.v 3) (.bi .len (.cons (.v 5) .nil)))) .nil) (.cons (.exp (.me .append (.v 2) (.cons (.sl (.v 1) (.yes (.v 3)) (.yes (.bin .add (.v 3) (.v 5)))) .nil))) (.cons (.set 3 (.bin .add (.v 3) (.v 5))) .nil))) .nil)) .nil)
noncomputable def q_done_3 : S := .for (.many [4, 5]) (.seq (.v 0)) w_done_0
noncomputable def q_done_4 : S := .ret (.me .join (.c (.str [])) (.cons (.v 2) .nil))
noncomputable def F_done (n_fits : Nat) : Fn := ⟨2, 6, (.cons (q_done_0 n_fits) (.cons q_done_1 (.cons q_done_2 (.cons q_done_3 (.cons q_done_4 .nil)))))⟩
noncomputable def q_undone_0 (n_form : Nat) : S := .ret (.cl n_form (.cons (.ttp (.comp (.tup (.cons (.dget [(.str [107, 101, 101, 112], .str [107, 101, 101, 112]), (.str [112, 117, 116], .str [100, 114, 111, 112]), (.str [100, 114, 111, 112], .str [112, 117, 116])] (.v 1)) (.cons (.v 2) .nil))) (.many [1, 2]) (.seq (.v 0)) .no)) .nil))
noncomputable def F_undone (n_form : Nat) : Fn := ⟨1, 3, (.cons (q_undone_0 n_form) .nil)⟩
noncomputable def q_nothing_0 (n_form : Nat) : S := .ret (.cl n_form (.cons (.tup (.cons (.tup (.cons (.c (.str [107, 101, 101, 112])) (.cons (.v 0) .nil))) .nil)) .nil))
noncomputable def F_nothing (n_form : Nat) : Fn := ⟨1, 1, (.cons (q_nothing_0 n_form) .nil)⟩
noncomputable def q_made_0 : S := .set 2 (.c (.int 0))
noncomputable def q_made_1 : S := .set 3 (.c (.str []))
noncomputable def w_made_0 : Ss := (.cons (.iff (.cmp .eq (.v 4) (.c (.str [112, 117, 116]))) (.cons (.set 3 (.bin .add (.v 3) (.v 5))) .nil) (.cons (.iff (.cmp .eq (.v 4) (.c (.str [100, 114, 111, 112]))) (.cons (.iff (.cmp .ne (.sl (.v 1) (.yes (.v 2)) (.yes (.bin .add (.v 2) (.bi .len (.cons (.v 5) .nil))))) (.v 5)) (.cons (.ret (.c (.non))) .nil) .nil) (.cons (.set 2 (.bin .add (.v 2) (.bi .len (.cons (.v 5) .nil)))) .nil)) (.cons (.set 3 (.bin .add (.v 3) (.sl (.v 1) (.yes (.v 2)) (.yes (.bin .add (.v 2) (.v 5)))))) (.cons (.set 2 (.bin .add (.v 2) (.v 5))) .nil))) .nil)) .nil)
noncomputable def q_made_2 : S := .for (.many [4, 5]) (.seq (.v 0)) w_made_0
noncomputable def q_made_3 : S := .ret (.ife (.cmp .eq (.v 2) (.bi .len (.cons (.v 1) .nil))) (.v 3) (.c (.non)))
noncomputable def F_made : Fn := ⟨2, 6, (.cons q_made_0 (.cons q_made_1 (.cons q_made_2 (.cons q_made_3 .nil))))⟩
theorem cut_nn {α : Type} (l : List α) (p k : Nat) : cut l (some (p : Int)) (some ((p : Int) + k)) = (l.drop p).take k := by
 have h1 : ¬ (p : Int) < 0 := by omega
 have h2 : ¬ (p : Int) + k < 0 := by omega
 have h3 : ((p : Int) + k).toNat = p + k := by omega
 simp only [cut, sIx, h1, h2, if_false, h3, Int.toNat_natCast]
 by_cases hp : p ≤ l.length
 ·rw [Nat.min_eq_left hp]
  by_cases hk : p + k ≤ l.length
  ·rw [Nat.min_eq_left hk]; congr 1; omega
  ·rw [Nat.min_eq_right (by omega), List.take_of_length_le (by simp), List.take_of_length_le (by simp; omega)]
 ·have e1 : min p l.length = l.length := by omega
  rw [e1, List.drop_eq_nil_of_le (Nat.le_refl _), List.drop_eq_nil_of_le (by omega)]
  simp
theorem pre_take {s t : List Nat} : s.isPrefixOf t = decide (t.take s.length = s) := by
 cases h : s.isPrefixOf t with
 | true =>
  obtain ⟨r, rfl⟩ := List.isPrefixOf_iff_prefix.mp h
  simp
 | false =>
  symm
  rw [decide_eq_false_iff_not]
  intro e
  have : s.isPrefixOf t = true := List.isPrefixOf_iff_prefix.mpr (by have z := List.take_prefix s.length t; rw [e] at z; exact z)
  rw [h] at this; cases this
theorem bef_app (a b : List Pt) : bef (a ++ b) = bef a + bef b := by simp [bef, tot]
theorem fit_bef {c : List Pt} : ∀ {t : List Nat}, fitG c t = true → t.length = bef c := by
 induction c with
 | nil => intro t h; simp [fitG] at h; subst h; rfl
 | cons p c ih =>
  intro t h
  cases p with
  | keep n => simp only [fitG, Bool.and_eq_true, decide_eq_true_eq] at h; have := ih h.2; rw [bef_k]; simp at this; omega
  | drop s =>
   simp only [fitG, Bool.and_eq_true] at h
   have h2 := ih h.2
   obtain ⟨r, rfl⟩ := List.isPrefixOf_iff_prefix.mp h.1
   rw [bef_d]; simp at h2 ⊢; omega
  | put s => rw [bef_p]; exact ih h
theorem done_len (c : List Pt) : ∀ t, (doneG c t).length ≤ t.length + tot c := by
 induction c with
 | nil => intro t; simp [doneG]
 | cons p c ih =>
  intro t
  rw [tot_cons]
  cases p with
  | keep n => have := ih (t.drop n); simp [doneG, Pt.n] at this ⊢; omega
  | drop s => have := ih (t.drop s.length); simp [doneG, Pt.n] at this ⊢; omega
  | put s => have := ih t; simp [doneG, Pt.n] at this ⊢; omega
section
variable {F : List Fn} {w n i_size i_fits i_form i_stretch i : Nat}
theorem fit_step (c : List Pt) (t : List Nat) (q : Nat) (p : Pt) (l : List Pt) (h : fitG c t = (decide (q ≤ t.length) && fitG (p :: l) (t.drop q))) :
  (isDrop p = true → (∃ s, p = .drop s ∧ (if (t.drop q).take s.length = s then fitG c t = (decide (q + s.length ≤ t.length) && fitG l (t.drop (q + s.length))) else fitG c t = false))) ∧
  (isDrop p = false → fitG c t = (decide (q + bef [p] ≤ t.length) && fitG l (t.drop (q + bef [p])))) := by
 cases p with
 | drop s =>
  refine ⟨fun _ => ⟨s, rfl, ?_⟩, fun z => by simp [isDrop] at z⟩
  simp only [fitG, pre_take, List.drop_drop] at h
  split
  ·rename_i hs
   rw [h]
   simp only [hs, decide_true, Bool.true_and]
   have hl := congrArg List.length hs
   simp at hl
   by_cases hq : q ≤ t.length
   ·by_cases hq2 : q + s.length ≤ t.length
    ·simp [hq, hq2]
    ·omega
   ·have : ¬ q + s.length ≤ t.length := by omega
    simp [hq, this]
  ·rename_i hs
   rw [h]; simp [hs]
 | keep k =>
  refine ⟨fun z => by simp [isDrop] at z, fun _ => ?_⟩
  have e : bef [.keep k] = k := by rw [bef_k]; rfl
  rw [h, e]
  simp only [fitG, List.drop_drop, List.length_drop]
  by_cases hq : q ≤ t.length
  ·by_cases hq2 : q + k ≤ t.length
   ·have : k ≤ t.length - q := by omega
    simp [hq, hq2, this]
   ·have : ¬ k ≤ t.length - q := by omega
    simp [hq2, this]
  ·have : ¬ q + k ≤ t.length := by omega
   simp [hq, this]
 | put s =>
  refine ⟨fun z => by simp [isDrop] at z, fun _ => ?_⟩
  have e : bef [.put s] = 0 := by rw [bef_p]; rfl
  rw [h, e]
  simp [fitG]
theorem run_fits (hs : F[i_size]? = some F_size) (hf : F[i]? = some (F_fits i_size)) (c : List Pt) (t : List Nat) (h1 : tot c ≤ 10000) (h2 : t.length ≤ 10000) : run F w (n + 2) i [.val (chV c), .val (.str t)] = some (.bl (fitG c t), []) := by
 refine run_wp hf rfl ?_
 refine w_cons (w_set (by repeat array_get_dec) rfl rfl ?_)
 refine w_cons (w_for (vs := c.map Pt.v) (xi_seq (xi_srcv rfl) rfl) ?_)
 refine wp_forM (e := Pt.v) (fun p l fr => p ++ l = c ∧ fitG c t = (decide (bef p ≤ t.length) && fitG l (t.drop (bef p))) ∧ ∃ a, vo a ∧ fr = [some (.val (chV c)), some (.val (.str t)), some (.val (.int (bef p))), a]) (fun p x l fr ⟨hpl, hfit, a, ha, hfr⟩ => ?_) (fun p fr ⟨hpl, hfit, a, ha, hfr⟩ => ?_) c [] _ ⟨rfl, by simp [bef, tot], none, .none, rfl⟩
 ·subst hfr
  have htot : tot p + x.n + tot l = tot c := by rw [← hpl, tot_app, tot_cons]; omega
  have sz := fun fr => call1 (fr := fr) (run_size (w := w) (n := n) hs x (by omega))
  obtain ⟨k1, k2⟩ := fit_step c t (bef p) x l hfit
  have hpl' : (p ++ [x]) ++ l = c := by simpa using hpl
  have eb : bef (p ++ [x]) = bef p + bef [x] := bef_app p [x]
  have ei : ((bef (p ++ [x]) : Nat) : Int) = (bef p : Int) + (bef [x] : Nat) := by rw [eb]; simp
  cases x with
  | drop s =>
   obtain ⟨s', e, k1⟩ := k1 rfl
   cases e
   have e2 : bef [.drop s] = s.length := by rw [bef_d]; rfl
   rw [e2] at eb ei
   have cu : sld (.str t) (some (bef p : Int)) (some ((bef p : Int) + ((Pt.drop s).n : Nat))) = some (.str ((t.drop (bef p)).take s.length)) := by rw [sld_str]; exact congrArg (fun z => some (V.str z)) (cut_nn t (bef p) s.length)
   by_cases hx : (t.drop (bef p)).take s.length = s
   ·rw [if_pos hx] at k1
    have ne : cop .ne (.str ((t.drop (bef p)).take s.length)) (.str s) = some false := by rw [l_nss, decide_eq_true hx]; rfl
    refine w_turn (bind1 rfl ha) (w_cons (w_iff (b := false) (xt_ant (b2 := false) (xt_val rfl (by repeat array_get_dec) rfl) (xt_val rfl (by (repeat (first | array_get_dec | exact sz _))) rfl)) (fun h => absurd h (by decide)) fun _ => w_nil ?_))
    refine w_cons (w_iff (by repeat array_get_dec) (fun _ => ?_) fun h => absurd h (by decide))
    refine w_cons (w_set (by (repeat (first | array_get_dec | exact sz _))) rfl rfl (w_nil (w_nil ?_)))
    rw [fl_nx]
    exact ⟨hpl', by rw [eb]; exact k1, some (.val (Pt.drop s).v), .val, by rw [ei]; rfl⟩
   ·rw [if_neg hx] at k1
    have ne : cop .ne (.str ((t.drop (bef p)).take s.length)) (.str s) = some true := by rw [l_nss, decide_eq_false hx]; rfl
    refine w_turn (bind1 rfl ha) (w_cons (w_iff (b := true) (xt_ant (b2 := true) (xt_val rfl (by repeat array_get_dec) rfl) (xt_val rfl (by (repeat (first | array_get_dec | exact sz _))) rfl)) (fun _ => ?_) fun h => absurd h (by decide)))
    refine w_cons (w_ret (by repeat array_get_dec) ?_)
    show nx _ _ _ _ _ _
    rw [k1]; exact ⟨rfl, rfl⟩
  | keep k =>
   have k2 := k2 rfl
   have e2 : bef [.keep k] = k := by rw [bef_k]; rfl
   rw [e2] at k2 eb ei
   refine w_turn (bind1 rfl ha) (w_cons (w_iff (b := false) (xt_anf (xt_val rfl (by repeat array_get_dec) rfl)) (fun h => absurd h (by decide)) fun _ => w_nil ?_))
   refine w_cons (w_iff (by repeat array_get_dec) (fun _ => ?_) fun h => absurd h (by decide))
   refine w_cons (w_set (by (repeat (first | array_get_dec | exact sz _))) rfl rfl (w_nil (w_nil ?_)))
   rw [fl_nx]
   exact ⟨hpl', by rw [eb]; exact k2, some (.val (Pt.keep k).v), .val, by rw [ei]; rfl⟩
  | put s =>
   have k2 := k2 rfl
   have e2 : bef [.put s] = 0 := by rw [bef_p]; rfl
   rw [e2] at k2 eb
   refine w_turn (bind1 rfl ha) (w_cons (w_iff (b := false) (xt_anf (xt_val rfl (by repeat array_get_dec) rfl)) (fun h => absurd h (by decide)) fun _ => w_nil ?_))
   refine w_cons (w_iff (by repeat array_get_dec) (fun h => absurd h (by decide)) fun _ => w_nil (w_nil ?_))
   rw [fl_nx]
   exact ⟨hpl', by rw [eb]; exact k2, some (.val (Pt.put s).v), .val, by rw [eb]; rfl⟩
 ·subst hfr
  simp at hpl
  subst hpl
  have e : decide ((bef p : Int) = (t.length : Nat)) = fitG p t := by
   rw [hfit]
   simp only [fitG]
   by_cases hq : bef p = t.length
   ·have : (bef p : Int) = t.length := by omega
    simp [this, hq]
   ·have : ¬ (bef p : Int) = t.length := by omega
    simp [this]
    intro h
    omega
  have ln : bfn .len [.str t] = some (.int (t.length : Nat)) := len_str (by omega)
  have eq : cop .eq (.int (bef p)) (.int (t.length : Nat)) = some (fitG p t) := by rw [l_ii, e]
  have sh : shutF [some (.val (chV p)), some (.val (.str t)), some (.val (.int (bef p))), a] = [some (.val (chV p)), some (.val (.str t)), some (.val (.int (bef p))), a] := by
   show _ :: _ :: _ :: [a.map Sl.shut] = _
   rw [shut_vo ha]; rfl
  refine w_cons (w_ret (v := .bl (fitG p t)) (fr1 := [some (.val (chV p)), some (.val (.str t)), some (.val (.int (bef p))), a]) ?_ ⟨rfl, rfl⟩)
  rw [sh]
  repeat array_get_dec
theorem run_done (hs : F[i_size]? = some F_size) (hf : F[i_fits]? = some (F_fits i_size)) (hd : F[i]? = some (F_done i_fits)) (c : List Pt) (t : List Nat) (h1 : tot c ≤ 10000) (h2 : t.length ≤ 10000) (h3 : c.length ≤ 10000) (h : fitG c t = true) : run F w (n + 3) i [.val (chV c), .val (.str t)] = some (.str (doneG c t), []) := by
 refine run_wp hd rfl ?_
 have ft := fun fr => call2 (fr := fr) (run_fits (w := w) (n := n) hs hf c t h1 h2)
 rw [h] at ft
 refine w_cons (w_iff (b := false) (xt_nt (xt_val (b := true) rfl (by (repeat (first | array_get_dec | exact ft _))) rfl)) (fun h => absurd h (by decide)) fun _ => w_nil ?_)
 refine w_cons (w_setN (l := []) (by repeat array_get_dec) rfl rfl ?_)
 refine w_cons (w_set (by repeat array_get_dec) rfl rfl ?_)
 refine w_cons (w_for (vs := c.map Pt.v) (xi_seq (xi_srcv rfl) rfl) ?_)
 refine wp_forM (e := Pt.v) (fun p l fr => p ++ l = c ∧ ∃ ps a b, vo a ∧ vo b ∧ ps.length ≤ p.length ∧ ps.flatten ++ doneG l (t.drop (bef p)) = doneG c t ∧ fr = [some (.val (chV c)), some (.val (.str t)), some (.own (ps.map V.str)), some (.val (.int (bef p))), a, b]) (fun p x l fr ⟨hpl, ps, a, b, ha, hb, hl, hd, hfr⟩ => ?_) (fun p fr ⟨hpl, ps, a, b, ha, hb, hl, hd, hfr⟩ => ?_) c [] _ ⟨rfl, [], none, none, .none, .none, by simp, by simp [bef, tot], rfl⟩
 ·subst hfr
  have hpl' : (p ++ [x]) ++ l = c := by simpa using hpl
  have eb : bef (p ++ [x]) = bef p + bef [x] := bef_app p [x]
  have ei : ((bef (p ++ [x]) : Nat) : Int) = (bef p : Int) + (bef [x] : Nat) := by rw [eb]; simp
  have htot : tot p + x.n + tot l = tot c := by rw [← hpl, tot_app, tot_cons]; omega
  have hlen : p.length + l.length + 1 = c.length := by rw [← hpl]; simp; omega
  have ap : ∀ (fr : Fr) (z : List Nat), slC .append 2 [.str z] fr (some (some (.own (ps.map V.str)))) = .ok .non (fr.set 2 (some (.own ((ps ++ [z]).map V.str)))) := fun fr z => by
   rw [List.map_append]; exact app_own (by simp; omega)
  cases x with
  | put s =>
   have e2 : bef [.put s] = 0 := by rw [bef_p]; rfl
   rw [e2] at eb
   refine w_turn (bind2 rfl ha rfl hb) (w_cons (w_iff (by repeat array_get_dec) (fun _ => ?_) fun h => absurd h (by decide)))
   refine w_cons (w_exp (by (repeat (first | array_get_dec | exact ap _ _))) (w_nil (w_nil ?_)))
   rw [fl_nx]
   exact ⟨hpl', ps ++ [s], some (.val (.str kPut)), some (.val (.str s)), .val, .val, by simp; omega, by rw [eb]; simpa [doneG] using hd, by rw [eb]; rfl⟩
  | drop s =>
   have e2 : bef [.drop s] = s.length := by rw [bef_d]; rfl
   rw [e2] at eb ei
   have hsn : s.length ≤ tot c := by simp only [Pt.n] at htot; omega
   have ln : bfn .len [.str s] = some (.int (s.length : Nat)) := len_str (by omega)
   refine w_turn (bind2 rfl ha rfl hb) (w_cons (w_iff (by repeat array_get_dec) (fun h => absurd h (by decide)) fun _ => ?_))
   refine w_cons (w_iff (by repeat array_get_dec) (fun _ => ?_) fun h => absurd h (by decide))
   refine w_cons (w_set (by repeat array_get_dec) rfl rfl (w_nil (w_nil (w_nil ?_))))
   rw [fl_nx]
   exact ⟨hpl', ps, some (.val (.str kDrop)), some (.val (.str s)), .val, .val, by simp; omega, by rw [eb]; simpa [doneG] using hd, by rw [ei]; rfl⟩
  | keep k =>
   have e2 : bef [.keep k] = k := by rw [bef_k]; rfl
   rw [e2] at eb ei
   have cu : sld (.str t) (some (bef p : Int)) (some ((bef p : Int) + (k : Nat))) = some (.str ((t.drop (bef p)).take k)) := by rw [sld_str, cut_nn]
   refine w_turn (bind2 rfl ha rfl hb) (w_cons (w_iff (by repeat array_get_dec) (fun h => absurd h (by decide)) fun _ => ?_))
   refine w_cons (w_iff (by repeat array_get_dec) (fun h => absurd h (by decide)) fun _ => ?_)
   refine w_cons (w_exp (by (repeat (first | array_get_dec | exact ap _ _))) ?_)
   refine w_cons (w_set (by repeat array_get_dec) rfl rfl (w_nil (w_nil (w_nil ?_))))
   rw [fl_nx]
   exact ⟨hpl', ps ++ [(t.drop (bef p)).take k], some (.val (.str kKeep)), some (.val (.int k)), .val, .val, by simp; omega, by rw [eb]; simpa [doneG] using hd, by rw [ei]; rfl⟩
 ·subst hfr
  simp at hpl
  subst hpl
  have hd' : ps.flatten = doneG p t := by simpa [doneG] using hd
  have dl := done_len p t
  have hj := join0 (l := ps) (by rw [hd']; omega)
  rw [hd'] at hj
  have sh : shutF [some (.val (chV p)), some (.val (.str t)), some (.own (ps.map V.str)), some (.val (.int (bef p))), a, b] = [some (.val (chV p)), some (.val (.str t)), some (.val (.lst (ps.map V.str))), some (.val (.int (bef p))), a, b] := by
   show _ :: _ :: _ :: _ :: a.map Sl.shut :: [b.map Sl.shut] = _
   rw [shut_vo ha, shut_vo hb]; rfl
  refine w_cons (w_ret (v := .str (doneG p t)) (fr1 := [some (.val (chV p)), some (.val (.str t)), some (.val (.lst (ps.map V.str))), some (.val (.int (bef p))), a, b]) ?_ ⟨rfl, rfl⟩)
  rw [sh]
  repeat array_get_dec
theorem tot_sw (c : List Pt) : tot (sw c) = tot c := by
 induction c with
 | nil => rfl
 | cons p c ih => simp only [sw, List.map_cons, tot_cons] at ih ⊢; rw [ih]; cases p <;> rfl
theorem run_undone (hst : F[i_stretch]? = some F_stretch) (hf : F[i_form]? = some (F_form i_stretch)) (hu : F[i]? = some (F_undone i_form)) (c : List Pt) (h1 : c.length ≤ 10000) (h2 : tot c ≤ 10000) : run F w (n + 3) i [.val (chV c)] = some (chV (undo c), []) := by
 have hl : (c.map fun p => p.sw.v).length ≤ big := by rw [List.length_map]; exact Nat.le_trans h1 (by decide)
 have cf := fun fr => call1 (fr := fr) (run_form (w := w) (n := n) hst hf (sw c) (by rw [sw, List.length_map]; exact h1) (by rw [tot_sw]; exact h2))
 rw [show chV (sw c) = .tup (c.map fun p => p.sw.v) by simp only [chV, sw, List.map_map]; rfl] at cf
 exact run_wp hu rfl (w_cons (w_ret (x_cl (xa_v rfl (x_ttp (x_comp (xi_seq (xi_srcv rfl) rfl) rfl (compL_map _ (fun p => p.sw.v) c fun p _ => by
  cases p <;> exact c_turn rfl (x_tup (xs_cons (x_dget (x_v rfl) rfl) (xs_cons (x_v rfl) xs_nil)) mkT_2)) (mkL_le hl)) (mkT_le hl)) xa_nil) (cf _)) ⟨rfl, rfl⟩))
theorem run_nothing (hst : F[i_stretch]? = some F_stretch) (hf : F[i_form]? = some (F_form i_stretch)) (hu : F[i]? = some (F_nothing i_form)) (m : Nat) (h : m ≤ 10000) : run F w (n + 3) i [.val (.int m)] = some (chV (form [.keep m]), []) :=
 run_wp hu rfl (w_cons (w_ret (x_cl (xa_v rfl (x_tup (xs_cons (x_tup (xs_cons (x_c rfl) (xs_cons (x_v rfl) xs_nil)) mkT_2) xs_nil) mkT_1) xa_nil) (call1 (run_form hst hf [.keep m] (Nat.succ_le_of_lt (Nat.zero_lt_succ _)) h))) ⟨rfl, rfl⟩))
end
end Pv
namespace Pv
open Ev (rep)
theorem chgAt_tot (ns : List Int) (at_ : Int) (s : List Nat) (k : Nat) : tot (chgAt ns at_ s k) ≤ 3 := by
 have h1 := drw_hi ns (at_ + 4 * k + 2) (many := 2) (by decide)
 have h2 := drw_lo ns (at_ + 4 * k + 2) (many := 2) (by decide)
 unfold chgAt
 rw [tot_app]
 have a : tot (if drw ns (at_ + 4 * k) 4 = 0 then [Pt.put (rep (1 + drw ns (at_ + 4 * k + 2) 2).toNat [[97, 98, 122].getD (drw ns (at_ + 4 * k + 1) 3).toNat 0])] else []) ≤ 2 := by
  split
  ·simp [tot, Pt.n, rep]; omega
  ·simp [tot]
 cases s[k]? with
 | none => simp [tot] at a ⊢; omega
 | some c =>
  have b : tot [if 0 < drw ns (at_ + 4 * k + 3) 3 then Pt.keep 1 else Pt.drop [c]] ≤ 1 := by split <;> simp [tot, Pt.n]
  simp only at b ⊢
  omega
theorem chgTo_tot (ns : List Int) (at_ : Int) (s : List Nat) : ∀ k, tot (chgTo ns at_ s k) ≤ 3 * k
 | 0 => by simp [chgTo, tot]
 | k + 1 => by
  have h1 := chgAt_tot ns at_ s k
  have h2 := chgTo_tot ns at_ s k
  rw [chgTo_succ, tot_app]
  omega
theorem fitS_len : ∀ {a : List (List Nat)} {t : List Nat}, fitS a t = true → a.length = t.length
 | [], [], _ => rfl
 | x :: a, c :: t, h => by simp [fitS] at h; simp [fitS_len h.2]
 | [], _ :: _, h => by simp [fitS] at h
 | _ :: _, [], h => by simp [fitS] at h
theorem fitS_app : ∀ {a b : List (List Nat)} {t u : List Nat}, fitS a t = true → fitS b u = true → fitS (a ++ b) (t ++ u) = true
 | [], _, [], _, _, hb => hb
 | x :: a, b, c :: t, u, ha, hb => by
  simp only [fitS, Bool.and_eq_true] at ha
  simp only [List.cons_append, fitS, Bool.and_eq_true]
  exact ⟨ha.1, fitS_app ha.2 hb⟩
 | [], _, _ :: _, _, ha, _ => by simp [fitS] at ha
 | _ :: _, _, [], _, ha, _ => by simp [fitS] at ha
theorem asks_at (ns : List Int) (at_ : Int) (s : List Nat) (k : Nat) : fitS (asks (chgAt ns at_ s k)) (s[k]?).toList = true := by
 unfold chgAt
 rw [asks_app]
 have a : asks (if drw ns (at_ + 4 * k) 4 = 0 then [Pt.put (rep (1 + drw ns (at_ + 4 * k + 2) 2).toNat [[97, 98, 122].getD (drw ns (at_ + 4 * k + 1) 3).toNat 0])] else []) = [] := by
  split <;> simp [asks, Pt.asks]
 rw [a]
 cases s[k]? with
 | none => simp [asks, fitS]
 | some c => simp only; split <;> simp [asks, Pt.asks, fitS]
theorem fit_to (ns : List Int) (at_ : Int) (s : List Nat) : ∀ k, fitS (asks (chgTo ns at_ s k)) (s.take k) = true
 | 0 => by simp [chgTo, asks, fitS]
 | k + 1 => by
  rw [chgTo_succ, asks_app, List.take_add_one]
  exact fitS_app (fit_to ns at_ s k) (asks_at ns at_ s k)
theorem fit_chg (ns : List Int) (at_ : Int) (s : List Nat) : fitG (chg ns at_ s) s = true := by
 have := fit_to ns at_ s (s.length + 1)
 rw [List.take_of_length_le (by omega)] at this
 rw [fitG_S]; exact this
end Pv
namespace Pv
inductive At where
 | k | d (c : Nat) | p (c : Nat)
noncomputable def Pt.ats : Pt → List At
 | .keep n => List.replicate n .k
 | .drop s => s.map .d
 | .put s => s.map .p
noncomputable def ats (c : List Pt) : List At := c.flatMap Pt.ats
theorem ats_app (a b : List Pt) : ats (a ++ b) = ats a ++ ats b := by simp [ats]
theorem ats_cons (p : Pt) (c : List Pt) : ats (p :: c) = p.ats ++ ats c := by simp [ats]
theorem pats_len (p : Pt) : p.ats.length = p.n := by cases p <;> simp [Pt.ats, Pt.n]
theorem ats_len (c : List Pt) : (ats c).length = tot c := by
 induction c with
 | nil => rfl
 | cons p c ih => rw [ats_cons, List.length_append, pats_len, ih, tot_cons]
noncomputable def tA : Nat → List At → List Tq
 | _, [] => []
 | i, .k :: a => .at i :: tA (i + 1) a
 | i, .d _ :: a => tA (i + 1) a
 | i, .p c :: a => .sg c :: tA i a
noncomputable def aA : List At → List (List Nat)
 | [] => []
 | .k :: a => [] :: aA a
 | .d c :: a => [c] :: aA a
 | .p _ :: a => aA a
noncomputable def dA : List At → List Nat → List Nat
 | [], _ => []
 | .k :: a, t => t.take 1 ++ dA a (t.drop 1)
 | .d _ :: a, t => dA a (t.drop 1)
 | .p c :: a, t => c :: dA a t
noncomputable def swA : At → At
 | .k => .k
 | .d c => .p c
 | .p c => .d c
noncomputable def cA : List At → Nat
 | [] => 0
 | .k :: a => cA a
 | _ :: a => cA a + 1
theorem aA_app : ∀ a b : List At, aA (a ++ b) = aA a ++ aA b
 | [], _ => rfl
 | .k :: a, b => by simp [aA, aA_app a b]
 | .d c :: a, b => by simp [aA, aA_app a b]
 | .p c :: a, b => by simp [aA, aA_app a b]
theorem tA_app : ∀ (a b : List At) (i : Nat), tA i (a ++ b) = tA i a ++ tA (i + (aA a).length) b
 | [], _, _ => rfl
 | .k :: a, b, i => by simp [tA, aA, tA_app a b, Nat.add_assoc, Nat.add_comm 1]
 | .d c :: a, b, i => by simp [tA, aA, tA_app a b, Nat.add_assoc, Nat.add_comm 1]
 | .p c :: a, b, i => by simp [tA, aA, tA_app a b]
theorem cA_app : ∀ a b : List At, cA (a ++ b) = cA a + cA b
 | [], b => by simp [cA]
 | .k :: a, b => by simp [cA, cA_app a b]
 | .d c :: a, b => by simp [cA, cA_app a b]; omega
 | .p c :: a, b => by simp [cA, cA_app a b]; omega
theorem pt_aA (p : Pt) : aA p.ats = p.asks := by
 cases p with
 | keep n => simp only [Pt.ats, Pt.asks]; induction n <;> simp_all [List.replicate_succ, aA]
 | drop s => simp only [Pt.ats, Pt.asks]; induction s <;> simp_all [aA]
 | put s => simp only [Pt.ats, Pt.asks]; induction s <;> simp_all [aA]
theorem pt_tA (p : Pt) : ∀ i, tA i p.ats = p.told i := by
 cases p with
 | keep n =>
  simp only [Pt.ats, Pt.told]
  induction n with
  | zero => intro i; rfl
  | succ n ih => intro i; simp only [List.replicate_succ, tA, ih, List.range_succ_eq_map, List.map_cons, List.map_map]; simp [Function.comp_def, Nat.add_assoc, Nat.add_comm 1]
 | drop s => intro i; simp only [Pt.ats, Pt.told]; induction s generalizing i <;> simp_all [tA]
 | put s => intro i; simp only [Pt.ats, Pt.told]; induction s generalizing i <;> simp_all [tA]
theorem pt_cA (p : Pt) : cA p.ats = cst [p] := by
 cases p with
 | keep n => simp only [Pt.ats]; rw [cst_k]; induction n <;> simp_all [List.replicate_succ, cA, cst, tot]
 | drop s => simp only [Pt.ats]; rw [cst_d]; induction s <;> simp_all [cA, cst, tot]
 | put s => simp only [Pt.ats]; rw [cst_p]; induction s <;> simp_all [cA, cst, tot]
theorem asks_ats (c : List Pt) : asks c = aA (ats c) := by
 induction c with
 | nil => rfl
 | cons p c ih => rw [ats_cons, aA_app, pt_aA, ← ih]; simp [asks]
theorem told_ats (c : List Pt) : ∀ i, told i c = tA i (ats c) := by
 induction c with
 | nil => intro i; rfl
 | cons p c ih => intro i; rw [ats_cons, tA_app, pt_tA, pt_aA, ← ih, told]
theorem cst_ats (c : List Pt) : cst c = cA (ats c) := by
 induction c with
 | nil => rfl
 | cons p c ih =>
  rw [ats_cons, cA_app, pt_cA, ← ih]
  simp [cst, tot]
  cases p <;> simp [List.filter_cons, isKeep]
theorem sw_ats (c : List Pt) : ats (sw c) = (ats c).map swA := by
 induction c with
 | nil => rfl
 | cons p c ih =>
  have : ats (sw (p :: c)) = p.sw.ats ++ ats (sw c) := by simp [ats, sw]
  rw [this, ih, ats_cons, List.map_append]
  congr 1
  cases p <;> simp [Pt.sw, Pt.ats, swA, Function.comp_def]
theorem done_ats : ∀ (c : List Pt) (t : List Nat), doneG c t = dA (ats c) t := by
 have k : ∀ (n : Nat) (a : List At) (t : List Nat), dA (List.replicate n .k ++ a) t = t.take n ++ dA a (t.drop n) := fun n => by
  induction n with
  | zero => intro a t; simp
  | succ n ih =>
   intro a t
   simp only [List.replicate_succ, List.cons_append, dA, ih, List.drop_drop]
   cases t with
   | nil => simp
   | cons c t => simp [Nat.add_comm 1]
 have d : ∀ (s : List Nat) (a : List At) (t : List Nat), dA (s.map .d ++ a) t = dA a (t.drop s.length) := fun s => by
  induction s with
  | nil => intro a t; simp
  | cons c s ih => intro a t; simp [dA, ih, Nat.add_comm 1]
 have p : ∀ (s : List Nat) (a : List At) (t : List Nat), dA (s.map .p ++ a) t = s ++ dA a t := fun s => by
  induction s with
  | nil => intro a t; simp
  | cons c s ih => intro a t; simp [dA, ih]
 intro c
 induction c with
 | nil => intro t; rfl
 | cons q c ih =>
  intro t
  rw [ats_cons]
  cases q with
  | keep n => simp only [Pt.ats, k, doneG, ih]
  | drop s => simp only [Pt.ats, d, doneG, ih]
  | put s => simp only [Pt.ats, p, doneG, ih]
noncomputable def nd1 : List At → Bool
 | .d _ :: _ => false
 | _ => true
inductive Th : List At → List At → List At → Prop
 | nil : Th [] [] []
 | d {a b r c} : Th a b r → Th (.d c :: a) b (.d c :: r)
 | p {a b r c} : nd1 a = true → Th a b r → Th a (.p c :: b) (.p c :: r)
 | kk {a b r} : Th a b r → Th (.k :: a) (.k :: b) (.k :: r)
 | kd {a b r c} : Th a b r → Th (.k :: a) (.d c :: b) (.d c :: r)
 | pk {a b r c} : Th a b r → Th (.p c :: a) (.k :: b) (.p c :: r)
 | pd {a b r c} : Th a b r → Th (.p c :: a) (.d c :: b) r
noncomputable def sub (L : List Tq) : Tq → Tq
 | .at j => L.getD j (.sg 0)
 | .sg c => .sg c
theorem sub_at {L M : List Tq} {q : Tq} {j : Nat} (h : L.length = j) : sub (L ++ q :: M) (.at j) = q := by
 subst h; simp [sub]
theorem Th.told {a b r : List At} (h : Th a b r) : ∀ (i j : Nat) (L : List Tq), L.length = j → tA i r = (tA j b).map (sub (L ++ tA i a)) := by
 induction h with
 | nil => intro i j L hL; rfl
 | d h ih => intro i j L hL; exact ih (i + 1) j L hL
 | p _ h ih => intro i j L hL; simp only [tA, List.map_cons]; rw [ih i j L hL]; rfl
 | kk h ih =>
  intro i j L hL
  simp only [tA, List.map_cons]
  rw [ih (i + 1) (j + 1) (L ++ [.at i]) (by simp [hL]), sub_at hL]; simp
 | kd h ih =>
  intro i j L hL
  simp only [tA]
  rw [ih (i + 1) (j + 1) (L ++ [.at i]) (by simp [hL])]; simp
 | @pk _ _ _ c h ih =>
  intro i j L hL
  simp only [tA, List.map_cons]
  rw [ih i (j + 1) (L ++ [.sg c]) (by simp [hL]), sub_at hL]; simp
 | @pd _ _ _ c h ih =>
  intro i j L hL
  simp only [tA]
  rw [ih i (j + 1) (L ++ [.sg c]) (by simp [hL])]; simp
theorem Th.back {a b r : List At} (h : Th a b r) : ∀ (i j : Nat) (L : List Tq), L.length = j → tA i (r.map swA) = (tA j (a.map swA)).map (sub (L ++ tA i (b.map swA))) := by
 induction h with
 | nil => intro i j L hL; rfl
 | d h ih => intro i j L hL; simp only [List.map_cons, swA, tA]; rw [ih i j L hL]; rfl
 | p _ h ih => intro i j L hL; exact ih (i + 1) j L hL
 | kk h ih =>
  intro i j L hL
  simp only [List.map_cons, swA, tA]
  rw [ih (i + 1) (j + 1) (L ++ [.at i]) (by simp [hL]), sub_at hL]; simp
 | @kd _ _ _ c h ih =>
  intro i j L hL
  simp only [List.map_cons, swA, tA]
  rw [ih i (j + 1) (L ++ [.sg c]) (by simp [hL]), sub_at hL]; simp
 | pk h ih =>
  intro i j L hL
  simp only [List.map_cons, swA, tA]
  rw [ih (i + 1) (j + 1) (L ++ [.at i]) (by simp [hL])]; simp
 | @pd _ _ _ c h ih =>
  intro i j L hL
  simp only [List.map_cons, swA, tA]
  rw [ih i (j + 1) (L ++ [.sg c]) (by simp [hL])]; simp
theorem Th.fit {a b r : List At} (h : Th a b r) : ∀ t, fitS (aA a) t = true → fitS (aA b) (dA a t) = true → fitS (aA r) t = true := by
 induction h with
 | nil => intro t h1 _; exact h1
 | d h ih =>
  intro t h1 h2
  cases t with
  | nil => simp [aA, fitS] at h1
  | cons x t => simp only [aA, fitS, Bool.and_eq_true] at h1 ⊢; exact ⟨h1.1, ih t h1.2 h2⟩
 | p _ h ih => intro t h1 h2; exact ih t h1 h2
 | kk h ih =>
  intro t h1 h2
  cases t with
  | nil => simp [aA, fitS] at h1
  | cons x t => simp only [aA, fitS, Bool.and_eq_true, dA, List.take_succ_cons, List.take_zero, List.drop_succ_cons, List.drop_zero, List.singleton_append] at h1 h2 ⊢; exact ⟨h1.1, ih t h1.2 h2.2⟩
 | kd h ih =>
  intro t h1 h2
  cases t with
  | nil => simp [aA, fitS] at h1
  | cons x t => simp only [aA, fitS, Bool.and_eq_true, dA, List.take_succ_cons, List.take_zero, List.drop_succ_cons, List.drop_zero, List.singleton_append] at h1 h2 ⊢; exact ⟨h2.1, ih t h1.2 h2.2⟩
 | pk h ih => intro t h1 h2; simp only [aA, dA, fitS, Bool.and_eq_true] at h1 h2 ⊢; exact ih t h1 h2.2
 | pd h ih => intro t h1 h2; simp only [aA, dA, fitS, Bool.and_eq_true] at h1 h2 ⊢; exact ih t h1 h2.2
theorem Th.all : ∀ (n : Nat) (a b : List At) (t : List Nat), a.length + b.length ≤ n → fitS (aA a) t = true → fitS (aA b) (dA a t) = true → ∃ r, Th a b r := by
 intro n
 induction n with
 | zero =>
  intro a b t hn _ _
  obtain rfl : a = [] := List.length_eq_zero_iff.mp (by omega)
  obtain rfl : b = [] := List.length_eq_zero_iff.mp (by omega)
  exact ⟨[], .nil⟩
 | succ n ih =>
  intro a b t hn h1 h2
  cases a with
  | nil =>
   cases b with
   | nil => exact ⟨[], .nil⟩
   | cons y b =>
    cases y with
    | p c => obtain ⟨r, h⟩ := ih [] b t (by simp at hn ⊢; omega) h1 h2; exact ⟨_, .p rfl h⟩
    | k => simp [aA, dA, fitS] at h2
    | d c => simp [aA, dA, fitS] at h2
  | cons x a =>
   by_cases hd : nd1 (x :: a) = true
   ·cases b with
    | nil =>
     cases x with
     | d c => cases hd
     | k => cases t <;> simp [aA, dA, fitS] at h1 h2
     | p c => simp [aA, dA, fitS] at h2
    | cons y b =>
     cases y with
     | p c => obtain ⟨r, h⟩ := ih (x :: a) b t (by simp at hn ⊢; omega) h1 h2; exact ⟨_, .p hd h⟩
     | k =>
      cases x with
      | d c => cases hd
      | k =>
       cases t with
       | nil => simp [aA, fitS] at h1
       | cons z t =>
        simp [aA, fitS, dA] at h1 h2
        obtain ⟨r, h⟩ := ih a b t (by simp at hn ⊢; omega) h1 h2; exact ⟨_, .kk h⟩
      | p c =>
       simp [aA, fitS, dA] at h1 h2
       obtain ⟨r, h⟩ := ih a b t (by simp at hn ⊢; omega) h1 h2; exact ⟨_, .pk h⟩
     | d c' =>
      cases x with
      | d c => cases hd
      | k =>
       cases t with
       | nil => simp [aA, fitS] at h1
       | cons z t =>
        simp [aA, fitS, dA] at h1 h2
        obtain ⟨r, h⟩ := ih a b t (by simp at hn ⊢; omega) h1 h2.2; exact ⟨_, .kd h⟩
      | p c =>
       simp [aA, fitS, dA] at h1 h2
       obtain ⟨rfl, h2⟩ := h2
       obtain ⟨r, h⟩ := ih a b t (by simp at hn ⊢; omega) h1 h2; exact ⟨_, .pd h⟩
   ·cases x with
    | k => exact absurd rfl hd
    | p c => exact absurd rfl hd
    | d c =>
     cases t with
     | nil => simp [aA, fitS] at h1
     | cons z t =>
      simp [aA, fitS] at h1
      obtain ⟨r, h⟩ := ih a b t (by simp at hn ⊢; omega) h1.2 h2; exact ⟨_, .d h⟩
theorem Th.done {a b r : List At} (h : Th a b r) : ∀ t, fitS (aA a) t = true → dA r t = dA b (dA a t) := by
 induction h with
 | nil => intro t _; rfl
 | d h ih =>
  intro t h1
  cases t with
  | nil => simp [aA, fitS] at h1
  | cons x t => simp only [aA, fitS, Bool.and_eq_true] at h1; simp only [dA]; exact ih t h1.2
 | p _ h ih => intro t h1; simp only [dA]; rw [ih t h1]
 | kk h ih =>
  intro t h1
  cases t with
  | nil => simp [aA, fitS] at h1
  | cons x t => simp only [aA, fitS, Bool.and_eq_true] at h1; simp [dA, ih t h1.2]
 | kd h ih =>
  intro t h1
  cases t with
  | nil => simp [aA, fitS] at h1
  | cons x t => simp only [aA, fitS, Bool.and_eq_true] at h1; simp [dA, ih t h1.2]
 | pk h ih => intro t h1; simp [dA, ih t h1]
 | pd h ih => intro t h1; simp [dA, ih t h1]
theorem Th.cost {a b r : List At} (h : Th a b r) : cA r ≤ cA a + cA b := by induction h <;> simp [cA] <;> omega
theorem Th.len {a b r : List At} (h : Th a b r) : r.length ≤ a.length + b.length := by induction h <;> simp <;> omega
theorem Th.ds {b r : List At} : ∀ {s : List Nat} {a : List At}, Th (s.map .d ++ a) b r → ∃ r', r = s.map .d ++ r' ∧ Th a b r'
 | [], a, h => ⟨r, rfl, h⟩
 | c :: s, a, h => by
  cases h with
  | d h => obtain ⟨r', rfl, h'⟩ := Th.ds h; exact ⟨r', rfl, h'⟩
  | p hn h => cases hn
theorem Th.ps {a r : List At} (hn : nd1 a = true) : ∀ {s : List Nat} {b : List At}, Th a (s.map .p ++ b) r → ∃ r', r = s.map .p ++ r' ∧ Th a b r'
 | [], b, h => ⟨r, rfl, h⟩
 | c :: s, b, h => by
  cases h with
  | d h => cases hn
  | p _ h => obtain ⟨r', rfl, h'⟩ := Th.ps hn h; exact ⟨r', rfl, h'⟩
theorem Th.kks {a b r : List At} : ∀ {n : Nat}, Th (List.replicate n .k ++ a) (List.replicate n .k ++ b) r → ∃ r', r = List.replicate n .k ++ r' ∧ Th a b r' := fun {n} => by
 induction n generalizing r with
 | zero => intro h; exact ⟨r, rfl, h⟩
 | succ n ih => intro h; cases h with | kk h => obtain ⟨r', rfl, h'⟩ := ih h; exact ⟨r', rfl, h'⟩
theorem Th.kds {a b r : List At} : ∀ {s : List Nat}, Th (List.replicate s.length .k ++ a) (s.map .d ++ b) r → ∃ r', r = s.map .d ++ r' ∧ Th a b r' := fun {s} => by
 induction s generalizing r with
 | nil => intro h; exact ⟨r, rfl, h⟩
 | cons c s ih => intro h; cases h with | kd h => obtain ⟨r', rfl, h'⟩ := ih h; exact ⟨r', rfl, h'⟩
theorem Th.pks {a b r : List At} : ∀ {s : List Nat}, Th (s.map .p ++ a) (List.replicate s.length .k ++ b) r → ∃ r', r = s.map .p ++ r' ∧ Th a b r' := fun {s} => by
 induction s generalizing r with
 | nil => intro h; exact ⟨r, rfl, h⟩
 | cons c s ih => intro h; cases h with | pk h => obtain ⟨r', rfl, h'⟩ := ih h; exact ⟨r', rfl, h'⟩
theorem Th.pds {a b r : List At} : ∀ {s s' : List Nat}, s.length = s'.length → Th (s.map .p ++ a) (s'.map .d ++ b) r → s = s' ∧ Th a b r
 | [], [], _, h => ⟨rfl, h⟩
 | [], _ :: _, hl, _ => by simp at hl
 | _ :: _, [], hl, _ => by simp at hl
 | c :: s, c' :: s', hl, h => by cases h with | pd h => obtain ⟨rfl, h'⟩ := Th.pds (by simpa using hl) h; exact ⟨rfl, h'⟩
theorem told_kept : ∀ (a : List At) (i q : Nat), Tq.at q ∈ tA i a ↔ ∃ j, q = i + j ∧ (aA a)[j]? = some []
 | [], i, q => by simp [tA, aA]
 | .k :: a, i, q => by
  simp only [tA, List.mem_cons, told_kept a, aA]
  constructor
  ·rintro (h | ⟨j, rfl, h⟩)
   ·cases h; exact ⟨0, rfl, by simp⟩
   ·exact ⟨j + 1, by omega, by simpa using h⟩
  ·rintro ⟨j, rfl, h⟩
   cases j with
   | zero => exact .inl rfl
   | succ j => exact .inr ⟨j, by omega, by simpa using h⟩
 | .d c :: a, i, q => by
  simp only [tA, told_kept a, aA]
  constructor
  ·rintro ⟨j, rfl, h⟩; exact ⟨j + 1, by omega, by simpa using h⟩
  ·rintro ⟨j, rfl, h⟩
   cases j with
   | zero => simp at h
   | succ j => exact ⟨j, by omega, by simpa using h⟩
 | .p c :: a, i, q => by simp [tA, told_kept a, aA]
theorem fitS_at : ∀ {a : List (List Nat)} {t : List Nat}, fitS a t = true → ∀ (j : Nat) x, a[j]? = some x → x = [] ∨ ∃ c, t[j]? = some c ∧ x = [c]
 | y :: a, c :: t, h, j, x, e => by
  simp only [fitS, Bool.and_eq_true, Bool.or_eq_true, decide_eq_true_eq] at h
  cases j with
  | zero => simp at e; subst e; exact h.1.imp id fun z => ⟨c, by simp, z⟩
  | succ j => simpa using fitS_at h.2 j x (by simpa using e)
 | [], [], _, j, x, e => by simp at e
 | [], _ :: _, h, _, _, _ => by simp [fitS] at h
 | _ :: _, [], h, _, _, _ => by simp [fitS] at h
theorem asks_kept {a : List At} {A : List (List Nat)} {t : List Nat} (ha : fitS (aA a) t = true) (hb : fitS A t = true) (h : ∀ q : Nat, Tq.at q ∈ tA 0 a ↔ A[q]? = some []) : aA a = A := by
 have la := fitS_len ha
 have lb := fitS_len hb
 apply List.ext_getElem?
 intro j
 by_cases hj : j < t.length
 ·obtain ⟨x, hx⟩ : ∃ x, (aA a)[j]? = some x := ⟨_, List.getElem?_eq_getElem (by omega)⟩
  obtain ⟨y, hy⟩ : ∃ y, A[j]? = some y := ⟨_, List.getElem?_eq_getElem (by omega)⟩
  have k1 := told_kept a 0 j
  rw [h j, hy] at k1
  have hxy : x = [] ↔ y = [] := by
   constructor
   ·rintro rfl
    have := k1.mpr ⟨j, by omega, hx⟩
    cases this; rfl
   ·rintro rfl
    obtain ⟨i, hi, e⟩ := k1.mp rfl
    obtain rfl : i = j := by omega
    rw [e] at hx; cases hx; rfl
  rw [hx, hy]
  rcases fitS_at ha j x hx with hx0 | ⟨c, hc, hx1⟩
  ·rw [hx0, hxy.mp hx0]
  ·rcases fitS_at hb j y hy with hy0 | ⟨c', hc', hy1⟩
   ·rw [hy0, hxy.mpr hy0]
   ·rw [hc] at hc'; cases hc'; rw [hx1, hy1]
 ·rw [List.getElem?_eq_none (by omega), List.getElem?_eq_none (by omega)]
theorem asks_told {a b : List At} {t : List Nat} (ha : fitS (aA a) t = true) (hb : fitS (aA b) t = true) (h : tA 0 a = tA 0 b) : aA a = aA b :=
 asks_kept ha hb fun q => by
  rw [h, told_kept b 0 q]
  constructor
  ·rintro ⟨j, hj, e⟩; obtain rfl : q = j := by omega
   exact e
  ·intro e; exact ⟨q, by omega, e⟩
theorem form_told {a b : List Pt} {t : List Nat} (ha : fitG a t = true) (hb : fitG b t = true) (h : told 0 a = told 0 b) : form a = form b := by
 rw [form_iff]
 rw [fitG_S] at ha hb
 have h' := h
 rw [asks_ats] at ha hb
 rw [told_ats, told_ats] at h'
 have := asks_told ha hb h'
 simp only [sense, h, asks_ats, this]
theorem sub_sub (L M : List Tq) (q : Tq) : sub M (sub L q) = sub (L.map (sub M)) q := by
 cases q with
 | sg c => rfl
 | «at» j =>
  simp only [sub, List.getD_eq_getElem?_getD, List.getElem?_map]
  cases L[j]? <;> rfl
theorem sub_comp (L M T : List Tq) : (T.map (sub L)).map (sub M) = T.map (sub (L.map (sub M))) := by
 rw [List.map_map]; exact List.map_congr_left fun q _ => sub_sub L M q
theorem sub_stay {a : List At} {M : List Tq} (h : ∀ j : Nat, (aA a)[j]? = some [] → M[j]? = some (Tq.at j)) : (tA 0 a).map (sub M) = tA 0 a := by
 refine (List.map_congr_left fun q hq => ?_).trans (List.map_id _)
 cases q with
 | sg c => rfl
 | «at» j =>
  obtain ⟨i, hi, e⟩ := (told_kept a 0 j).mp hq
  obtain rfl : i = j := by omega
  simp [sub, h i e]
theorem sub_all (L : List Tq) : ((List.range L.length).map Tq.at).map (sub L) = L := by
 apply List.ext_getElem?
 intro i
 by_cases h : i < L.length
 ·simp [sub, h]
 ·rw [List.getElem?_eq_none (by simp; omega), List.getElem?_eq_none (by omega)]
noncomputable def eA : Nat → List (List Nat) → List Tq
 | _, [] => []
 | i, [] :: r => .at i :: eA (i + 1) r
 | i, (c :: _) :: r => .sg c :: eA (i + 1) r
theorem eA_at : ∀ (A : List (List Nat)) (i j : Nat), A[j]? = some [] → (eA i A)[j]? = some (.at (i + j))
 | [], _, _, h => by simp at h
 | x :: A, i, 0, h => by simp at h; subst h; simp [eA]
 | [] :: A, i, j + 1, h => by simp only [eA, List.getElem?_cons_succ] at h ⊢; rw [eA_at A (i + 1) j h]; congr 2; omega
 | (c :: l) :: A, i, j + 1, h => by simp only [eA, List.getElem?_cons_succ] at h ⊢; rw [eA_at A (i + 1) j h]; congr 2; omega
theorem still_A : ∀ (a : List At) (i j : Nat) (L : List Tq), L.length = j → (tA j (a.map swA)).map (sub (L ++ tA i a)) = eA i (aA a)
 | [], _, _, _, _ => rfl
 | .k :: a, i, j, L, h => by
  simp only [List.map_cons, swA, tA, aA, eA]
  rw [sub_at h, ← still_A a (i + 1) (j + 1) (L ++ [.at i]) (by simp [h])]; simp
 | .d c :: a, i, j, L, h => by
  simp only [List.map_cons, swA, tA, aA, eA]
  rw [← still_A a (i + 1) j L h]; rfl
 | .p c :: a, i, j, L, h => by
  simp only [List.map_cons, swA, tA, aA]
  rw [← still_A a i (j + 1) (L ++ [.sg c]) (by simp [h])]; simp
theorem aft_done {c : List Pt} {t : List Nat} (h : fitG c t = true) : (doneG c t).length = aft c := by
 rw [fit_bef (back_fit c t h).1, bef_sw]
theorem eA_mem : ∀ (A : List (List Nat)) (i q : Nat), Tq.at q ∈ eA i A ↔ ∃ j, q = i + j ∧ A[j]? = some []
 | [], _, _ => by simp [eA]
 | [] :: A, i, q => by
  simp only [eA, List.mem_cons, eA_mem A]
  constructor
  ·rintro (h | ⟨j, rfl, h⟩)
   ·cases h; exact ⟨0, rfl, by simp⟩
   ·exact ⟨j + 1, by omega, by simpa using h⟩
  ·rintro ⟨j, rfl, h⟩
   cases j with
   | zero => exact .inl rfl
   | succ j => exact .inr ⟨j, by omega, by simpa using h⟩
 | (c :: l) :: A, i, q => by
  simp only [eA, List.mem_cons, reduceCtorEq, false_or, eA_mem A]
  constructor
  ·rintro ⟨j, rfl, h⟩; exact ⟨j + 1, by omega, by simpa using h⟩
  ·rintro ⟨j, rfl, h⟩
   cases j with
   | zero => simp at h
   | succ j => exact ⟨j, by omega, by simpa using h⟩
end Pv
namespace Pv
open Ev (D BOp COp TY BI ME T E Es Eo It S Ss Fn big deep b2i rep mulOk ixN atI sIx cut joinS sortS slots)
noncomputable def q_then_0 (n_after : Nat) (n_before : Nat) : S := .iff (.cmp .ne (.cl n_after (.cons (.v 0) .nil)) (.cl n_before (.cons (.v 1) .nil))) (.cons (.nev) .nil) .nil
noncomputable def q_then_1 (n_form : Nat) : S := .set 2 (.lof (.rev (.cl n_form (.cons (.v 0) .nil))))
noncomputable def q_then_2 (n_form : Nat) : S := .set 3 (.lof (.rev (.cl n_form (.cons (.v 1) .nil))))
noncomputable def q_then_3 : S := .set 4 (.lst .nil)
noncomputable def w_then_0 (n_size : Nat) (n_met : Nat) (n_taken : Nat) : Ss := (.cons (.iff (.an (.v 2) (.cmp .eq (.ix (.ix (.v 2) (.neg (.c (.int 1)))) (.c (.int 0))) (.c (.str [100, 114, 111, 112])))) (.cons (.exp (.me .append (.v 4) (.cons (.me .pop (.v 2) .nil) .nil))) .nil) (.cons (.iff (.an (.v 3) (.cmp .eq (.ix (.ix (.v 3) (.neg (.c (.int 1)))) (.c (.int 0))) (.c (.str [112, 117, 116])))) (.cons (.exp (.me .append (.v 4) (.cons (.me .pop (.v 3) .nil) .nil))) .nil) (.cons (.set 5 (.bi .min (.cons (.cl n_size (.cons (.ix (.v 2) (.neg (.c (.int 1)))) .nil)) (.cons (.cl n_size (.cons (.ix (.v 3) (.neg (.c (.int 1)))) .nil)) .nil)))) (.cons (.exp (.me .extend (.v 4) (.cons (.cl n_met (.cons (.cl n_taken (.cons (.v 2) (.cons (.v 5) .nil))) (.cons (.cl n_taken (.cons (.v 3) (.cons (.v 5) .nil))) .nil))) .nil))) .nil))) .nil)) .nil)
noncomputable def q_then_4 (n_size : Nat) (n_met : Nat) (n_taken : Nat) : S := .whl (.orr (.v 2) (.v 3)) (w_then_0 n_size n_met n_taken)
noncomputable def q_then_5 (n_form : Nat) : S := .ret (.cl n_form (.cons (.ttp (.v 4)) .nil))
noncomputable def F_then (n_after : Nat) (n_before : Nat) (n_form : Nat) (n_size : Nat) (n_met : Nat) (n_taken : Nat) : Fn := ⟨2, 6, (.cons (q_then_0 n_after n_before) (.cons (q_then_1 n_form) (.cons (q_then_2 n_form) (.cons q_then_3 (.cons (q_then_4 n_size n_met n_taken) (.cons (q_then_5 n_form) .nil))))))⟩
noncomputable def q_all_then_0 (n_nothing : Nat) : S := .set 2 (.cl n_nothing (.cons (.v 0) .nil))
noncomputable def w_all_then_0 (n_then : Nat) : Ss := (.cons (.set 2 (.cl n_then (.cons (.v 2) (.cons (.v 3) .nil)))) .nil)
noncomputable def q_all_then_1 (n_then : Nat) : S := .for (.one 3) (.seq (.v 1)) (w_all_then_0 n_then)
noncomputable def q_all_then_2 : S := .ret (.v 2)
noncomputable def F_all_then (n_nothing : Nat) (n_then : Nat) : Fn := ⟨2, 4, (.cons (q_all_then_0 n_nothing) (.cons (q_all_then_1 n_then) (.cons q_all_then_2 .nil)))⟩
noncomputable def q_met_0 : S := .iff (.cmp .eq (.ix (.v 1) (.c (.int 0))) (.c (.str [107, 101, 101, 112]))) (.cons (.ret (.lst (.cons (.v 0) .nil))) .nil) .nil
noncomputable def q_met_1 : S := .iff (.cmp .eq (.ix (.v 0) (.c (.int 0))) (.c (.str [107, 101, 101, 112]))) (.cons (.ret (.lst (.cons (.v 1) .nil))) .nil) .nil
noncomputable def q_met_2 : S := .iff (.cmp .ne (.ix (.v 0) (.c (.int 1))) (.ix (.v 1) (.c (.int 1)))) (.cons (.nev) .nil) .nil
noncomputable def q_met_3 : S := .ret (.lst .nil)
noncomputable def F_met : Fn := ⟨2, 2, (.cons q_met_0 (.cons q_met_1 (.cons q_met_2 (.cons q_met_3 .nil))))⟩
noncomputable def q_taken_0 (n_parted : Nat) : S := .set 2 (.cl n_parted (.cons (.me .pop (.v 0) .nil) (.cons (.v 1) .nil)))
noncomputable def q_taken_1 (n_size : Nat) : S := .iff (.cmp .gt (.cl n_size (.cons (.ix (.v 2) (.c (.int 1))) .nil)) (.c (.int 0))) (.cons (.exp (.me .append (.v 0) (.cons (.ix (.v 2) (.c (.int 1))) .nil))) .nil) .nil
noncomputable def q_taken_2 : S := .ret (.ix (.v 2) (.c (.int 0)))
noncomputable def F_taken (n_parted : Nat) (n_size : Nat) : Fn := ⟨2, 3, (.cons (q_taken_0 n_parted) (.cons (q_taken_1 n_size) (.cons q_taken_2 .nil)))⟩
noncomputable def q_parted_0 : S := .set 2 (.ix (.v 0) (.c (.int 0)))
noncomputable def q_parted_1 : S := .iff (.cmp .eq (.v 2) (.c (.str [107, 101, 101, 112]))) (.cons (.ret (.tup (.cons (.tup (.cons (.v 2) (.cons (.v 1) .nil))) (.cons (.tup (.cons (.v 2) (.cons (.bin .sub (.ix (.v 0) (.c (.int 1))) (.v 1)) .nil))) .nil)))) .nil) .nil
noncomputable def q_parted_2 : S := .ret (.tup (.cons (.tup (.cons (.v 2) (.cons (.sl (.ix (.v 0) (.c (.int 1))) .no (.yes (.v 1))) .nil))) (.cons (.tup (.cons (.v 2) (.cons (.sl (.ix (.v 0) (.c (.int 1))) (.yes (.v 1)) .no) .nil))) .nil)))
noncomputable def F_parted : Fn := ⟨2, 3, (.cons q_parted_0 (.cons q_parted_1 (.cons q_parted_2 .nil)))⟩
noncomputable def Pt.tk (m : Nat) : Pt → Pt
 | .keep _ => .keep m
 | .put s => .put (s.take m)
 | .drop s => .drop (s.take m)
noncomputable def Pt.dp (m : Nat) : Pt → Pt
 | .keep k => .keep (k - m)
 | .put s => .put (s.drop m)
 | .drop s => .drop (s.drop m)
theorem cut_t {α : Type} (l : List α) (m : Nat) : cut l none (some (m : Int)) = l.take m := by
 have h1 : ¬ (m : Int) < 0 := by omega
 simp only [cut, sIx, h1, if_false, Int.toNat_natCast, List.drop_zero, Nat.sub_zero]
 by_cases h : m ≤ l.length
 ·rw [Nat.min_eq_left h]
 ·rw [Nat.min_eq_right (by omega), List.take_of_length_le (Nat.le_refl _), List.take_of_length_le (by omega)]
theorem cut_d {α : Type} (l : List α) (m : Nat) : cut l (some (m : Int)) none = l.drop m := by
 have h1 : ¬ (m : Int) < 0 := by omega
 simp only [cut, sIx, h1, if_false, Int.toNat_natCast]
 by_cases h : m ≤ l.length
 ·rw [Nat.min_eq_left h, List.take_of_length_le (by simp)]
 ·rw [Nat.min_eq_right (by omega), List.drop_eq_nil_of_le (Nat.le_refl _), List.drop_eq_nil_of_le (by omega)]; simp
section
variable {F : List Fn} {w n i_parted i_size i_met i_taken i_form i_stretch i_after i_before i_nothing i_then i : Nat}
theorem run_parted (hf : F[i]? = some F_parted) (p : Pt) (m : Nat) (h : m ≤ p.n) : run F w (n + 1) i [.val p.v, .val (.int m)] = some (.tup [(p.tk m).v, (p.dp m).v], []) := by
 refine run_wp hf rfl ?_
 cases p with
 | keep k =>
  refine w_cons (w_set (by repeat array_get_dec) rfl rfl ?_)
  refine w_cons (w_iff (by repeat array_get_dec) (fun _ => ?_) fun h => absurd h (by decide))
  refine w_cons (w_ret (by repeat array_get_dec) ⟨?_, rfl⟩)
  have : (k : Int) - m = ((k - m : Nat) : Int) := by simp only [Pt.n] at h; omega
  exact congrArg (fun z => Fl.ret (V.tup [V.tup [V.str kKeep, V.int m], V.tup [V.str kKeep, V.int z]])) this
 | put s =>
  have c1 : sld (.str s) none (some (m : Int)) = some (.str (s.take m)) := by rw [sld_str, cut_t]
  have c2 : sld (.str s) (some (m : Int)) none = some (.str (s.drop m)) := by rw [sld_str, cut_d]
  refine w_cons (w_set (by repeat array_get_dec) rfl rfl ?_)
  refine w_cons (w_iff (by repeat array_get_dec) (fun h => absurd h (by decide)) fun _ => w_nil ?_)
  exact w_cons (w_ret (by repeat array_get_dec) ⟨rfl, rfl⟩)
 | drop s =>
  have c1 : sld (.str s) none (some (m : Int)) = some (.str (s.take m)) := by rw [sld_str, cut_t]
  have c2 : sld (.str s) (some (m : Int)) none = some (.str (s.drop m)) := by rw [sld_str, cut_d]
  refine w_cons (w_set (by repeat array_get_dec) rfl rfl ?_)
  refine w_cons (w_iff (by repeat array_get_dec) (fun h => absurd h (by decide)) fun _ => w_nil ?_)
  exact w_cons (w_ret (by repeat array_get_dec) ⟨rfl, rfl⟩)
theorem dp_n (m : Nat) (p : Pt) : (p.dp m).n = p.n - m := by cases p <;> simp [Pt.dp, Pt.n]
theorem run_taken (hs : F[i_size]? = some F_size) (hp : F[i_parted]? = some F_parted) (hf : F[i]? = some (F_taken i_parted i_size)) (L : List V) (p : Pt) (m : Nat) (h : m ≤ p.n) (hn : p.n ≤ 100000) (hL : L.length ≤ 10000) :
  run F w (n + 2) i [.bor (L ++ [p.v]), .val (.int m)] = some ((p.tk m).v, [L ++ if 0 < p.n - m then [(p.dp m).v] else []]) := by
 refine run_wp hf rfl ?_
 have c1 := fun fr => call2 (fr := fr) (run_parted (F := F) (w := w) (n := n) hp p m h)
 have c2 := fun fr => call1 (fr := fr) (run_size (F := F) (w := w) (n := n) hs (p.dp m) (by rw [dp_n]; omega))
 have po : ∀ fr : Fr, slC .pop 0 [] fr (some (some (.bor (L ++ [p.v])))) = .ok p.v (fr.set 0 (some (.bor L))) := fun fr => pop_bor
 have ap : ∀ fr : Fr, slC .append 0 [(p.dp m).v] fr (some (some (.bor L))) = .ok .non (fr.set 0 (some (.bor (L ++ [(p.dp m).v])))) := fun fr => app_bor (by omega)
 refine w_cons (w_set (by (repeat (first | array_get_dec | exact po _ | exact c1 _))) rfl rfl ?_)
 refine w_cons (w_iff (by (repeat (first | array_get_dec | exact c2 _))) (fun h => ?_) fun h => ?_)
 ·have h' := of_decide_eq_true h
  rw [dp_n] at h'
  rw [if_pos (by omega)]
  refine w_cons (w_exp (by (repeat (first | array_get_dec | exact ap _))) (w_nil ?_))
  exact w_cons (w_ret (by repeat array_get_dec) ⟨rfl, rfl⟩)
 ·have h' := of_decide_eq_false h
  rw [dp_n] at h'
  rw [if_neg (by omega), List.append_nil]
  exact w_nil (w_cons (w_ret (by repeat array_get_dec) ⟨rfl, rfl⟩))
noncomputable def metP : Pt → Pt → Option (List Pt)
 | l, .keep _ => some [l]
 | .keep _, g => some [g]
 | .put s, .drop s' => if s = s' then some [] else none
 | _, _ => none
theorem run_met (hf : F[i]? = some F_met) (p q : Pt) (r : List Pt) (h : metP p q = some r) : run F w (n + 1) i [.val p.v, .val q.v] = some (.lst (r.map Pt.v), []) := by
  refine run_wp hf rfl ?_
  cases q with
  | keep k =>
    simp only [metP, Option.some.injEq] at h
    subst h
    refine w_cons (w_iff (by repeat array_get_dec) (fun _ => ?_) fun h => absurd h (by decide))
    exact w_cons (w_ret (by repeat array_get_dec) ⟨rfl, rfl⟩)
  | put s => cases p <;> simp [metP] at h
             subst h
             refine w_cons (w_iff (by repeat array_get_dec) (fun h => absurd h (by decide)) fun _ => w_nil ?_)
             refine w_cons (w_iff (by repeat array_get_dec) (fun _ => ?_) fun h => absurd h (by decide))
             exact w_cons (w_ret (by repeat array_get_dec) ⟨rfl, rfl⟩)
  | drop s' =>
    cases p with
    | keep k =>
      simp only [metP, Option.some.injEq] at h
      subst h
      refine w_cons (w_iff (by repeat array_get_dec) (fun h => absurd h (by decide)) fun _ => w_nil ?_)
      refine w_cons (w_iff (by repeat array_get_dec) (fun _ => ?_) fun h => absurd h (by decide))
      exact w_cons (w_ret (by repeat array_get_dec) ⟨rfl, rfl⟩)
    | drop s => simp [metP] at h
    | put s =>
      simp only [metP] at h
      split at h
      · rename_i hs
        subst hs
        cases h
        refine w_cons (w_iff (by repeat array_get_dec) (fun h => absurd h (by decide)) fun _ => w_nil ?_)
        refine w_cons (w_iff (by repeat array_get_dec) (fun h => absurd h (by decide)) fun _ => w_nil ?_)
        refine w_cons (w_iff (by repeat array_get_dec) (fun h => ?_) fun _ => w_nil ?_)
        · simp at h
        · exact w_cons (w_ret (by repeat array_get_dec) ⟨rfl, rfl⟩)
      · cases h
theorem ix_last {l : List V} {v : V} : ixd (.lst (l ++ [v])) (.int (-1)) = some v := by rw [ixd_lst, atI_m1]; simp
theorem tru_l {l : List V} {v : V} : truthy (.lst (l ++ [v])) = true := by simp
theorem callT {P : Phi} {f i : Nat} {fr : Fr} {b v : V} {l l' : List V} (e : fr[i]? = some (some (.own l))) (h : P f [.bor l, .val b] = some (v, [l'])) : callF P f [.inl i, .inr b] fr = .ok v (fr.set i (some (.own l'))) := by
 have e1 : lent fr i = some (.bor l) := by rw [lent_sl, e]; rfl
 simp [callF, lefts, args, e1, h, back, e, Sl.with]
theorem isF_pos {c : List Pt} (h : isF c = true) : ∀ p ∈ c, 0 < p.n := fun p hp => by
 simp only [isF, Bool.and_eq_true, List.all_eq_true] at h
 have := h.2 p hp
 simp only [ne0, bne_iff_ne, ne_eq] at this
 omega
theorem pos_len : ∀ {c : List Pt}, (∀ p ∈ c, 0 < p.n) → c.length ≤ tot c
 | [], _ => by simp [tot]
 | p :: c, h => by
  have h1 := h p (by simp)
  have h2 := pos_len (c := c) fun q hq => h q (by simp [hq])
  rw [tot_cons, List.length_cons]; omega
theorem tk_dp {p : Pt} {m : Nat} (h : m ≤ p.n) : (p.tk m).ats ++ (p.dp m).ats = p.ats ∧ (p.tk m).n = m := by
 cases p with
 | keep k => simp only [Pt.n] at h; simp [Pt.tk, Pt.dp, Pt.ats, Pt.n, h]
 | put s => simp only [Pt.n] at h; simp [Pt.tk, Pt.dp, Pt.ats, Pt.n, h, ← List.map_append]
 | drop s => simp only [Pt.n] at h; simp [Pt.tk, Pt.dp, Pt.ats, Pt.n, h, ← List.map_append]
noncomputable def lft (m : Nat) (p : Pt) : List Pt := if 0 < p.n - m then [p.dp m] else []
theorem lft_ats {p : Pt} {m : Nat} (h : m ≤ p.n) : p.ats = (p.tk m).ats ++ ats (lft m p) := by
 rw [← (tk_dp h).1]
 congr 1
 unfold lft
 split
 ·simp [ats]
 ·rename_i hz
  have : (p.dp m).ats.length = 0 := by rw [pats_len, dp_n]; omega
  rw [List.length_eq_zero_iff.mp this]; rfl
theorem lft_pos (m : Nat) (p : Pt) : ∀ q ∈ lft m p, 0 < q.n := fun q hq => by
 unfold lft at hq
 split at hq
 ·simp at hq; subst hq; rw [dp_n]; omega
 ·simp at hq
theorem lft_rev (m : Nat) (p : Pt) (A : List Pt) : ((lft m p ++ A).map Pt.v).reverse = (A.map Pt.v).reverse ++ if 0 < p.n - m then [(p.dp m).v] else [] := by
 unfold lft; split <;> simp
theorem lft_tot (m : Nat) (p : Pt) : tot (lft m p) = p.n - m := by
 unfold lft; split
 ·simp [tot, dp_n]
 ·simp [tot]; omega
theorem tk_drop {m : Nat} {p : Pt} : isDrop (p.tk m) = isDrop p ∧ isPut (p.tk m) = isPut p := by cases p <;> exact ⟨rfl, rfl⟩
theorem met_ok {A B r : List At} (p q : Pt) (hp : isDrop p = false) (hq : isPut q = false) (hn : p.n = q.n) (h : Th (p.ats ++ A) (q.ats ++ B) r) : ∃ m r', metP p q = some m ∧ m.length ≤ 1 ∧ r = ats m ++ r' ∧ Th A B r' := by
 cases p with
 | drop s => cases hp
 | keep k =>
  cases q with
  | put s => cases hq
  | keep k' => simp only [Pt.n] at hn; subst hn; obtain ⟨r', rfl, h'⟩ := Th.kks h; exact ⟨[.keep k], r', rfl, by simp, by simp [ats, Pt.ats], h'⟩
  | drop s => simp only [Pt.n] at hn; subst hn; obtain ⟨r', rfl, h'⟩ := Th.kds h; exact ⟨[.drop s], r', rfl, by simp, by simp [ats, Pt.ats], h'⟩
 | put s =>
  cases q with
  | put s' => cases hq
  | keep k' => simp only [Pt.n] at hn; subst hn; obtain ⟨r', rfl, h'⟩ := Th.pks h; exact ⟨[.put s], r', rfl, by simp, by simp [ats, Pt.ats], h'⟩
  | drop s' => simp only [Pt.n] at hn; obtain ⟨rfl, h'⟩ := Th.pds hn h; exact ⟨[], r, by simp [metP], by simp, by simp [ats], h'⟩
structure Tn (one other c : List Pt) (t : List Nat) : Prop where
 frm : form c = c
 fit : fitG c t = true
 dn : doneG c t = doneG other (doneG one t)
 tld : told 0 c = (told 0 other).map (sub (told 0 one))
 bck : told 0 (sw c) = (told 0 (sw one)).map (sub (told 0 (sw other)))
 cs : cst c ≤ cst one + cst other
 tt : tot c ≤ tot one + tot other
 ln : c.length ≤ tot c
theorem tn_of {one other ps : List Pt} {t : List Nat} (h1 : fitG one t = true) (h2 : fitG other (doneG one t) = true) (h : Th (ats (form one)) (ats (form other)) (ats ps)) : Tn one other (form ps) t := by
 have f1 : fitS (aA (ats (form one))) t = true := by rw [← asks_ats, asks_form, ← fitG_S]; exact h1
 have f2 : fitS (aA (ats (form other))) (dA (ats (form one)) t) = true := by rw [← asks_ats, asks_form, ← done_ats, done_form, ← fitG_S]; exact h2
 have b := h.back 0 0 [] rfl
 rw [← sw_ats, ← sw_ats, ← sw_ats, ← told_ats, ← told_ats, ← told_ats] at b
 have sf : ∀ c i, told i (sw (form c)) = told i (sw c) := fun c i => by
  have := congrArg (told i) (form_sw (form_form c)); rwa [told_form, told_form] at this
 refine ⟨form_form _, ?_, ?_, ?_, ?_, ?_, ?_, pos_len (isF_pos (isF_form _))⟩
 ·rw [fit_form, fitG_S, asks_ats]; exact h.fit t f1 f2
 ·rw [done_form, done_ats, h.done t f1, ← done_ats, done_form, ← done_ats, done_form]
 ·have := h.told 0 0 [] rfl
  rw [← told_ats, ← told_ats, ← told_ats, told_form, told_form] at this
  rw [told_form]; exact this
 ·rw [sf, ← sf one, ← sf other]; exact b
 ·have := h.cost
  rw [← cst_ats, ← cst_ats, ← cst_ats, cst_form, cst_form] at this
  rw [cst_form]; exact this
 ·have := h.len
  rw [ats_len, ats_len, ats_len, tot_form, tot_form] at this
  rw [tot_form]; exact this
section
variable (hs : F[i_size]? = some F_size) (hp : F[i_parted]? = some F_parted) (ht : F[i_taken]? = some (F_taken i_parted i_size)) (hm : F[i_met]? = some F_met) {one other : List Pt} {r : List At} {N : Nat} (hN : N ≤ 5000)
noncomputable def thFr (one other A B C : List Pt) (a : Option Sl) : Fr := [some (.val (chV one)), some (.val (chV other)), some (.own (A.map Pt.v).reverse), some (.own (B.map Pt.v).reverse), some (.own (C.map Pt.v)), a]
noncomputable def ThI (one other : List Pt) (r : List At) (N k : Nat) (fr : Fr) : Prop := ∃ A B C r' a, Th (ats A) (ats B) r' ∧ ats C ++ r' = r ∧ (∀ p ∈ A, 0 < p.n) ∧ (∀ p ∈ B, 0 < p.n) ∧ C.length + k ≤ N ∧ k = tot A + tot B ∧ vo a ∧ fr = thFr one other A B C a
include hs hp ht hm hN
noncomputable def v_then (i_size i_met i_taken : Nat) : Ss := (.cons (.set 5 (.bi .min (.cons (.cl i_size (.cons (.ix (.v 2) (.neg (.c (.int 1)))) .nil)) (.cons (.cl i_size (.cons (.ix (.v 3) (.neg (.c (.int 1)))) .nil)) .nil)))) (.cons (.exp (.me .extend (.v 4) (.cons (.cl i_met (.cons (.cl i_taken (.cons (.v 2) (.cons (.v 5) .nil))) (.cons (.cl i_taken (.cons (.v 3) (.cons (.v 5) .nil))) .nil))) .nil))) .nil))
noncomputable def u_then (i_size i_met i_taken : Nat) : Ss := .cons (.iff (.an (.v 3) (.cmp .eq (.ix (.ix (.v 3) (.neg (.c (.int 1)))) (.c (.int 0))) (.c (.str [112, 117, 116])))) (.cons (.exp (.me .append (.v 4) (.cons (.me .pop (.v 3) .nil) .nil))) .nil) (v_then i_size i_met i_taken)) .nil
noncomputable def ThE (one other : List Pt) (r : List At) (N t : Nat) (g : Fl) (fr : Fr) : Prop := g = .nx ∧ ∃ j, j < t ∧ ThI one other r N j fr
omit hs hp ht hm hN in
theorem ap_own {C : List Pt} (lC : C.length ≤ 5000) (d : Pt) (fr : Fr) : slC .append 4 [d.v] fr (some (some (.own (C.map Pt.v)))) = .ok .non (fr.set 4 (some (.own ((C ++ [d]).map Pt.v)))) := by
 rw [List.map_append]; exact app_own (by simp; omega)
omit hs hp ht hm in
theorem then_put (A B C : List Pt) (s : List Nat) (r' : List At) (a : Option Sl) (h : Th (ats A) (ats (.put s :: B)) r') (hn : nd1 (ats A) = true) (hC : ats C ++ r' = r) (hA : ∀ p ∈ A, 0 < p.n) (hB : ∀ p ∈ (.put s :: B), 0 < p.n) (hk : C.length + (tot A + tot (.put s :: B)) ≤ N) (ha : vo a) :
  Wp (exs (run F w (n + 2)) w (u_then i_size i_met i_taken) (thFr one other A (.put s :: B) C a)) (ThE one other r N (tot A + tot (.put s :: B))) := by
 have lC : C.length ≤ 5000 := by omega
 rw [ats_cons] at h
 obtain ⟨r2, e2, h2⟩ := Th.ps hn h
 have hs1 := hB (.put s) (by simp)
 unfold thFr
 rw [List.map_cons, List.reverse_cons]
 refine w_cons (w_iff (xt_ant (xt_val rfl (x_v rfl) tru_l) (by (repeat (first | array_get_dec | exact ix_last)))) (fun _ => ?_) fun h => absurd h (by decide))
 refine w_cons (w_exp (by (repeat (first | array_get_dec | exact pop_own | exact ap_own lC _ _))) (w_nil (w_nil ?_)))
 refine ⟨rfl, tot A + tot B, by rw [tot_cons]; omega, A, B, C ++ [.put s], r2, a, h2, ?_, hA, fun x hx => hB x (by simp [hx]), ?_, rfl, ha, rfl⟩
 ·rw [← hC, e2, ats_app]; simp [ats, Pt.ats]
 ·rw [tot_cons] at hk; simp; omega
omit hN in
theorem then_v (A B C mm : List Pt) (p q : Pt) (m : Nat) (a : Option Sl) (mn : bfn .min [.int p.n, .int q.n] = some (.int m)) (hm1 : m ≤ p.n) (hm2 : m ≤ q.n) (lp : p.n ≤ 5000) (lq : q.n ≤ 5000) (lA : A.length ≤ 5000) (lB : B.length ≤ 5000) (lC : C.length + mm.length ≤ 10000) (e1 : metP (p.tk m) (q.tk m) = some mm) (ha : vo a) (Q : Fl → Fr → Prop)
  (hQ : Q .nx (thFr one other (lft m p ++ A) (lft m q ++ B) (C ++ mm) (some (.val (.int m))))) : Wp (exs (run F w (n + 2)) w (v_then i_size i_met i_taken) (thFr one other (p :: A) (q :: B) C a)) Q := by
 have z1 := fun fr => call1 (fr := fr) (run_size (F := F) (w := w) (n := n + 1) hs p (Nat.le_trans lp (by decide)))
 have z2 := fun fr => call1 (fr := fr) (run_size (F := F) (w := w) (n := n + 1) hs q (Nat.le_trans lq (by decide)))
 have t1 := run_taken (F := F) (w := w) (n := n) hs hp ht (A.map Pt.v).reverse p m hm1 (by omega) (by simp; omega)
 have t2 := run_taken (F := F) (w := w) (n := n) hs hp ht (B.map Pt.v).reverse q m hm2 (by omega) (by simp; omega)
 rw [← lft_rev] at t1 t2
 have cm := fun fr => call2 (fr := fr) (run_met (F := F) (w := w) (n := n + 1) hm _ _ mm e1)
 have ex : ∀ fr : Fr, slC .extend 4 [.lst (mm.map Pt.v)] fr (some (some (.own (C.map Pt.v)))) = .ok .non (fr.set 4 (some (.own ((C ++ mm).map Pt.v)))) := fun fr => by
  rw [List.map_append]; exact ext_own (by simp; omega)
 unfold thFr at hQ ⊢
 rw [List.map_cons, List.reverse_cons, List.map_cons, List.reverse_cons]
 refine w_cons (w_set (by (repeat (first | array_get_dec | exact ix_last | exact z1 _ | exact z2 _))) rfl (put_vo rfl ha) ?_)
 exact w_cons (w_exp (by (repeat (first | array_get_dec | exact callT rfl t1 | exact callT rfl t2 | exact cm _ | exact ex _))) (w_nil hQ))
theorem then_two (A B C : List Pt) (p q : Pt) (r' : List At) (a : Option Sl) (hd : isDrop p = false) (hq : isPut q = false) (h : Th (ats (p :: A)) (ats (q :: B)) r') (hC : ats C ++ r' = r) (hA : ∀ x ∈ p :: A, 0 < x.n) (hB : ∀ x ∈ q :: B, 0 < x.n) (hk : C.length + (tot (p :: A) + tot (q :: B)) ≤ N) (ha : vo a) :
  Wp (exs (run F w (n + 2)) w (u_then i_size i_met i_taken) (thFr one other (p :: A) (q :: B) C a)) (ThE one other r N (tot (p :: A) + tot (q :: B))) := by
 have hp0 := hA p (by simp)
 have hq0 := hB q (by simp)
 obtain ⟨m, hm1, hm2, hm3⟩ : ∃ m : Nat, m ≤ p.n ∧ m ≤ q.n ∧ (m = p.n ∨ m = q.n) := ⟨min p.n q.n, by omega, by omega, by omega⟩
 have mn : bfn .min [.int p.n, .int q.n] = some (.int m) := by
  rw [min_ii]
  split
  ·congr 2; omega
  ·congr 2; omega
 rw [tot_cons, tot_cons] at hk
 have lA := pos_len (c := A) fun x hx => hA x (by simp [hx])
 have lB := pos_len (c := B) fun x hx => hB x (by simp [hx])
 have h3 : Th ((p.tk m).ats ++ ats (lft m p ++ A)) ((q.tk m).ats ++ ats (lft m q ++ B)) r' := by
  rw [ats_app, ats_app, ← List.append_assoc, ← List.append_assoc, ← lft_ats hm1, ← lft_ats hm2, ← ats_cons, ← ats_cons]; exact h
 obtain ⟨mm, r2, e1, e2, e3, h4⟩ := met_ok (p.tk m) (q.tk m) (by rw [tk_drop.1]; exact hd) (by rw [tk_drop.2]; exact hq) (by rw [(tk_dp hm1).2, (tk_dp hm2).2]) h3
 have fin : ThE one other r N (tot (p :: A) + tot (q :: B)) .nx (thFr one other (lft m p ++ A) (lft m q ++ B) (C ++ mm) (some (.val (.int m)))) := by
  refine ⟨rfl, _, ?_, _, _, _, r2, _, h4, ?_, ?_, ?_, ?_, rfl, .val, rfl⟩
  ·rw [tot_app, tot_app, lft_tot, lft_tot, tot_cons, tot_cons]; omega
  ·rw [ats_app, List.append_assoc, ← e3]; exact hC
  ·intro x hx
   rcases List.mem_append.mp hx with hx | hx
   ·exact lft_pos m p x hx
   ·exact hA x (List.mem_cons_of_mem _ hx)
  ·intro x hx
   rcases List.mem_append.mp hx with hx | hx
   ·exact lft_pos m q x hx
   ·exact hB x (List.mem_cons_of_mem _ hx)
  ·rw [tot_app, tot_app, lft_tot, lft_tot, List.length_append]; omega
 have st := then_v (one := one) (other := other) (w := w) (n := n) hs hp ht hm A B C mm p q m a mn hm1 hm2 (by omega) (by omega) (by omega) (by omega) (by omega) e1 ha _ (show nx (run F w (n + 2)) w .nil (ThE one other r N (tot (p :: A) + tot (q :: B))) .nx _ from w_nil fin)
 unfold thFr at st ⊢
 rw [List.map_cons, List.reverse_cons, List.map_cons, List.reverse_cons] at st ⊢
 cases q with
 | put s => cases hq
 | keep k => exact w_cons (w_iff (xt_ant (xt_val rfl (x_v rfl) tru_l) (by (repeat (first | array_get_dec | exact ix_last)))) (fun h => absurd h (by decide)) fun _ => st)
 | drop s => exact w_cons (w_iff (xt_ant (xt_val rfl (x_v rfl) tru_l) (by (repeat (first | array_get_dec | exact ix_last)))) (fun h => absurd h (by decide)) fun _ => st)
omit hs hp ht hm hN in
theorem noL {b r : List At} {x : At} (h : Th [] (x :: b) r) : ∃ c, x = .p c := by cases h with | p => exact ⟨_, rfl⟩
omit hs hp ht hm hN in
theorem noR {a r : List At} {x : At} (h : Th (x :: a) [] r) : ∃ c, x = .d c := by cases h with | d => exact ⟨_, rfl⟩
theorem then_turn (A B C : List Pt) (r' : List At) (a : Option Sl) (hne : A ≠ [] ∨ B ≠ []) (h : Th (ats A) (ats B) r') (hC : ats C ++ r' = r) (hA : ∀ p ∈ A, 0 < p.n) (hB : ∀ p ∈ B, 0 < p.n) (hk : C.length + (tot A + tot B) ≤ N) (ha : vo a) :
  Wp (exs (run F w (n + 2)) w (w_then_0 i_size i_met i_taken) (thFr one other A B C a)) (ThE one other r N (tot A + tot B)) := by
 cases A with
 | nil =>
  cases B with
  | nil => exact absurd hne (by simp)
  | cons q B' =>
   refine w_cons (w_iff (xt_anf (xt_val rfl (x_v rfl) rfl)) (fun h => absurd h (by decide)) fun _ => ?_)
   have hq := hB q (by simp)
   cases q with
   | put s => exact (then_put hN [] B' C s r' a h rfl hC hA hB hk ha).mono fun g fr ⟨hg, hx⟩ => by subst hg; exact w_nil ⟨rfl, hx⟩
   | keep k =>
    rw [ats_cons] at h
    cases k with
    | zero => exact absurd hq (Nat.lt_irrefl 0)
    | succ k => obtain ⟨c, e⟩ := noL (x := .k) h; cases e
   | drop s =>
    rw [ats_cons] at h
    cases s with
    | nil => exact absurd hq (Nat.lt_irrefl 0)
    | cons c s => obtain ⟨c, e⟩ := noL (x := .d c) h; cases e
 | cons p A' =>
  have hp0 := hA p (by simp)
  cases hd : isDrop p with
  | true =>
   cases p with
   | keep k => cases hd
   | put s => cases hd
   | drop s =>
    have lC : C.length ≤ 5000 := by omega
    rw [ats_cons] at h
    obtain ⟨r2, e2, h2⟩ := Th.ds h
    unfold thFr
    rw [List.map_cons, List.reverse_cons]
    refine w_cons (w_iff (xt_ant (xt_val rfl (x_v rfl) tru_l) (by (repeat (first | array_get_dec | exact ix_last)))) (fun _ => ?_) fun h => absurd h (by decide))
    refine w_cons (w_exp (by (repeat (first | array_get_dec | exact pop_own | exact ap_own lC _ _))) (w_nil (w_nil ?_)))
    refine ⟨rfl, tot A' + tot B, by rw [tot_cons]; omega, A', B, C ++ [.drop s], r2, a, h2, ?_, fun x hx => hA x (by simp [hx]), hB, ?_, rfl, ha, rfl⟩
    ·rw [← hC, e2, ats_app]; simp [ats, Pt.ats]
    ·rw [tot_cons] at hk; simp; omega
  | false =>
   have st : Wp (exs (run F w (n + 2)) w (u_then i_size i_met i_taken) (thFr one other (p :: A') B C a)) (ThE one other r N (tot (p :: A') + tot B)) := by
    cases B with
    | nil =>
     exfalso
     rw [ats_cons] at h
     cases p with
     | drop s => cases hd
     | keep k => cases k with | zero => exact absurd hp0 (Nat.lt_irrefl 0) | succ k => obtain ⟨c, e⟩ := noR (x := .k) h; cases e
     | put s => cases s with | nil => exact absurd hp0 (Nat.lt_irrefl 0) | cons c s => obtain ⟨c, e⟩ := noR (x := .p c) h; cases e
    | cons q B' =>
     cases hq : isPut q with
     | true =>
      have hnd : nd1 (ats (p :: A')) = true := by
       rw [ats_cons]
       cases p with
       | drop s => cases hd
       | keep k => cases k <;> first | exact absurd hp0 (Nat.lt_irrefl 0) | rfl
       | put s => cases s <;> first | exact absurd hp0 (Nat.lt_irrefl 0) | rfl
      cases q with
      | keep k => cases hq
      | drop s => cases hq
      | put s => exact then_put hN (p :: A') B' C s r' a h hnd hC hA hB hk ha
     | false => exact then_two hs hp ht hm hN A' B' C p q r' a hd hq h hC hA hB hk ha
   replace st := st.mono (Q' := nx (run F w (n + 2)) w .nil (ThE one other r N (tot (p :: A') + tot B))) fun g fr ⟨hg, hx⟩ => by subst hg; exact w_nil ⟨rfl, hx⟩
   unfold thFr at st ⊢
   rw [List.map_cons, List.reverse_cons] at st ⊢
   cases p with
   | drop s => cases hd
   | keep k => exact w_cons (w_iff (xt_ant (xt_val rfl (x_v rfl) tru_l) (by (repeat (first | array_get_dec | exact ix_last)))) (fun h => absurd h (by decide)) fun _ => st)
   | put s => exact w_cons (w_iff (xt_ant (xt_val rfl (x_v rfl) tru_l) (by (repeat (first | array_get_dec | exact ix_last)))) (fun h => absurd h (by decide)) fun _ => st)
omit hN in
theorem run_then (hst : F[i_stretch]? = some F_stretch) (hf : F[i_form]? = some (F_form i_stretch)) (hb : F[i_before]? = some (F_before i_size)) (ha : F[i_after]? = some (F_after i_size)) (hth : F[i]? = some (F_then i_after i_before i_form i_size i_met i_taken)) (hw : 5000 < w)
  (one other : List Pt) (t : List Nat) (h1 : fitG one t = true) (h2 : fitG other (doneG one t) = true) (b1 : tot one ≤ 2000) (b2 : tot other ≤ 2000) (l1 : one.length ≤ 2000) (l2 : other.length ≤ 2000) :
  ∃ c, run F w (n + 3) i [.val (chV one), .val (chV other)] = some (chV c, []) ∧ Tn one other c t := by
 have f1 : fitS (aA (ats (form one))) t = true := by rw [← asks_ats, asks_form, ← fitG_S]; exact h1
 have f2 : fitS (aA (ats (form other))) (dA (ats (form one)) t) = true := by rw [← asks_ats, asks_form, ← done_ats, done_form, ← fitG_S]; exact h2
 obtain ⟨r, hr⟩ := Th.all _ _ _ t (Nat.le_refl _) f1 f2
 have e1 : aft one = bef other := by rw [← aft_done h1, fit_bef h2]
 have ne : cop .ne (.int (aft one)) (.int (bef other)) = some false := by rw [l_nii, e1]; simp
 have c1 := fun fr => call1 (fr := fr) (run_after (F := F) (w := w) (n := n) hs ha one (by omega) (by omega))
 have c2 := fun fr => call1 (fr := fr) (run_before (F := F) (w := w) (n := n) hs hb other (by omega) (by omega))
 have c3 := fun fr => call1 (fr := fr) (run_form (F := F) (w := w) (n := n) hst hf one (by omega) (by omega))
 have c4 := fun fr => call1 (fr := fr) (run_form (F := F) (w := w) (n := n) hst hf other (by omega) (by omega))
 have t1 := tot_form one
 have t2 := tot_form other
 have g1 := pos_len (isF_pos (isF_form one))
 have g2 := pos_len (isF_pos (isF_form other))
 have m1 : mkL ((form one).map Pt.v).reverse = some (.lst ((form one).map Pt.v).reverse) := mkL_le (le_big (by simp; omega))
 have m2 : mkL ((form other).map Pt.v).reverse = some (.lst ((form other).map Pt.v).reverse) := mkL_le (le_big (by simp; omega))
 have key : Wp (exs (run F w (n + 2)) w (F_then i_after i_before i_form i_size i_met i_taken).body (fr0 (F_then i_after i_before i_form i_size i_met i_taken) [.val (chV one), .val (chV other)])) fun g fr => ∃ ps, ats ps = r ∧ g = .ret (chV (form ps)) ∧ outs 2 fr = [] := by
  refine w_cons (w_iff (by (repeat (first | array_get_dec | exact c1 _ | exact c2 _))) (fun h => absurd h (by decide)) fun _ => w_nil ?_)
  refine w_cons (w_setN (l := ((form one).map Pt.v).reverse) (x_lof (xi_rev (x_cl (xa_v rfl (x_v rfl) xa_nil) (c3 _)) rfl) m1) rfl rfl ?_)
  refine w_cons (w_setN (l := ((form other).map Pt.v).reverse) (x_lof (xi_rev (x_cl (xa_v rfl (x_v rfl) xa_nil) (c4 _)) rfl) m2) rfl rfl ?_)
  refine w_cons (w_setN (l := []) (by repeat array_get_dec) rfl rfl ?_)
  refine w_cons (w_whl (wp_whl (ThI one other r (tot one + tot other)) (fun k fr hI => ?_) w (tot one + tot other) _ (by omega) ⟨form one, form other, [], r, none, hr, rfl, isF_pos (isF_form one), isF_pos (isF_form other), by simp, by omega, .none, rfl⟩))
  obtain ⟨A, B, C, r', a, hT, hC, hA, hB, hk, hkk, hva, rfl⟩ := hI
  by_cases hne : A ≠ [] ∨ B ≠ []
  ·have ht1 : evT (run F w (n + 2)) (.orr (.v 2) (.v 3)) (thFr one other A B C a) = .ok true (thFr one other A B C a) := by
    cases A with
    | cons p A => unfold thFr; rw [List.map_cons, List.reverse_cons]; exact xt_ort (xt_val rfl (x_v rfl) tru_l)
    | nil =>
     cases B with
     | nil => simp at hne
     | cons q B => unfold thFr; rw [List.map_cons, List.reverse_cons]; exact xt_orf (xt_val rfl (x_v rfl) rfl) (xt_val rfl (x_v rfl) tru_l)
   refine ⟨true, _, ht1, ?_⟩
   dsimp only
   rw [if_pos rfl]
   refine (then_turn hs hp ht hm (N := tot one + tot other) (by omega) A B C r' a hne hT hC hA hB (by omega) hva).mono fun g fr ⟨hg, hx⟩ => ?_
   subst hg hkk
   exact hx
  ·obtain ⟨rfl, rfl⟩ : A = [] ∧ B = [] := by simpa using hne
   refine ⟨false, _, xt_orf (xt_val rfl (x_v rfl) rfl) (xt_val rfl (x_v rfl) rfl), ?_⟩
   dsimp only
   rw [if_neg (by decide)]
   cases hT
   rw [List.append_nil] at hC
   subst hC
   have lC := hr.len
   rw [ats_len, ats_len, ats_len] at lC
   have mt : toT (.lst (C.map Pt.v)) = some (chV C) := by rw [toT_lst]; exact mkT_le (le_big (by simp; omega))
   have c5 := fun fr => call1 (fr := fr) (run_form (F := F) (w := w) (n := n) hst hf C (by omega) (by omega))
   have sh : shutF (thFr one other [] [] C a) = [some (.val (chV one)), some (.val (chV other)), some (.val (.lst [])), some (.val (.lst [])), some (.val (.lst (C.map Pt.v))), a] := by
    show _ :: _ :: _ :: _ :: _ :: [a.map Sl.shut] = _
    rw [shut_vo hva]; rfl
   refine w_cons (w_ret (v := chV (form C)) (fr1 := [some (.val (chV one)), some (.val (chV other)), some (.val (.lst [])), some (.val (.lst [])), some (.val (.lst (C.map Pt.v))), a]) ?_ ⟨C, rfl, rfl, rfl⟩)
   rw [sh]
   exact x_cl (xa_v rfl (x_ttp (x_v rfl) mt) xa_nil) (c5 _)
 obtain ⟨g, fr, e, ps, hps, rfl, ho⟩ := key
 refine ⟨form ps, ?_, tn_of h1 h2 (hps ▸ hr)⟩
 rw [run_eq hth rfl, e]
 simp only [fin_ret]
 rw [show outs (F_then i_after i_before i_form i_size i_met i_taken).np fr = [] from ho]
end
end
end Pv
namespace Pv
open Ev (D BOp COp TY BI ME T E Es Eo It S Ss Fn big deep b2i rep mulOk ixN atI sIx cut joinS sortS slots)
section
variable {F : List Fn} {w n i_parted i_size i_met i_taken i_form i_stretch i_after i_before i_nothing i_then i : Nat}
theorem run_made (hf : F[i]? = some F_made) (c : List Pt) (t : List Nat) (h1 : tot c ≤ 10000) (h2 : t.length ≤ 10000) (h : fitG c t = true) : run F w (n + 1) i [.val (chV c), .val (.str t)] = some (.str (doneG c t), []) := by
 refine run_wp hf rfl ?_
 refine w_cons (w_set (by repeat array_get_dec) rfl rfl ?_)
 refine w_cons (w_set (by repeat array_get_dec) rfl rfl ?_)
 refine w_cons (w_for (vs := c.map Pt.v) (xi_seq (xi_srcv rfl) rfl) ?_)
 have dl := done_len c t
 refine wp_forM (e := Pt.v) (fun p l fr => p ++ l = c ∧ bef p ≤ t.length ∧ fitG l (t.drop (bef p)) = true ∧ ∃ f a b, f ++ doneG l (t.drop (bef p)) = doneG c t ∧ vo a ∧ vo b ∧ fr = [some (.val (chV c)), some (.val (.str t)), some (.val (.int (bef p))), some (.val (.str f)), a, b]) (fun p x l fr ⟨hpl, hbp, hfit, f, a, b, hd, ha, hb, hfr⟩ => ?_) (fun p fr ⟨hpl, hbp, hfit, f, a, b, hd, ha, hb, hfr⟩ => ?_) c [] _ ⟨rfl, by simp [bef, tot], by simpa [bef, tot] using h, [], none, none, by simp [bef, tot], .none, .none, rfl⟩
 ·subst hfr
  have hpl' : (p ++ [x]) ++ l = c := by simpa using hpl
  have lf := congrArg List.length hd
  rw [List.length_append] at lf
  cases x with
  | put s =>
   have e2 : bef (p ++ [.put s]) = bef p := by rw [bef_app, bef_p]; simp [bef, tot]
   have ad := bop_adds (a := f) (b := s) (by simp [doneG] at lf; omega)
   refine w_turn (bind2 rfl ha rfl hb) (w_cons (w_iff (by repeat array_get_dec) (fun _ => ?_) fun h => absurd h (by decide)))
   refine w_cons (w_set (by repeat array_get_dec) rfl rfl (w_nil (w_nil ?_)))
   rw [fl_nx, e2]
   exact ⟨hpl', hbp, hfit, f ++ s, _, _, by simpa [doneG] using hd, .val, .val, rfl⟩
  | drop s =>
   simp only [fitG, Bool.and_eq_true] at hfit
   have e2 : bef (p ++ [.drop s]) = bef p + s.length := by rw [bef_app, bef_d]; simp [bef, tot]
   have e3 : ((bef (p ++ [.drop s]) : Nat) : Int) = (bef p : Int) + (s.length : Nat) := by rw [e2]; simp
   have hs := hfit.1
   rw [pre_take] at hs
   have hs := of_decide_eq_true hs
   have hl : s.length ≤ (t.drop (bef p)).length := by have := congrArg List.length hs; simp at this ⊢; omega
   have hl2 : bef p + s.length ≤ t.length := by simp at hl; omega
   have ln : bfn .len [.str s] = some (.int (s.length : Nat)) := len_str (by omega)
   have cu : sld (.str t) (some (bef p : Int)) (some ((bef p : Int) + (s.length : Nat))) = some (.str s) := by rw [sld_str, cut_nn, hs]
   refine w_turn (bind2 rfl ha rfl hb) (w_cons (w_iff (by repeat array_get_dec) (fun h => absurd h (by decide)) fun _ => ?_))
   refine w_cons (w_iff (by repeat array_get_dec) (fun _ => ?_) fun h => absurd h (by decide))
   refine w_cons (w_iff (by repeat array_get_dec) (fun h => ?_) fun _ => w_nil ?_)
   ·simp at h
   ·refine w_cons (w_set (by repeat array_get_dec) rfl rfl (w_nil (w_nil (w_nil ?_))))
    rw [fl_nx]
    refine ⟨hpl', by omega, ?_, f, _, _, ?_, .val, .val, by rw [e3]; rfl⟩
    ·rw [e2, ← List.drop_drop]; exact hfit.2
    ·rw [e2, ← List.drop_drop]; simpa [doneG] using hd
  | keep k =>
   simp only [fitG, Bool.and_eq_true, decide_eq_true_eq] at hfit
   have e2 : bef (p ++ [.keep k]) = bef p + k := by rw [bef_app, bef_k]; simp [bef, tot]
   have e3 : ((bef (p ++ [.keep k]) : Nat) : Int) = (bef p : Int) + (k : Nat) := by rw [e2]; simp
   have hl2 : bef p + k ≤ t.length := by have := hfit.1; simp at this; omega
   have cu : sld (.str t) (some (bef p : Int)) (some ((bef p : Int) + (k : Nat))) = some (.str ((t.drop (bef p)).take k)) := by rw [sld_str, cut_nn]
   have ad := bop_adds (a := f) (b := (t.drop (bef p)).take k) (by simp [doneG] at lf ⊢; omega)
   refine w_turn (bind2 rfl ha rfl hb) (w_cons (w_iff (by repeat array_get_dec) (fun h => absurd h (by decide)) fun _ => ?_))
   refine w_cons (w_iff (by repeat array_get_dec) (fun h => absurd h (by decide)) fun _ => ?_)
   refine w_cons (w_set (by repeat array_get_dec) rfl rfl ?_)
   refine w_cons (w_set (by repeat array_get_dec) rfl rfl (w_nil (w_nil (w_nil ?_))))
   rw [fl_nx]
   refine ⟨hpl', by omega, ?_, f ++ (t.drop (bef p)).take k, _, _, ?_, .val, .val, by rw [e3]; rfl⟩
   ·rw [e2, ← List.drop_drop]; exact hfit.2
   ·rw [e2, ← List.drop_drop]; simpa [doneG] using hd
 ·subst hfr
  simp at hpl
  subst hpl
  have hd' : f = doneG p t := by simpa [doneG] using hd
  subst hd'
  have e0 := fit_bef h
  have ln : bfn .len [.str t] = some (.int (t.length : Nat)) := len_str (by omega)
  have eq : cop .eq (.int (bef p)) (.int (t.length : Nat)) = some true := by rw [l_ii, e0]; simp
  have sh : shutF [some (.val (chV p)), some (.val (.str t)), some (.val (.int (bef p))), some (.val (.str (doneG p t))), a, b] = [some (.val (chV p)), some (.val (.str t)), some (.val (.int (bef p))), some (.val (.str (doneG p t))), a, b] := by
   show _ :: _ :: _ :: _ :: a.map Sl.shut :: [b.map Sl.shut] = _
   rw [shut_vo ha, shut_vo hb]; rfl
  refine w_cons (w_ret (v := .str (doneG p t)) (fr1 := [some (.val (chV p)), some (.val (.str t)), some (.val (.int (bef p))), some (.val (.str (doneG p t))), a, b]) ?_ ⟨rfl, rfl⟩)
  rw [sh]
  exact x_ife (b := true) (xt_val rfl (by repeat array_get_dec) rfl) (fun _ => x_v rfl) fun h => absurd h (by decide)
noncomputable def Ch : List Nat → List (List Pt) → Prop
 | _, [] => True
 | t, c :: rs => fitG c t = true ∧ Ch (doneG c t) rs
noncomputable def txs (t : List Nat) (rs : List (List Pt)) : List Nat := rs.foldl (fun s c => doneG c s) t
noncomputable def tls (T : List Tq) (rs : List (List Pt)) : List Tq := rs.foldl (fun T c => (told 0 c).map (sub T)) T
noncomputable def tots (rs : List (List Pt)) : Nat := (rs.map tot).sum
structure An (c : List Pt) (t : List Nat) (rs : List (List Pt)) : Prop where
 frm : form c = c
 fit : fitG c t = true
 dn : doneG c t = txs t rs
 tld : told 0 c = tls (told 0 [.keep t.length]) rs
 tt : tot c ≤ t.length + tots rs
 ln : c.length ≤ tot c
theorem an_nil (t : List Nat) : An (form [.keep t.length]) t [] := by
 refine ⟨form_form _, by rw [fit_form]; simp [fitG], by rw [done_form]; simp [doneG, txs], by rw [told_form]; rfl, by rw [tot_form]; simp [tot, Pt.n, tots], pos_len (isF_pos (isF_form _))⟩
section
variable (hs : F[i_size]? = some F_size) (hp : F[i_parted]? = some F_parted) (ht : F[i_taken]? = some (F_taken i_parted i_size)) (hm : F[i_met]? = some F_met)
 (hst : F[i_stretch]? = some F_stretch) (hf : F[i_form]? = some (F_form i_stretch)) (hb : F[i_before]? = some (F_before i_size)) (ha : F[i_after]? = some (F_after i_size)) (hth : F[i_then]? = some (F_then i_after i_before i_form i_size i_met i_taken)) (hno : F[i_nothing]? = some (F_nothing i_form)) (hw : 5000 < w)
include hs hp ht hm hst hf hb ha hth hno hw
theorem run_all_then (hat : F[i]? = some (F_all_then i_nothing i_then)) (t : List Nat) (rs : List (List Pt)) (hch : Ch t rs) (hB : t.length + tots rs ≤ 2000) (hL : ∀ c ∈ rs, c.length ≤ 2000) :
  ∃ c, run F w (n + 4) i [.val (.int t.length), .val (.lst (rs.map chV))] = some (chV c, []) ∧ An c t rs := by
 have c1 := fun fr => call1 (fr := fr) (run_nothing (F := F) (w := w) (n := n) hst hf hno t.length (by omega))
 have key : Wp (exs (run F w (n + 3)) w (F_all_then i_nothing i_then).body (fr0 (F_all_then i_nothing i_then) [.val (.int t.length), .val (.lst (rs.map chV))])) fun g fr => ∃ c, An c t rs ∧ g = .ret (chV c) ∧ outs 2 fr = [] := by
  refine w_cons (w_set (by (repeat (first | array_get_dec | exact c1 _))) rfl rfl ?_)
  refine w_cons (w_for (vs := rs.map chV) (xi_seq (xi_srcv rfl) rfl) ?_)
  refine wp_forM (e := chV) (fun p l fr => p ++ l = rs ∧ Ch (txs t p) l ∧ ∃ c a, An c t p ∧ vo a ∧ fr = [some (.val (.int t.length)), some (.val (.lst (rs.map chV))), some (.val (chV c)), a]) (fun p x l fr ⟨hpl, hc, c, a, hA, hva, hfr⟩ => ?_) (fun p fr ⟨hpl, hc, c, a, hA, hva, hfr⟩ => ?_) rs [] _ ⟨rfl, hch, _, none, an_nil t, .none, rfl⟩
  ·subst hfr
   have hpl' : (p ++ [x]) ++ l = rs := by simpa using hpl
   have hx : x ∈ rs := by rw [← hpl]; simp
   have hT : tots rs = tots p + tot x + tots l := by rw [← hpl]; simp [tots]; omega
   have a1 := hA.tt
   have a2 := hA.ln
   obtain ⟨c', e', hT'⟩ := run_then (F := F) (w := w) (n := n) hs hp ht hm hst hf hb ha hth hw c x t hA.fit (by rw [hA.dn]; exact hc.1) (by omega) (by omega) (by omega) (hL x hx)
   have c2 := fun fr => call2 (fr := fr) e'
   refine w_turn (bind1 rfl hva) (w_cons (w_set (by (repeat (first | array_get_dec | exact c2 _))) rfl rfl (w_nil ?_)))
   rw [fl_nx]
   refine ⟨hpl', ?_, c', _, ⟨hT'.frm, hT'.fit, ?_, ?_, ?_, hT'.ln⟩, .val, rfl⟩
   ·have := hc.2; simpa [txs] using this
   ·rw [hT'.dn, hA.dn]; simp [txs]
   ·rw [hT'.tld, hA.tld]; simp [tls]
   ·have := hT'.tt; simp [tots] at a1 ⊢; omega
  ·subst hfr
   simp at hpl
   subst hpl
   have sh : shutF [some (.val (.int t.length)), some (.val (.lst (p.map chV))), some (.val (chV c)), a] = [some (.val (.int t.length)), some (.val (.lst (p.map chV))), some (.val (chV c)), a] := by
    show _ :: _ :: _ :: [a.map Sl.shut] = _
    rw [shut_vo hva]; rfl
   refine w_cons (w_ret (v := chV c) (fr1 := [some (.val (.int t.length)), some (.val (.lst (p.map chV))), some (.val (chV c)), a]) ?_ ⟨c, hA, rfl, rfl⟩)
   rw [sh]; exact x_v rfl
 obtain ⟨g, fr, e, c, hA, rfl, ho⟩ := key
 refine ⟨c, ?_, hA⟩
 rw [run_eq hat rfl, e]
 simp only [fin_ret]
 rw [show outs (F_all_then i_nothing i_then).np fr = [] from ho]
end
end
end Pv
set_option maxRecDepth 100000
namespace Lw
noncomputable def q0_0 : Ev.S := .iff (.cmp .eq (.ix (.v 0) (.c (.int 0))) (.c (.str [107, 101, 101, 112]))) (.cons (.ret (.ix (.v 0) (.c (.int 1)))) .nil) .nil
noncomputable def q0_1 : Ev.S := .ret (.bi .len (.cons (.ix (.v 0) (.c (.int 1))) .nil))
noncomputable def f0 : Ev.Fn := ⟨1, 1, (.cons q0_0 (.cons q0_1 .nil))⟩
noncomputable def q1_0 : Ev.S := .ret (.bi .sum (.cons (.comp (.cl 0 (.cons (.v 1) .nil)) (.one 1) (.seq (.v 0)) (.yes (.cmp .ne (.ix (.v 1) (.c (.int 0))) (.c (.str [112, 117, 116]))))) .nil))
noncomputable def f1 : Ev.Fn := ⟨1, 2, (.cons q1_0 .nil)⟩
noncomputable def q2_0 : Ev.S := .ret (.bi .sum (.cons (.comp (.cl 0 (.cons (.v 1) .nil)) (.one 1) (.seq (.v 0)) (.yes (.cmp .ne (.ix (.v 1) (.c (.int 0))) (.c (.str [100, 114, 111, 112]))))) .nil))
noncomputable def f2 : Ev.Fn := ⟨1, 2, (.cons q2_0 .nil)⟩
noncomputable def q3_0 : Ev.S := .ret (.bi .sum (.cons (.comp (.cl 0 (.cons (.v 1) .nil)) (.one 1) (.seq (.v 0)) (.yes (.cmp .ne (.ix (.v 1) (.c (.int 0))) (.c (.str [107, 101, 101, 112]))))) .nil))
noncomputable def f3 : Ev.Fn := ⟨1, 2, (.cons q3_0 .nil)⟩
noncomputable def q4_0 : Ev.S := .set 1 (.lst .nil)
noncomputable def q4_1 : Ev.S := .set 2 (.c (.int 0))
noncomputable def q4_2 : Ev.S := .set 3 (.c (.str []))
noncomputable def q4_3 : Ev.S := .set 4 (.c (.str []))
noncomputable def w4_0 : Ev.Ss := (.cons (.iff (.cmp .eq (.v 5) (.c (.str [100, 114, 111, 112]))) (.cons (.set 3 (.bin .add (.v 3) (.v 6))) .nil) (.cons (.iff (.cmp .eq (.v 5) (.c (.str [112, 117, 116]))) (.cons (.set 4 (.bin .add (.v 4) (.v 6))) .nil) (.cons (.iff (.cmp .gt (.v 6) (.c (.int 0))) (.cons (.iff (.orr (.cmp .ne (.v 3) (.c (.str []))) (.cmp .ne (.v 4) (.c (.str [])))) (.cons (.exp (.me .extend (.v 1) (.cons (.cl 5 (.cons (.v 2) (.cons (.v 3) (.cons (.v 4) .nil)))) .nil))) (.cons (.set 2 (.c (.int 0))) (.cons (.set 3 (.c (.str []))) (.cons (.set 4 (.c (.str []))) .nil)))) .nil) (.cons (.set 2 (.bin .add (.v 2) (.v 6))) .nil)) .nil) .nil)) .nil)) .nil)
noncomputable def q4_4 : Ev.S := .for (.many [5, 6]) (.seq (.v 0)) w4_0
noncomputable def q4_5 : Ev.S := .exp (.me .extend (.v 1) (.cons (.cl 5 (.cons (.v 2) (.cons (.v 3) (.cons (.v 4) .nil)))) .nil))
noncomputable def q4_6 : Ev.S := .ret (.ttp (.v 1))
noncomputable def f4 : Ev.Fn := ⟨1, 7, (.cons q4_0 (.cons q4_1 (.cons q4_2 (.cons q4_3 (.cons q4_4 (.cons q4_5 (.cons q4_6 .nil)))))))⟩
noncomputable def q5_0 : Ev.S := .set 3 (.lst .nil)
noncomputable def q5_1 : Ev.S := .iff (.cmp .gt (.v 0) (.c (.int 0))) (.cons (.exp (.me .append (.v 3) (.cons (.tup (.cons (.c (.str [107, 101, 101, 112])) (.cons (.v 0) .nil))) .nil))) .nil) .nil
noncomputable def q5_2 : Ev.S := .iff (.cmp .ne (.v 1) (.c (.str []))) (.cons (.exp (.me .append (.v 3) (.cons (.tup (.cons (.c (.str [100, 114, 111, 112])) (.cons (.v 1) .nil))) .nil))) .nil) .nil
noncomputable def q5_3 : Ev.S := .iff (.cmp .ne (.v 2) (.c (.str []))) (.cons (.exp (.me .append (.v 3) (.cons (.tup (.cons (.c (.str [112, 117, 116])) (.cons (.v 2) .nil))) .nil))) .nil) .nil
noncomputable def q5_4 : Ev.S := .ret (.v 3)
noncomputable def f5 : Ev.Fn := ⟨3, 4, (.cons q5_0 (.cons q5_1 (.cons q5_2 (.cons q5_3 (.cons q5_4 .nil)))))⟩
noncomputable def q6_0 : Ev.S := .set 2 (.c (.int 0))
noncomputable def w6_0 : Ev.Ss := (.cons (.iff (.an (.cmp .eq (.ix (.v 3) (.c (.int 0))) (.c (.str [100, 114, 111, 112]))) (.cmp .ne (.sl (.v 1) (.yes (.v 2)) (.yes (.bin .add (.v 2) (.cl 0 (.cons (.v 3) .nil))))) (.ix (.v 3) (.c (.int 1))))) (.cons (.ret (.c (.bl false))) .nil) .nil) (.cons (.iff (.cmp .ne (.ix (.v 3) (.c (.int 0))) (.c (.str [112, 117, 116]))) (.cons (.set 2 (.bin .add (.v 2) (.cl 0 (.cons (.v 3) .nil)))) .nil) .nil) .nil))
noncomputable def q6_1 : Ev.S := .for (.one 3) (.seq (.v 0)) w6_0
noncomputable def q6_2 : Ev.S := .ret (.cmp .eq (.v 2) (.bi .len (.cons (.v 1) .nil)))
noncomputable def f6 : Ev.Fn := ⟨2, 4, (.cons q6_0 (.cons q6_1 (.cons q6_2 .nil)))⟩
noncomputable def q7_0 : Ev.S := .iff (.nt (.cl 6 (.cons (.v 0) (.cons (.v 1) .nil)))) (.cons (.nev) .nil) .nil
noncomputable def q7_1 : Ev.S := .set 2 (.lst .nil)
noncomputable def q7_2 : Ev.S := .set 3 (.c (.int 0))
noncomputable def w7_0 : Ev.Ss := (.cons (.iff (.cmp .eq (.v 4) (.c (.str [112, 117, 116]))) (.cons (.exp (.me .append (.v 2) (.cons (.v 5) .nil))) .nil) (.cons (.iff (.cmp .eq (.v 4) (.c (.str [100, 114, 111, 112]))) (.cons (.set 3 (.bin .add (.v 3) (.bi .len (.cons (.v 5) .nil)))) .nil) (.cons (.exp (.me .append (.v 2) (.cons (.sl (.v 1) (.yes (.v 3)) (.yes (.bin .add (.v 3) (.v 5)))) .nil))) (.cons (.set 3 (.bin .add (.v 3) (.v 5))) .nil))) .nil)) .nil)
noncomputable def q7_3 : Ev.S := .for (.many [4, 5]) (.seq (.v 0)) w7_0
noncomputable def q7_4 : Ev.S := .ret (.me .join (.c (.str [])) (.cons (.v 2) .nil))
noncomputable def f7 : Ev.Fn := ⟨2, 6, (.cons q7_0 (.cons q7_1 (.cons q7_2 (.cons q7_3 (.cons q7_4 .nil)))))⟩
noncomputable def q8_0 : Ev.S := .ret (.cl 4 (.cons (.ttp (.comp (.tup (.cons (.dget [(.str [107, 101, 101, 112], .str [107, 101, 101, 112]), (.str [112, 117, 116], .str [100, 114, 111, 112]), (.str [100, 114, 111, 112], .str [112, 117, 116])] (.v 1)) (.cons (.v 2) .nil))) (.many [1, 2]) (.seq (.v 0)) .no)) .nil))
noncomputable def f8 : Ev.Fn := ⟨1, 3, (.cons q8_0 .nil)⟩
noncomputable def q9_0 : Ev.S := .ret (.cl 4 (.cons (.tup (.cons (.tup (.cons (.c (.str [107, 101, 101, 112])) (.cons (.v 0) .nil))) .nil)) .nil))
noncomputable def f9 : Ev.Fn := ⟨1, 1, (.cons q9_0 .nil)⟩
noncomputable def q10_0 : Ev.S := .iff (.cmp .ne (.cl 2 (.cons (.v 0) .nil)) (.cl 1 (.cons (.v 1) .nil))) (.cons (.nev) .nil) .nil
noncomputable def q10_1 : Ev.S := .set 2 (.lof (.rev (.cl 4 (.cons (.v 0) .nil))))
noncomputable def q10_2 : Ev.S := .set 3 (.lof (.rev (.cl 4 (.cons (.v 1) .nil))))
noncomputable def q10_3 : Ev.S := .set 4 (.lst .nil)
noncomputable def w10_0 : Ev.Ss := (.cons (.iff (.an (.v 2) (.cmp .eq (.ix (.ix (.v 2) (.neg (.c (.int 1)))) (.c (.int 0))) (.c (.str [100, 114, 111, 112])))) (.cons (.exp (.me .append (.v 4) (.cons (.me .pop (.v 2) .nil) .nil))) .nil) (.cons (.iff (.an (.v 3) (.cmp .eq (.ix (.ix (.v 3) (.neg (.c (.int 1)))) (.c (.int 0))) (.c (.str [112, 117, 116])))) (.cons (.exp (.me .append (.v 4) (.cons (.me .pop (.v 3) .nil) .nil))) .nil) (.cons (.set 5 (.bi .min (.cons (.cl 0 (.cons (.ix (.v 2) (.neg (.c (.int 1)))) .nil)) (.cons (.cl 0 (.cons (.ix (.v 3) (.neg (.c (.int 1)))) .nil)) .nil)))) (.cons (.exp (.me .extend (.v 4) (.cons (.cl 12 (.cons (.cl 13 (.cons (.v 2) (.cons (.v 5) .nil))) (.cons (.cl 13 (.cons (.v 3) (.cons (.v 5) .nil))) .nil))) .nil))) .nil))) .nil)) .nil)
noncomputable def q10_4 : Ev.S := .whl (.orr (.v 2) (.v 3)) w10_0
noncomputable def q10_5 : Ev.S := .ret (.cl 4 (.cons (.ttp (.v 4)) .nil))
noncomputable def f10 : Ev.Fn := ⟨2, 6, (.cons q10_0 (.cons q10_1 (.cons q10_2 (.cons q10_3 (.cons q10_4 (.cons q10_5 .nil))))))⟩
noncomputable def q11_0 : Ev.S := .set 2 (.cl 9 (.cons (.v 0) .nil))
noncomputable def w11_0 : Ev.Ss := (.cons (.set 2 (.cl 10 (.cons (.v 2) (.cons (.v 3) .nil)))) .nil)
noncomputable def q11_1 : Ev.S := .for (.one 3) (.seq (.v 1)) w11_0
noncomputable def q11_2 : Ev.S := .ret (.v 2)
noncomputable def f11 : Ev.Fn := ⟨2, 4, (.cons q11_0 (.cons q11_1 (.cons q11_2 .nil)))⟩
noncomputable def q12_0 : Ev.S := .iff (.cmp .eq (.ix (.v 1) (.c (.int 0))) (.c (.str [107, 101, 101, 112]))) (.cons (.ret (.lst (.cons (.v 0) .nil))) .nil) .nil
noncomputable def q12_1 : Ev.S := .iff (.cmp .eq (.ix (.v 0) (.c (.int 0))) (.c (.str [107, 101, 101, 112]))) (.cons (.ret (.lst (.cons (.v 1) .nil))) .nil) .nil
noncomputable def q12_2 : Ev.S := .iff (.cmp .ne (.ix (.v 0) (.c (.int 1))) (.ix (.v 1) (.c (.int 1)))) (.cons (.nev) .nil) .nil
noncomputable def q12_3 : Ev.S := .ret (.lst .nil)
noncomputable def f12 : Ev.Fn := ⟨2, 2, (.cons q12_0 (.cons q12_1 (.cons q12_2 (.cons q12_3 .nil))))⟩
noncomputable def q13_0 : Ev.S := .set 2 (.cl 14 (.cons (.me .pop (.v 0) .nil) (.cons (.v 1) .nil)))
noncomputable def q13_1 : Ev.S := .iff (.cmp .gt (.cl 0 (.cons (.ix (.v 2) (.c (.int 1))) .nil)) (.c (.int 0))) (.cons (.exp (.me .append (.v 0) (.cons (.ix (.v 2) (.c (.int 1))) .nil))) .nil) .nil
noncomputable def q13_2 : Ev.S := .ret (.ix (.v 2) (.c (.int 0)))
noncomputable def f13 : Ev.Fn := ⟨2, 3, (.cons q13_0 (.cons q13_1 (.cons q13_2 .nil)))⟩
noncomputable def q14_0 : Ev.S := .set 2 (.ix (.v 0) (.c (.int 0)))
noncomputable def q14_1 : Ev.S := .iff (.cmp .eq (.v 2) (.c (.str [107, 101, 101, 112]))) (.cons (.ret (.tup (.cons (.tup (.cons (.v 2) (.cons (.v 1) .nil))) (.cons (.tup (.cons (.v 2) (.cons (.bin .sub (.ix (.v 0) (.c (.int 1))) (.v 1)) .nil))) .nil)))) .nil) .nil
noncomputable def q14_2 : Ev.S := .ret (.tup (.cons (.tup (.cons (.v 2) (.cons (.sl (.ix (.v 0) (.c (.int 1))) .no (.yes (.v 1))) .nil))) (.cons (.tup (.cons (.v 2) (.cons (.sl (.ix (.v 0) (.c (.int 1))) (.yes (.v 1)) .no) .nil))) .nil)))
noncomputable def f14 : Ev.Fn := ⟨2, 3, (.cons q14_0 (.cons q14_1 (.cons q14_2 .nil)))⟩
noncomputable def q15_0 : Ev.S := .iff (.cmp .eq (.v 0) (.lst .nil)) (.cons (.ret (.bin .mul (.c (.int 7)) (.v 1))) .nil) .nil
noncomputable def q15_1 : Ev.S := .ret (.bin .add (.ix (.v 0) (.bin .mod (.v 1) (.bi .len (.cons (.v 0) .nil)))) (.bin .mul (.c (.int 6553)) (.bin .fdiv (.v 1) (.bi .len (.cons (.v 0) .nil)))))
noncomputable def f15 : Ev.Fn := ⟨2, 2, (.cons q15_0 (.cons q15_1 .nil))⟩
noncomputable def q16_0 : Ev.S := .set 3 (.bin .mod (.bin .add (.bin .mul (.bin .mod (.cl 15 (.cons (.v 0) (.cons (.v 1) .nil))) (.c (.int 2147483563))) (.c (.int 69069))) (.bin .mul (.c (.int 104723)) (.bin .add (.v 1) (.c (.int 1))))) (.c (.int 2147483563)))
noncomputable def q16_1 : Ev.S := .set 3 (.bin .mod (.bin .add (.bin .mul (.v 3) (.v 3)) (.bin .fdiv (.v 3) (.c (.int 3)))) (.c (.int 2147483399)))
noncomputable def q16_2 : Ev.S := .ret (.bin .mod (.bin .fdiv (.bin .mod (.bin .add (.bin .mul (.v 3) (.v 3)) (.bin .fdiv (.v 3) (.c (.int 7)))) (.c (.int 2147483647))) (.c (.int 11))) (.v 2))
noncomputable def f16 : Ev.Fn := ⟨3, 4, (.cons q16_0 (.cons q16_1 (.cons q16_2 .nil)))⟩
noncomputable def q17_0 : Ev.S := .ret (.me .join (.c (.str [])) (.cons (.comp (.ix (.c (.str [97, 98, 99, 32])) (.cl 16 (.cons (.v 0) (.cons (.bin .add (.bin .add (.v 1) (.c (.int 1))) (.v 3)) (.cons (.c (.int 4)) .nil))))) (.one 3) (.rng (.cons (.cl 16 (.cons (.v 0) (.cons (.v 1) (.cons (.bin .add (.v 2) (.c (.int 1))) .nil)))) .nil)) .no) .nil))
noncomputable def f17 : Ev.Fn := ⟨3, 4, (.cons q17_0 .nil)⟩
noncomputable def q18_0 : Ev.S := .set 3 (.tup .nil)
noncomputable def w18_0 : Ev.Ss := (.cons (.iff (.cmp .eq (.cl 16 (.cons (.v 0) (.cons (.bin .add (.v 1) (.bin .mul (.c (.int 4)) (.v 4))) (.cons (.c (.int 4)) .nil)))) (.c (.int 0))) (.cons (.set 5 (.bin .mul (.ix (.c (.str [97, 98, 122])) (.cl 16 (.cons (.v 0) (.cons (.bin .add (.bin .add (.v 1) (.bin .mul (.c (.int 4)) (.v 4))) (.c (.int 1))) (.cons (.c (.int 3)) .nil))))) (.bin .add (.c (.int 1)) (.cl 16 (.cons (.v 0) (.cons (.bin .add (.bin .add (.v 1) (.bin .mul (.c (.int 4)) (.v 4))) (.c (.int 2))) (.cons (.c (.int 2)) .nil))))))) (.cons (.set 3 (.bin .add (.v 3) (.tup (.cons (.tup (.cons (.c (.str [112, 117, 116])) (.cons (.v 5) .nil))) .nil)))) .nil)) .nil) (.cons (.iff (.cmp .lt (.v 4) (.bi .len (.cons (.v 2) .nil))) (.cons (.set 6 (.cmp .gt (.cl 16 (.cons (.v 0) (.cons (.bin .add (.bin .add (.v 1) (.bin .mul (.c (.int 4)) (.v 4))) (.c (.int 3))) (.cons (.c (.int 3)) .nil)))) (.c (.int 0)))) (.cons (.set 3 (.bin .add (.v 3) (.tup (.cons (.ife (.v 6) (.tup (.cons (.c (.str [107, 101, 101, 112])) (.cons (.c (.int 1)) .nil))) (.tup (.cons (.c (.str [100, 114, 111, 112])) (.cons (.ix (.v 2) (.v 4)) .nil)))) .nil)))) .nil)) .nil) .nil))
noncomputable def q18_1 : Ev.S := .for (.one 4) (.rng (.cons (.bin .add (.bi .len (.cons (.v 2) .nil)) (.c (.int 1))) .nil)) w18_0
noncomputable def q18_2 : Ev.S := .ret (.v 3)
noncomputable def f18 : Ev.Fn := ⟨3, 7, (.cons q18_0 (.cons q18_1 (.cons q18_2 .nil)))⟩
noncomputable def q19_0 : Ev.S := .set 1 (.lst .nil)
noncomputable def q19_1 : Ev.S := .set 2 (.lst .nil)
noncomputable def w19_0 : Ev.Ss := (.cons (.iff (.cmp .eq (.v 3) (.c (.str [107, 101, 101, 112]))) (.cons (.set 2 (.bin .add (.v 2) (.lof (.rng (.cons (.bi .len (.cons (.v 1) .nil)) (.cons (.bin .add (.bi .len (.cons (.v 1) .nil)) (.v 4)) .nil)))))) (.cons (.set 1 (.bin .add (.v 1) (.bin .mul (.lst (.cons (.c (.str [])) .nil)) (.v 4)))) .nil)) (.cons (.iff (.cmp .eq (.v 3) (.c (.str [100, 114, 111, 112]))) (.cons (.set 1 (.bin .add (.v 1) (.lof (.seq (.v 4))))) .nil) (.cons (.set 2 (.bin .add (.v 2) (.lof (.seq (.v 4))))) .nil)) .nil)) .nil)
noncomputable def q19_2 : Ev.S := .for (.many [3, 4]) (.seq (.v 0)) w19_0
noncomputable def q19_3 : Ev.S := .ret (.tup (.cons (.v 1) (.cons (.v 2) .nil)))
noncomputable def f19 : Ev.Fn := ⟨1, 5, (.cons q19_0 (.cons q19_1 (.cons q19_2 (.cons q19_3 .nil))))⟩
noncomputable def q20_0 : Ev.S := .set 2 (.c (.int 0))
noncomputable def q20_1 : Ev.S := .set 3 (.c (.str []))
noncomputable def w20_0 : Ev.Ss := (.cons (.iff (.cmp .eq (.v 4) (.c (.str [112, 117, 116]))) (.cons (.set 3 (.bin .add (.v 3) (.v 5))) .nil) (.cons (.iff (.cmp .eq (.v 4) (.c (.str [100, 114, 111, 112]))) (.cons (.iff (.cmp .ne (.sl (.v 1) (.yes (.v 2)) (.yes (.bin .add (.v 2) (.bi .len (.cons (.v 5) .nil))))) (.v 5)) (.cons (.ret (.c (.non))) .nil) .nil) (.cons (.set 2 (.bin .add (.v 2) (.bi .len (.cons (.v 5) .nil)))) .nil)) (.cons (.set 3 (.bin .add (.v 3) (.sl (.v 1) (.yes (.v 2)) (.yes (.bin .add (.v 2) (.v 5)))))) (.cons (.set 2 (.bin .add (.v 2) (.v 5))) .nil))) .nil)) .nil)
noncomputable def q20_2 : Ev.S := .for (.many [4, 5]) (.seq (.v 0)) w20_0
noncomputable def q20_3 : Ev.S := .ret (.ife (.cmp .eq (.v 2) (.bi .len (.cons (.v 1) .nil))) (.v 3) (.c (.non)))
noncomputable def f20 : Ev.Fn := ⟨2, 6, (.cons q20_0 (.cons q20_1 (.cons q20_2 (.cons q20_3 .nil))))⟩
noncomputable def q21_0 : Ev.S := .set 1 (.cl 17 (.cons (.v 0) (.cons (.c (.int 0)) (.cons (.c (.int 5)) .nil))))
noncomputable def q21_1 : Ev.S := .set 2 (.cl 18 (.cons (.v 0) (.cons (.c (.int 10)) (.cons (.v 1) .nil))))
noncomputable def q21_2 : Ev.S := .set 3 (.cl 20 (.cons (.v 2) (.cons (.v 1) .nil)))
noncomputable def q21_3 : Ev.S := .set 4 (.cl 18 (.cons (.v 0) (.cons (.c (.int 50)) (.cons (.v 3) .nil))))
noncomputable def q21_4 : Ev.S := .set 5 (.cl 20 (.cons (.v 4) (.cons (.v 3) .nil)))
noncomputable def q21_5 : Ev.S := .set 6 (.cl 18 (.cons (.v 0) (.cons (.c (.int 150)) (.cons (.v 5) .nil))))
noncomputable def q21_6 : Ev.S := .set 7 (.cl 10 (.cons (.v 2) (.cons (.v 4) .nil)))
noncomputable def q21_7 : Ev.S := .iff (.orr (.cmp .ne (.cl 7 (.cons (.v 7) (.cons (.v 1) .nil))) (.v 5)) (.orr (.cmp .ne (.cl 1 (.cons (.v 7) .nil)) (.bi .len (.cons (.v 1) .nil))) (.cmp .ne (.cl 2 (.cons (.v 7) .nil)) (.bi .len (.cons (.v 5) .nil))))) (.cons (.ret (.c (.bl false))) .nil) .nil
noncomputable def q21_8 : Ev.S := .set 8 (.cl 10 (.cons (.v 7) (.cons (.v 6) .nil)))
noncomputable def q21_9 : Ev.S := .iff (.orr (.cmp .ne (.v 8) (.cl 10 (.cons (.v 2) (.cons (.cl 10 (.cons (.v 4) (.cons (.v 6) .nil))) .nil)))) (.cmp .ne (.v 8) (.cl 11 (.cons (.bi .len (.cons (.v 1) .nil)) (.cons (.lst (.cons (.v 2) (.cons (.v 4) (.cons (.v 6) .nil)))) .nil))))) (.cons (.ret (.c (.bl false))) .nil) .nil
noncomputable def q21_10 : Ev.S := .iff (.orr (.cmp .ne (.cl 7 (.cons (.v 8) (.cons (.v 1) .nil))) (.cl 20 (.cons (.v 6) (.cons (.v 5) .nil)))) (.cmp .gt (.cl 3 (.cons (.v 7) .nil)) (.bin .add (.cl 3 (.cons (.v 2) .nil)) (.cl 3 (.cons (.v 4) .nil))))) (.cons (.ret (.c (.bl false))) .nil) .nil
noncomputable def q21_11 : Ev.S := .iff (.orr (.cmp .ne (.cl 10 (.cons (.cl 9 (.cons (.bi .len (.cons (.v 1) .nil)) .nil)) (.cons (.v 2) .nil))) (.cl 4 (.cons (.v 2) .nil))) (.cmp .ne (.cl 10 (.cons (.v 2) (.cons (.cl 9 (.cons (.bi .len (.cons (.v 3) .nil)) .nil)) .nil))) (.cl 4 (.cons (.v 2) .nil)))) (.cons (.ret (.c (.bl false))) .nil) .nil
noncomputable def q21_12 : Ev.S := .iff (.orr (.cmp .ne (.cl 8 (.cons (.v 7) .nil)) (.cl 10 (.cons (.cl 8 (.cons (.v 4) .nil)) (.cons (.cl 8 (.cons (.v 2) .nil)) .nil)))) (.cmp .ne (.cl 8 (.cons (.v 8) .nil)) (.cl 10 (.cons (.cl 8 (.cons (.v 6) .nil)) (.cons (.cl 8 (.cons (.v 7) .nil)) .nil))))) (.cons (.ret (.c (.bl false))) .nil) .nil
noncomputable def q21_13 : Ev.S := .set 9 (.cl 10 (.cons (.v 2) (.cons (.cl 8 (.cons (.v 2) .nil)) .nil)))
noncomputable def q21_14 : Ev.S := .setT [10, 11] (.cl 19 (.cons (.v 2) .nil))
noncomputable def q21_15 : Ev.S := .iff (.cmp .ne (.cl 19 (.cons (.v 9) .nil)) (.tup (.cons (.v 10) (.cons (.comp (.ife (.cmp .ne (.v 13) (.c (.str []))) (.v 13) (.v 12)) (.many [12, 13]) (.enum (.v 10)) .no) .nil)))) (.cons (.ret (.c (.bl false))) .nil) .nil
noncomputable def q21_16 : Ev.S := .iff (.orr (.cmp .ne (.cl 7 (.cons (.v 9) (.cons (.v 1) .nil))) (.v 1)) (.cmp .ne (.cl 10 (.cons (.v 9) (.cons (.v 2) .nil))) (.cl 4 (.cons (.v 2) .nil)))) (.cons (.ret (.c (.bl false))) .nil) .nil
noncomputable def q21_17 : Ev.S := .ret (.cmp .eq (.cl 10 (.cons (.v 2) (.cons (.cl 10 (.cons (.cl 8 (.cons (.v 2) .nil)) (.cons (.v 2) .nil))) .nil))) (.cl 4 (.cons (.v 2) .nil)))
noncomputable def f21 : Ev.Fn := ⟨1, 14, (.cons q21_0 (.cons q21_1 (.cons q21_2 (.cons q21_3 (.cons q21_4 (.cons q21_5 (.cons q21_6 (.cons q21_7 (.cons q21_8 (.cons q21_9 (.cons q21_10 (.cons q21_11 (.cons q21_12 (.cons q21_13 (.cons q21_14 (.cons q21_15 (.cons q21_16 (.cons q21_17 .nil))))))))))))))))))⟩
noncomputable def prog : List Ev.Fn := [f0, f1, f2, f3, f4, f5, f6, f7, f8, f9, f10, f11, f12, f13, f14, f15, f16, f17, f18, f19, f20, f21]
end Lw
set_option maxRecDepth 100000
namespace Lw
open PySem PySem.Spec PyProof.Rows L2 Sm
open Ev (D O Hh Fr R Phi E Es Eo T S Ss Fl Src BOp COp TY BI ME)
noncomputable def top (i : Nat) : Stmt := PySem.Challenge.pw_pastways_k13_whole_then.main.body.getD i (.Pass ⟨0, 0, 0, 0⟩)
abbrev i0 (a : Nat → Addr) (d : Nat → FuncData) : FI := ⟨"size", a 0, d 0, ["part"]⟩
abbrev i1 (a : Nat → Addr) (d : Nat → FuncData) : FI := ⟨"before", a 1, d 1, ["change"]⟩
abbrev i2 (a : Nat → Addr) (d : Nat → FuncData) : FI := ⟨"after", a 2, d 2, ["change"]⟩
abbrev i3 (a : Nat → Addr) (d : Nat → FuncData) : FI := ⟨"cost", a 3, d 3, ["change"]⟩
abbrev i4 (a : Nat → Addr) (d : Nat → FuncData) : FI := ⟨"form", a 4, d 4, ["change"]⟩
abbrev i5 (a : Nat → Addr) (d : Nat → FuncData) : FI := ⟨"stretch", a 5, d 5, ["kept", "gone", "new"]⟩
abbrev i6 (a : Nat → Addr) (d : Nat → FuncData) : FI := ⟨"fits", a 6, d 6, ["change", "text"]⟩
abbrev i7 (a : Nat → Addr) (d : Nat → FuncData) : FI := ⟨"done", a 7, d 7, ["change", "text"]⟩
abbrev i8 (a : Nat → Addr) (d : Nat → FuncData) : FI := ⟨"undone", a 8, d 8, ["change"]⟩
abbrev i9 (a : Nat → Addr) (d : Nat → FuncData) : FI := ⟨"nothing", a 9, d 9, ["many"]⟩
abbrev i10 (a : Nat → Addr) (d : Nat → FuncData) : FI := ⟨"then", a 10, d 10, ["one", "other"]⟩
abbrev i11 (a : Nat → Addr) (d : Nat → FuncData) : FI := ⟨"all_then", a 11, d 11, ["many", "rows"]⟩
abbrev i12 (a : Nat → Addr) (d : Nat → FuncData) : FI := ⟨"met", a 12, d 12, ["left", "gone_through"]⟩
abbrev i13 (a : Nat → Addr) (d : Nat → FuncData) : FI := ⟨"taken", a 13, d 13, ["parts", "many"]⟩
abbrev i14 (a : Nat → Addr) (d : Nat → FuncData) : FI := ⟨"parted", a 14, d 14, ["part", "many"]⟩
abbrev i15 (a : Nat → Addr) (d : Nat → FuncData) : FI := ⟨"_law_cell", a 15, d 15, ["_law_script", "_law_k"]⟩
abbrev i16 (a : Nat → Addr) (d : Nat → FuncData) : FI := ⟨"_law_drawn", a 16, d 16, ["_law_script", "_law_k", "_law_many"]⟩
abbrev i17 (a : Nat → Addr) (d : Nat → FuncData) : FI := ⟨"_law_text", a 17, d 17, ["_law_script", "_law_at", "_law_most"]⟩
abbrev i18 (a : Nat → Addr) (d : Nat → FuncData) : FI := ⟨"_law_change", a 18, d 18, ["_law_script", "_law_at", "_law_text_here"]⟩
abbrev i19 (a : Nat → Addr) (d : Nat → FuncData) : FI := ⟨"_law_sense", a 19, d 19, ["_law_change_here"]⟩
abbrev i20 (a : Nat → Addr) (d : Nat → FuncData) : FI := ⟨"_law_made", a 20, d 20, ["_law_change_here", "_law_text_here"]⟩
abbrev i21 (a : Nat → Addr) (d : Nat → FuncData) : FI := ⟨"law", a 21, d 21, ["_law_script"]⟩
noncomputable def bls : List Str := ["enumerate", "len", "list", "min", "range", "reversed", "sum", "tuple"]
theorem m_enumerate : ("enumerate" : Str) ∈ bls := by decide +kernel
theorem m_len : ("len" : Str) ∈ bls := by decide +kernel
theorem m_list : ("list" : Str) ∈ bls := by decide +kernel
theorem m_min : ("min" : Str) ∈ bls := by decide +kernel
theorem m_range : ("range" : Str) ∈ bls := by decide +kernel
theorem m_reversed : ("reversed" : Str) ∈ bls := by decide +kernel
theorem m_sum : ("sum" : Str) ∈ bls := by decide +kernel
theorem m_tuple : ("tuple" : Str) ∈ bls := by decide +kernel
theorem g0 : (("size" : Str) == ("__debug__" : Str)) = false := by decide +kernel
theorem g1 : (("before" : Str) == ("__debug__" : Str)) = false := by decide +kernel
theorem g2 : (("after" : Str) == ("__debug__" : Str)) = false := by decide +kernel
theorem g3 : (("cost" : Str) == ("__debug__" : Str)) = false := by decide +kernel
theorem g4 : (("form" : Str) == ("__debug__" : Str)) = false := by decide +kernel
theorem g5 : (("stretch" : Str) == ("__debug__" : Str)) = false := by decide +kernel
theorem g6 : (("fits" : Str) == ("__debug__" : Str)) = false := by decide +kernel
theorem g7 : (("done" : Str) == ("__debug__" : Str)) = false := by decide +kernel
theorem g8 : (("undone" : Str) == ("__debug__" : Str)) = false := by decide +kernel
theorem g9 : (("nothing" : Str) == ("__debug__" : Str)) = false := by decide +kernel
theorem g10 : (("then" : Str) == ("__debug__" : Str)) = false := by decide +kernel
theorem g11 : (("all_then" : Str) == ("__debug__" : Str)) = false := by decide +kernel
theorem g12 : (("met" : Str) == ("__debug__" : Str)) = false := by decide +kernel
theorem g13 : (("taken" : Str) == ("__debug__" : Str)) = false := by decide +kernel
theorem g14 : (("parted" : Str) == ("__debug__" : Str)) = false := by decide +kernel
theorem g15 : (("_law_cell" : Str) == ("__debug__" : Str)) = false := by decide +kernel
theorem g16 : (("_law_drawn" : Str) == ("__debug__" : Str)) = false := by decide +kernel
theorem g17 : (("_law_text" : Str) == ("__debug__" : Str)) = false := by decide +kernel
theorem g18 : (("_law_change" : Str) == ("__debug__" : Str)) = false := by decide +kernel
theorem g19 : (("_law_sense" : Str) == ("__debug__" : Str)) = false := by decide +kernel
theorem g20 : (("_law_made" : Str) == ("__debug__" : Str)) = false := by decide +kernel
noncomputable def tb (a : Nat → Addr) (d : Nat → FuncData) : Tb := ⟨prog, 100000, [i0 a d, i1 a d, i2 a d, i3 a d, i4 a d, i5 a d, i6 a d, i7 a d, i8 a d, i9 a d, i10 a d, i11 a d, i12 a d, i13 a d, i14 a d, i15 a d, i16 a d, i17 a d, i18 a d, i19 a d, i20 a d, i21 a d], bls, [("__name__", .str [108, 97, 119, 95, 112, 97, 115, 116, 119, 97, 121, 115, 95, 107, 49, 51, 95, 119, 104, 111, 108, 101, 95, 116, 104, 101, 110])], [("TURNED", [(.str [107, 101, 101, 112], .str [107, 101, 101, 112]), (.str [112, 117, 116], .str [100, 114, 111, 112]), (.str [100, 114, 111, 112], .str [112, 117, 116])])]⟩
section
variable {a : Nat → Addr} {d : Nat → FuncData} {n : Nat}
abbrev n0 : List Str := ["part"]
theorem s0 : FnScope n0 ["part"] (defScope (top 1)) := ⟨rfl, rfl, rfl, by decide +kernel, rfl, by decide +kernel, by decide +kernel⟩
set_option maxHeartbeats 0 in
theorem b0 : JSs (tb a d) n (defScope (top 1)) n0 true (List.range n0.length) f0.body (defBody (top 1)) := by
 refine jss_cons ?_ ?_
 refine js_iff ?_ ?_ ?_
 refine jt_cmp (fun X g => oc_eq g) ?_ ?_ (nomark _)
 refine je_ix (fun X g => ox_ix) ?_ ?_
 refine je_v 0 0
 refine je_int
 refine je_str
 refine jss_cons ?_ ?_
 refine js_ret ?_
 refine je_ix (fun X g => ox_ix) ?_ ?_
 refine je_v 0 0
 refine je_int
 refine jss_nil
 refine jss_nil
 refine jss_cons ?_ ?_
 refine js_ret ?_
 refine je_bi (x := "len") (id := "len") (fun X g => cb_len) ?_ (hb := m_len) (hv := by decide +kernel)
 refine ja_cons ?_ ?_
 refine je_ix (fun X g => ox_ix) ?_ ?_
 refine je_v 0 0
 refine je_int
 refine ja_nil
 refine jss_nil
abbrev n1 : List Str := ["change"]
theorem s1 : FnScope n1 ["change"] (defScope (top 2)) := ⟨rfl, rfl, rfl, by decide +kernel, rfl, by decide +kernel, by decide +kernel⟩
set_option maxHeartbeats 0 in
theorem b1 : JSs (tb a d) n (defScope (top 2)) n1 true (List.range n1.length) f1.body (defBody (top 2)) := by
 refine jss_cons ?_ ?_
 refine js_ret ?_
 refine je_bi (x := "sum") (id := "sum") (fun X g => cb_sum g) ?_ (hb := m_sum) (hv := by decide +kernel)
 refine ja_cons ?_ ?_
 refine je_comp (N' := ["part"]) (m' := [1]) ?_ ?_ ?_ ?_ (namesOk.of (by decide +kernel)) (ScOk.of (by decide +kernel))
 refine ji_seq ?_
 refine je_v 0 0
 refine jg_one 0 1 (by decide +kernel) (by decide +kernel)
 refine jc_yes ?_
 refine jt_cmp (fun X g => oc_ne g) ?_ ?_ (nomark _)
 refine je_ix (fun X g => ox_ix) ?_ ?_
 refine je_v 0 1
 refine je_int
 refine je_str
 refine je_cl (i := i0 a d) rfl ?_ (hd := g0)
 refine ja_cons ?_ ?_
 refine je_v 0 1
 refine ja_nil
 refine ja_nil
 refine jss_nil
abbrev n2 : List Str := ["change"]
theorem s2 : FnScope n2 ["change"] (defScope (top 3)) := ⟨rfl, rfl, rfl, by decide +kernel, rfl, by decide +kernel, by decide +kernel⟩
set_option maxHeartbeats 0 in
theorem b2 : JSs (tb a d) n (defScope (top 3)) n2 true (List.range n2.length) f2.body (defBody (top 3)) := by
 refine jss_cons ?_ ?_
 refine js_ret ?_
 refine je_bi (x := "sum") (id := "sum") (fun X g => cb_sum g) ?_ (hb := m_sum) (hv := by decide +kernel)
 refine ja_cons ?_ ?_
 refine je_comp (N' := ["part"]) (m' := [1]) ?_ ?_ ?_ ?_ (namesOk.of (by decide +kernel)) (ScOk.of (by decide +kernel))
 refine ji_seq ?_
 refine je_v 0 0
 refine jg_one 0 1 (by decide +kernel) (by decide +kernel)
 refine jc_yes ?_
 refine jt_cmp (fun X g => oc_ne g) ?_ ?_ (nomark _)
 refine je_ix (fun X g => ox_ix) ?_ ?_
 refine je_v 0 1
 refine je_int
 refine je_str
 refine je_cl (i := i0 a d) rfl ?_ (hd := g0)
 refine ja_cons ?_ ?_
 refine je_v 0 1
 refine ja_nil
 refine ja_nil
 refine jss_nil
abbrev n3 : List Str := ["change"]
theorem s3 : FnScope n3 ["change"] (defScope (top 4)) := ⟨rfl, rfl, rfl, by decide +kernel, rfl, by decide +kernel, by decide +kernel⟩
set_option maxHeartbeats 0 in
theorem b3 : JSs (tb a d) n (defScope (top 4)) n3 true (List.range n3.length) f3.body (defBody (top 4)) := by
 refine jss_cons ?_ ?_
 refine js_ret ?_
 refine je_bi (x := "sum") (id := "sum") (fun X g => cb_sum g) ?_ (hb := m_sum) (hv := by decide +kernel)
 refine ja_cons ?_ ?_
 refine je_comp (N' := ["part"]) (m' := [1]) ?_ ?_ ?_ ?_ (namesOk.of (by decide +kernel)) (ScOk.of (by decide +kernel))
 refine ji_seq ?_
 refine je_v 0 0
 refine jg_one 0 1 (by decide +kernel) (by decide +kernel)
 refine jc_yes ?_
 refine jt_cmp (fun X g => oc_ne g) ?_ ?_ (nomark _)
 refine je_ix (fun X g => ox_ix) ?_ ?_
 refine je_v 0 1
 refine je_int
 refine je_str
 refine je_cl (i := i0 a d) rfl ?_ (hd := g0)
 refine ja_cons ?_ ?_
 refine je_v 0 1
 refine ja_nil
 refine ja_nil
 refine jss_nil
abbrev n4 : List Str := ["change", "parts", "kept", "gone", "new", "word", "what"]
theorem s4 : FnScope n4 ["change"] (defScope (top 5)) := ⟨rfl, rfl, rfl, by decide +kernel, rfl, by decide +kernel, by decide +kernel⟩
set_option maxHeartbeats 0 in
theorem b4 : JSs (tb a d) n (defScope (top 5)) n4 true (List.range n4.length) f4.body (defBody (top 5)) := by
 refine jss_cons ?_ ?_
 refine js_set 1 1 (by decide +kernel) (by decide +kernel) ?_
 refine je_lst ?_
 refine ja_nil
 refine jss_cons ?_ ?_
 refine js_set 2 2 (by decide +kernel) (by decide +kernel) ?_
 refine je_int
 refine jss_cons ?_ ?_
 refine js_set 3 3 (by decide +kernel) (by decide +kernel) ?_
 refine je_str
 refine jss_cons ?_ ?_
 refine js_set 4 4 (by decide +kernel) (by decide +kernel) ?_
 refine je_str
 refine jss_cons ?_ ?_
 refine js_for ?_ ?_ ?_
 refine ji_seq ?_
 refine je_v 0 0
 refine jg_many ?_
 refine jgs_cons 5 5 (by decide +kernel) (by decide +kernel) ?_
 refine jgs_cons 6 6 (by decide +kernel) (by decide +kernel) ?_
 refine jgs_nil
 refine jss_cons ?_ ?_
 refine js_iff ?_ ?_ ?_
 refine jt_cmp (fun X g => oc_eq g) ?_ ?_ (nomark _)
 refine je_v 5 5
 refine je_str
 refine jss_cons ?_ ?_
 refine js_set 3 3 (by decide +kernel) (by decide +kernel) ?_
 refine je_bin (fun X g => ob_add) ?_ ?_
 refine je_v 3 3
 refine je_v 6 6
 refine jss_nil
 refine jss_cons ?_ ?_
 refine js_iff ?_ ?_ ?_
 refine jt_cmp (fun X g => oc_eq g) ?_ ?_ (nomark _)
 refine je_v 5 5
 refine je_str
 refine jss_cons ?_ ?_
 refine js_set 4 4 (by decide +kernel) (by decide +kernel) ?_
 refine je_bin (fun X g => ob_add) ?_ ?_
 refine je_v 4 4
 refine je_v 6 6
 refine jss_nil
 refine jss_cons ?_ ?_
 refine js_iff ?_ ?_ ?_
 refine jt_cmp (fun X g => oc_gt) ?_ ?_ (nomark _)
 refine je_v 6 6
 refine je_int
 refine jss_cons ?_ ?_
 refine js_iff ?_ ?_ ?_
 refine jt_w ?_
 refine jw_orr ?_ ?_
 refine jt_cmp (fun X g => oc_ne g) ?_ ?_ (nomark _)
 refine je_v 3 3
 refine je_str
 refine jw_orr1 ?_
 refine jt_cmp (fun X g => oc_ne g) ?_ ?_ (nomark _)
 refine je_v 4 4
 refine je_str
 refine jss_cons ?_ ?_
 refine js_exp ?_
 refine je_me PySem.F.plainAttrs_list PySem.F.slot_list_extend PySem.F.type_list_extend (fun X g => mm_extend) rfl ?_ ?_
 refine je_v 1 1
 refine ja_cons ?_ ?_
 refine je_cl (i := i5 a d) rfl ?_ (hd := g5)
 refine ja_cons ?_ ?_
 refine je_v 2 2
 refine ja_cons ?_ ?_
 refine je_v 3 3
 refine ja_cons ?_ ?_
 refine je_v 4 4
 refine ja_nil
 refine ja_nil
 refine jss_cons ?_ ?_
 refine js_set 2 2 (by decide +kernel) (by decide +kernel) ?_
 refine je_int
 refine jss_cons ?_ ?_
 refine js_set 3 3 (by decide +kernel) (by decide +kernel) ?_
 refine je_str
 refine jss_cons ?_ ?_
 refine js_set 4 4 (by decide +kernel) (by decide +kernel) ?_
 refine je_str
 refine jss_nil
 refine jss_nil
 refine jss_cons ?_ ?_
 refine js_set 2 2 (by decide +kernel) (by decide +kernel) ?_
 refine je_bin (fun X g => ob_add) ?_ ?_
 refine je_v 2 2
 refine je_v 6 6
 refine jss_nil
 refine jss_nil
 refine jss_nil
 refine jss_nil
 refine jss_nil
 refine jss_cons ?_ ?_
 refine js_exp ?_
 refine je_me PySem.F.plainAttrs_list PySem.F.slot_list_extend PySem.F.type_list_extend (fun X g => mm_extend) rfl ?_ ?_
 refine je_v 1 1
 refine ja_cons ?_ ?_
 refine je_cl (i := i5 a d) rfl ?_ (hd := g5)
 refine ja_cons ?_ ?_
 refine je_v 2 2
 refine ja_cons ?_ ?_
 refine je_v 3 3
 refine ja_cons ?_ ?_
 refine je_v 4 4
 refine ja_nil
 refine ja_nil
 refine jss_cons ?_ ?_
 refine js_ret ?_
 refine je_ttp ?_ (h1 := m_tuple)
 refine je_v 1 1
 refine jss_nil
abbrev n5 : List Str := ["kept", "gone", "new", "parts"]
theorem s5 : FnScope n5 ["kept", "gone", "new"] (defScope (top 6)) := ⟨rfl, rfl, rfl, by decide +kernel, rfl, by decide +kernel, by decide +kernel⟩
set_option maxHeartbeats 0 in
theorem b5 : JSs (tb a d) n (defScope (top 6)) n5 true (List.range n5.length) f5.body (defBody (top 6)) := by
 refine jss_cons ?_ ?_
 refine js_set 3 3 (by decide +kernel) (by decide +kernel) ?_
 refine je_lst ?_
 refine ja_nil
 refine jss_cons ?_ ?_
 refine js_iff ?_ ?_ ?_
 refine jt_cmp (fun X g => oc_gt) ?_ ?_ (nomark _)
 refine je_v 0 0
 refine je_int
 refine jss_cons ?_ ?_
 refine js_exp ?_
 refine je_me PySem.F.plainAttrs_list PySem.F.slot_list_append PySem.F.type_list_append (fun X g => mm_append) rfl ?_ ?_
 refine je_v 3 3
 refine ja_cons ?_ ?_
 refine je_tup ?_
 refine ja_cons ?_ ?_
 refine je_str
 refine ja_cons ?_ ?_
 refine je_v 0 0
 refine ja_nil
 refine ja_nil
 refine jss_nil
 refine jss_nil
 refine jss_cons ?_ ?_
 refine js_iff ?_ ?_ ?_
 refine jt_cmp (fun X g => oc_ne g) ?_ ?_ (nomark _)
 refine je_v 1 1
 refine je_str
 refine jss_cons ?_ ?_
 refine js_exp ?_
 refine je_me PySem.F.plainAttrs_list PySem.F.slot_list_append PySem.F.type_list_append (fun X g => mm_append) rfl ?_ ?_
 refine je_v 3 3
 refine ja_cons ?_ ?_
 refine je_tup ?_
 refine ja_cons ?_ ?_
 refine je_str
 refine ja_cons ?_ ?_
 refine je_v 1 1
 refine ja_nil
 refine ja_nil
 refine jss_nil
 refine jss_nil
 refine jss_cons ?_ ?_
 refine js_iff ?_ ?_ ?_
 refine jt_cmp (fun X g => oc_ne g) ?_ ?_ (nomark _)
 refine je_v 2 2
 refine je_str
 refine jss_cons ?_ ?_
 refine js_exp ?_
 refine je_me PySem.F.plainAttrs_list PySem.F.slot_list_append PySem.F.type_list_append (fun X g => mm_append) rfl ?_ ?_
 refine je_v 3 3
 refine ja_cons ?_ ?_
 refine je_tup ?_
 refine ja_cons ?_ ?_
 refine je_str
 refine ja_cons ?_ ?_
 refine je_v 2 2
 refine ja_nil
 refine ja_nil
 refine jss_nil
 refine jss_nil
 refine jss_cons ?_ ?_
 refine js_ret ?_
 refine je_v 3 3
 refine jss_nil
abbrev n6 : List Str := ["change", "text", "place", "part"]
theorem s6 : FnScope n6 ["change", "text"] (defScope (top 12)) := ⟨rfl, rfl, rfl, by decide +kernel, rfl, by decide +kernel, by decide +kernel⟩
set_option maxHeartbeats 0 in
theorem b6 : JSs (tb a d) n (defScope (top 12)) n6 true (List.range n6.length) f6.body (defBody (top 12)) := by
 refine jss_cons ?_ ?_
 refine js_set 2 2 (by decide +kernel) (by decide +kernel) ?_
 refine je_int
 refine jss_cons ?_ ?_
 refine js_for ?_ ?_ ?_
 refine ji_seq ?_
 refine je_v 0 0
 refine jg_one 3 3 (by decide +kernel) (by decide +kernel)
 refine jss_cons ?_ ?_
 refine js_iff ?_ ?_ ?_
 refine jt_w ?_
 refine jw_an ?_ ?_
 refine jt_cmp (fun X g => oc_eq g) ?_ ?_ (nomark _)
 refine je_ix (fun X g => ox_ix) ?_ ?_
 refine je_v 3 3
 refine je_int
 refine je_str
 refine jw_an1 ?_
 refine jt_cmp (fun X g => oc_ne g) ?_ ?_ (nomark _)
 refine je_sl (fun X g => sl_any) ?_ ?_ ?_
 refine je_v 1 1
 refine jo_yes ?_
 refine je_v 2 2
 refine jo_yes ?_
 refine je_bin (fun X g => ob_add) ?_ ?_
 refine je_v 2 2
 refine je_cl (i := i0 a d) rfl ?_ (hd := g0)
 refine ja_cons ?_ ?_
 refine je_v 3 3
 refine ja_nil
 refine je_ix (fun X g => ox_ix) ?_ ?_
 refine je_v 3 3
 refine je_int
 refine jss_cons ?_ ?_
 refine js_ret ?_
 refine je_bl
 refine jss_nil
 refine jss_nil
 refine jss_cons ?_ ?_
 refine js_iff ?_ ?_ ?_
 refine jt_cmp (fun X g => oc_ne g) ?_ ?_ (nomark _)
 refine je_ix (fun X g => ox_ix) ?_ ?_
 refine je_v 3 3
 refine je_int
 refine je_str
 refine jss_cons ?_ ?_
 refine js_set 2 2 (by decide +kernel) (by decide +kernel) ?_
 refine je_bin (fun X g => ob_add) ?_ ?_
 refine je_v 2 2
 refine je_cl (i := i0 a d) rfl ?_ (hd := g0)
 refine ja_cons ?_ ?_
 refine je_v 3 3
 refine ja_nil
 refine jss_nil
 refine jss_nil
 refine jss_nil
 refine jss_cons ?_ ?_
 refine js_ret ?_
 refine je_cmp (fun X g => oc_eq g) ?_ ?_ (nomark _)
 refine je_v 2 2
 refine je_bi (x := "len") (id := "len") (fun X g => cb_len) ?_ (hb := m_len) (hv := by decide +kernel)
 refine ja_cons ?_ ?_
 refine je_v 1 1
 refine ja_nil
 refine jss_nil
abbrev n7 : List Str := ["change", "text", "pieces", "place", "word", "what"]
theorem s7 : FnScope n7 ["change", "text"] (defScope (top 13)) := ⟨rfl, rfl, rfl, by decide +kernel, rfl, by decide +kernel, by decide +kernel⟩
set_option maxHeartbeats 0 in
theorem b7 : JSs (tb a d) n (defScope (top 13)) n7 true (List.range n7.length) f7.body (defBody (top 13)) := by
 refine jss_cons ?_ ?_
 refine js_iff ?_ ?_ ?_
 refine jt_nt ?_
 refine jt_val ?_
 refine je_cl (i := i6 a d) rfl ?_ (hd := g6)
 refine ja_cons ?_ ?_
 refine je_v 0 0
 refine ja_cons ?_ ?_
 refine je_v 1 1
 refine ja_nil
 refine jss_cons ?_ ?_
 refine js_nev
 refine jss_nil
 refine jss_nil
 refine jss_cons ?_ ?_
 refine js_set 2 2 (by decide +kernel) (by decide +kernel) ?_
 refine je_lst ?_
 refine ja_nil
 refine jss_cons ?_ ?_
 refine js_set 3 3 (by decide +kernel) (by decide +kernel) ?_
 refine je_int
 refine jss_cons ?_ ?_
 refine js_for ?_ ?_ ?_
 refine ji_seq ?_
 refine je_v 0 0
 refine jg_many ?_
 refine jgs_cons 4 4 (by decide +kernel) (by decide +kernel) ?_
 refine jgs_cons 5 5 (by decide +kernel) (by decide +kernel) ?_
 refine jgs_nil
 refine jss_cons ?_ ?_
 refine js_iff ?_ ?_ ?_
 refine jt_cmp (fun X g => oc_eq g) ?_ ?_ (nomark _)
 refine je_v 4 4
 refine je_str
 refine jss_cons ?_ ?_
 refine js_exp ?_
 refine je_me PySem.F.plainAttrs_list PySem.F.slot_list_append PySem.F.type_list_append (fun X g => mm_append) rfl ?_ ?_
 refine je_v 2 2
 refine ja_cons ?_ ?_
 refine je_v 5 5
 refine ja_nil
 refine jss_nil
 refine jss_cons ?_ ?_
 refine js_iff ?_ ?_ ?_
 refine jt_cmp (fun X g => oc_eq g) ?_ ?_ (nomark _)
 refine je_v 4 4
 refine je_str
 refine jss_cons ?_ ?_
 refine js_set 3 3 (by decide +kernel) (by decide +kernel) ?_
 refine je_bin (fun X g => ob_add) ?_ ?_
 refine je_v 3 3
 refine je_bi (x := "len") (id := "len") (fun X g => cb_len) ?_ (hb := m_len) (hv := by decide +kernel)
 refine ja_cons ?_ ?_
 refine je_v 5 5
 refine ja_nil
 refine jss_nil
 refine jss_cons ?_ ?_
 refine js_exp ?_
 refine je_me PySem.F.plainAttrs_list PySem.F.slot_list_append PySem.F.type_list_append (fun X g => mm_append) rfl ?_ ?_
 refine je_v 2 2
 refine ja_cons ?_ ?_
 refine je_sl (fun X g => sl_any) ?_ ?_ ?_
 refine je_v 1 1
 refine jo_yes ?_
 refine je_v 3 3
 refine jo_yes ?_
 refine je_bin (fun X g => ob_add) ?_ ?_
 refine je_v 3 3
 refine je_v 5 5
 refine ja_nil
 refine jss_cons ?_ ?_
 refine js_set 3 3 (by decide +kernel) (by decide +kernel) ?_
 refine je_bin (fun X g => ob_add) ?_ ?_
 refine je_v 3 3
 refine je_v 5 5
 refine jss_nil
 refine jss_nil
 refine jss_nil
 refine jss_cons ?_ ?_
 refine js_ret ?_
 refine je_me PySem.F.plainAttrs_str PySem.F.slot_str_join PySem.F.type_str_join (fun X g => mm_join) rfl ?_ ?_
 refine je_str
 refine ja_cons ?_ ?_
 refine je_v 2 2
 refine ja_nil
 refine jss_nil
abbrev n8 : List Str := ["change"]
theorem s8 : FnScope n8 ["change"] (defScope (top 14)) := ⟨rfl, rfl, rfl, by decide +kernel, rfl, by decide +kernel, by decide +kernel⟩
set_option maxHeartbeats 0 in
theorem b8 : JSs (tb a d) n (defScope (top 14)) n8 true (List.range n8.length) f8.body (defBody (top 14)) := by
 refine jss_cons ?_ ?_
 refine js_ret ?_
 refine je_cl (i := i4 a d) rfl ?_ (hd := g4)
 refine ja_cons ?_ ?_
 refine je_ttp ?_ (h1 := m_tuple)
 refine je_comp (N' := ["word", "what"]) (m' := [1, 2]) ?_ ?_ ?_ ?_ (namesOk.of (by decide +kernel)) (ScOk.of (by decide +kernel))
 refine ji_seq ?_
 refine je_v 0 0
 refine jg_many ?_
 refine jgs_cons 0 1 (by decide +kernel) (by decide +kernel) ?_
 refine jgs_cons 1 2 (by decide +kernel) (by decide +kernel) ?_
 refine jgs_nil
 refine jc_no
 refine je_tup ?_
 refine ja_cons ?_ ?_
 refine je_dget (x := "TURNED") (.head _) ?_
 refine je_v 0 1
 refine ja_cons ?_ ?_
 refine je_v 1 2
 refine ja_nil
 refine ja_nil
 refine jss_nil
abbrev n9 : List Str := ["many"]
theorem s9 : FnScope n9 ["many"] (defScope (top 15)) := ⟨rfl, rfl, rfl, by decide +kernel, rfl, by decide +kernel, by decide +kernel⟩
set_option maxHeartbeats 0 in
theorem b9 : JSs (tb a d) n (defScope (top 15)) n9 true (List.range n9.length) f9.body (defBody (top 15)) := by
 refine jss_cons ?_ ?_
 refine js_ret ?_
 refine je_cl (i := i4 a d) rfl ?_ (hd := g4)
 refine ja_cons ?_ ?_
 refine je_tup ?_
 refine ja_cons ?_ ?_
 refine je_tup ?_
 refine ja_cons ?_ ?_
 refine je_str
 refine ja_cons ?_ ?_
 refine je_v 0 0
 refine ja_nil
 refine ja_nil
 refine ja_nil
 refine jss_nil
abbrev n10 : List Str := ["one", "other", "ones", "others", "parts", "many"]
theorem s10 : FnScope n10 ["one", "other"] (defScope (top 16)) := ⟨rfl, rfl, rfl, by decide +kernel, rfl, by decide +kernel, by decide +kernel⟩
set_option maxHeartbeats 0 in
theorem b10 : JSs (tb a d) n (defScope (top 16)) n10 true (List.range n10.length) f10.body (defBody (top 16)) := by
 refine jss_cons ?_ ?_
 refine js_iff ?_ ?_ ?_
 refine jt_cmp (fun X g => oc_ne g) ?_ ?_ (nomark _)
 refine je_cl (i := i2 a d) rfl ?_ (hd := g2)
 refine ja_cons ?_ ?_
 refine je_v 0 0
 refine ja_nil
 refine je_cl (i := i1 a d) rfl ?_ (hd := g1)
 refine ja_cons ?_ ?_
 refine je_v 1 1
 refine ja_nil
 refine jss_cons ?_ ?_
 refine js_nev
 refine jss_nil
 refine jss_nil
 refine jss_cons ?_ ?_
 refine js_set 2 2 (by decide +kernel) (by decide +kernel) ?_
 refine je_lofV ?_ (h1 := m_list) (hb := m_reversed)
 refine je_cl (i := i4 a d) rfl ?_ (hd := g4)
 refine ja_cons ?_ ?_
 refine je_v 0 0
 refine ja_nil
 refine jss_cons ?_ ?_
 refine js_set 3 3 (by decide +kernel) (by decide +kernel) ?_
 refine je_lofV ?_ (h1 := m_list) (hb := m_reversed)
 refine je_cl (i := i4 a d) rfl ?_ (hd := g4)
 refine ja_cons ?_ ?_
 refine je_v 1 1
 refine ja_nil
 refine jss_cons ?_ ?_
 refine js_set 4 4 (by decide +kernel) (by decide +kernel) ?_
 refine je_lst ?_
 refine ja_nil
 refine jss_cons ?_ ?_
 refine js_whl ?_ ?_
 refine jt_w ?_
 refine jw_orr ?_ ?_
 refine jt_val ?_
 refine je_v 2 2
 refine jw_orr1 ?_
 refine jt_val ?_
 refine je_v 3 3
 refine jss_cons ?_ ?_
 refine js_iff ?_ ?_ ?_
 refine jt_w ?_
 refine jw_an ?_ ?_
 refine jt_val ?_
 refine je_v 2 2
 refine jw_an1 ?_
 refine jt_cmp (fun X g => oc_eq g) ?_ ?_ (nomark _)
 refine je_ix (fun X g => ox_ix) ?_ ?_
 refine je_ix (fun X g => ox_ix) ?_ ?_
 refine je_v 2 2
 refine je_neg ?_
 refine je_int
 refine je_int
 refine je_str
 refine jss_cons ?_ ?_
 refine js_exp ?_
 refine je_me PySem.F.plainAttrs_list PySem.F.slot_list_append PySem.F.type_list_append (fun X g => mm_append) rfl ?_ ?_
 refine je_v 4 4
 refine ja_cons ?_ ?_
 refine je_me0 PySem.F.plainAttrs_list PySem.F.slot_list_pop PySem.F.type_list_pop (fun X g => mm_pop) rfl ?_
 refine je_v 2 2
 refine ja_nil
 refine jss_nil
 refine jss_cons ?_ ?_
 refine js_iff ?_ ?_ ?_
 refine jt_w ?_
 refine jw_an ?_ ?_
 refine jt_val ?_
 refine je_v 3 3
 refine jw_an1 ?_
 refine jt_cmp (fun X g => oc_eq g) ?_ ?_ (nomark _)
 refine je_ix (fun X g => ox_ix) ?_ ?_
 refine je_ix (fun X g => ox_ix) ?_ ?_
 refine je_v 3 3
 refine je_neg ?_
 refine je_int
 refine je_int
 refine je_str
 refine jss_cons ?_ ?_
 refine js_exp ?_
 refine je_me PySem.F.plainAttrs_list PySem.F.slot_list_append PySem.F.type_list_append (fun X g => mm_append) rfl ?_ ?_
 refine je_v 4 4
 refine ja_cons ?_ ?_
 refine je_me0 PySem.F.plainAttrs_list PySem.F.slot_list_pop PySem.F.type_list_pop (fun X g => mm_pop) rfl ?_
 refine je_v 3 3
 refine ja_nil
 refine jss_nil
 refine jss_cons ?_ ?_
 refine js_set 5 5 (by decide +kernel) (by decide +kernel) ?_
 refine je_bi (x := "min") (id := "min") (fun X g => cb_min g) ?_ (hb := m_min) (hv := by decide +kernel)
 refine ja_cons ?_ ?_
 refine je_cl (i := i0 a d) rfl ?_ (hd := g0)
 refine ja_cons ?_ ?_
 refine je_ix (fun X g => ox_ix) ?_ ?_
 refine je_v 2 2
 refine je_neg ?_
 refine je_int
 refine ja_nil
 refine ja_cons ?_ ?_
 refine je_cl (i := i0 a d) rfl ?_ (hd := g0)
 refine ja_cons ?_ ?_
 refine je_ix (fun X g => ox_ix) ?_ ?_
 refine je_v 3 3
 refine je_neg ?_
 refine je_int
 refine ja_nil
 refine ja_nil
 refine jss_cons ?_ ?_
 refine js_exp ?_
 refine je_me PySem.F.plainAttrs_list PySem.F.slot_list_extend PySem.F.type_list_extend (fun X g => mm_extend) rfl ?_ ?_
 refine je_v 4 4
 refine ja_cons ?_ ?_
 refine je_cl (i := i12 a d) rfl ?_ (hd := g12)
 refine ja_cons ?_ ?_
 refine je_cl (i := i13 a d) rfl ?_ (hd := g13)
 refine ja_cons ?_ ?_
 refine je_v 2 2
 refine ja_cons ?_ ?_
 refine je_v 5 5
 refine ja_nil
 refine ja_cons ?_ ?_
 refine je_cl (i := i13 a d) rfl ?_ (hd := g13)
 refine ja_cons ?_ ?_
 refine je_v 3 3
 refine ja_cons ?_ ?_
 refine je_v 5 5
 refine ja_nil
 refine ja_nil
 refine ja_nil
 refine jss_nil
 refine jss_nil
 refine jss_nil
 refine jss_cons ?_ ?_
 refine js_ret ?_
 refine je_cl (i := i4 a d) rfl ?_ (hd := g4)
 refine ja_cons ?_ ?_
 refine je_ttp ?_ (h1 := m_tuple)
 refine je_v 4 4
 refine ja_nil
 refine jss_nil
abbrev n11 : List Str := ["many", "rows", "whole", "change"]
theorem s11 : FnScope n11 ["many", "rows"] (defScope (top 17)) := ⟨rfl, rfl, rfl, by decide +kernel, rfl, by decide +kernel, by decide +kernel⟩
set_option maxHeartbeats 0 in
theorem b11 : JSs (tb a d) n (defScope (top 17)) n11 true (List.range n11.length) f11.body (defBody (top 17)) := by
 refine jss_cons ?_ ?_
 refine js_set 2 2 (by decide +kernel) (by decide +kernel) ?_
 refine je_cl (i := i9 a d) rfl ?_ (hd := g9)
 refine ja_cons ?_ ?_
 refine je_v 0 0
 refine ja_nil
 refine jss_cons ?_ ?_
 refine js_for ?_ ?_ ?_
 refine ji_seq ?_
 refine je_v 1 1
 refine jg_one 3 3 (by decide +kernel) (by decide +kernel)
 refine jss_cons ?_ ?_
 refine js_set 2 2 (by decide +kernel) (by decide +kernel) ?_
 refine je_cl (i := i10 a d) rfl ?_ (hd := g10)
 refine ja_cons ?_ ?_
 refine je_v 2 2
 refine ja_cons ?_ ?_
 refine je_v 3 3
 refine ja_nil
 refine jss_nil
 refine jss_cons ?_ ?_
 refine js_ret ?_
 refine je_v 2 2
 refine jss_nil
abbrev n12 : List Str := ["left", "gone_through"]
theorem s12 : FnScope n12 ["left", "gone_through"] (defScope (top 18)) := ⟨rfl, rfl, rfl, by decide +kernel, rfl, by decide +kernel, by decide +kernel⟩
set_option maxHeartbeats 0 in
theorem b12 : JSs (tb a d) n (defScope (top 18)) n12 true (List.range n12.length) f12.body (defBody (top 18)) := by
 refine jss_cons ?_ ?_
 refine js_iff ?_ ?_ ?_
 refine jt_cmp (fun X g => oc_eq g) ?_ ?_ (nomark _)
 refine je_ix (fun X g => ox_ix) ?_ ?_
 refine je_v 1 1
 refine je_int
 refine je_str
 refine jss_cons ?_ ?_
 refine js_ret ?_
 refine je_lst ?_
 refine ja_cons ?_ ?_
 refine je_v 0 0
 refine ja_nil
 refine jss_nil
 refine jss_nil
 refine jss_cons ?_ ?_
 refine js_iff ?_ ?_ ?_
 refine jt_cmp (fun X g => oc_eq g) ?_ ?_ (nomark _)
 refine je_ix (fun X g => ox_ix) ?_ ?_
 refine je_v 0 0
 refine je_int
 refine je_str
 refine jss_cons ?_ ?_
 refine js_ret ?_
 refine je_lst ?_
 refine ja_cons ?_ ?_
 refine je_v 1 1
 refine ja_nil
 refine jss_nil
 refine jss_nil
 refine jss_cons ?_ ?_
 refine js_iff ?_ ?_ ?_
 refine jt_cmp (fun X g => oc_ne g) ?_ ?_ (nomark _)
 refine je_ix (fun X g => ox_ix) ?_ ?_
 refine je_v 0 0
 refine je_int
 refine je_ix (fun X g => ox_ix) ?_ ?_
 refine je_v 1 1
 refine je_int
 refine jss_cons ?_ ?_
 refine js_nev
 refine jss_nil
 refine jss_nil
 refine jss_cons ?_ ?_
 refine js_ret ?_
 refine je_lst ?_
 refine ja_nil
 refine jss_nil
abbrev n13 : List Str := ["parts", "many", "halves"]
theorem s13 : FnScope n13 ["parts", "many"] (defScope (top 19)) := ⟨rfl, rfl, rfl, by decide +kernel, rfl, by decide +kernel, by decide +kernel⟩
set_option maxHeartbeats 0 in
theorem b13 : JSs (tb a d) n (defScope (top 19)) n13 true (List.range n13.length) f13.body (defBody (top 19)) := by
 refine jss_cons ?_ ?_
 refine js_set 2 2 (by decide +kernel) (by decide +kernel) ?_
 refine je_cl (i := i14 a d) rfl ?_ (hd := g14)
 refine ja_cons ?_ ?_
 refine je_me0 PySem.F.plainAttrs_list PySem.F.slot_list_pop PySem.F.type_list_pop (fun X g => mm_pop) rfl ?_
 refine je_v 0 0
 refine ja_cons ?_ ?_
 refine je_v 1 1
 refine ja_nil
 refine jss_cons ?_ ?_
 refine js_iff ?_ ?_ ?_
 refine jt_cmp (fun X g => oc_gt) ?_ ?_ (nomark _)
 refine je_cl (i := i0 a d) rfl ?_ (hd := g0)
 refine ja_cons ?_ ?_
 refine je_ix (fun X g => ox_ix) ?_ ?_
 refine je_v 2 2
 refine je_int
 refine ja_nil
 refine je_int
 refine jss_cons ?_ ?_
 refine js_exp ?_
 refine je_me PySem.F.plainAttrs_list PySem.F.slot_list_append PySem.F.type_list_append (fun X g => mm_append) rfl ?_ ?_
 refine je_v 0 0
 refine ja_cons ?_ ?_
 refine je_ix (fun X g => ox_ix) ?_ ?_
 refine je_v 2 2
 refine je_int
 refine ja_nil
 refine jss_nil
 refine jss_nil
 refine jss_cons ?_ ?_
 refine js_ret ?_
 refine je_ix (fun X g => ox_ix) ?_ ?_
 refine je_v 2 2
 refine je_int
 refine jss_nil
abbrev n14 : List Str := ["part", "many", "word"]
theorem s14 : FnScope n14 ["part", "many"] (defScope (top 20)) := ⟨rfl, rfl, rfl, by decide +kernel, rfl, by decide +kernel, by decide +kernel⟩
set_option maxHeartbeats 0 in
theorem b14 : JSs (tb a d) n (defScope (top 20)) n14 true (List.range n14.length) f14.body (defBody (top 20)) := by
 refine jss_cons ?_ ?_
 refine js_set 2 2 (by decide +kernel) (by decide +kernel) ?_
 refine je_ix (fun X g => ox_ix) ?_ ?_
 refine je_v 0 0
 refine je_int
 refine jss_cons ?_ ?_
 refine js_iff ?_ ?_ ?_
 refine jt_cmp (fun X g => oc_eq g) ?_ ?_ (nomark _)
 refine je_v 2 2
 refine je_str
 refine jss_cons ?_ ?_
 refine js_ret ?_
 refine je_tup ?_
 refine ja_cons ?_ ?_
 refine je_tup ?_
 refine ja_cons ?_ ?_
 refine je_v 2 2
 refine ja_cons ?_ ?_
 refine je_v 1 1
 refine ja_nil
 refine ja_cons ?_ ?_
 refine je_tup ?_
 refine ja_cons ?_ ?_
 refine je_v 2 2
 refine ja_cons ?_ ?_
 refine je_bin (fun X g => ob_sub) ?_ ?_
 refine je_ix (fun X g => ox_ix) ?_ ?_
 refine je_v 0 0
 refine je_int
 refine je_v 1 1
 refine ja_nil
 refine ja_nil
 refine jss_nil
 refine jss_nil
 refine jss_cons ?_ ?_
 refine js_ret ?_
 refine je_tup ?_
 refine ja_cons ?_ ?_
 refine je_tup ?_
 refine ja_cons ?_ ?_
 refine je_v 2 2
 refine ja_cons ?_ ?_
 refine je_sl (fun X g => sl_any) ?_ ?_ ?_
 refine je_ix (fun X g => ox_ix) ?_ ?_
 refine je_v 0 0
 refine je_int
 refine jo_no
 refine jo_yes ?_
 refine je_v 1 1
 refine ja_nil
 refine ja_cons ?_ ?_
 refine je_tup ?_
 refine ja_cons ?_ ?_
 refine je_v 2 2
 refine ja_cons ?_ ?_
 refine je_sl (fun X g => sl_any) ?_ ?_ ?_
 refine je_ix (fun X g => ox_ix) ?_ ?_
 refine je_v 0 0
 refine je_int
 refine jo_yes ?_
 refine je_v 1 1
 refine jo_no
 refine ja_nil
 refine ja_nil
 refine jss_nil
abbrev n15 : List Str := ["_law_script", "_law_k"]
theorem s15 : FnScope n15 ["_law_script", "_law_k"] (defScope (top 22)) := ⟨rfl, rfl, rfl, by decide +kernel, rfl, by decide +kernel, by decide +kernel⟩
set_option maxHeartbeats 0 in
theorem b15 : JSs (tb a d) n (defScope (top 22)) n15 true (List.range n15.length) f15.body (defBody (top 22)) := by
 refine jss_cons ?_ ?_
 refine js_iff ?_ ?_ ?_
 refine jt_cmp (fun X g => oc_eq g) ?_ ?_ (nomark _)
 refine je_v 0 0
 refine je_lst ?_
 refine ja_nil
 refine jss_cons ?_ ?_
 refine js_ret ?_
 refine je_bin (fun X g => ob_mul) ?_ ?_
 refine je_int
 refine je_v 1 1
 refine jss_nil
 refine jss_nil
 refine jss_cons ?_ ?_
 refine js_ret ?_
 refine je_bin (fun X g => ob_add) ?_ ?_
 refine je_ix (fun X g => ox_ix) ?_ ?_
 refine je_v 0 0
 refine je_bin (fun X g => ob_mod) ?_ ?_
 refine je_v 1 1
 refine je_bi (x := "len") (id := "len") (fun X g => cb_len) ?_ (hb := m_len) (hv := by decide +kernel)
 refine ja_cons ?_ ?_
 refine je_v 0 0
 refine ja_nil
 refine je_bin (fun X g => ob_mul) ?_ ?_
 refine je_int
 refine je_bin (fun X g => ob_fdiv) ?_ ?_
 refine je_v 1 1
 refine je_bi (x := "len") (id := "len") (fun X g => cb_len) ?_ (hb := m_len) (hv := by decide +kernel)
 refine ja_cons ?_ ?_
 refine je_v 0 0
 refine ja_nil
 refine jss_nil
abbrev n16 : List Str := ["_law_script", "_law_k", "_law_many", "_law_cell_here"]
theorem s16 : FnScope n16 ["_law_script", "_law_k", "_law_many"] (defScope (top 23)) := ⟨rfl, rfl, rfl, by decide +kernel, rfl, by decide +kernel, by decide +kernel⟩
set_option maxHeartbeats 0 in
theorem b16 : JSs (tb a d) n (defScope (top 23)) n16 true (List.range n16.length) f16.body (defBody (top 23)) := by
 refine jss_cons ?_ ?_
 refine js_set 3 3 (by decide +kernel) (by decide +kernel) ?_
 refine je_bin (fun X g => ob_mod) ?_ ?_
 refine je_bin (fun X g => ob_add) ?_ ?_
 refine je_bin (fun X g => ob_mul) ?_ ?_
 refine je_bin (fun X g => ob_mod) ?_ ?_
 refine je_cl (i := i15 a d) rfl ?_ (hd := g15)
 refine ja_cons ?_ ?_
 refine je_v 0 0
 refine ja_cons ?_ ?_
 refine je_v 1 1
 refine ja_nil
 refine je_int
 refine je_int
 refine je_bin (fun X g => ob_mul) ?_ ?_
 refine je_int
 refine je_bin (fun X g => ob_add) ?_ ?_
 refine je_v 1 1
 refine je_int
 refine je_int
 refine jss_cons ?_ ?_
 refine js_set 3 3 (by decide +kernel) (by decide +kernel) ?_
 refine je_bin (fun X g => ob_mod) ?_ ?_
 refine je_bin (fun X g => ob_add) ?_ ?_
 refine je_bin (fun X g => ob_mul) ?_ ?_
 refine je_v 3 3
 refine je_v 3 3
 refine je_bin (fun X g => ob_fdiv) ?_ ?_
 refine je_v 3 3
 refine je_int
 refine je_int
 refine jss_cons ?_ ?_
 refine js_ret ?_
 refine je_bin (fun X g => ob_mod) ?_ ?_
 refine je_bin (fun X g => ob_fdiv) ?_ ?_
 refine je_bin (fun X g => ob_mod) ?_ ?_
 refine je_bin (fun X g => ob_add) ?_ ?_
 refine je_bin (fun X g => ob_mul) ?_ ?_
 refine je_v 3 3
 refine je_v 3 3
 refine je_bin (fun X g => ob_fdiv) ?_ ?_
 refine je_v 3 3
 refine je_int
 refine je_int
 refine je_int
 refine je_v 2 2
 refine jss_nil
abbrev n17 : List Str := ["_law_script", "_law_at", "_law_most"]
theorem s17 : FnScope n17 ["_law_script", "_law_at", "_law_most"] (defScope (top 24)) := ⟨rfl, rfl, rfl, by decide +kernel, rfl, by decide +kernel, by decide +kernel⟩
set_option maxHeartbeats 0 in
theorem b17 : JSs (tb a d) n (defScope (top 24)) n17 true (List.range n17.length) f17.body (defBody (top 24)) := by
 refine jss_cons ?_ ?_
 refine js_ret ?_
 refine je_me PySem.F.plainAttrs_str PySem.F.slot_str_join PySem.F.type_str_join (fun X g => mm_join) rfl ?_ ?_
 refine je_str
 refine ja_cons ?_ ?_
 refine je_comp (N' := ["_law_k", "_law_script", "_law_at"]) (m' := [3, 0, 1]) ?_ ?_ ?_ ?_ (namesOk.of (by decide +kernel)) (ScOk.of (by decide +kernel))
 refine ji_rng1 ?_ (hb := m_range)
 refine ja_cons ?_ ?_
 refine je_cl (i := i16 a d) rfl ?_ (hd := g16)
 refine ja_cons ?_ ?_
 refine je_v 0 0
 refine ja_cons ?_ ?_
 refine je_v 1 1
 refine ja_cons ?_ ?_
 refine je_bin (fun X g => ob_add) ?_ ?_
 refine je_v 2 2
 refine je_int
 refine ja_nil
 refine ja_nil
 refine jg_one 0 3 (by decide +kernel) (by decide +kernel)
 refine jc_no
 refine je_ix (fun X g => ox_ix) ?_ ?_
 refine je_str
 refine je_cl (i := i16 a d) rfl ?_ (hd := g16)
 refine ja_cons ?_ ?_
 refine je_v 1 0
 refine ja_cons ?_ ?_
 refine je_bin (fun X g => ob_add) ?_ ?_
 refine je_bin (fun X g => ob_add) ?_ ?_
 refine je_v 2 1
 refine je_int
 refine je_v 0 3
 refine ja_cons ?_ ?_
 refine je_int
 refine ja_nil
 refine ja_nil
 refine jss_nil
abbrev n18 : List Str := ["_law_script", "_law_at", "_law_text_here", "_law_found", "_law_k", "_law_new", "_law_is_kept"]
theorem s18 : FnScope n18 ["_law_script", "_law_at", "_law_text_here"] (defScope (top 25)) := ⟨rfl, rfl, rfl, by decide +kernel, rfl, by decide +kernel, by decide +kernel⟩
set_option maxHeartbeats 0 in
theorem b18 : JSs (tb a d) n (defScope (top 25)) n18 true (List.range n18.length) f18.body (defBody (top 25)) := by
 refine jss_cons ?_ ?_
 refine js_set 3 3 (by decide +kernel) (by decide +kernel) ?_
 refine je_tup ?_
 refine ja_nil
 refine jss_cons ?_ ?_
 refine js_for ?_ ?_ ?_
 refine ji_rng1 ?_ (hb := m_range)
 refine ja_cons ?_ ?_
 refine je_bin (fun X g => ob_add) ?_ ?_
 refine je_bi (x := "len") (id := "len") (fun X g => cb_len) ?_ (hb := m_len) (hv := by decide +kernel)
 refine ja_cons ?_ ?_
 refine je_v 2 2
 refine ja_nil
 refine je_int
 refine ja_nil
 refine jg_one 4 4 (by decide +kernel) (by decide +kernel)
 refine jss_cons ?_ ?_
 refine js_iff ?_ ?_ ?_
 refine jt_cmp (fun X g => oc_eq g) ?_ ?_ (nomark _)
 refine je_cl (i := i16 a d) rfl ?_ (hd := g16)
 refine ja_cons ?_ ?_
 refine je_v 0 0
 refine ja_cons ?_ ?_
 refine je_bin (fun X g => ob_add) ?_ ?_
 refine je_v 1 1
 refine je_bin (fun X g => ob_mul) ?_ ?_
 refine je_int
 refine je_v 4 4
 refine ja_cons ?_ ?_
 refine je_int
 refine ja_nil
 refine je_int
 refine jss_cons ?_ ?_
 refine js_set 5 5 (by decide +kernel) (by decide +kernel) ?_
 refine je_bin (fun X g => ob_mul) ?_ ?_
 refine je_ix (fun X g => ox_ix) ?_ ?_
 refine je_str
 refine je_cl (i := i16 a d) rfl ?_ (hd := g16)
 refine ja_cons ?_ ?_
 refine je_v 0 0
 refine ja_cons ?_ ?_
 refine je_bin (fun X g => ob_add) ?_ ?_
 refine je_bin (fun X g => ob_add) ?_ ?_
 refine je_v 1 1
 refine je_bin (fun X g => ob_mul) ?_ ?_
 refine je_int
 refine je_v 4 4
 refine je_int
 refine ja_cons ?_ ?_
 refine je_int
 refine ja_nil
 refine je_bin (fun X g => ob_add) ?_ ?_
 refine je_int
 refine je_cl (i := i16 a d) rfl ?_ (hd := g16)
 refine ja_cons ?_ ?_
 refine je_v 0 0
 refine ja_cons ?_ ?_
 refine je_bin (fun X g => ob_add) ?_ ?_
 refine je_bin (fun X g => ob_add) ?_ ?_
 refine je_v 1 1
 refine je_bin (fun X g => ob_mul) ?_ ?_
 refine je_int
 refine je_v 4 4
 refine je_int
 refine ja_cons ?_ ?_
 refine je_int
 refine ja_nil
 refine jss_cons ?_ ?_
 refine js_set 3 3 (by decide +kernel) (by decide +kernel) ?_
 refine je_bin (fun X g => ob_add) ?_ ?_
 refine je_v 3 3
 refine je_tup ?_
 refine ja_cons ?_ ?_
 refine je_tup ?_
 refine ja_cons ?_ ?_
 refine je_str
 refine ja_cons ?_ ?_
 refine je_v 5 5
 refine ja_nil
 refine ja_nil
 refine jss_nil
 refine jss_nil
 refine jss_cons ?_ ?_
 refine js_iff ?_ ?_ ?_
 refine jt_cmp (fun X g => oc_lt) ?_ ?_ (nomark _)
 refine je_v 4 4
 refine je_bi (x := "len") (id := "len") (fun X g => cb_len) ?_ (hb := m_len) (hv := by decide +kernel)
 refine ja_cons ?_ ?_
 refine je_v 2 2
 refine ja_nil
 refine jss_cons ?_ ?_
 refine js_set 6 6 (by decide +kernel) (by decide +kernel) ?_
 refine je_cmp (fun X g => oc_gt) ?_ ?_ (nomark _)
 refine je_cl (i := i16 a d) rfl ?_ (hd := g16)
 refine ja_cons ?_ ?_
 refine je_v 0 0
 refine ja_cons ?_ ?_
 refine je_bin (fun X g => ob_add) ?_ ?_
 refine je_bin (fun X g => ob_add) ?_ ?_
 refine je_v 1 1
 refine je_bin (fun X g => ob_mul) ?_ ?_
 refine je_int
 refine je_v 4 4
 refine je_int
 refine ja_cons ?_ ?_
 refine je_int
 refine ja_nil
 refine je_int
 refine jss_cons ?_ ?_
 refine js_set 3 3 (by decide +kernel) (by decide +kernel) ?_
 refine je_bin (fun X g => ob_add) ?_ ?_
 refine je_v 3 3
 refine je_tup ?_
 refine ja_cons ?_ ?_
 refine je_ife ?_ ?_ ?_
 refine jt_val ?_
 refine je_v 6 6
 refine je_tup ?_
 refine ja_cons ?_ ?_
 refine je_str
 refine ja_cons ?_ ?_
 refine je_int
 refine ja_nil
 refine je_tup ?_
 refine ja_cons ?_ ?_
 refine je_str
 refine ja_cons ?_ ?_
 refine je_ix (fun X g => ox_ix) ?_ ?_
 refine je_v 2 2
 refine je_v 4 4
 refine ja_nil
 refine ja_nil
 refine jss_nil
 refine jss_nil
 refine jss_nil
 refine jss_cons ?_ ?_
 refine js_ret ?_
 refine je_v 3 3
 refine jss_nil
abbrev n19 : List Str := ["_law_change_here", "_law_asks", "_law_told", "_law_word", "_law_what"]
theorem s19 : FnScope n19 ["_law_change_here"] (defScope (top 26)) := ⟨rfl, rfl, rfl, by decide +kernel, rfl, by decide +kernel, by decide +kernel⟩
set_option maxHeartbeats 0 in
theorem b19 : JSs (tb a d) n (defScope (top 26)) n19 true (List.range n19.length) f19.body (defBody (top 26)) := by
 refine jss_cons ?_ ?_
 refine js_set 1 1 (by decide +kernel) (by decide +kernel) ?_
 refine je_lst ?_
 refine ja_nil
 refine jss_cons ?_ ?_
 refine js_set 2 2 (by decide +kernel) (by decide +kernel) ?_
 refine je_lst ?_
 refine ja_nil
 refine jss_cons ?_ ?_
 refine js_for ?_ ?_ ?_
 refine ji_seq ?_
 refine je_v 0 0
 refine jg_many ?_
 refine jgs_cons 3 3 (by decide +kernel) (by decide +kernel) ?_
 refine jgs_cons 4 4 (by decide +kernel) (by decide +kernel) ?_
 refine jgs_nil
 refine jss_cons ?_ ?_
 refine js_iff ?_ ?_ ?_
 refine jt_cmp (fun X g => oc_eq g) ?_ ?_ (nomark _)
 refine je_v 3 3
 refine je_str
 refine jss_cons ?_ ?_
 refine js_set 2 2 (by decide +kernel) (by decide +kernel) ?_
 refine je_bin (fun X g => ob_add) ?_ ?_
 refine je_v 2 2
 refine je_lofR2 ?_ (h1 := m_list) (hb := m_range)
 refine ja_cons ?_ ?_
 refine je_bi (x := "len") (id := "len") (fun X g => cb_len) ?_ (hb := m_len) (hv := by decide +kernel)
 refine ja_cons ?_ ?_
 refine je_v 1 1
 refine ja_nil
 refine ja_cons ?_ ?_
 refine je_bin (fun X g => ob_add) ?_ ?_
 refine je_bi (x := "len") (id := "len") (fun X g => cb_len) ?_ (hb := m_len) (hv := by decide +kernel)
 refine ja_cons ?_ ?_
 refine je_v 1 1
 refine ja_nil
 refine je_v 4 4
 refine ja_nil
 refine jss_cons ?_ ?_
 refine js_set 1 1 (by decide +kernel) (by decide +kernel) ?_
 refine je_bin (fun X g => ob_add) ?_ ?_
 refine je_v 1 1
 refine je_bin (fun X g => ob_mul) ?_ ?_
 refine je_lst ?_
 refine ja_cons ?_ ?_
 refine je_str
 refine ja_nil
 refine je_v 4 4
 refine jss_nil
 refine jss_cons ?_ ?_
 refine js_iff ?_ ?_ ?_
 refine jt_cmp (fun X g => oc_eq g) ?_ ?_ (nomark _)
 refine je_v 3 3
 refine je_str
 refine jss_cons ?_ ?_
 refine js_set 1 1 (by decide +kernel) (by decide +kernel) ?_
 refine je_bin (fun X g => ob_add) ?_ ?_
 refine je_v 1 1
 refine je_lof ?_ (h1 := m_list)
 refine je_v 4 4
 refine jss_nil
 refine jss_cons ?_ ?_
 refine js_set 2 2 (by decide +kernel) (by decide +kernel) ?_
 refine je_bin (fun X g => ob_add) ?_ ?_
 refine je_v 2 2
 refine je_lof ?_ (h1 := m_list)
 refine je_v 4 4
 refine jss_nil
 refine jss_nil
 refine jss_nil
 refine jss_cons ?_ ?_
 refine js_ret ?_
 refine je_tup ?_
 refine ja_cons ?_ ?_
 refine je_v 1 1
 refine ja_cons ?_ ?_
 refine je_v 2 2
 refine ja_nil
 refine jss_nil
abbrev n20 : List Str := ["_law_change_here", "_law_text_here", "_law_place", "_law_found", "_law_word", "_law_what"]
theorem s20 : FnScope n20 ["_law_change_here", "_law_text_here"] (defScope (top 28)) := ⟨rfl, rfl, rfl, by decide +kernel, rfl, by decide +kernel, by decide +kernel⟩
set_option maxHeartbeats 0 in
theorem b20 : JSs (tb a d) n (defScope (top 28)) n20 true (List.range n20.length) f20.body (defBody (top 28)) := by
 refine jss_cons ?_ ?_
 refine js_set 2 2 (by decide +kernel) (by decide +kernel) ?_
 refine je_int
 refine jss_cons ?_ ?_
 refine js_set 3 3 (by decide +kernel) (by decide +kernel) ?_
 refine je_str
 refine jss_cons ?_ ?_
 refine js_for ?_ ?_ ?_
 refine ji_seq ?_
 refine je_v 0 0
 refine jg_many ?_
 refine jgs_cons 4 4 (by decide +kernel) (by decide +kernel) ?_
 refine jgs_cons 5 5 (by decide +kernel) (by decide +kernel) ?_
 refine jgs_nil
 refine jss_cons ?_ ?_
 refine js_iff ?_ ?_ ?_
 refine jt_cmp (fun X g => oc_eq g) ?_ ?_ (nomark _)
 refine je_v 4 4
 refine je_str
 refine jss_cons ?_ ?_
 refine js_set 3 3 (by decide +kernel) (by decide +kernel) ?_
 refine je_bin (fun X g => ob_add) ?_ ?_
 refine je_v 3 3
 refine je_v 5 5
 refine jss_nil
 refine jss_cons ?_ ?_
 refine js_iff ?_ ?_ ?_
 refine jt_cmp (fun X g => oc_eq g) ?_ ?_ (nomark _)
 refine je_v 4 4
 refine je_str
 refine jss_cons ?_ ?_
 refine js_iff ?_ ?_ ?_
 refine jt_cmp (fun X g => oc_ne g) ?_ ?_ (nomark _)
 refine je_sl (fun X g => sl_any) ?_ ?_ ?_
 refine je_v 1 1
 refine jo_yes ?_
 refine je_v 2 2
 refine jo_yes ?_
 refine je_bin (fun X g => ob_add) ?_ ?_
 refine je_v 2 2
 refine je_bi (x := "len") (id := "len") (fun X g => cb_len) ?_ (hb := m_len) (hv := by decide +kernel)
 refine ja_cons ?_ ?_
 refine je_v 5 5
 refine ja_nil
 refine je_v 5 5
 refine jss_cons ?_ ?_
 refine js_ret ?_
 refine je_non
 refine jss_nil
 refine jss_nil
 refine jss_cons ?_ ?_
 refine js_set 2 2 (by decide +kernel) (by decide +kernel) ?_
 refine je_bin (fun X g => ob_add) ?_ ?_
 refine je_v 2 2
 refine je_bi (x := "len") (id := "len") (fun X g => cb_len) ?_ (hb := m_len) (hv := by decide +kernel)
 refine ja_cons ?_ ?_
 refine je_v 5 5
 refine ja_nil
 refine jss_nil
 refine jss_cons ?_ ?_
 refine js_set 3 3 (by decide +kernel) (by decide +kernel) ?_
 refine je_bin (fun X g => ob_add) ?_ ?_
 refine je_v 3 3
 refine je_sl (fun X g => sl_any) ?_ ?_ ?_
 refine je_v 1 1
 refine jo_yes ?_
 refine je_v 2 2
 refine jo_yes ?_
 refine je_bin (fun X g => ob_add) ?_ ?_
 refine je_v 2 2
 refine je_v 5 5
 refine jss_cons ?_ ?_
 refine js_set 2 2 (by decide +kernel) (by decide +kernel) ?_
 refine je_bin (fun X g => ob_add) ?_ ?_
 refine je_v 2 2
 refine je_v 5 5
 refine jss_nil
 refine jss_nil
 refine jss_nil
 refine jss_cons ?_ ?_
 refine js_ret ?_
 refine je_ife ?_ ?_ ?_
 refine jt_cmp (fun X g => oc_eq g) ?_ ?_ (nomark _)
 refine je_v 2 2
 refine je_bi (x := "len") (id := "len") (fun X g => cb_len) ?_ (hb := m_len) (hv := by decide +kernel)
 refine ja_cons ?_ ?_
 refine je_v 1 1
 refine ja_nil
 refine je_v 3 3
 refine je_non
 refine jss_nil
abbrev n21 : List Str := ["_law_script", "_law_text_here", "_law_one", "_law_first", "_law_two_of", "_law_second", "_law_three", "_law_both", "_law_whole", "_law_still", "_law_asks", "_law_told"]
theorem s21 : FnScope n21 ["_law_script"] (defScope (top 29)) := ⟨rfl, rfl, rfl, by decide +kernel, rfl, by decide +kernel, by decide +kernel⟩
set_option maxHeartbeats 0 in
theorem b21 : JSs (tb a d) n (defScope (top 29)) n21 true (List.range n21.length) f21.body (defBody (top 29)) := by
 refine jss_cons ?_ ?_
 refine js_set 1 1 (by decide +kernel) (by decide +kernel) ?_
 refine je_cl (i := i17 a d) rfl ?_ (hd := g17)
 refine ja_cons ?_ ?_
 refine je_v 0 0
 refine ja_cons ?_ ?_
 refine je_int
 refine ja_cons ?_ ?_
 refine je_int
 refine ja_nil
 refine jss_cons ?_ ?_
 refine js_set 2 2 (by decide +kernel) (by decide +kernel) ?_
 refine je_cl (i := i18 a d) rfl ?_ (hd := g18)
 refine ja_cons ?_ ?_
 refine je_v 0 0
 refine ja_cons ?_ ?_
 refine je_int
 refine ja_cons ?_ ?_
 refine je_v 1 1
 refine ja_nil
 refine jss_cons ?_ ?_
 refine js_set 3 3 (by decide +kernel) (by decide +kernel) ?_
 refine je_cl (i := i20 a d) rfl ?_ (hd := g20)
 refine ja_cons ?_ ?_
 refine je_v 2 2
 refine ja_cons ?_ ?_
 refine je_v 1 1
 refine ja_nil
 refine jss_cons ?_ ?_
 refine js_set 4 4 (by decide +kernel) (by decide +kernel) ?_
 refine je_cl (i := i18 a d) rfl ?_ (hd := g18)
 refine ja_cons ?_ ?_
 refine je_v 0 0
 refine ja_cons ?_ ?_
 refine je_int
 refine ja_cons ?_ ?_
 refine je_v 3 3
 refine ja_nil
 refine jss_cons ?_ ?_
 refine js_set 5 5 (by decide +kernel) (by decide +kernel) ?_
 refine je_cl (i := i20 a d) rfl ?_ (hd := g20)
 refine ja_cons ?_ ?_
 refine je_v 4 4
 refine ja_cons ?_ ?_
 refine je_v 3 3
 refine ja_nil
 refine jss_cons ?_ ?_
 refine js_set 6 6 (by decide +kernel) (by decide +kernel) ?_
 refine je_cl (i := i18 a d) rfl ?_ (hd := g18)
 refine ja_cons ?_ ?_
 refine je_v 0 0
 refine ja_cons ?_ ?_
 refine je_int
 refine ja_cons ?_ ?_
 refine je_v 5 5
 refine ja_nil
 refine jss_cons ?_ ?_
 refine js_set 7 7 (by decide +kernel) (by decide +kernel) ?_
 refine je_cl (i := i10 a d) rfl ?_ (hd := g10)
 refine ja_cons ?_ ?_
 refine je_v 2 2
 refine ja_cons ?_ ?_
 refine je_v 4 4
 refine ja_nil
 refine jss_cons ?_ ?_
 refine js_iff ?_ ?_ ?_
 refine jt_w ?_
 refine jw_orr ?_ ?_
 refine jt_cmp (fun X g => oc_ne g) ?_ ?_ (nomark _)
 refine je_cl (i := i7 a d) rfl ?_ (hd := g7)
 refine ja_cons ?_ ?_
 refine je_v 7 7
 refine ja_cons ?_ ?_
 refine je_v 1 1
 refine ja_nil
 refine je_v 5 5
 refine jw_orr ?_ ?_
 refine jt_cmp (fun X g => oc_ne g) ?_ ?_ (nomark _)
 refine je_cl (i := i1 a d) rfl ?_ (hd := g1)
 refine ja_cons ?_ ?_
 refine je_v 7 7
 refine ja_nil
 refine je_bi (x := "len") (id := "len") (fun X g => cb_len) ?_ (hb := m_len) (hv := by decide +kernel)
 refine ja_cons ?_ ?_
 refine je_v 1 1
 refine ja_nil
 refine jw_orr1 ?_
 refine jt_cmp (fun X g => oc_ne g) ?_ ?_ (nomark _)
 refine je_cl (i := i2 a d) rfl ?_ (hd := g2)
 refine ja_cons ?_ ?_
 refine je_v 7 7
 refine ja_nil
 refine je_bi (x := "len") (id := "len") (fun X g => cb_len) ?_ (hb := m_len) (hv := by decide +kernel)
 refine ja_cons ?_ ?_
 refine je_v 5 5
 refine ja_nil
 refine jss_cons ?_ ?_
 refine js_ret ?_
 refine je_bl
 refine jss_nil
 refine jss_nil
 refine jss_cons ?_ ?_
 refine js_set 8 8 (by decide +kernel) (by decide +kernel) ?_
 refine je_cl (i := i10 a d) rfl ?_ (hd := g10)
 refine ja_cons ?_ ?_
 refine je_v 7 7
 refine ja_cons ?_ ?_
 refine je_v 6 6
 refine ja_nil
 refine jss_cons ?_ ?_
 refine js_iff ?_ ?_ ?_
 refine jt_w ?_
 refine jw_orr ?_ ?_
 refine jt_cmp (fun X g => oc_ne g) ?_ ?_ (nomark _)
 refine je_v 8 8
 refine je_cl (i := i10 a d) rfl ?_ (hd := g10)
 refine ja_cons ?_ ?_
 refine je_v 2 2
 refine ja_cons ?_ ?_
 refine je_cl (i := i10 a d) rfl ?_ (hd := g10)
 refine ja_cons ?_ ?_
 refine je_v 4 4
 refine ja_cons ?_ ?_
 refine je_v 6 6
 refine ja_nil
 refine ja_nil
 refine jw_orr1 ?_
 refine jt_cmp (fun X g => oc_ne g) ?_ ?_ (nomark _)
 refine je_v 8 8
 refine je_cl (i := i11 a d) rfl ?_ (hd := g11)
 refine ja_cons ?_ ?_
 refine je_bi (x := "len") (id := "len") (fun X g => cb_len) ?_ (hb := m_len) (hv := by decide +kernel)
 refine ja_cons ?_ ?_
 refine je_v 1 1
 refine ja_nil
 refine ja_cons ?_ ?_
 refine je_lst ?_
 refine ja_cons ?_ ?_
 refine je_v 2 2
 refine ja_cons ?_ ?_
 refine je_v 4 4
 refine ja_cons ?_ ?_
 refine je_v 6 6
 refine ja_nil
 refine ja_nil
 refine jss_cons ?_ ?_
 refine js_ret ?_
 refine je_bl
 refine jss_nil
 refine jss_nil
 refine jss_cons ?_ ?_
 refine js_iff ?_ ?_ ?_
 refine jt_w ?_
 refine jw_orr ?_ ?_
 refine jt_cmp (fun X g => oc_ne g) ?_ ?_ (nomark _)
 refine je_cl (i := i7 a d) rfl ?_ (hd := g7)
 refine ja_cons ?_ ?_
 refine je_v 8 8
 refine ja_cons ?_ ?_
 refine je_v 1 1
 refine ja_nil
 refine je_cl (i := i20 a d) rfl ?_ (hd := g20)
 refine ja_cons ?_ ?_
 refine je_v 6 6
 refine ja_cons ?_ ?_
 refine je_v 5 5
 refine ja_nil
 refine jw_orr1 ?_
 refine jt_cmp (fun X g => oc_gt) ?_ ?_ (nomark _)
 refine je_cl (i := i3 a d) rfl ?_ (hd := g3)
 refine ja_cons ?_ ?_
 refine je_v 7 7
 refine ja_nil
 refine je_bin (fun X g => ob_add) ?_ ?_
 refine je_cl (i := i3 a d) rfl ?_ (hd := g3)
 refine ja_cons ?_ ?_
 refine je_v 2 2
 refine ja_nil
 refine je_cl (i := i3 a d) rfl ?_ (hd := g3)
 refine ja_cons ?_ ?_
 refine je_v 4 4
 refine ja_nil
 refine jss_cons ?_ ?_
 refine js_ret ?_
 refine je_bl
 refine jss_nil
 refine jss_nil
 refine jss_cons ?_ ?_
 refine js_iff ?_ ?_ ?_
 refine jt_w ?_
 refine jw_orr ?_ ?_
 refine jt_cmp (fun X g => oc_ne g) ?_ ?_ (nomark _)
 refine je_cl (i := i10 a d) rfl ?_ (hd := g10)
 refine ja_cons ?_ ?_
 refine je_cl (i := i9 a d) rfl ?_ (hd := g9)
 refine ja_cons ?_ ?_
 refine je_bi (x := "len") (id := "len") (fun X g => cb_len) ?_ (hb := m_len) (hv := by decide +kernel)
 refine ja_cons ?_ ?_
 refine je_v 1 1
 refine ja_nil
 refine ja_nil
 refine ja_cons ?_ ?_
 refine je_v 2 2
 refine ja_nil
 refine je_cl (i := i4 a d) rfl ?_ (hd := g4)
 refine ja_cons ?_ ?_
 refine je_v 2 2
 refine ja_nil
 refine jw_orr1 ?_
 refine jt_cmp (fun X g => oc_ne g) ?_ ?_ (nomark _)
 refine je_cl (i := i10 a d) rfl ?_ (hd := g10)
 refine ja_cons ?_ ?_
 refine je_v 2 2
 refine ja_cons ?_ ?_
 refine je_cl (i := i9 a d) rfl ?_ (hd := g9)
 refine ja_cons ?_ ?_
 refine je_bi (x := "len") (id := "len") (fun X g => cb_len) ?_ (hb := m_len) (hv := by decide +kernel)
 refine ja_cons ?_ ?_
 refine je_v 3 3
 refine ja_nil
 refine ja_nil
 refine ja_nil
 refine je_cl (i := i4 a d) rfl ?_ (hd := g4)
 refine ja_cons ?_ ?_
 refine je_v 2 2
 refine ja_nil
 refine jss_cons ?_ ?_
 refine js_ret ?_
 refine je_bl
 refine jss_nil
 refine jss_nil
 refine jss_cons ?_ ?_
 refine js_iff ?_ ?_ ?_
 refine jt_w ?_
 refine jw_orr ?_ ?_
 refine jt_cmp (fun X g => oc_ne g) ?_ ?_ (nomark _)
 refine je_cl (i := i8 a d) rfl ?_ (hd := g8)
 refine ja_cons ?_ ?_
 refine je_v 7 7
 refine ja_nil
 refine je_cl (i := i10 a d) rfl ?_ (hd := g10)
 refine ja_cons ?_ ?_
 refine je_cl (i := i8 a d) rfl ?_ (hd := g8)
 refine ja_cons ?_ ?_
 refine je_v 4 4
 refine ja_nil
 refine ja_cons ?_ ?_
 refine je_cl (i := i8 a d) rfl ?_ (hd := g8)
 refine ja_cons ?_ ?_
 refine je_v 2 2
 refine ja_nil
 refine ja_nil
 refine jw_orr1 ?_
 refine jt_cmp (fun X g => oc_ne g) ?_ ?_ (nomark _)
 refine je_cl (i := i8 a d) rfl ?_ (hd := g8)
 refine ja_cons ?_ ?_
 refine je_v 8 8
 refine ja_nil
 refine je_cl (i := i10 a d) rfl ?_ (hd := g10)
 refine ja_cons ?_ ?_
 refine je_cl (i := i8 a d) rfl ?_ (hd := g8)
 refine ja_cons ?_ ?_
 refine je_v 6 6
 refine ja_nil
 refine ja_cons ?_ ?_
 refine je_cl (i := i8 a d) rfl ?_ (hd := g8)
 refine ja_cons ?_ ?_
 refine je_v 7 7
 refine ja_nil
 refine ja_nil
 refine jss_cons ?_ ?_
 refine js_ret ?_
 refine je_bl
 refine jss_nil
 refine jss_nil
 refine jss_cons ?_ ?_
 refine js_set 9 9 (by decide +kernel) (by decide +kernel) ?_
 refine je_cl (i := i10 a d) rfl ?_ (hd := g10)
 refine ja_cons ?_ ?_
 refine je_v 2 2
 refine ja_cons ?_ ?_
 refine je_cl (i := i8 a d) rfl ?_ (hd := g8)
 refine ja_cons ?_ ?_
 refine je_v 2 2
 refine ja_nil
 refine ja_nil
 refine jss_cons ?_ ?_
 refine js_setT ?_ ?_
 refine je_cl (i := i19 a d) rfl ?_ (hd := g19)
 refine ja_cons ?_ ?_
 refine je_v 2 2
 refine ja_nil
 refine jg_many ?_
 refine jgs_cons 10 10 (by decide +kernel) (by decide +kernel) ?_
 refine jgs_cons 11 11 (by decide +kernel) (by decide +kernel) ?_
 refine jgs_nil
 refine jss_cons ?_ ?_
 refine js_iff ?_ ?_ ?_
 refine jt_cmp (fun X g => oc_ne g) ?_ ?_ (nomark _)
 refine je_cl (i := i19 a d) rfl ?_ (hd := g19)
 refine ja_cons ?_ ?_
 refine je_v 9 9
 refine ja_nil
 refine je_tup ?_
 refine ja_cons ?_ ?_
 refine je_v 10 10
 refine ja_cons ?_ ?_
 refine je_comp (N' := ["_law_at", "_law_ask"]) (m' := [12, 13]) ?_ ?_ ?_ ?_ (namesOk.of (by decide +kernel)) (ScOk.of (by decide +kernel))
 refine ji_enum ?_ (hbl := m_enumerate)
 refine je_v 10 10
 refine jg_many ?_
 refine jgs_cons 0 12 (by decide +kernel) (by decide +kernel) ?_
 refine jgs_cons 1 13 (by decide +kernel) (by decide +kernel) ?_
 refine jgs_nil
 refine jc_no
 refine je_ife ?_ ?_ ?_
 refine jt_cmp (fun X g => oc_ne g) ?_ ?_ (nomark _)
 refine je_v 1 13
 refine je_str
 refine je_v 1 13
 refine je_v 0 12
 refine ja_nil
 refine jss_cons ?_ ?_
 refine js_ret ?_
 refine je_bl
 refine jss_nil
 refine jss_nil
 refine jss_cons ?_ ?_
 refine js_iff ?_ ?_ ?_
 refine jt_w ?_
 refine jw_orr ?_ ?_
 refine jt_cmp (fun X g => oc_ne g) ?_ ?_ (nomark _)
 refine je_cl (i := i7 a d) rfl ?_ (hd := g7)
 refine ja_cons ?_ ?_
 refine je_v 9 9
 refine ja_cons ?_ ?_
 refine je_v 1 1
 refine ja_nil
 refine je_v 1 1
 refine jw_orr1 ?_
 refine jt_cmp (fun X g => oc_ne g) ?_ ?_ (nomark _)
 refine je_cl (i := i10 a d) rfl ?_ (hd := g10)
 refine ja_cons ?_ ?_
 refine je_v 9 9
 refine ja_cons ?_ ?_
 refine je_v 2 2
 refine ja_nil
 refine je_cl (i := i4 a d) rfl ?_ (hd := g4)
 refine ja_cons ?_ ?_
 refine je_v 2 2
 refine ja_nil
 refine jss_cons ?_ ?_
 refine js_ret ?_
 refine je_bl
 refine jss_nil
 refine jss_nil
 refine jss_cons ?_ ?_
 refine js_ret ?_
 refine je_cmp (fun X g => oc_eq g) ?_ ?_ (nomark _)
 refine je_cl (i := i10 a d) rfl ?_ (hd := g10)
 refine ja_cons ?_ ?_
 refine je_v 2 2
 refine ja_cons ?_ ?_
 refine je_cl (i := i10 a d) rfl ?_ (hd := g10)
 refine ja_cons ?_ ?_
 refine je_cl (i := i8 a d) rfl ?_ (hd := g8)
 refine ja_cons ?_ ?_
 refine je_v 2 2
 refine ja_nil
 refine ja_cons ?_ ?_
 refine je_v 2 2
 refine ja_nil
 refine ja_nil
 refine je_cl (i := i4 a d) rfl ?_ (hd := g4)
 refine ja_cons ?_ ?_
 refine je_v 2 2
 refine ja_nil
 refine jss_nil
end
end Lw
set_option maxRecDepth 100000
namespace Lw
open PySem PySem.Spec PyProof.Rows L2 Sm
open Ev (D O Hh Fr R Phi E Es Eo T S Ss Fl Src BOp COp TY BI ME)
theorem len1 {α : Type _} {l : List α} (h : l.length = 1) : ∃ a, l = [a] := by
 rcases l with _ | ⟨a, _ | ⟨b, l⟩⟩ <;> simp at h ⊢
theorem len2 {α : Type _} {l : List α} (h : l.length = 2) : ∃ a b, l = [a, b] := by
 rcases l with _ | ⟨a, l⟩
 ·simp at h
 ·obtain ⟨b, rfl⟩ := len1 (l := l) (by simpa using h); exact ⟨a, b, rfl⟩
theorem len3 {α : Type _} {l : List α} (h : l.length = 3) : ∃ a b c, l = [a, b, c] := by
 rcases l with _ | ⟨a, l⟩
 ·simp at h
 ·obtain ⟨b, c, rfl⟩ := len2 (l := l) (by simpa using h); exact ⟨a, b, c, rfl⟩
theorem all_mk {l : PySem.W.OpenLaw} {w : World} {K : PySem.W.Frag} {h : Heap} {mg : Str → Option Value} {fa p0 p1 p2 p3 p4 p5 p6 p7 p8 p9 p10 p11 p12 p13 p14 p15 p16 p17 p18 p19 p20 p21 : Addr} (X : K.In h) (G : h.Ns mainGlobals mg) (hfa : mg "law" = some (.ref fa))
  {od0 an0 od1 an1 od2 an2 od3 an3 od4 an4 od5 an5 od6 an6 od7 an7 od8 an8 od9 an9 od10 an10 od11 an11 od12 an12 od13 an13 od14 an14 od15 an15 od16 an16 od17 an17 od18 an18 od19 an19 od20 an20 od21 an21 : Option Addr} {sl0 sl1 sl2 sl3 sl4 sl5 sl6 sl7 sl8 sl9 sl10 sl11 sl12 sl13 sl14 sl15 sl16 sl17 sl18 sl19 sl20 sl21 : Array (Option Value)} {oc0 kV0 dc0 pm0 cd0 ct0 oc1 kV1 dc1 pm1 cd1 ct1 oc2 kV2 dc2 pm2 cd2 ct2 oc3 kV3 dc3 pm3 cd3 ct3 oc4 kV4 dc4 pm4 cd4 ct4 oc5 kV5 dc5 pm5 cd5 ct5 oc6 kV6 dc6 pm6 cd6 ct6 oc7 kV7 dc7 pm7 cd7 ct7 oc8 kV8 dc8 pm8 cd8 ct8 oc9 kV9 dc9 pm9 cd9 ct9 oc10 kV10 dc10 pm10 cd10 ct10 oc11 kV11 dc11 pm11 cd11 ct11 oc12 kV12 dc12 pm12 cd12 ct12 oc13 kV13 dc13 pm13 cd13 ct13 oc14 kV14 dc14 pm14 cd14 ct14 oc15 kV15 dc15 pm15 cd15 ct15 oc16 kV16 dc16 pm16 cd16 ct16 oc17 kV17 dc17 pm17 cd17 ct17 oc18 kV18 dc18 pm18 cd18 ct18 oc19 kV19 dc19 pm19 cd19 ct19 oc20 kV20 dc20 pm20 cd20 ct20 oc21 kV21 dc21 pm21 cd21 ct21 : Value}
  (a0 : PySem.W.nsIn K mainGlobals "size" = some (some (.ref p0))) (l0 : K.lookup p0 = some ⟨oc0, od0, .func (PySem.W.fnOf "size" "size" (defArgs (top 1)) (defBody (top 1)) (defScope (top 1)) .none kV0 dc0 pm0 an0 cd0 ct0), sl0⟩) (c0 : PySem.W.codeIn K cd0 "size" = true) (k0 : PySem.W.keepIn K (.ref p0) = true)
  (a1 : PySem.W.nsIn K mainGlobals "before" = some (some (.ref p1))) (l1 : K.lookup p1 = some ⟨oc1, od1, .func (PySem.W.fnOf "before" "before" (defArgs (top 2)) (defBody (top 2)) (defScope (top 2)) .none kV1 dc1 pm1 an1 cd1 ct1), sl1⟩) (c1 : PySem.W.codeIn K cd1 "before" = true) (k1 : PySem.W.keepIn K (.ref p1) = true)
  (a2 : PySem.W.nsIn K mainGlobals "after" = some (some (.ref p2))) (l2 : K.lookup p2 = some ⟨oc2, od2, .func (PySem.W.fnOf "after" "after" (defArgs (top 3)) (defBody (top 3)) (defScope (top 3)) .none kV2 dc2 pm2 an2 cd2 ct2), sl2⟩) (c2 : PySem.W.codeIn K cd2 "after" = true) (k2 : PySem.W.keepIn K (.ref p2) = true)
  (a3 : PySem.W.nsIn K mainGlobals "cost" = some (some (.ref p3))) (l3 : K.lookup p3 = some ⟨oc3, od3, .func (PySem.W.fnOf "cost" "cost" (defArgs (top 4)) (defBody (top 4)) (defScope (top 4)) .none kV3 dc3 pm3 an3 cd3 ct3), sl3⟩) (c3 : PySem.W.codeIn K cd3 "cost" = true) (k3 : PySem.W.keepIn K (.ref p3) = true)
  (a4 : PySem.W.nsIn K mainGlobals "form" = some (some (.ref p4))) (l4 : K.lookup p4 = some ⟨oc4, od4, .func (PySem.W.fnOf "form" "form" (defArgs (top 5)) (defBody (top 5)) (defScope (top 5)) .none kV4 dc4 pm4 an4 cd4 ct4), sl4⟩) (c4 : PySem.W.codeIn K cd4 "form" = true) (k4 : PySem.W.keepIn K (.ref p4) = true)
  (a5 : PySem.W.nsIn K mainGlobals "stretch" = some (some (.ref p5))) (l5 : K.lookup p5 = some ⟨oc5, od5, .func (PySem.W.fnOf "stretch" "stretch" (defArgs (top 6)) (defBody (top 6)) (defScope (top 6)) .none kV5 dc5 pm5 an5 cd5 ct5), sl5⟩) (c5 : PySem.W.codeIn K cd5 "stretch" = true) (k5 : PySem.W.keepIn K (.ref p5) = true)
  (a6 : PySem.W.nsIn K mainGlobals "fits" = some (some (.ref p6))) (l6 : K.lookup p6 = some ⟨oc6, od6, .func (PySem.W.fnOf "fits" "fits" (defArgs (top 12)) (defBody (top 12)) (defScope (top 12)) .none kV6 dc6 pm6 an6 cd6 ct6), sl6⟩) (c6 : PySem.W.codeIn K cd6 "fits" = true) (k6 : PySem.W.keepIn K (.ref p6) = true)
  (a7 : PySem.W.nsIn K mainGlobals "done" = some (some (.ref p7))) (l7 : K.lookup p7 = some ⟨oc7, od7, .func (PySem.W.fnOf "done" "done" (defArgs (top 13)) (defBody (top 13)) (defScope (top 13)) .none kV7 dc7 pm7 an7 cd7 ct7), sl7⟩) (c7 : PySem.W.codeIn K cd7 "done" = true) (k7 : PySem.W.keepIn K (.ref p7) = true)
  (a8 : PySem.W.nsIn K mainGlobals "undone" = some (some (.ref p8))) (l8 : K.lookup p8 = some ⟨oc8, od8, .func (PySem.W.fnOf "undone" "undone" (defArgs (top 14)) (defBody (top 14)) (defScope (top 14)) .none kV8 dc8 pm8 an8 cd8 ct8), sl8⟩) (c8 : PySem.W.codeIn K cd8 "undone" = true) (k8 : PySem.W.keepIn K (.ref p8) = true)
  (a9 : PySem.W.nsIn K mainGlobals "nothing" = some (some (.ref p9))) (l9 : K.lookup p9 = some ⟨oc9, od9, .func (PySem.W.fnOf "nothing" "nothing" (defArgs (top 15)) (defBody (top 15)) (defScope (top 15)) .none kV9 dc9 pm9 an9 cd9 ct9), sl9⟩) (c9 : PySem.W.codeIn K cd9 "nothing" = true) (k9 : PySem.W.keepIn K (.ref p9) = true)
  (a10 : PySem.W.nsIn K mainGlobals "then" = some (some (.ref p10))) (l10 : K.lookup p10 = some ⟨oc10, od10, .func (PySem.W.fnOf "then" "then" (defArgs (top 16)) (defBody (top 16)) (defScope (top 16)) .none kV10 dc10 pm10 an10 cd10 ct10), sl10⟩) (c10 : PySem.W.codeIn K cd10 "then" = true) (k10 : PySem.W.keepIn K (.ref p10) = true)
  (a11 : PySem.W.nsIn K mainGlobals "all_then" = some (some (.ref p11))) (l11 : K.lookup p11 = some ⟨oc11, od11, .func (PySem.W.fnOf "all_then" "all_then" (defArgs (top 17)) (defBody (top 17)) (defScope (top 17)) .none kV11 dc11 pm11 an11 cd11 ct11), sl11⟩) (c11 : PySem.W.codeIn K cd11 "all_then" = true) (k11 : PySem.W.keepIn K (.ref p11) = true)
  (a12 : PySem.W.nsIn K mainGlobals "met" = some (some (.ref p12))) (l12 : K.lookup p12 = some ⟨oc12, od12, .func (PySem.W.fnOf "met" "met" (defArgs (top 18)) (defBody (top 18)) (defScope (top 18)) .none kV12 dc12 pm12 an12 cd12 ct12), sl12⟩) (c12 : PySem.W.codeIn K cd12 "met" = true) (k12 : PySem.W.keepIn K (.ref p12) = true)
  (a13 : PySem.W.nsIn K mainGlobals "taken" = some (some (.ref p13))) (l13 : K.lookup p13 = some ⟨oc13, od13, .func (PySem.W.fnOf "taken" "taken" (defArgs (top 19)) (defBody (top 19)) (defScope (top 19)) .none kV13 dc13 pm13 an13 cd13 ct13), sl13⟩) (c13 : PySem.W.codeIn K cd13 "taken" = true) (k13 : PySem.W.keepIn K (.ref p13) = true)
  (a14 : PySem.W.nsIn K mainGlobals "parted" = some (some (.ref p14))) (l14 : K.lookup p14 = some ⟨oc14, od14, .func (PySem.W.fnOf "parted" "parted" (defArgs (top 20)) (defBody (top 20)) (defScope (top 20)) .none kV14 dc14 pm14 an14 cd14 ct14), sl14⟩) (c14 : PySem.W.codeIn K cd14 "parted" = true) (k14 : PySem.W.keepIn K (.ref p14) = true)
  (a15 : PySem.W.nsIn K mainGlobals "_law_cell" = some (some (.ref p15))) (l15 : K.lookup p15 = some ⟨oc15, od15, .func (PySem.W.fnOf "_law_cell" "_law_cell" (defArgs (top 22)) (defBody (top 22)) (defScope (top 22)) .none kV15 dc15 pm15 an15 cd15 ct15), sl15⟩) (c15 : PySem.W.codeIn K cd15 "_law_cell" = true) (k15 : PySem.W.keepIn K (.ref p15) = true)
  (a16 : PySem.W.nsIn K mainGlobals "_law_drawn" = some (some (.ref p16))) (l16 : K.lookup p16 = some ⟨oc16, od16, .func (PySem.W.fnOf "_law_drawn" "_law_drawn" (defArgs (top 23)) (defBody (top 23)) (defScope (top 23)) .none kV16 dc16 pm16 an16 cd16 ct16), sl16⟩) (c16 : PySem.W.codeIn K cd16 "_law_drawn" = true) (k16 : PySem.W.keepIn K (.ref p16) = true)
  (a17 : PySem.W.nsIn K mainGlobals "_law_text" = some (some (.ref p17))) (l17 : K.lookup p17 = some ⟨oc17, od17, .func (PySem.W.fnOf "_law_text" "_law_text" (defArgs (top 24)) (defBody (top 24)) (defScope (top 24)) .none kV17 dc17 pm17 an17 cd17 ct17), sl17⟩) (c17 : PySem.W.codeIn K cd17 "_law_text" = true) (k17 : PySem.W.keepIn K (.ref p17) = true)
  (a18 : PySem.W.nsIn K mainGlobals "_law_change" = some (some (.ref p18))) (l18 : K.lookup p18 = some ⟨oc18, od18, .func (PySem.W.fnOf "_law_change" "_law_change" (defArgs (top 25)) (defBody (top 25)) (defScope (top 25)) .none kV18 dc18 pm18 an18 cd18 ct18), sl18⟩) (c18 : PySem.W.codeIn K cd18 "_law_change" = true) (k18 : PySem.W.keepIn K (.ref p18) = true)
  (a19 : PySem.W.nsIn K mainGlobals "_law_sense" = some (some (.ref p19))) (l19 : K.lookup p19 = some ⟨oc19, od19, .func (PySem.W.fnOf "_law_sense" "_law_sense" (defArgs (top 26)) (defBody (top 26)) (defScope (top 26)) .none kV19 dc19 pm19 an19 cd19 ct19), sl19⟩) (c19 : PySem.W.codeIn K cd19 "_law_sense" = true) (k19 : PySem.W.keepIn K (.ref p19) = true)
  (a20 : PySem.W.nsIn K mainGlobals "_law_made" = some (some (.ref p20))) (l20 : K.lookup p20 = some ⟨oc20, od20, .func (PySem.W.fnOf "_law_made" "_law_made" (defArgs (top 28)) (defBody (top 28)) (defScope (top 28)) .none kV20 dc20 pm20 an20 cd20 ct20), sl20⟩) (c20 : PySem.W.codeIn K cd20 "_law_made" = true) (k20 : PySem.W.keepIn K (.ref p20) = true)
  (a21 : PySem.W.nsIn K mainGlobals "law" = some (some (.ref p21))) (l21 : K.lookup p21 = some ⟨oc21, od21, .func (PySem.W.fnOf "law" "law" (defArgs (top 29)) (defBody (top 29)) (defScope (top 29)) .none kV21 dc21 pm21 an21 cd21 ct21), sl21⟩) (c21 : PySem.W.codeIn K cd21 "law" = true) (k21 : PySem.W.keepIn K (.ref p21) = true)
  (z0 : PySem.W.nsIn K mainGlobals "enumerate" = some none)
  (z1 : PySem.W.nsIn K mainGlobals "len" = some none)
  (z2 : PySem.W.nsIn K mainGlobals "list" = some none)
  (z3 : PySem.W.nsIn K mainGlobals "min" = some none)
  (z4 : PySem.W.nsIn K mainGlobals "range" = some none)
  (z5 : PySem.W.nsIn K mainGlobals "reversed" = some none)
  (z6 : PySem.W.nsIn K mainGlobals "sum" = some none)
  (z7 : PySem.W.nsIn K mainGlobals "tuple" = some none)
  {t0 : Tok} (q0 : PySem.W.nsIn K mainGlobals "__name__" = some (some (.str "law_pastways_k13_whole_then" t0)))
  {pd0 : Addr} (dk0 : PySem.W.nsIn K mainGlobals "TURNED" = some (some (.ref pd0))) (dt0 : PyProof.Rows.KTD.tabLook PyProof.Rows.KTD.flatLooks (fun b => K.lookup b) pd0 [(sOf [107, 101, 101, 112], PyData.str (sOf [107, 101, 101, 112])), (sOf [112, 117, 116], PyData.str (sOf [100, 114, 111, 112])), (sOf [100, 114, 111, 112], PyData.str (sOf [112, 117, 116]))] = true) (du0 : PyProof.Rows.KTD.hashesOf (fun b => K.lookup b) pd0 = ([(sOf [107, 101, 101, 112], PyData.str (sOf [107, 101, 101, 112])), (sOf [112, 117, 116], PyData.str (sOf [100, 114, 111, 112])), (sOf [100, 114, 111, 112], PyData.str (sOf [112, 117, 116]))] : List (Str × PyData)).map fun p => (PySem.strKind l.prog w).hash p.1)
  : ∃ fd : FuncData, (∀ (s : Shared) (v : Value), BindsTo s fd ⟨[v], []⟩ [("_law_script", v)]) ∧ ∀ base : Heap, K.In base → base.Ns mainGlobals mg → FnOk l.prog w K mg base CX0 60 fa fd ["_law_script"] (spF K prog 100000 60 21) := by
 have e := hfa.symm.trans (PySem.W.mg_of X G a21)
 have e2 : p21 = fa := by injection e with e; injection e with e; exact e.symm
 subst e2
 have F0 := fun_mk (st := top 1) l0 c0 k0
 have B0 := F0.binds (ps := ["part"]) fun _ _ _ _ _ _ us hl => by obtain ⟨_, rfl⟩ := len1 hl; rfl
 have F1 := fun_mk (st := top 2) l1 c1 k1
 have B1 := F1.binds (ps := ["change"]) fun _ _ _ _ _ _ us hl => by obtain ⟨_, rfl⟩ := len1 hl; rfl
 have F2 := fun_mk (st := top 3) l2 c2 k2
 have B2 := F2.binds (ps := ["change"]) fun _ _ _ _ _ _ us hl => by obtain ⟨_, rfl⟩ := len1 hl; rfl
 have F3 := fun_mk (st := top 4) l3 c3 k3
 have B3 := F3.binds (ps := ["change"]) fun _ _ _ _ _ _ us hl => by obtain ⟨_, rfl⟩ := len1 hl; rfl
 have F4 := fun_mk (st := top 5) l4 c4 k4
 have B4 := F4.binds (ps := ["change"]) fun _ _ _ _ _ _ us hl => by obtain ⟨_, rfl⟩ := len1 hl; rfl
 have F5 := fun_mk (st := top 6) l5 c5 k5
 have B5 := F5.binds (ps := ["kept", "gone", "new"]) fun _ _ _ _ _ _ us hl => by obtain ⟨_, _, _, rfl⟩ := len3 hl; rfl
 have F6 := fun_mk (st := top 12) l6 c6 k6
 have B6 := F6.binds (ps := ["change", "text"]) fun _ _ _ _ _ _ us hl => by obtain ⟨_, _, rfl⟩ := len2 hl; rfl
 have F7 := fun_mk (st := top 13) l7 c7 k7
 have B7 := F7.binds (ps := ["change", "text"]) fun _ _ _ _ _ _ us hl => by obtain ⟨_, _, rfl⟩ := len2 hl; rfl
 have F8 := fun_mk (st := top 14) l8 c8 k8
 have B8 := F8.binds (ps := ["change"]) fun _ _ _ _ _ _ us hl => by obtain ⟨_, rfl⟩ := len1 hl; rfl
 have F9 := fun_mk (st := top 15) l9 c9 k9
 have B9 := F9.binds (ps := ["many"]) fun _ _ _ _ _ _ us hl => by obtain ⟨_, rfl⟩ := len1 hl; rfl
 have F10 := fun_mk (st := top 16) l10 c10 k10
 have B10 := F10.binds (ps := ["one", "other"]) fun _ _ _ _ _ _ us hl => by obtain ⟨_, _, rfl⟩ := len2 hl; rfl
 have F11 := fun_mk (st := top 17) l11 c11 k11
 have B11 := F11.binds (ps := ["many", "rows"]) fun _ _ _ _ _ _ us hl => by obtain ⟨_, _, rfl⟩ := len2 hl; rfl
 have F12 := fun_mk (st := top 18) l12 c12 k12
 have B12 := F12.binds (ps := ["left", "gone_through"]) fun _ _ _ _ _ _ us hl => by obtain ⟨_, _, rfl⟩ := len2 hl; rfl
 have F13 := fun_mk (st := top 19) l13 c13 k13
 have B13 := F13.binds (ps := ["parts", "many"]) fun _ _ _ _ _ _ us hl => by obtain ⟨_, _, rfl⟩ := len2 hl; rfl
 have F14 := fun_mk (st := top 20) l14 c14 k14
 have B14 := F14.binds (ps := ["part", "many"]) fun _ _ _ _ _ _ us hl => by obtain ⟨_, _, rfl⟩ := len2 hl; rfl
 have F15 := fun_mk (st := top 22) l15 c15 k15
 have B15 := F15.binds (ps := ["_law_script", "_law_k"]) fun _ _ _ _ _ _ us hl => by obtain ⟨_, _, rfl⟩ := len2 hl; rfl
 have F16 := fun_mk (st := top 23) l16 c16 k16
 have B16 := F16.binds (ps := ["_law_script", "_law_k", "_law_many"]) fun _ _ _ _ _ _ us hl => by obtain ⟨_, _, _, rfl⟩ := len3 hl; rfl
 have F17 := fun_mk (st := top 24) l17 c17 k17
 have B17 := F17.binds (ps := ["_law_script", "_law_at", "_law_most"]) fun _ _ _ _ _ _ us hl => by obtain ⟨_, _, _, rfl⟩ := len3 hl; rfl
 have F18 := fun_mk (st := top 25) l18 c18 k18
 have B18 := F18.binds (ps := ["_law_script", "_law_at", "_law_text_here"]) fun _ _ _ _ _ _ us hl => by obtain ⟨_, _, _, rfl⟩ := len3 hl; rfl
 have F19 := fun_mk (st := top 26) l19 c19 k19
 have B19 := F19.binds (ps := ["_law_change_here"]) fun _ _ _ _ _ _ us hl => by obtain ⟨_, rfl⟩ := len1 hl; rfl
 have F20 := fun_mk (st := top 28) l20 c20 k20
 have B20 := F20.binds (ps := ["_law_change_here", "_law_text_here"]) fun _ _ _ _ _ _ us hl => by obtain ⟨_, _, rfl⟩ := len2 hl; rfl
 have F21 := fun_mk (st := top 29) l21 c21 k21
 have B21 := F21.binds (ps := ["_law_script"]) fun _ _ _ _ _ _ us hl => by obtain ⟨_, rfl⟩ := len1 hl; rfl
 let aa : Nat → Addr := fun k => [p0, p1, p2, p3, p4, p5, p6, p7, p8, p9, p10, p11, p12, p13, p14, p15, p16, p17, p18, p19, p20, p21].getD k p0
 let dd : Nat → FuncData := fun k => [(PySem.W.fnOf "size" "size" (defArgs (top 1)) (defBody (top 1)) (defScope (top 1)) .none kV0 dc0 pm0 an0 cd0 ct0), (PySem.W.fnOf "before" "before" (defArgs (top 2)) (defBody (top 2)) (defScope (top 2)) .none kV1 dc1 pm1 an1 cd1 ct1), (PySem.W.fnOf "after" "after" (defArgs (top 3)) (defBody (top 3)) (defScope (top 3)) .none kV2 dc2 pm2 an2 cd2 ct2), (PySem.W.fnOf "cost" "cost" (defArgs (top 4)) (defBody (top 4)) (defScope (top 4)) .none kV3 dc3 pm3 an3 cd3 ct3), (PySem.W.fnOf "form" "form" (defArgs (top 5)) (defBody (top 5)) (defScope (top 5)) .none kV4 dc4 pm4 an4 cd4 ct4), (PySem.W.fnOf "stretch" "stretch" (defArgs (top 6)) (defBody (top 6)) (defScope (top 6)) .none kV5 dc5 pm5 an5 cd5 ct5), (PySem.W.fnOf "fits" "fits" (defArgs (top 12)) (defBody (top 12)) (defScope (top 12)) .none kV6 dc6 pm6 an6 cd6 ct6), (PySem.W.fnOf "done" "done" (defArgs (top 13)) (defBody (top 13)) (defScope (top 13)) .none kV7 dc7 pm7 an7 cd7 ct7), (PySem.W.fnOf "undone" "undone" (defArgs (top 14)) (defBody (top 14)) (defScope (top 14)) .none kV8 dc8 pm8 an8 cd8 ct8), (PySem.W.fnOf "nothing" "nothing" (defArgs (top 15)) (defBody (top 15)) (defScope (top 15)) .none kV9 dc9 pm9 an9 cd9 ct9), (PySem.W.fnOf "then" "then" (defArgs (top 16)) (defBody (top 16)) (defScope (top 16)) .none kV10 dc10 pm10 an10 cd10 ct10), (PySem.W.fnOf "all_then" "all_then" (defArgs (top 17)) (defBody (top 17)) (defScope (top 17)) .none kV11 dc11 pm11 an11 cd11 ct11), (PySem.W.fnOf "met" "met" (defArgs (top 18)) (defBody (top 18)) (defScope (top 18)) .none kV12 dc12 pm12 an12 cd12 ct12), (PySem.W.fnOf "taken" "taken" (defArgs (top 19)) (defBody (top 19)) (defScope (top 19)) .none kV13 dc13 pm13 an13 cd13 ct13), (PySem.W.fnOf "parted" "parted" (defArgs (top 20)) (defBody (top 20)) (defScope (top 20)) .none kV14 dc14 pm14 an14 cd14 ct14), (PySem.W.fnOf "_law_cell" "_law_cell" (defArgs (top 22)) (defBody (top 22)) (defScope (top 22)) .none kV15 dc15 pm15 an15 cd15 ct15), (PySem.W.fnOf "_law_drawn" "_law_drawn" (defArgs (top 23)) (defBody (top 23)) (defScope (top 23)) .none kV16 dc16 pm16 an16 cd16 ct16), (PySem.W.fnOf "_law_text" "_law_text" (defArgs (top 24)) (defBody (top 24)) (defScope (top 24)) .none kV17 dc17 pm17 an17 cd17 ct17), (PySem.W.fnOf "_law_change" "_law_change" (defArgs (top 25)) (defBody (top 25)) (defScope (top 25)) .none kV18 dc18 pm18 an18 cd18 ct18), (PySem.W.fnOf "_law_sense" "_law_sense" (defArgs (top 26)) (defBody (top 26)) (defScope (top 26)) .none kV19 dc19 pm19 an19 cd19 ct19), (PySem.W.fnOf "_law_made" "_law_made" (defArgs (top 28)) (defBody (top 28)) (defScope (top 28)) .none kV20 dc20 pm20 an20 cd20 ct20), (PySem.W.fnOf "law" "law" (defArgs (top 29)) (defBody (top 29)) (defScope (top 29)) .none kV21 dc21 pm21 an21 cd21 ct21)].getD k (PySem.W.fnOf "size" "size" (defArgs (top 1)) (defBody (top 1)) (defScope (top 1)) .none kV0 dc0 pm0 an0 cd0 ct0)
 have T : Top l.prog w K mg (tb aa dd) := by
  refine ⟨fun f i hi => ?_, ?_, ?_, ?_⟩
  ·match f, hi with
   | 0, hi => obtain rfl : i0 aa dd = i := Option.some.inj hi; exact ⟨PySem.W.mg_of X G a0, k0, B0⟩
   | 1, hi => obtain rfl : i1 aa dd = i := Option.some.inj hi; exact ⟨PySem.W.mg_of X G a1, k1, B1⟩
   | 2, hi => obtain rfl : i2 aa dd = i := Option.some.inj hi; exact ⟨PySem.W.mg_of X G a2, k2, B2⟩
   | 3, hi => obtain rfl : i3 aa dd = i := Option.some.inj hi; exact ⟨PySem.W.mg_of X G a3, k3, B3⟩
   | 4, hi => obtain rfl : i4 aa dd = i := Option.some.inj hi; exact ⟨PySem.W.mg_of X G a4, k4, B4⟩
   | 5, hi => obtain rfl : i5 aa dd = i := Option.some.inj hi; exact ⟨PySem.W.mg_of X G a5, k5, B5⟩
   | 6, hi => obtain rfl : i6 aa dd = i := Option.some.inj hi; exact ⟨PySem.W.mg_of X G a6, k6, B6⟩
   | 7, hi => obtain rfl : i7 aa dd = i := Option.some.inj hi; exact ⟨PySem.W.mg_of X G a7, k7, B7⟩
   | 8, hi => obtain rfl : i8 aa dd = i := Option.some.inj hi; exact ⟨PySem.W.mg_of X G a8, k8, B8⟩
   | 9, hi => obtain rfl : i9 aa dd = i := Option.some.inj hi; exact ⟨PySem.W.mg_of X G a9, k9, B9⟩
   | 10, hi => obtain rfl : i10 aa dd = i := Option.some.inj hi; exact ⟨PySem.W.mg_of X G a10, k10, B10⟩
   | 11, hi => obtain rfl : i11 aa dd = i := Option.some.inj hi; exact ⟨PySem.W.mg_of X G a11, k11, B11⟩
   | 12, hi => obtain rfl : i12 aa dd = i := Option.some.inj hi; exact ⟨PySem.W.mg_of X G a12, k12, B12⟩
   | 13, hi => obtain rfl : i13 aa dd = i := Option.some.inj hi; exact ⟨PySem.W.mg_of X G a13, k13, B13⟩
   | 14, hi => obtain rfl : i14 aa dd = i := Option.some.inj hi; exact ⟨PySem.W.mg_of X G a14, k14, B14⟩
   | 15, hi => obtain rfl : i15 aa dd = i := Option.some.inj hi; exact ⟨PySem.W.mg_of X G a15, k15, B15⟩
   | 16, hi => obtain rfl : i16 aa dd = i := Option.some.inj hi; exact ⟨PySem.W.mg_of X G a16, k16, B16⟩
   | 17, hi => obtain rfl : i17 aa dd = i := Option.some.inj hi; exact ⟨PySem.W.mg_of X G a17, k17, B17⟩
   | 18, hi => obtain rfl : i18 aa dd = i := Option.some.inj hi; exact ⟨PySem.W.mg_of X G a18, k18, B18⟩
   | 19, hi => obtain rfl : i19 aa dd = i := Option.some.inj hi; exact ⟨PySem.W.mg_of X G a19, k19, B19⟩
   | 20, hi => obtain rfl : i20 aa dd = i := Option.some.inj hi; exact ⟨PySem.W.mg_of X G a20, k20, B20⟩
   | 21, hi => obtain rfl : i21 aa dd = i := Option.some.inj hi; exact ⟨PySem.W.mg_of X G a21, k21, B21⟩
   | j + 22, hi => exact nomatch (show (none : Option FI) = some i from hi)
  ·exact (show ∀ x ∈ bls, mg x = none from List.forall_mem_cons.mpr ⟨PySem.W.mg_none_of X G z0, List.forall_mem_cons.mpr ⟨PySem.W.mg_none_of X G z1, List.forall_mem_cons.mpr ⟨PySem.W.mg_none_of X G z2, List.forall_mem_cons.mpr ⟨PySem.W.mg_none_of X G z3, List.forall_mem_cons.mpr ⟨PySem.W.mg_none_of X G z4, List.forall_mem_cons.mpr ⟨PySem.W.mg_none_of X G z5, List.forall_mem_cons.mpr ⟨PySem.W.mg_none_of X G z6, List.forall_mem_cons.mpr ⟨PySem.W.mg_none_of X G z7, fun _ h => nomatch h⟩⟩⟩⟩⟩⟩⟩⟩)
  ·exact fun x d hx => (show ∀ y ∈ (tb aa dd).cs, ∃ v u, mg y.1 = some u ∧ RelV v u ∧ isC y.2 v from List.forall_mem_cons.mpr ⟨⟨.str "law_pastways_k13_whole_then", _, PySem.W.mg_of X G q0, ⟨_, rfl⟩, ⟨by decide +kernel, by decide⟩⟩, fun _ h => nomatch h⟩) (x, d) hx
  ·exact fun x d hx => (show ∀ y ∈ (tb aa dd).dk, ∃ a, mg y.1 = some (.ref a) ∧ ∀ h : Heap, K.In h → StrTab l.prog w h a (tabOf y.2) from List.forall_mem_cons.mpr ⟨⟨pd0, PySem.W.mg_of X G dk0, fun h hK => PySem.W.kt_tab_in l.prog w hK dt0 (by decide +kernel) du0⟩, fun _ h => nomatch h⟩) (x, d) hx
 refine ⟨PySem.W.fnOf "law" "law" (defArgs (top 29)) (defBody (top 29)) (defScope (top 29)) .none kV21 dc21 pm21 an21 cd21 ct21, fun s v => .of_eq rfl, fun base _ _ => ?_⟩
 refine all_ok (P := l.prog) (w := w) (base := base) T (fun n A0 f i hi => ?_) 60 21 (i21 aa dd) rfl
 match f, hi with
 | 0, hi => obtain rfl : i0 aa dd = i := Option.some.inj hi; exact fn_ok (i := i0 aa dd) T A0 F0 s0 rfl rfl b0
 | 1, hi => obtain rfl : i1 aa dd = i := Option.some.inj hi; exact fn_ok (i := i1 aa dd) T A0 F1 s1 rfl rfl b1
 | 2, hi => obtain rfl : i2 aa dd = i := Option.some.inj hi; exact fn_ok (i := i2 aa dd) T A0 F2 s2 rfl rfl b2
 | 3, hi => obtain rfl : i3 aa dd = i := Option.some.inj hi; exact fn_ok (i := i3 aa dd) T A0 F3 s3 rfl rfl b3
 | 4, hi => obtain rfl : i4 aa dd = i := Option.some.inj hi; exact fn_ok (i := i4 aa dd) T A0 F4 s4 rfl rfl b4
 | 5, hi => obtain rfl : i5 aa dd = i := Option.some.inj hi; exact fn_ok (i := i5 aa dd) T A0 F5 s5 rfl rfl b5
 | 6, hi => obtain rfl : i6 aa dd = i := Option.some.inj hi; exact fn_ok (i := i6 aa dd) T A0 F6 s6 rfl rfl b6
 | 7, hi => obtain rfl : i7 aa dd = i := Option.some.inj hi; exact fn_ok (i := i7 aa dd) T A0 F7 s7 rfl rfl b7
 | 8, hi => obtain rfl : i8 aa dd = i := Option.some.inj hi; exact fn_ok (i := i8 aa dd) T A0 F8 s8 rfl rfl b8
 | 9, hi => obtain rfl : i9 aa dd = i := Option.some.inj hi; exact fn_ok (i := i9 aa dd) T A0 F9 s9 rfl rfl b9
 | 10, hi => obtain rfl : i10 aa dd = i := Option.some.inj hi; exact fn_ok (i := i10 aa dd) T A0 F10 s10 rfl rfl b10
 | 11, hi => obtain rfl : i11 aa dd = i := Option.some.inj hi; exact fn_ok (i := i11 aa dd) T A0 F11 s11 rfl rfl b11
 | 12, hi => obtain rfl : i12 aa dd = i := Option.some.inj hi; exact fn_ok (i := i12 aa dd) T A0 F12 s12 rfl rfl b12
 | 13, hi => obtain rfl : i13 aa dd = i := Option.some.inj hi; exact fn_ok (i := i13 aa dd) T A0 F13 s13 rfl rfl b13
 | 14, hi => obtain rfl : i14 aa dd = i := Option.some.inj hi; exact fn_ok (i := i14 aa dd) T A0 F14 s14 rfl rfl b14
 | 15, hi => obtain rfl : i15 aa dd = i := Option.some.inj hi; exact fn_ok (i := i15 aa dd) T A0 F15 s15 rfl rfl b15
 | 16, hi => obtain rfl : i16 aa dd = i := Option.some.inj hi; exact fn_ok (i := i16 aa dd) T A0 F16 s16 rfl rfl b16
 | 17, hi => obtain rfl : i17 aa dd = i := Option.some.inj hi; exact fn_ok (i := i17 aa dd) T A0 F17 s17 rfl rfl b17
 | 18, hi => obtain rfl : i18 aa dd = i := Option.some.inj hi; exact fn_ok (i := i18 aa dd) T A0 F18 s18 rfl rfl b18
 | 19, hi => obtain rfl : i19 aa dd = i := Option.some.inj hi; exact fn_ok (i := i19 aa dd) T A0 F19 s19 rfl rfl b19
 | 20, hi => obtain rfl : i20 aa dd = i := Option.some.inj hi; exact fn_ok (i := i20 aa dd) T A0 F20 s20 rfl rfl b20
 | 21, hi => obtain rfl : i21 aa dd = i := Option.some.inj hi; exact fn_ok (i := i21 aa dd) T A0 F21 s21 rfl rfl b21
 | j + 22, hi => exact nomatch (show (none : Option FI) = some i from hi)
end Lw
namespace Lg
open Pv
open Lw (prog f21 q21_0 q21_1 q21_2 q21_3 q21_4 q21_5 q21_6 q21_7 q21_8 q21_9 q21_10 q21_11 q21_12 q21_13 q21_14 q21_15 q21_16 q21_17)
open Ev (deep big rep cut atI)
theorem chg_b (ns : List Int) (k : Int) (x : List Nat) (b : Nat) (h : x.length ≤ b) : (chg ns k x).length ≤ 2 * b + 2 ∧ tot (chg ns k x) ≤ 3 * b + 3 := by
 have h1 := chgTo_len ns k x (x.length + 1)
 have h2 := chgTo_tot ns k x (x.length + 1)
 simp only [chg]; omega
theorem undo_b (c : List Pt) : (undo c).length ≤ tot c ∧ tot (undo c) = tot c := by
 have h1 : tot (undo c) = tot c := by
  simp only [undo]; rw [tot_form]
  induction c with
  | nil => rfl
  | cons p c ih => cases p <;> simp [sw, Pt.sw, tot, Pt.n] at ih ⊢ <;> omega
 exact ⟨by have := pos_len (isF_pos (isF_form (sw c))); simp only [undo] at h1 ⊢; omega, h1⟩
theorem undo_fit {c : List Pt} {t : List Nat} (h : fitG c t = true) : fitG (undo c) (doneG c t) = true ∧ doneG (undo c) (doneG c t) = t := by
 have := back_fit c t h
 simp only [undo]; rw [fit_form, done_form]; exact this
theorem undo_told (c : List Pt) : told 0 (undo c) = told 0 (sw c) := by simp only [undo]; rw [told_form]
theorem f_eq {a b : List Pt} {t : List Nat} (fa : form a = a) (fb : form b = b) (ha : fitG a t = true) (hb : fitG b t = true) (h : told 0 a = told 0 b) : a = b := by rw [← fa, ← fb]; exact form_told ha hb h
theorem keep_told (n : Nat) : told 0 [.keep n] = (List.range n).map Tq.at := by simp [told, Pt.told]
theorem idL {c : List Pt} {t : List Nat} (h : fitG c t = true) : (told 0 c).map (sub (told 0 [.keep t.length])) = told 0 c := by
 rw [told_ats c, keep_told]
 refine sub_stay fun j hj => ?_
 have : j < (aA (ats c)).length := (List.getElem?_eq_some_iff.mp hj).1
 rw [← asks_ats, len_asks, ← fit_bef h] at this
 simp [this]
theorem comp_enum {P : Phi} {fr : Fr} (hf : ∀ (i : Nat) (x : List Nat), turnC P (.ife (.cmp .ne (.v 13) (.c (.str []))) (.v 13) (.v 12)) (.many [12, 13]) .no fr (.tup [.int i, .str x]) = some (some (if x = [] then .int i else .str x))) : ∀ (a : List At) (i : Nat), compL (turnC P (.ife (.cmp .ne (.v 13) (.c (.str []))) (.v 13) (.v 12)) (.many [12, 13]) .no fr) (enumD i ((aA a).map V.str)) = some ((eA i (aA a)).map Tq.v)
 | [], i => rfl
 | .k :: a, i => by
  have ih := comp_enum hf a (i + 1)
  simp only [aA, List.map_cons, enumD, compL, hf, eA]
  rw [show ((i : Int) + 1) = ((i + 1 : Nat) : Int) by simp, ih]; rfl
 | .d c :: a, i => by
  have ih := comp_enum hf a (i + 1)
  simp only [aA, List.map_cons, enumD, compL, hf, eA]
  rw [show ((i : Int) + 1) = ((i + 1 : Nat) : Int) by simp, ih]; rfl
 | .p c :: a, i => comp_enum hf a i
theorem eA_len : ∀ (A : List (List Nat)) (i : Nat), (eA i A).length = A.length
 | [], _ => rfl
 | [] :: A, i => by simp [eA, eA_len A]
 | (c :: l) :: A, i => by simp [eA, eA_len A]
variable {w n : Nat} {ns : List Int} (hn : ns.length ≤ 63) (hw : 5000 < w)
include hn hw
set_option maxHeartbeats 2000000 in
theorem law_ok : run prog w (n + 9) 21 [.val (scr ns)] = some (.bl true, []) := by
 have ht : (txt ns 0 5).length ≤ 5 := txt_len ns 0 (most := 5) (by decide)
 have c8 := fun fr => call3 (fr := fr) (run_text (F := prog) (c := 15) (dr := 16) (t := 17) (w := w) (n := n + 5) rfl rfl hn rfl 0 5 (by decide) (by decide))
 generalize txt ns 0 5 = t at ht c8
 have hf1 := fit_chg ns 10 t
 have d1 := fun fr => call3 (fr := fr) (run_change (F := prog) (c := 15) (dr := 16) (t := 18) (w := w) (n := n + 5) rfl rfl hn rfl 10 t (by omega))
 obtain ⟨lo, to⟩ := chg_b ns 10 t 5 ht
 generalize chg ns 10 t = one at hf1 d1 lo to
 have hm1 : (doneG one t).length ≤ 23 := by have := done_len one t; omega
 have e1 := fun fr => call2 (fr := fr) (run_made (F := prog) (i := 20) (w := w) (n := n + 7) rfl one t (by omega) (by omega) hf1)
 obtain ⟨u1, v1⟩ := undo_fit hf1
 have an1 := aft_done hf1
 generalize hM1 : doneG one t = m1 at hm1 e1 u1 v1 an1
 have hf2 := fit_chg ns 50 m1
 have d2 := fun fr => call3 (fr := fr) (run_change (F := prog) (c := 15) (dr := 16) (t := 18) (w := w) (n := n + 5) rfl rfl hn rfl 50 m1 (by omega))
 obtain ⟨l2, t2⟩ := chg_b ns 50 m1 23 hm1
 generalize chg ns 50 m1 = two at hf2 d2 l2 t2
 have hm2 : (doneG two m1).length ≤ 95 := by have := done_len two m1; omega
 have e2 := fun fr => call2 (fr := fr) (run_made (F := prog) (i := 20) (w := w) (n := n + 7) rfl two m1 (by omega) (by omega) hf2)
 obtain ⟨u2, v2⟩ := undo_fit hf2
 generalize hM2 : doneG two m1 = m2 at hm2 e2 u2 v2
 have hf3 := fit_chg ns 150 m2
 have d3 := fun fr => call3 (fr := fr) (run_change (F := prog) (c := 15) (dr := 16) (t := 18) (w := w) (n := n + 5) rfl rfl hn rfl 150 m2 (by omega))
 obtain ⟨l3, t3⟩ := chg_b ns 150 m2 95 hm2
 generalize chg ns 150 m2 = three at hf3 d3 l3 t3
 have hm3 : (doneG three m2).length ≤ 400 := by have := done_len three m2; omega
 have e3 := fun fr => call2 (fr := fr) (run_made (F := prog) (i := 20) (w := w) (n := n + 7) rfl three m2 (by omega) (by omega) hf3)
 obtain ⟨u3, v3⟩ := undo_fit hf3
 generalize hM3 : doneG three m2 = m3 at hm3 e3 u3 v3
 have one_t : tot one ≤ 2000 := Nat.le_trans to (by decide)
 have one_l : one.length ≤ 2000 := Nat.le_trans lo (by decide)
 have two_t : tot two ≤ 2000 := Nat.le_trans t2 (by decide)
 have two_l : two.length ≤ 2000 := Nat.le_trans l2 (by decide)
 have three_t : tot three ≤ 2000 := Nat.le_trans t3 (by decide)
 have three_l : three.length ≤ 2000 := Nat.le_trans l3 (by decide)
 have t_l : t.length ≤ 2000 := Nat.le_trans ht (by decide)
 have m1_l : m1.length ≤ 2000 := Nat.le_trans hm1 (by decide)
 have m2_l : m2.length ≤ 2000 := Nat.le_trans hm2 (by decide)
 have m3_l : m3.length ≤ 2000 := Nat.le_trans hm3 (by decide)
 have up : ∀ {a b : Nat}, a ≤ 2000 → 2000 ≤ b → a ≤ b := fun h1 h2 => Nat.le_trans h1 h2
 have th := fun (a b : List Pt) (s : List Nat) h1 h2 (b1 : tot a ≤ 2000) (b2 : tot b ≤ 2000) (b3 : a.length ≤ 2000) (b4 : b.length ≤ 2000) => run_then (F := prog) (i_size := 0) (i_parted := 14) (i_taken := 13) (i_met := 12) (i_stretch := 5) (i_form := 4) (i_before := 1) (i_after := 2) (i := 10) (w := w) (n := n + 5) rfl rfl rfl rfl rfl rfl rfl rfl rfl hw a b s h1 h2 b1 b2 b3 b4
 obtain ⟨both, r1, B⟩ := th one two t hf1 (by rw [hM1]; exact hf2) one_t two_t one_l two_l
 have Bt : tot both ≤ 90 := Nat.le_trans B.tt (Nat.add_le_add to t2)
 have both_t : tot both ≤ 2000 := Nat.le_trans Bt (by decide)
 have both_l : both.length ≤ 2000 := Nat.le_trans B.ln both_t
 have Bd := B.dn
 rw [hM1, hM2] at Bd
 obtain ⟨whole, r2, W⟩ := th both three t B.fit (by rw [Bd]; exact hf3) both_t three_t both_l three_l
 have whole_t : tot whole ≤ 2000 := Nat.le_trans W.tt (Nat.le_trans (Nat.add_le_add Bt t3) (by decide))
 have whole_l : whole.length ≤ 2000 := Nat.le_trans W.ln whole_t
 have Wd := W.dn
 rw [Bd, hM3] at Wd
 obtain ⟨tt, r3, T⟩ := th two three m1 hf2 (by rw [hM2]; exact hf3) two_t three_t two_l three_l
 have tt_t : tot tt ≤ 2000 := Nat.le_trans T.tt (Nat.le_trans (Nat.add_le_add t2 t3) (by decide))
 have tt_l : tt.length ≤ 2000 := Nat.le_trans T.ln tt_t
 obtain ⟨w2, r4, W2⟩ := th one tt t hf1 (by rw [hM1]; exact T.fit) one_t tt_t one_l tt_l
 obtain ⟨a3, r5, A3⟩ := run_all_then (F := prog) (i_size := 0) (i_parted := 14) (i_taken := 13) (i_met := 12) (i_stretch := 5) (i_form := 4) (i_before := 1) (i_after := 2) (i_then := 10) (i_nothing := 9) (i := 11) (w := w) (n := n + 4) rfl rfl rfl rfl rfl rfl rfl rfl rfl rfl hw rfl t [one, two, three] ⟨hf1, by rw [hM1]; exact ⟨hf2, by rw [hM2]; exact ⟨hf3, trivial⟩⟩⟩ (by simp [tots]; omega) (fun c hc => by rcases List.mem_cons.mp hc with rfl | hc; exact one_l; rcases List.mem_cons.mp hc with rfl | hc; exact two_l; obtain rfl := List.mem_singleton.mp hc; exact three_l)
 have q1 : w2 = whole := f_eq W2.frm W.frm W2.fit W.fit (by rw [W2.tld, T.tld, W.tld, B.tld, sub_comp])
 have q2 : a3 = whole := f_eq A3.frm W.frm A3.fit W.fit (by rw [A3.tld, W.tld, B.tld]; simp only [tls, List.foldl_cons, List.foldl_nil]; rw [idL hf1])
 rw [q1] at r4
 rw [q2] at r5
 have no1 := fun fr => call1 (fr := fr) (run_nothing (F := prog) (i_stretch := 5) (i_form := 4) (i := 9) (w := w) (n := n + 5) rfl rfl rfl t.length (up t_l (by decide)))
 have no2 := fun fr => call1 (fr := fr) (run_nothing (F := prog) (i_stretch := 5) (i_form := 4) (i := 9) (w := w) (n := n + 5) rfl rfl rfl m1.length (up m1_l (by decide)))
 have kb : ∀ k : Nat, tot (form [.keep k]) = k ∧ (form [.keep k]).length ≤ k := fun k => by
  have h1 : tot (form [.keep k]) = k := by rw [tot_form]; simp [tot, Pt.n]
  exact ⟨h1, by have := pos_len (isF_pos (isF_form [.keep k])); omega⟩
 have kf : ∀ s : List Nat, fitG (form [.keep s.length]) s = true ∧ doneG (form [.keep s.length]) s = s := fun s => by
  rw [fit_form, done_form]; simp [fitG, doneG]
 obtain ⟨n1, r6, N1⟩ := th (form [.keep t.length]) one t (kf t).1 (by rw [(kf t).2]; exact hf1) (by rw [(kb _).1]; exact t_l) one_t (Nat.le_trans (kb t.length).2 t_l) one_l
 obtain ⟨n2, r7, N2⟩ := th one (form [.keep m1.length]) t hf1 (by rw [hM1]; exact (kf m1).1) one_t (by rw [(kb _).1]; exact m1_l) one_l (Nat.le_trans (kb m1.length).2 m1_l)
 have ffit : fitG (form one) t = true := by rw [fit_form]; exact hf1
 have fo : ∀ c, form c = c → fitG c t = true → told 0 c = told 0 one → c = form one := fun c h1 h2 h3 => f_eq h1 (form_form one) h2 ffit (by rw [told_form]; exact h3)
 have q3 : n1 = form one := fo _ N1.frm N1.fit (by rw [N1.tld, told_form, idL hf1])
 have q4 : n2 = form one := fo _ N2.frm N2.fit (by rw [N2.tld, told_form, keep_told, an1, ← len_told one 0]; exact sub_all _)
 rw [q3] at r6
 rw [q4] at r7
 have uone_t : tot (undo one) ≤ 2000 := by rw [(undo_b one).2]; exact one_t
 have uone_l : (undo one).length ≤ 2000 := Nat.le_trans (undo_b one).1 one_t
 have utwo_t : tot (undo two) ≤ 2000 := by rw [(undo_b two).2]; exact two_t
 have utwo_l : (undo two).length ≤ 2000 := Nat.le_trans (undo_b two).1 two_t
 have uthree_t : tot (undo three) ≤ 2000 := by rw [(undo_b three).2]; exact three_t
 have uthree_l : (undo three).length ≤ 2000 := Nat.le_trans (undo_b three).1 three_t
 have uboth_t : tot (undo both) ≤ 2000 := by rw [(undo_b both).2]; exact both_t
 have uboth_l : (undo both).length ≤ 2000 := Nat.le_trans (undo_b both).1 both_t
 obtain ⟨uB, vB⟩ := undo_fit B.fit
 obtain ⟨uW, vW⟩ := undo_fit W.fit
 rw [Bd] at uB vB
 rw [Wd] at uW vW
 obtain ⟨x1, r8, X1⟩ := th (undo two) (undo one) m2 u2 (by rw [v2]; exact u1) utwo_t uone_t utwo_l uone_l
 obtain ⟨x2, r9, X2⟩ := th (undo three) (undo both) m3 u3 (by rw [v3]; exact uB) uthree_t uboth_t uthree_l uboth_l
 have q5 : x1 = undo both := f_eq X1.frm (form_form _) X1.fit uB (by rw [X1.tld, undo_told, undo_told, undo_told, B.bck])
 have q6 : x2 = undo whole := f_eq X2.frm (form_form _) X2.fit uW (by rw [X2.tld, undo_told, undo_told, undo_told, W.bck])
 rw [q5] at r8
 rw [q6] at r9
 obtain ⟨st, r10, S⟩ := th one (undo one) t hf1 (by rw [hM1]; exact u1) one_t uone_t one_l uone_l
 have st_t : tot st ≤ 36 := Nat.le_trans S.tt (by rw [(undo_b one).2]; exact Nat.add_le_add to to)
 have st_t2 : tot st ≤ 2000 := Nat.le_trans st_t (by decide)
 have st_l : st.length ≤ 2000 := Nat.le_trans S.ln st_t2
 have Sd := S.dn
 rw [hM1, v1] at Sd
 have Stl : told 0 st = eA 0 (asks one) := by
  rw [S.tld, undo_told, told_ats (sw one), told_ats one, sw_ats, asks_ats]
  exact still_A (ats one) 0 0 [] rfl
 have Sask : asks st = asks one := by
  have f1 := S.fit
  rw [fitG_S, asks_ats] at f1
  have f2 := hf1
  rw [fitG_S] at f2
  rw [asks_ats]
  refine asks_kept f1 f2 fun q => ?_
  rw [← told_ats, Stl, eA_mem]
  constructor
  ·rintro ⟨j, hj, e⟩; obtain rfl : q = j := by omega
   exact e
  ·intro e; exact ⟨q, by omega, e⟩
 have stay : (told 0 one).map (sub (eA 0 (asks one))) = told 0 one := by
  rw [told_ats one, asks_ats]
  exact sub_stay fun j hj => by have := eA_at (aA (ats one)) 0 j hj; simpa using this
 obtain ⟨s1, r11, S1⟩ := th st one t S.fit (by rw [Sd]; exact hf1) st_t2 one_t st_l one_l
 have q7 : s1 = form one := fo _ S1.frm S1.fit (by rw [S1.tld, Stl, stay])
 rw [q7] at r11
 obtain ⟨y1, r12, Y1⟩ := th (undo one) one m1 u1 (by rw [v1]; exact hf1) uone_t one_t uone_l one_l
 have y1_t : tot y1 ≤ 2000 := Nat.le_trans Y1.tt (by rw [(undo_b one).2]; exact Nat.le_trans (Nat.add_le_add to to) (by decide))
 have y1_l : y1.length ≤ 2000 := Nat.le_trans Y1.ln y1_t
 obtain ⟨y2, r13, Y2⟩ := th one y1 t hf1 (by rw [hM1]; exact Y1.fit) one_t y1_t one_l y1_l
 have q8 : y2 = form one := fo _ Y2.frm Y2.fit (by
  rw [Y2.tld, Y1.tld, sub_comp, undo_told]
  rw [show (told 0 (sw one)).map (sub (told 0 one)) = eA 0 (asks one) by rw [← undo_told, ← S.tld, Stl]]
  exact stay)
 rw [q8] at r13
 have R1 := fun fr => call2 (fr := fr) r1
 have R2 := fun fr => call2 (fr := fr) r2
 have R3 := fun fr => call2 (fr := fr) r3
 have R4 := fun fr => call2 (fr := fr) r4
 have R5 := fun fr => call2 (fr := fr) r5
 have R6 := fun fr => call2 (fr := fr) r6
 have R7 := fun fr => call2 (fr := fr) r7
 have R8 := fun fr => call2 (fr := fr) r8
 have R9 := fun fr => call2 (fr := fr) r9
 have R10 := fun fr => call2 (fr := fr) r10
 have R11 := fun fr => call2 (fr := fr) r11
 have R12 := fun fr => call2 (fr := fr) r12
 have R13 := fun fr => call2 (fr := fr) r13
 have dn := fun (c : List Pt) (s : List Nat) (h : fitG c s = true) (b1 : tot c ≤ 2000) (b2 : s.length ≤ 2000) (b3 : c.length ≤ 2000) fr => call2 (fr := fr) (run_done (F := prog) (i_size := 0) (i_fits := 6) (i := 7) (w := w) (n := n + 5) rfl rfl rfl c s (up b1 (by decide)) (up b2 (by decide)) (up b3 (by decide)) h)
 have D1 := dn both t B.fit both_t t_l both_l
 have D2 := dn whole t W.fit whole_t t_l whole_l
 have D3 := dn st t S.fit st_t2 t_l st_l
 rw [Bd] at D1
 rw [Wd] at D2
 rw [Sd] at D3
 have ud := fun (c : List Pt) (b1 : tot c ≤ 2000) (b3 : c.length ≤ 2000) fr => call1 (fr := fr) (run_undone (F := prog) (i_stretch := 5) (i_form := 4) (i := 8) (w := w) (n := n + 5) rfl rfl rfl c (up b3 (by decide)) (up b1 (by decide)))
 have U1 := ud one one_t one_l
 have U2 := ud two two_t two_l
 have U3 := ud three three_t three_l
 have U4 := ud both both_t both_l
 have U5 := ud whole whole_t whole_l
 have b1 := fun fr => call1 (fr := fr) (run_before (F := prog) (i_size := 0) (i := 1) (w := w) (n := n + 6) rfl rfl both (up both_l (by decide)) (up both_t (by decide)))
 have a1 := fun fr => call1 (fr := fr) (run_after (F := prog) (i_size := 0) (i := 2) (w := w) (n := n + 6) rfl rfl both (up both_l (by decide)) (up both_t (by decide)))
 rw [← fit_bef B.fit] at b1
 rw [← aft_done B.fit, Bd] at a1
 have k1 := fun fr => call1 (fr := fr) (run_cost (F := prog) (i_size := 0) (i := 3) (w := w) (n := n + 6) rfl rfl both (up both_l (by decide)) (up both_t (by decide)))
 have k2 := fun fr => call1 (fr := fr) (run_cost (F := prog) (i_size := 0) (i := 3) (w := w) (n := n + 6) rfl rfl one (up one_l (by decide)) (up one_t (by decide)))
 have k3 := fun fr => call1 (fr := fr) (run_cost (F := prog) (i_size := 0) (i := 3) (w := w) (n := n + 6) rfl rfl two (up two_l (by decide)) (up two_t (by decide)))
 have kc : cop .gt (.int (cst both)) (.int ((cst one : Int) + (cst two : Nat))) = some false := by
  have := B.cs
  rw [l_gt]; congr 1; exact decide_eq_false (by omega)
 have g1 := fun fr => call1 (fr := fr) (run_form (F := prog) (i_stretch := 5) (i := 4) (w := w) (n := n + 6) rfl rfl one (up one_l (by decide)) (up one_t (by decide)))
 have z1 := fun fr => call1 (fr := fr) (run_sense (F := prog) (i := 19) (w := w) (n := n + 7) rfl one (Nat.le_trans to (by decide)))
 have z2 := fun fr => call1 (fr := fr) (run_sense (F := prog) (i := 19) (w := w) (n := n + 7) rfl st (Nat.le_trans st_t (by decide)))
 have ln1 : Pv.bfn .len [.str t] = some (.int (t.length : Nat)) := len_str (up t_l (by decide))
 have ln2 : Pv.bfn .len [.str m2] = some (.int (m2.length : Nat)) := len_str (up m2_l (by decide))
 have ln3 : Pv.bfn .len [.str m1] = some (.int (m1.length : Nat)) := len_str (up m1_l (by decide))
 have nS : ∀ s : List Nat, Pv.cop .ne (.str s) (.str s) = some false := fun s => by rw [l_nss]; simp
 have nI : ∀ s : Int, Pv.cop .ne (.int s) (.int s) = some false := fun s => by rw [l_nii]; simp
 have nC : ∀ s : List Pt, Pv.cop .ne (chV s) (chV s) = some false := fun s => by rw [cop_ne, veq_ch]; simp
 have eC : Pv.cop .eq (chV (form one)) (chV (form one)) = some true := by rw [cop_eq, veq_ch]; simp
 refine run_wp (fn := f21) rfl rfl ?_
 refine w_cons (w_set (by (repeat (first | array_get_dec | exact c8 _))) rfl rfl ?_)
 refine w_cons (w_set (by (repeat (first | array_get_dec | exact d1 _))) rfl rfl ?_)
 refine w_cons (w_set (by (repeat (first | array_get_dec | exact e1 _))) rfl rfl ?_)
 refine w_cons (w_set (by (repeat (first | array_get_dec | exact d2 _))) rfl rfl ?_)
 refine w_cons (w_set (by (repeat (first | array_get_dec | exact e2 _))) rfl rfl ?_)
 refine w_cons (w_set (by (repeat (first | array_get_dec | exact d3 _))) rfl rfl ?_)
 refine w_cons (w_set (by (repeat (first | array_get_dec | exact R1 _))) rfl rfl ?_)
 refine w_cons (w_iff (b := false) (xt_orf (xt_val rfl (by (repeat (first | exact nS _ | array_get_dec | exact D1 _))) rfl) (xt_orf (xt_val rfl (by (repeat (first | exact nI _ | array_get_dec | exact b1 _))) rfl) (xt_val rfl (by (repeat (first | exact nI _ | array_get_dec | exact a1 _))) rfl))) (fun h => absurd h (by decide)) fun _ => w_nil ?_)
 refine w_cons (w_set (by (repeat (first | array_get_dec | exact R2 _))) rfl rfl ?_)
 refine w_cons (w_iff (b := false) (xt_orf (xt_val rfl (by (repeat (first | exact nC _ | array_get_dec | exact R3 _ | exact R4 _))) rfl) (xt_val rfl (by (repeat (first | exact nC _ | array_get_dec | exact mkL_3 | exact R5 _))) rfl)) (fun h => absurd h (by decide)) fun _ => w_nil ?_)
 refine w_cons (w_iff (b := false) (xt_orf (xt_val rfl (by (repeat (first | exact nS _ | array_get_dec | exact D2 _ | exact e3 _))) rfl) (xt_val rfl (by (repeat (first | array_get_dec | exact k1 _ | exact k2 _ | exact k3 _))) rfl)) (fun h => absurd h (by decide)) fun _ => w_nil ?_)
 refine w_cons (w_iff (b := false) (xt_orf (xt_val rfl (by (repeat (first | exact nC _ | array_get_dec | exact no1 _ | exact g1 _ | exact R6 _))) rfl) (xt_val rfl (by (repeat (first | exact nC _ | array_get_dec | exact no2 _ | exact g1 _ | exact R7 _))) rfl)) (fun h => absurd h (by decide)) fun _ => w_nil ?_)
 refine w_cons (w_iff (b := false) (xt_orf (xt_val rfl (by (repeat (first | exact nC _ | array_get_dec | exact U4 _ | exact U2 _ | exact U1 _ | exact R8 _))) rfl) (xt_val rfl (by (repeat (first | exact nC _ | array_get_dec | exact U5 _ | exact U3 _ | exact U4 _ | exact R9 _))) rfl)) (fun h => absurd h (by decide)) fun _ => w_nil ?_)
 refine w_cons (w_set (by (repeat (first | array_get_dec | exact U1 _ | exact R10 _))) rfl rfl ?_)
 refine w_cons (w_setT (by (repeat (first | array_get_dec | exact z1 _))) rfl ?_)
 have la := asks_le one
 have mk := mkL_le (x := (eA 0 (asks one)).map Tq.v) (le_big (by simp [eA_len]; omega))
 have nSen : Pv.cop .ne (senV st) (.tup [.lst (askV one), .lst ((eA 0 (asks one)).map Tq.v)]) = some false := by
  have e : (.tup [.lst (askV one), .lst ((eA 0 (asks one)).map Tq.v)] : V) = senV st := by simp only [senV, askV, toldV, Sask, Stl]
  rw [e, cop_ne, veq_sen]; simp
 have hcm := comp_enum (P := run prog w (n + 8)) (fr := [some (.val (scr ns)), some (.val (.str t)), some (.val (chV one)), some (.val (.str m1)), some (.val (chV two)), some (.val (.str m2)), some (.val (chV three)), some (.val (chV both)), some (.val (chV whole)), some (.val (chV st)), some (.val (.lst (askV one))), some (.val (.lst (toldV one))), none, none]) (fun i x => by
  by_cases hx : x = []
  ·subst hx
   exact c_turn rfl (x_ife (xt_val rfl (by repeat array_get_dec) rfl) (fun h => absurd h (by decide)) fun _ => x_v rfl)
  ·rw [if_neg hx]
   exact c_turn rfl (x_ife (xt_val rfl (by repeat array_get_dec) rfl) (fun _ => x_v rfl) fun h => by simp at h; exact absurd h hx)) (ats one) 0
 rw [← asks_ats] at hcm
 refine w_cons (w_iff (b := false) (xt_val rfl (x_cmp (by (repeat (first | array_get_dec | exact z2 _))) (x_tup (xs_cons (x_v rfl) (xs_cons (x_comp (xi_enum (xi_srcv rfl) rfl) rfl hcm mk) xs_nil)) mkT_2) nSen) rfl) (fun h => absurd h (by decide)) fun _ => w_nil ?_)
 refine w_cons (w_iff (b := false) (xt_orf (xt_val rfl (by (repeat (first | exact nS _ | array_get_dec | exact D3 _))) rfl) (xt_val rfl (by (repeat (first | exact nC _ | array_get_dec | exact g1 _ | exact R11 _))) rfl)) (fun h => absurd h (by decide)) fun _ => w_nil ?_)
 exact w_cons (w_ret (by (repeat (first | exact eC | array_get_dec | exact U1 _ | exact g1 _ | exact R12 _ | exact R13 _))) ⟨rfl, rfl⟩)
omit hn hw in
theorem good : ∀ ns : List Int, ns.length ≤ 63 → ∃ h', Ev.run prog 100000 60 21 [.ref 0] [.frz (ns.map Ev.D.int)] = .ok (.bl true) h' := fun ns h => good_of (law_ok (w := 100000) (n := 51) h (by decide))
end Lg
theorem Lw.good : ∀ ns : List Int, ns.length ≤ 63 → ∃ h', Ev.run Lw.prog 100000 60 21 [.ref 0] [.frz (ns.map Ev.D.int)] = .ok (.bl true) h' := Lg.good
open PySem PySem.W PyProof.Rows
set_option maxRecDepth 100000 in
set_option maxHeartbeats 0 in
theorem PySem.Challenge.cw_pastways_k13_whole_then_holds : PySem.Challenge.rw_pastways_k13_whole_then.Holds := by
 w_on; o_law; k_head; (case hw => w_witness2)
 k_fill
 refine Sm.walk_ev (F := Lw.prog) (wh := 100000) (n := 60) (f := 21) (x := "_law_script") (l := PySem.Challenge.rw_pastways_k13_whole_then) rfl rfl ⟨rfl, by decide, by decide⟩ (fun w h Y => PySem.W.kIn_of Y) Lw.good ?F
 case F =>
  intro w mg fa h KX G hmg
  refine' Lw.all_mk KX G hmg ?a0 ?l0 ?c0 ?k0 ?a1 ?l1 ?c1 ?k1 ?a2 ?l2 ?c2 ?k2 ?a3 ?l3 ?c3 ?k3 ?a4 ?l4 ?c4 ?k4 ?a5 ?l5 ?c5 ?k5 ?a6 ?l6 ?c6 ?k6 ?a7 ?l7 ?c7 ?k7 ?a8 ?l8 ?c8 ?k8 ?a9 ?l9 ?c9 ?k9 ?a10 ?l10 ?c10 ?k10 ?a11 ?l11 ?c11 ?k11 ?a12 ?l12 ?c12 ?k12 ?a13 ?l13 ?c13 ?k13 ?a14 ?l14 ?c14 ?k14 ?a15 ?l15 ?c15 ?k15 ?a16 ?l16 ?c16 ?k16 ?a17 ?l17 ?c17 ?k17 ?a18 ?l18 ?c18 ?k18 ?a19 ?l19 ?c19 ?k19 ?a20 ?l20 ?c20 ?k20 ?a21 ?l21 ?c21 ?k21 ?z0 ?z1 ?z2 ?z3 ?z4 ?z5 ?z6 ?z7 ?q0 ?dk0 ?dt0 ?du0
  (case a0 => k_is)
  (case l0 => k_is)
  (case c0 => k_is)
  (case k0 => k_is)
  (case a1 => k_is)
  (case l1 => k_is)
  (case c1 => k_is)
  (case k1 => k_is)
  (case a2 => k_is)
  (case l2 => k_is)
  (case c2 => k_is)
  (case k2 => k_is)
  (case a3 => k_is)
  (case l3 => k_is)
  (case c3 => k_is)
  (case k3 => k_is)
  (case a4 => k_is)
  (case l4 => k_is)
  (case c4 => k_is)
  (case k4 => k_is)
  (case a5 => k_is)
  (case l5 => k_is)
  (case c5 => k_is)
  (case k5 => k_is)
  (case a6 => k_is)
  (case l6 => k_is)
  (case c6 => k_is)
  (case k6 => k_is)
  (case a7 => k_is)
  (case l7 => k_is)
  (case c7 => k_is)
  (case k7 => k_is)
  (case a8 => k_is)
  (case l8 => k_is)
  (case c8 => k_is)
  (case k8 => k_is)
  (case a9 => k_is)
  (case l9 => k_is)
  (case c9 => k_is)
  (case k9 => k_is)
  (case a10 => k_is)
  (case l10 => k_is)
  (case c10 => k_is)
  (case k10 => k_is)
  (case a11 => k_is)
  (case l11 => k_is)
  (case c11 => k_is)
  (case k11 => k_is)
  (case a12 => k_is)
  (case l12 => k_is)
  (case c12 => k_is)
  (case k12 => k_is)
  (case a13 => k_is)
  (case l13 => k_is)
  (case c13 => k_is)
  (case k13 => k_is)
  (case a14 => k_is)
  (case l14 => k_is)
  (case c14 => k_is)
  (case k14 => k_is)
  (case a15 => k_is)
  (case l15 => k_is)
  (case c15 => k_is)
  (case k15 => k_is)
  (case a16 => k_is)
  (case l16 => k_is)
  (case c16 => k_is)
  (case k16 => k_is)
  (case a17 => k_is)
  (case l17 => k_is)
  (case c17 => k_is)
  (case k17 => k_is)
  (case a18 => k_is)
  (case l18 => k_is)
  (case c18 => k_is)
  (case k18 => k_is)
  (case a19 => k_is)
  (case l19 => k_is)
  (case c19 => k_is)
  (case k19 => k_is)
  (case a20 => k_is)
  (case l20 => k_is)
  (case c20 => k_is)
  (case k20 => k_is)
  (case a21 => k_is)
  (case l21 => k_is)
  (case c21 => k_is)
  (case k21 => k_is)
  (case z0 => k_is)
  (case z1 => k_is)
  (case z2 => k_is)
  (case z3 => k_is)
  (case z4 => k_is)
  (case z5 => k_is)
  (case z6 => k_is)
  (case z7 => k_is)
  (case q0 => k_is)
  (case dk0 => k_is)
  (case dt0 => first | k_is | rfl | decide +kernel | (with_unfolding_all rfl))
  (case du0 => first | k_is | rfl | decide +kernel | (with_unfolding_all rfl))

import PyProof.Rows.All
import Wide.All
import OpenK.AllK
import Wide.FinOn
import Lean
import PyProof.EqAt
import PyProof.EqKinds
import PyProof.TupleCall
import PyProof.NeKinds
import PyProof.StrLawsIn
import KE.KRevSl
import PyProof.Rows.SortStr
import PyProof.ZipIter
import PyProof.ListRange
import PySem.Challenge.RW_pastways_k03_whole_forms
set_option Elab.async false
set_option linter.all false
set_option maxRecDepth 100000
namespace L2
open PySem PySem.Spec PyProof.Rows
abbrev Key := Sum Int Str
noncomputable def keyIs : Key → Value → Bool
  | .inl k, v => Value.isInt k v
  | .inr x, v => Value.isStrOf x v
noncomputable def keyH (w : World) : Key → Int
  | .inl k => hashInt k
  | .inr x => hashStr w x
theorem keyIs_shape : ∀ {k : Key} {v : Value}, keyIs k v = true → (∃ i t, k = Sum.inl i ∧ v = Value.int i t) ∨ (∃ x t, k = Sum.inr x ∧ v = Value.str x t)
  | .inl i, v, h => by
    obtain ⟨t, e⟩ := Value.isInt_shape (k := i) (v := v) h
    exact .inl ⟨i, t, rfl, e⟩
  | .inr x, v, h => by
    obtain ⟨t, e⟩ := Value.isStrOf_shape (x := x) (v := v) h
    exact .inr ⟨x, t, rfl, e⟩
theorem key_ll (a b : Int) : decide ((Sum.inl a : Key) = Sum.inl b) = (a == b) := by
  by_cases e : a = b
  · subst e; simp
  · have h : ¬ (Sum.inl a : Key) = Sum.inl b := fun q => e (Sum.inl.inj q)
    rw [decide_eq_false h]
    exact (beq_eq_false_iff_ne.mpr e).symm
theorem key_rr (a b : Str) : decide ((Sum.inr a : Key) = Sum.inr b) = decide (a = b) := by
  by_cases e : a = b
  · subst e; simp
  · have h : ¬ (Sum.inr a : Key) = Sum.inr b := fun q => e (Sum.inr.inj q)
    rw [decide_eq_false h, decide_eq_false e]
theorem key_lr (a : Int) (b : Str) : decide ((Sum.inl a : Key) = Sum.inr b) = false := decide_eq_false (fun q => nomatch q)
theorem key_rl (a : Str) (b : Int) : decide ((Sum.inr a : Key) = Sum.inl b) = false := decide_eq_false (fun q => nomatch q)
noncomputable def mixKind (prog : Program) (w : World) : PySem.KeyKind prog w Key where
  is := keyIs
  hash := keyH w
  inj := fun v a b ha hb => by
    rcases keyIs_shape ha with ⟨i, t, rfl, rfl⟩ | ⟨x, t, rfl, rfl⟩
    · rcases keyIs_shape hb with ⟨j, u, rfl, e⟩ | ⟨y, u, rfl, e⟩
      · injection e with e1 _; rw [e1]
      · exact nomatch e
    · rcases keyIs_shape hb with ⟨j, u, rfl, e⟩ | ⟨y, u, rfl, e⟩
      · exact nomatch e
      · injection e with e1 _; rw [e1]
  byValue := fun k v h => by
    rcases keyIs_shape h with ⟨i, t, rfl, rfl⟩ | ⟨x, t, rfl, rfl⟩ <;> rfl
  pyHash := fun hv h => by
    rcases keyIs_shape hv with ⟨i, t, rfl, rfl⟩ | ⟨x, t, rfl, rfl⟩
    · exact wpAny_pyHash_int h
    · exact wpAny_pyHash_str h
  eqBool := fun hu hv h => by
    rcases keyIs_shape hu with ⟨i, t, rfl, rfl⟩ | ⟨x, t, rfl, rfl⟩
    · rcases keyIs_shape hv with ⟨j, u, rfl, rfl⟩ | ⟨y, u, rfl, rfl⟩
      · rw [key_ll] at h; exact wpAny_eqBool_int h
      · rw [key_lr] at h; exact SeqAt.EqAt.int_str i t y u _ _ _ _ h
    · rcases keyIs_shape hv with ⟨j, u, rfl, rfl⟩ | ⟨y, u, rfl, rfl⟩
      · rw [key_rl] at h; exact SeqAt.EqAt.str_int x t j u _ _ _ _ h
      · rw [key_rr] at h; exact wpAny_eqBool_str h
  «strs» := fun k x t v h => by
    rcases keyIs_shape h with ⟨i, u, rfl, e⟩ | ⟨y, u, rfl, e⟩
    · exact nomatch e
    · injection e with e1 _
      subst e1
      cases v <;> rfl
end L2
namespace L2
open PySem PySem.Spec PyProof.Rows
inductive V where
  | non | bl (b : Bool) | int (i : Int) | str (x : Str) | byt (b : Array UInt8) | flt (b : UInt64) | ref (a : Addr) | ty (n : String)
  deriving DecidableEq
noncomputable def RelV : V → Value → Prop
  | .non, u => u = Value.none
  | .bl b, u => u = Value.bool b
  | .int i, u => ∃ t, u = Value.int i t
  | .str x, u => ∃ t, u = Value.str x t
  | .byt b, u => ∃ t, u = Value.bytes b t
  | .flt b, u => ∃ t, u = Value.float b t
  | .ref a, u => u = Value.ref a
  | .ty n, u => u = Value.type n
abbrev Vals : List V → List Value → Prop := Paired RelV
theorem Vals.length {xs : List V} {us : List Value} (r : Vals xs us) : xs.length = us.length := Paired.length r
theorem Vals.get : ∀ {xs : List V} {us : List Value} {i : Nat} {x : V}, Vals xs us → xs[i]? = some x → ∃ u, us[i]? = some u ∧ RelV x u
  | _, _, _, _, .nil, e => by simp at e
  | _, _, 0, _, .cons r _, e => by simp at e; subst e; exact ⟨_, rfl, r⟩
  | _, _, i + 1, x, .cons _ t, e => by
    obtain ⟨u, h1, h2⟩ := Vals.get (i := i) (x := x) t (by simpa using e)
    exact ⟨u, by simpa using h1, h2⟩
theorem Vals.append : ∀ {xs ys : List V} {us ws : List Value}, Vals xs us → Vals ys ws → Vals (xs ++ ys) (us ++ ws)
  | _, _, _, _, .nil, s => s
  | _, _, _, _, .cons r t, s => .cons r (Vals.append t s)
theorem Vals.take : ∀ {xs : List V} {us : List Value} (n : Nat), Vals xs us → Vals (xs.take n) (us.take n)
  | _, _, 0, _ => .nil
  | _, _, _ + 1, .nil => .nil
  | _, _, n + 1, .cons r t => .cons r (Vals.take n t)
theorem Vals.drop : ∀ {xs : List V} {us : List Value} (n : Nat), Vals xs us → Vals (xs.drop n) (us.drop n)
  | _, _, 0, r => r
  | _, _, _ + 1, .nil => .nil
  | _, _, n + 1, .cons _ t => Vals.drop n t
noncomputable def RelO : Option V → Option Value → Prop
  | some v, some u => RelV v u
  | none, none => True
  | _, _ => False
noncomputable def KV {κ : Type} : List (κ × V) → List (κ × Value) → Prop := Paired fun (p : κ × V) (q : κ × Value) => p.1 = q.1 ∧ RelV p.2 q.2
noncomputable def kV : Key → V
  | .inl i => .int i
  | .inr x => .str x
inductive HO where
  | lst (xs : List V)
  | tup (xs : List V)
  | dK (kvs : List (Key × V)) | dT (kvs : List (List Key × V))
  | set (S : Int → Bool) (n : Nat)
  | ins (C dx : Addr) (fs : List (Str × V))
  | own (x : Addr)
  | xd (fs : List (Str × V))
  | met (f x : Addr)
  | rng (lo hi : Int)
  | frz (o : Obj) (u : HO)
  | tbl (ps : Array Value)
  | ext (φ : Heap → Prop)
abbrev Hp := Addr → Option HO
noncomputable def upd (H : Hp) (a : Addr) (o : HO) : Hp := fun b => if b = a then some o else H b
theorem upd_same {H : Hp} {a : Addr} {o : HO} : upd H a o a = some o := by unfold upd; rw [if_pos rfl]
theorem upd_ne {H : Hp} {a b : Addr} {o : HO} (h : b ≠ a) : upd H a o b = H b := by unfold upd; rw [if_neg h]
theorem ne_of {H : Hp} {a b : Addr} {o u : HO} (h : H a = some o) (h' : H b = some u) (d : o ≠ u) : a ≠ b := by
  intro e; subst e; rw [h] at h'; exact d (Option.some.inj h')
theorem ne_of_none {H : Hp} {a b : Addr} {o : HO} (h : H a = some o) (h' : H b = none) : a ≠ b := by
  intro e; subst e; rw [h] at h'; cases h'
section
variable (P : Program) (w : World)
noncomputable def ObjOk (H : Hp) (h : Heap) (a : Addr) : HO → Prop
  | .lst xs => xs.length ≤ sizeLine ∧ ∃ (its : List Value) (n : Nat), Vals xs its ∧ h.get? a = some { cls := .type "list", data := .seq its.toArray n }
  | .tup xs => xs.length ≤ sizeLine ∧ ∃ its : List Value, Vals xs its ∧ IsTup h a its.toArray
  | .dK kvs => kvs.length ≤ sizeLine ∧ (a == sysModules) = false ∧ ∃ vs, KV kvs vs ∧ h.DictOf (mixKind P w) a vs
  | .dT kvs => kvs.length ≤ sizeLine ∧ (a == sysModules) = false ∧ ∃ xs : List (List Key × Addr × Value),
      Paired (fun (p : List Key × V) (q : List Key × Addr × Value) => p.1 = q.1 ∧ H q.2.1 = some (.tup (p.1.map kV)) ∧ RelV p.2 q.2.2) kvs xs ∧
      ∃ o es ep, h.get? a = some o ∧ o.ExactDict ∧ o.data = .dict es ep ∧ es.toList = xs.map (entryOfKey (tupleKind (mixKind P w))) ∧ (xs.map (·.1)).Nodup
  | .set S n => h.SetOf (intKind P w) a S n
  | .ins C dx fs => H dx = some (.own a) ∧ fs.length ≤ 1000 ∧ dx ≠ a ∧ h.get? a = some (PySem.W.instObj C dx) ∧
      ∃ mA, h.Ns1 dx mA ∧ (∀ f, RelO (fs.lookup f) (mA f)) ∧ PySem.Within mA (fs.map (·.1))
  | .own _ => ∃ o, h.get? a = some o
  | .xd fs => ∃ mA, h.Ns1 a mA ∧ ∀ f, RelO (fs.lookup f) (mA f)
  | .rng lo hi => ∃ t u v, h.get? a = some { cls := .type "range", data := .fields #[.int lo t, .int hi u, .int 1 v] }
  | .frz o u => h.get? a = some o ∧ ObjOk H h a u
  | .tbl ps => h.get? a = some { cls := .none, data := .fields ps }
  | .met f x => h.get? a = some (PySem.W.methodObj (.ref f) (.ref x))
  | .ext φ => φ h ∧ (∃ o, h.get? a = some o) ∧ ∀ h1 h2 : Heap, φ h1 → (∀ o, h1.get? a = some o → h2.get? a = some o) → φ h2
noncomputable def HOk (H : Hp) (h : Heap) : Prop := ∀ a o, H a = some o → ObjOk P w H h a o
end
section
variable {P : Program} {w : World} {H H' : Hp} {h h' : Heap} {a : Addr} {o : HO}
theorem ObjOk.lt (x : ObjOk P w H h a o) : a < h.objs.size := by
  cases o with
  | lst xs => obtain ⟨_, _, _, _, e⟩ := x; exact Heap.lt_size e
  | tup xs => obtain ⟨_, _, _, p⟩ := x; exact p.lt
  | dK kvs => obtain ⟨_, _, _, _, o, _, _, e, _⟩ := x; exact Heap.lt_size e
  | dT kvs => obtain ⟨_, _, _, _, o, _, _, e, _⟩ := x; exact Heap.lt_size e
  | set S n => obtain ⟨o, _, _, _, e, _⟩ := x; exact Heap.lt_size e
  | ins C dx fs => obtain ⟨_, _, _, e, _⟩ := x; exact Heap.lt_size e
  | own y => obtain ⟨_, e⟩ := x; exact Heap.lt_size e
  | xd fs => obtain ⟨_, ⟨_, _, _, e, _⟩, _⟩ := x; exact Heap.lt_size e
  | rng lo hi => obtain ⟨_, _, _, e⟩ := x; exact Heap.lt_size e
  | frz ob u => obtain ⟨e, _⟩ := x; exact Heap.lt_size e
  | tbl ps => exact Heap.lt_size (show h.get? a = some _ from x)
  | met f y => exact Heap.lt_size (show h.get? a = some _ from x)
  | ext φ => obtain ⟨_, ⟨_, e⟩, _⟩ := x; exact Heap.lt_size e
theorem Paired.mapP {α β : Type} {F G : α → β → Prop} : ∀ {l₁ : List α} {l₂ : List β}, Paired F l₁ l₂ → (∀ a b, F a b → G a b) → Paired G l₁ l₂
  | _, _, .nil, _ => .nil
  | _, _, .cons r t, f => .cons (f _ _ r) (Paired.mapP t f)
theorem ObjOk.stay (x : ObjOk P w H h a o) (k : ∀ b u, (b = a ∨ H b = some (.own a)) → h.get? b = some u → h'.get? b = some u)
    (ho : ∀ b, H b = some (.own a) → H' b = some (.own a)) (ht : ∀ b xs, H b = some (.tup xs) → H' b = some (.tup xs)) : ObjOk P w H' h' a o := by
  induction o with
  | lst xs => obtain ⟨z, its, n, r, e⟩ := x; exact ⟨z, its, n, r, k _ _ (.inl rfl) e⟩
  | tup xs => obtain ⟨z, its, r, ob, e, c⟩ := x; exact ⟨z, its, r, ob, k _ _ (.inl rfl) e, c⟩
  | dK kvs => obtain ⟨z, y, vs, r, ob, es, ep, e, c⟩ := x; exact ⟨z, y, vs, r, ob, es, ep, k _ _ (.inl rfl) e, c⟩
  | dT kvs =>
    obtain ⟨z, y, xs, r, ob, es, ep, e, c⟩ := x
    exact ⟨z, y, xs, Paired.mapP r fun p q z => ⟨z.1, ht _ _ z.2.1, z.2.2⟩, ob, es, ep, k _ _ (.inl rfl) e, c⟩
  | set S n => obtain ⟨ob, es, ep, t, e, c⟩ := x; exact ⟨ob, es, ep, t, k _ _ (.inl rfl) e, c⟩
  | ins C dx fs =>
    obtain ⟨d, z, ne, e, mA, ⟨od, es, ep, e2, c⟩, r⟩ := x
    exact ⟨ho _ d, z, ne, k _ _ (.inl rfl) e, mA, ⟨od, es, ep, k _ _ (.inr d) e2, c⟩, r⟩
  | own y => obtain ⟨ob, e⟩ := x; exact ⟨ob, k _ _ (.inl rfl) e⟩
  | xd fs => obtain ⟨mA, ⟨od, es, ep, e, c⟩, r⟩ := x; exact ⟨mA, ⟨od, es, ep, k _ _ (.inl rfl) e, c⟩, r⟩
  | rng lo hi => obtain ⟨t, u, v, e⟩ := x; exact ⟨t, u, v, k _ _ (.inl rfl) e⟩
  | frz ob u ih => obtain ⟨e, q⟩ := x; exact ⟨k _ _ (.inl rfl) e, ih q⟩
  | tbl ps =>
    have e : h.get? a = some { cls := .none, data := .fields ps } := x
    show h'.get? a = some { cls := .none, data := .fields ps }
    exact k a _ (.inl rfl) e
  | met f y =>
    have e : h.get? a = some (PySem.W.methodObj (.ref f) (.ref y)) := x
    show h'.get? a = some (PySem.W.methodObj (.ref f) (.ref y))
    exact k a _ (.inl rfl) e
  | ext φ => obtain ⟨p, ⟨o, e⟩, st⟩ := x; exact ⟨st _ _ p fun o q => k _ _ (.inl rfl) q, ⟨o, k _ _ (.inl rfl) e⟩, st⟩
theorem HOk.lt (x : HOk P w H h) (e : H a = some o) : a < h.objs.size := (x a o e).lt
theorem HOk.fresh (x : HOk P w H h) (e : h.objs.size ≤ a) : H a = none := by
  cases q : H a with
  | none => rfl
  | some u => exact absurd (Nat.lt_of_lt_of_le (x.lt q) e) (Nat.lt_irrefl _)
theorem HOk.kept (x : HOk P w H h) (k : ∀ b u, h.get? b = some u → h'.get? b = some u) : HOk P w H h' := fun a o e =>
  (x a o e).stay (fun b u _ q => k b u q) (fun _ q => q) fun _ _ q => q
theorem HOk.laid (x : HOk P w H h) (k : ∀ b u, h.get? b = some u → h'.get? b = some u) (hp : h.objs.size ≤ a) (new : ObjOk P w (upd H a o) h' a o) : HOk P w (upd H a o) h' := fun b u e => by
  have hn := x.fresh hp
  by_cases hb : b = a
  · subst hb; rw [upd_same] at e; cases e; exact new
  · rw [upd_ne hb] at e
    exact (x b u e).stay (fun c v _ q => k c v q) (fun c q => by rw [upd_ne (ne_of_none q hn)]; exact q) fun c xs q => by rw [upd_ne (ne_of_none q hn)]; exact q
end
noncomputable def Rd (H : Hp) (a : Addr) (u : HO) : Prop := H a = some u ∨ ∃ o, H a = some (.frz o u)
theorem Rd.ok {P : Program} {w : World} {H : Hp} {h : Heap} {a : Addr} {u : HO} (r : Rd H a u) (x : HOk P w H h) : ObjOk P w H h a u := by
  rcases r with r | ⟨o, r⟩
  · exact x a u r
  · obtain ⟨_, q⟩ := x a _ r
    exact q
noncomputable def Mut : Option HO → Prop
  | some (.lst _) => True
  | some (.dK _) => True
  | some (.dT _) => True
  | some (.set _ _) => True
  | some (.ins _ _ _) => True
  | some (.ext _) => True
  | _ => False
section
variable {P : Program} {w : World} {H : Hp} {h h' : Heap} {x e : Addr} {o' : HO}
theorem HOk.write (ok : HOk P w H h) (mu : Mut (H x)) (he : e = x ∨ H e = some (.own x)) (k : ∀ b u, b ≠ e → h.get? b = some u → h'.get? b = some u) (heo : ∃ u, h'.get? e = some u)
    (new : ObjOk P w (upd H x o') h' x o') : HOk P w (upd H x o') h' := fun b u q => by
  have nown : ∀ c y, H c = some (.own y) → c ≠ x := fun c y r z => by subst z; rw [r] at mu; exact mu
  have ntup : ∀ c xs, H c = some (.tup xs) → c ≠ x := fun c xs r z => by subst z; rw [r] at mu; exact mu
  by_cases hb : b = x
  · subst hb; rw [upd_same] at q; cases q; exact new
  · rw [upd_ne hb] at q
    by_cases hbe : b = e
    · have q' : H b = some (.own x) := by
        rcases he with z | z
        · exact absurd (hbe.trans z) hb
        · rw [hbe]; exact z
      rw [q] at q'; cases q'
      obtain ⟨v, hv⟩ := heo
      exact ⟨v, by rw [hbe]; exact hv⟩
    · refine (ok b u q).stay (fun c v hc r => k c v ?_ r) (fun c r => by rw [upd_ne (nown c b r)]; exact r) fun c xs r => by rw [upd_ne (ntup c xs r)]; exact r
      rcases hc with rfl | hc
      · exact hbe
      · rintro rfl
        rcases he with z | z
        · exact nown c b hc z
        · rw [hc] at z; cases z; exact hb rfl
end
structure Un (fs ex : List Addr) (H H' : Hp) (h h' : Heap) : Prop where
  keep : ∀ b o, h.get? b = some o → H b = none → b ∉ fs → b ∉ ex → h'.get? b = some o
  slot : ∀ b o, h.get? b = some o → H b = none → b ∈ fs → b ∉ ex → ∃ sl, h'.get? b = some { o with slots := sl }
  free : ∀ b o, h.get? b = some o → H b = none → b ∉ ex → H' b = none
  there : ∀ b o, h.get? b = some o → b ∉ ex → ∃ o', h'.get? b = some o'
  tups : ∀ b xs, H b = some (.tup xs) → H' b = some (.tup xs)
  frzs : ∀ b o u, H b = some (.frz o u) → H' b = some (.frz o u)
  tbls : ∀ b ps, H b = some (.tbl ps) → ∃ more, H' b = some (.tbl (ps ++ more))
section
variable {fs fs' ex ex' : List Addr} {H H1 H2 : Hp} {h h1 h2 h' : Heap} {a x e : Addr} {o : HO}
theorem Un.any (u : Un fs ex H H1 h h1) {b : Addr} {ob : Obj} (q : h.get? b = some ob) (n : H b = none) (hx : b ∉ ex) : ∃ sl, h1.get? b = some { ob with slots := sl } := by
  by_cases hb : b ∈ fs
  · exact u.slot b ob q n hb hx
  · exact ⟨ob.slots, u.keep b ob q n hb hx⟩
theorem Un.kept (k : ∀ b u, h.get? b = some u → h'.get? b = some u) : Un fs ex H H h h' :=
  ⟨fun b ob q _ _ _ => k b ob q, fun b ob q _ _ _ => ⟨ob.slots, k b ob q⟩, fun _ _ _ n _ => n, fun b ob q _ => ⟨ob, k b ob q⟩, fun _ _ q => q, fun _ _ _ q => q, fun _ ps q => ⟨#[], by rw [q]; simp⟩⟩
theorem Un.refl : Un fs ex H H h h := Un.kept fun _ _ q => q
theorem Un.laid (k : ∀ b u, h.get? b = some u → h'.get? b = some u) (hp : h.objs.size ≤ a) (hn : H a = none) : Un fs ex H (upd H a o) h h' where
  keep := fun b u q _ _ _ => k b u q
  slot := fun b u q _ _ _ => ⟨u.slots, k b u q⟩
  free := fun b u q n _ => by rw [upd_ne (Nat.ne_of_lt (Nat.lt_of_lt_of_le (Heap.lt_size q) hp))]; exact n
  there := fun b u q _ => ⟨u, k b u q⟩
  tups := fun b xs q => by rw [upd_ne (ne_of_none q hn)]; exact q
  frzs := fun b u xs q => by rw [upd_ne (ne_of_none q hn)]; exact q
  tbls := fun b ps q => ⟨#[], by rw [upd_ne (ne_of_none q hn), q]; simp⟩
theorem Un.write (mu : Mut (H x)) (he : e = x ∨ H e = some (.own x)) (k : ∀ b u, b ≠ e → h.get? b = some u → h'.get? b = some u) (heo : ∃ u, h'.get? e = some u) : Un fs ex H (upd H x o) h h' := by
  have hx : ∀ b, H b = none → b ≠ x := fun b n z => by subst z; rw [n] at mu; exact mu
  have hb : ∀ b, H b = none → b ≠ e := fun b n z => by
    subst z
    rcases he with r | r
    · exact hx b n r
    · rw [n] at r; cases r
  have hm : ∀ b u, H b = some u → ¬ Mut (some u) → b ≠ x := fun b u q nm z => by subst z; rw [q] at mu; exact nm mu
  refine ⟨fun b u q n _ _ => k b u (hb b n) q, fun b u q n _ _ => ⟨u.slots, k b u (hb b n) q⟩, fun b u q n _ => by rw [upd_ne (hx b n)]; exact n, fun b u q _ => ?_,
    fun b xs q => by rw [upd_ne (hm b _ q fun z => z)]; exact q, fun b u xs q => by rw [upd_ne (hm b _ q fun z => z)]; exact q, fun b ps q => ⟨#[], by rw [upd_ne (hm b _ q fun z => z), q]; simp⟩⟩
  by_cases hbe : b = e
  · subst hbe; exact heo
  · exact ⟨u, k b u hbe q⟩
end
noncomputable def trk (h : Heap) (H : Hp) : List Addr := (List.range h.objs.size).filter fun a => (H a).isSome
noncomputable def hidT (h : Heap) (H : Hp) : Heap := PySem.W.hideAll h (trk h H)
theorem hidT_size (h : Heap) (H : Hp) : (hidT h H).objs.size = h.objs.size := PySem.W.hideAll_size _ _
theorem hidT_get {h : Heap} {H : Hp} {b : Addr} {o : Obj} (e : h.get? b = some o) (n : H b = none) : (hidT h H).get? b = some o :=
  PySem.W.hideAll_get _ e fun hm => by
    have q : (H b).isSome = true := (List.mem_filter.mp hm).2
    rw [n] at q; simp at q
theorem of_hidT {h : Heap} {H : Hp} {b : Addr} {o : Obj} (e : (hidT h H).get? b = some o) : h.get? b = some o ∧ H b = none := by
  have e' : h.get? b = some o := PySem.W.of_hideAll (trk h H) e
  refine ⟨e', ?_⟩
  cases q : H b with
  | none => rfl
  | some x =>
    have hm : b ∈ trk h H := List.mem_filter.mpr ⟨List.mem_range.mpr (Heap.lt_size e'), by simp [q]⟩
    have z : (hidT h H).get? b = none := PySem.W.hideAll_none (trk h H) hm
    rw [z] at e; cases e
noncomputable def allNews (g h : Heap) (L : Addr) : List (Addr × Obj) := (List.range h.objs.size).filterMap fun a => if a = L ∨ (g.get? a).isSome = true then none else (h.get? a).map fun o => (a, o)
noncomputable def rest (g h : Heap) (L d : Addr) : List (Addr × Obj) := (allNews g h L).filter fun p => decide (p.1 ≠ d)
end L2
namespace L2
open PySem PySem.Spec PyProof.Rows
structure Mod (K : PySem.W.Frag) (mg : Str → Option Value) (base : Heap) : Prop where
  kin : K.In base
  glob : base.Ns mainGlobals mg
  blt : ∃ mb, base.Ns builtinsNs mb ∧ ∀ x : Str, x ≠ "__name__" → mb x = bootBuiltins x
  nolimit : base.NoLimit
structure Cx where
  prog : Program
  w : World
  K : PySem.W.Frag
  mg : Str → Option Value
  base : Heap
  A : Around
  N : List Str
  s₀ : Shared
  H₀ : Hp
  env : Env
  outer : List Env
  stack : List Env
  ex : List Addr
  fn : Str → Bool
  calm : Bool
  pn : List (Addr × Obj)
  xe : Value → Shared → Prop
noncomputable def frs (l : List Env) : List Addr := l.filterMap (·.frame)
noncomputable abbrev Cx.fs (X : Cx) : List Addr := frs X.outer
noncomputable def Vis (sc : Scope) (x : Str) : Prop := sc.names.lookup x = some .local ∨ sc.names.lookup x = some .cell ∨ sc.names.lookup x = some .free
noncomputable def Loc (sc : Scope) (x : Str) : Prop := sc.names.lookup x = some .local ∨ sc.names.lookup x = some .cell
noncomputable def Look (env : Env) (h : Heap) (m : Str → Option Value) (x : Str) (u : Value) : Prop :=
  (env.kindOf x = some .local ∧ m x = some u) ∨ ((env.kindOf x = some .cell ∨ env.kindOf x = some .free) ∧ ∃ c, env.cells.lookup x = some c ∧ h.IsCell c (some u))
structure Cx.Ok (X : Cx) : Prop where
  mod : Mod X.K X.mg X.base
  kind : X.env.scope.kind = .function
  glob : X.env.globals = mainGlobals
  blt : X.env.builtins = builtinsNs
  above : X.s₀.heap.objs.size ≤ X.env.locals
  inj : ∀ x y c, X.env.cells.lookup x = some c → X.env.cells.lookup y = some c → x = y
  has : ∀ x, (X.env.kindOf x = some .cell ∨ X.env.kindOf x = some .free) → ∃ c, X.env.cells.lookup x = some c
  cab : ∀ x c, X.fn x = true → X.env.cells.lookup x = some c → X.s₀.heap.objs.size ≤ c
  hd : X.calm = true → X.A.handled = none
  frames : X.A.frames = some X.stack
  stk : X.stack = X.outer ∨ (X.stack = X.env :: X.outer ∧ X.env.frame = some X.env.locals)
  exf : ∀ b ∈ X.ex, b ≠ X.env.locals ∧ ∀ x c, X.env.cells.lookup x = some c → c ≠ b
  bs : ∀ b o, X.base.get? b = some o → X.s₀.heap.get? b = some o ∧ X.H₀ b = none
  bsz : X.base.objs.size ≤ X.s₀.heap.objs.size
  noex : ∀ b o, X.base.get? b = some o → b ∉ X.ex
  exfs : ∀ b ∈ X.ex, b ∉ X.fs
  funs : X.s₀.heap.FunFrames X.base X.outer
  frf : ∀ b ∈ X.fs, X.H₀ b = none
structure Inv (X : Cx) (pins : List (Addr × Obj)) (σ : List (Option V)) (H : Hp) (s : Shared) : Prop where
  ok : X.Ok
  os : s.os = X.s₀.os
  bare : AllBare s.gens
  base : Un X.fs X.ex X.H₀ H X.s₀.heap s.heap
  loc : ∃ m, s.heap.Ns X.env.locals m ∧ ∀ (i : Nat) (x : Str) (v : V), X.N[i]? = some x → σ[i]? = some (some v) → Vis X.env.scope x → ∃ u, RelV v u ∧ Look X.env s.heap m x u
  cell : ∀ x c, X.env.cells.lookup x = some c → ∃ v, s.heap.IsCell c v
  free : H X.env.locals = none
  freeC : ∀ x c, X.env.cells.lookup x = some c → H c = none
  pin : ∀ p ∈ X.pn ++ pins, s.heap.get? p.1 = some p.2 ∧ H p.1 = none ∧ p.1 ≠ X.env.locals ∧ p.1 ∉ X.fs ∧ ∀ v, p.2.data ≠ .cell v
  hok : HOk X.prog X.w H s.heap
  len : σ.length = X.N.length
section
variable {X : Cx} {pins : List (Addr × Obj)} {σ : List (Option V)} {H H' : Hp} {s : Shared} {h' : Heap}
theorem Cx.Ok.nofr (ok : X.Ok) {b : Addr} {o : Obj} (e : X.base.get? b = some o) : b ∉ X.fs := fun hb => by
  have := (ok.funs.mem hb).1
  rw [e] at this; cases this
theorem Inv.bs (I : Inv X pins σ H s) : ∀ b o, X.base.get? b = some o → s.heap.get? b = some o ∧ H b = none := fun b o e =>
  ⟨I.base.keep b o (I.ok.bs b o e).1 (I.ok.bs b o e).2 (I.ok.nofr e) (I.ok.noex b o e), I.base.free b o (I.ok.bs b o e).1 (I.ok.bs b o e).2 (I.ok.noex b o e)⟩
theorem Inv.bk (I : Inv X pins σ H s) : ∀ b o, X.base.get? b = some o → s.heap.get? b = some o := fun b o e => (I.bs b o e).1
theorem Inv.mod (I : Inv X pins σ H s) : Mod X.K X.mg X.base := I.ok.mod
theorem Inv.kIn (I : Inv X pins σ H s) : X.K.In s.heap := I.ok.mod.kin.keeps I.bk
theorem Inv.lt (I : Inv X pins σ H s) : X.env.locals < s.heap.objs.size := let ⟨_, hn, _⟩ := I.loc; hn.lt
theorem Inv.sz (I : Inv X pins σ H s) : X.s₀.heap.objs.size ≤ s.heap.objs.size := Nat.le_trans I.ok.above (Nat.le_of_lt I.lt)
theorem Inv.nofs (I : Inv X pins σ H s) {a : Addr} (h : s.heap.objs.size ≤ a) : a ∉ X.fs := fun hb => by
  obtain ⟨_, o, ho, _⟩ := I.ok.funs.mem hb
  exact absurd (Nat.lt_of_lt_of_le (Heap.lt_size ho) (Nat.le_trans I.sz h)) (Nat.lt_irrefl _)
theorem Inv.cne (I : Inv X pins σ H s) : ∀ x c, X.env.cells.lookup x = some c → c ≠ X.env.locals := fun x c e z => by
  obtain ⟨v, o, ho, hd⟩ := I.cell x c e
  obtain ⟨m, ⟨o', es, ep, ho', hd', _⟩, _⟩ := I.loc
  rw [z, ho'] at ho; cases ho; rw [hd'] at hd; cases hd
theorem Inv.funs (I : Inv X pins σ H s) : s.heap.FunFrames X.base X.outer := by
  have all : ∀ (l : List Env), (∀ b ∈ frs l, b ∈ X.fs) → X.s₀.heap.FunFrames X.base l → s.heap.FunFrames X.base l := by
    intro l
    induction l with
    | nil => intro _ _; trivial
    | cons env r ih =>
      intro hs hl
      obtain ⟨hk, ⟨L, o, hf, hn, ho, hd⟩, hr⟩ := hl
      have hL : L ∈ X.fs := hs L (by unfold frs; rw [List.filterMap_cons, hf]; exact List.mem_cons_self)
      obtain ⟨sl, e⟩ := I.base.slot L o ho (I.ok.frf L hL) hL fun z => I.ok.exfs L z hL
      exact ⟨hk, ⟨L, _, hf, hn, e, hd⟩, ih (fun b hb => hs b (by unfold frs; rw [List.filterMap_cons, hf]; exact List.mem_cons_of_mem _ hb)) hr⟩
  exact all X.outer (fun _ hb => hb) I.ok.funs
theorem Inv.stack (I : Inv X pins σ H s) : s.heap.FunFrames X.base X.stack := by
  rcases I.ok.stk with e | ⟨e, hf⟩
  · rw [e]; exact I.funs
  · rw [e]
    obtain ⟨m, hn, _⟩ := I.loc
    refine .cons (by rw [I.ok.kind]; decide) hf hn ?_ I.funs
    exact Heap.get?_none_of_le (Nat.le_trans I.ok.bsz I.ok.above)
theorem Inv.stkSub (I : Inv X pins σ H s) : ∀ b ∈ frs X.stack, b ∈ X.env.locals :: X.fs := fun b hb => by
  rcases I.ok.stk with e | ⟨e, hf⟩
  · rw [e] at hb; exact List.mem_cons_of_mem _ hb
  · rw [e] at hb
    unfold frs at hb
    rw [List.filterMap_cons, hf] at hb
    exact hb
theorem Inv.stkFree (I : Inv X pins σ H s) : ∀ b ∈ frs X.stack, H b = none := fun b hb => by
  rcases List.mem_cons.mp (I.stkSub b hb) with e | hb
  · rw [e]; exact I.free
  · obtain ⟨_, o, ho, _⟩ := I.ok.funs.mem hb
    exact I.base.free b o ho (I.ok.frf b hb) fun z => I.ok.exfs b z hb
theorem Inv.step {g' : Array GenState} {t' : Nat} {d' : Drawn} {ch : List Addr} (I : Inv X pins σ H s)
    (hch : ∀ b ∈ ch, (b ∈ X.ex ∨ X.s₀.heap.objs.size ≤ b) ∧ b ≠ X.env.locals ∧ (∀ x c, X.env.cells.lookup x = some c → c ≠ b) ∧ ∀ p ∈ X.pn ++ pins, p.1 ≠ b)
    (keep : ∀ b o, b ≠ X.env.locals → b ∉ X.fs → b ∉ ch → s.heap.get? b = some o → H b = none → h'.get? b = some o)
    (slot : ∀ b o, b ≠ X.env.locals → b ∈ X.fs → b ∉ ch → s.heap.get? b = some o → H b = none → ∃ sl, h'.get? b = some { o with slots := sl }) (free : ∀ b o, b ∉ ch → s.heap.get? b = some o → H b = none → H' b = none)
    (there : ∀ b o, b ∉ ch → s.heap.get? b = some o → ∃ o', h'.get? b = some o')
    (tups : ∀ b xs, H b = some (.tup xs) → H' b = some (.tup xs)) (frzs : ∀ b o u, H b = some (.frz o u) → H' b = some (.frz o u)) (tbls : ∀ b ps, H b = some (.tbl ps) → ∃ more, H' b = some (.tbl (ps ++ more)))
    (ns : ∀ m, s.heap.Ns X.env.locals m → h'.Ns X.env.locals m) (hok : HOk X.prog X.w H' h') (hg : AllBare g') :
    Inv X pins σ H' { s with heap := h', gens := g', drawn := d', toks := t' } := by
  have neL : ∀ b o, X.s₀.heap.get? b = some o → b ≠ X.env.locals := fun b o e => Nat.ne_of_lt (Nat.lt_of_lt_of_le (Heap.lt_size e) I.ok.above)
  have neC : ∀ b o, X.s₀.heap.get? b = some o → b ∉ X.ex → b ∉ ch := fun b o e hx hb => by
    rcases (hch b hb).1 with z | z
    · exact hx z
    · exact absurd (Nat.lt_of_lt_of_le (Heap.lt_size e) z) (Nat.lt_irrefl _)
  have cellK : ∀ x c, X.env.cells.lookup x = some c → ∀ v, s.heap.IsCell c v → h'.IsCell c v := fun x c e v ⟨o, ho, hd⟩ => by
    have nch : c ∉ ch := fun z => (hch c z).2.2.1 x c e rfl
    by_cases hc : c ∈ X.fs
    · obtain ⟨sl, q⟩ := slot c o (I.cne x c e) hc nch ho (I.freeC x c e)
      exact ⟨_, q, hd⟩
    · exact ⟨o, keep c o (I.cne x c e) hc nch ho (I.freeC x c e), hd⟩
  refine ⟨I.ok, I.os, hg, ⟨fun b o e n hb hx => ?_, fun b o e n hb hx => ?_, fun b o e n hx => ?_, fun b o e hx => ?_, fun b xs e => tups b xs (I.base.tups b xs e), fun b o xs e => frzs b o xs (I.base.frzs b o xs e), fun b ps e => ?_⟩, ?_, fun x c e => ?_, ?_, fun x c e => ?_, fun p hp => ?_, hok, I.len⟩
  · exact keep b o (neL b o e) hb (neC b o e hx) (I.base.keep b o e n hb hx) (I.base.free b o e n hx)
  · obtain ⟨sl, e1⟩ := I.base.slot b o e n hb hx
    obtain ⟨sl', e2⟩ := slot b _ (neL b o e) hb (neC b o e hx) e1 (I.base.free b o e n hx)
    exact ⟨sl', e2⟩
  · obtain ⟨o', e1⟩ := I.base.there b o e hx
    exact free b o' (neC b o e hx) e1 (I.base.free b o e n hx)
  · obtain ⟨o', e1⟩ := I.base.there b o e hx
    exact there b o' (neC b o e hx) e1
  · obtain ⟨m1, e1⟩ := I.base.tbls b ps e
    obtain ⟨m2, e2⟩ := tbls b _ e1
    exact ⟨m1 ++ m2, by rw [e2, Array.append_assoc]⟩
  · obtain ⟨m, hn, hl⟩ := I.loc
    refine ⟨m, ns m hn, fun i x v e1 e2 e3 => ?_⟩
    obtain ⟨u, r, l⟩ := hl i x v e1 e2 e3
    refine ⟨u, r, ?_⟩
    rcases l with l | ⟨k, c, e, z⟩
    · exact .inl l
    · exact .inr ⟨k, c, e, cellK x c e _ z⟩
  · obtain ⟨v, z⟩ := I.cell x c e
    exact ⟨v, cellK x c e v z⟩
  · obtain ⟨m, ⟨o, _, _, ho, _⟩, _⟩ := I.loc
    exact free _ o (fun z => (hch _ z).2.1 rfl) ho I.free
  · obtain ⟨v, o, ho, hd⟩ := I.cell x c e
    exact free c o (fun z => (hch c z).2.2.1 x c e rfl) ho (I.freeC x c e)
  · obtain ⟨e, n, ne, nf, d⟩ := I.pin p hp
    have nch : p.1 ∉ ch := fun z => (hch p.1 z).2.2.2 p hp rfl
    exact ⟨keep p.1 p.2 ne nf nch e n, free p.1 p.2 nch e n, ne, nf, d⟩
theorem Inv.un {t' : Nat} (I : Inv X pins σ H s) (u : Un X.fs [] H H' s.heap h') (hok : HOk X.prog X.w H' h') : Inv X pins σ H' { s with heap := h', toks := t' } := by
  obtain ⟨m, ⟨o, es, ep, ho, r⟩, _⟩ := id I.loc
  obtain ⟨sl, hL⟩ := u.any ho I.free (by simp)
  exact I.step (g' := s.gens) (d' := s.drawn) (ch := []) (fun _ z => nomatch z) (fun b o _ hb _ e n => u.keep b o e n hb (by simp)) (fun b o _ hb _ e n => u.slot b o e n hb (by simp)) (fun b o _ e n => u.free b o e n (by simp)) (fun b o _ e => u.there b o e (by simp)) u.tups u.frzs u.tbls (fun m' hm => by
    obtain ⟨o', es', ep', ho', r'⟩ := hm
    rw [ho] at ho'; cases ho'
    exact ⟨_, es', ep', hL, r'⟩) hok I.bare
theorem Inv.call {g' : Array GenState} {t' : Nat} {d' : Drawn} {ch : List Addr} (I : Inv X pins σ H s) (u : Un (frs X.stack) ch H H' s.heap h') (hok : HOk X.prog X.w H' h') (hg : AllBare g')
    (hch : ∀ b ∈ ch, (b ∈ X.ex ∨ X.s₀.heap.objs.size ≤ b) ∧ b ≠ X.env.locals ∧ (∀ x c, X.env.cells.lookup x = some c → c ≠ b) ∧ ∀ p ∈ X.pn ++ pins, p.1 ≠ b) :
    Inv X pins σ H' { s with heap := h', gens := g', drawn := d', toks := t' } := by
  obtain ⟨m, ⟨o, es, ep, ho, r⟩, _⟩ := id I.loc
  obtain ⟨sl, hL⟩ := u.any ho I.free fun z => (hch _ z).2.1 rfl
  exact I.step (ch := ch) hch (fun b o hL hb hc e n => u.keep b o e n (fun z => (List.mem_cons.mp (I.stkSub b z)).elim hL hb) hc) (fun b o _ _ hc e n => u.any e n hc) (fun b o hc e n => u.free b o e n hc) (fun b o hc e => u.there b o e hc) u.tups u.frzs u.tbls (fun m' hm => by
    obtain ⟨o', es', ep', ho', r'⟩ := hm
    rw [ho] at ho'; cases ho'
    exact ⟨_, es', ep', hL, r'⟩) hok hg
theorem Inv.turned {t' : Nat} {it : Addr} (I : Inv X pins σ H s) (k : ∀ b o, b ≠ it → s.heap.get? b = some o → h'.get? b = some o) (hn : H it = none) (hL : it ≠ X.env.locals)
    (h1 : it ∈ X.ex ∨ X.s₀.heap.objs.size ≤ it) (h2 : ∀ x c, X.env.cells.lookup x = some c → c ≠ it) (h3 : ∀ p ∈ X.pn ++ pins, p.1 ≠ it) : Inv X pins σ H { s with heap := h', toks := t' } := by
  have nit : ∀ b u, H b = some u → b ≠ it := fun b u e z => by rw [z, hn] at e; cases e
  refine I.step (g' := s.gens) (d' := s.drawn) (ch := [it]) (fun b hb => ?_) (fun b o _ _ hc e _ => k b o (fun z => hc (by simp [z])) e) (fun b o _ _ hc e _ => ⟨o.slots, k b o (fun z => hc (by simp [z])) e⟩) (fun _ _ _ _ n => n)
    (fun b o hc e => ⟨o, k b o (fun z => hc (by simp [z])) e⟩) (fun _ _ e => e) (fun _ _ _ e => e) (fun b ps e => ⟨#[], by rw [e]; simp⟩) (fun m hm => ?_) (fun b u e => ?_) I.bare
  · have e : b = it := by simpa using hb
    subst e
    exact ⟨h1, hL, h2, h3⟩
  · obtain ⟨o, es, ep, ho, r⟩ := hm
    exact ⟨o, es, ep, k _ o (Ne.symm hL) ho, r⟩
  · refine (I.hok b u e).stay (fun c v hc q => k c v ?_ q) (fun _ q => q) fun _ _ q => q
    rcases hc with z | z
    · rw [z]; exact nit b u e
    · exact nit c _ z
theorem Inv.tok (I : Inv X pins σ H s) (t : Nat) : Inv X pins σ H { s with toks := t } := I.un (h' := s.heap) (t' := t) Un.refl I.hok
theorem Inv.kept {t' : Nat} (I : Inv X pins σ H s) (k : ∀ b u, s.heap.get? b = some u → h'.get? b = some u) : Inv X pins σ H { s with heap := h', toks := t' } := I.un (Un.kept k) (I.hok.kept k)
theorem Inv.laid {a : Addr} {o : HO} {t' : Nat} (I : Inv X pins σ H s) (k : ∀ b u, s.heap.get? b = some u → h'.get? b = some u) (hp : s.heap.objs.size ≤ a) (new : ObjOk X.prog X.w (upd H a o) h' a o) :
    Inv X pins σ (upd H a o) { s with heap := h', toks := t' } := I.un (Un.laid k hp (I.hok.fresh hp)) (I.hok.laid k hp new)
theorem Inv.write {x e : Addr} {o : HO} {t' : Nat} (I : Inv X pins σ H s) (mu : Mut (H x)) (he : e = x ∨ H e = some (.own x)) (k : ∀ b u, b ≠ e → s.heap.get? b = some u → h'.get? b = some u) (heo : ∃ u, h'.get? e = some u)
    (new : ObjOk X.prog X.w (upd H x o) h' x o) : Inv X pins σ (upd H x o) { s with heap := h', toks := t' } := I.un (Un.write mu he k heo) (I.hok.write mu he k heo new)
theorem Inv.pins_of {pins' : List (Addr × Obj)} (I : Inv X pins σ H s) (h : ∀ p ∈ pins', s.heap.get? p.1 = some p.2 ∧ H p.1 = none ∧ p.1 ≠ X.env.locals ∧ p.1 ∉ X.fs ∧ ∀ v, p.2.data ≠ .cell v) : Inv X pins' σ H s :=
  ⟨I.ok, I.os, I.bare, I.base, I.loc, I.cell, I.free, I.freeC, fun p hp => (List.mem_append.mp hp).elim (fun z => I.pin p (List.mem_append_left _ z)) (h p), I.hok, I.len⟩
theorem nodup_ix {N : List Str} (hN : N.Nodup) {i j : Nat} {x : Str} (a : N[i]? = some x) (b : N[j]? = some x) : i = j := by
  obtain ⟨h1, e1⟩ := List.getElem?_eq_some_iff.mp a
  obtain ⟨h2, e2⟩ := List.getElem?_eq_some_iff.mp b
  exact (List.getElem_inj hN).mp (e1.trans e2.symm)
theorem store_ok2 {M : Model} {A : Around} {E : Value → Shared → Prop} {i : Nat} {x : Str} {v : V} {u : Value} {Q : Unit → Shared → Prop} (I : Inv X pins σ H s) (hN : X.N.Nodup) (hi : X.N[i]? = some x) (hx : Loc X.env.scope x) (r : RelV v u)
    (h : ∀ s', Inv X pins (σ.set i (some v)) H s' → (∃ a, Heap.SameBut a s.heap s'.heap ∧ (a = X.env.locals ∨ X.env.cells.lookup x = some a)) → Q () s') (hf : X.fn x = true ∨ X.env.scope.names.lookup x = some .local := by first | exact .inl rfl | exact .inr rfl | assumption) : wpAny M A (storeName X.env x u) Q E s := by
  obtain ⟨m, hn, hl⟩ := id I.loc
  have hcls : (X.env.scope.kind == .class || (X.env.scope.kind == .module && X.env.locals != X.env.globals)) = false := by rw [I.ok.kind]; rfl
  have hiσ : i < σ.length := by rw [I.len]; exact (List.getElem?_eq_some_iff.mp hi).1
  have cne := I.cne
  have tracked : ∀ {a : Addr} {h' : Heap}, (∃ o, s.heap.get? a = some o ∧ H a = none) → Heap.SameBut a s.heap h' → HOk X.prog X.w H h' := fun {a h'} ha hs b ob e => by
    obtain ⟨_, _, hfree⟩ := ha
    refine (I.hok b ob e).stay (fun c w' hc q => (hs.2 c ?_).trans q) (fun _ q => q) fun _ _ q => q
    rintro rfl
    rcases hc with rfl | hc
    · rw [hfree] at e; cases e
    · rw [hfree] at hc; cases hc
  rcases hx with hk | hk
  · refine wpAny_storeName_local hk hn (fun h' hn' hs => ?_) hcls
    obtain ⟨oL, _, _, hoL, _⟩ := id hn
    refine h _ ⟨I.ok, I.os, I.bare, ⟨fun b o e n hb hx => ?_, fun b o e n hb hx => ?_, I.base.free, fun b o e hx => ?_, I.base.tups, I.base.frzs, I.base.tbls⟩, ⟨_, hn', fun j y v' e1 e2 e3 => ?_⟩, fun y c e => ?_, I.free, I.freeC, fun p hp => ?_, tracked ⟨oL, hoL, I.free⟩ hs, by simpa using I.len⟩ ⟨_, hs, .inl rfl⟩
    · exact (hs.2 b (Nat.ne_of_lt (Nat.lt_of_lt_of_le (Heap.lt_size e) I.ok.above))).trans (I.base.keep b o e n hb hx)
    · obtain ⟨sl, e1⟩ := I.base.slot b o e n hb hx
      exact ⟨sl, (hs.2 b (Nat.ne_of_lt (Nat.lt_of_lt_of_le (Heap.lt_size e) I.ok.above))).trans e1⟩
    · obtain ⟨o', e1⟩ := I.base.there b o e hx
      exact ⟨o', (hs.2 b (Nat.ne_of_lt (Nat.lt_of_lt_of_le (Heap.lt_size e) I.ok.above))).trans e1⟩
    · by_cases hj : j = i
      · subst hj
        rw [hi] at e1; cases e1
        rw [List.getElem?_set_self hiσ] at e2
        cases e2
        exact ⟨u, r, .inl ⟨hk, by simp⟩⟩
      · rw [List.getElem?_set_ne (Ne.symm hj)] at e2
        obtain ⟨u', r', q⟩ := hl j y v' e1 e2 e3
        refine ⟨u', r', ?_⟩
        rcases q with ⟨k, e⟩ | ⟨k, c, e, z⟩
        · refine .inl ⟨k, ?_⟩
          have : y ≠ x := fun e => hj (nodup_ix hN e1 (e ▸ hi))
          simp [this, e]
        · exact .inr ⟨k, c, e, z.sameBut hs (cne y c e)⟩
    · obtain ⟨w', z⟩ := I.cell y c e
      exact ⟨w', z.sameBut hs (cne y c e)⟩
    · obtain ⟨e, n, ne, nf, d⟩ := I.pin p hp
      exact ⟨(hs.2 p.1 ne).trans e, n, ne, nf, d⟩
  · have hfn : X.fn x = true := by
      rcases hf with z | z
      · exact z
      · rw [z] at hk; cases hk
    obtain ⟨c, hc⟩ := I.ok.has x (.inl hk)
    obtain ⟨w', z⟩ := I.cell x c hc
    refine wpAny_storeName_cell I.ok.kind hk hc z (fun h' hc' hs => ?_)
    obtain ⟨oc, hoc, hocd⟩ := id z
    refine h { s with heap := h' } ⟨I.ok, I.os, I.bare, ⟨fun b o e n hb hx => ?_, fun b o e n hb hx => ?_, I.base.free, fun b o e hx => ?_, I.base.tups, I.base.frzs, I.base.tbls⟩, ⟨m, hn.sameBut hs (Ne.symm (cne x c hc)), fun j y v' e1 e2 e3 => ?_⟩, fun y c' e => ?_, I.free, I.freeC, fun p hp => ?_, tracked ⟨oc, hoc, I.freeC x c hc⟩ hs, by simpa using I.len⟩ ⟨c, hs, .inr hc⟩
    · exact (hs.2 b (Nat.ne_of_lt (Nat.lt_of_lt_of_le (Heap.lt_size e) (I.ok.cab x c hfn hc)))).trans (I.base.keep b o e n hb hx)
    · obtain ⟨sl, e1⟩ := I.base.slot b o e n hb hx
      exact ⟨sl, (hs.2 b (Nat.ne_of_lt (Nat.lt_of_lt_of_le (Heap.lt_size e) (I.ok.cab x c hfn hc)))).trans e1⟩
    · obtain ⟨o', e1⟩ := I.base.there b o e hx
      exact ⟨o', (hs.2 b (Nat.ne_of_lt (Nat.lt_of_lt_of_le (Heap.lt_size e) (I.ok.cab x c hfn hc)))).trans e1⟩
    · by_cases hj : j = i
      · subst hj
        rw [hi] at e1; cases e1
        rw [List.getElem?_set_self hiσ] at e2
        cases e2
        exact ⟨u, r, .inr ⟨.inl hk, c, hc, hc'⟩⟩
      · rw [List.getElem?_set_ne (Ne.symm hj)] at e2
        obtain ⟨u', r', q⟩ := hl j y v' e1 e2 e3
        refine ⟨u', r', ?_⟩
        rcases q with q | ⟨k, c', e, z'⟩
        · exact .inl q
        · refine .inr ⟨k, c', e, z'.sameBut hs ?_⟩
          rintro rfl
          exact hj (nodup_ix hN e1 (I.ok.inj _ _ _ e hc ▸ hi))
    · by_cases hcc : c' = c
      · subst hcc; exact ⟨_, hc'⟩
      · obtain ⟨w2, z2⟩ := I.cell y c' e
        exact ⟨w2, z2.sameBut hs hcc⟩
    · obtain ⟨e, n, ne, nf, d⟩ := I.pin p hp
      refine ⟨(hs.2 p.1 ?_).trans e, n, ne, nf, d⟩
      intro q
      rw [q, hoc] at e
      have q' : oc = p.2 := Option.some.inj e
      exact d w' (by rw [← q']; exact hocd)
theorem store_ok {M : Model} {A : Around} {E : Value → Shared → Prop} {i : Nat} {x : Str} {v : V} {u : Value} {Q : Unit → Shared → Prop} (I : Inv X pins σ H s) (hN : X.N.Nodup) (hi : X.N[i]? = some x) (hx : Loc X.env.scope x) (r : RelV v u)
    (h : ∀ s', Inv X pins (σ.set i (some v)) H s' → Q () s') (hf : X.fn x = true ∨ X.env.scope.names.lookup x = some .local := by first | exact .inl rfl | exact .inr rfl | assumption) : wpAny M A (storeName X.env x u) Q E s :=
  store_ok2 I hN hi hx r (fun s' I' _ => h s' I') hf
theorem Inv.call' {s' : Shared} {ch : List Addr} (I : Inv X pins σ H s) (ho : s'.os = s.os) (u : Un (frs X.stack) ch H H' s.heap s'.heap) (hok : HOk X.prog X.w H' s'.heap) (hg : AllBare s'.gens)
    (hch : ∀ b ∈ ch, (b ∈ X.ex ∨ X.s₀.heap.objs.size ≤ b) ∧ b ≠ X.env.locals ∧ (∀ x c, X.env.cells.lookup x = some c → c ≠ b) ∧ ∀ p ∈ X.pn ++ pins, p.1 ≠ b) : Inv X pins σ H' s' := by
  obtain ⟨h', g', d', t', o'⟩ := s'
  have e : o' = s.os := ho
  subst e
  exact I.call (g' := g') (t' := t') (d' := d') u hok hg hch
end
abbrev XK := Value → Option Addr → Hp → Prop
abbrev St := List (Option V)
abbrev VK := V → Hp → Prop
abbrev TE := St → Hp → VK → Prop
abbrev TT := St → Hp → (Bool → Hp → Prop) → Prop
abbrev TA := St → Hp → (List V → Hp → Prop) → Prop
structure Ends where
  nx : St → Hp → Prop
  rt : VK
  bk : St → Hp → Prop := fun _ _ => False
  ct : St → Hp → Prop := fun _ _ => False
abbrev TS := Ends → St → Hp → Prop
noncomputable def EP (X : Cx) (pins : List (Addr × Obj)) (σ : St) (Q : VK) (u : Value) (s' : Shared) : Prop := ∃ v H', Inv X pins σ H' s' ∧ RelV v u ∧ Q v H'
noncomputable def TP (X : Cx) (pins : List (Addr × Obj)) (σ : St) (Q : Bool → Hp → Prop) (b : Bool) (s' : Shared) : Prop := ∃ H', Inv X pins σ H' s' ∧ Q b H'
noncomputable def AP (X : Cx) (pins : List (Addr × Obj)) (σ : St) (Q : List V → Hp → Prop) (us : List Value) (s' : Shared) : Prop := ∃ vs H', Inv X pins σ H' s' ∧ Vals vs us ∧ Q vs H'
noncomputable def SP (X : Cx) (pins : List (Addr × Obj)) (D : Ends) (f : Flow) (s' : Shared) : Prop :=
  match f with
  | .next => ∃ σ' H', Inv X pins σ' H' s' ∧ D.nx σ' H'
  | .brk => ∃ σ' H', Inv X pins σ' H' s' ∧ D.bk σ' H'
  | .cont => ∃ σ' H', Inv X pins σ' H' s' ∧ D.ct σ' H'
  | .ret u => ∃ v σ' H', Inv X pins σ' H' s' ∧ RelV v u ∧ D.rt v H'
noncomputable def PE (X : Cx) (e : Expr) (t : TE) : Prop :=
  ∀ (pins : List (Addr × Obj)) (s : Shared) (σ : St) (H : Hp) (Q : VK), Inv X pins σ H s → t σ H Q → wpAny (model X.prog X.w) X.A (eval e X.env) (EP X pins σ Q) X.xe s
noncomputable def PT (X : Cx) (e : Expr) (t : TT) : Prop :=
  ∀ (pins : List (Addr × Obj)) (s : Shared) (σ : St) (H : Hp) (Q : Bool → Hp → Prop), Inv X pins σ H s → t σ H Q → wpAny (model X.prog X.w) X.A (isTrue e X.env (eval e X.env)) (TP X pins σ Q) X.xe s
noncomputable def PW (X : Cx) (e : Expr) (t : TT) : Prop :=
  ∀ (whole : Sem Value) (pins : List (Addr × Obj)) (s : Shared) (σ : St) (H : Hp) (Q : Bool → Hp → Prop), Inv X pins σ H s → t σ H Q → wpAny (model X.prog X.w) X.A (isTrue e X.env whole) (TP X pins σ Q) X.xe s
theorem PW.pt {X : Cx} {e : Expr} {t : TT} (h : PW X e t) : PT X e t := h _
noncomputable def PA (X : Cx) (es : List Expr) (t : TA) : Prop :=
  ∀ (pos : Pos) (pins : List (Addr × Obj)) (s : Shared) (σ : St) (H : Hp) (Q : List V → Hp → Prop), Inv X pins σ H s → t σ H Q → wpAny (model X.prog X.w) X.A (spliced (backTo pos (starEach es X.env))) (AP X pins σ Q) X.xe s
noncomputable def PS (X : Cx) (st : Stmt) (t : TS) : Prop :=
  ∀ (pins : List (Addr × Obj)) (s : Shared) (σ : St) (H : Hp) (D : Ends), Inv X pins σ H s → t D σ H → wpAny (model X.prog X.w) X.A (exec st X.env) (SP X pins D) X.xe s
noncomputable def PSs (X : Cx) (st : List Stmt) (t : TS) : Prop :=
  ∀ (pins : List (Addr × Obj)) (s : Shared) (σ : St) (H : Hp) (D : Ends), Inv X pins σ H s → t D σ H → wpAny (model X.prog X.w) X.A (execs st X.env) (SP X pins D) X.xe s
theorem thn {α : Type} {t : Sem α} {Q Q' : α → Shared → Prop} {M : Model} {A : Around} {E : Value → Shared → Prop} {s : Shared} (h : wpAny M A t Q E s) (hQ : ∀ a s, Q a s → Q' a s) : wpAny M A t Q' E s := wpAny_mono h hQ fun _ _ x => x
end L2
namespace L2
open PySem PySem.Spec PyProof.Rows
section
variable {X : Cx}
theorem bin {a b : Expr} {ta tb : TE} (ha : PE X a ta) (hb : PE X b tb) {pins : List (Addr × Obj)} {s : Shared} {σ : St} {H : Hp} {R : V → V → Hp → Prop} (I : Inv X pins σ H s) (h : ta σ H fun x H1 => tb σ H1 fun y H2 => R x y H2)
    {α : Type} {Q : α → Shared → Prop} {f : Value → Value → Sem α}
    (hf : ∀ v u s2 x y H2, Inv X pins σ H2 s2 → RelV x v → RelV y u → R x y H2 → wpAny (model X.prog X.w) X.A (f v u) Q X.xe s2) :
    wpAny (model X.prog X.w) X.A (eval a X.env) (fun v s₁ => wpAny (model X.prog X.w) X.A (eval b X.env) (fun u s₂ => wpAny (model X.prog X.w) X.A (f v u) Q X.xe s₂) X.xe s₁) X.xe s := by
  refine thn (ha pins s σ H _ I h) fun v s1 ⟨x, H1, I1, r1, q1⟩ => ?_
  refine thn (hb pins s1 σ H1 _ I1 q1) fun u s2 ⟨y, H2, I2, r2, q2⟩ => ?_
  exact hf v u s2 x y H2 I2 r1 r2 q2
noncomputable def tVar (i : Nat) : TE := fun σ H Q => ∃ v, σ[i]? = some (some v) ∧ Q v H
noncomputable def tC (v : V) : TE := fun _ H Q => Q v H
theorem pe_var {i : Nat} {x : Str} {pos : Pos} (hN : X.N[i]? = some x) (hv : Vis X.env.scope x) (hd : (x == ("__debug__" : Str)) = false := by decide) (hcd : (x == ("__classdict__" : Str)) = false := by decide) : PE X (.Name x pos) (tVar i) := by
  intro pins s σ H Q I h
  obtain ⟨v, e, h⟩ := h
  obtain ⟨m, hn, hl⟩ := I.loc
  obtain ⟨u, r, l⟩ := hl i x v hN e hv
  have fin : EP X pins σ Q u s := ⟨v, H, I, r, h⟩
  rcases l with ⟨hk, hm⟩ | ⟨hk, c, hc, hcell⟩
  · exact wpAny_Name (wpAny_loadName_local I.ok.kind hk hn hm fin) hd
  · rcases hk with hk | hk
    · exact wpAny_Name (wpAny_loadName_cell I.ok.kind hk hc hcell fin) hd
    · exact wpAny_Name (wpAny_loadName_free I.ok.kind hk hc hcell fin hcd) hd
theorem pe_int {i j pos} : PE X (.Constant (.int i) j pos) (tC (.int i)) := fun _ _ _ H _ I h => wpAny_Constant_int ⟨.int i, H, I.tok _, ⟨_, rfl⟩, h⟩
theorem pe_bl {b j pos} : PE X (.Constant (.bool b) j pos) (tC (.bl b)) := fun _ _ _ H _ I h => Constant_bool ⟨.bl b, H, I, rfl, h⟩
theorem pe_str {x j pos} : PE X (.Constant (.str x) j pos) (tC (.str x)) := fun _ _ _ H _ I h => Calls.Constant_str ⟨.str x, H, I.tok _, ⟨_, rfl⟩, h⟩
noncomputable def Gl (X : Cx) (x : Str) : Prop := X.env.kindOf x = some .globalImplicit
theorem ld_glob {E : Value → Shared → Prop} {pins : List (Addr × Obj)} {s : Shared} {σ : St} {H : Hp} {x : Str} {u : Value} {pos : Pos} {Q : Value → Shared → Prop} (I : Inv X pins σ H s) (hg : Gl X x) (hm : X.mg x = some u) (h : Q u s)
    (hd : (x == ("__debug__" : Str)) = false := by decide) : wpAny (model X.prog X.w) X.A (eval (.Name x pos) X.env) Q E s :=
  Calls.Name_function_global I.ok.kind hg (Calls.loadGlobal_global (by rw [I.ok.glob]; exact I.mod.glob.keeps I.bk) hm h) hd
theorem ld_blt {E : Value → Shared → Prop} {pins : List (Addr × Obj)} {s : Shared} {σ : St} {H : Hp} {x : Str} {u : Value} {pos : Pos} {Q : Value → Shared → Prop} (I : Inv X pins σ H s) (hg : Gl X x) (hm : X.mg x = none) (hv : bootBuiltins x = some u) (h : Q u s)
    (hn : x ≠ "__name__" := by decide) (hd : (x == ("__debug__" : Str)) = false := by decide) : wpAny (model X.prog X.w) X.A (eval (.Name x pos) X.env) Q E s := by
  obtain ⟨mb, h1, h2⟩ := I.mod.blt
  exact Calls.Name_function_global I.ok.kind hg (Calls.loadGlobal_builtin (by rw [I.ok.glob]; exact I.mod.glob.keeps I.bk) hm (by rw [I.ok.blt]; exact h1.keeps I.bk) ((h2 x hn).trans hv) h) hd
variable {a b : Expr} {ta tb : TE} {pos : Pos}
variable {tA tB' : TT} {rest : List Expr}
noncomputable def tAnd (t u : TT) : TT := fun σ H Q => t σ H fun c H1 => if c = true then u σ H1 Q else Q false H1
noncomputable def tOr (t u : TT) : TT := fun σ H Q => t σ H fun c H1 => if c = true then Q true H1 else u σ H1 Q
theorem pw_and1 (ha : PT X a tA) : PW X (.BoolOp .And [a] pos) tA := by
  intro wh pins s σ H Q I h
  refine isTrue_and (thn (ha pins s σ H Q I h) fun c s1 e => ?_)
  cases c with
  | true => exact isTrue_and_nil e
  | false => exact e
theorem pw_or1 (ha : PT X a tA) : PW X (.BoolOp .Or [a] pos) tA := by
  intro wh pins s σ H Q I h
  refine isTrue_or (thn (ha pins s σ H Q I h) fun c s1 e => ?_)
  cases c with
  | false => exact isTrue_or_nil e
  | true => exact e
theorem pw_and (ha : PT X a tA) (hb : PW X (.BoolOp .And (b :: rest) pos) tB') : PW X (.BoolOp .And (a :: b :: rest) pos) (tAnd tA tB') := by
  intro wh pins s σ H Q I h
  refine isTrue_and (thn (ha pins s σ H _ I h) fun c s1 ⟨H1, I1, q1⟩ => ?_)
  cases c with
  | true => exact hb wh pins s1 σ H1 Q I1 q1
  | false => exact ⟨H1, I1, q1⟩
theorem pw_or (ha : PT X a tA) (hb : PW X (.BoolOp .Or (b :: rest) pos) tB') : PW X (.BoolOp .Or (a :: b :: rest) pos) (tOr tA tB') := by
  intro wh pins s σ H Q I h
  refine isTrue_or (thn (ha pins s σ H _ I h) fun c s1 ⟨H1, I1, q1⟩ => ?_)
  cases c with
  | true => exact ⟨H1, I1, q1⟩
  | false => exact hb wh pins s1 σ H1 Q I1 q1
noncomputable def tIf (t : TT) (ta tb : TE) : TE := fun σ H Q => t σ H fun c H1 => if c = true then ta σ H1 Q else tb σ H1 Q
theorem pe_ifExp {c : Expr} (hc : PT X c tA) (ha : PE X a ta) (hb : PE X b tb) : PE X (.IfExp c a b pos) (tIf tA ta tb) := by
  intro pins s σ H Q I h
  refine wpAny_IfExp (thn (hc pins s σ H _ I h) fun d s1 ⟨H1, I1, q1⟩ => ?_)
  cases d with
  | true => exact ha pins s1 σ H1 Q I1 q1
  | false => exact hb pins s1 σ H1 Q I1 q1
end
end L2
namespace L2
open PySem PySem.Spec PyProof.Rows
noncomputable def SqL (K : PySem.W.Frag) (H : Hp) (a : Addr) (xs : List V) : Prop :=
  Rd H a (.lst xs) ∨
    ∃ (o : Obj) (its : Array Value) (n : Nat), K.lookup a = some o ∧ o.cls = .type "list" ∧ o.dict = none ∧ o.data = .seq its n ∧ its.size ≤ sizeLine ∧ Vals xs its.toList
noncomputable def SqT (K : PySem.W.Frag) (H : Hp) (a : Addr) (xs : List V) : Prop :=
  Rd H a (.tup xs) ∨
    ∃ (o : Obj) (its : Array Value) (n : Nat), K.lookup a = some o ∧ o.cls = .type "tuple" ∧ o.data = .seq its n ∧ its.size ≤ sizeLine ∧ Vals xs its.toList
noncomputable def absV : Value → Option V
  | .none => some .non
  | .bool b => some (.bl b)
  | .int i _ => some (.int i)
  | .str x _ => some (.str x)
  | .bytes b _ => some (.byt b)
  | .float b _ => some (.flt b)
  | .ref a => some (.ref a)
  | .type n => some (.ty n)
  | _ => none
theorem RelV.abs {x : V} {u : Value} (r : RelV x u) : absV u = some x := by
  cases x with
  | non => cases r; rfl
  | bl _ => cases r; rfl
  | int _ => obtain ⟨t, rfl⟩ := r; rfl
  | str _ => obtain ⟨t, rfl⟩ := r; rfl
  | byt _ => obtain ⟨t, rfl⟩ := r; rfl
  | flt _ => obtain ⟨t, rfl⟩ := r; rfl
  | ref _ => cases r; rfl
  | ty _ => cases r; rfl
theorem RelV.inj {x y : V} {u : Value} (r : RelV x u) (q : RelV y u) : x = y := Option.some.inj (r.abs.symm.trans q.abs)
theorem Vals.inj : ∀ {xs ys : List V} {us : List Value}, Vals xs us → Vals ys us → xs = ys
  | _, _, _, .nil, .nil => rfl
  | _, _, _, .cons r t, .cons r' t' => by rw [r.inj r', Vals.inj t t']
section
variable {X : Cx} {pins : List (Addr × Obj)} {σ : St} {H : Hp} {s : Shared} {a : Addr} {xs ys : List V}
theorem SqL.of {K : PySem.W.Frag} (h : H a = some (.lst xs)) : SqL K H a xs := .inl (.inl h)
theorem SqT.of {K : PySem.W.Frag} (h : H a = some (.tup xs)) : SqT K H a xs := .inl (.inl h)
theorem Inv.list (I : Inv X pins σ H s) (h : SqL X.K H a xs) : ∃ its : List Value, Vals xs its ∧ PlainL s.heap a its.toArray ∧ xs.length ≤ sizeLine := by
  rcases h with h | ⟨o, its, n, hk, hc, hd, hs, hz, r⟩
  · obtain ⟨z, its, n, r, e⟩ := h.ok I.hok
    exact ⟨its, r, ⟨_, n, e, rfl, rfl, rfl⟩, z⟩
  · refine ⟨its.toList, r, ⟨o, n, I.kIn a o hk, hc, hd, by simpa using hs⟩, ?_⟩
    have e := r.length
    simp only [Array.length_toList] at e
    omega
theorem Inv.tuple (I : Inv X pins σ H s) (h : SqT X.K H a xs) : ∃ its : List Value, Vals xs its ∧ IsTup s.heap a its.toArray ∧ xs.length ≤ sizeLine := by
  rcases h with h | ⟨o, its, n, hk, hc, hs, hz, r⟩
  · obtain ⟨z, its, r, p⟩ := h.ok I.hok
    exact ⟨its, r, p, z⟩
  · refine ⟨its.toList, r, ⟨o, I.kIn a o hk, hc, n, by simpa using hs⟩, ?_⟩
    have e := r.length
    simp only [Array.length_toList] at e
    omega
theorem Inv.list_inj (I : Inv X pins σ H s) (h : SqL X.K H a xs) (h' : SqL X.K H a ys) : xs = ys := by
  obtain ⟨its, r, ⟨o, n, e, _, _, d⟩, _⟩ := I.list h
  obtain ⟨its', r', ⟨o', n', e', _, _, d'⟩, _⟩ := I.list h'
  rw [e] at e'; cases e'
  rw [d] at d'
  injection d' with d1 _
  have : its = its' := by simpa using congrArg Array.toList d1
  subst this
  exact r.inj r'
theorem Inv.tuple_inj (I : Inv X pins σ H s) (h : SqT X.K H a xs) (h' : SqT X.K H a ys) : xs = ys := by
  obtain ⟨its, r, ⟨o, e, _, n, d⟩, _⟩ := I.tuple h
  obtain ⟨its', r', ⟨o', e', _, n', d'⟩, _⟩ := I.tuple h'
  rw [e] at e'; cases e'
  rw [d] at d'
  injection d' with d1 _
  have : its = its' := by simpa using congrArg Array.toList d1
  subst this
  exact r.inj r'
end
abbrev Cx.wish (X : Cx) (E : Value → Shared → Prop) : Cx := { X with xe := E }
abbrev Cx.nox (X : Cx) : Cx := X.wish fun _ _ => False
theorem Cx.Ok.wish {X : Cx} (ok : X.Ok) (E : Value → Shared → Prop) : (X.wish E).Ok :=
  ⟨ok.mod, ok.kind, ok.glob, ok.blt, ok.above, ok.inj, ok.has, ok.cab, ok.hd, ok.frames, ok.stk, ok.exf, ok.bs, ok.bsz, ok.noex, ok.exfs, ok.funs, ok.frf⟩
theorem Cx.Ok.unwish {X : Cx} {E : Value → Shared → Prop} (ok : (X.wish E).Ok) : X.Ok :=
  ⟨ok.mod, ok.kind, ok.glob, ok.blt, ok.above, ok.inj, ok.has, ok.cab, ok.hd, ok.frames, ok.stk, ok.exf, ok.bs, ok.bsz, ok.noex, ok.exfs, ok.funs, ok.frf⟩
section
variable {X : Cx} {pins : List (Addr × Obj)} {σ : St} {H : Hp} {s : Shared} {E : Value → Shared → Prop}
theorem Inv.wish (I : Inv X pins σ H s) (E : Value → Shared → Prop) : Inv (X.wish E) pins σ H s := ⟨I.ok.wish E, I.os, I.bare, I.base, I.loc, I.cell, I.free, I.freeC, I.pin, I.hok, I.len⟩
theorem Inv.unwish (I : Inv (X.wish E) pins σ H s) : Inv X pins σ H s := ⟨I.ok.unwish, I.os, I.bare, I.base, I.loc, I.cell, I.free, I.freeC, I.pin, I.hok, I.len⟩
theorem SP.unwish {D : Ends} {f : Flow} {s' : Shared} (h : SP (X.wish E) pins D f s') : SP X pins D f s' := by
  cases f with
  | next => obtain ⟨σ', H', I, q⟩ := h; exact ⟨σ', H', I.unwish, q⟩
  | brk => obtain ⟨σ', H', I, q⟩ := h; exact ⟨σ', H', I.unwish, q⟩
  | cont => obtain ⟨σ', H', I, q⟩ := h; exact ⟨σ', H', I.unwish, q⟩
  | ret u => obtain ⟨v, σ', H', I, r, q⟩ := h; exact ⟨v, σ', H', I.unwish, r, q⟩
theorem PSs.nox {st : List Stmt} {t : TS} (h : PSs X.nox st t) : PSs X st t := fun pins s σ H D I hw =>
  wpAny_mono (h pins s σ H D (I.wish _) hw) (fun _ _ q => q.unwish) fun _ _ z => False.elim z
end
section
variable {X : Cx} {st : Stmt} {rest : List Stmt} {t u : TS} {e : Expr} {te : TE} {pos : Pos}
noncomputable def tNext : TS := fun D σ H => D.nx σ H
noncomputable def tSeq (t u : TS) : TS := fun D σ H => t { D with nx := u D } σ H
theorem pss_nil : PSs X [] tNext := fun _ _ σ H _ I h => wpAny_execs_nil ⟨σ, H, I, h⟩
theorem pss_cons (h1 : PS X st t) (h2 : PSs X rest u) : PSs X (st :: rest) (tSeq t u) := by
  intro pins s σ H D I h
  refine wpAny_execs_cons (thn (h1 pins s σ H { D with nx := u D } I h) fun f s1 q => ?_)
  cases f with
  | next =>
    obtain ⟨σ', H', I', q⟩ := q
    exact h2 pins s1 σ' H' D I' q
  | ret v => exact q
  | brk => exact q
  | cont => exact q
theorem Inv.quiet {pins : List (Addr × Obj)} {σ : St} {H : Hp} {s : Shared} (I : Inv X pins σ H s) : interactive X.env = false := by simp [interactive, I.ok.kind]
noncomputable def tDrop (te : TE) : TS := fun D σ H => te σ H fun _ H1 => D.nx σ H1
theorem ps_expr (he : PE X e te) (hs : swapsWith e none pos.line X.env = pure false := by rfl) : PS X (.Expr e pos) (tDrop te) := by
  intro pins s σ H D I h
  exact wpAny_Expr_any (thn (he pins s σ H _ I h) fun v s1 ⟨x, H1, I1, r1, q1⟩ => ⟨σ, H1, I1, q1⟩) I.quiet hs
noncomputable def tRet (te : TE) : TS := fun D σ H => te σ H D.rt
theorem ps_ret (he : PE X e te) : PS X (.Return (some e) pos) (tRet te) := by
  intro pins s σ H D I h
  exact wpAny_Return_some (thn (he pins s σ H _ I h) fun v s1 ⟨x, H1, I1, r1, q1⟩ => ⟨x, σ, H1, I1, r1, q1⟩)
noncomputable def tIfS (c : TT) (t u : TS) : TS := fun D σ H => c σ H fun b H1 => if b = true then t D σ H1 else u D σ H1
theorem ps_if {c : Expr} {a b : List Stmt} {tc : TT} (hc : PT X c tc) (ha : PSs X a t) (hb : PSs X b u) : PS X (.If c a b pos) (tIfS tc t u) := by
  intro pins s σ H D I h
  refine wpAny_If (thn (hc pins s σ H _ I h) fun d s1 ⟨H1, I1, q1⟩ => ?_)
  cases d with
  | true => exact ha pins s1 σ H1 D I1 q1
  | false => exact hb pins s1 σ H1 D I1 q1
end
abbrev TG := V → St → Hp → (St → Hp → Prop) → Prop
abbrev TGs := List V → St → Hp → (St → Hp → Prop) → Prop
noncomputable def PG (X : Cx) (target : Expr) (t : TG) : Prop :=
  ∀ (pins : List (Addr × Obj)) (s : Shared) (σ : St) (H : Hp) (v : V) (u : Value) (Q : St → Hp → Prop), Inv X pins σ H s → RelV v u → t v σ H Q →
    wpAny (model X.prog X.w) X.A (assign target X.env u) (fun _ s' => ∃ σ' H', Inv X pins σ' H' s' ∧ Q σ' H') X.xe s
noncomputable def PGs (X : Cx) (ts : List Expr) (t : TGs) : Prop :=
  ∀ (pins : List (Addr × Obj)) (s : Shared) (σ : St) (H : Hp) (vs : List V) (us : List Value) (Q : St → Hp → Prop), Inv X pins σ H s → Vals vs us → t vs σ H Q →
    wpAny (model X.prog X.w) X.A (assignInOrder ((assignEach ts X.env).map (·.2)) us) (fun _ s' => ∃ σ' H', Inv X pins σ' H' s' ∧ Q σ' H') X.xe s
section
variable {X : Cx} {pos : Pos}
noncomputable def gName (i : Nat) : TG := fun v σ H Q => Q (σ.set i (some v)) H
theorem pg_name {i : Nat} {x : Str} (hN : X.N.Nodup) (hi : X.N[i]? = some x) (hx : Loc X.env.scope x) (hf : X.fn x = true ∨ X.env.scope.names.lookup x = some .local := by first | exact .inl rfl | exact .inr rfl | assumption) : PG X (.Name x pos) (gName i) := by
  intro pins s σ H v u Q I r h
  exact wpAny_assign_Name (store_ok I hN hi hx r (fun s' I' => ⟨_, H, I', h⟩) hf)
noncomputable def gNil : TGs := fun vs σ H Q => vs = [] ∧ Q σ H
noncomputable def gCons (t : TG) (u : TGs) : TGs := fun vs σ H Q => ∃ v r, vs = v :: r ∧ t v σ H fun σ' H' => u r σ' H' Q
theorem pgs_nil : PGs X [] gNil := by
  intro pins s σ H vs us Q I r h
  obtain ⟨e, h⟩ := h
  subst e
  cases r
  exact assignInOrder_nil ⟨σ, H, I, h⟩
theorem pgs_cons {e : Expr} {es : List Expr} {t : TG} {u : TGs} (h1 : PG X e t) (h2 : PGs X es u)
    (hs : (assignEach (e :: es) X.env).map (·.2) = assign e X.env :: (assignEach es X.env).map (·.2) := by rfl) : PGs X (e :: es) (gCons t u) := by
  intro pins s σ H vs us Q I r h
  obtain ⟨v, vr, e1, h⟩ := h
  subst e1
  cases r with
  | cons r rr =>
    rw [hs]
    refine assignInOrder_cons (thn (h1 pins s σ H _ _ _ I r h) fun _ s1 ⟨σ1, H1, I1, q1⟩ => ?_)
    exact h2 pins s1 σ1 H1 _ _ Q I1 rr q1
noncomputable def gTup (K : PySem.W.Frag) (n : Nat) (t : TGs) : TG := fun v σ H Q => ∃ a xs, v = .ref a ∧ SqT K H a xs ∧ xs.length = n ∧ t xs σ H Q
theorem pg_tup {es : List Expr} {k : Nat} {t : TGs} {n : Nat} (hc : X.calm = true) (h : PGs X es t)
    (hn : (assignEach es X.env).length = n := by rfl) (hst : (assignEach es X.env).findIdx? (·.1) = none := by rfl) : PG X (.Tuple es k pos) (gTup X.K n t) := by
  intro pins s σ H v u Q I r hw
  obtain ⟨a, xs, e1, hq, hl, hw⟩ := hw
  subst e1
  cases r
  obtain ⟨its, rv, ht, hz⟩ := I.tuple hq
  refine assign_Tuple_tuple (I.ok.hd hc) ht (by simp [hn, ← hl, rv.length]) hst fun h' hx => ?_
  have I1 : Inv X pins σ H { s with heap := h' } := I.kept (t' := s.toks) fun b o e => hx b o (Nat.ne_of_lt (Heap.lt_size e)) e
  exact h pins _ σ H xs _ Q I1 (by simpa using rv) hw
noncomputable def tAsg (te : TE) (g : TG) : TS := fun D σ H => te σ H fun x H1 => g x σ H1 D.nx
theorem ps_asg {tg e : Expr} {te : TE} {g : TG} (he : PE X e te) (hg : PG X tg g) (hs : swapsWithSole [tg] e pos.line X.env = pure false := by rfl) (hw : swappedStores [tg] e X.env = pure none := by rfl)
    (h1 : (assignEach [tg] X.env).map (·.2) = [assign tg X.env] := by rfl) : PS X (.Assign [tg] e pos) (tAsg te g) := by
  intro pins s σ H D I h
  refine wpAny_Assign_stores (thn (he pins s σ H _ I h) fun v s1 ⟨x, H1, I1, r1, q1⟩ => ?_) hs hw
  rw [h1]
  exact thn (hg pins s1 σ H1 x v _ I1 r1 q1) fun _ s2 q => q
theorem ps_set {i : Nat} {x : Str} {e : Expr} {te : TE} {pos' : Pos} (hN : X.N.Nodup) (hi : X.N[i]? = some x) (hx : Loc X.env.scope x) (he : PE X e te) (hs : swapsWith e (some (.Name x pos')) pos.line X.env = pure false := by rfl) (hf : X.fn x = true ∨ X.env.scope.names.lookup x = some .local := by first | exact .inl rfl | exact .inr rfl | assumption) :
    PS X (.Assign [.Name x pos'] e pos) (tAsg te (gName i)) := by
  intro pins s σ H D I h
  refine wpAny_Assign_Name (thn (he pins s σ H _ I h) fun v s1 ⟨y, H1, I1, r1, q1⟩ => ?_) hs
  exact store_ok I1 hN hi hx r1 (fun s2 I2 => ⟨_, H1, I2, q1⟩) hf
end
section
variable {X : Cx} {pos : Pos}
end
structure It where
  go : Nat → Hp → Prop
  yld : Nat → Hp → V → Hp → Prop
  stop : Nat → Hp → Prop
noncomputable def FpOk (X : Cx) (pins : List (Addr × Obj)) (H : Hp) (b : Addr) : Prop :=
  H b = none ∧ b ≠ X.env.locals ∧ b ∉ X.fs ∧ (b ∈ X.ex ∨ X.s₀.heap.objs.size ≤ b) ∧ (∀ x c, X.env.cells.lookup x = some c → c ≠ b) ∧ ∀ p ∈ X.pn ++ pins, p.1 ≠ b
theorem Inv.fpOk {X : Cx} {pins : List (Addr × Obj)} {σ : St} {H H' : Hp} {s : Shared} {b : Addr} (I : Inv X pins σ H s) (hb : s.heap.objs.size ≤ b) (hn : H' b = none) : FpOk X pins H' b := by
  refine ⟨hn, Nat.ne_of_gt (Nat.lt_of_lt_of_le I.lt hb), I.nofs hb, .inr (Nat.le_trans I.sz hb), fun x c e z => ?_, fun p hp z => ?_⟩
  · obtain ⟨v, q⟩ := I.cell x c e
    exact absurd (Nat.lt_of_lt_of_le q.lt (by rw [z]; exact hb)) (Nat.lt_irrefl _)
  · exact absurd (Nat.lt_of_lt_of_le (Heap.lt_size (I.pin p hp).1) (by rw [z]; exact hb)) (Nat.lt_irrefl _)
structure Turn (P : Program) (w : World) (K : PySem.W.Frag) (tg : Expr) (J : It) (fp : List Addr) (it : Addr) (tn : Nat → Heap → Prop) : Prop where
  mem : it ∈ fp
  obj : ∀ i h, tn i h → ∀ b ∈ fp, ∃ o, h.get? b = some o ∧ ∀ v, o.data ≠ .cell v
  keep : ∀ i h h', tn i h → (∀ b ∈ fp, ∀ o, h.get? b = some o → h'.get? b = some o) → tn i h'
  item : ∀ (X : Cx), X.prog = P → X.w = w → X.K = K → X.calm = true → ∀ (i : Nat) (pins : List (Addr × Obj)) (s : Shared) (σ : St) (H : Hp) (E : Value → Shared → Prop), Inv X pins σ H s → (∀ b ∈ fp, FpOk X pins H b) → tn i s.heap → J.go i H →
    wpAny (model P w) X.A (pyNext (.ref it)) (fun r s1 => ∃ u, r = some u ∧
      wpAny (model P w) X.A (letOwnedTupleGo tg (.ref it) u) (fun _ s2 => ∃ x H', Inv X pins σ H' s2 ∧ RelV x u ∧ J.yld i H x H' ∧ tn (i + 1) s2.heap ∧ ∀ b ∈ fp, H' b = none) E s1) E s
  done : ∀ (X : Cx), X.prog = P → X.w = w → X.K = K → X.calm = true → ∀ (i : Nat) (pins : List (Addr × Obj)) (s : Shared) (σ : St) (H : Hp) (E : Value → Shared → Prop), Inv X pins σ H s → (∀ b ∈ fp, FpOk X pins H b) → tn i s.heap → J.stop i H →
    wpAny (model P w) X.A (pyNext (.ref it)) (fun r s1 => r = none ∧ Inv X pins σ H s1) E s
  self : ∀ (A : Around) (i : Nat) (s : Shared) (Q : Value → Shared → Prop) (E : Value → Shared → Prop), tn i s.heap → Q (.ref it) s → wpAny (model P w) A (pyIter (.ref it)) Q E s
abbrev TI := St → Hp → (It → Hp → Prop) → Prop
noncomputable def PIE (X : Cx) (pins : List (Addr × Obj)) (σ : St) (tg : Expr) (R : It → Hp → Prop) (itv : Value) (s2 : Shared) : Prop :=
  ∃ (it : Addr) (fp : List Addr) (tn : Nat → Heap → Prop) (J : It) (H' : Hp), itv = .ref it ∧ Inv X pins σ H' s2 ∧ Turn X.prog X.w X.K tg J fp it tn ∧ tn 0 s2.heap ∧ (∀ b ∈ fp, FpOk X pins H' b) ∧ R J H'
noncomputable def PI (X : Cx) (tg iter : Expr) (wi : TI) : Prop :=
  ∀ (pins : List (Addr × Obj)) (s : Shared) (σ : St) (H : Hp) (R : It → Hp → Prop), Inv X pins σ H s → wi σ H R →
    wpAny (model X.prog X.w) X.A (eval iter X.env) (fun v s1 => wpAny (model X.prog X.w) X.A (pyIter v) (PIE X pins σ tg R) X.xe s1) X.xe s
theorem go_of {M : Model} {A : Around} {E : Value → Shared → Prop} {s : Shared} {tg : Expr} {it : Addr} {u : Value} {o : Obj} {n : String} {vs : Array Value} {Q : Unit → Shared → Prop} (ho : s.heap.get? it = some o) (hc : o.cls = .type n) (hd : o.data = .fields vs)
    (hn : ["enumerate", "zip", "dict_itemiterator", "dict_reverseitemiterator", "odict_iterator", "itertools.zip_longest", "itertools.pairwise"].contains n = false) (hQ : Q () s) : wpAny M A (letOwnedTupleGo tg (.ref it) u) Q E s := by
  unfold letOwnedTupleGo
  cases tg <;> first
    | exact wpAny_pure hQ
    | (cases u <;> first
        | exact wpAny_pure hQ
        | (refine wpAny_bind (wpAny_load ho ?_)
           rw [hc, hd]
           show wpAny M A (if (["enumerate", "zip", "dict_itemiterator", "dict_reverseitemiterator", "odict_iterator", "itertools.zip_longest", "itertools.pairwise"].contains n && vs[0]? == some (rawInt _)) = true then _ else _) Q E s
           rw [if_neg (by intro h; rw [hn, Bool.false_and] at h; cases h)]
           exact wpAny_pure hQ))
noncomputable def Itl (K : PySem.W.Frag) (a : Addr) : It :=
  ⟨fun i H => ∃ xs x, SqL K H a xs ∧ xs[i]? = some x, fun i H x H' => H' = H ∧ ∀ xs, SqL K H a xs → xs[i]? = some x, fun i H => ∃ xs, SqL K H a xs ∧ xs.length ≤ i⟩
noncomputable def Itt (K : PySem.W.Frag) (a : Addr) : It :=
  ⟨fun i H => ∃ xs x, SqT K H a xs ∧ xs[i]? = some x, fun i H x H' => H' = H ∧ ∀ xs, SqT K H a xs → xs[i]? = some x, fun i H => ∃ xs, SqT K H a xs ∧ xs.length ≤ i⟩
noncomputable def Itr (lo : Int) (n : Nat) : It := ⟨fun i _ => i < n, fun i H x H' => H' = H ∧ x = .int (lo + i), fun i _ => n ≤ i⟩
theorem turn_list {P : Program} {w : World} {K : PySem.W.Frag} {tg : Expr} (a it : Addr) : Turn P w K tg (Itl K a) [it] it (fun i h => h.IsListIter it a i) where
  mem := by simp
  obj := fun i h st b hb => by
    have e : b = it := by simpa using hb
    subst e
    obtain ⟨o, e, c, d⟩ := st
    exact ⟨o, e, fun v z => by rw [d] at z; cases z⟩
  keep := fun i h h' st k => st.at fun o e => k it (by simp) o e
  item := by
    intro X hP hw hK hc i pins s σ H E I hf st hg
    subst hP hw hK
    obtain ⟨xs, x, hq, hx⟩ := hg
    obtain ⟨its, rv, p, hz⟩ := I.list hq
    obtain ⟨u, hu, ru⟩ := rv.get hx
    obtain ⟨f0, f1, f2, f3, f4, f5⟩ := hf it (by simp)
    refine wpAny_pyNext_list_item st p.isList (x := u) (by simpa using hu) fun h' st' sb => ?_
    have I1 : Inv X pins σ H { s with heap := h' } := I.turned (t' := s.toks) (fun b o hb e => (sb.2 b hb).trans e) f0 f1 f3 f4 f5
    obtain ⟨o, e, c, d⟩ := id st'
    exact ⟨u, rfl, go_of (s := { s with heap := h' }) e c d (by decide) ⟨x, H, I1, ru, ⟨rfl, fun ys hy => by rw [I.list_inj hy hq]; exact hx⟩, st', fun b hb => (hf b hb).1⟩⟩
  done := by
    intro X hP hw hK hc i pins s σ H E I hf st hg
    subst hP hw hK
    obtain ⟨xs, hq, hx⟩ := hg
    obtain ⟨its, rv, p, hz⟩ := I.list hq
    obtain ⟨f0, f1, f2, f3, f4, f5⟩ := hf it (by simp)
    have hl := rv.length
    exact wpAny_pyNext_list_end (I.ok.hd hc) st p.isList (by simp; omega) fun h' eb => ⟨rfl, I.turned (t' := s.toks) (fun b o hb e => eb b o hb e) f0 f1 f3 f4 f5⟩
  self := fun _ _ _ _ _ st h => wpAny_pyIter_listiter st h
theorem turn_tuple {P : Program} {w : World} {K : PySem.W.Frag} {tg : Expr} (a it : Addr) : Turn P w K tg (Itt K a) [it] it (fun i h => h.IsTupleIter it a i) where
  mem := by simp
  obj := fun i h st b hb => by
    have e : b = it := by simpa using hb
    subst e
    obtain ⟨o, e, c, d⟩ := st
    exact ⟨o, e, fun v z => by rw [d] at z; cases z⟩
  keep := fun i h h' st k => st.at fun o e => k it (by simp) o e
  item := by
    intro X hP hw hK hc i pins s σ H E I hf st hg
    subst hP hw hK
    obtain ⟨xs, x, hq, hx⟩ := hg
    obtain ⟨its, rv, p, hz⟩ := I.tuple hq
    obtain ⟨u, hu, ru⟩ := rv.get hx
    obtain ⟨f0, f1, f2, f3, f4, f5⟩ := hf it (by simp)
    refine wpAny_pyNext_tuple_item st (show s.heap.IsTuple a its.toArray from p) (x := u) (by simpa using hu) fun h' st' sb => ?_
    have I1 : Inv X pins σ H { s with heap := h' } := I.turned (t' := s.toks) (fun b o hb e => (sb.2 b hb).trans e) f0 f1 f3 f4 f5
    obtain ⟨o, e, c, d⟩ := id st'
    exact ⟨u, rfl, go_of (s := { s with heap := h' }) e c d (by decide) ⟨x, H, I1, ru, ⟨rfl, fun ys hy => by rw [I.tuple_inj hy hq]; exact hx⟩, st', fun b hb => (hf b hb).1⟩⟩
  done := by
    intro X hP hw hK hc i pins s σ H E I hf st hg
    subst hP hw hK
    obtain ⟨xs, hq, hx⟩ := hg
    obtain ⟨its, rv, p, hz⟩ := I.tuple hq
    obtain ⟨f0, f1, f2, f3, f4, f5⟩ := hf it (by simp)
    have hl := rv.length
    exact wpAny_pyNext_tuple_end (I.ok.hd hc) st (show s.heap.IsTuple a its.toArray from p) (by simp; omega) fun h' eb => ⟨rfl, I.turned (t' := s.toks) (fun b o hb e => eb b o hb e) f0 f1 f3 f4 f5⟩
  self := fun _ _ _ _ _ st h => wpAny_pyIter_tupleiter st h
theorem turn_range {P : Program} {w : World} {K : PySem.W.Frag} {tg : Expr} (it : Addr) (lo : Int) (n : Nat) : Turn P w K tg (Itr lo n) [it] it (fun i h => IsRangeIter h it (lo + (i : Nat) * 1) ((n : Int) - (i : Nat)) 1) where
  mem := by simp
  obj := fun i h st b hb => by
    have e : b = it := by simpa using hb
    subst e
    exact ⟨_, st, fun v z => by
      have z' : Data.fields _ = Data.cell v := z
      cases z'⟩
  keep := fun i h h' st k => k it (by simp) _ st
  item := by
    intro X hP hw hK hc i pins s σ H E I hf st hg
    subst hP hw hK
    obtain ⟨f0, f1, f2, f3, f4, f5⟩ := hf it (by simp)
    have W := Walks.range (prog := X.prog) (w := X.w) (I.ok.hd hc) it lo 1 n
    refine W.item i s _ _ hg st fun v h' tk hv st' kk => ?_
    obtain ⟨t, rfl⟩ := hv
    have I1 : Inv X pins σ H { s with heap := h', toks := tk } := I.turned (fun b o hb e => kk b o (by simpa using hb) e) f0 f1 f3 f4 f5
    refine ⟨_, rfl, go_of (s := { s with heap := h', toks := tk }) (n := "range_iterator") st' rfl rfl (by decide) ⟨.int (lo + i), H, I1, ⟨t, ?_⟩, ⟨rfl, rfl⟩, st', fun b hb => (hf b hb).1⟩⟩
    rw [Int.mul_one]
  done := by
    intro X hP hw hK hc i pins s σ H E I hf st hg
    subst hP hw hK
    obtain ⟨f0, f1, f2, f3, f4, f5⟩ := hf it (by simp)
    exact wpAny_pyNext_range_end (I.ok.hd hc) st (by have : n ≤ i := hg; omega) fun h' eb => ⟨rfl, I.turned (t' := s.toks) (fun b o hb e => eb b o hb e) f0 f1 f3 f4 f5⟩
  self := fun _ _ _ _ _ st h => wpAny_pyIter_rangeiter st h
end L2
namespace L2
open PySem PySem.Spec PyProof.Rows
section
variable {X : Cx} {tg : Expr}
theorem range_it {pins : List (Addr × Obj)} {σ : St} {H : Hp} {s : Shared} {R : It → Hp → Prop} {E : Value → Shared → Prop} {lo hi : Int} {t u v : Tok} {tk : Nat} (I : Inv X pins σ H s) (h1 : -(2 ^ 62) ≤ lo) (h2 : lo < 2 ^ 62) (h3 : -(2 ^ 62) ≤ hi) (h4 : hi < 2 ^ 62)
    (q : R (Itr lo (hi - lo).toNat) H) : wpAny (model X.prog X.w) X.A (pyIter (.ref s.heap.objs.size)) (PIE X pins σ tg R) E { s with heap := s.heap.push { cls := .type "range", data := .fields #[.int lo t, .int hi u, .int 1 v] }, toks := tk } := by
  refine wpAny_pyIter_range (IsRange.new ..) (small_one h1 h2 h3 h4) ?_
  have I1 : Inv X pins σ H { s with heap := s.heap.push { cls := .type "range", data := .fields #[.int lo t, .int hi u, .int 1 v] }, toks := tk } := I.kept fun b o e => Heap.get?_push_of_some _ e
  refine ⟨(s.heap.push { cls := .type "range", data := .fields #[.int lo t, .int hi u, .int 1 v] }).objs.size, [(s.heap.push { cls := .type "range", data := .fields #[.int lo t, .int hi u, .int 1 v] }).objs.size], _, _, H, rfl,
    I1.kept (t' := tk) fun b o e => Heap.get?_push_of_some _ e, turn_range _ lo (hi - lo).toNat, ?_, fun b hb => ?_, q⟩
  · have e1 : lo + ((0 : Nat) : Int) * 1 = lo := by simp
    have e2 : (((hi - lo).toNat : Nat) : Int) - ((0 : Nat) : Int) = Builtin.Range.rangeSize lo hi 1 := by rw [rangeSize_one]; split <;> omega
    show IsRangeIter _ _ (lo + ((0 : Nat) : Int) * 1) ((((hi - lo).toNat : Nat) : Int) - ((0 : Nat) : Int)) 1
    rw [e1, e2]
    exact Heap.get?_push_size _ rfl
  · have e : b = (s.heap.push { cls := .type "range", data := .fields #[.int lo t, .int hi u, .int 1 v] }).objs.size := by simpa using hb
    subst e
    exact I1.fpOk (Nat.le_refl _) (I1.hok.fresh (Nat.le_refl _))
noncomputable def iRng1 (ta : TA) : TI := fun σ H R => ta σ H fun vs H1 => ∃ j : Int, vs = [.int j] ∧ -(2 ^ 62) ≤ j ∧ j < 2 ^ 62 ∧ R (Itr 0 j.toNat) H1
theorem pi_range1 {a : Expr} {ta : TA} {p pos : Pos} (hg : Gl X "range") (hm : X.mg "range" = none) (ha : PA X [a] ta) (hs : starEach [a] X.env = [(false, eval a X.env)] := by rfl) : PI X tg (.Call (.Name "range" p) [a] [] pos) (iRng1 ta) := by
  intro pins s σ H R I h
  refine Call_ (ld_blt I hg hm boot_range (PyProof.Rows.callWith_type1 (thn (ha pos pins s σ H _ I h) fun us s1 ⟨vs, H1, I1, r1, q1⟩ => ?_) hs rfl))
  obtain ⟨j, e, q1, q2, q⟩ := q1
  subst e
  cases r1 with
  | cons r rr =>
    cases rr
    obtain ⟨t, rfl⟩ := r
    exact call_range_1 (range_it I1 (by omega) (by omega) q1 q2 (by simpa using q))
noncomputable def tFor (wi : TI) (g : TG) (tb : TS) : TS := fun D σ H => wi σ H fun J H1 => ∃ W : Nat → Nat → St → Hp → Prop, (∃ m, W 0 m σ H1) ∧ ∀ i m σ H, W i m σ H →
  (J.stop i H ∧ D.nx σ H) ∨ (J.go i H ∧ ∃ N : St → Hp → Prop, (∀ σ' H', N σ' H' → ∃ m', m' < m ∧ W (i + 1) m' σ' H') ∧ ∀ x H', J.yld i H x H' → g x σ H' fun σ2 H2 => tb { D with nx := N, ct := N, bk := D.nx } σ2 H2)
noncomputable def pinsAt (fp : List Addr) (h : Heap) : List (Addr × Obj) := fp.filterMap fun b => (h.get? b).map fun o => (b, o)
theorem mem_pinsAt {fp : List Addr} {h : Heap} {b : Addr} {o : Obj} (hb : b ∈ fp) (e : h.get? b = some o) : (b, o) ∈ pinsAt fp h := List.mem_filterMap.mpr ⟨b, hb, by rw [e]; rfl⟩
theorem of_pinsAt {fp : List Addr} {h : Heap} {p : Addr × Obj} (hp : p ∈ pinsAt fp h) : p.1 ∈ fp ∧ h.get? p.1 = some p.2 := by
  obtain ⟨b, hb, e⟩ := List.mem_filterMap.mp hp
  cases q : h.get? b with
  | none => rw [q] at e; cases e
  | some o =>
    rw [q] at e
    have e' : (b, o) = p := Option.some.inj e
    subst e'
    exact ⟨hb, q⟩
theorem Inv.pinned {pins : List (Addr × Obj)} {σ : St} {H : Hp} {s : Shared} {fp : List Addr} (I : Inv X pins σ H s) (hf : ∀ b ∈ fp, FpOk X pins H b) (ho : ∀ b ∈ fp, ∃ o, s.heap.get? b = some o ∧ ∀ v, o.data ≠ .cell v) : Inv X (pins ++ pinsAt fp s.heap) σ H s :=
  I.pins_of fun p hp => (List.mem_append.mp hp).elim (fun z => I.pin p (List.mem_append_right _ z)) fun z => by
    obtain ⟨hb, e⟩ := of_pinsAt z
    obtain ⟨f0, f1, f2, _⟩ := hf p.1 hb
    obtain ⟨o, e', d⟩ := ho p.1 hb
    rw [e] at e'; cases e'
    exact ⟨e, f0, f1, f2, d⟩
theorem Inv.unpinned {pins pl : List (Addr × Obj)} {σ : St} {H : Hp} {s : Shared} (I : Inv X (pins ++ pl) σ H s) : Inv X pins σ H s := I.pins_of fun p hp => I.pin p (List.mem_append_right _ (List.mem_append_left _ hp))
theorem ps_for {iter : Expr} {body : List Stmt} {wi : TI} {g : TG} {tb : TS} {pos : Pos} (hp : PassesOwn (model X.prog X.w) X.A X.env X.xe) (hc : X.calm = true) (hi : PI X tg iter wi) (hg : PG X tg g) (hb : PSs X body tb)
    (hs : ∀ x, foldedSetIterable iter X.env x = pure x := by intro _; rfl) : PS X (.For tg iter body [] pos) (tFor wi g tb) := by
  intro pins s σ H D I h
  refine wpAny_For (thn (hi pins s σ H _ I h) fun v s1 h1 => thn h1 fun itv s2 h2 => ?_) hs
  obtain ⟨it, fp, tn, J, H2, e, I2, T, st2, f2, W, ⟨m0, w0⟩, turn⟩ := h2
  subst e
  have stat : ∀ {H' : Hp}, (∀ b ∈ fp, H' b = none) → ∀ b ∈ fp, FpOk X pins H' b := fun hn b hb => ⟨hn b hb, (f2 b hb).2⟩
  refine codeAny_forLoop_any (fun n s' => ∃ i σ' H', Inv X pins σ' H' s' ∧ tn i s'.heap ∧ (∀ b ∈ fp, H' b = none) ∧ W i n σ' H') ?_ m0 ⟨0, σ, H2, I2, st2, fun b hb => (f2 b hb).1, w0⟩
  rintro n s3 ⟨i, σ3, H3, I3, st3, fr3, w3⟩
  rcases turn i n σ3 H3 w3 with ⟨stop, qn⟩ | ⟨go, N, hN, step⟩
  · refine wpAny_passesOwn hp (thn (T.done X rfl rfl rfl hc i pins s3 σ3 H3 X.xe I3 (stat fr3) st3 stop) fun r s4 ⟨hr, I4⟩ => ?_)
    subst hr
    exact wpAny_execs_nil ⟨σ3, H3, I4, qn⟩
  · refine wpAny_passesOwn hp (thn (T.item X rfl rfl rfl hc i pins s3 σ3 H3 X.xe I3 (stat fr3) st3 go) fun r s4 ⟨u, hr, h4⟩ => ?_)
    subst hr
    refine wpAny_passesOwn hp (thn h4 fun _ s5 ⟨x, H5, I5, r5, y5, st5, fr5⟩ => ?_)
    have I5' := I5.pinned (stat fr5) (T.obj _ _ st5)
    refine wpAny_passesOwn hp (thn (hg _ s5 σ3 H5 x u _ I5' r5 (step x H5 y5)) fun _ s6 ⟨σ6, H6, I6, q6⟩ => ?_)
    refine wpAny_passesOwn hp (thn (hb _ s6 σ6 H6 _ I6 q6) fun f s7 q7 => ?_)
    have again : ∀ {σ7 : St} {H7 : Hp}, Inv X (pins ++ pinsAt fp s5.heap) σ7 H7 s7 → N σ7 H7 → ∃ m, m < n ∧ ∃ i σ' H', Inv X pins σ' H' s7 ∧ tn i s7.heap ∧ (∀ b ∈ fp, H' b = none) ∧ W i m σ' H' := fun {σ7 H7} I7 n7 => by
      obtain ⟨m', hm, w7⟩ := hN σ7 H7 n7
      refine ⟨m', hm, i + 1, σ7, H7, I7.unpinned, T.keep _ _ _ st5 fun b hb o e => (I7.pin (b, o) (List.mem_append_right _ (List.mem_append_right _ (mem_pinsAt hb e)))).1, fun b hb => ?_, w7⟩
      obtain ⟨o, e, d⟩ := T.obj _ _ st5 b hb
      exact (I7.pin (b, o) (List.mem_append_right _ (List.mem_append_right _ (mem_pinsAt hb e)))).2.1
    cases f with
    | next => obtain ⟨σ7, H7, I7, n7⟩ := q7; exact again I7 n7
    | cont => obtain ⟨σ7, H7, I7, n7⟩ := q7; exact again I7 n7
    | brk => obtain ⟨σ7, H7, I7, q7⟩ := q7; exact ⟨σ7, H7, I7.unpinned, q7⟩
    | ret v => obtain ⟨x7, σ7, H7, I7, r7, q7⟩ := q7; exact ⟨x7, σ7, H7, I7.unpinned, r7, q7⟩
end
end L2
namespace L2
open PySem PySem.Spec PyProof.Rows
abbrev R2 := V → V → Hp → VK → Prop
noncomputable def OpR (X : Cx) (f : Value → Value → Sem Value) (r : R2) : Prop :=
  ∀ (pins : List (Addr × Obj)) (s : Shared) (σ : St) (H : Hp) (x y : V) (v u : Value) (Q : VK), Inv X pins σ H s → RelV x v → RelV y u → r x y H Q →
    wpAny (model X.prog X.w) X.A (f v u) (EP X pins σ Q) X.xe s
noncomputable def UnR (X : Cx) (f : Value → Sem Value) (r : V → Hp → VK → Prop) : Prop :=
  ∀ (pins : List (Addr × Obj)) (s : Shared) (σ : St) (H : Hp) (x : V) (v : Value) (Q : VK), Inv X pins σ H s → RelV x v → r x H Q →
    wpAny (model X.prog X.w) X.A (f v) (EP X pins σ Q) X.xe s
noncomputable def CallR (X : Cx) (f : Value) (r : List V → Hp → VK → Prop) : Prop :=
  ∀ (pins : List (Addr × Obj)) (s : Shared) (σ : St) (H : Hp) (xs : List V) (us : List Value) (Q : VK), Inv X pins σ H s → Vals xs us → r xs H Q →
    wpAny (model X.prog X.w) X.A (call f us) (EP X pins σ Q) X.xe s
noncomputable def TruR (X : Cx) (r : V → Hp → (Bool → Hp → Prop) → Prop) : Prop :=
  ∀ (pins : List (Addr × Obj)) (s : Shared) (σ : St) (H : Hp) (x : V) (v : Value) (Q : Bool → Hp → Prop), Inv X pins σ H s → RelV x v → r x H Q →
    wpAny (model X.prog X.w) X.A (truthy v) (TP X pins σ Q) X.xe s
noncomputable def tOp (r : R2) (ta tb : TE) : TE := fun σ H Q => ta σ H fun x H1 => tb σ H1 fun y H2 => r x y H2 Q
noncomputable def tUn (r : V → Hp → VK → Prop) (ta : TE) : TE := fun σ H Q => ta σ H fun x H1 => r x H1 Q
noncomputable def rI (C : Int → Int → Prop) (g : Int → Int → V) : R2 := fun x y H Q => ∃ i j, x = .int i ∧ y = .int j ∧ C i j ∧ Q (g i j) H
noncomputable def rI0 (g : Int → Int → V) : R2 := fun x y H Q => ∃ i j, x = .int i ∧ y = .int j ∧ Q (g i j) H
noncomputable def rU (g : Int → V) : V → Hp → VK → Prop := fun x H Q => ∃ i, x = .int i ∧ Q (g i) H
section
variable {X : Cx} {a b c : Expr} {ta tb tc : TE} {pos : Pos}
theorem binT (ha : PE X a ta) (hb : PE X b tb) {pins : List (Addr × Obj)} {s : Shared} {σ : St} {H : Hp} {R : V → V → Hp → Prop} (I : Inv X pins σ H s)
    (h : ta σ H fun x H1 => tb σ H1 fun y H2 => R x y H2) {Q : Value → Shared → Prop} {f : Value → Value → Sem Value}
    (hf : ∀ v u s2 x y H2, Inv X pins σ H2 s2 → RelV x v → RelV y u → R x y H2 → wpAny (model X.prog X.w) X.A (f v u) Q X.xe s2) :
    wpAny (model X.prog X.w) X.A (eval a X.env) (fun v s₁ => wpAny (model X.prog X.w) X.A (eval b X.env) (fun u s₂ => wpAny (model X.prog X.w) X.A (f v u) Q X.xe s₂) X.xe s₁) X.xe s := by
  refine thn (ha pins s σ H _ I h) fun v s1 ⟨x, H1, I1, r1, q1⟩ => ?_
  refine thn (hb pins s1 σ H1 _ I1 q1) fun u s2 ⟨y, H2, I2, r2, q2⟩ => ?_
  exact hf v u s2 x y H2 I2 r1 r2 q2
theorem pe_op {op : Operator} {r : R2} (ho : OpR X (binaryOp op) r) (ha : PE X a ta) (hb : PE X b tb) : PE X (.BinOp a op b pos) (tOp r ta tb) := by
  intro pins s σ H Q I h
  exact wpAny_BinOp (binT ha hb I h fun v u s2 x y H2 I2 rx ry q => ho pins s2 σ H2 x y v u Q I2 rx ry q)
theorem pe_un {op : UnaryOp} {r : V → Hp → VK → Prop} (ho : UnR X (unaryOp op) r) (ha : PE X a ta) : PE X (.UnaryOp op a pos) (tUn r ta) := by
  intro pins s σ H Q I h
  exact UnaryOp_ (thn (ha pins s σ H _ I h) fun v s1 ⟨x, H1, I1, r1, q1⟩ => ho pins s1 σ H1 x v Q I1 r1 q1)
theorem opI {f : Value → Value → Sem Value} {C : Int → Int → Prop} {g : Int → Int → Int}
    (rule : ∀ (i j : Int) (t u : Tok) (s : Shared) (Q : Value → Shared → Prop) (E : Value → Shared → Prop), C i j → Q (.int (g i j) s.toks) { s with toks := s.toks + 1 } → wpAny (model X.prog X.w) X.A (f (.int i t) (.int j u)) Q E s) :
    OpR X f (rI C fun i j => .int (g i j)) := by
  intro pins s σ H x y v u Q I rx ry h
  obtain ⟨i, j, rfl, rfl, hc, q⟩ := h
  obtain ⟨t, rfl⟩ := rx
  obtain ⟨t', rfl⟩ := ry
  exact rule i j t t' s _ _ hc ⟨.int (g i j), H, I.tok _, ⟨_, rfl⟩, q⟩
theorem opI0 {f : Value → Value → Sem Value} {g : Int → Int → Int}
    (rule : ∀ (i j : Int) (t u : Tok) (s : Shared) (Q : Value → Shared → Prop) (E : Value → Shared → Prop), Q (.int (g i j) s.toks) { s with toks := s.toks + 1 } → wpAny (model X.prog X.w) X.A (f (.int i t) (.int j u)) Q E s) :
    OpR X f (rI0 fun i j => .int (g i j)) := by
  intro pins s σ H x y v u Q I rx ry h
  obtain ⟨i, j, rfl, rfl, q⟩ := h
  obtain ⟨t, rfl⟩ := rx
  obtain ⟨t', rfl⟩ := ry
  exact rule i j t t' s _ _ ⟨.int (g i j), H, I.tok _, ⟨_, rfl⟩, q⟩
theorem opB0 {f : Value → Value → Sem Value} {g : Int → Int → Bool}
    (rule : ∀ (i j : Int) (t u : Tok) (s : Shared) (Q : Value → Shared → Prop) (E : Value → Shared → Prop), Q (.bool (g i j)) s → wpAny (model X.prog X.w) X.A (f (.int i t) (.int j u)) Q E s) :
    OpR X f (rI0 fun i j => .bl (g i j)) := by
  intro pins s σ H x y v u Q I rx ry h
  obtain ⟨i, j, rfl, rfl, q⟩ := h
  obtain ⟨t, rfl⟩ := rx
  obtain ⟨t', rfl⟩ := ry
  exact rule i j t t' s _ _ ⟨.bl (g i j), H, I, rfl, q⟩
noncomputable def CDiv (i j : Int) : Prop := 0 < j ∧ j < 1073741824
noncomputable def CMul (i j : Int) : Prop := (-(2 ^ 64) < i ∧ i < 2 ^ 64) ∨ (-(2 ^ 64) < j ∧ j < 2 ^ 64)
theorem CMul.ok {i j : Int} (h : CMul i j) : IntMulOk i j := by
  rcases h with ⟨h1, h2⟩ | ⟨h1, h2⟩
  · exact .of_left (intBits_le_64 h1 h2)
  · exact .of_right (intBits_le_64 h1 h2)
theorem op_add : OpR X (binaryOp .Add) (rI0 fun i j => .int (i + j)) := opI0 fun _ _ _ _ _ _ _ q => add_int q
theorem op_sub : OpR X (binaryOp .Sub) (rI0 fun i j => .int (i - j)) := opI0 fun _ _ _ _ _ _ _ q => sub_int q
theorem op_mul : OpR X (binaryOp .Mult) (rI CMul fun i j => .int (i * j)) := opI fun _ _ _ _ _ _ _ hc q => mul_int q hc.ok
theorem op_fdiv : OpR X (binaryOp .FloorDiv) (rI CDiv fun i j => .int (i / j)) := opI fun i j _ _ _ _ _ hc q => by
  have h1 : (0 : Int) < j := hc.1
  have h2 : j < 1073741824 := hc.2
  exact floordiv_int (by omega) (by rw [Int.fdiv_eq_ediv_of_nonneg i (by omega)]; exact q) (.inl (PyProof.noPylong_small (by omega)))
theorem op_mod : OpR X (binaryOp .Mod) (rI (fun _ j => 0 < j) fun i j => .int (i % j)) := opI fun i j _ _ _ _ _ hc q => by
  have h1 : (0 : Int) < j := hc
  exact mod_int' (by omega) (by rw [Int.fmod_eq_emod_of_nonneg i (by omega)]; exact q)
theorem unI {f : Value → Sem Value} {g : Int → Int}
    (rule : ∀ (i : Int) (t : Tok) (s : Shared) (Q : Value → Shared → Prop) (E : Value → Shared → Prop), Q (.int (g i) s.toks) { s with toks := s.toks + 1 } → wpAny (model X.prog X.w) X.A (f (.int i t)) Q E s) :
    UnR X f (rU fun i => .int (g i)) := by
  intro pins s σ H x v Q I rx h
  obtain ⟨i, rfl, q⟩ := h
  obtain ⟨t, rfl⟩ := rx
  exact rule i t s _ _ ⟨.int (g i), H, I.tok _, ⟨_, rfl⟩, q⟩
theorem un_neg : UnR X (unaryOp .USub) (rU fun i => .int (-i)) := unI fun _ _ _ _ _ q => neg_int q
end
section
variable {X : Cx} {a b c : Expr} {ta tb tc : TE} {pos : Pos}
theorem op_lt : OpR X (compareOp .Lt) (rI0 fun i j => .bl (decide (i < j))) := opB0 fun _ _ _ _ _ _ _ q => lt_int q
theorem op_gt : OpR X (compareOp .Gt) (rI0 fun i j => .bl (decide (j < i))) := opB0 fun _ _ _ _ _ _ _ q => gt_int q
theorem nomark (b : Expr) {op : CmpOp} (h : op ≠ .In := by decide) (h2 : op ≠ .NotIn := by decide) : behindInMarks op b = false := by
  have e1 : (op == CmpOp.In) = false := by cases op <;> first | rfl | exact absurd rfl h
  have e2 : (op == CmpOp.NotIn) = false := by cases op <;> first | rfl | exact absurd rfl h2
  cases b <;> simp [behindInMarks, e1, e2]
theorem pe_cmpR {op : CmpOp} {r : R2} (ho : OpR X (compareOp op) r) (ha : PE X a ta) (hb : PE X b tb) (hm : behindInMarks op b = false) : PE X (.Compare a [op] [b] pos) (tOp r ta tb) := by
  intro pins s σ H Q I h
  exact wpAny_Compare1 (binT ha hb I h fun v u s2 x y H2 I2 rx ry q => ho pins s2 σ H2 x y v u Q I2 rx ry q) hm
noncomputable def tTest (t : TE) : TT := fun σ H Q => t σ H fun x H' => ∃ k, x = .bl k ∧ Q k H'
theorem pt_cmpR {op : CmpOp} {r : R2} (ho : OpR X (compareOp op) r) (ha : PE X a ta) (hb : PE X b tb) (hm : behindInMarks op b = false) : PT X (.Compare a [op] [b] pos) (tTest (tOp r ta tb)) := by
  intro pins s σ H Q I h
  refine wpAny_isTrue_Compare1 (thn (ha pins s σ H _ I h) fun v s1 ⟨x, H1, I1, r1, q1⟩ => thn (hb pins s1 σ H1 _ I1 q1) fun u s2 ⟨y, H2, I2, r2, q2⟩ =>
    thn (ho pins s2 σ H2 x y v u _ I2 r1 r2 q2) fun c s3 ⟨z, H3, I3, r3, k, e, q3⟩ => ?_) hm
  subst e
  cases r3
  exact wpAny_truthy_bool ⟨H3, I3, q3⟩
noncomputable def TruV (K : PySem.W.Frag) (x : V) (H : Hp) (k : Bool) : Prop :=
  match x with
  | .non => k = false
  | .bl b => k = b
  | .int i => k = (i != 0)
  | .str y => y.length ≤ sizeLine ∧ k = ((y.length : Int) != 0)
  | .byt y => y.size ≤ sizeLine ∧ k = ((y.size : Int) != 0)
  | .ref p => (∃ xs, SqL K H p xs ∧ k = !xs.isEmpty) ∨ (∃ xs, SqT K H p xs ∧ k = !xs.isEmpty) ∨ ∃ kvs, H p = some (.dK kvs) ∧ k = !kvs.isEmpty
  | _ => False
theorem isEmpty_kv {κ : Type} {kvs : List (κ × V)} {vs : List (κ × Value)} (r : KV kvs vs) : (!vs.isEmpty) = !kvs.isEmpty := by
  cases r <;> rfl
theorem isEmpty_of {xs : List V} {its : List Value} (r : Vals xs its) : (!its.toArray.isEmpty) = !xs.isEmpty := by
  cases r <;> simp
theorem line63 : (sizeLine : Nat) < 2 ^ 63 := by rw [sizeLine_eq]; decide
theorem tru_ok : TruR X (fun x H Q => ∃ k, TruV X.K x H k ∧ Q k H) := by
  intro pins s σ H x v Q I rx h
  obtain ⟨k, e, q⟩ := h
  have hl := line63
  have hs : sizeLine = 16777216 := sizeLine_eq
  cases x with
  | non =>
    cases rx
    have e' : k = false := e
    subst e'
    exact truthy_none ⟨H, I, q⟩
  | bl b =>
    cases rx
    have e' : k = b := e
    subst e'
    exact wpAny_truthy_bool ⟨H, I, q⟩
  | int i =>
    obtain ⟨t, rfl⟩ := rx
    have e' : k = (i != 0) := e
    subst e'
    exact PySem.P.truthy_int ⟨H, I, q⟩
  | str y =>
    obtain ⟨t, rfl⟩ := rx
    obtain ⟨hy, e'⟩ : y.length ≤ sizeLine ∧ k = ((y.length : Int) != 0) := e
    subst e'
    exact PySem.P.truthy_str (by omega) ⟨H, I.tok _, q⟩
  | byt y =>
    obtain ⟨t, rfl⟩ := rx
    obtain ⟨hy, e'⟩ : y.size ≤ sizeLine ∧ k = ((y.size : Int) != 0) := e
    subst e'
    exact PySem.W.truthy_bytes (by omega) ⟨H, I.tok _, q⟩
  | ref p =>
    cases rx
    have e' : (∃ xs, SqL X.K H p xs ∧ k = !xs.isEmpty) ∨ (∃ xs, SqT X.K H p xs ∧ k = !xs.isEmpty) ∨ ∃ kvs, H p = some (.dK kvs) ∧ k = !kvs.isEmpty := e
    rcases e' with ⟨xs, hx, e'⟩ | ⟨xs, hx, e'⟩ | ⟨kvs, hx, e'⟩
    · subst e'
      obtain ⟨its, r, pl, hz⟩ := I.list hx
      have hlen := r.length
      exact wpAny_truthy_list pl.isList (by simp only [List.size_toArray]; omega) ⟨H, I.tok _, by rw [isEmpty_of r]; exact q⟩
    · subst e'
      obtain ⟨its, r, pl, hz⟩ := I.tuple hx
      have hlen := r.length
      exact truthy_tuple pl (by simp only [List.size_toArray]; omega) ⟨H, I.tok _, by rw [isEmpty_of r]; exact q⟩
    · subst e'
      obtain ⟨hz, hS, vs, r, m⟩ : kvs.length ≤ sizeLine ∧ (p == sysModules) = false ∧ ∃ vs, KV kvs vs ∧ s.heap.DictOf (mixKind X.prog X.w) p vs := I.hok p _ hx
      have hlen : kvs.length = vs.length := Paired.length r
      exact wpAny_truthy_dict hS m (by omega) ⟨H, I.tok _, by rw [isEmpty_kv r]; exact q⟩
  | _ => exact (show False from e).elim
theorem pt_truth (ha : PE X a ta) (he : ∀ whole, isTrue a X.env whole = (do let v ← whole; standAt a.pos; holding [v] (truthy v))) :
    PT X a (fun σ H Q => ta σ H fun x H' => ∃ k, TruV X.K x H' k ∧ Q k H') := by
  intro pins s σ H Q I h
  exact isTrue_plain (thn (ha pins s σ H _ I h) fun v s1 ⟨x, H1, I1, r1, q1⟩ => tru_ok pins s1 σ H1 x v Q I1 r1 q1) (he _)
theorem op_add_str : OpR X (binaryOp .Add) (fun x y H Q => ∃ i j, x = .str i ∧ y = .str j ∧ i.length + j.length ≤ sizeLine ∧ Q (.str (i ++ j)) H) := by
  intro pins s σ H x y v u Q I rx ry h
  obtain ⟨i, j, rfl, rfl, hz, q⟩ := h
  obtain ⟨t, rfl⟩ := rx
  obtain ⟨t', rfl⟩ := ry
  exact add_str (fun t' tk => ⟨.str (i ++ j), H, I.tok _, ⟨_, rfl⟩, q⟩) hz
theorem vals1 {x : V} {us : List Value} (r : Vals [x] us) : ∃ u, us = [u] ∧ RelV x u := by
  cases r with
  | cons r1 r2 => cases r2; exact ⟨_, rfl, r1⟩
end
end L2
namespace L2
open PySem PySem.Spec PyProof.Rows
structure ObjM (h : Heap) (x dx C : Addr) (mA : Str → Option Value) : Prop where
  obj : h.get? x = some (PySem.W.instObj C dx)
  ns : h.Ns1 dx mA
  ne : dx ≠ x
section
variable {prog : Program} {w : World} {A : Around} {E : Value → Shared → Prop} {s : Shared} {K : PySem.W.Frag} {x dx C f : Addr} {mA : Str → Option Value} {name : Str} {v : Value}
end
section
variable {P : Program} {w : World} {H H' : Hp} {h h' : Heap} {a C dx : Addr} {fs fs' : List (Str × V)}
end
structure Cls (K : PySem.W.Frag) (C : Addr) : Prop where
  pg : PySem.W.plainGet K C Str.empty = true
  hd : PySem.W.hasDictIn K C = true
  po : PySem.W.plainOver K C = true
  sa : PySem.W.findIn K (.ref C) "__setattr__" = some (some (.builtin "object.__setattr__"))
structure Con (K : PySem.W.Frag) (C : Addr) (f : Str) (v : V) (u : Value) : Prop where
  at_ : PySem.W.findIn K (.ref C) f = some (some u)
  rel : RelV v u
  get : PySem.W.specialIn K u "__get__" = some none
  cp : PySem.W.copiedNames.contains f = false
structure Meth (K : PySem.W.Frag) (C : Addr) (m : Str) (f : Addr) : Prop where
  at_ : PySem.W.findIn K (.ref C) m = some (some (.ref f))
  fn : PySem.W.isFn K (.ref f) = true
  kp : PySem.W.keepIn K (.ref f) = true
section
variable {X : Cx} {pins : List (Addr × Obj)} {σ : St} {H : Hp} {s : Shared} {a C dx : Addr} {fs : List (Str × V)} {f : Str} {v : V} {A : Around} {E : Value → Shared → Prop}
end
section
variable {X : Cx} {o e value : Expr} {f : Str} {pos pos' tpos : Pos} {ta tv : TE}
end
section
variable {X : Cx} {pins : List (Addr × Obj)} {σ : St} {H : Hp} {s : Shared} {A : Around} {E : Value → Shared → Prop} {Q : Value → Shared → Prop} {c : Value} {b : Bool}
inductive TyOf (K : PySem.W.Frag) (H : Hp) : V → Value → Prop where
  | non : TyOf K H .non (.type "NoneType")
  | bl (x : Bool) : TyOf K H (.bl x) (.type "bool")
  | int (i : Int) : TyOf K H (.int i) (.type "int")
  | str (x : Str) : TyOf K H (.str x) (.type "str")
  | flt (x : UInt64) : TyOf K H (.flt x) (.type "float")
  | lst {a : Addr} {xs : List V} (e : H a = some (.lst xs)) : TyOf K H (.ref a) (.type "list")
  | frz {a : Addr} {o : Obj} {xs : List V} (e : H a = some (.frz o (.lst xs))) : TyOf K H (.ref a) (.type "list")
  | tup {a : Addr} {xs : List V} (e : H a = some (.tup xs)) : TyOf K H (.ref a) (.type "tuple")
  | dK {a : Addr} {kvs : List (Key × V)} (e : H a = some (.dK kvs)) : TyOf K H (.ref a) (.type "dict")
  | dT {a : Addr} {kvs : List (List Key × V)} (e : H a = some (.dT kvs)) : TyOf K H (.ref a) (.type "dict")
  | ins {a C dx : Addr} {fs : List (Str × V)} (e : H a = some (.ins C dx fs)) (cl : Cls K C) (ha : PySem.W.findIn K (.ref C) "__class__" = some (some (.builtin "object.__class__")))
      (hn : PySem.W.specialIn K (.builtin "object.__class__") "__get__" = some (some (.builtin "getset_descriptor.__get__"))) (htk : PySem.W.takesIn K (.builtin "object.__class__") = some true)
      (hm : PySem.W.mroIn K C (.type "object") = some true) : TyOf K H (.ref a) (.ref C)
end
end L2
namespace L2
open PySem PySem.Spec PyProof.Rows
structure Room (k : Nat) (A : Around) : Prop where
  hd : A.handled = none
  dp : A.depth + 3 * k + 5 < recursionLimit
  un : A.units + 16 * k + 200 < cLine
theorem Room.deeper {k : Nat} {A : Around} (r : Room (k + 1) A) (env : Env) : Room k (A.deeper env) :=
  ⟨r.hd, by have := r.dp; show A.depth + 1 + 3 * k + 5 < _; omega, by have := r.un; show A.units + 3 + 16 * k + 200 < _; omega⟩
theorem Room.depth {k : Nat} {A : Around} (r : Room k A) : A.depth < recursionLimit := by have := r.dp; omega
noncomputable def tNil : TA := fun _ H Q => Q [] H
noncomputable def tCons (ta : TE) (tr : TA) : TA := fun σ H Q => ta σ H fun x H1 => tr σ H1 fun xs H2 => Q (x :: xs) H2
section
variable {X : Cx} {e : Expr} {es : List Expr} {te : TE} {t : TA} {pos : Pos}
theorem pa_nil : PA X [] tNil := fun _ _ _ _ H Q I h => Calls.spliced_nil ⟨[], H, I, .nil, h⟩
theorem pa_cons (ha : PE X e te) (hr : PA X es t) (hs : starEach (e :: es) X.env = (false, eval e X.env) :: starEach es X.env := by rfl) : PA X (e :: es) (tCons te t) := by
  intro pos pins s σ H Q I h
  rw [hs]
  show wpAny _ _ (spliced ((false, eval e X.env) :: backTo pos (starEach es X.env))) _ _ s
  refine Calls.spliced_cons (thn (ha pins s σ H _ I h) fun u s1 ⟨x, H1, I1, r1, q1⟩ => ?_)
  exact thn (hr pos pins s1 σ H1 _ I1 q1) fun us s2 ⟨xs, H2, I2, r2, q2⟩ => ⟨x :: xs, H2, I2, .cons r1 r2, q2⟩
noncomputable def tTup (t : TA) : TE := fun σ H Q => t σ H fun xs H1 => xs.length ≤ sizeLine ∧ ∀ p, H1 p = none → Q (.ref p) (upd H1 p (.tup xs))
noncomputable def tLst (t : TA) : TE := fun σ H Q => t σ H fun xs H1 => xs.length ≤ sizeLine ∧ ∀ p, H1 p = none → Q (.ref p) (upd H1 p (.lst xs))
theorem pe_tup {x1} (h : PA X es t) : PE X (.Tuple es x1 pos) (tTup t) := by
  intro pins s σ H Q I hq
  refine wpAny_Tuple_spliced (thn (h pos pins s σ H _ I hq) fun us s1 ⟨xs, H1, I1, r, z, q⟩ => ⟨by rw [← r.length]; exact z, ?_⟩)
  have hf : H1 s1.heap.objs.size = none := I1.hok.fresh (Nat.le_refl _)
  refine ⟨.ref s1.heap.objs.size, upd H1 s1.heap.objs.size (.tup xs), I1.laid (t' := s1.toks) (fun b u e => Heap.get?_push_of_some _ e) (Nat.le_refl _) ?_, rfl, q _ hf⟩
  exact ⟨z, us, r, ⟨_, Heap.get?_push_size _ rfl, rfl, _, rfl⟩⟩
theorem pe_lst (h : PA X es t) : PE X (.List es pos) (tLst t) := by
  intro pins s σ H Q I hq
  refine wpAny_List_spliced (thn (h pos pins s σ H _ I hq) fun us s1 ⟨xs, H1, I1, r, z, q⟩ => ⟨by rw [← r.length]; exact z, ?_⟩)
  have hf : H1 s1.heap.objs.size = none := I1.hok.fresh (Nat.le_refl _)
  refine ⟨.ref s1.heap.objs.size, upd H1 s1.heap.objs.size (.lst xs), I1.laid (t' := s1.toks) (fun b u e => Heap.get?_push_of_some _ e) (Nat.le_refl _) ?_, rfl, q _ hf⟩
  exact ⟨z, us, 0, r, Heap.get?_push_size _ rfl⟩
end
abbrev Sp := List V → Hp → VK → XK → Prop
abbrev CXT := List Env → Hp → Shared → XK → Value → Shared → Prop
structure Env0 (P : Program) (w : World) (K : PySem.W.Frag) (mg : Str → Option Value) (base : Heap) (A : Around) (outer : List Env) (s : Shared) (H : Hp) : Prop where
  frames : A.frames = some outer
  mod : Mod K mg base
  bs : ∀ b o, base.get? b = some o → s.heap.get? b = some o ∧ H b = none
  bsz : base.objs.size ≤ s.heap.objs.size
  funs : s.heap.FunFrames base outer
  frf : ∀ b ∈ frs outer, H b = none
  hok : HOk P w H s.heap
  bare : AllBare s.gens
noncomputable def CE (outer : List Env) (P : Program) (w : World) (H : Hp) (s : Shared) (Q : VK) (u : Value) (s' : Shared) : Prop :=
  ∃ v H', s'.os = s.os ∧ AllBare s'.gens ∧ Un (frs outer) [] H H' s.heap s'.heap ∧ HOk P w H' s'.heap ∧ RelV v u ∧ Q v H'
noncomputable def CR (CX : CXT) (outer : List Env) (P : Program) (w : World) (H : Hp) (s : Shared) (Q : VK) (E : XK) (r : Result) (s' : Shared) : Prop :=
  match r with
  | .ok (.ret u) => CE outer P w H s Q u s'
  | .ok _ => False
  | .error e => CX outer H s E e s'
structure FnOk (P : Program) (w : World) (K : PySem.W.Frag) (mg : Str → Option Value) (base : Heap) (CX : CXT) (k : Nat) (f : Addr) (fd : FuncData) (ps : List Str) (sp : Sp) : Prop where
  len : ∀ vs H Q E, sp vs H Q E → vs.length = ps.length
  run : ∀ (A : Around) (outer : List Env) (s : Shared) (H : Hp) (args : Args) (us : List Value) (vs : List V) (Q : VK) (E : XK), Room k A → Env0 P w K mg base A outer s H → BindsTo s fd args (ps.zip us) → Vals vs us → sp vs H Q E →
    codeAny (model P w) A (.call (.ref f) args) (CR CX outer P w H s Q E) s
section
variable {X : Cx} {pins : List (Addr × Obj)} {σ : St} {H : Hp} {s s' : Shared}
theorem Inv.env0 (I : Inv X pins σ H s) : Env0 X.prog X.w X.K X.mg X.base X.A X.stack s H :=
  ⟨I.ok.frames, I.ok.mod, I.bs, Nat.le_trans I.ok.bsz I.sz, I.stack, I.stkFree, I.hok, I.bare⟩
theorem Inv.after {Q : VK} {u : Value} (I : Inv X pins σ H s) (h : CE X.stack X.prog X.w H s Q u s') : EP X pins σ Q u s' := by
  obtain ⟨v, H', os, bare, un, hok, r, q⟩ := h
  obtain ⟨hh, g, d, t, os'⟩ := s'
  obtain rfl : os' = s.os := os
  exact ⟨v, H', I.call (h' := hh) (g' := g) (d' := d) (t' := t) (ch := []) un hok bare (fun b z => absurd z (by simp)), r, q⟩
end
noncomputable def tCall (sp : Sp) (dvs : List V) (E : XK) (t : TA) : TE := fun σ H Q => t σ H fun vs H1 => sp (vs ++ dvs) H1 Q E
noncomputable def Binds (K : PySem.W.Frag) (fd : FuncData) (ps : List Str) (ds : List Value) : Prop :=
  ∀ (s : Shared) (us : List Value), K.In s.heap → (us ++ ds).length = ps.length → BindsTo s fd ⟨us, []⟩ (ps.zip (us ++ ds))
theorem Binds.all {K : PySem.W.Frag} {fd : FuncData} {ps : List Str} (h : ∀ us : List Value, us.length = ps.length → bindArgs fd ⟨us, []⟩ = pure (ps.zip us)) : Binds K fd ps [] := fun s us _ hl => by
  rw [List.append_nil] at hl ⊢
  exact .of_eq (h us hl)
noncomputable def Passes (CX : CXT) (X : Cx) (E : XK) : Prop := ∀ (pins : List (Addr × Obj)) (σ : St) (H : Hp) (s : Shared) (e : Value) (s' : Shared), Inv X pins σ H s → CX X.stack H s E e s' → X.xe e s'
section
variable {X : Cx} {CX : CXT} {k : Nat} {f C : Addr} {fd : FuncData} {ps : List Str} {sp : Sp} {dvs : List V} {ds : List Value} {E : XK} {x m : Str} {p pos apos : Pos} {e o : Expr} {es : List Expr} {ta : TE} {t : TA}
theorem run_fn {pins : List (Addr × Obj)} {σ : St} {H : Hp} {s : Shared} {Q : VK} {us : List Value} {vs : List V} (F : FnOk X.prog X.w X.K X.mg X.base CX k f fd ps sp) (hr : Room k X.A) (hb : Binds X.K fd ps ds) (hd : Vals dvs ds) (hx : Passes CX X E)
    (I : Inv X pins σ H s) (r : Vals vs us) (h : sp (vs ++ dvs) H Q E) : wpAny (model X.prog X.w) X.A (call (.ref f) us) (EP X pins σ Q) X.xe s := by
  have r2 : Vals (vs ++ dvs) (us ++ ds) := r.append hd
  have hl : (us ++ ds).length = ps.length := by rw [← r2.length]; exact F.len _ _ _ _ h
  refine wpAny_call (codeAny_mono (F.run X.A X.stack s H ⟨us, []⟩ (us ++ ds) (vs ++ dvs) Q E hr I.env0 (hb s us I.kIn hl) r2 h) fun r s' hq => ?_)
  cases r with
  | error e => exact hx pins σ H s e s' I hq
  | ok fl =>
    cases fl with
    | ret u => exact I.after hq
    | next => exact False.elim hq
    | brk => exact False.elim hq
    | cont => exact False.elim hq
theorem pe_call (F : FnOk X.prog X.w X.K X.mg X.base CX k f fd ps sp) (hr : Room k X.A) (hg : Gl X x) (hm : X.mg x = some (.ref f)) (hk : PySem.W.keepIn X.K (.ref f) = true) (hb : Binds X.K fd ps ds) (hd : Vals dvs ds) (hx : Passes CX X E)
    (ha : PA X (e :: es) t) (hdb : (x == ("__debug__" : Str)) = false := by decide) (he : starEach (e :: es) X.env = (false, eval e X.env) :: starEach es X.env := by rfl) (hpl : (backTo pos (starEach es X.env)).any (·.1) = false := by rfl) :
    PE X (.Call (.Name x p) (e :: es) [] pos) (tCall sp dvs E t) := by
  intro pins s σ H Q I h
  refine wpAny_Call_Name_kw (ld_glob I hg hm ?_ hdb)
  refine PySem.W.callWith_K (h₀ := X.base) I.ok.mod.kin hk (thn (ha pos pins s σ H _ I h) fun us s1 ⟨vs, H1, I1, r, q⟩ => ⟨I1.kIn, ?_⟩) he hpl
  exact run_fn F hr hb hd hx I1 r q
structure Mk (K : PySem.W.Frag) (C f : Addr) : Prop where
  makes : PySem.W.makesIn K C = true
  init : PySem.W.findIn K (.ref C) "__init__" = some (some (.ref f))
  fn : PySem.W.isFn K (.ref f) = true
  kp : PySem.W.keepIn K (.ref C) = true
end
section
variable {X : Cx} {CX : CXT} {k : Nat} {f C : Addr} {fd : FuncData} {ps ks : List Str} {sp : Sp} {E : XK} {x m : Str} {p pos apos kpos : Pos} {e o : Expr} {es : List Expr} {kws : List Keyword} {te ta : TE} {t tk : TA} {nm : Option Str}
structure KBinds (K : PySem.W.Frag) (fd : FuncData) (ps ks : List Str) (g : List Value → List Value → List Value) (gV : List V → List V → List V) : Prop where
  to : ∀ (s : Shared) (us ws : List Value), K.In s.heap → (g us ws).length = ps.length → BindsTo s fd ⟨us, ks.zip ws⟩ (ps.zip (g us ws))
  rel : ∀ {vs : List V} {us : List Value} {zs : List V} {ws : List Value}, Vals vs us → Vals zs ws → Vals (gV vs zs) (g us ws)
variable {g : List Value → List Value → List Value} {gV : List V → List V → List V}
end
structure FnScope (N P : List Str) (sc : Scope) : Prop where
  kind : sc.kind = .function
  co : sc.isCoroutine = false
  gen : sc.isGenerator = false
  nd : N.Nodup
  pre : N.take P.length = P
  par : ∀ x ∈ P, sc.names.lookup x = some .local ∨ sc.names.lookup x = some .cell
  nofree : ∀ y ∈ sc.names, y.2 ≠ .free
theorem bindL_out {kindOf : Str → Option NameKind} {x : Str} : ∀ {binds : List (Str × Value)} {m : Str → Option Value}, (∀ v, (x, v) ∉ binds) → bindL kindOf binds m x = m x
  | [], _, _ => rfl
  | (n, v) :: r, m, h => by
    unfold bindL
    rw [bindL_out fun w hw => h w (List.mem_cons_of_mem _ hw)]
    split
    · have : x ≠ n := by rintro rfl; exact h v List.mem_cons_self
      simp [this]
    · rfl
theorem bindC_out {kindOf : Str → Option NameKind} {x : Str} : ∀ {binds : List (Str × Value)} {m : Str → Option Value}, (∀ v, (x, v) ∉ binds) → bindC kindOf binds m x = m x
  | [], _, _ => rfl
  | (n, v) :: r, m, h => by
    unfold bindC
    rw [bindC_out fun w hw => h w (List.mem_cons_of_mem _ hw)]
    split
    · rfl
    · have : x ≠ n := by rintro rfl; exact h v List.mem_cons_self
      simp [this]
theorem bindL_get {kindOf : Str → Option NameKind} {x : Str} {v : Value} : ∀ {P : List Str} {vs : List Value} {i : Nat} {m : Str → Option Value}, P.Nodup → P[i]? = some x → vs[i]? = some v → kindOf x = some .local →
    bindL kindOf (P.zip vs) m x = some v
  | [], _, _, _, _, h, _, _ => by simp at h
  | _ :: _, [], _, _, _, _, h, _ => by simp at h
  | p :: P, w :: vs, 0, m, nd, h1, h2, hk => by
    simp at h1 h2; subst h1; subst h2
    show bindL kindOf ((p, w) :: P.zip vs) m p = _
    unfold bindL
    rw [bindL_out fun v hv => (List.nodup_cons.mp nd).1 (List.of_mem_zip hv).1, if_pos hk]
    simp
  | p :: P, w :: vs, i + 1, m, nd, h1, h2, hk => by
    show bindL kindOf ((p, w) :: P.zip vs) m x = _
    unfold bindL
    exact bindL_get (i := i) (List.nodup_cons.mp nd).2 (by simpa using h1) (by simpa using h2) hk
theorem bindC_get {kindOf : Str → Option NameKind} {x : Str} {v : Value} : ∀ {P : List Str} {vs : List Value} {i : Nat} {m : Str → Option Value}, P.Nodup → P[i]? = some x → vs[i]? = some v → kindOf x ≠ some .local →
    bindC kindOf (P.zip vs) m x = some v
  | [], _, _, _, _, h, _, _ => by simp at h
  | _ :: _, [], _, _, _, _, h, _ => by simp at h
  | p :: P, w :: vs, 0, m, nd, h1, h2, hk => by
    simp at h1 h2; subst h1; subst h2
    show bindC kindOf ((p, w) :: P.zip vs) m p = _
    unfold bindC
    rw [bindC_out fun v hv => (List.nodup_cons.mp nd).1 (List.of_mem_zip hv).1, if_neg hk]
    simp
  | p :: P, w :: vs, i + 1, m, nd, h1, h2, hk => by
    show bindC kindOf ((p, w) :: P.zip vs) m x = _
    unfold bindC
    exact bindC_get (i := i) (List.nodup_cons.mp nd).2 (by simpa using h1) (by simpa using h2) hk
noncomputable def start (N : List Str) (vs : List V) : St := vs.map some ++ List.replicate (N.length - vs.length) none
noncomputable def cxOf (CX : CXT) (P : Program) (w : World) (K : PySem.W.Frag) (mg : Str → Option Value) (base : Heap) (N : List Str) (qual : Str) (scope : Scope) (f : Addr) (cd : Value) (A : Around) (outer : List Env) (s : Shared) (H : Hp) (E : XK) : Cx where
  prog := P
  w := w
  K := K
  mg := mg
  base := base
  A := A.deeper (envOfC qual scope s.heap.objs.size f cd)
  N := N
  s₀ := s
  H₀ := H
  env := envOfC qual scope s.heap.objs.size f cd
  outer := outer
  stack := envOfC qual scope s.heap.objs.size f cd :: outer
  ex := []
  calm := true
  fn := fun _ => true
  pn := []
  xe := fun e s' => wpAny (model P w) (A.deeper (envOfC qual scope s.heap.objs.size f cd)) (leaving (envOfC qual scope s.heap.objs.size f cd) e) (fun _ s'' => CX outer H s E e s'') (fun e' s'' => CX outer H s E e' s'') s'
theorem cell_has {sc : Scope} {n : Nat} {x : Str} (h : sc.names.lookup x = some .cell) : ∃ c, (cellsFrom n sc.names []).lookup x = some c := by
  have q := PySem.W.cellsFrom_some sc.names n [] (.inl h)
  exact Option.isSome_iff_exists.mp q
theorem inv_start {CX : CXT} {P : Program} {w : World} {K : PySem.W.Frag} {mg : Str → Option Value} {base : Heap} {N ps : List Str} {qual : Str} {scope : Scope} {f : Addr} {cd : Value} {A : Around} {outer : List Env} {s s1 : Shared} {H : Hp} {E : XK} {us : List Value} {vs : List V}
    (S : FnScope N ps scope) (hd : A.handled = none) (e0 : Env0 P w K mg base A outer s H) (hl : vs.length = ps.length) (r : Vals vs us)
    (x : InCallC s s.heap.objs.size (bindL (envOfC qual scope s.heap.objs.size f cd).kindOf (ps.zip us) fun _ => none) (cellsFrom (s.heap.objs.size + 1) scope.names []) (bindC (envOfC qual scope s.heap.objs.size f cd).kindOf (ps.zip us) fun _ => none) s1) :
    Inv (cxOf CX P w K mg base N qual scope f cd A outer s H E) [] (start N vs) H s1 := by
  have hpl : ps.length ≤ N.length := by have := congrArg List.length S.pre; rw [List.length_take] at this; omega
  obtain ⟨h1, tk, rfl, hk⟩ := x.done
  have noA : ∀ b : Addr, b ∉ (cxOf CX P w K mg base N qual scope f cd A outer s H E).ex := fun b z => absurd (show b ∈ ([] : List Addr) from z) (by simp)
  refine ⟨⟨e0.mod, S.kind, rfl, rfl, Nat.le_refl _, fun y z c h1 h2 => ?_, fun y hy => ?_, fun y c _ h => ?_, fun _ => hd, Around.frames_deeper e0.frames, .inr ⟨rfl, rfl⟩, fun b z => absurd z (noA b), e0.bs, e0.bsz, fun b _ _ => noA b, fun b z => absurd z (noA b), e0.funs, e0.frf⟩,
    rfl, e0.bare, Un.kept hk, ⟨_, x.toInCall.ns, fun i y v h1 h2 h3 => ?_⟩, fun y c h => ⟨_, x.cell y c h⟩, e0.hok.fresh (Nat.le_refl _), fun y c h => ?_, fun p hp => absurd (show p ∈ ([] : List (Addr × Obj)) from hp) (by simp), e0.hok.kept hk, ?_⟩
  · exact name_of_addr x.apart (PySem.mem_of_lookup h1) (PySem.mem_of_lookup h2)
  · have hy : scope.names.lookup y = some .cell ∨ scope.names.lookup y = some .free := hy
    rcases hy with hy | hy
    · exact cell_has hy
    · exact absurd rfl (S.nofree _ (PySem.mem_of_lookup hy))
  · exact Nat.le_of_lt (x.above y c (PySem.mem_of_lookup h))
  · have hi : i < vs.length := by
      unfold start at h2
      by_cases hi : i < vs.length
      · exact hi
      · rw [List.getElem?_append_right (by simpa using hi)] at h2
        rw [List.getElem?_replicate] at h2
        split at h2 <;> cases h2
    have ha : vs[i]? = some v := by
      unfold start at h2
      rw [List.getElem?_append_left (by simpa using hi), List.getElem?_map] at h2
      cases e : vs[i]? with
      | none => rw [e] at h2; cases h2
      | some a => rw [e] at h2; cases h2; rfl
    obtain ⟨u, hu, rv⟩ := r.get ha
    have hp : ps[i]? = some y := by
      rw [← S.pre, List.getElem?_take_of_lt (by omega)]; exact h1
    have ndP : ps.Nodup := by rw [← S.pre]; exact S.nd.sublist (List.take_sublist _ _)
    refine ⟨u, rv, ?_⟩
    rcases S.par y (List.mem_of_getElem? hp) with k | k
    · exact .inl ⟨k, bindL_get ndP hp hu k⟩
    · obtain ⟨c, e⟩ := cell_has (n := s.heap.objs.size + 1) k
      refine .inr ⟨.inl k, c, e, ?_⟩
      have q := x.cell y c e
      rw [bindC_get ndP hp hu (by show scope.names.lookup y ≠ _; rw [k]; decide)] at q
      exact q
  · exact e0.hok.fresh (Nat.le_of_lt (x.above y c (PySem.mem_of_lookup h)))
  · unfold start
    show _ = N.length
    rw [List.length_append, List.length_map, List.length_replicate]
    omega
theorem fn_of {CX : CXT} {P : Program} {w : World} {K : PySem.W.Frag} {mg : Str → Option Value} {base : Heap} {k : Nat} {f : Addr} {name qual : Str} {params : Arguments} {body : List Stmt} {scope : Scope} {dV kV doc pm cdv ct oc : Value} {an od : Option Addr}
    {osl : Array (Option Value)} {N ps : List Str} {sp : Sp} (lk : K.lookup f = some ⟨oc, od, .func (PySem.W.fnOf name qual params body scope dV kV doc pm an cdv ct), osl⟩) (hcd : PySem.W.codeIn K cdv qual = true) (S : FnScope N ps scope)
    (len : ∀ vs H Q E, sp vs H Q E → vs.length = ps.length)
    (hbody : ∀ (A : Around) (outer : List Env) (s : Shared) (H : Hp) (vs : List V) (Q : VK) (E : XK), Room k (A.deeper (envOfC qual scope s.heap.objs.size f cdv)) → sp vs H Q E →
      ∃ t, PSs (cxOf CX P w K mg base N qual scope f cdv A outer s H E) body t ∧ t { nx := fun _ H' => Q .non H', rt := Q } (start N vs) H) :
    FnOk P w K mg base CX (k + 1) f (PySem.W.fnOf name qual params body scope dV kV doc pm an cdv ct) ps sp := by
  refine ⟨len, fun A outer s H args us vs Q E hr e0 hb r hsp => ?_⟩
  have hl := len _ _ _ _ hsp
  have KX : K.In s.heap := e0.mod.kin.keeps fun b o e => (e0.bs b o e).1
  have lim : s.heap.NoLimit := e0.mod.nolimit.keeps fun b o e => (e0.bs b o e).1
  have hkind : ∀ y ∈ ps.zip us, scope.names.lookup y.1 = some .local ∨ (scope.names.lookup y.1 = some .cell ∧ ((cellsFrom (s.heap.objs.size + 1) scope.names []).lookup y.1).isSome = true) := fun ⟨n, v⟩ hy => by
    rcases S.par n (List.of_mem_zip hy).1 with q | q
    · exact .inl q
    · exact .inr ⟨q, PySem.W.cellsFrom_some _ _ _ (.inl q)⟩
  refine codeAny_call_function hr.depth (KX _ _ lk) rfl S.co S.gen rfl (PySem.W.codeRec_of KX hcd) (hb _ _ _ _ ?_)
  refine wpAny_newFunctionEnv_cells S.kind hkind fun env he s1 x => ?_
  subst he
  refine ⟨lim.keeps x.toInCall.keep, codeAny_func ?_⟩
  obtain ⟨t, ht, hq⟩ := hbody A outer s H vs Q E (hr.deeper _) hsp
  have I : Inv (cxOf CX P w K mg base N qual scope f cdv A outer s H E) [] (start N vs) H s1 := inv_start S hr.hd e0 hl r x
  refine wpAny_mono (ht [] s1 (start N vs) H _ I hq) (fun fl s' hs => ?_) fun e s' hs => hs
  have fin : ∀ {σ' : St} {H' : Hp} {v : V} {u : Value}, Inv (cxOf CX P w K mg base N qual scope f cdv A outer s H E) [] σ' H' s' → RelV v u → Q v H' → CE outer P w H s Q u s' :=
    fun {σ' H' v u} J rv q => ⟨v, H', J.os, J.bare, J.base, J.hok, rv, q⟩
  cases fl with
  | ret u =>
    obtain ⟨v, σ', H', J, rv, q⟩ := hs
    exact fin J rv q
  | next =>
    obtain ⟨σ', H', J, q⟩ := hs
    exact fin (v := V.non) (u := Value.none) J rfl q
  | brk =>
    obtain ⟨_, _, _, q⟩ := hs
    exact False.elim q
  | cont =>
    obtain ⟨_, _, _, q⟩ := hs
    exact False.elim q
end L2
namespace L2
open PySem PySem.Spec PyProof.Rows
section
variable {X : Cx} {x : Str} {p pos : Pos} {e : Expr} {es : List Expr} {t : TA} {id T : String} {r : List V → Hp → VK → Prop}
noncomputable def tCB (r : List V → Hp → VK → Prop) (t : TA) : TE := fun σ H Q => t σ H fun vs H1 => r vs H1 Q
theorem pe_callB (hc : CallR X (.builtin id) r) (hg : Gl X x) (hm : X.mg x = none) (hv : bootBuiltins x = some (.builtin id)) (ha : PA X (e :: es) t) (hn : x ≠ "__name__" := by decide) (hdb : (x == ("__debug__" : Str)) = false := by decide)
    (he : starEach (e :: es) X.env = (false, eval e X.env) :: starEach es X.env := by rfl) (hpl : (backTo pos (starEach es X.env)).any (·.1) = false := by rfl) : PE X (.Call (.Name x p) (e :: es) [] pos) (tCB r t) := by
  intro pins s σ H Q I h
  refine wpAny_Call_Name_kw (ld_blt I hg hm hv ?_ hn hdb)
  exact PyProof.Rows.callWith_builtin1 (thn (ha pos pins s σ H _ I h) fun us s1 ⟨vs, H1, I1, r1, q1⟩ => hc pins s1 σ H1 vs us Q I1 r1 q1) he hpl
theorem pe_callTy (hc : CallR X (.type T) r) (hg : Gl X x) (hm : X.mg x = none) (hv : bootBuiltins x = some (.type T)) (ha : PA X (e :: es) t) (hn : x ≠ "__name__" := by decide) (hdb : (x == ("__debug__" : Str)) = false := by decide)
    (he : starEach (e :: es) X.env = (false, eval e X.env) :: starEach es X.env := by rfl) (hpl : (backTo pos (starEach es X.env)).any (·.1) = false := by rfl) : PE X (.Call (.Name x p) (e :: es) [] pos) (tCB r t) := by
  intro pins s σ H Q I h
  refine wpAny_Call_Name_kw (ld_blt I hg hm hv ?_ hn hdb)
  exact PyProof.Rows.callWith_type1 (thn (ha pos pins s σ H _ I h) fun us s1 ⟨vs, H1, I1, r1, q1⟩ => hc pins s1 σ H1 vs us Q I1 r1 q1) he hpl
end
end L2
namespace HT
open PySem PyProof.Rows
section
open PySem.SeqAt
open PySem.AutoSeq1 (wpAny_loadPart')
open PySem.MeetsSeq PySem.MeetsSeq2 PySem.MeetsSeq3
end
section
variable {prog : Program} {w : World} {A : Around} {E : Value → Shared → Prop} {s : Shared}
theorem cat_tup {t b : Addr} {vs ws : List Value} {Q : Value → Shared → Prop} (ht : IsTup s.heap t vs.toArray) (hb : IsTup s.heap b ws.toArray) (hv : vs ≠ [])
    (h1 : ws = [] → Q (.ref t) s) (h2 : ws ≠ [] → Q (.ref s.heap.objs.size) { s with heap := s.heap.push { cls := .type "tuple", data := .seq (vs ++ ws).toArray } })
    (hsz : vs.length + ws.length ≤ sizeLine) : wpAny (model prog w) A (binaryOp .Add (.ref t) (.ref b)) Q E s := by
  obtain ⟨⟨cls, dd, data, sl⟩, ho, hc, n, hd⟩ := id ht
  obtain ⟨⟨cls2, dd2, data2, sl2⟩, ho2, hc2, n2, hd2⟩ := id hb
  simp only at hc hd hc2 hd2
  subst hc hd hc2 hd2
  have e : vs.toArray ++ ws.toArray = (vs ++ ws).toArray := by simp
  by_cases hw : ws = []
  · exact concat_meets ⟨_, ho, rfl⟩ ⟨_, ho2, rfl⟩ noFill_tuple_add seq_tuple_add PySem.F.slot_tuple_add PySem.F.entry_tuple_add (PySem.F.args_tuple_add_2 _ _)
      (tuple_addW1 t b vs.toArray ws.toArray n n2 dd dd2 sl sl2 (by simpa using hv) (by simp [hw])) ⟨ho, ho2, h1 hw⟩
  · refine concat_meets ⟨_, ho, rfl⟩ ⟨_, ho2, rfl⟩ noFill_tuple_add seq_tuple_add PySem.F.slot_tuple_add PySem.F.entry_tuple_add (PySem.F.args_tuple_add_2 _ _)
      (tuple_addW2 t b vs.toArray ws.toArray n n2 dd dd2 sl sl2 (by simpa using hv) (by simpa using hw) (by rw [List.size_toArray, List.size_toArray]; exact hsz)) ⟨ho, ho2, ?_⟩
    rw [e]
    exact h2 hw
noncomputable def sIx (n d : Nat) : Option Int → Nat
  | none => d
  | some v => if v < 0 then (v + (n : Int)).toNat else min v.toNat n
theorem sIx_le (n d : Nat) (hd : d ≤ n) (o : Option Int) : sIx n d o ≤ n := by
  cases o with
  | none => exact hd
  | some v =>
    show (if v < 0 then (v + (n : Int)).toNat else min v.toNat n) ≤ n
    by_cases hv : v < 0
    · rw [if_pos hv]; omega
    · rw [if_neg hv]; exact Nat.min_le_right _ _
theorem clip_eq (v : Int) (n d : Nat) : (if v < 0 then max (v + (n : Int)) 0 else min v (n : Int)) = ((sIx n d (some v) : Nat) : Int) := by
  show (if v < 0 then max (v + (n : Int)) 0 else min v (n : Int)) = (((if v < 0 then (v + (n : Int)).toNat else min v.toNat n) : Nat) : Int)
  by_cases hv : v < 0
  · simp only [if_pos hv]; omega
  · simp only [if_neg hv]; omega
theorem adjust_gen (lo hi : Option Int) (n : Nat) : Builtin.Slice.sliceAdjust lo hi 1 (n : Int) = (((sIx n 0 lo : Nat) : Int), ((sIx n n hi : Nat) : Int)) := by
  have h1 : ¬ ((1 : Int) < 0) := by omega
  unfold Builtin.Slice.sliceAdjust
  simp only [h1, if_false]
  refine Prod.ext ?_ ?_
  · cases lo with
    | none => rfl
    | some v => exact clip_eq v n 0
  · cases hi with
    | none => rfl
    | some v => exact clip_eq v n n
theorem places_gen (i j : Nat) : Builtin.Slice.slicePlaces (i : Int) (j : Int) 1 = j - i := by
  unfold Builtin.Slice.slicePlaces
  have h1 : (1 : Int) > 0 := by omega
  simp only [h1, if_true, Int.ediv_one]
  split <;> omega
theorem slicePart_ {v : Value} {o : Option Int} {Q : Option Int → Shared → Prop} (p : IsPart v o) (h : Q o s) : wpAny (model prog w) A (Builtin.Slice.slicePartIndex v) Q E s := by
  cases p with
  | none => exact slicePart_none h
  | int i t => exact slicePart_int h
theorem sliceApplied_gen {sl : Addr} {vl vu : Value} {lo hi : Option Int} {n : Nat} {Q : Int × Int × Nat → Shared → Prop} (hs : s.heap.IsSliceOf sl vl vu .none) (pl : IsPart vl lo) (pu : IsPart vu hi)
    (h : Q (((sIx n 0 lo : Nat) : Int), 1, sIx n n hi - sIx n 0 lo) s) : wpAny (model prog w) A (Builtin.Slice.sliceApplied (.ref sl) (pure (n : Int))) Q E s := by
  obtain ⟨os, hos, hcs, hds⟩ := id hs
  unfold Builtin.Slice.sliceApplied Builtin.Slice.sliceFields
  refine wpAny_bind (wpAny_bind (wpAny_field hos hds (x := vl) rfl (wpAny_bind (wpAny_field hos hds (x := vu) rfl (wpAny_bind (wpAny_field hos hds (x := .none) rfl (wpAny_pure ?_)))))))
  refine wpAny_bind (slicePart_none ?_)
  show wpAny _ _ (if ((1 : Int) == 0) = true then _ else _) _ _ s
  rw [if_neg (by decide)]
  refine wpAny_bind (slicePart_ pl (wpAny_bind (slicePart_ pu (wpAny_bind (wpAny_pure ?_)))))
  show wpAny _ _ (match Builtin.Slice.sliceAdjust lo hi 1 (n : Int) with | (lo, hi) => pure (lo, (1 : Int), Builtin.Slice.slicePlaces lo hi 1)) _ _ s
  rw [adjust_gen lo hi n]
  show wpAny _ _ (pure (((sIx n 0 lo : Nat) : Int), (1 : Int), Builtin.Slice.slicePlaces ((sIx n 0 lo : Nat) : Int) ((sIx n n hi : Nat) : Int) 1)) _ _ s
  rw [places_gen]
  exact wpAny_pure h
theorem pick_gen (xs : Array Value) (i k : Nat) : ((List.range k).filterMap fun (m : Nat) => xs[((i : Int) + (m : Int) * 1).toNat]?).toArray = ((xs.toList.drop i).take k).toArray := by
  have e : (fun (m : Nat) => xs[((i : Int) + (m : Int) * 1).toNat]?) = fun m => xs[i + m]? := by
    funext m
    have : ((i : Int) + (m : Int) * 1).toNat = i + m := by omega
    rw [this]
  rw [e]
  have := pick_run xs i k
  rw [List.filterMap_map] at this
  have e2 : ((fun x => xs[x]?) ∘ fun x => i + x) = fun m => xs[i + m]? := rfl
  rw [e2] at this
  rw [this]
theorem getItem_tuple_cut {t sl : Addr} {items : Array Value} {vl vu : Value} {lo hi : Option Int} {Q : Value → Shared → Prop} (ht : IsTup s.heap t items) (hs : s.heap.IsSliceOf sl vl vu .none) (pl : IsPart vl lo) (pu : IsPart vu hi)
    (hw : ¬ (sIx items.size 0 lo = 0 ∧ sIx items.size items.size hi = items.size))
    (h : Q (.ref s.heap.objs.size) { s with heap := s.heap.push { cls := .type "tuple", data := .seq ((items.toList.drop (sIx items.size 0 lo)).take (sIx items.size items.size hi - sIx items.size 0 lo)).toArray } })
    (hsz : items.size ≤ sizeLine) : wpAny (model prog w) A (getItem (.ref t) (.ref sl)) Q E s := by
  have htake : sizeOk (.seq ((items.toList.drop (sIx items.size 0 lo)).take (sIx items.size items.size hi - sIx items.size 0 lo)).toArray) := by
    show ((items.toList.drop (sIx items.size 0 lo)).take (sIx items.size items.size hi - sIx items.size 0 lo)).toArray.size ≤ sizeLine
    rw [List.size_toArray, List.length_take, List.length_drop, Array.length_toList]
    omega
  have hj : sIx items.size items.size hi ≤ items.size := sIx_le _ _ (Nat.le_refl _) hi
  obtain ⟨os, hos, hcs, hds⟩ := id hs
  have hTs : s.TypeIs (.ref sl) "slice" := ⟨os, hos, hcs⟩
  unfold getItem
  try with_reducible refine wpAny_holding ?_
  first | refine wpAny_bind (wpAny_pure ?_) | skip
  refine wpAny_bind (wpAny_sequenceKey ht.typeIs (by decide) ?_)
  refine wpAny_bind (wpAny_callSpecial?_slot (name := Str.ofString "__getitem__") ht.typeIs PyProof.Rows.slot_tuple_getitem
    (wpAny_call_entry PyProof.Rows.slot_tuple_getitem ht.typeIs entry_tuple_getitem ?_ (args_tuple_getitem _ _)))
  show wpAny _ _ (Builtin.Tuple.tupleItemsOf (.ref t) >>= _) _ _ s
  refine wpAny_bind (tupleItemsOf_ ht ?_)
  refine wpAny_bind (wpAny_typeOf hTs ?_)
  rw [if_pos (by decide)]
  refine wpAny_bind (sliceApplied_gen hs pl pu ?_)
  have hno : ¬ ((((sIx items.size 0 lo : Nat) : Int) == 0 && (1 : Int) == 1 && (sIx items.size items.size hi - sIx items.size 0 lo) == items.size) = true) := by
    intro q
    rw [Bool.and_eq_true, Bool.and_eq_true] at q
    have q1 : ((sIx items.size 0 lo : Nat) : Int) = 0 := eq_of_beq q.1.1
    have q2 : sIx items.size items.size hi - sIx items.size 0 lo = items.size := eq_of_beq q.2
    exact hw ⟨by omega, by omega⟩
  show wpAny _ _ (if (((sIx items.size 0 lo : Nat) : Int) == 0 && (1 : Int) == 1 && (sIx items.size items.size hi - sIx items.size 0 lo) == items.size) = true then _ else _) _ _ s
  rw [if_neg hno, pick_gen]
  first
    | exact wpAny_bind (m := Builtin.Tuple.tupleExact _) (wpAny_newObj_type (wpAny_pure ⟨_, rfl, wpAny_pure h⟩) htake)
    | exact wpAny_bind (m := Builtin.Tuple.tupleExact _) (wpAny_newObj_type (wpAny_bind (wpAny_pure (wpAny_pure ⟨_, rfl, wpAny_pure h⟩))) htake)
    | exact wpAny_bind (wpAny_bind (m := Builtin.Tuple.tupleExact _) (wpAny_newObj_type (wpAny_pure (wpAny_pure ⟨_, rfl, wpAny_pure h⟩)) htake))
    | exact wpAny_bind (wpAny_bind (m := Builtin.Tuple.tupleExact _) (wpAny_newObj_type (wpAny_pure ⟨_, rfl, wpAny_pure h⟩) htake))
end
end HT
namespace L2
open PySem PySem.Spec PyProof.Rows
abbrev TO := St → Hp → (Option Int → Hp → Prop) → Prop
noncomputable def PO (X : Cx) (e : Option Expr) (t : TO) : Prop :=
  ∀ (pins : List (Addr × Obj)) (s : Shared) (σ : St) (H : Hp) (Q : Option Int → Hp → Prop), Inv X pins σ H s → t σ H Q →
    wpAny (model X.prog X.w) X.A (evalPart e X.env) (fun u s' => ∃ o H', Inv X pins σ H' s' ∧ IsPart u o ∧ Q o H') X.xe s
noncomputable def tPart (t : TE) : TO := fun σ H Q => t σ H fun x H1 => ∃ i, x = .int i ∧ Q (some i) H1
section
variable {X : Cx} {e : Expr} {te : TE} {lo hi : Option Expr} {tl th : TO} {pos p2 : Pos}
theorem po_some (h : PE X e te) : PO X (some e) (tPart te) := by
  intro pins s σ H Q I hw
  rw [evalPart_some]
  refine thn (h pins s σ H _ I hw) fun u s1 ⟨x, H1, I1, r1, q1⟩ => ?_
  obtain ⟨i, rfl, q⟩ := q1
  obtain ⟨t, rfl⟩ := r1
  exact ⟨some i, H1, I1, .int i t, q⟩
noncomputable def SlR (X : Cx) (r : V → Option Int → Option Int → Hp → VK → Prop) : Prop :=
  ∀ (pins : List (Addr × Obj)) (s : Shared) (σ : St) (H : Hp) (x : V) (v vl vu : Value) (lo hi : Option Int) (sl : Addr) (Q : VK), Inv X pins σ H s → RelV x v → s.heap.IsSliceOf sl vl vu .none → IsPart vl lo → IsPart vu hi → r x lo hi H Q →
    ∃ T id, typeLookup (.type T) "__getitem__" = pure (some (.builtin id)) ∧ s.TypeIs v T ∧ wpAny (model X.prog X.w) X.A (getItem v (.ref sl)) (EP X pins σ Q) X.xe s
noncomputable def tSl (r : V → Option Int → Option Int → Hp → VK → Prop) (te : TE) (tl th : TO) : TE := fun σ H Q => te σ H fun x H1 => tl σ H1 fun l H2 => th σ H2 fun u H3 => r x l u H3 Q
theorem pe_slice {r : V → Option Int → Option Int → Hp → VK → Prop} (hr : SlR X r) (he : PE X e te) (hl : PO X lo tl) (hu : PO X hi th) : PE X (.Subscript e (.Slice lo hi none p2) pos) (tSl r te tl th) := by
  intro pins s σ H Q I h
  refine Subscript_ (thn (he pins s σ H _ I h) fun v s1 ⟨x, H1, I1, r1, q1⟩ => ?_)
  refine wpAny_Slice (thn (hl pins s1 σ H1 _ I1 q1) fun vl s2 ⟨l, H2, I2, pl, q2⟩ => thn (hu pins s2 σ H2 _ I2 q2) fun vu s3 ⟨u, H3, I3, pu, q3⟩ => ?_)
  rw [evalPart_none]
  refine wpAny_pure ?_
  have I4 : Inv X pins σ H3 { s3 with heap := s3.heap.push { cls := .type "slice", data := .fields #[vl, vu, .none] } } := I3.kept (t' := s3.toks) fun b ob q => Heap.get?_push_of_some _ q
  obtain ⟨T, id, hT, ht, hg⟩ := hr pins { s3 with heap := s3.heap.push { cls := .type "slice", data := .fields #[vl, vu, .none] } } σ H3 x v vl vu l u s3.heap.objs.size Q I4 r1 (Heap.IsSliceOf.new ..) pl pu q3
  show wpAny (model X.prog X.w) X.A (subscriptTail e (.Slice lo hi none p2) v (.ref s3.heap.objs.size)) (EP X pins σ Q) X.xe { s3 with heap := s3.heap.push { cls := .type "slice", data := .fields #[vl, vu, .none] } }
  exact tail_any (ops := [.ref s3.heap.objs.size, v]) ht hT hg (by with_unfolding_all rfl)
noncomputable def cutV (xs : List V) (lo hi : Option Int) : List V := (xs.drop (HT.sIx xs.length 0 lo)).take (HT.sIx xs.length xs.length hi - HT.sIx xs.length 0 lo)
theorem cutV_length (xs : List V) (lo hi : Option Int) : (cutV xs lo hi).length ≤ xs.length := by
  unfold cutV
  rw [List.length_take, List.length_drop]
  omega
noncomputable def rSlT (K : PySem.W.Frag) : V → Option Int → Option Int → Hp → VK → Prop := fun x lo hi H Q => ∃ a xs, x = .ref a ∧ SqT K H a xs ∧
  ¬ (HT.sIx xs.length 0 lo = 0 ∧ HT.sIx xs.length xs.length hi = xs.length) ∧ ∀ p, H p = none → Q (.ref p) (upd H p (.tup (cutV xs lo hi)))
theorem sl_tup : SlR X (rSlT X.K) := by
  intro pins s σ H x v vl vu lo hi sl Q I rx hs pl pu h
  obtain ⟨a, xs, rfl, hx, hw, q⟩ := h
  cases rx
  obtain ⟨its, r, ht, hz⟩ := I.tuple hx
  have hlen : its.toArray.size = xs.length := by rw [List.size_toArray]; exact r.length.symm
  refine ⟨"tuple", _, PyProof.Rows.slot_tuple_getitem.lookup, ht.typeIs, ?_⟩
  refine HT.getItem_tuple_cut ht hs pl pu (by rw [hlen]; exact hw) ?_ (by rw [hlen]; exact hz)
  rw [hlen]
  refine ⟨.ref s.heap.objs.size, _, I.laid (t' := s.toks) (o := .tup (cutV xs lo hi)) (fun b ob q => Heap.get?_push_of_some _ q) (Nat.le_refl _) ?_, rfl, q _ (I.hok.fresh (Nat.le_refl _))⟩
  exact ⟨Nat.le_trans (cutV_length xs lo hi) hz, _, (r.drop (HT.sIx xs.length 0 lo)).take (HT.sIx xs.length xs.length hi - HT.sIx xs.length 0 lo), IsTup.new _ _⟩
noncomputable def rCatT (K : PySem.W.Frag) : R2 := fun x y H Q => ∃ a b xs ys, x = .ref a ∧ y = .ref b ∧ SqT K H a xs ∧ SqT K H b ys ∧ xs ≠ [] ∧ xs.length + ys.length ≤ sizeLine ∧
  (ys = [] → Q (.ref a) H) ∧ (ys ≠ [] → ∀ p, H p = none → Q (.ref p) (upd H p (.tup (xs ++ ys))))
theorem Vals.nil_iff {xs : List V} {us : List Value} (r : Vals xs us) : us = [] ↔ xs = [] := by
  cases r with
  | nil => simp
  | cons _ _ => simp
theorem op_catT : OpR X (binaryOp .Add) (rCatT X.K) := by
  intro pins s σ H x y v u Q I rx ry h
  obtain ⟨a, b, xs, ys, rfl, rfl, ha, hb, hx, hz, q1, q2⟩ := h
  cases rx
  cases ry
  obtain ⟨its, r1, p1, _⟩ := I.tuple ha
  obtain ⟨its2, r2, p2, _⟩ := I.tuple hb
  refine HT.cat_tup p1 p2 (fun z => hx (r1.nil_iff.mp z)) (fun z => ⟨.ref a, H, I, rfl, q1 (r2.nil_iff.mp z)⟩) (fun z => ?_) (by rw [← r1.length, ← r2.length]; exact hz)
  refine ⟨.ref s.heap.objs.size, _, I.laid (t' := s.toks) (o := .tup (xs ++ ys)) (fun b ob q => Heap.get?_push_of_some _ q) (Nat.le_refl _) ?_, rfl, q2 (fun w => z (r2.nil_iff.mpr w)) _ (I.hok.fresh (Nat.le_refl _))⟩
  exact ⟨by rw [List.length_append]; exact hz, _, r1.append r2, IsTup.new _ _⟩
end
end L2
namespace L2
open PySem PySem.Spec PyProof.Rows
noncomputable def ixN (n : Nat) (i : Int) : Option Nat := if 0 ≤ i then (if i < n then some i.toNat else none) else if -(n : Int) ≤ i then some (i + n).toNat else none
noncomputable def atI {α : Type} (xs : List α) (i : Int) : Option α := (ixN xs.length i).bind fun j => xs[j]?
theorem ixN_seq {n : Nat} {i : Int} {j : Nat} (h : ixN n i = some j) : seqIndex? i n = some j ∧ j < n ∧ -(n : Int) ≤ i ∧ i < n := by
  unfold ixN at h
  by_cases h0 : 0 ≤ i
  · rw [if_pos h0] at h
    by_cases h1 : i < n
    · rw [if_pos h1] at h
      have e : i.toNat = j := Option.some.inj h
      exact ⟨by rw [seqIndex_of h0 h1, e], by omega, by omega, h1⟩
    · rw [if_neg h1] at h; cases h
  · rw [if_neg h0] at h
    by_cases h1 : -(n : Int) ≤ i
    · rw [if_pos h1] at h
      have e : (i + n).toNat = j := Option.some.inj h
      exact ⟨by rw [seqIndex_neg (by omega) h1, e], by omega, h1, by omega⟩
    · rw [if_neg h1] at h; cases h
theorem atI_get {α : Type} {xs : List α} {i : Int} {v : α} (h : atI xs i = some v) : ∃ j, seqIndex? i xs.length = some j ∧ xs[j]? = some v ∧ j < xs.length ∧ -(xs.length : Int) ≤ i ∧ i < xs.length := by
  unfold atI at h
  cases e : ixN xs.length i with
  | none => rw [e] at h; cases h
  | some j =>
    rw [e] at h
    obtain ⟨h1, h2, h3, h4⟩ := ixN_seq e
    exact ⟨j, h1, h, h2, h3, h4⟩
theorem atI_nat {α : Type} {xs : List α} {j : Nat} {v : α} (h : xs[j]? = some v) : atI xs (j : Int) = some v := by
  have hj : j < xs.length := (List.getElem?_eq_some_iff.mp h).1
  have e : ixN xs.length (j : Int) = some j := by
    unfold ixN
    rw [if_pos (by omega), if_pos (by omega)]; simp
  unfold atI; rw [e]; exact h
noncomputable def PlainIx (b : Expr) : Prop := ∀ o i, subscripted b false o i = operate [o, i] (getItem o i)
noncomputable def IxR (X : Cx) (r : R2) : Prop :=
  ∀ (value slice : Expr) (pins : List (Addr × Obj)) (s : Shared) (σ : St) (H : Hp) (x y : V) (v u : Value) (Q : VK), Inv X pins σ H s → RelV x v → RelV y u → r x y H Q →
    subscripted slice false v u = operate [v, u] (getItem v u) → wpAny (model X.prog X.w) X.A (subscriptTail value slice v u) (EP X pins σ Q) X.xe s
noncomputable def MtR (X : Cx) (id : String) (r : V → List V → Hp → VK → Prop) : Prop :=
  ∀ (pins : List (Addr × Obj)) (s : Shared) (σ : St) (H : Hp) (x : V) (xs : List V) (v : Value) (us : List Value) (Q : VK), Inv X pins σ H s → RelV x v → Vals xs us → r x xs H Q →
    wpAny (model X.prog X.w) X.A (call (.builtin id) (v :: us)) (EP X pins σ Q) X.xe s
section
variable {X : Cx} {a b : Expr} {ta tb : TE} {pos : Pos}
theorem pe_ix {r : R2} (hr : IxR X r) (ha : PE X a ta) (hb : PE X b tb) (hs : PlainIx b) : PE X (.Subscript a b pos) (tOp r ta tb) := by
  intro pins s σ H Q I h
  exact Subscript_ (binT ha hb I h fun v u s2 x y H2 I2 rx ry q => hr a b pins s2 σ H2 x y v u Q I2 rx ry q (hs _ _))
noncomputable def rIxL (K : PySem.W.Frag) : R2 := fun x y H Q => ∃ p xs i v, x = .ref p ∧ y = .int i ∧ SqL K H p xs ∧ atI xs i = some v ∧ Q v H
noncomputable def rIxT (K : PySem.W.Frag) : R2 := fun x y H Q => ∃ p xs i v, x = .ref p ∧ y = .int i ∧ SqT K H p xs ∧ atI xs i = some v ∧ Q v H
noncomputable def rIxS : R2 := fun x y H Q => ∃ z i c, x = .str z ∧ y = .int i ∧ z.length ≤ sizeLine ∧ atI z.cps.toList i = some c ∧ Q (.str ⟨#[c]⟩) H
theorem ix_list : IxR X (rIxL X.K) := by
  intro value slice pins s σ H x y v u Q I rx ry h hs
  obtain ⟨p, xs, i, z, rfl, rfl, hq, he, q⟩ := h
  cases rx
  obtain ⟨t, rfl⟩ := ry
  obtain ⟨its, r, pl, hz⟩ := I.list hq
  obtain ⟨j, h1, h2, h3, h4, h5⟩ := atI_get he
  obtain ⟨w, ew, rw'⟩ := r.get h2
  have hl := r.length
  have hn := line63
  have fin : EP X pins σ Q w s := ⟨z, H, I, rw', q⟩
  by_cases h0 : 0 ≤ i
  · have hj : i.toNat = j := by
      rw [seqIndex_of h0 h5] at h1
      exact Option.some.inj h1
    exact item_listR pl.isList h0 (by omega) (by rw [hj]; simpa using ew) fin hs
  · have hj : (i + (its.toArray.size : Int)).toNat = j := by
      rw [seqIndex_neg (by omega) h4] at h1
      rw [List.size_toArray, ← hl]
      exact Option.some.inj h1
    exact subscriptTail_builtinR (x := w) pl.isList.typeIs slot_list_getitem.lookup
      (wpAny_getItem_list_neg (Q := fun r s' => r = w ∧ EP X pins σ Q r s') pl.isList (by omega) (by rw [List.size_toArray] <;> omega) (by omega) (by rw [hj]; simpa using ew) ⟨rfl, fin⟩) hs
theorem ix_tup : IxR X (rIxT X.K) := by
  intro value slice pins s σ H x y v u Q I rx ry h hs
  obtain ⟨p, xs, i, z, rfl, rfl, hq, he, q⟩ := h
  cases rx
  obtain ⟨t, rfl⟩ := ry
  obtain ⟨its, r, pl, hz⟩ := I.tuple hq
  obtain ⟨j, h1, h2, h3, h4, h5⟩ := atI_get he
  obtain ⟨w, ew, rw'⟩ := r.get h2
  have hl := r.length
  have hn := line63
  have fin : EP X pins σ Q w s := ⟨z, H, I, rw', q⟩
  exact subscriptTail_builtinR (x := w) pl.typeIs slot_tuple_getitem.lookup
    (getItem_tuple (j := j) (Q := fun r s' => r = w ∧ EP X pins σ Q r s') pl (by omega) (by omega) (by rw [List.size_toArray, ← hl]; exact h1) (by simpa using ew) ⟨rfl, fin⟩) hs
theorem ix_str : IxR X rIxS := by
  intro value slice pins s σ H x y v u Q I rx ry h hs
  obtain ⟨z, i, c, rfl, rfl, hz, he, q⟩ := h
  obtain ⟨t, rfl⟩ := rx
  obtain ⟨t', rfl⟩ := ry
  obtain ⟨j, h1, h2, h3, h4, h5⟩ := atI_get he
  have hl : z.cps.toList.length = z.length := by simp [Str.length]
  rw [hl] at h1 h4 h5
  have hn := line63
  exact tail_any (typeIs_str s z t) slot_str_getitem.lookup (getItem_str (c := c) (by
    have e1 : decide (i < -(2 ^ 63 : Int)) = false := decide_eq_false (by omega)
    have e2 : decide (i ≥ 2 ^ 63) = false := decide_eq_false (by omega)
    rw [e1, e2, Bool.or_false]) (by rw [h1]; simpa using h2) ⟨.str ⟨#[c]⟩, H, I.tok _, ⟨_, rfl⟩, q⟩) hs
theorem slice_bounds (lo hi : Option Int) (n : Nat) : (sliceBounds lo hi none n).1 = ((HT.sIx n 0 lo : Nat) : Int) ∧ (sliceBounds lo hi none n).2.1 = ((HT.sIx n n hi : Nat) : Int) ∧ (sliceBounds lo hi none n).2.2 = 1 := by
  refine ⟨?_, ?_, rfl⟩
  · cases lo with
    | none => simp [sliceBounds, HT.sIx]
    | some i =>
      simp only [sliceBounds, HT.sIx, Option.getD_none, show (1 : Int) > 0 by decide, if_true]
      by_cases h : i < 0
      · simp only [h, if_true] <;> omega
      · simp only [h, if_false] <;> omega
  · cases hi with
    | none => simp [sliceBounds, HT.sIx]
    | some i =>
      simp only [sliceBounds, HT.sIx, Option.getD_none, show (1 : Int) > 0 by decide, if_true]
      by_cases h : i < 0
      · simp only [h, if_true] <;> omega
      · simp only [h, if_false] <;> omega
theorem slicePick_cut (its : List Value) (lo hi : Option Int) : slicePick its.toArray lo hi none = ((its.drop (HT.sIx its.length 0 lo)).take (HT.sIx its.length its.length hi - HT.sIx its.length 0 lo)).toArray := by
  obtain ⟨h1, h2, h3⟩ := slice_bounds lo hi its.toArray.size
  unfold slicePick
  rw [h1, h2, h3]
  simp only [sliceRange_one, pick_run, List.size_toArray] <;> rfl
noncomputable def rSlL (K : PySem.W.Frag) : V → Option Int → Option Int → Hp → VK → Prop := fun x lo hi H Q => ∃ a xs, x = .ref a ∧ SqL K H a xs ∧ ∀ p, H p = none → Q (.ref p) (upd H p (.lst (cutV xs lo hi)))
theorem sl_list : SlR X (rSlL X.K) := by
  intro pins s σ H x v vl vu lo hi sl Q I rx hs pl pu h
  obtain ⟨a, xs, rfl, hx, q⟩ := h
  cases rx
  obtain ⟨its, r, ht, hz⟩ := I.list hx
  have hlen := r.length
  refine ⟨"list", _, slot_list_getitem.lookup, ht.isList.typeIs, ?_⟩
  refine wpAny_getItem_list_slice ht.isList hs pl pu .none (by simp) ?_ (by rw [List.size_toArray] <;> omega)
  rw [slicePick_cut, ← hlen]
  refine ⟨.ref s.heap.objs.size, _, I.laid (t' := s.toks) (o := .lst (cutV xs lo hi)) (fun b ob q => Heap.get?_push_of_some _ q) (Nat.le_refl _) ?_, rfl, q _ (I.hok.fresh (Nat.le_refl _))⟩
  exact ⟨Nat.le_trans (cutV_length xs lo hi) hz, _, 0, (r.drop (HT.sIx xs.length 0 lo)).take (HT.sIx xs.length xs.length hi - HT.sIx xs.length 0 lo), Heap.get?_push_size _ rfl⟩
noncomputable def flatV : V → Bool
  | .non => true
  | .bl _ => true
  | .int _ => true
  | .str _ => true
  | _ => false
theorem call_len_seq : CallR X (.builtin "len") (fun xs H Q => ∃ p ys, xs = [.ref p] ∧ (SqL X.K H p ys ∨ SqT X.K H p ys) ∧ Q (.int ys.length) H) := by
  intro pins s σ H xs us Q I r h
  obtain ⟨p, ys, rfl, hq, q⟩ := h
  obtain ⟨u, rfl, rx⟩ := vals1 r
  cases rx
  have hn := line63
  rcases hq with hq | hq
  · obtain ⟨its, r', pl, hz⟩ := I.list hq
    have hlen := r'.length
    exact Calls.call_len_list pl.isList (by simp only [List.size_toArray] <;> omega) ⟨.int ys.length, H, I.tok _, ⟨s.toks + 1, by rw [List.size_toArray, hlen]⟩, q⟩
  · obtain ⟨its, r', pl, hz⟩ := I.tuple hq
    have hlen := r'.length
    exact len_tuple pl (by simp only [List.size_toArray] <;> omega) ⟨.int ys.length, H, I.tok _, ⟨s.toks + 1, by rw [List.size_toArray, hlen]⟩, q⟩
theorem call_len_str : CallR X (.builtin "len") (fun xs H Q => ∃ z, xs = [.str z] ∧ z.length ≤ sizeLine ∧ Q (.int z.length) H) := by
  intro pins s σ H xs us Q I r h
  obtain ⟨z, rfl, hz, q⟩ := h
  obtain ⟨u, rfl, t, rfl⟩ := vals1 r
  have hn := line63
  exact len_str (by omega) ⟨.int z.length, H, I.tok _, ⟨_, rfl⟩, q⟩
theorem call_list_of : CallR X (.type "list") (fun xs H Q => ∃ p ys, xs = [.ref p] ∧ (SqL X.K H p ys ∨ SqT X.K H p ys) ∧ ∀ l, H l = none → Q (.ref l) (upd H l (.lst ys))) := by
  intro pins s σ H xs us Q I r h
  obtain ⟨p, ys, rfl, hq, q⟩ := h
  obtain ⟨u, rfl, rx⟩ := vals1 r
  cases rx
  have fin : ∀ (its : List Value), Vals ys its → ys.length ≤ sizeLine → ∀ (h' : Heap) (c' : Nat), (∀ b o', s.heap.get? b = some o' → h'.get? b = some o') →
      h'.get? s.heap.objs.size = some { cls := .type "list", dict := none, data := .seq its.toArray c', slots := #[] } → EP X pins σ Q (.ref s.heap.objs.size) { s with heap := h' } := fun its r' hz h' c' kp e =>
    ⟨.ref s.heap.objs.size, _, I.laid (t' := s.toks) kp (Nat.le_refl _) (show ObjOk X.prog X.w _ h' _ (.lst ys) from ⟨hz, its, c', r', e⟩), rfl, q _ (I.hok.fresh (Nat.le_refl _))⟩
  rcases hq with hq | hq
  · obtain ⟨its, r', pl, hz⟩ := I.list hq
    have hlen := r'.length
    obtain ⟨o, ho, hc, n, hd⟩ := pl.isList
    exact call_list_seq p (.inl rfl) ho hc hd (fun h' c' kp e => fin its r' hz h' c' kp e) (by simp only [List.size_toArray] <;> omega)
  · obtain ⟨its, r', pl, hz⟩ := I.tuple hq
    have hlen := r'.length
    obtain ⟨o, ho, hc, n, hd⟩ := pl
    exact call_list_seq p (.inr rfl) ho hc hd (fun h' c' kp e => fin its r' hz h' c' kp e) (by simp only [List.size_toArray] <;> omega)
theorem call_tuple_of : CallR X (.type "tuple") (fun xs H Q => ∃ p ys, xs = [.ref p] ∧ ((SqL X.K H p ys ∧ ∀ l, H l = none → Q (.ref l) (upd H l (.tup ys))) ∨ (SqT X.K H p ys ∧ Q (.ref p) H))) := by
  intro pins s σ H xs us Q I r h
  obtain ⟨p, ys, rfl, h⟩ := h
  obtain ⟨u, rfl, rx⟩ := vals1 r
  cases rx
  rcases h with ⟨hq, q⟩ | ⟨hq, q⟩
  · obtain ⟨its, r', pl, hz⟩ := I.list hq
    have hlen := r'.length
    refine call_tuple_list pl.isList (fun h' kp => ?_) (by simp only [List.size_toArray] <;> omega)
    have I1 : Inv X pins σ H { s with heap := h' } := I.kept (t' := s.toks) kp
    have I2 : Inv X pins σ (upd H h'.objs.size (.tup ys)) { s with heap := h'.push { cls := .type "tuple", data := .seq its.toArray } } :=
      I1.laid (t' := s.toks) (fun b o e => Heap.get?_push_of_some _ e) (Nat.le_refl _) (show ObjOk X.prog X.w _ _ _ (.tup ys) from ⟨hz, its, r', IsTup.new _ _⟩)
    exact ⟨.ref h'.objs.size, _, I2, rfl, q _ (I1.hok.fresh (Nat.le_refl _))⟩
  · obtain ⟨its, r', pl, hz⟩ := I.tuple hq
    exact call_tuple_same pl ⟨.ref p, H, I, rfl, q⟩
noncomputable def tyV (K : PySem.W.Frag) (T : String) (x : V) (H : Hp) : Prop := match x with
  | .str _ => T = "str"
  | .int _ => T = "int"
  | .ref p => (T = "list" ∧ ∃ xs, SqL K H p xs) ∨ (T = "tuple" ∧ ∃ o, K.lookup p = some o ∧ o.cls = .type "tuple" ∧ o.dict = none) ∨
      (T = "dict" ∧ ((∃ kvs, H p = some (.dK kvs)) ∨ ∃ kvs, H p = some (.dT kvs))) ∨ (T = "set" ∧ ∃ S n, H p = some (.set S n))
  | _ => False
theorem tyV_is {pins : List (Addr × Obj)} {σ : St} {H : Hp} {s : Shared} {T : String} {x : V} {v : Value} (I : Inv X pins σ H s) (r : RelV x v) (ty : tyV X.K T x H) :
    s.TypeIs v T ∧ ∀ a, v = .ref a → ∃ ob, s.heap.get? a = some ob ∧ ob.dict = none := by
  cases x with
  | str z =>
    obtain ⟨t, rfl⟩ := r
    cases (show T = "str" from ty)
    exact ⟨typeIs_str s z t, fun _ e => nomatch e⟩
  | int i =>
    obtain ⟨t, rfl⟩ := r
    cases (show T = "int" from ty)
    exact ⟨typeIs_int s i t, fun _ e => nomatch e⟩
  | ref p =>
    cases r
    rcases ty with ⟨rfl, xs, hq⟩ | ⟨rfl, o, hk, hc, hd⟩ | ⟨rfl, hk⟩ | ⟨rfl, S, n, hk⟩
    · obtain ⟨its, _, pl, _⟩ := I.list hq
      refine ⟨pl.isList.typeIs, fun a e => ?_⟩
      cases e
      obtain ⟨o, n, e, c, hd, _⟩ := pl
      exact ⟨o, e, hd⟩
    · refine ⟨⟨o, I.kIn p o hk, hc⟩, fun a e => ?_⟩
      cases e
      exact ⟨o, I.kIn _ o hk, hd⟩
    · have z : ∃ o, s.heap.get? p = some o ∧ o.ExactDict := by
        rcases hk with ⟨kvs, hk⟩ | ⟨kvs, hk⟩
        · obtain ⟨_, _, _, _, o, _, _, e, ex, _⟩ := I.hok p _ hk
          exact ⟨o, e, ex⟩
        · obtain ⟨_, _, _, _, o, _, _, e, ex, _⟩ := I.hok p _ hk
          exact ⟨o, e, ex⟩
      obtain ⟨o, e, ex⟩ := z
      refine ⟨⟨o, e, ex.1⟩, fun a e2 => ?_⟩
      cases e2
      exact ⟨o, e, ex.2.1⟩
    · obtain ⟨o, _, _, _, e, ex, _⟩ := I.hok p _ hk
      refine ⟨⟨o, e, ex.1⟩, fun a e2 => ?_⟩
      cases e2
      exact ⟨o, e, ex.2.1⟩
  | _ => exact False.elim ty
noncomputable def tBM (K : PySem.W.Frag) (T : String) (r : V → List V → Hp → VK → Prop) (to : TE) (t : TA) : TE := fun σ H Q => to σ H fun x H1 => tyV K T x H1 ∧ t σ H1 fun xs H2 => r x xs H2 Q
variable {o e : Expr} {es : List Expr} {to : TE} {t : TA} {name : Str} {apos cpos : Pos} {T id : String} {r : V → List V → Hp → VK → Prop}
theorem pe_bm (pa : PlainAttrs T) (slot : Slot T name id) (hty : typeOf (.builtin id) = pure (.type "method_descriptor")) (hm : MtR X id r) (ho : PE X o to) (ha : PA X (e :: es) t)
    (hbase : attributeBase o name X.env (eval o X.env) = eval o X.env := by rfl)
    (hfew : ((backTo cpos (starEach (e :: es) X.env)).all (fun x => !x.1) && (backToKw cpos (keywordEach [] X.env)).all (fun x => x.1.isSome)
      && decide ((e :: es).length + ([] : List Keyword).length + (if ([] : List Keyword).isEmpty then 0 else 1) < 30)) = true := by rfl)
    (hline : (apos.endLine == cpos.line) = true := by rfl) (hs : starEach (e :: es) X.env = (false, eval e X.env) :: starEach es X.env := by rfl) (hplain : (backTo cpos (starEach es X.env)).any (·.1) = false := by rfl) :
    PE X (.Call (.Attribute o name apos) (e :: es) [] cpos) (tBM X.K T r to t) := by
  intro pins s σ H Q I h
  refine wpAny_Call_method_late hbase hfew hline rfl (thn (ho pins s σ H _ I h) fun v s1 ⟨x, H1, I1, r1, ty, q1⟩ => ?_)
  obtain ⟨h1, h2⟩ := tyV_is I1 r1 ty
  refine ⟨T, id, pa, slot, hty, h1, h2, ?_⟩
  have hA := ha cpos pins s1 σ H1 _ I1 q1
  rw [hs] at hA ⊢
  refine Calls.callWith_builtin (by show (false || (backTo cpos (starEach es X.env)).any (·.1)) = false; rw [hplain] <;> rfl) (Calls.evalArgs_plain ?_)
  exact thn hA fun us s2 ⟨vs, H2, I2, r2, q2⟩ => hm pins s2 σ H2 x vs v us Q I2 r1 r2 q2
end
end L2
namespace L2
open PySem PySem.Spec PyProof.Rows
noncomputable def MtM (X : Cx) (id : String) (r : V → List V → Hp → VK → Prop) : Prop :=
  ∀ (pins : List (Addr × Obj)) (s : Shared) (σ : St) (H : Hp) (x : V) (xs : List V) (v : Value) (us : List Value) (Q : VK), Inv X pins σ H s → RelV x v → Vals xs us → r x xs H Q →
    wpAny (model X.prog X.w) X.A (call (.builtin id) (v :: us)) (EP X pins σ Q) X.xe s
theorem Vals.one : ∀ {x : V} {us : List Value}, Vals [x] us → ∃ u, us = [u] ∧ RelV x u
  | _, _, .cons r .nil => ⟨_, rfl, r⟩
theorem Vals.reverse {xs : List V} {us : List Value} (h : Vals xs us) : Vals xs.reverse us.reverse := by
  induction h with
  | nil => exact .nil
  | cons r t ih => rw [List.reverse_cons, List.reverse_cons]; exact Vals.append ih (.cons r .nil)
theorem Vals.rep {xs : List V} {us : List Value} (h : Vals xs us) : ∀ k : Nat, Vals (List.replicate k xs).flatten (List.replicate k us).flatten
  | 0 => .nil
  | k + 1 => by
    rw [List.replicate_succ, List.replicate_succ, List.flatten_cons, List.flatten_cons]
    exact Vals.append h (Vals.rep h k)
theorem foldl_rep (its : List Value) : ∀ (k : Nat) (acc : List Value),
    List.foldl (fun x1 x2 => x1 ++ x2) acc.toArray (List.replicate k its.toArray) = (acc ++ (List.replicate k its).flatten).toArray
  | 0, acc => by simp
  | k + 1, acc => by
    have e : acc.toArray ++ its.toArray = (acc ++ its).toArray := by simp
    have e2 : (acc ++ its) ++ (List.replicate k its).flatten = acc ++ (List.replicate (k + 1) its).flatten := by
      rw [List.replicate_succ, List.flatten_cons, List.append_assoc]
    rw [← e2, ← foldl_rep its k (acc ++ its), ← e, List.replicate_succ, List.foldl_cons]
section
variable {X : Cx} {pins : List (Addr × Obj)} {σ : St} {H : Hp} {s : Shared} {l b : Addr} {xs ys zs : List V}
theorem Inv.lset {its its' : List Value} {n : Nat} {f : Array Value → Array Value} {t' : Nat} (I : Inv X pins σ H s) (hH : H l = some (.lst xs))
    (e : s.heap.get? l = some { cls := .type "list", data := .seq its.toArray n }) (hf : f its.toArray = its'.toArray) (hv : Vals ys its') (hz : ys.length ≤ sizeLine) :
    Inv X pins σ (upd H l (.lst ys)) { s with heap := s.heap.update l (Obj.mapSeq f), toks := t' } := by
  have q := PySem.IsL.update e f
  rw [hf] at q
  refine I.write (x := l) (e := l) (by rw [hH]; exact trivial) (.inl rfl) (fun b' u hb hu => (Heap.get?_update_other s.heap (Obj.mapSeq f) (Ne.symm hb)).trans hu) ⟨_, q⟩ ?_
  exact ⟨hz, its', _, hv, q⟩
theorem Inv.lnew {its : List Value} {t' : Nat} (I : Inv X pins σ H s) (hv : Vals ys its) (hz : ys.length ≤ sizeLine) :
    Inv X pins σ (upd H s.heap.objs.size (.lst ys)) { s with heap := s.heap.push { cls := .type "list", data := .seq its.toArray }, toks := t' } :=
  I.laid (fun _ _ q => Heap.get?_push_of_some _ q) (Nat.le_refl _) ⟨hz, its, 0, hv, Heap.get?_push_size _ rfl⟩
theorem Inv.fresh (I : Inv X pins σ H s) : H s.heap.objs.size = none := I.hok.fresh (Nat.le_refl _)
theorem Inv.lstM (I : Inv X pins σ H s) (hH : H l = some (.lst xs)) : xs.length ≤ sizeLine ∧ ∃ (its : List Value) (n : Nat), Vals xs its ∧ xs.length = its.length ∧ s.heap.get? l = some { cls := .type "list", data := .seq its.toArray n } := by
  obtain ⟨z, its, n, r, e⟩ := I.hok l _ hH
  exact ⟨z, its, n, r, r.length, e⟩
theorem notLongL {n : Nat} (h : n ≤ sizeLine) : Builtin.List.listTooLong n = false := by
  unfold Builtin.List.listTooLong
  exact decide_eq_false (by omega)
end
section
variable {X : Cx}
noncomputable def rAppend : V → List V → Hp → VK → Prop := fun x vs H Q => ∃ l xs y, x = .ref l ∧ vs = [y] ∧ H l = some (.lst xs) ∧ xs.length < sizeLine ∧ Q .non (upd H l (.lst (xs ++ [y])))
theorem mt_append : MtM X "list.append" rAppend := by
  intro pins s σ H x vs v us Q I rx rv h
  obtain ⟨l, xs, y, rfl, rfl, hH, hz, q⟩ := h
  cases rx
  obtain ⟨u, rfl, ru⟩ := rv.one
  obtain ⟨z, its, n, r, hl, e⟩ := I.lstM hH
  refine call_meets F.slot_list_append ⟨_, e, rfl⟩ F.entry_list_append (F.args_list_append_2 _ _) (PySem.list_append l its.toArray n u (by rw [List.size_toArray]; omega)) ⟨e, ?_⟩
  refine ⟨.non, _, I.lset (its' := its ++ [u]) hH e (by simp) (r.append (.cons ru .nil)) ?_, rfl, q⟩
  rw [List.length_append, List.length_singleton]
  omega
noncomputable def rExtend : V → List V → Hp → VK → Prop := fun x vs H Q => ∃ l b xs zs, x = .ref l ∧ vs = [.ref b] ∧ H l = some (.lst xs) ∧ H b = some (.lst zs) ∧ xs.length + zs.length ≤ sizeLine ∧ Q .non (upd H l (.lst (xs ++ zs)))
theorem mt_extend : MtM X "list.extend" rExtend := by
  intro pins s σ H x vs v us Q I rx rv h
  obtain ⟨l, b, xs, zs, rfl, rfl, hH, hB, hz, q⟩ := h
  cases rx
  obtain ⟨u, rfl, ru⟩ := rv.one
  cases ru
  obtain ⟨z, its, n, r, hl, e⟩ := I.lstM hH
  obtain ⟨z2, its2, n2, r2, hl2, e2⟩ := I.lstM hB
  have hsz : its.toArray.size + its2.toArray.size ≤ sizeLine := by rw [List.size_toArray, List.size_toArray]; omega
  have hlong : ¬ (!its.toArray.isEmpty && Builtin.List.listTooLong (its.toArray.size + its2.toArray.size)) = true := by
    rw [notLongL hsz, Bool.and_false]
    exact Bool.false_ne_true
  refine call_meets F.slot_list_extend ⟨_, e, rfl⟩ F.entry_list_extend (F.args_list_extend_2 _ _)
    (AutoSeq1.list_extend_list_list_0 l its.toArray n b its2.toArray n2 hlong (by rw [List.size_toArray]; omega) (by omega)) ⟨e, e2, ?_⟩
  refine ⟨.non, _, I.lset (its' := its ++ its2) hH e (by simp) (r.append r2) ?_, rfl, q⟩
  rw [List.length_append]
  omega
noncomputable def rCat : R2 := fun x y H Q => ∃ l b xs zs, x = .ref l ∧ y = .ref b ∧ H l = some (.lst xs) ∧ H b = some (.lst zs) ∧ xs.length + zs.length ≤ sizeLine ∧ ∀ p, H p = none → Q (.ref p) (upd H p (.lst (xs ++ zs)))
theorem op_cat : OpR X (binaryOp .Add) rCat := by
  intro pins s σ H x y v u Q I rx ry h
  obtain ⟨l, b, xs, zs, rfl, rfl, hH, hB, hz, q⟩ := h
  cases rx
  cases ry
  obtain ⟨z, its, n, r, hl, e⟩ := I.lstM hH
  obtain ⟨z2, its2, n2, r2, hl2, e2⟩ := I.lstM hB
  refine PySem.P.add_list e e2 ?_ (by rw [List.size_toArray, List.size_toArray]; omega)
  have ea : its.toArray ++ its2.toArray = (its ++ its2).toArray := by simp
  rw [ea]
  exact ⟨.ref _, _, I.lnew (t' := s.toks) (r.append r2) (by rw [List.length_append]; omega), rfl, q _ I.fresh⟩
noncomputable def rRep : R2 := fun x y H Q => ∃ l k xs, x = .ref l ∧ y = .int k ∧ H l = some (.lst xs) ∧ -(2 ^ 63) ≤ k ∧ k < 2 ^ 63 ∧ xs.length * k.toNat ≤ sizeLine ∧
  ∀ p, H p = none → Q (.ref p) (upd H p (.lst (List.replicate k.toNat xs).flatten))
theorem len_rep {α : Type} (xs : List α) (k : Nat) : (List.replicate k xs).flatten.length = k * xs.length := by
  induction k with
  | zero => simp
  | succ k ih => rw [List.replicate_succ, List.flatten_cons, List.length_append, ih, Nat.succ_mul, Nat.add_comm]
theorem op_rep : OpR X (binaryOp .Mult) rRep := by
  intro pins s σ H x y v u Q I rx ry h
  obtain ⟨l, k, xs, rfl, rfl, hH, h1, h2, hz, q⟩ := h
  cases rx
  obtain ⟨t, rfl⟩ := ry
  obtain ⟨z, its, n, r, hl, e⟩ := I.lstM hH
  have hlen : its.toArray.size * k.toNat ≤ sizeLine := by rw [List.size_toArray, ← hl]; exact hz
  have hcap : ¬ its.toArray.size * k.toNat > (2 ^ 63 - 1) / 8 := by
    have : (sizeLine : Nat) ≤ (2 ^ 63 - 1) / 8 := by decide
    omega
  have hfit : ¬ (!Builtin.List.listFitsIndex k) = true := by
    rw [fitsIndex_both h1 h2]
    exact Bool.false_ne_true
  have hlong : ¬ Builtin.List.listTooLong (its.toArray.size * k.toNat) = true := by
    rw [notLongL hlen]
    exact Bool.false_ne_true
  have hnew : List.foldl (fun x1 x2 => x1 ++ x2) #[] (List.replicate (if its.toArray.isEmpty = true then 0 else k.toNat) its.toArray) = (List.replicate k.toNat its).flatten.toArray := by
    have f0 : ∀ m : Nat, List.foldl (fun x1 x2 => x1 ++ x2) #[] (List.replicate m its.toArray) = (List.replicate m its).flatten.toArray := fun m => by
      have := foldl_rep its m []
      rw [List.nil_append] at this
      exact this
    rw [f0]
    cases its with
    | nil => simp
    | cons a r' => rw [if_neg (by simp)]
  refine wpAny_binaryOp_repeat_ref (T := "list") (U := "int") (by decide) ⟨_, e, rfl⟩ (fun s' => typeIs_int s' k t) noFill_list_mul F.fills_int_mul F.slot_int_rmul repeat_list F.slot_int_index.lookup
    (call_meets F.slot_int_rmul (typeIs_int s k t) F.entry_int_rmul (F.args_int_rmul_2 _ _) (int___rmul___int_list k t l its.toArray n)
      ⟨e, rfl, ⟨_, e, rfl⟩, call_meets F.slot_list_mul ⟨_, e, rfl⟩ F.entry_list_mul (F.args_list_mul_2 _ _) (AutoListH.list___mul___list_int_3 l its.toArray n k t hfit hcap hlong) ⟨e, ?_⟩⟩)
  rw [hnew]
  exact ⟨.ref _, _, I.lnew (t' := s.toks) (r.rep k.toNat) (by rw [len_rep, Nat.mul_comm]; exact hz), rfl, q _ I.fresh⟩
end
section
variable {prog : Program} {w : World} {A : Around} {E : Value → Shared → Prop} {s : Shared}
theorem splice_eq (its its2 : List Value) (a c : Nat) : its.toArray.extract 0 a ++ its2.toArray ++ its.toArray.extract c its.toArray.size = (its.take a ++ its2 ++ its.drop c).toArray := by
  apply Array.toList_inj.mp
  first
    | (simp
       exact List.take_of_length_le (by simp))
    | simp [List.take_of_length_le]
    | simp
theorem bounds_run {a c n : Nat} (hac : a ≤ c) (hc : c ≤ n) : sliceBounds (some (a : Int)) (some (c : Int)) none n = ((a : Int), (c : Int), 1) := by
  simp only [sliceBounds, Option.getD_none]
  have h1 : ¬ ((a : Int) < 0) := by omega
  have h2 : ¬ ((c : Int) < 0) := by omega
  simp only [h1, h2, if_false, show (1 : Int) > 0 by decide, if_true]
  congr 1
  · omega
  · congr 1; omega
set_option maxRecDepth 100000 in
theorem setItem_slice {l b sl : Addr} {items new : Array Value} {n n2 : Nat} {vl vu : Value} {a c : Nat} {Q : Unit → Shared → Prop}
    (e : s.heap.get? l = some { cls := .type "list", data := .seq items n }) (e2 : s.heap.get? b = some { cls := .type "list", data := .seq new n2 }) (hne : l ≠ b)
    (hs : s.heap.IsSliceOf sl vl vu .none) (pl : IsPart vl (some (a : Int))) (pu : IsPart vu (some (c : Int))) (hac : a ≤ c) (hc : c ≤ items.size)
    (hsz : items.size + new.size ≤ sizeLine) (h : Q () { s with heap := s.heap.update l (Obj.mapSeq fun xs => xs.extract 0 a ++ new ++ xs.extract c xs.size) }) :
    wpAny (model prog w) A (setItem (.ref l) (.ref sl) (.ref b)) Q E s := by
  have hl : s.heap.IsList l items := PySem.IsL.isList e
  have hb : s.heap.IsList b new := PySem.IsL.isList e2
  obtain ⟨os, hos, hcs, hds⟩ := id hs
  have hTs : s.TypeIs (.ref sl) "slice" := ⟨os, hos, hcs⟩
  have hstep : ¬ ((rawPart none == rawInt 0) = true) := Bool.false_ne_true
  have hsame : Builtin.List.listSameRef (.ref l) (.ref b) = false := by
    unfold Builtin.List.listSameRef
    exact beq_eq_false_iff_ne.mpr hne
  have hmax : (max (a : Int) (c : Int)).toNat = c := by omega
  have hz' : ((fun xs : Array Value => xs.extract 0 a ++ new ++ xs.extract c xs.size) items).size ≤ sizeLine + 1 := by
    simp only [Array.size_append, Array.size_extract]
    omega
  unfold setItem
  try with_reducible refine wpAny_holding ?_
  first | refine wpAny_bind (wpAny_pure ?_) | skip
  refine wpAny_bind (wpAny_sequenceKey hl.typeIs (by decide) ?_)
  refine wpAny_bind (wpAny_callSpecial?_slot (name := Str.ofString "__setitem__") hl.typeIs slot_list_setitem
    (wpAny_call_entry slot_list_setitem hl.typeIs entry_list_setitem ?_ (args_list_setitem _ _ _)))
  show wpAny _ _ (Builtin.List.listSubscript? (.ref sl) >>= _) _ _ s
  refine wpAny_bind ?_
  unfold Builtin.List.listSubscript?
  refine wpAny_bind (wpAny_specialOf hTs slice_no_index ?_)
  simp only [Option.isNone_none, if_true]
  refine wpAny_pure ?_
  show wpAny _ _ (typeOf (.ref sl) >>= _) _ _ s
  refine wpAny_bind (wpAny_typeOf hTs ?_)
  first
    | rw [if_neg (by decide)]
    | refine PySem.W.KFB.if_not (by decide) ?_
  rw [listSliceParts_eq]
  refine wpAny_bind (wpAny_bind (wpAny_field hos hds (x := .none) rfl (wpAny_bind (wpAny_listPart .none ?_))))
  rw [if_neg hstep]
  refine wpAny_bind (wpAny_field hos hds (x := vl) rfl (wpAny_bind (wpAny_listPart pl ?_)))
  refine wpAny_bind (wpAny_field hos hds (x := vu) rfl (wpAny_bind (wpAny_listPart pu (wpAny_pure ?_))))
  first
    | simp only [hsame, Bool.false_eq_true, if_false]
    | refine PySem.W.KFB.if_not hsame ?_
    | (dsimp only
       rw [if_neg (by rw [hsame]; exact Bool.false_ne_true)])
  refine wpAny_bind (m := Builtin.List.listAllItems (.ref b) "must assign iterable to extended slice") ?_
  unfold Builtin.List.listAllItems
  refine wpAny_bind (wpAny_typeOf hb.typeIs ?_)
  first
    | refine PySem.W.KFB.if_so (by decide) ?_
    | rw [if_pos (by decide)]
    | simp only [beq_self_eq_true, Bool.true_or, if_true]
  unfold Builtin.List.listItems
  refine wpAny_bind (wpAny_seqItems e2 rfl (wpAny_pure ?_))
  refine wpAny_bind (wpAny_bind (wpAny_seqItems e rfl (wpAny_pure ?_)))
  refine wpAny_bind (wpAny_of_eq ((sliceIndices_raw (some (a : Int)) (some (c : Int)) none items.size (by simp)).trans (congrArg (pure : Int × Int × Int → Sem (Int × Int × Int)) (bounds_run hac hc))) ?_)
  show wpAny _ _ (if ((1 : Int) == 1) = true then _ else _) _ _ s
  rw [if_pos (by decide)]
  refine wpAny_bind (wpAny_rule ?_)
  first
    | simp only [notLongL hsz, Bool.false_eq_true, if_false]
    | refine PySem.W.KFB.if_not (notLongL hsz) ?_
  first | refine wpAny_bind (wpAny_pure ?_) | skip
  show wpAny _ _ (updateSeq l (fun xs => xs.extract 0 ((a : Int)).toNat ++ new ++ xs.extract (max (a : Int) (c : Int)).toNat xs.size) >>= _) _ _ s
  rw [hmax, Int.toNat_natCast]
  refine wpAny_bind (wpAny_updateSeq (hz := Nat.le_trans (Nat.le_add_right _ _) hsz) (_hz' := hz') e rfl ?_)
  refine wpAny_bind (wpAny_letGo ?_)
  first
    | exact wpAny_bind (wpAny_pure (wpAny_pure ⟨.none, rfl, wpAny_pure h⟩))
    | exact wpAny_pure ⟨.none, rfl, wpAny_pure h⟩
end
section
variable {X : Cx}
theorem set_slice {pins : List (Addr × Obj)} {s : Shared} {σ : St} {H : Hp} {l b sl : Addr} {xs ys : List V} {a c : Int} {vl vu : Value} {Q : Unit → Shared → Prop} (I : Inv X pins σ H s)
    (hH : H l = some (.lst xs)) (hB : H b = some (.lst ys)) (hne : l ≠ b) (hs : s.heap.IsSliceOf sl vl vu .none) (ra : RelV (.int a) vl) (rc : RelV (.int c) vu) (h0 : 0 ≤ a) (hac : a ≤ c) (hc : c ≤ xs.length)
    (hz : xs.length + ys.length ≤ sizeLine) (h : ∀ s', Inv X pins σ (upd H l (.lst (xs.take a.toNat ++ ys ++ xs.drop c.toNat))) s' → Q () s') :
    wpAny (model X.prog X.w) X.A (setItem (.ref l) (.ref sl) (.ref b)) Q X.xe s := by
  obtain ⟨ta, rfl⟩ := ra
  obtain ⟨tc, rfl⟩ := rc
  obtain ⟨z, its, n, r, hl, e⟩ := I.lstM hH
  obtain ⟨z2, its2, n2, r2, hl2, e2⟩ := I.lstM hB
  obtain ⟨a', rfl⟩ := Int.eq_ofNat_of_zero_le h0
  obtain ⟨c', rfl⟩ := Int.eq_ofNat_of_zero_le (Int.le_trans h0 hac)
  simp only [Int.toNat_natCast] at h
  refine setItem_slice (a := a') (c := c') e e2 hne hs (.int _ _) (.int _ _) (by omega) (by rw [List.size_toArray]; omega) (by rw [List.size_toArray, List.size_toArray]; omega) (h _ ?_)
  refine I.lset (its' := its.take a' ++ its2 ++ its.drop c') (t' := s.toks) hH e ?_ (Vals.append (Vals.append (r.take _) r2) (r.drop _)) ?_
  · exact splice_eq its its2 a' c'
  · rw [List.length_append, List.length_append, List.length_take, List.length_drop]
    omega
end
end L2
namespace Att
open PySem PySem.W PySem.Calls PyProof.Rows
theorem ints_of_wellAll {P : Params} {h : Heap} : ∀ (ns : List Int) (vs : List Value), WellAll P h vs (ns.map WData.int) → IntsAre vs ns := by
  intro ns
  induction ns with
  | nil =>
    intro vs w
    rw [List.map_nil] at w
    cases w
    exact .nil
  | cons n ns ih =>
    intro vs w
    rw [List.map_cons] at w
    cases w with
    | cons a b =>
      cases a
      exact .cons _ _ (ih _ b)
theorem script_of {l : OpenLaw} {n : Nat} (hn : l.most = some n) {P : Params} {h : Heap} {args : List WData} {vals : List Value}
    (hpre : l.row.toRowW.claim.pre args = true) (hwl : WellAll P h vals args) :
    ∃ a vs ns, vals = [Value.ref a] ∧ args = [WData.list (ns.map WData.int)] ∧ h.get? a = some { cls := .type "list", data := .seq vs.toArray } ∧ IntsAre vs ns ∧ ns.length ≤ n := by
  have hsh : WShape.hasAll [] args [.list .int] = true := (pre_splitW hpre).1
  have hc : l.pre.holds [] { args := args } = true := (pre_splitW hpre).2
  obtain ⟨d, r, rfl, h1, h2⟩ := hasAllW_cons hsh
  obtain rfl := hasAllW_nil h2
  obtain ⟨xs, rfl, h3⟩ := hasW_list h1
  obtain ⟨ns, rfl⟩ := items_int h3
  have hlen : ns.length ≤ n := by
    unfold OpenLaw.pre at hc
    have h4 : (WTm.not (.lt (.lit (.int (n : Int))) (.len (.arg 0)))).holds [] { args := [.list (ns.map .int)] } = true := by
      have h4 := (holds_andW hc).1
      rw [hn] at h4
      exact h4
    have h5 := condW_of h4 (w_not (w_lt w_lit (w_len_list (w_arg rfl))))
    rw [List.length_map] at h5
    refine Nat.le_of_not_lt fun q => ?_
    have q' : (n : Int) < ((ns.length : Nat) : Int) := by omega
    first
      | (rw [decide_eq_true q'] at h5; exact absurd h5 (by decide))
      | (simp at h5; omega)
  cases hwl with
  | cons w1 w2 =>
    cases w2
    cases w1 with
    | list ho hall => exact ⟨_, _, ns, rfl, rfl, ho, ints_of_wellAll ns _ hall, hlen⟩
theorem post_true (l : OpenLaw) (args : List WData) : l.row.toRowW.claim.post args (.bool true) args = true :=
  postW_of (r := l.row.toRowW) (X := (true == true))
    (show WShape.has [] (.bool true) .bool = true by first | rfl | decide | simp [WShape.has, WShape.arms, WShape.armsAll])
    (show (WTm.eq .res (.lit (.bool true))).value [] { args := args, res := some (.bool true), after := args } = some (.bool (true == true)) from w_eq_bool (w_res rfl) w_lit) rfl
theorem attach_call {l : OpenLaw} {n : Nat} {q : Program} {loose : List Str} {XP : (Str → Option Value) → Heap → Prop} {YP : World → Heap → Prop} {d : DefRec}
    (hn : l.most = some n) (hdf : d.params.defaults = [])
    (call : ∀ (w : World) (s₀ s₁ : Shared) (mg mb : Str → Option Value) (fa : Addr) (o : Obj) (pm cd doc : Value) (a : Addr) (vs : List Value) (ns : List Int),
      Ground q loose [] XP w s₀ mg mb s₁.heap → YP w s₁.heap →
      s₁.heap.get? fa = some o → o.data = .func (docDef d.name d.params d.body d.scope pm cd doc) → s₁.heap.CodeRec cd d.name → mg d.name = some (.ref fa) →
      s₁.heap.get? a = some { cls := .type "list", data := .seq vs.toArray } → IntsAre vs ns → ns.length ≤ n → s₁.gens = #[] →
      codeAny (model l.prog w) callerA (.call (.ref fa) ⟨[.ref a], []⟩) (fun r s' => r = .ok (.ret (.bool true)) ∧ OldK s₁.heap s'.heap ∧ s'.os = s₁.os ∧ AllBare s'.gens) s₁) :
    WalkO q loose XP YP l.row.toRowW d [] (fun f vs => PySem.call f vs) := by
  intro w s₀ s₁ mg mb G Y fa o pm cd doc dV kV ho hd hcd hD hmg hg args vals as hpre hlay hrd hwl hlo
  obtain rfl : dV = .none := Dflts.none hD hdf
  obtain rfl : kV = .none := Dflts.noKw hD
  obtain ⟨a, vs, ns, rfl, rfl, hobj, hints, hlen⟩ := script_of hn hpre hwl
  refine enter_call (codeAny_mono (call w s₀ s₁ mg mb fa o pm cd doc a vs ns G Y ho (fd_plain hd) hcd hmg hobj hints hlen hg) fun r s' hq => ?_)
  obtain ⟨rfl, h2, h3, h4⟩ := hq
  exact ⟨.inl ⟨.bool true, .bool true, [], rfl, fun _ => rfl, .bool true, post_true l _, fun _ => ⟨List.Pairwise.nil, fun _ hm => (nomatch hm)⟩⟩, h2, h3, h4⟩
section
variable {prog : Program} {w : World} {A : Around} {E : Value → Shared → Prop} {s : Shared} {K : Frag}
end
end Att
namespace L2
open PySem PySem.Spec PyProof.Rows
theorem vals_ints : ∀ {vs : List Value} {ns : List Int}, IntsAre vs ns → Vals (ns.map V.int) vs
  | _, _, .nil => .nil
  | _, _, .cons n t h => .cons ⟨t, rfl⟩ (vals_ints h)
noncomputable def Only (H : Hp) : Prop := ∀ b, H b = none ∨ ∃ o xs, H b = some (.frz o (.lst xs))
theorem law_call {P : Program} {w : World} {K : PySem.W.Frag} {mg mb : Str → Option Value} {CX : CXT} {k : Nat} {fa a : Addr} {fd : FuncData} {x : Str} {sp : Sp} {s₁ : Shared} {vs : List Value} {ns : List Int}
    (KX : K.In s₁.heap) (hns : s₁.heap.Ns mainGlobals mg) (hb : s₁.heap.Ns builtinsNs mb) (hbb : ∀ x : Str, x ≠ "__name__" → mb x = bootBuiltins x) (hlim : s₁.heap.NoLimit) (hg : s₁.gens = #[])
    (ha : s₁.heap.get? a = some { cls := .type "list", data := .seq vs.toArray }) (hi : IntsAre vs ns) (hl : ns.length ≤ sizeLine) (hr : Room k callerA)
    (F : ∀ base : Heap, K.In base → base.Ns mainGlobals mg → FnOk P w K mg base CX k fa fd [x] sp) (hbind : ∀ (s : Shared) (u : Value), BindsTo s fd ⟨[u], []⟩ [(x, u)])
    (hsp : ∀ H : Hp, Only H → SqL K H a (ns.map V.int) → sp [.ref a] H (fun v _ => v = .bl true) fun _ _ _ => False)
    (hCX : ∀ H e s', CX [] H s₁ (fun _ _ _ => False) e s' → False) :
    codeAny (model P w) callerA (.call (.ref fa) ⟨[.ref a], []⟩) (fun r s' => r = .ok (.ret (.bool true)) ∧ OldK s₁.heap s'.heap ∧ s'.os = s₁.os ∧ AllBare s'.gens) s₁ := by
  have rv := vals_ints hi
  have lenV := hi.length
  have core : ∀ H : Hp, Only H → SqL K H a (ns.map V.int) → HOk P w H s₁.heap → (∀ b, H b ≠ none → b = a) → (H a ≠ none → K.lookup a = none) →
      codeAny (model P w) callerA (.call (.ref fa) ⟨[.ref a], []⟩) (fun r s' => r = .ok (.ret (.bool true)) ∧ OldK s₁.heap s'.heap ∧ s'.os = s₁.os ∧ AllBare s'.gens) s₁ := by
    intro H hO hS hok hA hK
    have base_of : ∀ {b : Addr} {o : Obj}, s₁.heap.get? b = some o → H b = none → (hidT s₁.heap H).get? b = some o := fun e n => hidT_get e n
    have noA : ∀ {b : Addr} {o : Obj} {es : Array DictEntry} {ep : Nat}, s₁.heap.get? b = some o → o.data = .dict es ep → H b = none := fun {b o es ep} e d => by
      cases q : H b with
      | none => rfl
      | some u =>
        have e' : b = a := hA b (by rw [q]; simp)
        subst e'
        rw [ha] at e; cases e
        have d' : Data.seq vs.toArray _ = Data.dict es ep := d
        cases d'
    have nsK : ∀ {b : Addr} {m : Str → Option Value}, s₁.heap.Ns b m → (hidT s₁.heap H).Ns b m := fun {b m} ⟨o, es, ep, e, d, r⟩ => ⟨o, es, ep, base_of e (noA e d), d, r⟩
    have hKb : K.In (hidT s₁.heap H) := fun b o e => base_of (KX b o e) (by
      cases q : H b with
      | none => rfl
      | some u =>
        have e' : b = a := hA b (by rw [q]; simp)
        subst e'
        rw [hK (by rw [q]; simp)] at e; cases e)
    have hM : Mod K mg (hidT s₁.heap H) := ⟨hKb, nsK hns, ⟨mb, nsK hb, hbb⟩, let ⟨mc, h1, h2⟩ := hlim; ⟨mc, nsK h1, h2⟩⟩
    have e0 : Env0 P w K mg (hidT s₁.heap H) callerA [] s₁ H := ⟨rfl, hM, fun b o e => of_hidT e, Nat.le_of_eq (hidT_size _ _), trivial, fun b hb => absurd (show b ∈ ([] : List Addr) from hb) (by simp), hok, .of_eq hg⟩
    refine codeAny_mono ((F _ hKb (nsK hns)).run callerA [] s₁ H ⟨[.ref a], []⟩ [.ref a] [.ref a] _ _ hr e0 (hbind s₁ (.ref a)) (.cons rfl .nil) (hsp H hO hS)) fun r s' h => ?_
    cases r with
    | error e => exact (hCX H e s' h).elim
    | ok fl =>
      cases fl with
      | next => exact False.elim h
      | brk => exact False.elim h
      | cont => exact False.elim h
      | ret u =>
        obtain ⟨v, H', os, bare, un, hok', r', q⟩ := h
        have q' : v = .bl true := q
        subst q'
        obtain rfl : u = Value.bool true := r'
        refine ⟨rfl, OldK.of_keep fun b o e => ?_, os, bare⟩
        cases q : H b with
        | none => exact un.keep b o e q (by intro z; exact absurd (show b ∈ ([] : List Addr) from z) (by simp)) (by simp)
        | some u =>
          rcases hO b with z | ⟨ob, xs, z⟩
          · rw [q] at z; cases z
          · have z2 := un.frzs b ob _ z
            obtain ⟨e1, _⟩ := hok b _ z
            obtain ⟨e2, _⟩ := hok' b _ z2
            rw [e] at e1; cases e1
            exact e2
  cases hk : K.lookup a with
  | some o =>
    have e := KX a o hk
    rw [ha] at e
    cases e
    refine core (fun _ => none) (fun _ => .inl rfl) (.inr ⟨_, vs.toArray, _, hk, rfl, rfl, rfl, by rw [List.size_toArray, lenV]; exact hl, by simpa using rv⟩) (fun b u z => by have z' : (none : Option HO) = some u := z; cases z') (fun b z => absurd rfl z) fun z => absurd rfl z
  | none =>
    refine core (fun b => if b = a then some (.frz { cls := .type "list", data := .seq vs.toArray } (.lst (ns.map V.int))) else none) (fun b => ?_) (.inl (.inr ⟨{ cls := .type "list", data := .seq vs.toArray }, if_pos rfl⟩)) (fun b u z => ?_) (fun b z => ?_) fun _ => hk
    · by_cases hb : b = a
      · exact .inr ⟨_, _, if_pos hb⟩
      · exact .inl (if_neg hb)
    · by_cases hb : b = a
      · have z' := (if_pos hb).symm.trans z
        cases z'
        subst hb
        exact ⟨ha, by rw [List.length_map]; exact hl, vs, _, rv, ha⟩
      · have z' := (if_neg hb).symm.trans z
        cases z'
    · by_cases hb : b = a
      · exact hb
      · exact absurd (if_neg hb) z
end L2
namespace L2
open PySem PySem.Spec PyProof.Rows
theorem walk_of {l : PySem.W.OpenLaw} {n k : Nat} {q : Program} {loose : List Str} {XP : (Str → Option Value) → Heap → Prop} {YP : World → Heap → Prop} {d : DefRec} {K : Params → PySem.W.Frag} {CX : World → CXT} {sp : World → Sp} {x : Str}
    (hn : l.most = some n) (hn2 : n ≤ sizeLine) (hdf : d.params.defaults = []) (hr : Room k callerA)
    (hY : ∀ (w : World) (h : Heap), YP w h → (K w.params).In h)
    (F : ∀ (w : World) (mg : Str → Option Value) (fa : Addr) (h : Heap), (K w.params).In h → h.Ns mainGlobals mg → mg d.name = some (.ref fa) →
      ∃ fd : FuncData, (∀ (s : Shared) (u : Value), BindsTo s fd ⟨[u], []⟩ [(x, u)]) ∧
        ∀ base : Heap, (K w.params).In base → base.Ns mainGlobals mg → FnOk l.prog w (K w.params) mg base (CX w) k fa fd [x] (sp w))
    (hsp : ∀ (w : World) (H : Hp) (a : Addr) (ns : List Int), ns.length ≤ n → Only H → SqL (K w.params) H a (ns.map V.int) → sp w [.ref a] H (fun v _ => v = .bl true) fun _ _ _ => False)
    (hCX : ∀ (w : World) (H : Hp) (s : Shared) (e : Value) (s' : Shared), CX w [] H s (fun _ _ _ => False) e s' → False) :
    PySem.W.WalkO q loose XP YP l.row.toRowW d [] (fun f vs => PySem.call f vs) := by
  refine Att.attach_call hn hdf fun w s₀ s₁ mg mb fa o pm cd doc a vs ns G Y ho hd hcd hmg hobj hints hlen hg => ?_
  have KX := hY w _ Y
  obtain ⟨fd, hb, hF⟩ := F w mg fa _ KX G.T.g hmg
  exact law_call KX G.T.g G.T.b G.T.builtins G.T.nolimit hg hobj hints (Nat.le_trans hlen hn2) hr hF hb (fun H hO hS => hsp w H a ns hlen hO hS) fun H e s' => hCX w H s₁ e s'
theorem walk_ofK {l : PySem.W.OpenLaw} {n k : Nat} {q : Program} {loose : List Str} {XP : (Str → Option Value) → Heap → Prop} {YP : World → Heap → Prop} {d : DefRec} {K : Params → PySem.W.Frag} {CX : CXT} {sp : PySem.W.Frag → Sp} {x : Str}
    (hn : l.most = some n) (hn2 : n ≤ sizeLine) (hdf : d.params.defaults = []) (hr : Room k callerA)
    (hY : ∀ (w : World) (h : Heap), YP w h → (K w.params).In h)
    (F : ∀ (w : World) (mg : Str → Option Value) (fa : Addr) (h : Heap), (K w.params).In h → h.Ns mainGlobals mg → mg d.name = some (.ref fa) →
      ∃ fd : FuncData, (∀ (s : Shared) (u : Value), BindsTo s fd ⟨[u], []⟩ [(x, u)]) ∧
        ∀ base : Heap, (K w.params).In base → base.Ns mainGlobals mg → FnOk l.prog w (K w.params) mg base CX k fa fd [x] (sp (K w.params)))
    (hsp : ∀ (K : PySem.W.Frag) (H : Hp) (a : Addr) (ns : List Int), ns.length ≤ n → Only H → SqL K H a (ns.map V.int) → sp K [.ref a] H (fun v _ => v = .bl true) fun _ _ _ => False)
    (hCX : ∀ (H : Hp) (s : Shared) (e : Value) (s' : Shared), CX [] H s (fun _ _ _ => False) e s' → False) :
    PySem.W.WalkO q loose XP YP l.row.toRowW d [] (fun f vs => PySem.call f vs) :=
  walk_of (K := K) (CX := fun _ => CX) (sp := fun w => sp (K w.params)) hn hn2 hdf hr hY F (fun w H a ns h1 h2 h3 => hsp (K w.params) H a ns h1 h2 h3) fun _ H s e s' => hCX H s e s'
end L2
namespace L2
open PySem PySem.Spec PyProof.Rows
noncomputable def defArgs (s : Stmt) : Arguments := match s with
  | .FunctionDef _ a _ _ _ _ _ _ _ _ => a
  | _ => { posonlyargs := [], args := [], vararg := none, kwonlyargs := [], kw_defaults := [], kwarg := none, defaults := [] }
noncomputable def defBody (s : Stmt) : List Stmt := match s with
  | .FunctionDef _ _ b _ _ _ _ _ _ _ => b
  | _ => []
noncomputable def defScope (s : Stmt) : Scope := match s with
  | .FunctionDef _ _ _ _ _ _ sc _ _ _ => sc
  | _ => { kind := .function, names := [], isGenerator := false, isCoroutine := false }
abbrev CX0 : CXT := fun _ _ _ _ _ _ => False
abbrev E0 : XK := fun _ _ _ => False
theorem pass0 {X : Cx} : Passes CX0 X E0 := fun _ _ _ _ _ _ _ h => h.elim
structure Fun (K : PySem.W.Frag) (x qual : Str) (st : Stmt) (f : Addr) (fd : FuncData) : Prop where
  ex : ∃ (oc : Value) (od : Option Addr) (kV doc pm : Value) (an : Option Addr) (cdv ct : Value) (osl : Array (Option Value)),
    fd = PySem.W.fnOf x qual (defArgs st) (defBody st) (defScope st) .none kV doc pm an cdv ct ∧ K.lookup f = some ⟨oc, od, .func fd, osl⟩ ∧ PySem.W.codeIn K cdv qual = true
  kp : PySem.W.keepIn K (.ref f) = true
section
variable {P : Program} {w : World} {K : PySem.W.Frag} {mg : Str → Option Value} {base : Heap}
theorem Fun.ok {x qual : Str} {st : Stmt} {f : Addr} {fd : FuncData} {N ps : List Str} {k : Nat} {sp : Sp} (F : Fun K x qual st f fd) (S : FnScope N ps (defScope st)) (len : ∀ vs H Q E, sp vs H Q E → vs.length = ps.length)
    (hbody : ∀ (cdv : Value) (A : Around) (outer : List Env) (s : Shared) (H : Hp) (vs : List V) (Q : VK) (E : XK), Room k (A.deeper (envOfC qual (defScope st) s.heap.objs.size f cdv)) → sp vs H Q E →
      ∃ t, PSs (cxOf CX0 P w K mg base N qual (defScope st) f cdv A outer s H E).nox (defBody st) t ∧ t { nx := fun _ H' => Q .non H', rt := Q } (start N vs) H) : FnOk P w K mg base CX0 (k + 1) f fd ps sp := by
  obtain ⟨oc, od, kV, doc, pm, an, cdv, ct, osl, rfl, lk, hcd⟩ := F.ex
  refine fn_of lk hcd S len fun A outer s H vs Q E hr hsp => ?_
  obtain ⟨t, h, q⟩ := hbody cdv A outer s H vs Q E hr hsp
  exact ⟨t, h.nox, q⟩
theorem Fun.binds {x qual : Str} {st : Stmt} {f : Addr} {fd : FuncData} {ps : List Str} (F : Fun K x qual st f fd)
    (h : ∀ (kV doc pm : Value) (an : Option Addr) (cdv ct : Value) (us : List Value), us.length = ps.length → bindArgs (PySem.W.fnOf x qual (defArgs st) (defBody st) (defScope st) .none kV doc pm an cdv ct) ⟨us, []⟩ = pure (ps.zip us)) : Binds K fd ps [] := by
  obtain ⟨oc, od, kV, doc, pm, an, cdv, ct, osl, rfl, lk, hcd⟩ := F.ex
  exact .all (h kV doc pm an cdv ct)
theorem fun_mk {x qual : Str} {st : Stmt} {f : Addr} {oc : Value} {od an : Option Addr} {osl : Array (Option Value)} {kV doc pm cdv ct : Value} (l : K.lookup f = some ⟨oc, od, .func (PySem.W.fnOf x qual (defArgs st) (defBody st) (defScope st) .none kV doc pm an cdv ct), osl⟩)
    (c : PySem.W.codeIn K cdv qual = true) (k : PySem.W.keepIn K (.ref f) = true) : Fun K x qual st f (PySem.W.fnOf x qual (defArgs st) (defBody st) (defScope st) .none kV doc pm an cdv ct) := ⟨⟨oc, od, kV, doc, pm, an, cdv, ct, osl, rfl, l, c⟩, k⟩
end
section
variable {X : Cx}
theorem pv (i : Nat) {x : Str} {pos : Pos} (hN : X.N[i]? = some x := by rfl) (hv : Vis X.env.scope x := by first | exact Or.inl rfl | exact Or.inr (Or.inl rfl) | exact Or.inr (Or.inr rfl)) (hd : (x == ("__debug__" : Str)) = false := by decide)
    (hcd : (x == ("__classdict__" : Str)) = false := by decide) : PE X (.Name x pos) (tVar i) := pe_var hN hv hd hcd
end
end L2
namespace Ev
inductive D where
  | non | bl (b : Bool) | int (i : Int) | str (s : List Nat) | tup (ds : List D) | ref (n : Nat)
inductive O where
  | lst (ds : List D) | frz (ds : List D)
abbrev Hh := List O
abbrev Fr := List (Option D)
inductive R (α : Type) where
  | ok (a : α) (h : Hh)
  | bad
noncomputable def R.bind {α β : Type} (r : R α) (f : α → Hh → R β) : R β :=
  match r with
  | .ok a h => f a h
  | .bad => .bad
@[simp] theorem bind_ok {α β : Type} (a : α) (h : Hh) (f : α → Hh → R β) : (R.ok a h).bind f = f a h := rfl
@[simp] theorem bind_bad {α β : Type} (f : α → Hh → R β) : (R.bad : R α).bind f = .bad := rfl
theorem bind_eq_ok {α β : Type} {r : R α} {f : α → Hh → R β} {b : β} {h : Hh} (e : r.bind f = .ok b h) : ∃ a h1, r = .ok a h1 ∧ f a h1 = .ok b h := by
  cases r with
  | ok a h1 => exact ⟨a, h1, rfl, e⟩
  | bad => cases e
noncomputable def R.of {α : Type} (o : Option α) (h : Hh) : R α := match o with
  | some a => .ok a h
  | none => .bad
@[simp] theorem of_some {α : Type} (a : α) (h : Hh) : R.of (some a) h = .ok a h := rfl
@[simp] theorem of_none {α : Type} (h : Hh) : R.of (none : Option α) h = .bad := rfl
theorem of_eq_ok {α : Type} {o : Option α} {h h' : Hh} {a : α} (e : R.of o h = .ok a h') : o = some a ∧ h' = h := by
  cases o with
  | none => cases e
  | some b => cases e; exact ⟨rfl, rfl⟩
inductive BOp where
  | add | sub | mul | fdiv | mod
inductive COp where
  | eq | ne | lt | le | gt | ge | isin | notin | isn | isnn
inductive TY where
  | int | bool | str | tuple | list
inductive BI where
  | len | all | any | sum | min | max | sorted | abs
inductive ME where
  | join | append | extend | pop | count | index | setsl
inductive T where
  | one (i : Nat) | many (l : List Nat)
mutual
inductive E where
  | c (d : D) | v (i : Nat) | tup (es : Es) | lst (es : Es)
  | bin (o : BOp) (a b : E) | cmp (o : COp) (a b : E) | ch (o p : COp) (a b c : E)
  | nt (a : E) | neg (a : E) | an (a b : E) | orr (a b : E) | ife (t a b : E)
  | ix (a b : E) | sl (a : E) (lo hi : Eo) | rv (a : E)
  | cl (f : Nat) (es : Es) | bi (b : BI) (es : Es) | me (m : ME) (o : E) (es : Es)
  | isi (a : E) (ts : List TY)
  | comp (elt : E) (t : T) (it : It) (cond : Eo)
  | lof (it : It) | tof (it : It)
  | dget (kvs : List (D × D)) (a : E) | ttp (a : E)
inductive Es where
  | nil | cons (e : E) (es : Es)
inductive Eo where
  | no | yes (e : E)
inductive It where
  | seq (e : E) | rng (es : Es) | zip (a b : E) | enum (a : E) | rev (a : E)
end
mutual
inductive S where
  | set (i : Nat) (e : E) | setT (l : List Nat) (e : E) | setI (o i e : E) | setS (o lo hi e : E)
  | exp (e : E) | ret (e : E) | iff (t : E) (a b : Ss) | for (t : T) (it : It) (b : Ss) | whl (t : E) (b : Ss)
  | pass | brk | cnt | nev
inductive Ss where
  | nil | cons (s : S) (ss : Ss)
end
inductive Fl where
  | nx | bk | ct | ret (d : D)
noncomputable def big : Nat := 16777216
noncomputable def eqL (f : D → D → Option Bool) : List D → List D → Option Bool
  | [], [] => some true
  | x :: xs, y :: ys => do
    let b ← f x y
    let c ← eqL f xs ys
    pure (b && c)
  | _, _ => some false
noncomputable def lstOf (h : Hh) (n : Nat) : Option (List D) := match h[n]? with
  | some (.lst ds) => some ds
  | some (.frz ds) => some ds
  | none => none
noncomputable def b2i (b : Bool) : Int := if b then 1 else 0
noncomputable def deq (h : Hh) : Nat → D → D → Option Bool
  | 0, _, _ => none
  | _ + 1, .non, .non => some true
  | _ + 1, .bl a, .bl b => some (a == b)
  | _ + 1, .int a, .int b => some (a == b)
  | _ + 1, .bl a, .int b => some (b2i a == b)
  | _ + 1, .int a, .bl b => some (a == b2i b)
  | _ + 1, .str a, .str b => some (a == b)
  | n + 1, .tup a, .tup b => eqL (deq h n) a b
  | n + 1, .ref a, .ref b => if a = b then (lstOf h a).map fun _ => true else match h[a]?, h[b]? with
    | some (.lst x), some (.lst y) => eqL (deq h n) x y
    | some (.frz x), some (.lst y) => eqL (deq h n) x y
    | some (.lst x), some (.frz y) => eqL (deq h n) x y
    | _, _ => none
  | _ + 1, .ref a, _ => (lstOf h a).map fun _ => false
  | _ + 1, _, .ref a => (lstOf h a).map fun _ => false
  | _ + 1, _, _ => some false
noncomputable def deep : Nat := 20
noncomputable def truthy (h : Hh) : D → Option Bool
  | .non => some false
  | .bl b => some b
  | .int i => some (i != 0)
  | .str s => some (!s.isEmpty)
  | .tup ds => some (!ds.isEmpty)
  | .ref n => (lstOf h n).map fun ds => !ds.isEmpty
noncomputable def alloc (ds : List D) (h : Hh) : R D := if ds.length ≤ big then .ok (.ref h.length) (h ++ [.lst ds]) else .bad
noncomputable def rep {α : Type} (k : Nat) (l : List α) : List α := (List.replicate k l).flatten
noncomputable def mulOk (i j : Int) : Bool := (decide (-(2 ^ 64) < i) && decide (i < 2 ^ 64)) || (decide (-(2 ^ 64) < j) && decide (j < 2 ^ 64))
noncomputable def bop : BOp → D → D → Hh → R D
  | .add, .int i, .int j, h => .ok (.int (i + j)) h
  | .add, .str a, .str b, h => if a.length + b.length ≤ big then .ok (.str (a ++ b)) h else .bad
  | .add, .tup a, .tup b, h => if a.length + b.length ≤ big then .ok (.tup (a ++ b)) h else .bad
  | .add, .ref a, .ref b, h => match h[a]?, h[b]? with
    | some (.lst x), some (.lst y) => alloc (x ++ y) h
    | _, _ => .bad
  | .sub, .int i, .int j, h => .ok (.int (i - j)) h
  | .mul, .int i, .int j, h => if mulOk i j then .ok (.int (i * j)) h else .bad
  | .mul, .str a, .int k, h => if 0 ≤ k ∧ k ≤ 1000 ∧ a.length ≤ 1000 then .ok (.str (rep k.toNat a)) h else .bad
  | .mul, .tup a, .int k, h => if 0 ≤ k ∧ k ≤ 1000 ∧ a.length ≤ 1000 then .ok (.tup (rep k.toNat a)) h else .bad
  | .mul, .ref a, .int k, h => match h[a]? with
    | some (.lst x) => if 0 ≤ k ∧ k ≤ 1000 ∧ x.length ≤ 1000 then alloc (rep k.toNat x) h else .bad
    | _ => .bad
  | .fdiv, .int i, .int j, h => if 0 < j ∧ j < 1073741824 then .ok (.int (i / j)) h else .bad
  | .mod, .int i, .int j, h => if 0 < j then .ok (.int (i % j)) h else .bad
  | _, _, _, _ => .bad
noncomputable def flat : D → Bool
  | .tup _ => false
  | .ref _ => false
  | _ => true
noncomputable def mem (h : Hh) (x : D) : List D → Option Bool
  | [] => some false
  | y :: ys => do
    let b ← deq h deep y x
    let c ← mem h x ys
    pure (b || c)
noncomputable def isin (x y : D) (h : Hh) : Option Bool := match y with
  | .str s => match x with
    | .str [c] => some (s.contains c)
    | _ => none
  | .tup ds => mem h x ds
  | .ref n => (lstOf h n).bind fun ds => mem h x ds
  | _ => none
noncomputable def cop (o : COp) (x y : D) (h : Hh) : Option Bool := match o, x, y with
  | .eq, x, y => deq h deep x y
  | .ne, x, y => (deq h deep x y).map (!·)
  | .lt, .int i, .int j => some (decide (i < j))
  | .le, .int i, .int j => some (decide (i ≤ j))
  | .gt, .int i, .int j => some (decide (j < i))
  | .ge, .int i, .int j => some (decide (j ≤ i))
  | .isin, x, y => isin x y h
  | .notin, x, y => (isin x y h).map (!·)
  | .isn, x, .non => some (match x with | .non => true | _ => false)
  | .isnn, x, .non => some (match x with | .non => false | _ => true)
  | _, _, _ => none
noncomputable def ixN (n : Nat) (i : Int) : Option Nat := if 0 ≤ i then (if i < n then some i.toNat else none) else if -(n : Int) ≤ i then some (i + n).toNat else none
noncomputable def atI {α : Type} (xs : List α) (i : Int) : Option α := (ixN xs.length i).bind fun j => xs[j]?
noncomputable def ixd (x y : D) (h : Hh) : Option D := match x, y with
  | .tup ds, .int i => atI ds i
  | .str s, .int i => (atI s i).map fun c => .str [c]
  | .ref n, .int i => (lstOf h n).bind fun ds => atI ds i
  | _, _ => none
noncomputable def sIx (n d : Nat) : Option Int → Nat
  | none => d
  | some v => if v < 0 then (v + n).toNat else min v.toNat n
noncomputable def cut {α : Type} (xs : List α) (lo hi : Option Int) : List α := (xs.drop (sIx xs.length 0 lo)).take (sIx xs.length xs.length hi - sIx xs.length 0 lo)
noncomputable def sld (x : D) (lo hi : Option Int) (h : Hh) : R D := match x with
  | .tup ds => .ok (.tup (cut ds lo hi)) h
  | .str s => .ok (.str (cut s lo hi)) h
  | .ref n => match lstOf h n with
    | some ds => alloc (cut ds lo hi) h
    | none => .bad
  | _ => .bad
noncomputable def rvd (x : D) (h : Hh) : R D := match x with
  | .tup ds => .ok (.tup ds.reverse) h
  | .ref n => match lstOf h n with
    | some ds => alloc ds.reverse h
    | none => .bad
  | _ => .bad
noncomputable def tyOf (h : Hh) : D → TY → Bool
  | .bl _, .bool => true
  | .bl _, .int => true
  | .int _, .int => true
  | .str _, .str => true
  | .tup _, .tuple => true
  | .ref n, .list => (lstOf h n).isSome
  | _, _ => false
noncomputable def boolsOf : List D → Option (List Bool)
  | [] => some []
  | .bl b :: ds => (boolsOf ds).map fun r => b :: r
  | _ => none
noncomputable def intsOf : List D → Option (List Int)
  | [] => some []
  | .int i :: ds => (intsOf ds).map fun r => i :: r
  | _ => none
noncomputable def strsOf : List D → Option (List (List Nat))
  | [] => some []
  | .str s :: ds => (strsOf ds).map fun r => s :: r
  | _ => none
noncomputable def joinS (sep : List Nat) : List (List Nat) → List Nat
  | [] => []
  | [s] => s
  | s :: t :: r => s ++ sep ++ joinS sep (t :: r)
noncomputable def lexLe : List Nat → List Nat → Bool
  | [], _ => true
  | _ :: _, [] => false
  | x :: xs, y :: ys => if x = y then lexLe xs ys else decide (x < y)
noncomputable def insS (x : List Nat) : List (List Nat) → List (List Nat)
  | [] => [x]
  | y :: ys => if lexLe x y then x :: y :: ys else y :: insS x ys
noncomputable def sortS : List (List Nat) → List (List Nat)
  | [] => []
  | x :: xs => insS x (sortS xs)
noncomputable def bfn (b : BI) (xs : List D) (h : Hh) : R D := match b, xs with
  | .len, [.str s] => if s.length ≤ big then .ok (.int s.length) h else .bad
  | .len, [.tup ds] => .ok (.int ds.length) h
  | .len, [.ref n] => R.of ((lstOf h n).map fun ds => .int ds.length) h
  | .all, [.ref n] => R.of (((lstOf h n).bind boolsOf).map fun bs => .bl (bs.all id)) h
  | .any, [.ref n] => R.of (((lstOf h n).bind boolsOf).map fun bs => .bl (bs.any id)) h
  | .sum, [.ref n] => R.of (((lstOf h n).bind intsOf).map fun is => .int is.sum) h
  | .min, [.int i, .int j] => .ok (.int (if j < i then j else i)) h
  | .max, [.int i, .int j] => .ok (.int (if j > i then j else i)) h
  | .abs, [.int i] => .ok (.int (if i < 0 then -i else i)) h
  | .sorted, [.ref n] => match (lstOf h n).bind strsOf with
    | some ss => if ss.length < 64 then alloc ((sortS ss).map .str) h else .bad
    | none => .bad
  | _, _ => .bad
noncomputable def idx (h : Hh) (x : D) : List D → Nat → Option Nat
  | [], _ => none
  | y :: ys, k => match deq h deep y x with
    | some true => some k
    | some false => idx h x ys (k + 1)
    | none => none
noncomputable def cnt (h : Hh) (x : D) : List D → Option Nat
  | [] => some 0
  | y :: ys => do
    let b ← deq h deep y x
    let k ← cnt h x ys
    pure (if b then k + 1 else k)
noncomputable def asI : D → Option Int
  | .int i => some i
  | _ => none
noncomputable def asL (h : Hh) : D → Option (Nat × List D)
  | .ref n => match h[n]? with
    | some (.lst ds) => some (n, ds)
    | _ => none
  | _ => none
noncomputable def setslF (h : Hh) (o x y z : D) : Option Hh := (asL h o).bind fun p => (asL h x).bind fun q => (asI y).bind fun a => (asI z).bind fun c =>
  if p.1 ≠ q.1 ∧ 0 ≤ a ∧ a ≤ c ∧ c ≤ p.2.length ∧ p.2.length + q.2.length ≤ big then some (h.set p.1 (.lst (p.2.take a.toNat ++ q.2 ++ p.2.drop c.toNat))) else none
noncomputable def mef (m : ME) (o : D) (xs : List D) (h : Hh) : R D := match m, o, xs with
  | .join, .str sep, [.ref n] => match (lstOf h n).bind strsOf with
    | some ss => if (ss.map (·.length)).sum + ss.length * sep.length ≤ big then .ok (.str (joinS sep ss)) h else .bad
    | none => .bad
  | .append, .ref n, [x] => match h[n]? with
    | some (.lst ds) => if ds.length < big then .ok .non (h.set n (.lst (ds ++ [x]))) else .bad
    | _ => .bad
  | .extend, .ref n, [.ref m] => match h[n]?, h[m]? with
    | some (.lst ds), some (.lst es) => if ds.length + es.length ≤ big then .ok .non (h.set n (.lst (ds ++ es))) else .bad
    | _, _ => .bad
  | .pop, .ref n, [] => match h[n]? with
    | some (.lst ds) => match ds[ds.length - 1]? with
      | some x => .ok x (h.set n (.lst ds.dropLast))
      | none => .bad
    | _ => .bad
  | .count, .ref n, [x] => R.of (((lstOf h n).bind (cnt h x)).map fun (k : Nat) => .int k) h
  | .index, .ref n, [x] => R.of (((lstOf h n).bind fun ds => idx h x ds 0).map fun (k : Nat) => .int k) h
  | .setsl, o, [x, y, z] => (R.of (setslF h o x y z) h).bind fun h' _ => .ok .non h'
  | _, _, _ => .bad
noncomputable def rcv (m : ME) (x : D) (h : Hh) : Bool := match m, x with
  | .join, .str _ => true
  | .join, _ => false
  | _, .ref n => (lstOf h n).isSome
  | _, _ => false
noncomputable def lookD (x : D) : List (D × D) → Option D
  | [] => none
  | (k, v) :: r => match deq [] 1 k x with
    | some true => some v
    | some false => lookD x r
    | none => none
abbrev Src := List D × List (Nat × List D)
noncomputable def seqOf (h : Hh) : D → Option Src
  | .tup ds => some (ds, [])
  | .str s => some (s.map fun c => .str [c], [])
  | .ref n => (lstOf h n).map fun ds => (ds, [(n, ds)])
  | _ => none
noncomputable def range (lo : Int) (n : Nat) : List D := (List.range n).map fun (i : Nat) => .int (lo + i)
noncomputable def rngOf : List D → Option Src
  | [.int j] => if -(2 ^ 62) ≤ j ∧ j < 2 ^ 62 then some (range 0 j.toNat, []) else none
  | [.int i, .int j] => if -(2 ^ 62) ≤ i ∧ i < 2 ^ 62 ∧ -(2 ^ 62) ≤ j ∧ j < 2 ^ 62 then some (range i (j - i).toNat, []) else none
  | _ => none
noncomputable def zipD (a b : List D) : List D := List.zipWith (fun x y => .tup [x, y]) a b
noncomputable def enumD : Int → List D → List D
  | _, [] => []
  | k, x :: xs => .tup [.int k, x] :: enumD (k + 1) xs
mutual
noncomputable def same : D → D → Bool
  | .non, .non => true
  | .bl a, .bl b => a == b
  | .int a, .int b => a == b
  | .str a, .str b => a == b
  | .tup a, .tup b => sameL a b
  | .ref a, .ref b => a == b
  | _, _ => false
noncomputable def sameL : List D → List D → Bool
  | [], [] => true
  | x :: xs, y :: ys => same x y && sameL xs ys
  | _, _ => false
end
mutual
theorem same_iff : ∀ a b : D, same a b = true ↔ a = b
  | .non, b => by cases b <;> simp [same]
  | .bl _, b => by cases b <;> simp [same]
  | .int _, b => by cases b <;> simp [same]
  | .str _, b => by cases b <;> simp [same]
  | .ref _, b => by cases b <;> simp [same]
  | .tup x, b => by cases b <;> simp [same, sameL_iff x]
theorem sameL_iff : ∀ a b : List D, sameL a b = true ↔ a = b
  | [], b => by cases b <;> simp [sameL]
  | x :: xs, b => by cases b <;> simp [sameL, same_iff x, sameL_iff xs]
end
@[simp] theorem sameL_self (a : List D) : sameL a a = true := (sameL_iff a a).mpr rfl
noncomputable def stays (h : Hh) : List (Nat × List D) → Bool
  | [] => true
  | (n, ds) :: r => (match lstOf h n with | some es => sameL es ds | none => false) && stays h r
noncomputable def setAll : List Nat → List D → Fr → Option Fr
  | [], [], fr => some fr
  | i :: is, d :: ds, fr => setAll is ds (fr.set i (some d))
  | _, _, _ => none
noncomputable def bindT : T → D → Fr → Option Fr
  | .one i, d, fr => some (fr.set i (some d))
  | .many l, .tup ds, fr => setAll l ds fr
  | _, _, _ => none
noncomputable def slots : T → List Nat
  | .one i => [i]
  | .many l => l
noncomputable def undef (t : T) (fr : Fr) : Bool := (slots t).all fun i => (fr[i]?.join).isNone
noncomputable def tofD : D → Hh → R D
  | .tup ds, h => .ok (.tup ds) h
  | .ref n, h => match lstOf h n with
    | some ds => if ds.length ≤ big then .ok (.tup ds) h else .bad
    | none => .bad
  | _, _ => .bad
noncomputable def lstS (h : Hh) : D → Option Src
  | .ref n => (lstOf h n).map fun ds => (ds, [(n, ds)])
  | _ => none
noncomputable def compL (f : D → Hh → R (Option D)) (ck : List (Nat × List D)) : List D → Hh → R (List D)
  | [], h => if stays h ck then .ok [] h else .bad
  | d :: ds, h => if stays h ck then (f d h).bind fun o h1 => (compL f ck ds h1).bind fun r h2 => .ok (o.toList ++ r) h2 else .bad
noncomputable def forL (f : D → Fr → Hh → R (Fl × Fr)) (ck : List (Nat × List D)) : List D → Fr → Hh → R (Fl × Fr)
  | [], fr, h => if stays h ck then .ok (.nx, fr) h else .bad
  | d :: ds, fr, h => if stays h ck then (f d fr h).bind fun p h1 => match p.1 with
      | .nx => forL f ck ds p.2 h1
      | .ct => forL f ck ds p.2 h1
      | .bk => .ok (.nx, p.2) h1
      | .ret x => .ok (.ret x, p.2) h1
    else .bad
noncomputable def whlL (t : Fr → Hh → R Bool) (f : Fr → Hh → R (Fl × Fr)) : Nat → Fr → Hh → R (Fl × Fr)
  | 0, _, _ => .bad
  | n + 1, fr, h => (t fr h).bind fun b h1 => if b then (f fr h1).bind fun p h2 => match p.1 with
      | .nx => whlL t f n p.2 h2
      | .ct => whlL t f n p.2 h2
      | .bk => .ok (.nx, p.2) h2
      | .ret x => .ok (.ret x, p.2) h2
    else .ok (.nx, fr) h1
abbrev Phi := Nat → List D → Hh → R D
noncomputable def intOf : D → Option Int
  | .int i => some i
  | _ => none
mutual
noncomputable def ev (P : Phi) : E → Fr → Hh → R D
  | .c d, _, h => .ok d h
  | .v i, fr, h => R.of (fr[i]?.join) h
  | .tup es, fr, h => (evs P es fr h).bind fun ds h1 => if ds.length ≤ big then .ok (.tup ds) h1 else .bad
  | .lst es, fr, h => (evs P es fr h).bind fun ds h1 => alloc ds h1
  | .bin o a b, fr, h => (ev P a fr h).bind fun x h1 => (ev P b fr h1).bind fun y h2 => bop o x y h2
  | .cmp o a b, fr, h => (ev P a fr h).bind fun x h1 => (ev P b fr h1).bind fun y h2 => R.of ((cop o x y h2).map .bl) h2
  | .ch o p a b c, fr, h => (ev P a fr h).bind fun x h1 => (ev P b fr h1).bind fun y h2 => (R.of (cop o x y h2) h2).bind fun k h3 =>
      if k then (ev P c fr h3).bind fun z h4 => R.of ((cop p y z h4).map .bl) h4 else .ok (.bl false) h3
  | .nt a, fr, h => (ev P a fr h).bind fun x h1 => match x with
      | .bl b => .ok (.bl (!b)) h1
      | _ => .bad
  | .neg a, fr, h => (ev P a fr h).bind fun x h1 => match x with
      | .int i => .ok (.int (-i)) h1
      | _ => .bad
  | .an a b, fr, h => (ev P a fr h).bind fun x h1 => match x with
      | .bl true => ev P b fr h1
      | .bl false => .ok (.bl false) h1
      | _ => .bad
  | .orr a b, fr, h => (ev P a fr h).bind fun x h1 => match x with
      | .bl true => .ok (.bl true) h1
      | .bl false => ev P b fr h1
      | _ => .bad
  | .ife t a b, fr, h => (evT P t fr h).bind fun k h1 => if k then ev P a fr h1 else ev P b fr h1
  | .ix a b, fr, h => (ev P a fr h).bind fun x h1 => (ev P b fr h1).bind fun y h2 => R.of (ixd x y h2) h2
  | .sl a lo hi, fr, h => (ev P a fr h).bind fun x h1 => (evo P lo fr h1).bind fun l h2 => (evo P hi fr h2).bind fun u h3 => sld x l u h3
  | .rv a, fr, h => (ev P a fr h).bind fun x h1 => rvd x h1
  | .cl f es, fr, h => (evs P es fr h).bind fun ds h1 => P f ds h1
  | .bi b es, fr, h => (evs P es fr h).bind fun ds h1 => bfn b ds h1
  | .me m o es, fr, h => (ev P o fr h).bind fun x h1 => if rcv m x h1 then (evs P es fr h1).bind fun ds h2 => mef m x ds h2 else .bad
  | .isi a ts, fr, h => (ev P a fr h).bind fun x h1 => .ok (.bl (ts.any (tyOf h1 x))) h1
  | .comp elt t it cond, fr, h => (evi P it fr h).bind fun s h1 => if undef t fr then
      (compL (fun d h2 => match bindT t d fr with
        | none => .bad
        | some fr2 => (evc P cond fr2 h2).bind fun k h3 => if k then (ev P elt fr2 h3).bind fun x h4 => .ok (some x) h4 else .ok none h3) s.2 s.1 h1).bind fun ds h2 => alloc ds h2 else .bad
  | .lof it, fr, h => (evi P it fr h).bind fun s h1 => alloc s.1 h1
  | .tof it, fr, h => (evi P it fr h).bind fun s h1 => if s.1.length ≤ big then .ok (.tup s.1) h1 else .bad
  | .dget kvs a, fr, h => (ev P a fr h).bind fun x h1 => R.of (lookD x kvs) h1
  | .ttp a, fr, h => (ev P a fr h).bind fun x h1 => tofD x h1
noncomputable def evs (P : Phi) : Es → Fr → Hh → R (List D)
  | .nil, _, h => .ok [] h
  | .cons e es, fr, h => (ev P e fr h).bind fun d h1 => (evs P es fr h1).bind fun ds h2 => .ok (d :: ds) h2
noncomputable def evo (P : Phi) : Eo → Fr → Hh → R (Option Int)
  | .no, _, h => .ok none h
  | .yes e, fr, h => (ev P e fr h).bind fun d h1 => R.of ((intOf d).map some) h1
noncomputable def evc (P : Phi) : Eo → Fr → Hh → R Bool
  | .no, _, h => .ok true h
  | .yes e, fr, h => evT P e fr h
noncomputable def evT (P : Phi) : E → Fr → Hh → R Bool
  | .an a b, fr, h => (evT P a fr h).bind fun k h1 => if k then evT P b fr h1 else .ok false h1
  | .orr a b, fr, h => (evT P a fr h).bind fun k h1 => if k then .ok true h1 else evT P b fr h1
  | .nt a, fr, h => (evT P a fr h).bind fun k h1 => .ok (!k) h1
  | e, fr, h => (ev P e fr h).bind fun x h1 => R.of (truthy h1 x) h1
noncomputable def evi (P : Phi) : It → Fr → Hh → R Src
  | .seq e, fr, h => (ev P e fr h).bind fun x h1 => R.of (seqOf h1 x) h1
  | .rng es, fr, h => (evs P es fr h).bind fun ds h1 => R.of (rngOf ds) h1
  | .zip a b, fr, h => (ev P a fr h).bind fun x h1 => (ev P b fr h1).bind fun y h2 => R.of ((lstS h2 x).bind fun s => (lstS h2 y).map fun t => (zipD s.1 t.1, s.2 ++ t.2)) h2
  | .enum a, fr, h => (ev P a fr h).bind fun x h1 => R.of ((seqOf h1 x).map fun s => (enumD 0 s.1, s.2)) h1
  | .rev a, fr, h => (ev P a fr h).bind fun x h1 => R.of ((seqOf h1 x).map fun s => (s.1.reverse, s.2)) h1
end
mutual
noncomputable def ex (P : Phi) (w : Nat) : S → Fr → Hh → R (Fl × Fr)
  | .set i e, fr, h => (ev P e fr h).bind fun x h1 => .ok (.nx, fr.set i (some x)) h1
  | .setT l e, fr, h => (ev P e fr h).bind fun x h1 => match bindT (.many l) x fr with
      | some fr2 => .ok (.nx, fr2) h1
      | none => .bad
  | .setI o i e, fr, h => (ev P e fr h).bind fun x h1 => (ev P o fr h1).bind fun y h2 => (ev P i fr h2).bind fun z h3 => match y, z with
      | .ref n, .int k => match h3[n]? with
        | some (.lst ds) => match ixN ds.length k with
          | some j => .ok (.nx, fr) (h3.set n (.lst (ds.set j x)))
          | none => .bad
        | _ => .bad
      | _, _ => .bad
  | .setS _ _ _ _, _, _ => .bad
  | .exp e, fr, h => (ev P e fr h).bind fun _ h1 => .ok (.nx, fr) h1
  | .ret e, fr, h => (ev P e fr h).bind fun x h1 => .ok (.ret x, fr) h1
  | .iff t a b, fr, h => (evT P t fr h).bind fun k h1 => if k then exs P w a fr h1 else exs P w b fr h1
  | .for t it b, fr, h => (evi P it fr h).bind fun s h1 => forL (fun d fr2 h2 => match bindT t d fr2 with
      | some fr3 => exs P w b fr3 h2
      | none => .bad) s.2 s.1 fr h1
  | .whl t b, fr, h => whlL (fun fr2 h2 => evT P t fr2 h2) (fun fr2 h2 => exs P w b fr2 h2) w fr h
  | .pass, fr, h => .ok (.nx, fr) h
  | .brk, fr, h => .ok (.bk, fr) h
  | .cnt, fr, h => .ok (.ct, fr) h
  | .nev, _, _ => .bad
noncomputable def exs (P : Phi) (w : Nat) : Ss → Fr → Hh → R (Fl × Fr)
  | .nil, fr, h => .ok (.nx, fr) h
  | .cons s ss, fr, h => (ex P w s fr h).bind fun p h1 => match p.1 with
      | .nx => exs P w ss p.2 h1
      | _ => .ok p h1
end
structure Fn where
  np : Nat
  ns : Nat
  body : Ss
noncomputable def fr0 (fn : Fn) (ds : List D) : Fr := ds.map some ++ List.replicate (fn.ns - fn.np) none
noncomputable def endOf (r : R (Fl × Fr)) : R D := r.bind fun p h => match p.1 with
  | .ret d => .ok d h
  | .nx => .ok .non h
  | _ => .bad
noncomputable def run (F : List Fn) (w : Nat) : Nat → Phi
  | 0, _, _, _ => .bad
  | n + 1, f, ds, h => match F[f]? with
    | some fn => if ds.length = fn.np then endOf (exs (run F w n) w fn.body (fr0 fn ds) h) else .bad
    | none => .bad
end Ev
set_option Elab.async false
set_option linter.all false
set_option maxRecDepth 100000
namespace Sm
open PySem PySem.Spec PyProof.Rows L2
noncomputable def sOf (l : List Nat) : Str := ⟨l.toArray⟩
theorem sOf_len (l : List Nat) : (sOf l).length = l.length := by simp [sOf, Str.length]
theorem sOf_inj {a b : List Nat} (h : sOf a = sOf b) : a = b := by
  have h1 : a.toArray = b.toArray := congrArg Str.cps h
  simpa using congrArg Array.toList h1
theorem big_eq : Ev.big = sizeLine := by rw [sizeLine_eq]; rfl
section
variable (K : PySem.W.Frag)
mutual
noncomputable def RV (H : Hp) (r : List Addr) : Ev.D → V → Prop
  | .non, v => v = .non
  | .bl b, v => v = .bl b
  | .int i, v => v = .int i
  | .str s, v => v = .str (sOf s) ∧ s.length ≤ sizeLine
  | .ref n, v => ∃ a, v = .ref a ∧ r[n]? = some a
  | .tup ds, v => ∃ a vs, v = .ref a ∧ SqT K H a vs ∧ RVs H r ds vs
noncomputable def RVs (H : Hp) (r : List Addr) : List Ev.D → List V → Prop
  | [], vs => vs = []
  | d :: ds, vs => ∃ v w, vs = v :: w ∧ RV H r d v ∧ RVs H r ds w
end
noncomputable def FrzL (H : Hp) (a : Addr) (vs : List V) : Prop := (∃ o, H a = some (.frz o (.lst vs))) ∨
  ∃ (o : Obj) (its : Array Value) (n : Nat), K.lookup a = some o ∧ o.cls = .type "list" ∧ o.dict = none ∧ o.data = .seq its n ∧ its.size ≤ sizeLine ∧ Vals vs its.toList
noncomputable def RO (H : Hp) (r : List Addr) : Ev.O → Addr → Prop
  | .lst ds, a => ∃ vs, H a = some (.lst vs) ∧ RVs K H r ds vs
  | .frz ds, a => ∃ vs, FrzL K H a vs ∧ RVs K H r ds vs
structure HR (H : Hp) (r : List Addr) (h : Ev.Hh) : Prop where
  len : r.length = h.length
  ob : ∀ (n : Nat) o, h[n]? = some o → ∃ a, r[n]? = some a ∧ RO K H r o a
  inj : ∀ (n m : Nat) a x y, r[n]? = some a → r[m]? = some a → h[n]? = some (.lst x) → h[m]? = some (.lst y) → n = m
structure Fm (r r' : List Addr) (H H' : Hp) : Prop where
  pre : ∀ (n : Nat) a, r[n]? = some a → r'[n]? = some a
  new : ∀ a ∈ r', a ∈ r ∨ H a = none
  keep : ∀ a o, H a = some o → a ∉ r → H' a = some o
  tups : ∀ a vs, SqT K H a vs → SqT K H' a vs
end
section
variable {K : PySem.W.Frag} {H H1 H2 : Hp} {r r1 r2 : List Addr} {h : Ev.Hh}
theorem Fm.refl : Fm K r r H H := ⟨fun _ _ e => e, fun _ e => .inl e, fun _ _ e _ => e, fun _ _ e => e⟩
theorem Fm.trans (a : Fm K r r1 H H1) (b : Fm K r1 r2 H1 H2) : Fm K r r2 H H2 where
  pre := fun n x e => b.pre n x (a.pre n x e)
  new := fun x e => by
    rcases b.new x e with q | q
    · exact a.new x q
    · by_cases z : x ∈ r
      · exact .inl z
      · refine .inr ?_
        cases w : H x with
        | none => rfl
        | some o => rw [a.keep x o w z] at q; cases q
  keep := fun x o e n => by
    refine b.keep x o (a.keep x o e n) fun z => ?_
    rcases a.new x z with q | q
    · exact n q
    · rw [e] at q; cases q
  tups := fun x vs e => b.tups x vs (a.tups x vs e)
mutual
theorem RV.grow (f : ∀ (n : Nat) a, r[n]? = some a → r1[n]? = some a) (g : ∀ a vs, SqT K H a vs → SqT K H1 a vs) : ∀ {d : Ev.D} {v : V}, RV K H r d v → RV K H1 r1 d v
  | .non, _, e => e
  | .bl _, _, e => e
  | .int _, _, e => e
  | .str _, _, e => e
  | .ref n, _, ⟨a, e, z⟩ => ⟨a, e, f n a z⟩
  | .tup ds, _, ⟨a, vs, e, z, q⟩ => ⟨a, vs, e, g a vs z, RVs.grow f g q⟩
theorem RVs.grow (f : ∀ (n : Nat) a, r[n]? = some a → r1[n]? = some a) (g : ∀ a vs, SqT K H a vs → SqT K H1 a vs) : ∀ {ds : List Ev.D} {vs : List V}, RVs K H r ds vs → RVs K H1 r1 ds vs
  | [], _, e => e
  | _ :: _, _, ⟨v, w, e, z, q⟩ => ⟨v, w, e, RV.grow f g z, RVs.grow f g q⟩
end
theorem RV.mono (f : Fm K r r1 H H1) {d : Ev.D} {v : V} (q : RV K H r d v) : RV K H1 r1 d v := q.grow f.pre f.tups
theorem RVs.mono (f : Fm K r r1 H H1) {ds : List Ev.D} {vs : List V} (q : RVs K H r ds vs) : RVs K H1 r1 ds vs := q.grow f.pre f.tups
theorem RVs.nil : RVs K H r [] [] := by simp [RVs]
theorem RVs.cons {d : Ev.D} {v : V} {ds : List Ev.D} {vs : List V} (a : RV K H r d v) (b : RVs K H r ds vs) : RVs K H r (d :: ds) (v :: vs) := by
  simp only [RVs]; exact ⟨v, vs, rfl, a, b⟩
theorem RVs.length : ∀ {ds : List Ev.D} {vs : List V}, RVs K H r ds vs → vs.length = ds.length
  | [], _, e => by simp only [RVs] at e; subst e; rfl
  | _ :: _, _, e => by
    simp only [RVs] at e
    obtain ⟨v, w, rfl, _, q⟩ := e
    simp [RVs.length q]
theorem RVs.get : ∀ {ds : List Ev.D} {vs : List V} {i : Nat} {d : Ev.D}, RVs K H r ds vs → ds[i]? = some d → ∃ v, vs[i]? = some v ∧ RV K H r d v
  | [], _, _, _, _, e => by simp at e
  | _ :: _, _, 0, _, h, e => by
    simp only [RVs] at h
    obtain ⟨v, w, rfl, z, q⟩ := h
    simp at e; subst e
    exact ⟨v, by simp, z⟩
  | _ :: _, _, i + 1, _, h, e => by
    simp only [RVs] at h
    obtain ⟨v, w, rfl, z, q⟩ := h
    obtain ⟨u, a, b⟩ := RVs.get (i := i) q (by simpa using e)
    exact ⟨u, by simpa using a, b⟩
theorem RVs.append : ∀ {ds es : List Ev.D} {vs ws : List V}, RVs K H r ds vs → RVs K H r es ws → RVs K H r (ds ++ es) (vs ++ ws)
  | [], _, _, _, a, b => by simp only [RVs] at a; subst a; simpa using b
  | _ :: _, _, _, _, a, b => by
    simp only [RVs] at a
    obtain ⟨v, w, rfl, z, q⟩ := a
    simp only [List.cons_append]
    exact .cons z (RVs.append q b)
theorem RVs.take : ∀ {ds : List Ev.D} {vs : List V} (n : Nat), RVs K H r ds vs → RVs K H r (ds.take n) (vs.take n)
  | _, _, 0, _ => by simp [RVs]
  | [], _, _ + 1, a => by simp only [RVs] at a; subst a; simp [RVs]
  | _ :: _, _, n + 1, a => by
    simp only [RVs] at a
    obtain ⟨v, w, rfl, z, q⟩ := a
    simp only [List.take_succ_cons]
    exact .cons z (RVs.take n q)
theorem RVs.drop : ∀ {ds : List Ev.D} {vs : List V} (n : Nat), RVs K H r ds vs → RVs K H r (ds.drop n) (vs.drop n)
  | _, _, 0, a => by simpa using a
  | [], _, _ + 1, a => by simp only [RVs] at a; subst a; simp [RVs]
  | _ :: _, _, n + 1, a => by
    simp only [RVs] at a
    obtain ⟨v, w, rfl, z, q⟩ := a
    simp only [List.drop_succ_cons]
    exact RVs.drop n q
theorem RVs.reverse : ∀ {ds : List Ev.D} {vs : List V}, RVs K H r ds vs → RVs K H r ds.reverse vs.reverse
  | [], _, a => by simp only [RVs] at a; subst a; simp [RVs]
  | _ :: _, _, a => by
    simp only [RVs] at a
    obtain ⟨v, w, rfl, z, q⟩ := a
    simp only [List.reverse_cons]
    exact (RVs.reverse q).append (.cons z .nil)
theorem RVs.rep {ds : List Ev.D} {vs : List V} (a : RVs K H r ds vs) : ∀ k : Nat, RVs K H r (Ev.rep k ds) (Ev.rep k vs)
  | 0 => by simp [Ev.rep, RVs]
  | k + 1 => by
    have h := RVs.rep a k
    simp only [Ev.rep, List.replicate_succ, List.flatten_cons] at h ⊢
    exact a.append h
theorem Fm.laid {p : Addr} {o : HO} (hp : H p = none) : Fm K r (r ++ [p]) H (upd H p o) where
  pre := fun n a e => by rw [List.getElem?_append_left (List.getElem?_eq_some_iff.mp e).1]; exact e
  new := fun a e => by
    rcases List.mem_append.mp e with q | q
    · exact .inl q
    · rw [List.mem_singleton] at q; subst q; exact .inr hp
  keep := fun a ob e _ => by rw [upd_ne (ne_of_none e hp)]; exact e
  tups := fun a vs e => by
    rcases e with (e | ⟨ob, e⟩) | e
    · exact .inl (.inl (by rw [upd_ne (ne_of_none e hp)]; exact e))
    · exact .inl (.inr ⟨ob, by rw [upd_ne (ne_of_none e hp)]; exact e⟩)
    · exact .inr e
theorem Fm.tup {p : Addr} {o : HO} (hp : H p = none) : Fm K r r H (upd H p o) where
  pre := fun n a e => e
  new := fun a e => .inl e
  keep := fun a ob e _ => by rw [upd_ne (ne_of_none e hp)]; exact e
  tups := (Fm.laid (r := r) hp).tups
theorem RO.mono {o : Ev.O} {a : Addr} (f : Fm K r r1 H H1) (q : RO K H r o a) (hl : ∀ ds vs, o = .lst ds → H a = some (.lst vs) → H1 a = some (.lst vs)) (hf : ∀ ob vs, H a = some (.frz ob vs) → H1 a = some (.frz ob vs)) : RO K H1 r1 o a := by
  cases o with
  | lst ds =>
    obtain ⟨vs, e, z⟩ := q
    exact ⟨vs, hl ds vs rfl e, z.mono f⟩
  | frz ds =>
    obtain ⟨vs, e, z⟩ := q
    refine ⟨vs, ?_, z.mono f⟩
    rcases e with ⟨ob, e⟩ | e
    · exact .inl ⟨ob, hf _ _ e⟩
    · exact .inr e
theorem HR.tup {p : Addr} {o : HO} (hr : HR K H r h) (hp : H p = none) : HR K (upd H p o) r h where
  len := hr.len
  ob := fun n ob e => by
    obtain ⟨a, e1, q⟩ := hr.ob n ob e
    exact ⟨a, e1, q.mono (Fm.tup hp) (fun _ vs _ z => by rw [upd_ne (ne_of_none z hp)]; exact z) fun _ _ z => by rw [upd_ne (ne_of_none z hp)]; exact z⟩
  inj := hr.inj
theorem HR.lst {p : Addr} {ds : List Ev.D} {vs : List V} (hr : HR K H r h) (hp : H p = none) (q : RVs K H r ds vs) : HR K (upd H p (.lst vs)) (r ++ [p]) (h ++ [.lst ds]) where
  len := by simp [hr.len]
  ob := fun n ob e => by
    by_cases hn : n < h.length
    · rw [List.getElem?_append_left hn] at e
      obtain ⟨a, e1, z⟩ := hr.ob n ob e
      exact ⟨a, (Fm.laid (K := K) (o := .lst vs) hp).pre n a e1, z.mono (Fm.laid hp) (fun _ vs _ z => by rw [upd_ne (ne_of_none z hp)]; exact z) fun _ _ z => by rw [upd_ne (ne_of_none z hp)]; exact z⟩
    · have e2 := (List.getElem?_eq_some_iff.mp e).1
      simp only [List.length_append, List.length_singleton] at e2
      have e3 : n = h.length := by omega
      subst e3
      simp at e
      subst e
      exact ⟨p, by rw [← hr.len]; simp, vs, upd_same, q.mono (Fm.laid hp)⟩
  inj := fun n m a x y e1 e2 e3 e4 => by
    have out : ∀ (k : Nat) z, (h ++ [Ev.O.lst ds])[k]? = some (.lst z) → (r ++ [p])[k]? = some a → (k < h.length ∧ r[k]? = some a ∧ h[k]? = some (.lst z) ∧ a ≠ p) ∨ (k = h.length ∧ a = p) := fun k z q1 q2 => by
      by_cases hk : k < h.length
      · rw [List.getElem?_append_left hk] at q1
        rw [List.getElem?_append_left (by rw [hr.len]; exact hk)] at q2
        obtain ⟨b, e5, vs', e6, _⟩ := hr.ob k _ q1
        rw [q2] at e5; cases e5
        exact .inl ⟨hk, q2, q1, ne_of_none e6 hp⟩
      · have e5 := (List.getElem?_eq_some_iff.mp q1).1
        simp only [List.length_append, List.length_singleton] at e5
        have e6 : k = r.length := by rw [hr.len]; omega
        subst e6
        simp at q2
        exact .inr ⟨hr.len, q2.symm⟩
    rcases out n x e3 e1 with ⟨h1, h2, h3, h4⟩ | ⟨h1, h2⟩
    · rcases out m y e4 e2 with ⟨k1, k2, k3, k4⟩ | ⟨k1, k2⟩
      · exact hr.inj n m a x y h2 k2 h3 k3
      · exact absurd k2 h4
    · rcases out m y e4 e2 with ⟨k1, k2, k3, k4⟩ | ⟨k1, k2⟩
      · exact absurd h2 k4
      · rw [h1, k1]
theorem HR.read {n : Nat} {ds : List Ev.D} (hr : HR K H r h) (e : Ev.lstOf h n = some ds) : ∃ a vs, r[n]? = some a ∧ SqL K H a vs ∧ RVs K H r ds vs := by
  unfold Ev.lstOf at e
  split at e
  · rename_i z
    cases e
    obtain ⟨a, e1, vs, e2, e3⟩ := hr.ob n _ z
    exact ⟨a, vs, e1, .inl (.inl e2), e3⟩
  · rename_i z
    cases e
    obtain ⟨a, e1, vs, e2, e3⟩ := hr.ob n _ z
    refine ⟨a, vs, e1, ?_, e3⟩
    rcases e2 with ⟨ob, e2⟩ | e2
    · exact .inl (.inr ⟨ob, e2⟩)
    · exact .inr e2
  · cases e
theorem Fm.write {a : Addr} {vs ws : List V} (ha : H a = some (.lst vs)) (hm : a ∈ r) : Fm K r r H (upd H a (.lst ws)) where
  pre := fun n b e => e
  new := fun b e => .inl e
  keep := fun b ob e n => by rw [upd_ne (fun z => n (by rw [z]; exact hm))]; exact e
  tups := fun b us e => by
    rcases e with (e | ⟨ob, e⟩) | e
    · exact .inl (.inl (by rw [upd_ne (ne_of e ha (by intro z; cases z))]; exact e))
    · exact .inl (.inr ⟨ob, by rw [upd_ne (ne_of e ha (by intro z; cases z))]; exact e⟩)
    · exact .inr e
theorem HR.write {n : Nat} {a : Addr} {ds es : List Ev.D} {vs ws : List V} (hr : HR K H r h) (hn : h[n]? = some (.lst ds)) (hra : r[n]? = some a) (ha : H a = some (.lst vs)) (q : RVs K H r es ws) :
    HR K (upd H a (.lst ws)) r (h.set n (.lst es)) where
  len := by simp [hr.len]
  ob := fun m ob e => by
    have f := Fm.write (K := K) (ws := ws) ha (List.mem_of_getElem? hra)
    by_cases hm : m = n
    · subst hm
      rw [List.getElem?_set_self (List.getElem?_eq_some_iff.mp hn).1] at e
      cases e
      exact ⟨a, hra, ws, upd_same, q.mono f⟩
    · rw [List.getElem?_set_ne (fun z => hm z.symm)] at e
      obtain ⟨b, e1, z⟩ := hr.ob m ob e
      refine ⟨b, e1, z.mono f (fun ds2 us z3 z2 => ?_) fun ob' us z2 => by rw [upd_ne (ne_of z2 ha (by intro z; cases z))]; exact z2⟩
      by_cases hb : b = a
      · subst hb
        subst z3
        exact absurd (hr.inj m n b ds2 ds e1 hra e hn) hm
      · rw [upd_ne hb]; exact z2
  inj := fun k m b x y e1 e2 e3 e4 => by
    have back : ∀ (j : Nat) z, (h.set n (Ev.O.lst es))[j]? = some (.lst z) → ∃ z', h[j]? = some (.lst z') := fun j z w => by
      by_cases hj : j = n
      · subst hj; exact ⟨ds, hn⟩
      · rw [List.getElem?_set_ne (fun z => hj z.symm)] at w; exact ⟨z, w⟩
    obtain ⟨x', e5⟩ := back k x e3
    obtain ⟨y', e6⟩ := back m y e4
    exact hr.inj k m b x' y' e1 e2 e5 e6
theorem tups_other {p : Addr} {vs ws : List V} (hp : H p = some (.lst vs)) : ∀ a us, SqT K H a us → SqT K (upd H p (.lst ws)) a us := fun b us e => by
  rcases e with (e | ⟨ob, e⟩) | e
  · exact .inl (.inl (by rw [upd_ne (ne_of e hp (by intro z; cases z))]; exact e))
  · exact .inl (.inr ⟨ob, by rw [upd_ne (ne_of e hp (by intro z; cases z))]; exact e⟩)
  · exact .inr e
theorem HR.other {p : Addr} {vs ws : List V} (hr : HR K H r h) (hp : H p = some (.lst vs)) (hn : p ∉ r) : HR K (upd H p (.lst ws)) r h where
  len := hr.len
  ob := fun n ob e => by
    obtain ⟨a, e1, q⟩ := hr.ob n ob e
    have ha : a ≠ p := fun z => hn (by rw [← z]; exact List.mem_of_getElem? e1)
    refine ⟨a, e1, ?_⟩
    cases ob with
    | lst ds =>
      obtain ⟨us, e2, e3⟩ := q
      exact ⟨us, by rw [upd_ne ha]; exact e2, e3.grow (fun _ _ z => z) (tups_other hp)⟩
    | frz ds =>
      obtain ⟨us, e2, e3⟩ := q
      refine ⟨us, ?_, e3.grow (fun _ _ z => z) (tups_other hp)⟩
      rcases e2 with ⟨o, e2⟩ | e2
      · exact .inl ⟨o, by rw [upd_ne ha]; exact e2⟩
      · exact .inr e2
  inj := hr.inj
theorem Fm.other {p : Addr} {vs ws : List V} (f : Fm K r r1 H H1) (h0 : H p = none) (hp : H1 p = some (.lst vs)) : Fm K r r1 H (upd H1 p (.lst ws)) where
  pre := f.pre
  new := f.new
  keep := fun a o e n => by rw [upd_ne (ne_of_none e h0)]; exact f.keep a o e n
  tups := fun a us e => tups_other hp a us (f.tups a us e)
theorem Fm.notin {p : Addr} {o : HO} (f : Fm K r r1 H H1) (hp : H p = some o) (hn : p ∉ r) : p ∉ r1 ∧ H1 p = some o := by
  refine ⟨fun z => ?_, f.keep p o hp hn⟩
  rcases f.new p z with q | q
  · exact hn q
  · rw [hp] at q; cases q
theorem HR.known {p : Addr} {ds : List Ev.D} {vs : List V} (hr : HR K H r h) (hp : H p = some (.lst vs)) (hn : p ∉ r) (q : RVs K H r ds vs) : HR K H (r ++ [p]) (h ++ [.lst ds]) := by
  have pre : ∀ (n : Nat) a, r[n]? = some a → (r ++ [p])[n]? = some a := fun n a e => by rw [List.getElem?_append_left (List.getElem?_eq_some_iff.mp e).1]; exact e
  refine ⟨by simp [hr.len], fun n ob e => ?_, fun n m a x y e1 e2 e3 e4 => ?_⟩
  · by_cases hk : n < h.length
    · rw [List.getElem?_append_left hk] at e
      obtain ⟨a, e1, z⟩ := hr.ob n ob e
      refine ⟨a, pre n a e1, ?_⟩
      cases ob with
      | lst ds => obtain ⟨us, e2, e3⟩ := z; exact ⟨us, e2, e3.grow pre fun _ _ z => z⟩
      | frz ds => obtain ⟨us, e2, e3⟩ := z; exact ⟨us, e2, e3.grow pre fun _ _ z => z⟩
    · have e2 := (List.getElem?_eq_some_iff.mp e).1
      simp only [List.length_append, List.length_singleton] at e2
      have e3 : n = h.length := by omega
      subst e3
      simp at e
      subst e
      exact ⟨p, by rw [← hr.len]; simp, vs, hp, q.grow pre fun _ _ z => z⟩
  · have out : ∀ (k : Nat) z, (h ++ [Ev.O.lst ds])[k]? = some (.lst z) → (r ++ [p])[k]? = some a → (k < h.length ∧ r[k]? = some a ∧ h[k]? = some (.lst z) ∧ a ≠ p) ∨ (k = h.length ∧ a = p) := fun k z q1 q2 => by
      by_cases hk : k < h.length
      · rw [List.getElem?_append_left hk] at q1
        rw [List.getElem?_append_left (by rw [hr.len]; exact hk)] at q2
        exact .inl ⟨hk, q2, q1, fun z => hn (by rw [← z]; exact List.mem_of_getElem? q2)⟩
      · have e5 := (List.getElem?_eq_some_iff.mp q1).1
        simp only [List.length_append, List.length_singleton] at e5
        have e6 : k = r.length := by rw [hr.len]; omega
        subst e6
        simp at q2
        exact .inr ⟨hr.len, q2.symm⟩
    rcases out n x e3 e1 with ⟨h1, h2, h3, h4⟩ | ⟨h1, h2⟩
    · rcases out m y e4 e2 with ⟨k1, k2, k3, k4⟩ | ⟨k1, k2⟩
      · exact hr.inj n m a x y h2 k2 h3 k3
      · exact absurd k2 h4
    · rcases out m y e4 e2 with ⟨k1, k2, k3, k4⟩ | ⟨k1, k2⟩
      · exact absurd h2 k4
      · rw [h1, k1]
theorem Fm.known {p : Addr} (f : Fm K r r1 H H1) (h0 : H p = none) : Fm K r (r1 ++ [p]) H H1 where
  pre := fun n a e => by
    have e' := f.pre n a e
    rw [List.getElem?_append_left (List.getElem?_eq_some_iff.mp e').1]; exact e'
  new := fun a e => by
    rcases List.mem_append.mp e with q | q
    · exact f.new a q
    · rw [List.mem_singleton] at q; subst q; exact .inr h0
  keep := f.keep
  tups := f.tups
end
end Sm
set_option Elab.async false
set_option linter.all false
set_option maxRecDepth 100000
namespace Sm
open PySem PySem.Spec PyProof.Rows L2
open Ev (D O Hh Fr R Phi E Es Eo It T S Ss Fl Src BOp COp TY BI ME)
section
variable (K : PySem.W.Frag)
noncomputable def Res (r : List Addr) (H : Hp) (h' : Hh) (d : D) (Q : VK) : Prop := ∀ v H' r', RV K H' r' d v → HR K H' r' h' → Fm K r r' H H' → Q v H'
structure SR (m : List Nat) (H : Hp) (r : List Addr) (fr : Fr) (s : L2.St) : Prop where
  len : s.length = m.length
  sl : ∀ (j i : Nat) d, m[j]? = some i → fr[i]? = some (some d) → ∃ v, s[j]? = some (some v) ∧ RV K H r d v
noncomputable def tJ (m : List Nat) (P : Phi) (e : E) : TE := fun s H Q => ∃ r fr h d h', SR K m H r fr s ∧ HR K H r h ∧ Ev.ev P e fr h = .ok d h' ∧ Res K r H h' d Q
noncomputable def tJT (m : List Nat) (P : Phi) (e : E) : TT := fun s H Q => ∃ r fr h k h', SR K m H r fr s ∧ HR K H r h ∧ Ev.evT P e fr h = .ok k h' ∧ ∀ H' r', HR K H' r' h' → Fm K r r' H H' → Q k H'
noncomputable def tJA (m : List Nat) (P : Phi) (es : Es) : TA := fun s H Q => ∃ r fr h ds h', SR K m H r fr s ∧ HR K H r h ∧ Ev.evs P es fr h = .ok ds h' ∧ ∀ vs H' r', RVs K H' r' ds vs → HR K H' r' h' → Fm K r r' H H' → Q vs H'
noncomputable def tJO (m : List Nat) (P : Phi) (e : Eo) : TO := fun s H Q => ∃ r fr h o h', SR K m H r fr s ∧ HR K H r h ∧ Ev.evo P e fr h = .ok o h' ∧ ∀ H' r', HR K H' r' h' → Fm K r r' H H' → Q o H'
noncomputable def rD2 (f : D → D → Hh → R D) : R2 := fun x y H Q => ∃ r h a b d h', HR K H r h ∧ RV K H r a x ∧ RV K H r b y ∧ f a b h = .ok d h' ∧ Res K r H h' d Q
noncomputable def rDn (f : List D → Hh → R D) : List V → Hp → VK → Prop := fun xs H Q => ∃ r h as d h', HR K H r h ∧ RVs K H r as xs ∧ f as h = .ok d h' ∧ Res K r H h' d Q
noncomputable def rDm (f : D → List D → Hh → R D) : V → List V → Hp → VK → Prop := fun x xs H Q => ∃ r h a as d h', HR K H r h ∧ RV K H r a x ∧ RVs K H r as xs ∧ f a as h = .ok d h' ∧ Res K r H h' d Q
noncomputable def rDs : V → Option Int → Option Int → Hp → VK → Prop := fun x lo hi H Q => ∃ r h a d h', HR K H r h ∧ RV K H r a x ∧ Ev.sld a lo hi h = .ok d h' ∧ Res K r H h' d Q
end
section
variable {K : PySem.W.Frag} {m : List Nat} {H H' : Hp} {r r' : List Addr} {fr : Fr} {s : L2.St} {h h' : Hh} {d : D} {Q : VK}
theorem SR.mono (a : SR K m H r fr s) (f : Fm K r r' H H') : SR K m H' r' fr s := ⟨a.len, fun j i d e1 e2 => by
  obtain ⟨v, q, z⟩ := a.sl j i d e1 e2
  exact ⟨v, q, z.mono f⟩⟩
theorem Res.here {v : V} (q : Res K r H h d Q) (a : RV K H r d v) (b : HR K H r h) : Q v H := q v H r a b .refl
theorem Res.later (q : Res K r H h' d Q) (f : Fm K r r' H H') : Res K r' H' h' d Q := fun v H2 r2 a b g => q v H2 r2 a b (f.trans g)
theorem Res.lst {ds : List D} {vs : List V} (q : Res K r H h' d Q) (e : Ev.alloc ds h = .ok d h') (a : RVs K H r ds vs) (b : HR K H r h) : vs.length ≤ sizeLine ∧ ∀ p, H p = none → Q (.ref p) (upd H p (.lst vs)) := by
  unfold Ev.alloc at e
  split at e
  · rename_i z
    cases e
    refine ⟨by rw [a.length, ← big_eq]; exact z, fun p hp => ?_⟩
    exact q _ _ (r ++ [p]) ⟨p, rfl, by rw [← b.len]; simp⟩ (b.lst hp a) (.laid hp)
  · cases e
theorem Res.tup {ds : List D} {vs : List V} (q : Res K r H h (.tup ds) Q) (a : RVs K H r ds vs) (b : HR K H r h) {p : Addr} (hp : H p = none) : Q (.ref p) (upd H p (.tup vs)) :=
  q _ _ r ⟨p, vs, rfl, .of upd_same, a.mono (.tup hp)⟩ (b.tup hp) (.tup hp)
end
theorem PE.of {X : Cx} {e : Expr} {t t' : TE} (h : PE X e t) (w : ∀ s H Q, t' s H Q → t s H Q) : PE X e t' := fun pins s σ H Q I q => h pins s σ H Q I (w _ _ _ q)
theorem PT.of {X : Cx} {e : Expr} {t t' : TT} (h : PT X e t) (w : ∀ s H Q, t' s H Q → t s H Q) : PT X e t' := fun pins s σ H Q I q => h pins s σ H Q I (w _ _ _ q)
theorem PW.of {X : Cx} {e : Expr} {t t' : TT} (h : PW X e t) (w : ∀ s H Q, t' s H Q → t s H Q) : PW X e t' := fun wh pins s σ H Q I q => h wh pins s σ H Q I (w _ _ _ q)
theorem PA.of {X : Cx} {es : List Expr} {t t' : TA} (h : PA X es t) (w : ∀ s H Q, t' s H Q → t s H Q) : PA X es t' := fun pos pins s σ H Q I q => h pos pins s σ H Q I (w _ _ _ q)
theorem PO.of {X : Cx} {e : Option Expr} {t t' : TO} (h : PO X e t) (w : ∀ s H Q, t' s H Q → t s H Q) : PO X e t' := fun pins s σ H Q I q => h pins s σ H Q I (w _ _ _ q)
structure FI where
  name : Str
  addr : Addr
  fd : FuncData
  ps : List Str
noncomputable def spF (K : PySem.W.Frag) (F : List Ev.Fn) (w n f : Nat) : Sp := fun vs H Q _ => ∃ r h ds d h', RVs K H r ds vs ∧ HR K H r h ∧ Ev.run F w n f ds h = .ok d h' ∧ Res K r H h' d Q
noncomputable def isC : D → V → Prop
  | .non, v => v = .non
  | .bl b, v => v = .bl b
  | .int i, v => v = .int i
  | .str s, v => v = .str (sOf s) ∧ s.length ≤ sizeLine
  | _, _ => False
theorem isC.rv {K : PySem.W.Frag} {H : Hp} {r : List Addr} {d : D} {v : V} (h : isC d v) : RV K H r d v := by
  cases d <;> simp only [isC] at h <;> simp only [RV] <;> first | exact h | exact h.elim
structure Tb where
  F : List Ev.Fn
  w : Nat
  fi : List FI
  bl : List Str
  cs : List (Str × D)
  dk : List (Str × List (D × D))
noncomputable def tabOf : List (D × D) → List (PyData × PyData)
  | (.str k, .str v) :: r => (.str (sOf k), .str (sOf v)) :: tabOf r
  | _ => []
structure Good (G : Tb) (n : Nat) (sc : Scope) (N : List Str) (df : Bool) (X : Cx) : Prop where
  nm : X.N = N
  sc : X.env.scope = sc
  calm : X.calm = true
  own : df = true → ∀ x, X.fn x = true
  room : Room n X.A
  xe : X.xe = fun _ _ => False
  fn : ∀ (f : Nat) i, G.fi[f]? = some i → X.mg i.name = some (.ref i.addr) ∧ PySem.W.keepIn X.K (.ref i.addr) = true ∧ Binds X.K i.fd i.ps [] ∧ FnOk X.prog X.w X.K X.mg X.base CX0 n i.addr i.fd i.ps (spF X.K G.F G.w n f)
  bl : ∀ x ∈ G.bl, X.mg x = none
  cs : ∀ x d, (x, d) ∈ G.cs → ∃ v u, X.mg x = some u ∧ RelV v u ∧ isC d v
  dk : ∀ x kvs, (x, kvs) ∈ G.dk → ∃ a, X.mg x = some (.ref a) ∧ ∀ h : Heap, X.K.In h → StrTab X.prog X.w h a (tabOf kvs)
section
variable (G : Tb) (n : Nat) (sc : Scope) (N : List Str) (df : Bool) (m : List Nat)
noncomputable def JE (e : E) (x : Expr) : Prop := ∀ X, Good G n sc N df X → PE X x (tJ X.K m (Ev.run G.F G.w n) e)
noncomputable def JT (e : E) (x : Expr) : Prop := ∀ X, Good G n sc N df X → PT X x (tJT X.K m (Ev.run G.F G.w n) e)
noncomputable def JW (e : E) (x : Expr) : Prop := ∀ X, Good G n sc N df X → PW X x (tJT X.K m (Ev.run G.F G.w n) e)
noncomputable def JA (es : Es) (xs : List Expr) : Prop := ∀ X, Good G n sc N df X → PA X xs (tJA X.K m (Ev.run G.F G.w n) es)
noncomputable def JO (e : Eo) (x : Option Expr) : Prop := ∀ X, Good G n sc N df X → PO X x (tJO X.K m (Ev.run G.F G.w n) e)
end
section
variable {G : Tb} {n : Nat} {sc : Scope} {N : List Str} {df : Bool} {m : List Nat} {a b c : E} {xa xb xc : Expr} {pos : Pos}
theorem Good.vis {X : Cx} (g : Good G n sc N df X) {x : Str} (h : sc.names.lookup x = some .local ∨ sc.names.lookup x = some .cell ∨ sc.names.lookup x = some .free) : Vis X.env.scope x := by
  rw [g.sc]; exact h
theorem Good.gl {X : Cx} (g : Good G n sc N df X) {x : Str} (h : sc.names.lookup x = some .globalImplicit) : Gl X x := by
  unfold Gl Env.kindOf; rw [g.sc]; exact h
theorem je_v (j i : Nat) {x : Str} (hj : m[j]? = some i := by rfl) (hN : N[j]? = some x := by rfl)
    (hv : sc.names.lookup x = some .local ∨ sc.names.lookup x = some .cell ∨ sc.names.lookup x = some .free := by first | exact Or.inl rfl | exact Or.inr (Or.inl rfl) | exact Or.inr (Or.inr rfl))
    (hd : (x == ("__debug__" : Str)) = false := by decide) (hcd : (x == ("__classdict__" : Str)) = false := by decide) : JE G n sc N df m (.v i) (.Name x pos) := by
  intro X g
  refine PE.of (pe_var (i := j) (by rw [g.nm]; exact hN) (g.vis hv) hd hcd) fun s H Q q => ?_
  obtain ⟨r, fr, h, d, h', sr, hr, e, q⟩ := q
  simp only [Ev.ev] at e
  obtain ⟨e2, e3⟩ := Ev.of_eq_ok e
  subst e3
  obtain ⟨v, q1, q2⟩ := sr.sl j i d hj (by
    cases z : fr[i]? with
    | none => rw [z] at e2; cases e2
    | some o =>
      rw [z] at e2
      have e' : o = some d := e2
      rw [e'])
  exact ⟨v, q1, q.here q2 hr⟩
theorem tC_of {K : PySem.W.Frag} {P : Phi} {d : D} {v : V} (hc : isC d v) : ∀ s H Q, tJ K m P (.c d) s H Q → tC v s H Q := fun s H Q q => by
  obtain ⟨r, fr, h, d', h', sr, hr, e, q⟩ := q
  simp only [Ev.ev] at e
  cases e
  exact q.here hc.rv hr
theorem je_int {i : Int} {j} : JE G n sc N df m (.c (.int i)) (.Constant (.int i) j pos) := fun X g => PE.of pe_int (tC_of rfl)
theorem je_bl {k : Bool} {j} : JE G n sc N df m (.c (.bl k)) (.Constant (.bool k) j pos) := fun X g => PE.of pe_bl (tC_of rfl)
theorem je_str {l : List Nat} {x : Str} {j} (hx : x = sOf l := by decide +kernel) (hl : l.length ≤ sizeLine := by decide) : JE G n sc N df m (.c (.str l)) (.Constant (.str x) j pos) :=
  fun X g => PE.of pe_str (tC_of (by subst hx; exact ⟨rfl, hl⟩))
theorem ja_nil : JA G n sc N df m .nil [] := fun X g => PA.of pa_nil fun s H Q q => by
  obtain ⟨r, fr, h, ds, h', sr, hr, e, q⟩ := q
  simp only [Ev.evs] at e
  cases e
  exact q [] H r .nil hr .refl
theorem ja_cons {es : Es} {xs : List Expr} (ha : JE G n sc N df m a xa) (hs : JA G n sc N df m es xs) (hst : ∀ env : Env, starEach (xa :: xs) env = (false, eval xa env) :: starEach xs env := by intro _; rfl) : JA G n sc N df m (.cons a es) (xa :: xs) :=
  fun X g => PA.of (pa_cons (ha X g) (hs X g) (hst _)) fun s H Q q => by
    obtain ⟨r, fr, h, ds, h', sr, hr, e, q⟩ := q
    simp only [Ev.evs] at e
    obtain ⟨d, h1, e1, e⟩ := Ev.bind_eq_ok e
    obtain ⟨ds', h2, e2, e⟩ := Ev.bind_eq_ok e
    cases e
    refine ⟨r, fr, h, d, h1, sr, hr, e1, fun v H1 r1 v1 hr1 f1 => ?_⟩
    refine ⟨r1, fr, h1, ds', _, sr.mono f1, hr1, e2, fun vs H2 r2 v2 hr2 f2 => ?_⟩
    exact q _ H2 r2 (.cons (v1.mono f2) v2) hr2 (f1.trans f2)
theorem je_tup {es : Es} {xs : List Expr} {k} (hs : JA G n sc N df m es xs) : JE G n sc N df m (.tup es) (.Tuple xs k pos) := fun X g => PE.of (pe_tup (hs X g)) fun s H Q q => by
  obtain ⟨r, fr, h, d, h', sr, hr, e, q⟩ := q
  simp only [Ev.ev] at e
  obtain ⟨ds, h1, e1, e⟩ := Ev.bind_eq_ok e
  split at e
  · rename_i z
    cases e
    refine ⟨r, fr, h, ds, _, sr, hr, e1, fun vs H1 r1 v1 hr1 f1 => ⟨by rw [v1.length, ← big_eq]; exact z, fun p hp => ?_⟩⟩
    exact (q.later f1).tup v1 hr1 hp
  · cases e
theorem je_lst {es : Es} {xs : List Expr} (hs : JA G n sc N df m es xs) : JE G n sc N df m (.lst es) (.List xs pos) := fun X g => PE.of (pe_lst (hs X g)) fun s H Q q => by
  obtain ⟨r, fr, h, d, h', sr, hr, e, q⟩ := q
  simp only [Ev.ev] at e
  obtain ⟨ds, h1, e1, e⟩ := Ev.bind_eq_ok e
  refine ⟨r, fr, h, ds, h1, sr, hr, e1, fun vs H1 r1 v1 hr1 f1 => ?_⟩
  exact (q.later f1).lst e v1 hr1
theorem two_of {K : PySem.W.Frag} {P : Phi} {f : D → D → Hh → R D} {e' : E} (he : ∀ fr h, Ev.ev P e' fr h = (Ev.ev P a fr h).bind fun x h1 => (Ev.ev P b fr h1).bind fun y h2 => f x y h2) :
    ∀ s H Q, tJ K m P e' s H Q → tOp (rD2 K f) (tJ K m P a) (tJ K m P b) s H Q := fun s H Q q => by
  obtain ⟨r, fr, h, d, h', sr, hr, e, q⟩ := q
  rw [he] at e
  obtain ⟨x, h1, e1, e⟩ := Ev.bind_eq_ok e
  obtain ⟨y, h2, e2, e⟩ := Ev.bind_eq_ok e
  refine ⟨r, fr, h, x, h1, sr, hr, e1, fun v H1 r1 v1 hr1 f1 => ?_⟩
  refine ⟨r1, fr, h1, y, h2, sr.mono f1, hr1, e2, fun u H2 r2 v2 hr2 f2 => ?_⟩
  exact ⟨r2, h2, x, y, d, h', hr2, v1.mono f2, v2, e, q.later (f1.trans f2)⟩
theorem je_bin {o : BOp} {op : Operator} (ho : ∀ X, Good G n sc N df X → OpR X (binaryOp op) (rD2 X.K (Ev.bop o))) (ha : JE G n sc N df m a xa) (hb : JE G n sc N df m b xb) : JE G n sc N df m (.bin o a b) (.BinOp xa op xb pos) :=
  fun X g => PE.of (pe_op (ho X g) (ha X g) (hb X g)) (two_of fun fr h => by simp only [Ev.ev])
noncomputable def cmpD (o : COp) : D → D → Hh → R D := fun x y h => R.of ((Ev.cop o x y h).map .bl) h
theorem je_cmp {o : COp} {op : CmpOp} (ho : ∀ X, Good G n sc N df X → OpR X (compareOp op) (rD2 X.K (cmpD o))) (ha : JE G n sc N df m a xa) (hb : JE G n sc N df m b xb) (hm : behindInMarks op xb = false) : JE G n sc N df m (.cmp o a b) (.Compare xa [op] [xb] pos) :=
  fun X g => PE.of (pe_cmpR (ho X g) (ha X g) (hb X g) hm) (two_of fun fr h => by simp only [Ev.ev, cmpD])
theorem cmpD_ok {o : COp} {x y d : D} {h h' : Hh} (e : cmpD o x y h = .ok d h') : ∃ k, Ev.cop o x y h = some k ∧ d = .bl k ∧ h' = h := by
  unfold cmpD at e
  obtain ⟨e1, rfl⟩ := Ev.of_eq_ok e
  cases z : Ev.cop o x y h' with
  | none => rw [z] at e1; cases e1
  | some k => rw [z] at e1; cases e1; exact ⟨k, rfl, rfl, rfl⟩
theorem jt_cmp {o : COp} {op : CmpOp} (ho : ∀ X, Good G n sc N df X → OpR X (compareOp op) (rD2 X.K (cmpD o))) (ha : JE G n sc N df m a xa) (hb : JE G n sc N df m b xb) (hm : behindInMarks op xb = false) : JT G n sc N df m (.cmp o a b) (.Compare xa [op] [xb] pos) :=
  fun X g => PT.of (pt_cmpR (ho X g) (ha X g) (hb X g) hm) fun s H Q q => by
    obtain ⟨r, fr, h, k, h', sr, hr, e, q⟩ := q
    simp only [Ev.evT] at e
    obtain ⟨d, h1, e1, e⟩ := Ev.bind_eq_ok e
    have e0 := e1
    simp only [Ev.ev] at e0
    obtain ⟨x, h2, _, e0⟩ := Ev.bind_eq_ok e0
    obtain ⟨y, h3, _, e0⟩ := Ev.bind_eq_ok e0
    obtain ⟨k', e2, e3, e4⟩ := cmpD_ok (o := o) (show cmpD o x y h3 = _ from e0)
    subst e3
    simp only [Ev.truthy] at e
    cases e
    refine two_of (e' := .cmp o a b) (f := cmpD o) (fun fr h => by simp only [Ev.ev, cmpD]) s H _ ⟨r, fr, h, .bl k, _, sr, hr, e1, fun v H1 r1 v1 hr1 f1 => ?_⟩
    exact ⟨k, v1, q H1 r1 hr1 f1⟩
end
end Sm
set_option Elab.async false
set_option linter.all false
set_option maxRecDepth 100000
namespace Sm
open PySem PySem.Spec PyProof.Rows L2
open Ev (D O Hh Fr R Phi E Es Eo It T S Ss Fl Src BOp COp TY BI ME)
section
variable {G : Tb} {n : Nat} {sc : Scope} {N : List Str} {df : Bool} {m : List Nat} {a b c : E} {xa xb xc : Expr} {pos : Pos}
theorem je_neg (ha : JE G n sc N df m a xa) : JE G n sc N df m (.neg a) (.UnaryOp .USub xa pos) := fun X g => PE.of (pe_un un_neg (ha X g)) fun s H Q q => by
  obtain ⟨r, fr, h, d, h', sr, hr, e, q⟩ := q
  simp only [Ev.ev] at e
  obtain ⟨x, h1, e1, e⟩ := Ev.bind_eq_ok e
  split at e
  · cases e
    exact ⟨r, fr, h, _, _, sr, hr, e1, fun v H1 r1 v1 hr1 f1 => ⟨_, v1, (q.later f1).here rfl hr1⟩⟩
  · cases e
theorem je_ife (ha : JT G n sc N df m a xa) (hb : JE G n sc N df m b xb) (hc : JE G n sc N df m c xc) : JE G n sc N df m (.ife a b c) (.IfExp xa xb xc pos) := fun X g => PE.of (pe_ifExp (ha X g) (hb X g) (hc X g)) fun s H Q q => by
  obtain ⟨r, fr, h, d, h', sr, hr, e, q⟩ := q
  simp only [Ev.ev] at e
  obtain ⟨k, h1, e1, e⟩ := Ev.bind_eq_ok e
  refine ⟨r, fr, h, k, h1, sr, hr, e1, fun H1 r1 hr1 f1 => ?_⟩
  cases k with
  | true => exact ⟨r1, fr, h1, d, h', sr.mono f1, hr1, e, q.later f1⟩
  | false => exact ⟨r1, fr, h1, d, h', sr.mono f1, hr1, e, q.later f1⟩
theorem jt_w (h : JW G n sc N df m a xa) : JT G n sc N df m a xa := fun X g => (h X g).pt
theorem jw_an1 (ha : JT G n sc N df m a xa) : JW G n sc N df m a (.BoolOp .And [xa] pos) := fun X g => pw_and1 (ha X g)
theorem jw_orr1 (ha : JT G n sc N df m a xa) : JW G n sc N df m a (.BoolOp .Or [xa] pos) := fun X g => pw_or1 (ha X g)
theorem jw_an {rest : List Expr} (ha : JT G n sc N df m a xa) (hb : JW G n sc N df m b (.BoolOp .And (xb :: rest) pos)) : JW G n sc N df m (.an a b) (.BoolOp .And (xa :: xb :: rest) pos) := fun X g => PW.of (pw_and (ha X g) (hb X g)) fun s H Q q => by
  obtain ⟨r, fr, h, k, h', sr, hr, e, q⟩ := q
  simp only [Ev.evT] at e
  obtain ⟨k1, h1, e1, e⟩ := Ev.bind_eq_ok e
  refine ⟨r, fr, h, k1, h1, sr, hr, e1, fun H1 r1 hr1 f1 => ?_⟩
  cases k1 with
  | true => exact ⟨r1, fr, h1, k, h', sr.mono f1, hr1, e, fun H2 r2 hr2 f2 => q H2 r2 hr2 (f1.trans f2)⟩
  | false =>
    have e' : R.ok false h1 = R.ok k h' := e
    cases e'
    exact q H1 r1 hr1 f1
theorem jw_orr {rest : List Expr} (ha : JT G n sc N df m a xa) (hb : JW G n sc N df m b (.BoolOp .Or (xb :: rest) pos)) : JW G n sc N df m (.orr a b) (.BoolOp .Or (xa :: xb :: rest) pos) := fun X g => PW.of (pw_or (ha X g) (hb X g)) fun s H Q q => by
  obtain ⟨r, fr, h, k, h', sr, hr, e, q⟩ := q
  simp only [Ev.evT] at e
  obtain ⟨k1, h1, e1, e⟩ := Ev.bind_eq_ok e
  refine ⟨r, fr, h, k1, h1, sr, hr, e1, fun H1 r1 hr1 f1 => ?_⟩
  cases k1 with
  | false => exact ⟨r1, fr, h1, k, h', sr.mono f1, hr1, e, fun H2 r2 hr2 f2 => q H2 r2 hr2 (f1.trans f2)⟩
  | true =>
    have e' : R.ok true h1 = R.ok k h' := e
    cases e'
    exact q H1 r1 hr1 f1
theorem tru_of {K : PySem.W.Frag} {H : Hp} {r : List Addr} {h : Hh} {d : D} {v : V} {k : Bool} (hr : HR K H r h) (v1 : RV K H r d v) (e : Ev.truthy h d = some k) : TruV K v H k := by
  cases d with
  | non => simp only [RV] at v1; subst v1; cases e; rfl
  | bl x => simp only [RV] at v1; subst v1; cases e; rfl
  | int x => simp only [RV] at v1; subst v1; cases e; rfl
  | str x =>
    simp only [RV] at v1
    obtain ⟨rfl, z⟩ := v1
    cases e
    refine ⟨by rw [sOf_len]; exact z, ?_⟩
    rw [sOf_len]
    cases x with
    | nil => rfl
    | cons c l => simp; omega
  | tup ds =>
    simp only [RV] at v1
    obtain ⟨p, vs, rfl, z, q⟩ := v1
    cases e
    refine .inr (.inl ⟨vs, z, ?_⟩)
    have hl := q.length
    cases ds <;> cases vs <;> simp_all
  | ref i =>
    simp only [RV] at v1
    obtain ⟨p, rfl, z⟩ := v1
    simp only [Ev.truthy, Option.map_eq_some_iff] at e
    obtain ⟨ds, e1, rfl⟩ := e
    obtain ⟨p', vs, e2, q1, q2⟩ := hr.read e1
    rw [z] at e2; cases e2
    refine .inl ⟨vs, q1, ?_⟩
    have hl := q2.length
    cases ds <;> cases vs <;> simp_all
theorem jt_val (ha : JE G n sc N df m a xa) (he : ∀ (P : Phi) fr h, Ev.evT P a fr h = (Ev.ev P a fr h).bind fun x h1 => R.of (Ev.truthy h1 x) h1 := by intros; simp only [Ev.evT])
    (hx : ∀ (env : Env) whole, isTrue xa env whole = (do let v ← whole; standAt xa.pos; holding [v] (truthy v)) := by intro _ _; rfl) : JT G n sc N df m a xa := fun X g => PT.of (pt_truth (ha X g) (hx _)) fun s H Q q => by
  obtain ⟨r, fr, h, k, h', sr, hr, e, q⟩ := q
  rw [he] at e
  obtain ⟨d, h1, e1, e⟩ := Ev.bind_eq_ok e
  obtain ⟨e, rfl⟩ := Ev.of_eq_ok e
  refine ⟨r, fr, h, d, _, sr, hr, e1, fun v H1 r1 v1 hr1 f1 => ⟨k, tru_of hr1 v1 e, q H1 r1 hr1 f1⟩⟩
noncomputable def ixR : D → D → Hh → R D := fun x y h => R.of (Ev.ixd x y h) h
theorem je_ix (ho : ∀ X, Good G n sc N df X → IxR X (rD2 X.K ixR)) (ha : JE G n sc N df m a xa) (hb : JE G n sc N df m b xb) (hs : PlainIx xb := by intro _ _; rfl) : JE G n sc N df m (.ix a b) (.Subscript xa xb pos) :=
  fun X g => PE.of (pe_ix (ho X g) (ha X g) (hb X g) hs) (two_of fun fr h => by simp only [Ev.ev, ixR])
theorem jo_yes (ha : JE G n sc N df m a xa) : JO G n sc N df m (.yes a) (some xa) := fun X g => PO.of (po_some (ha X g)) fun s H Q q => by
  obtain ⟨r, fr, h, o, h', sr, hr, e, q⟩ := q
  simp only [Ev.evo] at e
  obtain ⟨d, h1, e1, e⟩ := Ev.bind_eq_ok e
  obtain ⟨e, rfl⟩ := Ev.of_eq_ok e
  cases d with
  | int i =>
    cases e
    exact ⟨r, fr, h, .int i, _, sr, hr, e1, fun v H1 r1 v1 hr1 f1 => ⟨i, v1, q H1 r1 hr1 f1⟩⟩
  | _ => cases e
theorem je_sl {lo hi : Eo} {xl xh : Option Expr} {p2} (ho : ∀ X, Good G n sc N df X → SlR X (rDs X.K)) (ha : JE G n sc N df m a xa) (hl : JO G n sc N df m lo xl) (hu : JO G n sc N df m hi xh) : JE G n sc N df m (.sl a lo hi) (.Subscript xa (.Slice xl xh none p2) pos) :=
  fun X g => PE.of (pe_slice (ho X g) (ha X g) (hl X g) (hu X g)) fun s H Q q => by
    obtain ⟨r, fr, h, d, h', sr, hr, e, q⟩ := q
    simp only [Ev.ev] at e
    obtain ⟨x, h1, e1, e⟩ := Ev.bind_eq_ok e
    obtain ⟨l, h2, e2, e⟩ := Ev.bind_eq_ok e
    obtain ⟨u, h3, e3, e⟩ := Ev.bind_eq_ok e
    refine ⟨r, fr, h, x, h1, sr, hr, e1, fun v H1 r1 v1 hr1 f1 => ?_⟩
    refine ⟨r1, fr, h1, l, h2, sr.mono f1, hr1, e2, fun H2 r2 hr2 f2 => ?_⟩
    refine ⟨r2, fr, h2, u, h3, (sr.mono f1).mono f2, hr2, e3, fun H3 r3 hr3 f3 => ?_⟩
    exact ⟨r3, h3, x, d, h', hr3, (v1.mono f2).mono f3, e, q.later ((f1.trans f2).trans f3)⟩
theorem args_of {K : PySem.W.Frag} {P : Phi} {es : Es} {f : List D → Hh → R D} {e' : E} (he : ∀ fr h, Ev.ev P e' fr h = (Ev.evs P es fr h).bind f) :
    ∀ s H Q, tJ K m P e' s H Q → tCB (rDn K f) (tJA K m P es) s H Q := fun s H Q q => by
  obtain ⟨r, fr, h, d, h', sr, hr, e, q⟩ := q
  rw [he] at e
  obtain ⟨ds, h1, e1, e⟩ := Ev.bind_eq_ok e
  exact ⟨r, fr, h, ds, h1, sr, hr, e1, fun vs H1 r1 v1 hr1 f1 => ⟨r1, h1, ds, d, h', hr1, v1, e, q.later f1⟩⟩
theorem je_bi {k : BI} {es : Es} {x : Str} {id : String} {e0 : Expr} {xs : List Expr} {p : Pos} (hc : ∀ X, Good G n sc N df X → CallR X (.builtin id) (rDn X.K (Ev.bfn k))) (hs : JA G n sc N df m es (e0 :: xs)) (hb : x ∈ G.bl := by decide +kernel)
    (hg : sc.names.lookup x = some .globalImplicit := by rfl) (hv : bootBuiltins x = some (.builtin id)) (hn : x ≠ "__name__" := by decide) (hd : (x == ("__debug__" : Str)) = false := by decide)
    (hst : ∀ env : Env, starEach (e0 :: xs) env = (false, eval e0 env) :: starEach xs env := by intro _; rfl) (hpl : ∀ env : Env, (backTo pos (starEach xs env)).any (·.1) = false := by intro _; rfl) :
    JE G n sc N df m (.bi k es) (.Call (.Name x p) (e0 :: xs) [] pos) :=
  fun X g => PE.of (pe_callB (hc X g) (g.gl hg) (g.bl x hb) hv (hs X g) hn hd (hst _) (hpl _)) (args_of fun fr h => by simp only [Ev.ev])
theorem je_cl {f : Nat} {i : FI} {es : Es} {e0 : Expr} {xs : List Expr} {p : Pos} (hf : G.fi[f]? = some i) (hs : JA G n sc N df m es (e0 :: xs))
    (hg : sc.names.lookup i.name = some .globalImplicit := by rfl) (hd : (i.name == ("__debug__" : Str)) = false := by decide)
    (hst : ∀ env : Env, starEach (e0 :: xs) env = (false, eval e0 env) :: starEach xs env := by intro _; rfl) (hpl : ∀ env : Env, (backTo pos (starEach xs env)).any (·.1) = false := by intro _; rfl) :
    JE G n sc N df m (.cl f es) (.Call (.Name i.name p) (e0 :: xs) [] pos) := fun X g => by
  obtain ⟨h1, h2, h3, h4⟩ := g.fn f i hf
  refine PE.of (pe_call h4 g.room (g.gl hg) h1 h2 h3 .nil pass0 (hs X g) hd (hst _) (hpl _)) fun s H Q q => ?_
  obtain ⟨r, fr, h, d, h', sr, hr, e, q⟩ := q
  simp only [Ev.ev] at e
  obtain ⟨ds, h5, e1, e⟩ := Ev.bind_eq_ok e
  refine ⟨r, fr, h, ds, h5, sr, hr, e1, fun vs H1 r1 v1 hr1 f1 => ?_⟩
  exact ⟨r1, h5, ds, d, h', by rw [List.append_nil]; exact v1, hr1, e, q.later f1⟩
noncomputable def meTy : ME → String
  | .join => "str"
  | _ => "list"
theorem rcv_ty {K : PySem.W.Frag} {H : Hp} {r : List Addr} {h : Hh} {k : ME} {d : D} {v : V} {ty : String} (hr : HR K H r h) (v1 : RV K H r d v) (e : Ev.rcv k d h = true) (ht : ty = meTy k) : tyV K ty v H := by
  subst ht
  have lst : ∀ i, d = .ref i → (Ev.lstOf h i).isSome = true → tyV K "list" v H := fun i ed es => by
    subst ed
    obtain ⟨ds, e1⟩ := Option.isSome_iff_exists.mp es
    obtain ⟨p, vs, e2, q1, q2⟩ := hr.read e1
    simp only [RV] at v1
    obtain ⟨p', rfl, e3⟩ := v1
    rw [e2] at e3; cases e3
    exact .inl ⟨rfl, vs, q1⟩
  cases k with
  | join =>
    cases d with
    | str l => simp only [RV] at v1; obtain ⟨rfl, _⟩ := v1; rfl
    | _ => cases e
  | append => cases d with | ref i => exact lst i rfl e | _ => cases e
  | extend => cases d with | ref i => exact lst i rfl e | _ => cases e
  | pop => cases d with | ref i => exact lst i rfl e | _ => cases e
  | count => cases d with | ref i => exact lst i rfl e | _ => cases e
  | index => cases d with | ref i => exact lst i rfl e | _ => cases e
  | setsl => cases d with | ref i => exact lst i rfl e | _ => cases e
theorem je_me {k : ME} {es : Es} {e0 : Expr} {xs : List Expr} {name : Str} {apos : Pos} {ty id : String} (pa : PlainAttrs ty) (slot : Slot ty name id) (hty : typeOf (.builtin id) = pure (.type "method_descriptor"))
    (hm : ∀ X, Good G n sc N df X → MtR X id (rDm X.K (Ev.mef k))) (ht : ty = meTy k) (ha : JE G n sc N df m a xa) (hs : JA G n sc N df m es (e0 :: xs))
    (hbase : ∀ env : Env, attributeBase xa name env (eval xa env) = eval xa env := by intro _; rfl)
    (hfew : ∀ env : Env, ((backTo pos (starEach (e0 :: xs) env)).all (fun x => !x.1) && (backToKw pos (keywordEach [] env)).all (fun x => x.1.isSome)
      && decide ((e0 :: xs).length + ([] : List Keyword).length + (if ([] : List Keyword).isEmpty then 0 else 1) < 30)) = true := by intro _; rfl)
    (hline : (apos.endLine == pos.line) = true := by rfl) (hst : ∀ env : Env, starEach (e0 :: xs) env = (false, eval e0 env) :: starEach xs env := by intro _; rfl) (hpl : ∀ env : Env, (backTo pos (starEach xs env)).any (·.1) = false := by intro _; rfl) :
    JE G n sc N df m (.me k a es) (.Call (.Attribute xa name apos) (e0 :: xs) [] pos) := fun X g =>
  PE.of (pe_bm pa slot hty (hm X g) (ha X g) (hs X g) (hbase _) (hfew _) hline (hst _) (hpl _)) fun s H Q q => by
    obtain ⟨r, fr, h, d, h', sr, hr, e, q⟩ := q
    simp only [Ev.ev] at e
    obtain ⟨x, h1, e1, e⟩ := Ev.bind_eq_ok e
    split at e
    · rename_i hk
      obtain ⟨ds, h2, e2, e⟩ := Ev.bind_eq_ok e
      refine ⟨r, fr, h, x, h1, sr, hr, e1, fun v H1 r1 v1 hr1 f1 => ⟨rcv_ty hr1 v1 hk ht, ?_⟩⟩
      refine ⟨r1, fr, h1, ds, h2, sr.mono f1, hr1, e2, fun vs H2 r2 v2 hr2 f2 => ?_⟩
      exact ⟨r2, h2, x, ds, d, h', hr2, v1.mono f2, v2, e, q.later (f1.trans f2)⟩
    · cases e
end
end Sm
set_option Elab.async false
set_option linter.all false
set_option maxRecDepth 100000
namespace Sm
open PySem PySem.Spec PyProof.Rows L2
open Ev (D O Hh Fr R Phi E Es Eo T S Ss Fl Src BOp COp TY BI ME)
noncomputable def ItOf (K : PySem.W.Frag) (r0 : List Addr) (H0 : Hp) (s : Src) (J : L2.It) : Prop := ∀ (i : Nat) H1 r1 h1, HR K H1 r1 h1 → Fm K r0 r1 H0 H1 → Ev.stays h1 s.2 = true →
  (∀ d, s.1[i]? = some d → J.go i H1 ∧ ∀ x H2, J.yld i H1 x H2 → ∃ r2, RV K H2 r2 d x ∧ HR K H2 r2 h1 ∧ Fm K r1 r2 H1 H2) ∧ (s.1.length ≤ i → J.stop i H1)
noncomputable def tJI (K : PySem.W.Frag) (m : List Nat) (P : Phi) (it : Ev.It) : TI := fun s H Rr => ∃ r fr h src h', SR K m H r fr s ∧ HR K H r h ∧ Ev.evi P it fr h = .ok src h' ∧
  ∀ J H' r', HR K H' r' h' → Fm K r r' H H' → ItOf K r' H' src J → Rr J H'
noncomputable def JI (G : Tb) (n : Nat) (sc : Scope) (N : List Str) (df : Bool) (m : List Nat) (it : Ev.It) (tg x : Expr) : Prop := ∀ X, Good G n sc N df X → PI X tg x (tJI X.K m (Ev.run G.F G.w n) it)
noncomputable def Its (z : Str) : L2.It := ⟨fun i _ => i < z.length, fun i H x H' => H' = H ∧ ∃ c, z.cps[i]? = some c ∧ x = .str ⟨#[c]⟩, fun i _ => z.length ≤ i⟩
theorem go_str {M : Model} {A : Around} {E : Value → Shared → Prop} {s : Shared} {tg : Expr} {it : Value} {x : Str} {t : Tok} {Q : Unit → Shared → Prop} (hQ : Q () s) : wpAny M A (letOwnedTupleGo tg it (.str x t)) Q E s := by
  unfold letOwnedTupleGo
  cases tg <;> first
    | exact wpAny_pure hQ
    | (cases it <;> exact wpAny_pure hQ)
theorem turn_str {P : Program} {w : World} {K : PySem.W.Frag} {tg : Expr} (z : Str) (t : Tok) (it : Addr) (ty : String) (hty : ty = "str_ascii_iterator" ∨ ty = "str_iterator") :
    Turn P w K tg (Its z) [it] it (fun i h => h.IsStrIter it ty z t i) where
  mem := by simp
  obj := fun i h st b hb => by
    have e : b = it := by simpa using hb
    subst e
    obtain ⟨o, e, c, d⟩ := st
    exact ⟨o, e, fun v z => by rw [d] at z; cases z⟩
  keep := fun i h h' st k => by
    obtain ⟨o, e, c, d⟩ := st
    exact ⟨o, k it (by simp) o e, c, d⟩
  item := by
    intro X hP hw hK hc i pins s σ H E I hf st hg
    subst hP hw hK
    obtain ⟨f0, f1, f2, f3, f4, f5⟩ := hf it (by simp)
    have W : Walks X.prog X.w X.A it [it] [it] z.cps.size (SignAt z) (fun i h => h.IsStrIter it ty z t i) := by
      rcases hty with e | e
      · subst e; exact Walks.strAscii (I.ok.hd hc) it z t
      · subst e; exact Walks.strWide (I.ok.hd hc) it z t
    refine W.item i s _ _ hg st fun v h' tk hv st' kk => ?_
    obtain ⟨c, u, hc', rfl⟩ := hv
    have I1 : Inv X pins σ H { s with heap := h', toks := tk } := I.turned (fun b o hb e => kk b o (by simpa using hb) e) f0 f1 f3 f4 f5
    exact ⟨_, rfl, go_str ⟨.str ⟨#[c]⟩, H, I1, ⟨u, rfl⟩, ⟨rfl, c, hc', rfl⟩, st', fun b hb => (hf b hb).1⟩⟩
  done := by
    intro X hP hw hK hc i pins s σ H E I hf st hg
    subst hP hw hK
    obtain ⟨f0, f1, f2, f3, f4, f5⟩ := hf it (by simp)
    rcases hty with e | e
    · subst e
      exact wpAny_pyNext_ascii_end (I.ok.hd hc) st (by simpa [Str.length, Its] using hg) fun h' eb => ⟨rfl, I.turned (t' := s.toks) (fun b o hb e => eb b o hb e) f0 f1 f3 f4 f5⟩
    · subst e
      exact wpAny_pyNext_wide_end (I.ok.hd hc) st (by simpa [Str.length, Its] using hg) fun h' eb => ⟨rfl, I.turned (t' := s.toks) (fun b o hb e => eb b o hb e) f0 f1 f3 f4 f5⟩
  self := fun _ _ _ _ _ st h => by
    rcases hty with e | e
    · subst e; exact wpAny_pyIter_striter_ascii st h
    · subst e; exact wpAny_pyIter_striter_wide st h
noncomputable def IterV (K : PySem.W.Frag) (x : V) (H : Hp) (Rr : L2.It → Hp → Prop) : Prop :=
  (∃ a xs, x = .ref a ∧ SqL K H a xs ∧ Rr (Itl K a) H) ∨ (∃ a xs, x = .ref a ∧ SqT K H a xs ∧ Rr (Itt K a) H) ∨ ∃ z, x = .str z ∧ Rr (Its z) H
theorem pi_any {X : Cx} {tg l : Expr} {tl : TE} {wi : TI} (hl : PE X l tl) (hw : ∀ s H Rr, wi s H Rr → tl s H fun x H1 => IterV X.K x H1 Rr) : PI X tg l wi := by
  intro pins s σ H Rr I h
  refine thn (hl pins s σ H _ I (hw _ _ _ h)) fun v s1 ⟨x, H1, I1, r1, q1⟩ => ?_
  have fp : ∀ (o : Obj) b, b ∈ [s1.heap.objs.size] → FpOk X pins H1 b := fun o b hb => by
    have e : b = s1.heap.objs.size := by simpa using hb
    subst e
    exact I1.fpOk (Nat.le_refl _) (I1.hok.fresh (Nat.le_refl _))
  rcases q1 with ⟨a, xs, rfl, hq, q⟩ | ⟨a, xs, rfl, hq, q⟩ | ⟨z, rfl, q⟩
  · cases r1
    obtain ⟨its, rv, p, hz⟩ := I1.list hq
    refine wpAny_pyIter_list p.isList ?_
    exact ⟨s1.heap.objs.size, [s1.heap.objs.size], _, _, H1, rfl, I1.kept (t' := s1.toks) fun b o e => Heap.get?_push_of_some _ e, turn_list a _, ⟨_, Heap.get?_push_size _ rfl, rfl, rfl⟩, fp default, q⟩
  · cases r1
    obtain ⟨its, rv, p, hz⟩ := I1.tuple hq
    refine wpAny_pyIter_tuple (show s1.heap.IsTuple a its.toArray from p) ?_
    exact ⟨s1.heap.objs.size, [s1.heap.objs.size], _, _, H1, rfl, I1.kept (t' := s1.toks) fun b o e => Heap.get?_push_of_some _ e, turn_tuple a _, ⟨_, Heap.get?_push_size _ rfl, rfl, rfl⟩, fp default, q⟩
  · obtain ⟨t, rfl⟩ := r1
    cases ha : z.cps.all (· < 128)
    · refine wpAny_pyIter_wide ha ?_
      exact ⟨s1.heap.objs.size, [s1.heap.objs.size], _, _, H1, rfl, I1.kept (t' := s1.toks) fun b o e => Heap.get?_push_of_some _ e, turn_str z t _ _ (.inr rfl), ⟨_, Heap.get?_push_size _ rfl, rfl, rfl⟩, fp default, q⟩
    · refine wpAny_pyIter_ascii ha ?_
      exact ⟨s1.heap.objs.size, [s1.heap.objs.size], _, _, H1, rfl, I1.kept (t' := s1.toks) fun b o e => Heap.get?_push_of_some _ e, turn_str z t _ _ (.inl rfl), ⟨_, Heap.get?_push_size _ rfl, rfl, rfl⟩, fp default, q⟩
theorem stays_one {h : Hh} {n : Nat} {ds : List D} (e : Ev.stays h [(n, ds)] = true) : Ev.lstOf h n = some ds := by
  simp only [Ev.stays, Bool.and_true] at e
  split at e
  · rename_i es q
    rw [q, (Ev.sameL_iff _ _).mp e]
  · cases e
theorem iter_of {K : PySem.W.Frag} {H : Hp} {r : List Addr} {h : Hh} {d : D} {v : V} {src : Src} {Rr : L2.It → Hp → Prop} (hr : HR K H r h) (v1 : RV K H r d v) (e : Ev.seqOf h d = some src) (q : ∀ J, ItOf K r H src J → Rr J H) : IterV K v H Rr := by
  cases d with
  | tup ds =>
    simp only [RV] at v1
    obtain ⟨a, vs, rfl, z, w⟩ := v1
    cases e
    refine .inr (.inl ⟨a, vs, rfl, z, q _ fun i H1 r1 h1 hr1 f1 st => ⟨fun d' e' => ?_, fun hl => ?_⟩⟩)
    · obtain ⟨u, e1, e2⟩ := w.get e'
      refine ⟨⟨vs, u, f1.tups _ _ z, e1⟩, fun x H2 y => ?_⟩
      obtain ⟨rfl, y⟩ := y
      have := y vs (f1.tups _ _ z)
      rw [e1] at this; cases this
      exact ⟨r1, e2.mono f1, hr1, .refl⟩
    · exact ⟨vs, f1.tups _ _ z, by rw [w.length]; exact hl⟩
  | str l =>
    simp only [RV] at v1
    obtain ⟨rfl, z⟩ := v1
    cases e
    refine .inr (.inr ⟨_, rfl, q _ fun i H1 r1 h1 hr1 f1 st => ⟨fun d' e' => ?_, fun hl => ?_⟩⟩)
    · rw [List.getElem?_map] at e'
      cases e2 : l[i]? with
      | none => rw [e2] at e'; cases e'
      | some c =>
        rw [e2] at e'
        cases e'
        refine ⟨by show i < (sOf l).length; rw [sOf_len]; exact (List.getElem?_eq_some_iff.mp e2).1, fun x H2 y => ?_⟩
        obtain ⟨rfl, c', y1, rfl⟩ := y
        have e3 : (sOf l).cps[i]? = some c := by simp [sOf, e2]
        rw [e3] at y1; cases y1
        exact ⟨r1, ⟨rfl, by show 1 ≤ sizeLine; decide⟩, hr1, .refl⟩
    · show (sOf l).length ≤ i
      rw [sOf_len]; simpa using hl
  | ref k =>
    simp only [RV] at v1
    obtain ⟨a, rfl, z⟩ := v1
    simp only [Ev.seqOf, Option.map_eq_some_iff] at e
    obtain ⟨ds, e1, rfl⟩ := e
    obtain ⟨a', vs, e2, e3, e4⟩ := hr.read e1
    rw [z] at e2; cases e2
    refine .inl ⟨a, vs, rfl, e3, q _ fun i H1 r1 h1 hr1 f1 st => ?_⟩
    obtain ⟨a', us, e5, e6, e7⟩ := hr1.read (stays_one st)
    rw [f1.pre _ _ z] at e5; cases e5
    refine ⟨fun d' e' => ?_, fun hl => ⟨us, e6, by rw [e7.length]; exact hl⟩⟩
    obtain ⟨u, g1, g2⟩ := e7.get e'
    refine ⟨⟨us, u, e6, g1⟩, fun x H2 y => ?_⟩
    obtain ⟨rfl, y⟩ := y
    have := y us e6
    rw [g1] at this; cases this
    exact ⟨r1, g2, hr1, .refl⟩
  | _ => cases e
section
variable {G : Tb} {n : Nat} {sc : Scope} {N : List Str} {df : Bool} {m : List Nat} {a b c : E} {xa xb xc tg : Expr} {pos : Pos}
theorem ji_seq (ha : JE G n sc N df m a xa) : JI G n sc N df m (.seq a) tg xa := fun X g => pi_any (ha X g) fun s H Rr q => by
  obtain ⟨r, fr, h, src, h', sr, hr, e, q⟩ := q
  simp only [Ev.evi] at e
  obtain ⟨d, h1, e1, e⟩ := Ev.bind_eq_ok e
  obtain ⟨e, rfl⟩ := Ev.of_eq_ok e
  refine ⟨r, fr, h, d, _, sr, hr, e1, fun v H1 r1 v1 hr1 f1 => ?_⟩
  exact iter_of hr1 v1 e fun J hJ => q J H1 r1 hr1 f1 hJ
theorem PI.of {X : Cx} {tg l : Expr} {t t' : TI} (h : PI X tg l t) (w : ∀ s H Q, t' s H Q → t s H Q) : PI X tg l t' := fun pins s σ H Q I q => h pins s σ H Q I (w _ _ _ q)
theorem it_rng {K : PySem.W.Frag} {r : List Addr} {H : Hp} (lo : Int) (k : Nat) : ItOf K r H (Ev.range lo k, []) (Itr lo k) := fun i H1 r1 h1 hr1 f1 st => by
  refine ⟨fun d e => ?_, fun hl => ?_⟩
  · simp only [Ev.range, List.getElem?_map] at e
    cases e2 : (List.range k)[i]? with
    | none => rw [e2] at e; cases e
    | some j =>
      rw [e2] at e
      cases e
      have hi : i < k := by simpa using (List.getElem?_eq_some_iff.mp e2).1
      have hj : j = i := by
        rw [List.getElem?_range hi] at e2
        exact (Option.some.inj e2).symm
      subst hj
      refine ⟨hi, fun x H2 y => ?_⟩
      obtain ⟨rfl, rfl⟩ := y
      exact ⟨r1, rfl, hr1, .refl⟩
  · have : (Ev.range lo k).length = k := by simp [Ev.range]
    show k ≤ i
    have hl' : (Ev.range lo k).length ≤ i := hl
    omega
theorem ji_rng1 {e1 : E} {p : Pos} (hs : JA G n sc N df m (.cons e1 .nil) [xa]) (hg : sc.names.lookup ("range" : Str) = some .globalImplicit := by rfl) (hb : ("range" : Str) ∈ G.bl := by decide +kernel)
    (hst : ∀ env : Env, starEach [xa] env = [(false, eval xa env)] := by intro _; rfl) : JI G n sc N df m (.rng (.cons e1 .nil)) tg (.Call (.Name "range" p) [xa] [] pos) := fun X g =>
  PI.of (pi_range1 (g.gl hg) (g.bl _ hb) (hs X g) (hst _)) fun s H Rr q => by
    obtain ⟨r, fr, h, src, h', sr, hr, e, q⟩ := q
    simp only [Ev.evi] at e
    obtain ⟨ds, h1, e1, e⟩ := Ev.bind_eq_ok e
    obtain ⟨e, rfl⟩ := Ev.of_eq_ok e
    refine ⟨r, fr, h, ds, _, sr, hr, e1, fun vs H1 r1 v1 hr1 f1 => ?_⟩
    unfold Ev.rngOf at e
    split at e
    · rename_i j
      split at e
      · rename_i hj
        cases e
        simp only [RVs, RV] at v1
        obtain ⟨v, w, rfl, rfl, rfl⟩ := v1
        exact ⟨_, rfl, hj.1, hj.2, q _ H1 r1 hr1 f1 (it_rng 0 _)⟩
      · cases e
    · exfalso
      simp only [Ev.evs] at e1
      obtain ⟨d, _, _, e1⟩ := Ev.bind_eq_ok e1
      simp only [Ev.bind_ok] at e1
      cases e1
    · cases e
noncomputable def gJ (K : PySem.W.Frag) (m : List Nat) (t : T) : TG := fun v s H Q => ∃ r fr h d fr', SR K m H r fr s ∧ HR K H r h ∧ RV K H r d v ∧ Ev.bindT t d fr = some fr' ∧ ∀ s' , SR K m H r fr' s' → Q s' H
noncomputable def JG (G : Tb) (n : Nat) (sc : Scope) (N : List Str) (df : Bool) (m : List Nat) (t : T) (x : Expr) : Prop := ∀ X, Good G n sc N df X → PG X x (gJ X.K m t)
theorem PG.of {X : Cx} {e : Expr} {t t' : TG} (h : PG X e t) (w : ∀ v s H Q, t' v s H Q → t v s H Q) : PG X e t' := fun pins s σ H v u Q I r q => h pins s σ H v u Q I r (w _ _ _ _ q)
theorem SR.set {K : PySem.W.Frag} {m : List Nat} {H : Hp} {r : List Addr} {fr : Fr} {s : L2.St} (sr : SR K m H r fr s) (hm : m.Nodup) {j i : Nat} (hj : m[j]? = some i) {d : D} {v : V} (v1 : RV K H r d v) : SR K m H r (fr.set i (some d)) (s.set j (some v)) := by
  refine ⟨by simp [sr.len], fun j' i' d' e1 e2 => ?_⟩
  by_cases hi : i' = i
  · subst hi
    have : j' = j := nodup_ix' hm e1 hj
    subst this
    have hlt : i' < fr.length := by
      have := (List.getElem?_eq_some_iff.mp e2).1
      simpa using this
    rw [List.getElem?_set_self hlt] at e2
    cases e2
    refine ⟨v, List.getElem?_set_self ?_, v1⟩
    rw [sr.len]
    exact (List.getElem?_eq_some_iff.mp hj).1
  · rw [List.getElem?_set_ne (fun z => hi z.symm)] at e2
    obtain ⟨u, q1, q2⟩ := sr.sl j' i' d' e1 e2
    refine ⟨u, ?_, q2⟩
    rw [List.getElem?_set_ne]
    · exact q1
    · intro z
      subst z
      rw [hj] at e1; cases e1
      exact hi rfl
where
  nodup_ix' {l : List Nat} (hl : l.Nodup) {i j : Nat} {x : Nat} (a : l[i]? = some x) (b : l[j]? = some x) : i = j := by
    have ha := (List.getElem?_eq_some_iff.mp a)
    have hb := (List.getElem?_eq_some_iff.mp b)
    obtain ⟨h1, e1⟩ := ha
    obtain ⟨h2, e2⟩ := hb
    exact (List.getElem_inj hl).mp (e1.trans e2.symm)
theorem Good.loc {X : Cx} (g : Good G n sc N df X) {x : Str} (h : sc.names.lookup x = some .local ∨ (df = true ∧ sc.names.lookup x = some .cell)) : Loc X.env.scope x ∧ (X.fn x = true ∨ X.env.scope.names.lookup x = some .local) := by
  rw [show Loc X.env.scope x ↔ Loc sc x by rw [g.sc], g.sc]
  rcases h with h | ⟨h1, h⟩
  · exact ⟨.inl h, .inr h⟩
  · exact ⟨.inr h, .inl (g.own h1 x)⟩
theorem jg_one (j i : Nat) {x : Str} (hm : m.Nodup) (hN : N.Nodup) (hj : m[j]? = some i := by rfl) (hNj : N[j]? = some x := by rfl)
    (hl : sc.names.lookup x = some .local ∨ (df = true ∧ sc.names.lookup x = some .cell) := by first | exact Or.inl rfl | exact Or.inr ⟨rfl, rfl⟩) : JG G n sc N df m (.one i) (.Name x pos) := fun X g => by
  obtain ⟨h1, h2⟩ := g.loc hl
  refine PG.of (pg_name (i := j) (by rw [g.nm]; exact hN) (by rw [g.nm]; exact hNj) h1 h2) fun v s H Q q => ?_
  obtain ⟨r, fr, h, d, fr', sr, hr, v1, e, q⟩ := q
  cases e
  exact q _ (sr.set hm hj v1)
noncomputable def gJs (K : PySem.W.Frag) (m : List Nat) (l : List Nat) : TGs := fun vs s H Q => ∃ r fr h ds fr', SR K m H r fr s ∧ HR K H r h ∧ RVs K H r ds vs ∧ Ev.setAll l ds fr = some fr' ∧ ∀ s', SR K m H r fr' s' → Q s' H
noncomputable def JGs (G : Tb) (n : Nat) (sc : Scope) (N : List Str) (df : Bool) (m : List Nat) (l : List Nat) (xs : List Expr) : Prop := ∀ X, Good G n sc N df X → PGs X xs (gJs X.K m l)
theorem PGs.of {X : Cx} {e : List Expr} {t t' : TGs} (h : PGs X e t) (w : ∀ v s H Q, t' v s H Q → t v s H Q) : PGs X e t' := fun pins s σ H v u Q I r q => h pins s σ H v u Q I r (w _ _ _ _ q)
theorem jgs_nil : JGs G n sc N df m [] [] := fun X g => PGs.of pgs_nil fun vs s H Q q => by
  obtain ⟨r, fr, h, ds, fr', sr, hr, v1, e, q⟩ := q
  cases ds with
  | nil => simp only [RVs] at v1; subst v1; cases e; exact ⟨rfl, q _ sr⟩
  | cons _ _ => cases e
theorem jgs_cons (j i : Nat) {x : Str} {l : List Nat} {xs : List Expr} (hm : m.Nodup) (hN : N.Nodup) (hs : JGs G n sc N df m l xs) (hj : m[j]? = some i := by rfl) (hNj : N[j]? = some x := by rfl)
    (hl : sc.names.lookup x = some .local ∨ (df = true ∧ sc.names.lookup x = some .cell) := by first | exact Or.inl rfl | exact Or.inr ⟨rfl, rfl⟩)
    (hst : ∀ env : Env, (assignEach (.Name x pos :: xs) env).map (·.2) = assign (.Name x pos) env :: (assignEach xs env).map (·.2) := by intro _; rfl) : JGs G n sc N df m (i :: l) (.Name x pos :: xs) := fun X g => by
  obtain ⟨h1, h2⟩ := g.loc hl
  refine PGs.of (pgs_cons (pg_name (i := j) (by rw [g.nm]; exact hN) (by rw [g.nm]; exact hNj) h1 h2) (hs X g) (hst _)) fun vs s H Q q => ?_
  obtain ⟨r, fr, h, ds, fr', sr, hr, v1, e, q⟩ := q
  cases ds with
  | nil => cases e
  | cons d ds =>
    simp only [RVs] at v1
    obtain ⟨v, w, rfl, v2, v3⟩ := v1
    exact ⟨v, w, rfl, r, _, h, ds, fr', sr.set hm hj v2, hr, v3, e, q⟩
theorem jg_many {l : List Nat} {xs : List Expr} {k : Nat} (hs : JGs G n sc N df m l xs) (hn : ∀ env : Env, (assignEach xs env).length = l.length := by intro _; rfl) (hst : ∀ env : Env, (assignEach xs env).findIdx? (·.1) = none := by intro _; rfl) :
    JG G n sc N df m (.many l) (.Tuple xs k pos) := fun X g => PG.of (pg_tup (n := l.length) g.calm (hs X g) (hn _) (hst _)) fun v s H Q q => by
  obtain ⟨r, fr, h, d, fr', sr, hr, v1, e, q⟩ := q
  cases d with
  | tup ds =>
    simp only [RV] at v1
    obtain ⟨p, vs, rfl, z, w⟩ := v1
    have hlen : ∀ (l : List Nat) (ds : List D) fr fr', Ev.setAll l ds fr = some fr' → ds.length = l.length := by
      intro l
      induction l with
      | nil => intro ds fr fr' e; cases ds with | nil => rfl | cons _ _ => cases e
      | cons i l ih => intro ds fr fr' e; cases ds with | nil => cases e | cons d ds => simp [ih ds _ _ e]
    exact ⟨p, vs, rfl, z, by rw [w.length]; exact hlen _ _ _ _ e, r, fr, h, ds, fr', sr, hr, w, e, q⟩
  | _ => cases e
end
end Sm
set_option Elab.async false
set_option linter.all false
set_option maxRecDepth 100000
namespace Sm
open PySem PySem.Spec PyProof.Rows L2
open Ev (D O Hh Fr R Phi E Es Eo T S Ss Fl Src BOp COp TY BI ME)
noncomputable def Fin (K : PySem.W.Frag) (m : List Nat) (r : List Addr) (H : Hp) (h' : Hh) (fl : Fl) (fr' : Fr) (Q : Ends) : Prop := match fl with
  | .nx => ∀ s' H' r', SR K m H' r' fr' s' → HR K H' r' h' → Fm K r r' H H' → Q.nx s' H'
  | .bk => ∀ s' H' r', SR K m H' r' fr' s' → HR K H' r' h' → Fm K r r' H H' → Q.bk s' H'
  | .ct => ∀ s' H' r', SR K m H' r' fr' s' → HR K H' r' h' → Fm K r r' H H' → Q.ct s' H'
  | .ret d => Res K r H h' d Q.rt
theorem Fin.later {K : PySem.W.Frag} {m : List Nat} {r r' : List Addr} {H H' : Hp} {h' : Hh} {fl : Fl} {fr' : Fr} {Q : Ends} (q : Fin K m r H h' fl fr' Q) (f : Fm K r r' H H') : Fin K m r' H' h' fl fr' Q := by
  cases fl with
  | nx => exact fun s2 H2 r2 a b g => q s2 H2 r2 a b (f.trans g)
  | bk => exact fun s2 H2 r2 a b g => q s2 H2 r2 a b (f.trans g)
  | ct => exact fun s2 H2 r2 a b g => q s2 H2 r2 a b (f.trans g)
  | ret d => exact Res.later q f
noncomputable def tJS (K : PySem.W.Frag) (m : List Nat) (P : Phi) (w : Nat) (st : S) : TS := fun Q s H => ∃ r fr h fl fr' h', SR K m H r fr s ∧ HR K H r h ∧ Ev.ex P w st fr h = .ok (fl, fr') h' ∧ Fin K m r H h' fl fr' Q
noncomputable def tJSs (K : PySem.W.Frag) (m : List Nat) (P : Phi) (w : Nat) (ss : Ss) : TS := fun Q s H => ∃ r fr h fl fr' h', SR K m H r fr s ∧ HR K H r h ∧ Ev.exs P w ss fr h = .ok (fl, fr') h' ∧ Fin K m r H h' fl fr' Q
theorem PS.of {X : Cx} {st : Stmt} {t t' : TS} (h : PS X st t) (w : ∀ Q s H, t' Q s H → t Q s H) : PS X st t' := fun pins s σ H Q I q => h pins s σ H Q I (w _ _ _ q)
theorem PSs.of {X : Cx} {st : List Stmt} {t t' : TS} (h : PSs X st t) (w : ∀ Q s H, t' Q s H → t Q s H) : PSs X st t' := fun pins s σ H Q I q => h pins s σ H Q I (w _ _ _ q)
section
variable (G : Tb) (n : Nat) (sc : Scope) (N : List Str) (df : Bool) (m : List Nat)
noncomputable def JS (st : S) (x : Stmt) : Prop := ∀ X, Good G n sc N df X → PS X x (tJS X.K m (Ev.run G.F G.w n) G.w st)
noncomputable def JSs (ss : Ss) (xs : List Stmt) : Prop := ∀ X, Good G n sc N df X → PSs X xs (tJSs X.K m (Ev.run G.F G.w n) G.w ss)
end
section
variable {G : Tb} {n : Nat} {sc : Scope} {N : List Str} {df : Bool} {m : List Nat} {a b c : E} {xa xb xc tg : Expr} {pos : Pos}
theorem jss_nil : JSs G n sc N df m .nil [] := fun X g => PSs.of pss_nil fun Q s H q => by
  obtain ⟨r, fr, h, fl, fr', h', sr, hr, e, q⟩ := q
  simp only [Ev.exs] at e
  cases e
  exact q s H r sr hr .refl
theorem jss_cons {st : S} {ss : Ss} {x : Stmt} {xs : List Stmt} (h1 : JS G n sc N df m st x) (h2 : JSs G n sc N df m ss xs) : JSs G n sc N df m (.cons st ss) (x :: xs) := fun X g => PSs.of (pss_cons (h1 X g) (h2 X g)) fun Q s H q => by
  obtain ⟨r, fr, h, fl, fr', h', sr, hr, e, q⟩ := q
  simp only [Ev.exs] at e
  obtain ⟨⟨fl1, fr1⟩, h1, e1, e⟩ := Ev.bind_eq_ok e
  refine ⟨r, fr, h, fl1, fr1, h1, sr, hr, e1, ?_⟩
  cases fl1 with
  | nx => exact fun s1 H1 r1 sr1 hr1 f1 => ⟨r1, fr1, h1, fl, fr', h', sr1, hr1, e, q.later f1⟩
  | bk => cases e; exact q
  | ct => cases e; exact q
  | ret d => cases e; exact q
theorem js_set (j i : Nat) {x : Str} {pos' : Pos} (hm : m.Nodup) (hN : N.Nodup) (ha : JE G n sc N df m a xa) (hs : ∀ env : Env, swapsWith xa (some (.Name x pos')) pos.line env = pure false := by intro _; rfl) (hj : m[j]? = some i := by rfl) (hNj : N[j]? = some x := by rfl)
    (hl : sc.names.lookup x = some .local ∨ (df = true ∧ sc.names.lookup x = some .cell) := by first | exact Or.inl rfl | exact Or.inr ⟨rfl, rfl⟩) : JS G n sc N df m (.set i a) (.Assign [.Name x pos'] xa pos) := fun X g => by
  obtain ⟨h1, h2⟩ := g.loc hl
  refine PS.of (ps_set (i := j) (by rw [g.nm]; exact hN) (by rw [g.nm]; exact hNj) h1 (ha X g) (hs _) h2) fun Q s H q => ?_
  obtain ⟨r, fr, h, fl, fr', h', sr, hr, e, q⟩ := q
  simp only [Ev.ex] at e
  obtain ⟨d, h1, e1, e⟩ := Ev.bind_eq_ok e
  cases e
  exact ⟨r, fr, h, d, _, sr, hr, e1, fun v H1 r1 v1 hr1 f1 => q _ H1 r1 ((sr.mono f1).set hm hj v1) hr1 f1⟩
theorem js_exp (ha : JE G n sc N df m a xa) (hs : ∀ env : Env, swapsWith xa none pos.line env = pure false := by intro _; rfl) : JS G n sc N df m (.exp a) (.Expr xa pos) := fun X g => PS.of (ps_expr (ha X g) (hs _)) fun Q s H q => by
  obtain ⟨r, fr, h, fl, fr', h', sr, hr, e, q⟩ := q
  simp only [Ev.ex] at e
  obtain ⟨d, h1, e1, e⟩ := Ev.bind_eq_ok e
  cases e
  exact ⟨r, fr, h, d, _, sr, hr, e1, fun v H1 r1 v1 hr1 f1 => q s H1 r1 (sr.mono f1) hr1 f1⟩
theorem js_ret (ha : JE G n sc N df m a xa) : JS G n sc N df m (.ret a) (.Return (some xa) pos) := fun X g => PS.of (ps_ret (ha X g)) fun Q s H q => by
  obtain ⟨r, fr, h, fl, fr', h', sr, hr, e, q⟩ := q
  simp only [Ev.ex] at e
  obtain ⟨d, h1, e1, e⟩ := Ev.bind_eq_ok e
  cases e
  exact ⟨r, fr, h, d, _, sr, hr, e1, q⟩
theorem js_iff {ta tb : Ss} {ya yb : List Stmt} (hc : JT G n sc N df m a xa) (h1 : JSs G n sc N df m ta ya) (h2 : JSs G n sc N df m tb yb) : JS G n sc N df m (.iff a ta tb) (.If xa ya yb pos) := fun X g => PS.of (ps_if (hc X g) (h1 X g) (h2 X g)) fun Q s H q => by
  obtain ⟨r, fr, h, fl, fr', h', sr, hr, e, q⟩ := q
  simp only [Ev.ex] at e
  obtain ⟨k, h3, e1, e⟩ := Ev.bind_eq_ok e
  refine ⟨r, fr, h, k, h3, sr, hr, e1, fun H1 r1 hr1 f1 => ?_⟩
  cases k with
  | true => exact ⟨r1, fr, h3, fl, fr', h', sr.mono f1, hr1, e, q.later f1⟩
  | false => exact ⟨r1, fr, h3, fl, fr', h', sr.mono f1, hr1, e, q.later f1⟩
theorem Good.pass {X : Cx} (g : Good G n sc N df X) : PassesOwn (model X.prog X.w) X.A X.env X.xe := by
  rw [g.xe]; exact PassesOwn.never
theorem js_for {t : T} {it : Ev.It} {tb : Ss} {yb : List Stmt} (hi : JI G n sc N df m it tg xa) (hg : JG G n sc N df m t tg) (h1 : JSs G n sc N df m tb yb) (hs : ∀ (env : Env) x, foldedSetIterable xa env x = pure x := by intro _ _; rfl) :
    JS G n sc N df m (.for t it tb) (.For tg xa yb [] pos) := fun X g => PS.of (ps_for g.pass g.calm (hi X g) (hg X g) (h1 X g) (hs _)) fun Q s H q => by
  obtain ⟨r, fr, h, fl, fr', h', sr, hr, e, q⟩ := q
  simp only [Ev.ex] at e
  obtain ⟨src, h2, e1, e⟩ := Ev.bind_eq_ok e
  refine ⟨r, fr, h, src, h2, sr, hr, e1, fun J H1 r1 hr1 f1 hJ => ?_⟩
  refine ⟨fun i k s3 H3 => k = src.1.length - i ∧ i ≤ src.1.length ∧ ∃ r3 fr3 h3, SR X.K m H3 r3 fr3 s3 ∧ HR X.K H3 r3 h3 ∧ Fm X.K r1 r3 H1 H3 ∧
    Ev.forL (fun d fr2 h2 => match Ev.bindT t d fr2 with
      | some fr3 => Ev.exs (Ev.run G.F G.w n) G.w tb fr3 h2
      | none => .bad) src.2 (src.1.drop i) fr3 h3 = .ok (fl, fr') h', ⟨src.1.length, by simp, Nat.zero_le _, r1, fr, h2, sr.mono f1, hr1, .refl, by rw [List.drop_zero]; exact e⟩, ?_⟩
  rintro i k s3 H3 ⟨rfl, hle, r3, fr3, h3, sr3, hr3, f3, e3⟩
  by_cases hlt : i < src.1.length
  · rw [List.drop_eq_getElem_cons hlt] at e3
    simp only [Ev.forL] at e3
    split at e3
    · rename_i hst
      obtain ⟨hgo, _⟩ := hJ i H3 r3 h3 hr3 f3 hst
      obtain ⟨g1, g2⟩ := hgo src.1[i] (by simp [hlt])
      obtain ⟨⟨fl1, fr4⟩, h4, e4, e3⟩ := Ev.bind_eq_ok e3
      split at e4
      · rename_i fr5 e5
        refine .inr ⟨g1, fun s5 H5 => (fl1 = .nx ∨ fl1 = .ct) ∧ ∃ r5, SR X.K m H5 r5 fr4 s5 ∧ HR X.K H5 r5 h4 ∧ Fm X.K r1 r5 H1 H5, ?_, fun x H4 y => ?_⟩
        · rintro s5 H5 ⟨hfl, r5, sr5, hr5, f5⟩
          refine ⟨src.1.length - (i + 1), by omega, rfl, hlt, r5, fr4, h4, sr5, hr5, f5, ?_⟩
          rcases hfl with rfl | rfl <;> exact e3
        · obtain ⟨r4, v4, hr4, f4⟩ := g2 x H4 y
          refine ⟨r4, fr3, h3, _, fr5, sr3.mono f4, hr4, v4, e5, fun s5 sr5 => ?_⟩
          refine ⟨r4, fr5, h3, fl1, fr4, h4, sr5, hr4, e4, ?_⟩
          cases fl1 with
          | nx => exact fun s6 H6 r6 sr6 hr6 f6 => ⟨.inl rfl, r6, sr6, hr6, (f3.trans f4).trans f6⟩
          | ct => exact fun s6 H6 r6 sr6 hr6 f6 => ⟨.inr rfl, r6, sr6, hr6, (f3.trans f4).trans f6⟩
          | bk =>
            cases e3
            exact fun s6 H6 r6 sr6 hr6 f6 => q s6 H6 r6 sr6 hr6 (((f1.trans f3).trans f4).trans f6)
          | ret d =>
            cases e3
            exact Res.later q ((f1.trans f3).trans f4)
      · cases e4
    · cases e3
  · have hi : i = src.1.length := by omega
    subst hi
    rw [List.drop_length] at e3
    simp only [Ev.forL] at e3
    split at e3
    · rename_i hst
      cases e3
      exact .inl ⟨(hJ _ H3 r3 _ hr3 f3 hst).2 (Nat.le_refl _), q s3 H3 r3 sr3 hr3 (f1.trans f3)⟩
    · cases e3
end
theorem getElem?_range' {k j i : Nat} (h : (List.range k)[j]? = some i) : i = j := by
  obtain ⟨h1, h2⟩ := List.getElem?_eq_some_iff.mp h
  simpa using h2.symm
theorem sr_start {K : PySem.W.Frag} {H : Hp} {r : List Addr} {ds : List D} {vs : List V} {N : List Str} {fn : Ev.Fn} (v1 : RVs K H r ds vs) (hN : vs.length ≤ N.length) : SR K (List.range N.length) H r (Ev.fr0 fn ds) (L2.start N vs) := by
  refine ⟨by unfold L2.start; simp; omega, fun j i d e1 e2 => ?_⟩
  have e3 := getElem?_range' e1
  subst e3
  unfold Ev.fr0 at e2
  by_cases hj : i < ds.length
  · rw [List.getElem?_append_left (by simpa using hj), List.getElem?_map] at e2
    cases e4 : ds[i]? with
    | none => rw [e4] at e2; cases e2
    | some d' =>
      rw [e4] at e2
      cases e2
      obtain ⟨v, q1, q2⟩ := v1.get e4
      refine ⟨v, ?_, q2⟩
      unfold L2.start
      rw [List.getElem?_append_left (by have := v1.length; simpa using (by omega : i < vs.length)), List.getElem?_map, q1]
      rfl
  · rw [List.getElem?_append_right (by simpa using Nat.not_lt.mp hj), List.getElem?_replicate] at e2
    split at e2 <;> cases e2
section
variable {P : Program} {w : World} {K : PySem.W.Frag} {mg : Str → Option Value} {base : Heap} {G : Tb}
noncomputable def AllOk (P : Program) (w : World) (K : PySem.W.Frag) (mg : Str → Option Value) (base : Heap) (G : Tb) (n : Nat) : Prop := ∀ (f : Nat) i, G.fi[f]? = some i → FnOk P w K mg base CX0 n i.addr i.fd i.ps (spF K G.F G.w n f)
structure Top (P : Program) (w : World) (K : PySem.W.Frag) (mg : Str → Option Value) (G : Tb) : Prop where
  fn : ∀ (f : Nat) i, G.fi[f]? = some i → mg i.name = some (.ref i.addr) ∧ PySem.W.keepIn K (.ref i.addr) = true ∧ Binds K i.fd i.ps []
  bl : ∀ x ∈ G.bl, mg x = none
  cs : ∀ x d, (x, d) ∈ G.cs → ∃ v u, mg x = some u ∧ RelV v u ∧ isC d v
  dk : ∀ x kvs, (x, kvs) ∈ G.dk → ∃ a, mg x = some (.ref a) ∧ ∀ h : Heap, K.In h → StrTab P w h a (tabOf kvs)
theorem ok_zero {f : Addr} {fd : FuncData} {ps : List Str} {k : Nat} : FnOk P w K mg base CX0 0 f fd ps (spF K G.F G.w 0 k) := by
  have no : ∀ vs H Q E, ¬ spF K G.F G.w 0 k vs H Q E := fun vs H Q E h => by
    obtain ⟨r, h, ds, d, h', _, _, e, _⟩ := h
    cases e
  exact ⟨fun vs H Q E h => absurd h (no vs H Q E), fun A outer s H args us vs Q E _ _ _ _ h => absurd h (no vs H Q E)⟩
theorem fn_ok {x qual : Str} {st : Stmt} {i : FI} {N : List Str} {n f : Nat} {fn : Ev.Fn} (T : Top P w K mg G) (A0 : AllOk P w K mg base G n) (F : Fun K x qual st i.addr i.fd) (S : FnScope N i.ps (defScope st)) (hf : G.F[f]? = some fn) (hp : i.ps.length = fn.np)
    (hb : JSs G n (defScope st) N true (List.range N.length) fn.body (defBody st)) : FnOk P w K mg base CX0 (n + 1) i.addr i.fd i.ps (spF K G.F G.w (n + 1) f) := by
  have hlen : ∀ vs H Q E, spF K G.F G.w (n + 1) f vs H Q E → vs.length = i.ps.length := fun vs H Q E h => by
    obtain ⟨r, h, ds, d, h', v1, _, e, _⟩ := h
    simp only [Ev.run, hf] at e
    split at e
    · rename_i z
      rw [v1.length, z, hp]
    · cases e
  refine F.ok S hlen fun cdv A outer s H vs Q E hr hsp => ?_
  have hl := hlen vs H Q E hsp
  have hN : vs.length ≤ N.length := by
    have := congrArg List.length S.pre
    rw [List.length_take] at this
    omega
  have g : Good G n (defScope st) N true (cxOf CX0 P w K mg base N qual (defScope st) i.addr cdv A outer s H E).nox :=
    ⟨rfl, rfl, rfl, fun _ _ => rfl, hr, rfl, fun f i hi => ⟨(T.fn f i hi).1, (T.fn f i hi).2.1, (T.fn f i hi).2.2, A0 f i hi⟩, T.bl, T.cs, T.dk⟩
  refine ⟨_, hb _ g, ?_⟩
  obtain ⟨r, h, ds, d, h', v1, hr1, e, q⟩ := hsp
  simp only [Ev.run, hf] at e
  split at e
  · unfold Ev.endOf at e
    obtain ⟨⟨fl, fr'⟩, h2, e1, e⟩ := Ev.bind_eq_ok e
    refine ⟨r, Ev.fr0 fn ds, h, fl, fr', h2, sr_start v1 hN, hr1, e1, ?_⟩
    cases fl with
    | nx =>
      cases e
      exact fun s' H' r' _ hr' f' => q _ H' r' rfl hr' f'
    | ret d' =>
      cases e
      exact q
    | bk => cases e
    | ct => cases e
  · cases e
end
end Sm
set_option Elab.async false
set_option linter.all false
set_option maxRecDepth 100000
namespace Sm
open PySem PySem.Spec PyProof.Rows L2
open Ev (D O Hh Fr R Phi E Es Eo T S Ss Fl Src BOp COp TY BI ME)
theorem clos_go (env : Env) : ∀ (names : List (Str × NameKind)) (acc : List (Str × Addr)), (∀ x, (x, NameKind.free) ∈ names → ∃ c, env.cells.lookup x = some c) → (∀ x c, acc.lookup x = some c → env.cells.lookup x = some c) →
    ∃ cl, (forIn names acc (fun (x : Str × NameKind) cs => if (x.2 == NameKind.free) = true then (do let c ← cellOf env x.1; pure (ForInStep.yield ((x.1, c) :: cs))) else pure (ForInStep.yield cs)) : Sem (List (Str × Addr))) = pure cl ∧
      (∀ x c, cl.lookup x = some c → env.cells.lookup x = some c) ∧ (∀ x, (x, NameKind.free) ∈ names → (cl.lookup x).isSome = true) ∧ (∀ x, (acc.lookup x).isSome = true → (cl.lookup x).isSome = true)
  | [], acc, _, h2 => ⟨acc, rfl, h2, (fun x h => by simp at h), fun _ h => h⟩
  | (y, k) :: r, acc, h1, h2 => by
    by_cases hk : k = .free
    · subst hk
      obtain ⟨c, hc⟩ := h1 y (List.mem_cons_self ..)
      have h2' : ∀ x c', ((y, c) :: acc).lookup x = some c' → env.cells.lookup x = some c' := fun x c' e => by
        rw [List.lookup_cons] at e
        split at e
        · rename_i hx
          have hx' : x = y := by simpa using hx
          cases e; rw [hx']; exact hc
        · exact h2 x c' e
      obtain ⟨cl, e1, e2, e3, e4⟩ := clos_go env r ((y, c) :: acc) (fun x hx => h1 x (List.mem_cons_of_mem _ hx)) h2'
      refine ⟨cl, ?_, e2, fun x hx => ?_, fun x hx => e4 x ?_⟩
      · rw [List.forIn_cons]
        simp only [beq_self_eq_true, if_true]
        unfold cellOf
        rw [hc]
        exact e1
      · rcases List.mem_cons.mp hx with z | z
        · cases z
          exact e4 y (by simp [List.lookup_cons])
        · exact e3 x z
      · rw [List.lookup_cons]
        split
        · rfl
        · exact hx
    · have hk' : (k == NameKind.free) = false := by simpa using hk
      obtain ⟨cl, e1, e2, e3, e4⟩ := clos_go env r acc (fun x hx => h1 x (List.mem_cons_of_mem _ hx)) h2
      refine ⟨cl, ?_, e2, fun x hx => ?_, e4⟩
      · rw [List.forIn_cons]
        simp only [hk', Bool.false_eq_true, if_false]
        exact e1
      · rcases List.mem_cons.mp hx with z | z
        · cases z; exact absurd rfl hk
        · exact e3 x z
theorem clos_of {scope : Scope} {env : Env} (h : ∀ x, (x, NameKind.free) ∈ scope.names → ∃ c, env.cells.lookup x = some c) :
    ∃ cl, closureFor scope env = pure cl ∧ (∀ x c, cl.lookup x = some c → env.cells.lookup x = some c) ∧ ∀ x, (x, NameKind.free) ∈ scope.names → ∃ c, cl.lookup x = some c := by
  obtain ⟨cl, e1, e2, e3, _⟩ := clos_go env scope.names [] h (fun x c e => by simp at e)
  refine ⟨cl, ?_, e2, fun x hx => Option.isSome_iff_exists.mp (e3 x hx)⟩
  unfold closureFor
  show (forIn scope.names [] _ >>= fun cs => pure cs : Sem (List (Str × Addr))) = pure cl
  have e : (forIn scope.names [] (fun (x : Str × NameKind) cs => if (x.2 == NameKind.free) = true then (do let c ← cellOf env x.1; pure (ForInStep.yield ((x.1, c) :: cs))) else pure (ForInStep.yield cs)) : Sem (List (Str × Addr))) = pure cl := e1
  exact congrArg (fun t : Sem (List (Str × Addr)) => t >>= fun cs => pure cs) e
noncomputable def relb (sc scope : Scope) : Scope := { scope with names := scope.names.map fun (n, k) => if (k == .free && sc.kind == .function && sc.names.lookup n == some .cell) then (n, .cell) else (n, k) }
theorem relb_eq {env : Env} {sc scope : Scope} (h : env.scope = sc) : relabel scope env = relb sc scope := by
  subst h; rfl
theorem relb_free {sc : Scope} : ∀ {names : List (Str × NameKind)} {x : Str}, (∀ y ∈ names, y.2 ≠ .cell) →
    ((names.map fun (n, k) => if (k == NameKind.free && sc.kind == .function && sc.names.lookup n == some .cell) then (n, NameKind.cell) else (n, k)).lookup x = some .cell ∨
      (names.map fun (n, k) => if (k == NameKind.free && sc.kind == .function && sc.names.lookup n == some .cell) then (n, NameKind.cell) else (n, k)).lookup x = some .free) → (x, NameKind.free) ∈ names
  | [], _, _, h => by rcases h with h | h <;> simp at h
  | (n, k) :: r, x, hc, h => by
    have ih := @relb_free sc r x fun y hy => hc y (List.mem_cons_of_mem _ hy)
    simp only [List.map_cons] at h
    have nk : ∀ (k' : NameKind), (if (k == NameKind.free && sc.kind == .function && sc.names.lookup n == some .cell) then (n, NameKind.cell) else (n, k)) = (n, k') → k' = .cell ∨ k' = .free → k = .free := fun k' e hk' => by
      split at e
      · rename_i z
        simp only [Bool.and_eq_true, beq_iff_eq] at z
        exact z.1.1
      · cases e
        rcases hk' with z | z
        · exact absurd z (hc (n, _) (List.mem_cons_self ..))
        · exact z
    generalize hg : (if (k == NameKind.free && sc.kind == .function && sc.names.lookup n == some .cell) then (n, NameKind.cell) else (n, k)) = p at h nk
    have hp : p.1 = n := by rw [← hg]; split <;> rfl
    obtain ⟨p1, p2⟩ := p
    simp only at hp
    subst hp
    simp only [List.lookup_cons] at h
    cases hx : (x == p1) with
    | true =>
      have hx' : x = p1 := by simpa using hx
      rw [hx] at h
      have := nk p2 rfl (by rcases h with h | h <;> simp at h <;> simp [h])
      subst this
      rw [hx']
      exact List.mem_cons_self ..
    | false =>
      rw [hx] at h
      exact List.mem_cons_of_mem _ (ih h)
section
variable {prog : Program} {w : World} {A : Around} {R' : Result → Shared → Prop} {s : Shared}
abbrev nev : Value → Shared → Prop := fun _ _ => False
noncomputable def testsOf (ifs : List Expr) (env : Env) : Sem Bool := forIn ifs true fun c r => if r = true then do let ok ← isTrue c env (eval c env); pure (ForInStep.yield ok) else pure (ForInStep.yield r)
theorem compLoop_any {elt target iter : Expr} {ifs : List Expr} {scope : Scope} {pos : Pos} {it acc : Value} {env : Env} (I : Nat → Shared → Prop)
    (turn : ∀ n s, I n s → wpAny (model prog w) A (pyNext it) (fun r s₁ => match r with
      | none => R' (.ok .next) s₁
      | some v => wpAny (model prog w) A (letOwnedTupleGo target it v) (fun _ s₂ => wpAny (model prog w) A (assign target env v) (fun _ s₃ =>
          wpAny (model prog w) A (testsOf ifs env) (fun ok s₄ =>
            if ok = true then wpAny (model prog w) A (eval elt env) (fun x s₅ =>
              wpAny (model prog w) A (call (.builtin "list.append") [acc, x]) (fun _ s₆ => ∃ m, m < n ∧ I m s₆) nev s₅) nev s₄
            else ∃ m, m < n ∧ I m s₄) nev s₃) nev s₂) nev s₁) nev s)
    (n : Nat) (h : I n s) : codeAny (model prog w) A (.compLoop (.ListComp elt [⟨target, iter, ifs, 0⟩] scope pos) 0 it acc env) R' s := by
  refine codeAny_loop rfl I (fun n s hI => ?_) n h
  show wpAny _ A ((compTurn (.ListComp elt [⟨target, iter, ifs, 0⟩] scope pos) 0 it acc env).onRaise (fun x => do noteFrame x env; theTreesLotGoes x)) _ _ s
  refine wpAny_noted ?_
  rw [compTurn_list]
  refine wpAny_bind (wpAny_standAt (wpAny_bind (wpAny_mono (turn n s hI) (fun r s₁ h₁ => ?_) fun _ _ h' => h'.elim)))
  cases r with
  | none => exact wpAny_pure h₁
  | some v =>
    refine wpAny_bind (wpAny_mono h₁ (fun _ s₂ h₂ => ?_) fun _ _ h' => h'.elim)
    refine wpAny_bind (wpAny_mono h₂ (fun _ s₃ h₃ => wpAny_bind (wpAny_mono h₃ (fun ok s₄ h₄ => ?_) fun _ _ h' => h'.elim)) fun _ _ h' => h'.elim)
    cases ok with
    | false => exact wpAny_pure ⟨rfl, h₄⟩
    | true =>
      exact wpAny_bind (wpAny_bind (wpAny_mono h₄ (fun x s₅ h₅ => wpAny_bind (wpAny_mono h₅ (fun _ s₆ h₆ => wpAny_pure (wpAny_pure ⟨rfl, h₆⟩)) fun _ _ h' => h'.elim)) fun _ _ h' => h'.elim))
end
noncomputable def tJC (K : PySem.W.Frag) (m : List Nat) (P : Phi) (e : Eo) : TT := fun s H Q => ∃ r fr h k h', SR K m H r fr s ∧ HR K H r h ∧ Ev.evc P e fr h = .ok k h' ∧ ∀ H' r', HR K H' r' h' → Fm K r r' H H' → Q k H'
noncomputable def JC (G : Tb) (n : Nat) (sc : Scope) (N : List Str) (df : Bool) (m : List Nat) (e : Eo) (ifs : List Expr) : Prop := ∀ X, Good G n sc N df X → ∀ (pins : List (Addr × Obj)) (s : Shared) (σ : L2.St) (H : Hp) (Q : Bool → Hp → Prop), Inv X pins σ H s →
  tJC X.K m (Ev.run G.F G.w n) e σ H Q → wpAny (model X.prog X.w) X.A (testsOf ifs X.env) (TP X pins σ Q) X.xe s
section
variable {G : Tb} {n : Nat} {sc : Scope} {N : List Str} {df : Bool} {m : List Nat} {a b c : E} {xa xb xc tg : Expr} {pos : Pos}
theorem jc_no : JC G n sc N df m .no [] := fun X g pins s σ H Q I q => by
  obtain ⟨r, fr, h, k, h', sr, hr, e, q⟩ := q
  simp only [Ev.evc] at e
  cases e
  exact wpAny_pure ⟨H, I, q H r hr .refl⟩
theorem jc_yes (hc : JT G n sc N df m a xa) : JC G n sc N df m (.yes a) [xa] := fun X g pins s σ H Q I q => by
  obtain ⟨r, fr, h, k, h', sr, hr, e, q⟩ := q
  simp only [Ev.evc] at e
  exact wpAny_tests_one (hc X g pins s σ H Q I ⟨r, fr, h, k, h', sr, hr, e, q⟩)
end
noncomputable def cxC (X : Cx) (N' : List Str) (scope : Scope) (cl : List (Str × Addr)) (C : Addr) (s3 : Shared) (H3 : Hp) (fp : List Addr) : Cx :=
  { X with N := N', s₀ := s3, H₀ := H3, env := compEnvC scope cl C X.env, outer := X.stack, stack := X.stack, ex := fp, fn := fun _ => false, pn := [], xe := fun _ _ => False }
noncomputable def namesOk (sc : Scope) (N : List Str) (m : List Nat) (scope : Scope) (t : T) (N' : List Str) (m' : List Nat) : Prop := m'.length = N'.length ∧
  ∀ (j : Nat) x i, N'[j]? = some x → m'[j]? = some i → i ∈ Ev.slots t ∨ ((x, NameKind.free) ∈ scope.names ∧ ∃ jo : Nat, N[jo]? = some x ∧ m[jo]? = some i)
noncomputable def namesB (sc : Scope) (N : List Str) (m : List Nat) (scope : Scope) (t : T) (N' : List Str) (m' : List Nat) : Bool := m'.length == N'.length &&
  (List.range N'.length).all fun j => match N'[j]?, m'[j]? with
    | some x, some i => (Ev.slots t).contains i || (scope.names.contains (x, NameKind.free) && (List.range N.length).any fun jo => N[jo]? == some x && m[jo]? == some i)
    | _, _ => true
theorem namesOk.of {sc : Scope} {N : List Str} {m : List Nat} {scope : Scope} {t : T} {N' : List Str} {m' : List Nat} (h : namesB sc N m scope t N' m' = true) : namesOk sc N m scope t N' m' := by
  unfold namesB at h
  rw [Bool.and_eq_true] at h
  refine ⟨by simpa using h.1, fun j x i e1 e2 => ?_⟩
  have hj : j < N'.length := (List.getElem?_eq_some_iff.mp e1).1
  have q := List.all_eq_true.mp h.2 j (List.mem_range.mpr hj)
  rw [e1, e2] at q
  simp only [Bool.or_eq_true, Bool.and_eq_true, List.any_eq_true] at q
  rcases q with q | ⟨q1, jo, _, q2⟩
  · exact .inl (by simpa using q)
  · exact .inr ⟨by simpa using q1, jo, by simpa using q2.1, by simpa using q2.2⟩
theorem bindT_other {t : T} {d : D} {fr fr2 : Fr} (e : Ev.bindT t d fr = some fr2) {i : Nat} (hi : i ∉ Ev.slots t) : fr2[i]? = fr[i]? := by
  have go : ∀ (l : List Nat) (ds : List D) (fr fr2 : Fr), Ev.setAll l ds fr = some fr2 → i ∉ l → fr2[i]? = fr[i]? := by
    intro l
    induction l with
    | nil =>
      intro ds fr fr2 e _
      cases ds with
      | nil => cases e; rfl
      | cons _ _ => cases e
    | cons j l ih =>
      intro ds fr fr2 e hj
      cases ds with
      | nil => cases e
      | cons d ds =>
        rw [ih ds _ _ e fun z => hj (List.mem_cons_of_mem _ z), List.getElem?_set_ne]
        intro z
        exact hj (by rw [z]; exact List.mem_cons_self ..)
  cases t with
  | one j =>
    cases e
    rw [List.getElem?_set_ne]
    intro z
    exact hi (by simp [Ev.slots, z])
  | many l =>
    cases d with
    | tup ds => exact go l ds fr fr2 e hi
    | _ => cases e
theorem SR.unbind {K : PySem.W.Frag} {m : List Nat} {H : Hp} {r : List Addr} {t : T} {d : D} {fr fr2 : Fr} {s : L2.St} (sr : SR K m H r fr2 s) (e : Ev.bindT t d fr = some fr2) (hu : Ev.undef t fr = true) : SR K m H r fr s := by
  refine ⟨sr.len, fun j i d' e1 e2 => sr.sl j i d' e1 ?_⟩
  rw [bindT_other e]
  · exact e2
  · intro hi
    have q := List.all_eq_true.mp hu i hi
    rw [e2] at q
    cases q
end Sm
set_option Elab.async false
set_option linter.all false
set_option maxRecDepth 100000
namespace Sm
open PySem PySem.Spec PyProof.Rows L2
open Ev (D O Hh Fr R Phi E Es Eo T S Ss Fl Src BOp COp TY BI ME)
structure ScOk (sc scope : Scope) : Prop where
  kind : scope.kind = .function
  nocell : ∀ y ∈ scope.names, y.2 ≠ .cell
  free : ∀ x, (x, NameKind.free) ∈ scope.names → (sc.names.lookup x = some .cell ∨ sc.names.lookup x = some .free) ∧ scope.names.lookup x = some .free
  loc : ∀ y ∈ scope.names, y.2 = .local → scope.names.lookup y.1 = some .local
noncomputable def scB (sc scope : Scope) : Bool := scope.kind == .function && scope.names.all fun y => y.2 != .cell && (y.2 != .free || ((sc.names.lookup y.1 == some .cell || sc.names.lookup y.1 == some .free) && scope.names.lookup y.1 == some .free)) && (y.2 != .local || scope.names.lookup y.1 == some .local)
theorem ScOk.of {sc scope : Scope} (h : scB sc scope = true) : ScOk sc scope := by
  unfold scB at h
  rw [Bool.and_eq_true] at h
  have q : ∀ y ∈ scope.names, y.2 ≠ .cell ∧ (y.2 = .free → (sc.names.lookup y.1 = some .cell ∨ sc.names.lookup y.1 = some .free) ∧ scope.names.lookup y.1 = some .free) ∧ (y.2 = .local → scope.names.lookup y.1 = some .local) := fun y hy => by
    have z := List.all_eq_true.mp h.2 y hy
    simp only [Bool.and_eq_true, Bool.or_eq_true, bne_iff_ne, beq_iff_eq, ne_eq] at z
    refine ⟨z.1.1, fun e => ?_, fun e => ?_⟩
    · rcases z.1.2 with w | w
      · exact absurd e w
      · exact w
    · rcases z.2 with w | w
      · exact absurd e w
      · exact w
  exact ⟨by simpa using h.1, fun y hy => (q y hy).1, fun x hx => (q _ hx).2.1 rfl, fun y hy => (q y hy).2.2⟩
theorem relb_look {sc : Scope} : ∀ {names : List (Str × NameKind)} {x : Str}, names.lookup x = some .free →
    ((names.map fun (n, k) => if (k == NameKind.free && sc.kind == .function && sc.names.lookup n == some .cell) then (n, NameKind.cell) else (n, k)).lookup x = some .cell ∨
      (names.map fun (n, k) => if (k == NameKind.free && sc.kind == .function && sc.names.lookup n == some .cell) then (n, NameKind.cell) else (n, k)).lookup x = some .free)
  | [], _, h => by simp at h
  | (n, k) :: r, x, h => by
    have ih := @relb_look sc r x
    simp only [List.map_cons]
    simp only [List.lookup_cons] at h
    by_cases hc : (k == NameKind.free && sc.kind == .function && sc.names.lookup n == some .cell) = true
    · rw [if_pos hc]
      simp only [List.lookup_cons]
      cases hx : (x == n) with
      | true => exact .inl rfl
      | false => rw [hx] at h; exact ih h
    · rw [if_neg hc]
      simp only [List.lookup_cons]
      cases hx : (x == n) with
      | true => rw [hx] at h; exact .inr h
      | false => rw [hx] at h; exact ih h
section
variable {G : Tb} {n : Nat} {sc scope : Scope} {N N' : List Str} {df : Bool} {m m' : List Nat} {elt : E} {t : T} {it : Ev.It} {cond : Eo} {xe xi tg : Expr} {ifs : List Expr} {pos : Pos} {X : Cx}
theorem Good.comp (g : Good G n sc N df X) {cl : List (Str × Addr)} {C : Addr} {s3 : Shared} {H3 : Hp} {fp : List Addr} : Good G n (relb sc scope) N' false (cxC X N' scope cl C s3 H3 fp) :=
  ⟨rfl, relb_eq g.sc, g.calm, (fun h => by cases h), g.room, rfl, g.fn, g.bl, g.cs, g.dk⟩
theorem ok_comp {pins : List (Addr × Obj)} {σ : L2.St} {H3 : Hp} {s3 : Shared} (g : Good G n sc N df X) (I : Inv X pins σ H3 s3) (hs : ScOk sc scope) {cl : List (Str × Addr)} (hcl1 : ∀ x c, cl.lookup x = some c → X.env.cells.lookup x = some c)
    (hcl2 : ∀ x, (x, NameKind.free) ∈ scope.names → ∃ c, cl.lookup x = some c) {fp : List Addr} (hfp : ∀ b ∈ fp, FpOk X pins H3 b) (hfl : ∀ b ∈ fp, b < s3.heap.objs.size) : (cxC X N' scope cl s3.heap.objs.size s3 H3 fp).Ok where
  mod := I.ok.mod
  kind := hs.kind
  glob := I.ok.glob
  blt := I.ok.blt
  above := Nat.le_refl _
  inj := fun x y c h1 h2 => I.ok.inj x y c (hcl1 x c h1) (hcl1 y c h2)
  has := fun x h => by
    have h' : (relb sc scope).names.lookup x = some .cell ∨ (relb sc scope).names.lookup x = some .free := by
      rw [← relb_eq (scope := scope) g.sc]; exact h
    exact hcl2 x (relb_free hs.nocell h')
  cab := fun x c h => by cases h
  hd := I.ok.hd
  frames := I.ok.frames
  stk := .inl rfl
  exf := fun b hb => ⟨Nat.ne_of_lt (hfl b hb), fun x c e => (hfp b hb).2.2.2.2.1 x c (hcl1 x c e)⟩
  bs := I.bs
  bsz := Nat.le_trans I.ok.bsz I.sz
  noex := fun b o e hb => by
    rcases (hfp b hb).2.2.2.1 with z | z
    · exact I.ok.noex b o e z
    · have := Heap.lt_size (I.ok.bs b o e).1
      exact absurd (Nat.lt_of_lt_of_le this z) (Nat.lt_irrefl _)
  exfs := fun b hb z => by
    rcases List.mem_cons.mp (I.stkSub b z) with q | q
    · exact (hfp b hb).2.1 q
    · exact (hfp b hb).2.2.1 q
  funs := I.stack
  frf := I.stkFree
open Classical in
noncomputable def sig (scope : Scope) (N N' : List Str) (m' : List Nat) (K : PySem.W.Frag) (H : Hp) (r : List Addr) (fr : Fr) (σ : L2.St) : L2.St :=
  (List.range N'.length).map fun j => if h : ∃ v, ∃ x i, N'[j]? = some x ∧ m'[j]? = some i ∧ (x, NameKind.free) ∈ scope.names ∧ (∃ jo : Nat, N[jo]? = some x ∧ σ[jo]? = some (some v)) ∧ ∀ d, fr[i]? = some (some d) → RV K H r d v then some h.choose else none
theorem sig_at {K : PySem.W.Frag} {H : Hp} {r : List Addr} {fr : Fr} {σ : L2.St} {j : Nat} {v : V} (h : (sig scope N N' m' K H r fr σ)[j]? = some (some v)) :
    ∃ x i, N'[j]? = some x ∧ m'[j]? = some i ∧ (x, NameKind.free) ∈ scope.names ∧ (∃ jo : Nat, N[jo]? = some x ∧ σ[jo]? = some (some v)) ∧ ∀ d, fr[i]? = some (some d) → RV K H r d v := by
  unfold sig at h
  rw [List.getElem?_map] at h
  cases e : (List.range N'.length)[j]? with
  | none => rw [e] at h; cases h
  | some j' =>
    have := getElem?_range' e
    subst this
    rw [e] at h
    simp only [Option.map_some, Option.some.injEq] at h
    split at h
    · rename_i hh
      cases h
      exact hh.choose_spec
    · cases h
theorem sig_sr {K : PySem.W.Frag} {H : Hp} {r : List Addr} {fr : Fr} {σ : L2.St} (sr : SR K m H r fr σ) (hn : namesOk sc N m scope t N' m') (hu : Ev.undef t fr = true) : SR K m' H r fr (sig scope N N' m' K H r fr σ) := by
  refine ⟨by unfold sig; simp [hn.1], fun j i d e1 e2 => ?_⟩
  have hj : j < N'.length := by rw [← hn.1]; exact (List.getElem?_eq_some_iff.mp e1).1
  have hx : N'[j]? = some N'[j] := List.getElem?_eq_getElem hj
  rcases hn.2 j _ i hx e1 with hi | ⟨h1, jo, h2, h3⟩
  · exfalso
    have q := List.all_eq_true.mp hu i hi
    rw [e2] at q
    cases q
  · obtain ⟨v, h4, h5⟩ := sr.sl jo i d h3 e2
    have ex : ∃ v, ∃ x i, N'[j]? = some x ∧ m'[j]? = some i ∧ (x, NameKind.free) ∈ scope.names ∧ (∃ jo : Nat, N[jo]? = some x ∧ σ[jo]? = some (some v)) ∧ ∀ d, fr[i]? = some (some d) → RV K H r d v :=
      ⟨v, N'[j], i, hx, e1, h1, ⟨jo, h2, h4⟩, fun d' e' => by rw [e2] at e'; cases e'; exact h5⟩
    refine ⟨ex.choose, ?_, ?_⟩
    · unfold sig
      rw [List.getElem?_map, List.getElem?_range hj]
      simp only [Option.map_some]
      rw [dif_pos ex]
    · obtain ⟨x', i', q1, q2, q3, q4, q5⟩ := ex.choose_spec
      rw [e1] at q2; cases q2
      exact q5 d e2
theorem inv_comp {pins : List (Addr × Obj)} {σ : L2.St} {H3 : Hp} {s3 : Shared} (g : Good G n sc N df X) (I : Inv X pins σ H3 s3) (hs : ScOk sc scope) {cl : List (Str × Addr)} (hcl1 : ∀ x c, cl.lookup x = some c → X.env.cells.lookup x = some c)
    (hcl2 : ∀ x, (x, NameKind.free) ∈ scope.names → ∃ c, cl.lookup x = some c) {fp : List Addr} (hfp : ∀ b ∈ fp, FpOk X pins H3 b) (hfl : ∀ b ∈ fp, b < s3.heap.objs.size) {h1 : Heap} {tk : Nat} {mm : Str → Option Value}
    (hns : h1.Ns s3.heap.objs.size mm) (hk : ∀ b o, s3.heap.get? b = some o → h1.get? b = some o) {r : List Addr} {fr : Fr} :
    Inv (cxC X N' scope cl s3.heap.objs.size s3 H3 fp) [] (sig scope N N' m' X.K H3 r fr σ) H3 { s3 with heap := h1, toks := tk } := by
  refine ⟨ok_comp g I hs hcl1 hcl2 hfp hfl, rfl, I.bare, Un.kept hk, ⟨mm, hns, fun j x v e1 e2 e3 => ?_⟩, fun x c e => ?_, I.hok.fresh (Nat.le_refl _), fun x c e => I.freeC x c (hcl1 x c e), (fun p hp => by simp [cxC] at hp), I.hok.kept hk, (by unfold sig; simp [cxC])⟩
  · obtain ⟨x', i, q1, q2, q3, ⟨jo, q4, q5⟩, _⟩ := sig_at e2
    have e1' : N'[j]? = some x := e1
    rw [e1'] at q1; cases q1
    obtain ⟨f1, f2⟩ := hs.free x q3
    obtain ⟨mO, hnO, hlO⟩ := I.loc
    obtain ⟨u, ru, lk⟩ := hlO jo x v (by rw [g.nm]; exact q4) q5 (by rw [g.sc]; rcases f1 with z | z <;> simp [Vis, z])
    refine ⟨u, ru, ?_⟩
    have hkd : X.env.kindOf x = some .cell ∨ X.env.kindOf x = some .free := by unfold Env.kindOf; rw [g.sc]; exact f1
    rcases lk with ⟨z, _⟩ | ⟨_, c, hc, hcell⟩
    · rcases hkd with w | w <;> (rw [z] at w; cases w)
    · obtain ⟨c', hc'⟩ := hcl2 x q3
      have : c' = c := by
        have := hcl1 x c' hc'
        rw [hc] at this; cases this; rfl
      subst this
      refine .inr ⟨?_, c', hc', ?_⟩
      · show (relabel scope X.env).names.lookup x = some .cell ∨ (relabel scope X.env).names.lookup x = some .free
        rw [relb_eq (scope := scope) g.sc]
        exact relb_look f2
      · obtain ⟨o, ho, hd⟩ := hcell
        exact ⟨o, hk _ _ ho, hd⟩
  · obtain ⟨v, o, ho, hd⟩ := I.cell x c (hcl1 x c e)
    exact ⟨v, o, hk _ _ ho, hd⟩
end
end Sm
set_option Elab.async false
set_option linter.all false
set_option maxRecDepth 100000
namespace Sm
open PySem PySem.Spec PyProof.Rows L2
open Ev (D O Hh Fr R Phi E Es Eo T S Ss Fl Src BOp COp TY BI ME)
section
variable {G : Tb} {n : Nat} {sc scope : Scope} {N N' : List Str} {df : Bool} {m m' : List Nat} {elt : E} {t : T} {it : Ev.It} {cond : Eo} {xe xi tg : Expr} {ifs : List Expr} {pos : Pos} {X : Cx}
noncomputable def oneC (P : Phi) (elt : E) (t : T) (cond : Eo) (fr : Fr) : D → Hh → R (Option D) := fun d h2 => match Ev.bindT t d fr with
  | none => .bad
  | some fr2 => (Ev.evc P cond fr2 h2).bind fun k h3 => if k then (Ev.ev P elt fr2 h3).bind fun x h4 => .ok (some x) h4 else .ok none h3
theorem ev_comp (P : Phi) (elt : E) (t : T) (it : Ev.It) (cond : Eo) (fr : Fr) (h : Hh) : Ev.ev P (.comp elt t it cond) fr h = (Ev.evi P it fr h).bind fun s h1 => if Ev.undef t fr then
    (Ev.compL (oneC P elt t cond fr) s.2 s.1 h1).bind fun ds h2 => Ev.alloc ds h2 else .bad := by
  simp only [Ev.ev]
  rfl
theorem comp_core (g : Good G n sc N df X) (hi : JI G n sc N df m it tg xi) (hg : JG G n (relb sc scope) N' false m' t tg) (hc : JC G n (relb sc scope) N' false m' cond ifs) (he : JE G n (relb sc scope) N' false m' elt xe)
    (hn : namesOk sc N m scope t N' m') (hs : ScOk sc scope) {cl : List (Str × Addr)} (hcl1 : ∀ x c, cl.lookup x = some c → X.env.cells.lookup x = some c) (hcl2 : ∀ x, (x, NameKind.free) ∈ scope.names → ∃ c, cl.lookup x = some c)
    {pins : List (Addr × Obj)} {σ : L2.St} {H : Hp} {s : Shared} (I : Inv X pins σ H s) {r : List Addr} {fr : Fr} {h : Hh} {d : D} {h' : Hh} (sr : SR X.K m H r fr σ) (hr : HR X.K H r h)
    (e : Ev.ev (Ev.run G.F G.w n) (.comp elt t it cond) fr h = .ok d h') (post : Value → Addr → Result → Shared → Prop)
    (hpost : ∀ Dd C s' H' r', Inv X pins σ H' s' → (∃ mm, s'.heap.Ns C mm) → FpOk X pins H' C → RV X.K H' r' d (.ref Dd) → HR X.K H' r' h' → Fm X.K r r' H H' → post (.ref Dd) C (.ok .next) s') {E : Value → Shared → Prop} (hE : X.xe = fun _ _ => False) :
    wpAny (model X.prog X.w) X.A (eval xi X.env) (fun x s₁ => wpAny (model X.prog X.w) X.A (pyIter x) (fun itv s₂ => wpAny (model X.prog X.w) X.A (newList []) (fun acc s₃ =>
      wpAny (model X.prog X.w) X.A (newFunctionEnv scope X.env.globals cl [] X.env.qual none .none (some X.env)) (fun cenv s₄ =>
        codeAny (model X.prog X.w) X.A (.compStart (.ListComp xe [⟨tg, xi, ifs, 0⟩] scope pos) 0 itv acc { cenv with scope := relabel scope X.env }) (post acc cenv.locals) s₄) E s₃) E s₂) E s₁) E s := by
  rw [ev_comp] at e
  obtain ⟨src, h1, e1, e⟩ := Ev.bind_eq_ok e
  split at e
  · rename_i hu
    obtain ⟨ds, h2, e2, e⟩ := Ev.bind_eq_ok e
    have nox : ∀ {α : Type} {tt : Sem α} {Q : α → Shared → Prop} {s : Shared}, wpAny (model X.prog X.w) X.A tt Q X.xe s → wpAny (model X.prog X.w) X.A tt Q E s := fun {α tt Q s} hw => wpAny_mono hw (fun _ _ q => q) fun _ _ q => by rw [hE] at q; exact q.elim
    refine thn (nox (hi X g pins s σ H (fun J H2 => ∃ r2, HR X.K H2 r2 h1 ∧ Fm X.K r r2 H H2 ∧ ItOf X.K r2 H2 src J) I ⟨r, fr, h, src, h1, sr, hr, e1, fun J H2 r2 hr2 f2 hJ => ⟨r2, hr2, f2, hJ⟩⟩)) fun v s1 q1 => ?_
    refine thn (nox q1) fun itv s2 q2 => ?_
    obtain ⟨ita, fp, tn, J, H2, rfl, I2, Tn, st2, f2, r2, hr2, fm2, hJ⟩ := q2
    refine wpAny_newObj_type ?_
    generalize hDd : s2.heap.objs.size = Dd
    have hD0 : H2 Dd = none := by rw [← hDd]; exact I2.fresh
    have I3 : Inv X pins σ (upd H2 Dd (.lst [])) { s2 with heap := s2.heap.push { cls := .type "list", data := .seq ([] : List Value).toArray } } := by
      have := I2.lnew (ys := []) (its := []) (t' := s2.toks) .nil (Nat.zero_le _)
      rw [hDd] at this
      exact this
    have hlt2 : ∀ b ∈ fp, b < s2.heap.objs.size := fun b hb => by
      obtain ⟨o, e, _⟩ := Tn.obj 0 _ st2 b hb
      exact Heap.lt_size e
    generalize hs3 : ({ s2 with heap := s2.heap.push { cls := .type "list", data := .seq ([] : List Value).toArray } } : Shared) = s3 at I3
    have hsz3 : s3.heap.objs.size = s2.heap.objs.size + 1 := by rw [← hs3]; exact Heap.size_push ..
    have k3 : ∀ b o, s2.heap.get? b = some o → s3.heap.get? b = some o := fun b o e => by rw [← hs3]; exact Heap.get?_push_of_some _ e
    have hfl3 : ∀ b ∈ fp, b < s3.heap.objs.size := fun b hb => Nat.lt_of_lt_of_le (hlt2 b hb) (by rw [hsz3]; exact Nat.le_succ _)
    have hfp3 : ∀ b ∈ fp, FpOk X pins (upd H2 Dd (.lst [])) b := fun b hb => ⟨by rw [upd_ne (fun z => absurd (hlt2 b hb) (by rw [z, hDd]; exact Nat.lt_irrefl _))]; exact (f2 b hb).1, (f2 b hb).2⟩
    refine wpAny_newFunctionEnv (hs.nocell) (fun y hy => by simp at hy) (fun hh1 hns1 hsb1 => ?_) hs.kind
    have k4 : ∀ b o, s3.heap.get? b = some o → hh1.get? b = some o := fun b o e => hsb1.extBut b o (Nat.ne_of_lt (Heap.lt_size e)) (Heap.get?_push_of_some _ e)
    have gC : Good G n (relb sc scope) N' false (cxC X N' scope cl s3.heap.objs.size s3 (upd H2 Dd (.lst [])) fp) := g.comp
    have I4 : Inv (cxC X N' scope cl s3.heap.objs.size s3 (upd H2 Dd (.lst [])) fp) [] (sig scope N N' m' X.K (upd H2 Dd (.lst [])) r2 fr σ) (upd H2 Dd (.lst [])) { s3 with heap := hh1, toks := s3.toks + 0 } :=
      inv_comp g I3 hs hcl1 hcl2 hfp3 hfl3 hns1 k4
    have sr3 : SR X.K m' (upd H2 Dd (.lst [])) r2 fr (sig scope N N' m' X.K (upd H2 Dd (.lst [])) r2 fr σ) := sig_sr (((sr.mono fm2).mono (Fm.tup hD0))) hn hu
    have hr3 : HR X.K (upd H2 Dd (.lst [])) r2 h1 := hr2.tup hD0
    have hDr : Dd ∉ r2 := fun hm => by
      obtain ⟨k, hk⟩ := List.getElem?_of_mem hm
      have hlt : k < h1.length := by rw [← hr2.len]; exact (List.getElem?_eq_some_iff.mp hk).1
      obtain ⟨a, e3, e4⟩ := hr2.ob k _ (List.getElem?_eq_getElem hlt)
      rw [hk] at e3; cases e3
      cases eo : h1[k] with
      | lst dd => rw [eo] at e4; obtain ⟨us, e5, _⟩ := e4; rw [hD0] at e5; cases e5
      | frz dd =>
        rw [eo] at e4
        obtain ⟨us, e5, _⟩ := e4
        rcases e5 with ⟨ob, e5⟩ | ⟨ob, _, _, e5, _⟩
        · rw [hD0] at e5; cases e5
        · have := Heap.lt_size (I2.kIn _ _ e5)
          rw [hDd] at this
          exact absurd this (Nat.lt_irrefl _)
    have hDH : H Dd = none := by
      cases z : H Dd with
      | none => rfl
      | some o =>
        have hnr : Dd ∉ r := fun hm => by
          obtain ⟨k, hk⟩ := List.getElem?_of_mem hm
          exact hDr (List.mem_of_getElem? (fm2.pre _ _ hk))
        have := fm2.keep _ _ z hnr
        rw [hD0] at this; cases this
    have stat : ∀ {Hc : Hp}, (∀ b ∈ fp, Hc b = none) → ∀ b ∈ fp, FpOk (cxC X N' scope cl s3.heap.objs.size s3 (upd H2 Dd (.lst [])) fp) [] Hc b := fun {Hc} hz b hb => by
      refine ⟨hz b hb, Nat.ne_of_lt (hfl3 b hb), (I4.ok).exfs b hb, .inl hb, fun x c e => ((I4.ok).exf b hb).2 x c e, fun p hp => ?_⟩
      simp [cxC] at hp
    have hsz : ds.length ≤ sizeLine := by
      unfold Ev.alloc at e
      split at e
      · rename_i z; rw [← big_eq]; exact z
      · cases e
    have loop : ∀ s4 : Shared, s4 = { s3 with heap := hh1, toks := s3.toks + 0 } →
        codeAny (model X.prog X.w) X.A (.compLoop (.ListComp xe [⟨tg, xi, ifs, 0⟩] scope pos) 0 (.ref ita) (.ref Dd) (compEnvC scope cl s3.heap.objs.size X.env)) (post (.ref Dd) s3.heap.objs.size) s4 := by
      rintro s4 rfl
      refine compLoop_any (fun k sc' => ∃ i σc Hc rc hc dn vs rest, Inv (cxC X N' scope cl s3.heap.objs.size s3 (upd H2 Dd (.lst [])) fp) [] σc Hc sc' ∧ tn i sc'.heap ∧ (∀ b ∈ fp, Hc b = none) ∧ k = src.1.length - i ∧ i ≤ src.1.length ∧
        SR X.K m' Hc rc fr σc ∧ HR X.K Hc rc hc ∧ Fm X.K r2 rc H2 Hc ∧ Hc Dd = some (.lst vs) ∧ Dd ∉ rc ∧ RVs X.K Hc rc dn vs ∧ Ev.compL (oneC (Ev.run G.F G.w n) elt t cond fr) src.2 (src.1.drop i) hc = .ok rest h2 ∧ dn ++ rest = ds) ?_ src.1.length ?_
      · rintro k s5 ⟨i, σc, Hc, rc, hc', dn, vs, rest, I5, st5, fr5, rfl, hle, sr5, hr5, fm5, hDv, hDn, rv5, e5, ed5⟩
        by_cases hlt : i < src.1.length
        · rw [List.drop_eq_getElem_cons hlt] at e5
          simp only [Ev.compL] at e5
          split at e5
          · rename_i hst
            obtain ⟨hgo, _⟩ := hJ i Hc rc hc' hr5 fm5 hst
            obtain ⟨g1, g2⟩ := hgo src.1[i] (by simp [hlt])
            obtain ⟨o, h6, e6, e5⟩ := Ev.bind_eq_ok e5
            obtain ⟨rest', h7, e7, e5⟩ := Ev.bind_eq_ok e5
            cases e5
            refine thn (Tn.item (cxC X N' scope cl s3.heap.objs.size s3 (upd H2 Dd (.lst [])) fp) rfl rfl rfl g.calm i [] s5 σc Hc nev I5 (stat fr5) st5 g1) fun rr s6 ⟨u, hru, h8⟩ => ?_
            subst hru
            refine thn h8 fun _ s7 ⟨x, H7, I7, rx, y7, st7, fr7⟩ => ?_
            obtain ⟨r7, v7, hr7, fm7⟩ := g2 x H7 y7
            obtain ⟨hDn7, hDv7⟩ := fm7.notin hDv hDn
            unfold oneC at e6
            split at e6
            · cases e6
            · rename_i fr2 eb
              obtain ⟨kk, h9, e9, e6⟩ := Ev.bind_eq_ok e6
              have I7' := I7.pinned (stat fr7) (Tn.obj _ _ st7)
              refine thn (hg _ gC _ s7 σc H7 x u (fun σ8 H8 => H8 = H7 ∧ SR X.K m' H7 r7 fr2 σ8) I7' rx ⟨r7, fr, hc', _, fr2, sr5.mono fm7, hr7, v7, eb, fun s' q => ⟨rfl, q⟩⟩) fun _ s8 ⟨σ8, H8, I8, hH8, sr8⟩ => ?_
              subst hH8
              refine thn (hc _ gC _ s8 σ8 _ (fun b H9 => b = kk ∧ ∃ r9, HR X.K H9 r9 h9 ∧ Fm X.K r7 r9 _ H9) I8 ⟨r7, fr2, hc', kk, h9, sr8, hr7, e9, fun H9 r9 hr9 f9 => ⟨rfl, r9, hr9, f9⟩⟩) fun bb s9 ⟨H9, I9, hbb, r9, hr9, fm9⟩ => ?_
              subst hbb
              obtain ⟨hDn9, hDv9⟩ := fm9.notin hDv7 hDn7
              have back : ∀ {σ' : L2.St} {H' : Hp} {s' : Shared}, Inv (cxC X N' scope cl s3.heap.objs.size s3 (upd H2 Dd (.lst [])) fp) ([] ++ pinsAt fp s7.heap) σ' H' s' → tn (i + 1) s'.heap ∧ ∀ b ∈ fp, H' b = none := fun {σ' H' s'} I' => by
                refine ⟨Tn.keep _ _ _ st7 fun b hb o e => (I'.pin (b, o) (List.mem_append_right _ (List.mem_append_right _ (mem_pinsAt hb e)))).1, fun b hb => ?_⟩
                obtain ⟨o, e, dd⟩ := Tn.obj _ _ st7 b hb
                exact (I'.pin (b, o) (List.mem_append_right _ (List.mem_append_right _ (mem_pinsAt hb e)))).2.1
              cases bb with
              | false =>
                simp only [Bool.false_eq_true, if_false] at e6 ⊢
                cases e6
                refine ⟨src.1.length - (i + 1), by omega, i + 1, σ8, H9, r9, _, dn, vs, rest', I9.unpinned, (back I9).1, (back I9).2, rfl, hlt, (sr8.mono fm9).unbind eb hu, hr9, (fm5.trans fm7).trans fm9, hDv9, hDn9, (rv5.mono fm7).mono fm9, e7, ?_⟩
                simpa using ed5
              | true =>
                simp only [if_true] at e6 ⊢
                obtain ⟨xd, h10, e10, e6⟩ := Ev.bind_eq_ok e6
                cases e6
                refine thn (he _ gC _ s9 σ8 H9 (fun v H10 => ∃ r10, RV X.K H10 r10 xd v ∧ HR X.K H10 r10 _ ∧ Fm X.K r9 r10 H9 H10) I9 ⟨r9, fr2, h9, xd, _, sr8.mono fm9, hr9, e10, fun v H10 r10 v10 hr10 f10 => ⟨r10, v10, hr10, f10⟩⟩) fun u10 s10 ⟨v10, H10, I10, ru10, r10, rv10, hr10, fm10⟩ => ?_
                obtain ⟨hDn10, hDv10⟩ := fm10.notin hDv9 hDn9
                have hlen : vs.length < sizeLine := by
                  have h1 := rv5.length
                  have h2 := congrArg List.length ed5
                  simp at h2
                  omega
                refine thn (mt_append _ s10 σ8 H10 (.ref Dd) [v10] (.ref Dd) [u10] (fun _ H11 => H11 = upd H10 Dd (.lst (vs ++ [v10]))) I10 rfl (.cons ru10 .nil) ⟨Dd, vs, v10, rfl, rfl, hDv10, hlen, rfl⟩) fun _ s11 ⟨_, H11, I11, _, hH11⟩ => ?_
                subst hH11
                have fmA := ((fm5.trans fm7).trans fm9).trans fm10
                have gr : ∀ {dd : List D} {ws : List V}, RVs X.K H10 r10 dd ws → RVs X.K (upd H10 Dd (.lst (vs ++ [v10]))) r10 dd ws := fun q => q.grow (fun _ _ z => z) (tups_other hDv10)
                refine ⟨src.1.length - (i + 1), by omega, i + 1, σ8, _, r10, _, dn ++ [xd], vs ++ [v10], rest', I11.unpinned, (back I11).1, (back I11).2, rfl, hlt, ?_, hr10.other hDv10 hDn10, fmA.other hD0 hDv10, upd_same, hDn10, ?_, e7, ?_⟩
                · have q := ((sr8.mono fm9).mono fm10).unbind eb hu
                  exact ⟨q.len, fun j i' d' a1 a2 => by
                    obtain ⟨w, b1, b2⟩ := q.sl j i' d' a1 a2
                    exact ⟨w, b1, b2.grow (fun _ _ z => z) (tups_other hDv10)⟩⟩
                · exact gr ((((rv5.mono fm7).mono fm9).mono fm10).append (.cons rv10 .nil))
                · rw [← ed5]; simp
          · cases e5
        · have hi' : i = src.1.length := by omega
          subst hi'
          rw [List.drop_length] at e5
          simp only [Ev.compL] at e5
          split at e5
          · rename_i hst
            cases e5
            refine thn (Tn.done (cxC X N' scope cl s3.heap.objs.size s3 (upd H2 Dd (.lst [])) fp) rfl rfl rfl g.calm _ [] s5 σc Hc nev I5 (stat fr5) st5 ((hJ _ Hc rc _ hr5 fm5 hst).2 (Nat.le_refl _))) fun rr s6 ⟨hrr, I6⟩ => ?_
            subst hrr
            simp only [List.append_nil] at ed5
            subst ed5
            unfold Ev.alloc at e
            split at e
            · cases e
              obtain ⟨mm6, hns6, _⟩ := I6.loc
              refine hpost Dd _ s6 Hc (rc ++ [Dd]) ?_ ⟨mm6, hns6⟩ ?_ ⟨Dd, rfl, ?_⟩ (hr5.known hDv hDn rv5) ((fm2.trans fm5).known ?_)
              · exact I3.call' (ch := fp) (I6.os) I6.base I6.hok I6.bare fun b hb => ⟨(hfp3 b hb).2.2.2.1, (hfp3 b hb).2.1, (hfp3 b hb).2.2.2.2.1, (hfp3 b hb).2.2.2.2.2⟩
              · exact I3.fpOk (Nat.le_refl _) I6.free
              · rw [← hr5.len]; simp
              · exact hDH
            · cases e
          · cases e5
      · refine ⟨0, _, _, r2, h1, [], [], ds, I4, ?_, fun b hb => (hfp3 b hb).1, by simp, Nat.zero_le _, sr3, hr3, ?_, upd_same, ?_, .nil, by rw [List.drop_zero]; exact e2, rfl⟩
        · exact Tn.keep _ _ _ st2 fun b hb o eo => k4 b o (k3 b o eo)
        · exact Fm.tup hD0
        · exact hDr
    have fin := loop _ rfl
    subst hs3
    exact codeAny_compStart_list fin (Tn.self _ 0 _ _ _ (Tn.keep _ _ _ st2 fun b hb o eo => k4 b o (k3 b o eo)) fin)
  · cases e
end
end Sm
set_option Elab.async false
set_option linter.all false
set_option maxRecDepth 100000
namespace Sm
open PySem PySem.Spec PyProof.Rows L2
open Ev (D O Hh Fr R Phi E Es Eo T S Ss Fl Src BOp COp TY BI ME)
section
variable {G : Tb} {n : Nat} {sc scope : Scope} {N N' : List Str} {df : Bool} {m m' : List Nat} {elt : E} {t : T} {it : Ev.It} {cond : Eo} {xe xi tg : Expr} {ifs : List Expr} {pos : Pos}
theorem Good.cells {X : Cx} {pins : List (Addr × Obj)} {σ : L2.St} {H : Hp} {s : Shared} (g : Good G n sc N df X) (I : Inv X pins σ H s) (hs : ScOk sc scope) :
    ∃ cl, closureFor scope X.env = pure cl ∧ (∀ x c, cl.lookup x = some c → X.env.cells.lookup x = some c) ∧ ∀ x, (x, NameKind.free) ∈ scope.names → ∃ c, cl.lookup x = some c :=
  clos_of fun x hx => I.ok.has x (by unfold Env.kindOf; rw [g.sc]; exact (hs.free x hx).1)
theorem let_go {X : Cx} {pins : List (Addr × Obj)} {σ : L2.St} {H : Hp} {s : Shared} (I : Inv X pins σ H s) {C : Addr} (fp : FpOk X pins H C) {h' : Heap} (hs : Heap.SameBut C s.heap h') : Inv X pins σ H { s with heap := h' } :=
  I.turned (t' := s.toks) (fun b o hb e => hs.extBut b o hb e) fp.1 fp.2.1 fp.2.2.2.1 fp.2.2.2.2.1 fp.2.2.2.2.2
theorem je_comp (hi : JI G n sc N df m it tg xi) (hg : JG G n (relb sc scope) N' false m' t tg) (hc : JC G n (relb sc scope) N' false m' cond ifs) (he : JE G n (relb sc scope) N' false m' elt xe)
    (hn : namesOk sc N m scope t N' m') (hs : ScOk sc scope) (hf : ∀ (env : Env) x, foldedSetIterable xi env x = pure x := by intro _ _; rfl) : JE G n sc N df m (.comp elt t it cond) (.ListComp xe [⟨tg, xi, ifs, 0⟩] scope pos) := fun X g pins s σ H Q I q => by
  obtain ⟨r, fr, h, d, h', sr, hr, e, q⟩ := q
  obtain ⟨cl, hcl, hcl1, hcl2⟩ := g.cells I hs
  rw [eval_ListComp]
  refine wpAny_comprehension_free (use := none) (Q := EP X pins σ Q) rfl (hf _) hcl hs.kind hs.loc ?_
  refine comp_core g hi hg hc he hn hs hcl1 hcl2 I sr hr e (fun acc C => compPost (model X.prog X.w) X.A X.xe none (EP X pins σ Q) acc C) (fun Dd C s' H' r' I' hC fp rv hr' fm' => ?_) g.xe
  obtain ⟨mm, hC⟩ := hC
  exact ⟨mm, hC, fun h'' hsb => ⟨.ref Dd, H', let_go I' fp hsb, rfl, q _ H' r' rv hr' fm'⟩⟩
end
end Sm
set_option Elab.async false
set_option linter.all false
set_option maxRecDepth 100000
namespace Sm
open PySem PySem.Spec PyProof.Rows L2 PySem.SeqAt
open Ev (D O Hh Fr R Phi E Es Eo T S Ss Fl Src BOp COp TY BI ME)
structure EqU (A : Around) (s : Shared) (u w : Value) (k : Bool) : Prop where
  eq : EqAt A s u w k
  rc : RcAt A s u w k
  ne : RcNeAt A s u w (!k)
theorem eqL_len {f : D → D → Option Bool} : ∀ {x y : List D}, x.length ≠ y.length → ∀ {k}, Ev.eqL f x y = some k → k = false
  | [], [], h, _, _ => absurd rfl h
  | [], _ :: _, _, _, e => by cases e; rfl
  | _ :: _, [], _, _, e => by cases e; rfl
  | a :: x, b :: y, h, k, e => by
    simp only [Ev.eqL, Option.bind_eq_bind, Option.bind_eq_some_iff] at e
    obtain ⟨p, _, q, e2, e3⟩ := e
    have := eqL_len (x := x) (y := y) (by simpa using h) e2
    subst this
    cases e3
    simp
theorem eqL_all {f : D → D → Option Bool} : ∀ {x y : List D} {k}, Ev.eqL f x y = some k → x.length = y.length → ∃ e : Nat → Bool, (∀ (j : Nat) a b, x[j]? = some a → y[j]? = some b → f a b = some (e j)) ∧ (List.range x.length).all e = k
  | [], [], _, h, _ => ⟨fun _ => true, (fun j a b h1 => by simp at h1), by cases h; simp⟩
  | [], _ :: _, _, _, h => by simp at h
  | _ :: _, [], _, _, h => by simp at h
  | a :: x, b :: y, k, h, hl => by
    simp only [Ev.eqL, Option.bind_eq_bind, Option.bind_eq_some_iff] at h
    obtain ⟨p, e1, q, e2, e3⟩ := h
    cases e3
    obtain ⟨e, h1, h2⟩ := eqL_all e2 (by simpa using hl)
    refine ⟨fun j => match j with | 0 => p | j + 1 => e j, fun j a' b' g1 g2 => ?_, ?_⟩
    · cases j with
      | zero => simp at g1 g2; subst g1 g2; exact e1
      | succ j => exact h1 j a' b' (by simpa using g1) (by simpa using g2)
    · rw [List.length_cons, List.range_succ_eq_map, List.all_cons, List.all_map, ← h2]
      rfl
theorem eqL_pre {f : D → D → Option Bool} : ∀ {x y : List D} {k}, Ev.eqL f x y = some k → ∃ e : Nat → Bool, ∀ (j : Nat) a b, x[j]? = some a → y[j]? = some b → f a b = some (e j)
  | [], _, _, _ => ⟨fun _ => true, fun j a b h1 => by simp at h1⟩
  | _ :: _, [], _, _ => ⟨fun _ => true, fun j a b _ h1 => by simp at h1⟩
  | a :: x, b :: y, k, h => by
    simp only [Ev.eqL, Option.bind_eq_bind, Option.bind_eq_some_iff] at h
    obtain ⟨p, e1, q, e2, e3⟩ := h
    obtain ⟨e, h1⟩ := eqL_pre e2
    refine ⟨fun j => match j with | 0 => p | j + 1 => e j, fun j a' b' g1 g2 => ?_⟩
    cases j with
    | zero => simp at g1 g2; subst g1 g2; exact e1
    | succ j => exact h1 j a' b' (by simpa using g1) (by simpa using g2)
section
variable {X : Cx} {pins : List (Addr × Obj)} {σ : L2.St} {H : Hp} {s : Shared} {r : List Addr} {h : Hh}
theorem frz_lst (I : Inv X pins σ H s) {a b : Addr} {vs ws : List V} (h1 : FrzL X.K H a vs) (h2 : H b = some (.lst ws)) : a ≠ b := by
  rintro rfl
  rcases h1 with ⟨o, h1⟩ | ⟨o, _, _, h1, _⟩
  · rw [h2] at h1; cases h1
  · have := (I.bs a o (I.ok.mod.kin a o h1)).2
    rw [h2] at this; cases this
theorem seq_items {x y : List D} {vs ws : List V} {us zs : List Value} {f : D → D → Option Bool} {A : Around} {k : Bool} (v1 : RVs X.K H r x vs) (v2 : RVs X.K H r y ws) (p1 : Vals vs us) (p2 : Vals ws zs)
    (ih : ∀ a b va vb u w k, RV X.K H r a va → RV X.K H r b vb → RelV va u → RelV vb w → f a b = some k → EqU A s u w k) (hl : x.length = y.length) (e : Ev.eqL f x y = some k) :
    ∃ e' : Nat → Bool, (∀ j (h1 : j < us.toArray.size) (h2 : j < zs.toArray.size), EqAt A s us.toArray[j] zs.toArray[j] (e' j)) ∧ (List.range us.toArray.size).all e' = k ∧ us.length = zs.length := by
  obtain ⟨e', h1, h2⟩ := eqL_all e hl
  have l1 := v1.length
  have l2 := v2.length
  have l3 := p1.length
  have l4 := p2.length
  refine ⟨e', fun j g1 g2 => ?_, ?_, by omega⟩
  · have g1' : j < us.length := by simpa using g1
    have g2' : j < zs.length := by simpa using g2
    have ha : x[j]? = some x[j] := List.getElem?_eq_getElem (by omega)
    have hb : y[j]? = some y[j] := List.getElem?_eq_getElem (by omega)
    obtain ⟨va, a1, a2⟩ := v1.get ha
    obtain ⟨vb, b1, b2⟩ := v2.get hb
    obtain ⟨u, a3, a4⟩ := p1.get a1
    obtain ⟨w, b3, b4⟩ := p2.get b1
    have eu : us.toArray[j] = u := by
      have := (List.getElem?_eq_some_iff.mp a3).2
      simpa using this
    have ew : zs.toArray[j] = w := by
      have := (List.getElem?_eq_some_iff.mp b3).2
      simpa using this
    rw [eu, ew]
    exact (ih _ _ _ _ _ _ _ a2 b2 a4 b4 (h1 j _ _ ha hb)).eq
  · rw [← h2]
    have : us.toArray.size = x.length := by simp; omega
    rw [this]
noncomputable def Shp (K : PySem.W.Frag) (H : Hp) (r : List Addr) : D → V → Prop
  | .non, v => v = .non
  | .bl b, v => v = .bl b
  | .int i, v => v = .int i
  | .str l, v => v = .str (sOf l)
  | .ref n, v => ∃ a, v = .ref a ∧ r[n]? = some a
  | .tup ds, v => ∃ a vs, v = .ref a ∧ SqT K H a vs ∧ RVs K H r ds vs
theorem RV.shape {d : D} {v : V} (h : RV X.K H r d v) : Shp X.K H r d v := by
  cases d <;> simp only [RV] at h <;> simp only [Shp] <;> first | exact h | exact h.1
theorem str_dec {a b : List Nat} : (sOf a == sOf b) = (a == b) := by
  by_cases e : a = b
  · subst e; simp
  · have e1 : (sOf a == sOf b) = false := beq_eq_false_iff_ne.mpr fun z => e (sOf_inj z)
    have e2 : (a == b) = false := beq_eq_false_iff_ne.mpr e
    rw [e1, e2]
theorem lists_eq {n : Nat} {A : Around} {x y : List D} {a b : Addr} {vs ws : List V} {k : Bool} (I : Inv X pins σ H s) (hu : A.units < cLine) (q1 : SqL X.K H a vs) (q2 : SqL X.K H b ws) (v1 : RVs X.K H r x vs) (v2 : RVs X.K H r y ws) (hab : a ≠ b)
    (ih : ∀ a b va vb u w k, RV X.K H r a va → RV X.K H r b vb → RelV va u → RelV vb w → Ev.deq h n a b = some k → EqU A.in1 s u w k) (e : Ev.eqL (Ev.deq h n) x y = some k) : EqU A s (.ref a) (.ref b) k := by
  obtain ⟨us, p1, pl1, _⟩ := I.list q1
  obtain ⟨zs, p2, pl2, _⟩ := I.list q2
  by_cases hl : x.length = y.length
  · obtain ⟨e', h1, h2, h3⟩ := seq_items v1 v2 p1 p2 ih hl e
    have hs : us.toArray.size = zs.toArray.size := by simpa using h3
    have rc := RcAt.lists pl1.isList pl2.isList hs hu h1
    have ne := RcNeAt.lists pl1.isList pl2.isList hs hu h1
    rw [h2] at rc ne
    exact ⟨.of_refs hab rc, rc, ne⟩
  · have hk := eqL_len hl e
    subst hk
    have hs : (us.toArray.size != zs.toArray.size) = true := by
      have l1 := v1.length
      have l2 := v2.length
      have l3 := p1.length
      have l4 := p2.length
      simp only [List.size_toArray, bne_iff_ne, ne_eq]
      omega
    exact ⟨.of_refs hab (.lists_lengths pl1.isList pl2.isList hs hu), .lists_lengths pl1.isList pl2.isList hs hu, .lists_lengths pl1.isList pl2.isList hs hu⟩
theorem lst_at (I : Inv X pins σ H s) (hr : HR X.K H r h) {n : Nat} {a : Addr} {ds : List D} (e : Ev.lstOf h n = some ds) (ha : r[n]? = some a) : ∃ us : List Value, PlainL s.heap a us.toArray := by
  obtain ⟨a', vs, e1, e2, e3⟩ := hr.read e
  rw [ha] at e1; cases e1
  obtain ⟨us, _, pl, _⟩ := I.list e2
  exact ⟨us, pl⟩
theorem same_true (I : Inv X pins σ H s) (hr : HR X.K H r h) : ∀ (n : Nat) (a b : D) (v : V) (k : Bool), RV X.K H r a v → RV X.K H r b v → Ev.deq h n a b = some k → k = true := by
  intro n
  induction n with
  | zero => intro a b v k _ _ e; cases e
  | succ n ih =>
    have items : ∀ (x y : List D) (vs : List V) (k : Bool), RVs X.K H r x vs → RVs X.K H r y vs → Ev.eqL (Ev.deq h n) x y = some k → k = true := by
      intro x
      induction x with
      | nil =>
        intro y vs k h1 h2 e
        simp only [RVs] at h1
        subst h1
        cases y with
        | nil => cases e; rfl
        | cons _ _ => simp only [RVs] at h2; obtain ⟨_, _, h2, _⟩ := h2; cases h2
      | cons d x ihx =>
        intro y vs k h1 h2 e
        simp only [RVs] at h1
        obtain ⟨v, w, rfl, h3, h4⟩ := h1
        cases y with
        | nil => simp only [RVs] at h2; cases h2
        | cons d' y =>
          simp only [RVs] at h2
          obtain ⟨v', w', e2, h5, h6⟩ := h2
          cases e2
          simp only [Ev.eqL, Option.bind_eq_bind, Option.bind_eq_some_iff] at e
          obtain ⟨p, e1, q, e2, e3⟩ := e
          cases e3
          rw [ih d d' v p h3 h5 e1, ihx y w q h4 h6 e2]
          rfl
    have lt : ∀ (a : Addr) (vs : List V) (i : Nat) (ds : List D), SqT X.K H a vs → r[i]? = some a → Ev.lstOf h i = some ds → False := fun a vs i ds h1 h2 h3 => by
      obtain ⟨us, pl⟩ := lst_at I hr h3 h2
      obtain ⟨zs, _, pt, _⟩ := I.tuple h1
      exact ne_of_list_tuple pl.isList pt rfl
    intro a b v k h1 h2 e
    have s1 := h1.shape
    have s2 := h2.shape
    clear h1 h2
    cases a with
    | non => simp only [Shp] at s1; cases b with
      | non => cases e; rfl
      | ref m => obtain ⟨p, z, _⟩ := s2; rw [s1] at z; cases z
      | tup y => obtain ⟨p, _, z, _⟩ := s2; rw [s1] at z; cases z
      | _ => simp only [Shp] at s2; rw [s1] at s2; cases s2
    | bl x => simp only [Shp] at s1; cases b with
      | bl y => simp only [Shp] at s2; rw [s1] at s2; cases s2; cases e; simp
      | ref m => obtain ⟨p, z, _⟩ := s2; rw [s1] at z; cases z
      | tup y => obtain ⟨p, _, z, _⟩ := s2; rw [s1] at z; cases z
      | _ => simp only [Shp] at s2; rw [s1] at s2; cases s2
    | int x => simp only [Shp] at s1; cases b with
      | int y => simp only [Shp] at s2; rw [s1] at s2; cases s2; cases e; simp
      | ref m => obtain ⟨p, z, _⟩ := s2; rw [s1] at z; cases z
      | tup y => obtain ⟨p, _, z, _⟩ := s2; rw [s1] at z; cases z
      | _ => simp only [Shp] at s2; rw [s1] at s2; cases s2
    | str x => simp only [Shp] at s1; cases b with
      | str y =>
        simp only [Shp] at s2
        rw [s1] at s2
        have : x = y := sOf_inj (by injection s2)
        subst this
        cases e; simp
      | ref m => obtain ⟨p, z, _⟩ := s2; rw [s1] at z; cases z
      | tup y => obtain ⟨p, _, z, _⟩ := s2; rw [s1] at z; cases z
      | _ => simp only [Shp] at s2; rw [s1] at s2; cases s2
    | tup x =>
      obtain ⟨p, vs, rfl, z, w⟩ := s1
      cases b with
      | tup y =>
        obtain ⟨p', vs', z', z2, w2⟩ := s2
        cases z'
        rw [I.tuple_inj z2 z] at w2
        exact items x y vs k w w2 e
      | ref m =>
        obtain ⟨p', z', z2⟩ := s2
        cases z'
        simp only [Ev.deq, Option.map_eq_some_iff] at e
        obtain ⟨ds, e1, _⟩ := e
        exact (lt _ _ _ _ z z2 e1).elim
      | _ => cases s2
    | ref i =>
      obtain ⟨p, rfl, z⟩ := s1
      cases b with
      | ref m =>
        obtain ⟨p', z', z2⟩ := s2
        cases z'
        simp only [Ev.deq] at e
        split at e
        · simp only [Option.map_eq_some_iff] at e
          obtain ⟨_, _, e⟩ := e
          exact e.symm
        · rename_i hne
          split at e
          · rename_i x y g1 g2
            exact absurd (hr.inj _ _ _ _ _ z z2 g1 g2) hne
          · rename_i x y g1 g2
            obtain ⟨p1, q1, vs1, q2, _⟩ := hr.ob _ _ g1
            obtain ⟨p2, q3, vs2, q4, _⟩ := hr.ob _ _ g2
            rw [z] at q1; cases q1
            rw [z2] at q3; cases q3
            exact absurd rfl (frz_lst I q2 q4)
          · rename_i x y g1 g2
            obtain ⟨p1, q1, vs1, q2, _⟩ := hr.ob _ _ g1
            obtain ⟨p2, q3, vs2, q4, _⟩ := hr.ob _ _ g2
            rw [z] at q1; cases q1
            rw [z2] at q3; cases q3
            exact absurd rfl (frz_lst I q4 q2)
          · cases e
      | tup y =>
        obtain ⟨p', vs', z', z2, w2⟩ := s2
        cases z'
        simp only [Ev.deq, Option.map_eq_some_iff] at e
        obtain ⟨ds, e1, _⟩ := e
        exact (lt _ _ _ _ z2 z e1).elim
      | _ => cases s2
theorem tups_eq {n : Nat} {A : Around} {x y : List D} {a b : Addr} {vs ws : List V} {k : Bool} (I : Inv X pins σ H s) (hr : HR X.K H r h) (hu : A.units < cLine) (q1 : SqT X.K H a vs) (q2 : SqT X.K H b ws) (v1 : RVs X.K H r x vs) (v2 : RVs X.K H r y ws)
    (ih : ∀ a b va vb u w k, RV X.K H r a va → RV X.K H r b vb → RelV va u → RelV vb w → Ev.deq h n a b = some k → EqU A.in1 s u w k) (e : Ev.eqL (Ev.deq h n) x y = some k) : EqU A s (.ref a) (.ref b) k := by
  obtain ⟨us, p1, pl1, _⟩ := I.tuple q1
  obtain ⟨zs, p2, pl2, _⟩ := I.tuple q2
  have l1 := v1.length
  have l2 := v2.length
  have l3 := p1.length
  have l4 := p2.length
  have both : RcAt A s (.ref a) (.ref b) k ∧ RcNeAt A s (.ref a) (.ref b) (!k) := by
    by_cases hl : x.length = y.length
    · obtain ⟨e', h1, h2, h3⟩ := seq_items v1 v2 p1 p2 ih hl e
      have rc := RcAt.tuples pl1 pl2 hu h1
      have ne := RcNeAt.tuples pl1 pl2 hu h1
      have hs : us.toArray.size = zs.toArray.size := by simpa using h3
      have hb : ((List.range (min us.toArray.size zs.toArray.size)).all e' && us.toArray.size == zs.toArray.size) = k := by
        rw [← hs, Nat.min_self, h2]; simp
      rw [hb] at rc ne
      exact ⟨rc, ne⟩
    · have hk := eqL_len hl e
      subst hk
      have hcl : ∃ e' : Nat → Bool, ∀ j (h1 : j < us.toArray.size) (h2 : j < zs.toArray.size), EqAt A.in1 s us.toArray[j] zs.toArray[j] (e' j) := by
        obtain ⟨e', h1⟩ := eqL_pre e
        refine ⟨e', fun j g1 g2 => ?_⟩
        have g1' : j < us.length := by simpa using g1
        have g2' : j < zs.length := by simpa using g2
        have ha : x[j]? = some x[j] := List.getElem?_eq_getElem (by omega)
        have hb : y[j]? = some y[j] := List.getElem?_eq_getElem (by omega)
        obtain ⟨va, a1, a2⟩ := v1.get ha
        obtain ⟨vb, b1, b2⟩ := v2.get hb
        obtain ⟨u, a3, a4⟩ := p1.get a1
        obtain ⟨w, b3, b4⟩ := p2.get b1
        have eu : us.toArray[j] = u := by
          have := (List.getElem?_eq_some_iff.mp a3).2
          simpa using this
        have ew : zs.toArray[j] = w := by
          have := (List.getElem?_eq_some_iff.mp b3).2
          simpa using this
        rw [eu, ew]
        exact (ih _ _ _ _ _ _ _ a2 b2 a4 b4 (h1 j _ _ ha hb)).eq
      obtain ⟨e', h1⟩ := hcl
      have rc := RcAt.tuples pl1 pl2 hu h1
      have ne := RcNeAt.tuples pl1 pl2 hu h1
      have hs : (us.toArray.size == zs.toArray.size) = false := by
        simp only [List.size_toArray, beq_eq_false_iff_ne, ne_eq]; omega
      rw [hs, Bool.and_false] at rc ne
      exact ⟨rc, ne⟩
  by_cases hab : a = b
  · subst hab
    rw [I.tuple_inj q2 q1] at v2
    have hk : k = true := same_true I hr (n + 1) (.tup x) (.tup y) (.ref a) k ⟨a, vs, rfl, q1, v1⟩ ⟨a, vs, rfl, q1, v2⟩ e
    subst hk
    exact ⟨.same _, both.1, both.2⟩
  · exact ⟨.of_refs hab both.1, both.1, both.2⟩
end
end Sm
set_option Elab.async false
set_option linter.all false
set_option maxRecDepth 100000
namespace Sm
open PySem PySem.Spec PyProof.Rows L2 PySem.SeqAt
open Ev (D O Hh Fr R Phi E Es Eo T S Ss Fl Src BOp COp TY BI ME)
section
variable {X : Cx} {pins : List (Addr × Obj)} {σ : L2.St} {H : Hp} {s : Shared} {r : List Addr} {h : Hh}
theorem eq_at (I : Inv X pins σ H s) (hr : HR X.K H r h) : ∀ (n : Nat) (A : Around) (a b : D) (va vb : V) (u w : Value) (k : Bool), A.units + n < cLine → RV X.K H r a va → RV X.K H r b vb → RelV va u → RelV vb w → Ev.deq h n a b = some k → EqU A s u w k := by
  intro n
  induction n with
  | zero => intro A a b va vb u w k _ _ _ _ _ e; cases e
  | succ n ih =>
    intro A a b va vb u w k hu h1 h2 r1 r2 e
    have hu0 : A.units < cLine := by omega
    have ih' : ∀ a b va vb u w k, RV X.K H r a va → RV X.K H r b vb → RelV va u → RelV vb w → Ev.deq h n a b = some k → EqU A.in1 s u w k := fun a b va vb u w k => ih A.in1 a b va vb u w k (by show A.units + 1 + n < cLine; omega)
    have s1 := h1.shape
    have s2 := h2.shape
    have lst : ∀ {i : Nat} {v : V} {u : Value} {ds : List D}, Shp X.K H r (.ref i) v → RelV v u → Ev.lstOf h i = some ds → ∃ p us, u = .ref p ∧ PlainL s.heap p (List.toArray us) := fun {i v u ds} hv ru el => by
      obtain ⟨p, rfl, z⟩ := hv
      cases ru
      obtain ⟨us, pl⟩ := lst_at I hr el z
      exact ⟨p, us, rfl, pl⟩
    have tup : ∀ {ds : List D} {v : V} {u : Value}, Shp X.K H r (.tup ds) v → RelV v u → ∃ p us, u = .ref p ∧ s.heap.IsTuple p (List.toArray us) := fun {ds v u} hv ru => by
      obtain ⟨p, vs, rfl, z, _⟩ := hv
      cases ru
      obtain ⟨us, _, pt, _⟩ := I.tuple z
      exact ⟨p, us, rfl, pt⟩
    cases a with
    | non =>
      simp only [Shp] at s1; subst s1; cases r1
      cases b with
      | non => simp only [Shp] at s2; subst s2; cases r2; cases e; exact ⟨.same _, .none_none, .none_none⟩
      | bl y => simp only [Shp] at s2; subst s2; cases r2; cases e; exact ⟨.none_bool _, .none_bool _, .none_bool _⟩
      | int y => simp only [Shp] at s2; subst s2; obtain ⟨t, rfl⟩ := r2; cases e; exact ⟨.none_int _ _, .none_int _ _, .none_int _ _⟩
      | str y => simp only [Shp] at s2; subst s2; obtain ⟨t, rfl⟩ := r2; cases e; exact ⟨.none_str _ _, .none_str _ _, .none_str _ _⟩
      | tup y => obtain ⟨p, us, rfl, pt⟩ := tup s2 r2; cases e; exact ⟨.none_tuple pt hu0, .none_tuple pt hu0, .none_tuple pt hu0⟩
      | ref m =>
        simp only [Ev.deq, Option.map_eq_some_iff] at e
        obtain ⟨ds, e1, rfl⟩ := e
        obtain ⟨p, us, rfl, pl⟩ := lst s2 r2 e1
        exact ⟨.none_list pl.isList hu0, .none_list pl.isList hu0, .none_list pl.isList hu0⟩
    | bl x =>
      simp only [Shp] at s1; subst s1; cases r1
      cases b with
      | non => simp only [Shp] at s2; subst s2; cases r2; cases e; exact ⟨.bool_none _, .bool_none _, .bool_none _⟩
      | bl y => simp only [Shp] at s2; subst s2; cases r2; cases e; exact ⟨.bool_bool _ _, .bool_bool _ _, .bool_bool _ _⟩
      | int y => simp only [Shp] at s2; subst s2; obtain ⟨t, rfl⟩ := r2; cases e; exact ⟨.bool_int _ _ _, .bool_int _ _ _, .bool_int _ _ _⟩
      | str y => simp only [Shp] at s2; subst s2; obtain ⟨t, rfl⟩ := r2; cases e; exact ⟨.bool_str _ _ _, .bool_str _ _ _, .bool_str _ _ _⟩
      | tup y => obtain ⟨p, us, rfl, pt⟩ := tup s2 r2; cases e; exact ⟨.bool_tuple _ pt hu0, .bool_tuple _ pt hu0, .bool_tuple _ pt hu0⟩
      | ref m =>
        simp only [Ev.deq, Option.map_eq_some_iff] at e
        obtain ⟨ds, e1, rfl⟩ := e
        obtain ⟨p, us, rfl, pl⟩ := lst s2 r2 e1
        exact ⟨.bool_list _ pl.isList hu0, .bool_list _ pl.isList hu0, .bool_list _ pl.isList hu0⟩
    | int x =>
      simp only [Shp] at s1; subst s1; obtain ⟨t0, rfl⟩ := r1
      cases b with
      | non => simp only [Shp] at s2; subst s2; cases r2; cases e; exact ⟨.int_none _ _, .int_none _ _, .int_none _ _⟩
      | bl y => simp only [Shp] at s2; subst s2; cases r2; cases e; exact ⟨.int_bool _ _ _, .int_bool _ _ _, .int_bool _ _ _⟩
      | int y => simp only [Shp] at s2; subst s2; obtain ⟨t, rfl⟩ := r2; cases e; exact ⟨.int_int _ _ _ _, .int_int _ _ _ _, .int_int _ _ _ _⟩
      | str y => simp only [Shp] at s2; subst s2; obtain ⟨t, rfl⟩ := r2; cases e; exact ⟨.int_str _ _ _ _, .int_str _ _ _ _, .int_str _ _ _ _⟩
      | tup y => obtain ⟨p, us, rfl, pt⟩ := tup s2 r2; cases e; exact ⟨.int_tuple _ _ pt hu0, .int_tuple _ _ pt hu0, .int_tuple _ _ pt hu0⟩
      | ref m =>
        simp only [Ev.deq, Option.map_eq_some_iff] at e
        obtain ⟨ds, e1, rfl⟩ := e
        obtain ⟨p, us, rfl, pl⟩ := lst s2 r2 e1
        exact ⟨.int_list _ _ pl.isList hu0, .int_list _ _ pl.isList hu0, .int_list _ _ pl.isList hu0⟩
    | str x =>
      simp only [Shp] at s1; subst s1; obtain ⟨t0, rfl⟩ := r1
      cases b with
      | non => simp only [Shp] at s2; subst s2; cases r2; cases e; exact ⟨.str_none _ _, .str_none _ _, .str_none _ _⟩
      | bl y => simp only [Shp] at s2; subst s2; cases r2; cases e; exact ⟨.str_bool _ _ _, .str_bool _ _ _, .str_bool _ _ _⟩
      | int y => simp only [Shp] at s2; subst s2; obtain ⟨t, rfl⟩ := r2; cases e; exact ⟨.str_int _ _ _ _, .str_int _ _ _ _, .str_int _ _ _ _⟩
      | str y =>
        simp only [Shp] at s2; subst s2; obtain ⟨t, rfl⟩ := r2
        cases e
        rw [← str_dec]
        exact ⟨.str_str _ _ _ _, .str_str _ _ _ _, .str_str _ _ _ _⟩
      | tup y => obtain ⟨p, us, rfl, pt⟩ := tup s2 r2; cases e; exact ⟨.str_tuple _ _ pt hu0, .str_tuple _ _ pt hu0, .str_tuple _ _ pt hu0⟩
      | ref m =>
        simp only [Ev.deq, Option.map_eq_some_iff] at e
        obtain ⟨ds, e1, rfl⟩ := e
        obtain ⟨p, us, rfl, pl⟩ := lst s2 r2 e1
        exact ⟨.str_list _ _ pl.isList hu0, .str_list _ _ pl.isList hu0, .str_list _ _ pl.isList hu0⟩
    | tup x =>
      cases b with
      | tup y =>
        obtain ⟨p, vs, rfl, z, w1⟩ := s1
        obtain ⟨p', vs', rfl, z', w2⟩ := s2
        cases r1; cases r2
        exact tups_eq I hr hu0 z z' w1 w2 ih' e
      | non => obtain ⟨p, us, rfl, pt⟩ := tup s1 r1; simp only [Shp] at s2; subst s2; cases r2; cases e; exact ⟨.tuple_none pt hu0, .tuple_none pt hu0, .tuple_none pt hu0⟩
      | bl y => obtain ⟨p, us, rfl, pt⟩ := tup s1 r1; simp only [Shp] at s2; subst s2; cases r2; cases e; exact ⟨.tuple_bool _ pt hu0, .tuple_bool _ pt hu0, .tuple_bool _ pt hu0⟩
      | int y => obtain ⟨p, us, rfl, pt⟩ := tup s1 r1; simp only [Shp] at s2; subst s2; obtain ⟨t, rfl⟩ := r2; cases e; exact ⟨.tuple_int _ _ pt hu0, .tuple_int _ _ pt hu0, .tuple_int _ _ pt hu0⟩
      | str y => obtain ⟨p, us, rfl, pt⟩ := tup s1 r1; simp only [Shp] at s2; subst s2; obtain ⟨t, rfl⟩ := r2; cases e; exact ⟨.tuple_str _ _ pt hu0, .tuple_str _ _ pt hu0, .tuple_str _ _ pt hu0⟩
      | ref m =>
        obtain ⟨p, us, rfl, pt⟩ := tup s1 r1
        simp only [Ev.deq, Option.map_eq_some_iff] at e
        obtain ⟨ds, e1, rfl⟩ := e
        obtain ⟨p', us', rfl, pl⟩ := lst s2 r2 e1
        exact ⟨.tuple_list pt pl.isList hu0, .tuple_list pt pl.isList hu0, .tuple_list pt pl.isList hu0⟩
    | ref i =>
      cases b with
      | ref m =>
        simp only [Ev.deq] at e
        split at e
        · rename_i him
          subst him
          simp only [Option.map_eq_some_iff] at e
          obtain ⟨ds, e1, rfl⟩ := e
          obtain ⟨p, us, rfl, pl⟩ := lst s1 r1 e1
          obtain ⟨p0, rfl, z⟩ := s1
          obtain ⟨p1, rfl, z'⟩ := s2
          rw [z] at z'; cases z'
          cases r1; cases r2
          have q : (List.range (List.toArray us).size).all (fun _ => true) = true := by simp
          have rc := RcAt.lists (A := A) (e := fun _ => true) pl.isList pl.isList rfl hu0 fun j _ _ => EqAt.same _
          have ne := RcNeAt.lists (A := A) (e := fun _ => true) pl.isList pl.isList rfl hu0 fun j _ _ => EqAt.same _
          rw [q] at rc ne
          exact ⟨.same _, rc, ne⟩
        · rename_i hne
          obtain ⟨p0, rfl, z⟩ := s1
          obtain ⟨p1, rfl, z'⟩ := s2
          cases r1; cases r2
          split at e
          · rename_i x y g1 g2
            obtain ⟨q0, q1, vs1, q2, q3⟩ := hr.ob _ _ g1
            obtain ⟨q4, q5, vs2, q6, q7⟩ := hr.ob _ _ g2
            rw [z] at q1; cases q1
            rw [z'] at q5; cases q5
            exact lists_eq I hu0 (.of q2) (.of q6) q3 q7 (fun w => hne (hr.inj _ _ _ _ _ z (by rw [w]; exact z') g1 g2)) ih' e
          · rename_i x y g1 g2
            obtain ⟨q0, q1, vs1, q2, q3⟩ := hr.ob _ _ g1
            obtain ⟨q4, q5, vs2, q6, q7⟩ := hr.ob _ _ g2
            rw [z] at q1; cases q1
            rw [z'] at q5; cases q5
            exact lists_eq I hu0 (frzSq q2) (.of q6) q3 q7 (frz_lst I q2 q6) ih' e
          · rename_i x y g1 g2
            obtain ⟨q0, q1, vs1, q2, q3⟩ := hr.ob _ _ g1
            obtain ⟨q4, q5, vs2, q6, q7⟩ := hr.ob _ _ g2
            rw [z] at q1; cases q1
            rw [z'] at q5; cases q5
            exact lists_eq I hu0 (.of q2) (frzSq q6) q3 q7 (frz_lst I q6 q2).symm ih' e
          · cases e
      | non => simp only [Ev.deq, Option.map_eq_some_iff] at e; obtain ⟨ds, e1, rfl⟩ := e; obtain ⟨p, us, rfl, pl⟩ := lst s1 r1 e1; simp only [Shp] at s2; subst s2; cases r2; exact ⟨.list_none pl.isList hu0, .list_none pl.isList hu0, .list_none pl.isList hu0⟩
      | bl y => simp only [Ev.deq, Option.map_eq_some_iff] at e; obtain ⟨ds, e1, rfl⟩ := e; obtain ⟨p, us, rfl, pl⟩ := lst s1 r1 e1; simp only [Shp] at s2; subst s2; cases r2; exact ⟨.list_bool _ pl.isList hu0, .list_bool _ pl.isList hu0, .list_bool _ pl.isList hu0⟩
      | int y => simp only [Ev.deq, Option.map_eq_some_iff] at e; obtain ⟨ds, e1, rfl⟩ := e; obtain ⟨p, us, rfl, pl⟩ := lst s1 r1 e1; simp only [Shp] at s2; subst s2; obtain ⟨t, rfl⟩ := r2; exact ⟨.list_int _ _ pl.isList hu0, .list_int _ _ pl.isList hu0, .list_int _ _ pl.isList hu0⟩
      | str y => simp only [Ev.deq, Option.map_eq_some_iff] at e; obtain ⟨ds, e1, rfl⟩ := e; obtain ⟨p, us, rfl, pl⟩ := lst s1 r1 e1; simp only [Shp] at s2; subst s2; obtain ⟨t, rfl⟩ := r2; exact ⟨.list_str _ _ pl.isList hu0, .list_str _ _ pl.isList hu0, .list_str _ _ pl.isList hu0⟩
      | tup y =>
        simp only [Ev.deq, Option.map_eq_some_iff] at e
        obtain ⟨ds, e1, rfl⟩ := e
        obtain ⟨p, us, rfl, pl⟩ := lst s1 r1 e1
        obtain ⟨p', us', rfl, pt⟩ := tup s2 r2
        exact ⟨.list_tuple pl.isList pt hu0, .list_tuple pl.isList pt hu0, .list_tuple pl.isList pt hu0⟩
where
  frzSq {K : PySem.W.Frag} {H : Hp} {a : Addr} {vs : List V} (q : FrzL K H a vs) : SqL K H a vs := by
    rcases q with ⟨ob, e2⟩ | e2
    · exact .inl (.inr ⟨ob, e2⟩)
    · exact .inr e2
end
theorem Good.units {G : Tb} {n : Nat} {sc : Scope} {N : List Str} {df : Bool} {X : Cx} (g : Good G n sc N df X) : X.A.units + 1 + Ev.deep < cLine := by
  have := g.room.un
  have : Ev.deep = 20 := rfl
  omega
section
variable {G : Tb} {n : Nat} {sc : Scope} {N : List Str} {df : Bool} {X : Cx}
theorem fin_cmp {pins : List (Addr × Obj)} {σ : L2.St} {H : Hp} {s : Shared} {Q : VK} {r : List Addr} {h : Hh} {k : Bool} (I : Inv X pins σ H s) (hr : HR X.K H r h) (q : Res X.K r H h (.bl k) Q) : EP X pins σ Q (.bool k) s :=
  ⟨.bl k, H, I, rfl, q.here rfl hr⟩
theorem oc_eq (g : Good G n sc N df X) : OpR X (compareOp .Eq) (rD2 X.K (cmpD .eq)) := by
  intro pins s σ H x y v u Q I rx ry q
  obtain ⟨r, h, a, b, d, h', hr, v1, v2, e, q⟩ := q
  obtain ⟨k, e1, rfl, rfl⟩ := cmpD_ok e
  have := g.units
  exact (eq_at I hr Ev.deep X.A a b x y v u k (by omega) v1 v2 rx ry e1).rc _ _ _ _ (fin_cmp I hr q)
theorem oc_ne (g : Good G n sc N df X) : OpR X (compareOp .NotEq) (rD2 X.K (cmpD .ne)) := by
  intro pins s σ H x y v u Q I rx ry q
  obtain ⟨r, h, a, b, d, h', hr, v1, v2, e, q⟩ := q
  obtain ⟨k, e1, rfl, rfl⟩ := cmpD_ok e
  have := g.units
  delta Ev.cop at e1; dsimp only at e1; simp only [Option.map_eq_some_iff] at e1
  obtain ⟨k', e2, rfl⟩ := e1
  exact (eq_at I hr Ev.deep X.A a b x y v u k' (by omega) v1 v2 rx ry e2).ne _ _ _ _ (fin_cmp I hr q)
theorem oc_int {op : CmpOp} {o : COp} {p : Int → Int → Bool} (ho : OpR X (compareOp op) (rI0 fun i j => .bl (p i j))) (hc : ∀ a b h k, Ev.cop o a b h = some k → ∃ i j, a = .int i ∧ b = .int j ∧ k = p i j) : OpR X (compareOp op) (rD2 X.K (cmpD o)) := by
  intro pins s σ H x y v u Q I rx ry q
  obtain ⟨r, h, a, b, d, h', hr, v1, v2, e, q⟩ := q
  obtain ⟨k, e1, rfl, rfl⟩ := cmpD_ok e
  obtain ⟨i, j, rfl, rfl, rfl⟩ := hc _ _ _ _ e1
  exact ho pins s σ H x y v u Q I rx ry ⟨i, j, v1, v2, q.here rfl hr⟩
theorem oc_lt : OpR X (compareOp .Lt) (rD2 X.K (cmpD .lt)) := oc_int op_lt fun a b h k e => by
  cases a <;> cases b <;> (delta Ev.cop at e; dsimp only at e) <;> first | (cases e; exact ⟨_, _, rfl, rfl, rfl⟩) | cases e
theorem oc_gt : OpR X (compareOp .Gt) (rD2 X.K (cmpD .gt)) := oc_int op_gt fun a b h k e => by
  cases a <;> cases b <;> (delta Ev.cop at e; dsimp only at e) <;> first | (cases e; exact ⟨_, _, rfl, rfl, rfl⟩) | cases e
end
end Sm
set_option Elab.async false
set_option linter.all false
set_option maxRecDepth 100000
namespace Sm
open PySem PySem.Spec PyProof.Rows L2 PySem.SeqAt
open Ev (D O Hh Fr R Phi E Es Eo T S Ss Fl Src BOp COp TY BI ME)
section
variable {X : Cx} {pins : List (Addr × Obj)} {σ : L2.St} {H : Hp} {s : Shared} {r : List Addr} {h : Hh}
end
section
variable {G : Tb} {n : Nat} {sc : Scope} {N : List Str} {df : Bool} {X : Cx}
theorem sOf_app (a b : List Nat) : sOf a ++ sOf b = sOf (a ++ b) := by
  show Str.append (sOf a) (sOf b) = _
  simp [Str.append, sOf]
theorem cat_nil {pins : List (Addr × Obj)} {σ : L2.St} {H : Hp} {s : Shared} {Q : Value → Shared → Prop} {E : Value → Shared → Prop} (I : Inv X pins σ H s) {a b : Addr} {ys : List V} (h1 : SqT X.K H a []) (h2 : SqT X.K H b ys) (q : Q (.ref b) s) : wpAny (model X.prog X.w) X.A (binaryOp .Add (.ref a) (.ref b)) Q E s := by
  obtain ⟨us, p1, pt1, _⟩ := I.tuple h1
  obtain ⟨zs, p2, pt2, _⟩ := I.tuple h2
  cases p1
  obtain ⟨⟨cls, dd, data, sl⟩, ho, hc, n, hd⟩ := id pt1
  obtain ⟨⟨cls2, dd2, data2, sl2⟩, ho2, hc2, n2, hd2⟩ := id pt2
  simp only at hc hd hc2 hd2
  subst hc hd hc2 hd2
  exact concat_meets ⟨_, ho, rfl⟩ ⟨_, ho2, rfl⟩ noFill_tuple_add seq_tuple_add PySem.F.slot_tuple_add PySem.F.entry_tuple_add (PySem.F.args_tuple_add_2 _ _)
    (tuple_addW0 a b _ _ n n2 dd dd2 sl sl2 (by simp)) ⟨ho, ho2, q⟩
theorem ob_add : OpR X (binaryOp .Add) (rD2 X.K (Ev.bop .add)) := by
  intro pins s σ H x y v u Q I rx ry q
  obtain ⟨r, h, a, b, d, h', hr, v1, v2, e, q⟩ := q
  have s1 := v1.shape
  have s2 := v2.shape
  cases a with
  | int i => cases b with
    | int j => cases e; exact op_add pins s σ H x y v u Q I rx ry ⟨i, j, s1, s2, q.here rfl hr⟩
    | _ => cases e
  | str i => cases b with
    | str j =>
      delta Ev.bop at e; dsimp only at e
      split at e
      · rename_i hz
        cases e
        rw [big_eq] at hz
        refine op_add_str pins s σ H x y v u Q I rx ry ⟨sOf i, sOf j, s1, s2, by rw [sOf_len, sOf_len]; exact hz, ?_⟩
        rw [sOf_app]
        exact q.here ⟨rfl, by rw [List.length_append]; exact hz⟩ hr
      · cases e
    | _ => cases e
  | tup i => cases b with
    | tup j =>
      delta Ev.bop at e; dsimp only at e
      split at e
      · rename_i hz
        cases e
        rw [big_eq] at hz
        obtain ⟨pa, vs, rfl, z1, w1⟩ := s1
        obtain ⟨pb, ws, rfl, z2, w2⟩ := s2
        have l1 := w1.length
        have l2 := w2.length
        cases vs with
        | nil =>
          cases rx; cases ry
          refine cat_nil I z1 z2 ⟨.ref pb, H, I, rfl, q.here ?_ hr⟩
          have : i = [] := by cases i with | nil => rfl | cons _ _ => simp at l1
          subst this
          exact ⟨pb, ws, rfl, z2, by simpa using w2⟩
        | cons v0 vs =>
          refine op_catT pins s σ H _ _ v u Q I rx ry ⟨pa, pb, v0 :: vs, ws, rfl, rfl, z1, z2, by simp, by rw [l1, l2]; exact hz, fun hw => ?_, fun hw p hp => ?_⟩
          · subst hw
            have : j = [] := by cases j with | nil => rfl | cons _ _ => simp at l2
            subst this
            exact q.here ⟨pa, v0 :: vs, rfl, z1, by simpa using w1⟩ hr
          · exact q.tup (w1.append w2) hr hp
      · cases e
    | _ => cases e
  | ref i => cases b with
    | ref j =>
      delta Ev.bop at e; dsimp only at e
      split at e
      · rename_i ds es e1 e2
        obtain ⟨pa, rfl, z1⟩ := s1
        obtain ⟨pb, rfl, z2⟩ := s2
        cases rx; cases ry
        obtain ⟨p1, g1, vs, g2, g3⟩ := hr.ob _ _ e1
        obtain ⟨p2, k1, ws, k2, k3⟩ := hr.ob _ _ e2
        rw [z1] at g1; cases g1
        rw [z2] at k1; cases k1
        obtain ⟨hz, q2⟩ := q.lst e (g3.append k3) hr
        exact op_cat pins s σ H (.ref pa) (.ref pb) _ _ Q I rfl rfl ⟨_, _, vs, ws, rfl, rfl, g2, k2, by rw [List.length_append] at hz; exact hz, q2⟩
      · cases e
    | _ => cases e
  | _ => cases b <;> cases e
theorem ob_sub : OpR X (binaryOp .Sub) (rD2 X.K (Ev.bop .sub)) := by
  intro pins s σ H x y v u Q I rx ry q
  obtain ⟨r, h, a, b, d, h', hr, v1, v2, e, q⟩ := q
  cases a with
  | int i => cases b with
    | int j => cases e; exact op_sub pins s σ H x y v u Q I rx ry ⟨i, j, v1, v2, q.here rfl hr⟩
    | _ => cases e
  | _ => cases b <;> cases e
theorem ob_fdiv : OpR X (binaryOp .FloorDiv) (rD2 X.K (Ev.bop .fdiv)) := by
  intro pins s σ H x y v u Q I rx ry q
  obtain ⟨r, h, a, b, d, h', hr, v1, v2, e, q⟩ := q
  cases a with
  | int i => cases b with
    | int j =>
      delta Ev.bop at e; dsimp only at e
      split at e
      · rename_i hz; cases e; exact op_fdiv pins s σ H x y v u Q I rx ry ⟨i, j, v1, v2, hz, q.here rfl hr⟩
      · cases e
    | _ => cases e
  | _ => cases b <;> cases e
theorem ob_mod : OpR X (binaryOp .Mod) (rD2 X.K (Ev.bop .mod)) := by
  intro pins s σ H x y v u Q I rx ry q
  obtain ⟨r, h, a, b, d, h', hr, v1, v2, e, q⟩ := q
  cases a with
  | int i => cases b with
    | int j =>
      delta Ev.bop at e; dsimp only at e
      split at e
      · rename_i hz; cases e; exact op_mod pins s σ H x y v u Q I rx ry ⟨i, j, v1, v2, hz, q.here rfl hr⟩
      · cases e
    | _ => cases e
  | _ => cases b <;> cases e
end
end Sm
set_option Elab.async false
set_option linter.all false
set_option maxRecDepth 100000
namespace Sm
open PySem PySem.Spec PyProof.Rows L2 PySem.SeqAt
open Ev (D O Hh Fr R Phi E Es Eo T S Ss Fl Src BOp COp TY BI ME)
section
variable {X : Cx}
theorem ixN_eq (n : Nat) (i : Int) : Ev.ixN n i = L2.ixN n i := rfl
theorem atI_eq {α : Type} (xs : List α) (i : Int) : Ev.atI xs i = L2.atI xs i := rfl
theorem RVs.atI {K : PySem.W.Frag} {H : Hp} {r : List Addr} {ds : List D} {vs : List V} {i : Int} {d : D} (w : RVs K H r ds vs) (e : Ev.atI ds i = some d) : ∃ v, L2.atI vs i = some v ∧ RV K H r d v := by
  unfold Ev.atI at e
  obtain ⟨j, e1, e2⟩ := Option.bind_eq_some_iff.mp e
  obtain ⟨v, e3, e4⟩ := w.get e2
  exact ⟨v, by unfold L2.atI; rw [w.length, ← ixN_eq, e1]; exact e3, e4⟩
theorem ox_ix : IxR X (rD2 X.K ixR) := by
  intro value slice pins s σ H x y v u Q I rx ry q hs
  obtain ⟨r, h, a, b, d, h', hr, v1, v2, e, q⟩ := q
  obtain ⟨e, rfl⟩ := Ev.of_eq_ok e
  cases b with
  | int i =>
    have s2 := v2.shape
    cases a with
    | tup ds =>
      obtain ⟨p, vs, rfl, z, w⟩ := v1.shape
      obtain ⟨v', g1, g2⟩ := w.atI e
      exact ix_tup value slice pins s σ H _ y v u Q I rx ry ⟨p, vs, i, v', rfl, s2, z, g1, q.here g2 hr⟩ hs
    | str l =>
      simp only [RV] at v1
      obtain ⟨rfl, hl⟩ := v1
      simp only [Ev.ixd, Option.map_eq_some_iff] at e
      obtain ⟨c, e1, rfl⟩ := e
      exact ix_str value slice pins s σ H _ y v u Q I rx ry ⟨sOf l, i, c, rfl, s2, by rw [sOf_len]; exact hl, by simpa [sOf, atI_eq] using e1, q.here ⟨rfl, by show 1 ≤ sizeLine; decide⟩ hr⟩ hs
    | ref m =>
      simp only [Ev.ixd, Option.bind_eq_some_iff] at e
      obtain ⟨ds, e1, e2⟩ := e
      obtain ⟨p, rfl, z⟩ := v1.shape
      obtain ⟨p', vs, z', q1, w⟩ := hr.read e1
      rw [z] at z'; cases z'
      obtain ⟨v', g1, g2⟩ := w.atI e2
      exact ix_list value slice pins s σ H _ y v u Q I rx ry ⟨p, vs, i, v', rfl, s2, q1, g1, q.here g2 hr⟩ hs
    | _ => cases e
  | _ => cases a <;> cases e
theorem RVs.cut {K : PySem.W.Frag} {H : Hp} {r : List Addr} {ds : List D} {vs : List V} (w : RVs K H r ds vs) (lo hi : Option Int) : RVs K H r (Ev.cut ds lo hi) (cutV vs lo hi) := by
  unfold Ev.cut cutV
  rw [w.length]
  exact (w.drop _).take _
theorem cut_whole {α : Type} (xs : List α) (lo hi : Option Int) (h : Ev.sIx xs.length 0 lo = 0 ∧ Ev.sIx xs.length xs.length hi = xs.length) : Ev.cut xs lo hi = xs := by
  unfold Ev.cut
  rw [h.1, h.2]
  simp
theorem cut_len {α : Type} (xs : List α) (lo hi : Option Int) : (Ev.cut xs lo hi).length ≤ xs.length := by
  unfold Ev.cut
  rw [List.length_take, List.length_drop]
  omega
theorem getItem_whole {prog : Program} {w : World} {A : Around} {E : Value → Shared → Prop} {s : Shared} {t sl : Addr} {items : Array Value} {vl vu : Value} {lo hi : Option Int} {Q : Value → Shared → Prop} (ht : IsTup s.heap t items) (hs : s.heap.IsSliceOf sl vl vu .none) (pl : IsPart vl lo) (pu : IsPart vu hi)
    (hw : HT.sIx items.size 0 lo = 0 ∧ HT.sIx items.size items.size hi = items.size) (h : Q (.ref t) s) : wpAny (model prog w) A (getItem (.ref t) (.ref sl)) Q E s := by
  obtain ⟨os, hos, hcs, hds⟩ := id hs
  have hTs : s.TypeIs (.ref sl) "slice" := ⟨os, hos, hcs⟩
  unfold getItem
  try with_reducible refine wpAny_holding ?_
  first | refine wpAny_bind (wpAny_pure ?_) | skip
  refine wpAny_bind (wpAny_sequenceKey ht.typeIs (by decide) ?_)
  refine wpAny_bind (wpAny_callSpecial?_slot (name := Str.ofString "__getitem__") ht.typeIs PyProof.Rows.slot_tuple_getitem
    (wpAny_call_entry PyProof.Rows.slot_tuple_getitem ht.typeIs entry_tuple_getitem ?_ (args_tuple_getitem _ _)))
  show wpAny _ _ (Builtin.Tuple.tupleItemsOf (.ref t) >>= _) _ _ s
  refine wpAny_bind (tupleItemsOf_ ht ?_)
  refine wpAny_bind (wpAny_typeOf hTs ?_)
  rw [if_pos (by decide)]
  refine wpAny_bind (HT.sliceApplied_gen hs pl pu ?_)
  have hyes : (((HT.sIx items.size 0 lo : Nat) : Int) == 0 && (1 : Int) == 1 && (HT.sIx items.size items.size hi - HT.sIx items.size 0 lo) == items.size) = true := by
    rw [hw.1, hw.2]; simp
  show wpAny _ _ (if (((HT.sIx items.size 0 lo : Nat) : Int) == 0 && (1 : Int) == 1 && (HT.sIx items.size items.size hi - HT.sIx items.size 0 lo) == items.size) = true then _ else _) _ _ s
  rw [if_pos hyes]
  refine wpAny_bind (m := Builtin.Tuple.tupleIsExact (.ref t)) (wpAny_bind (wpAny_typeOf ht.typeIs (wpAny_pure ?_)))
  show wpAny _ _ (if ((Value.type "tuple" == Value.type "tuple") = true) then _ else _) _ _ s
  rw [if_pos (by decide)]
  exact wpAny_bind (wpAny_rule (wpAny_bind (wpAny_pure (wpAny_pure ⟨_, rfl, wpAny_pure h⟩))))
theorem strIdx (lo hi : Option Int) (n : Nat) : Builtin.Str.strSliceIndices lo hi 1 n = (List.range (Ev.sIx n n hi - Ev.sIx n 0 lo)).map (fun k => Ev.sIx n 0 lo + k) := by
  have clipLo : ∀ o : Option Int, ((match o with | none => (0 : Int) | some i => max 0 (min (if i < 0 then i + (n : Int) else i) (n : Int)))) = ((Ev.sIx n 0 o : Nat) : Int) := fun o => by
    cases o with
    | none => rfl
    | some i => simp only [Ev.sIx]; split <;> omega
  have clipHi : ∀ o : Option Int, ((match o with | none => (n : Int) | some i => max 0 (min (if i < 0 then i + (n : Int) else i) (n : Int)))) = ((Ev.sIx n n o : Nat) : Int) := fun o => by
    cases o with
    | none => rfl
    | some i => simp only [Ev.sIx]; split <;> omega
  have e : Builtin.Str.strSliceIndices lo hi 1 n = sliceRange (match lo with | none => (0 : Int) | some i => max 0 (min (if i < 0 then i + (n : Int) else i) (n : Int))) (match hi with | none => (n : Int) | some i => max 0 (min (if i < 0 then i + (n : Int) else i) (n : Int))) 1 := by
    unfold Builtin.Str.strSliceIndices
    cases lo <;> cases hi <;> simp
  rw [e, clipLo, clipHi, sliceRange_one]
theorem strCut (l : List Nat) (lo hi : Option Int) : ((Builtin.Str.strSliceIndices lo hi 1 (sOf l).length).filterMap ((sOf l).cps[·]?)).toArray = (Ev.cut l lo hi).toArray := by
  rw [sOf_len, strIdx, pick_run]
  simp [sOf, Ev.cut]
theorem sl_any : SlR X (rDs X.K) := by
  intro pins s σ H x v vl vu lo hi sl Q I rx hs pl pu q
  obtain ⟨r, h, a, d, h', hr, v1, e, q⟩ := q
  cases a with
  | tup ds =>
    cases e
    obtain ⟨p, vs, rfl, z, w⟩ := v1.shape
    by_cases hw : HT.sIx vs.length 0 lo = 0 ∧ HT.sIx vs.length vs.length hi = vs.length
    · cases rx
      obtain ⟨us, pv, pt, hz⟩ := I.tuple z
      have hl := pv.length
      have hw' : Ev.sIx ds.length 0 lo = 0 ∧ Ev.sIx ds.length ds.length hi = ds.length := by rw [← w.length]; exact hw
      refine ⟨"tuple", _, PyProof.Rows.slot_tuple_getitem.lookup, pt.typeIs, ?_⟩
      refine getItem_whole pt hs pl pu (by rw [List.size_toArray, ← hl]; exact hw) ⟨.ref p, H, I, rfl, q.here ?_ hr⟩
      rw [cut_whole ds lo hi hw']
      exact ⟨p, vs, rfl, z, w⟩
    · exact sl_tup pins s σ H _ v vl vu lo hi sl Q I rx hs pl pu ⟨p, vs, rfl, z, hw, fun p' hp => q.tup (w.cut lo hi) hr hp⟩
  | str l =>
    simp only [RV] at v1
    obtain ⟨rfl, hl⟩ := v1
    obtain ⟨t, rfl⟩ := rx
    cases e
    refine ⟨"str", _, PySem.F.slot_str_getitem.lookup, typeIs_str s _ t, ?_⟩
    have part : ∀ {v : Value} {o : Option Int}, IsPart v o → ∃ p : Option (Int × Tok), v = partValue p ∧ p.map (·.1) = o := fun {v o} hp => by
      cases hp with
      | none => exact ⟨none, rfl, rfl⟩
      | int i t => exact ⟨some (i, t), rfl, rfl⟩
    obtain ⟨l1, e1, e2⟩ := part pl
    obtain ⟨u1, e3, e4⟩ := part pu
    subst e1 e3
    obtain ⟨os, hos, hcs, hds⟩ := hs
    refine wpAny_getItem_str_slice (l := l1) (u := u1) (st := none) ⟨os, hos, hcs, hds⟩ rfl ?_
    have hpick : ((slicePicked (sOf l) l1 u1 none).filterMap ((sOf l).cps[·]?)).toArray = (Ev.cut l lo hi).toArray := by
      show ((Builtin.Str.strSliceIndices (l1.map (·.1)) (u1.map (·.1)) 1 (sOf l).length).filterMap ((sOf l).cps[·]?)).toArray = _
      rw [e2, e4]
      exact strCut l lo hi
    have hcl := cut_len l lo hi
    unfold sliceMade
    refine post_val_or_made (fun _ => ?_) fun t' k => ?_
    · rw [hpick]
      show (Ev.cut l lo hi).toArray.size ≤ sizeLine
      simp only [List.size_toArray]
      omega
    · have hres : (if (((none : Option (Int × Tok)).map (·.1)).getD 1 == 1 && (slicePicked (sOf l) l1 u1 none).length == (sOf l).length) = true then sOf l else (⟨((slicePicked (sOf l) l1 u1 none).filterMap ((sOf l).cps[·]?)).toArray⟩ : Str)) = sOf (Ev.cut l lo hi) := by
        split
        · rename_i hc
          rw [Bool.and_eq_true] at hc
          have hlen : (slicePicked (sOf l) l1 u1 none).length = (sOf l).length := eq_of_beq hc.2
          have hlen2 : (slicePicked (sOf l) l1 u1 none).length = Ev.sIx l.length l.length hi - Ev.sIx l.length 0 lo := by
            show (Builtin.Str.strSliceIndices (l1.map (·.1)) (u1.map (·.1)) 1 (sOf l).length).length = _
            rw [e2, e4, strIdx, sOf_len]
            simp
          rw [sOf_len] at hlen
          have hb : Ev.sIx l.length l.length hi ≤ l.length := HT.sIx_le _ _ (Nat.le_refl _) hi
          have ha : Ev.sIx l.length 0 lo ≤ l.length := HT.sIx_le _ _ (Nat.zero_le _) lo
          rw [cut_whole l lo hi ⟨by omega, by omega⟩]
        · rw [hpick]; rfl
      rw [hres]
      exact ⟨.str (sOf (Ev.cut l lo hi)), H, I.tok _, ⟨_, rfl⟩, q.here ⟨rfl, by omega⟩ hr⟩
  | ref m =>
    simp only [Ev.sld] at e
    split at e
    · rename_i ds e1
      obtain ⟨p, rfl, z⟩ := v1.shape
      obtain ⟨p', vs, z', q1, w⟩ := hr.read e1
      rw [z] at z'; cases z'
      obtain ⟨hz, q2⟩ := q.lst e (w.cut lo hi) hr
      exact sl_list pins s σ H _ v vl vu lo hi sl Q I rx hs pl pu ⟨p, vs, rfl, q1, q2⟩
    · cases e
  | _ => cases e
theorem rep_fold : ∀ (k : Nat) (l : List Nat) (acc : List Nat), (List.replicate k l.toArray).foldl (· ++ ·) acc.toArray = (acc ++ Ev.rep k l).toArray
  | 0, l, acc => by simp [Ev.rep]
  | k + 1, l, acc => by
    rw [List.replicate_succ, List.foldl_cons]
    have : acc.toArray ++ l.toArray = (acc ++ l).toArray := by simp
    rw [this, rep_fold k l (acc ++ l)]
    simp [Ev.rep, List.replicate_succ]
theorem rep_len {α : Type} (k : Nat) (l : List α) : (Ev.rep k l).length = k * l.length := by
  unfold Ev.rep
  exact len_rep l k
theorem txt_mul {l : List Nat} {k : Int} (h : 0 ≤ k) : Txt.mul (sOf l) k = sOf (Ev.rep k.toNat l) := by
  unfold Txt.mul
  by_cases h1 : k < 1
  · have : k = 0 := by omega
    subst this
    rw [if_pos (by decide)]
    rfl
  · rw [if_neg h1]
    split
    · rename_i hc
      rw [Bool.or_eq_true] at hc
      rcases hc with hc | hc
      · have : k = 1 := by simpa using hc
        subst this
        simp [Ev.rep]
      · rw [sOf_len] at hc
        have : l = [] := by cases l with | nil => rfl | cons _ _ => simp at hc
        subst this
        simp [Ev.rep, sOf]
    · show (⟨(List.replicate k.toNat (sOf l).cps).foldl (· ++ ·) #[]⟩ : Str) = _
      have := rep_fold k.toNat l []
      simp only [List.nil_append] at this
      exact congrArg Str.mk this
theorem small_mul {a b : Nat} (h1 : a ≤ 1000) (h2 : b ≤ 1000) : a * b ≤ sizeLine := Nat.le_trans (Nat.mul_le_mul h1 h2) (by decide)
theorem ob_mulS {pins : List (Addr × Obj)} {σ : L2.St} {H : Hp} {s : Shared} {Q : VK} (I : Inv X pins σ H s) {l : List Nat} {k : Int} {t u : Tok} (hk : 0 ≤ k ∧ k ≤ 1000 ∧ l.length ≤ 1000) (q : Q (.str (sOf (Ev.rep k.toNat l))) H) :
    wpAny (model X.prog X.w) X.A (binaryOp .Mult (.str (sOf l) t) (.int k u)) (EP X pins σ Q) X.xe s := by
  have hok : MulOk (sOf l) k := mulOk_of 1000 1000 (by rw [sOf_len]; exact hk.2.2) (by exact hk.2.1) (by omega) (by decide) (by decide)
  refine SB.mul hok fun t' k' => ?_
  rw [txt_mul hk.1]
  exact ⟨.str _, H, I.tok _, ⟨_, rfl⟩, q⟩
theorem noFill_tuple_mul : fillsNumberSlot (.type "tuple") "mul" = pure false :=
  PySem.fillsNumberSlot_seq (id := "tuple.__mul__") (r := some (.builtin "tuple.__rmul__")) PySem.F.slot_tuple_mul.lookup (by decide +kernel) PySem.F.slot_tuple_rmul.lookup (by decide +kernel)
theorem repeat_tuple : seqRepeat? (.type "tuple") = pure (some (.builtin "tuple.__mul__")) := by
  unfold seqRepeat?
  rw [PySem.seqSlot_of (T := "tuple") (name := "__mul__") (id := "tuple.__mul__") PySem.F.slot_tuple_mul.lookup (by decide +kernel), PySem.seqSlot_of (T := "tuple") (name := "__rmul__") (id := "tuple.__rmul__") PySem.F.slot_tuple_rmul.lookup (by decide +kernel)]
  rfl
theorem rmul_tuple (a : Int) (t : Tok) (l : Addr) (items : Array Value) (n : Nat) (dd : Option Addr) (sl : Array (Option Value)) :
    Meets (Builtin.«int.__rmul__» ⟨[.int a t, .ref l], []⟩) (fun _ R s => s.heap.get? l = some { cls := .type "tuple", dict := dd, data := .seq items n, slots := sl } ∧ R (.ok (.ret Value.notImplemented)) s) :=
  .of_wp fun prog w A R s h => by obtain ⟨hp, g, d, tk, os⟩ := s; obtain ⟨hl, h⟩ := h; wp_walk; exact ⟨_, rfl, h⟩
theorem mul_tuple1 (l : Addr) (items : Array Value) (n : Nat) (dd : Option Addr) (sl : Array (Option Value)) (k : Int) (u : Tok) (h1 : ¬ (decide (k < -2 ^ 63) || decide (k ≥ 2 ^ 63)) = true) (h3 : (items.isEmpty || k == 1) = true) :
    Meets (Builtin.«tuple.__mul__» ⟨[.ref l, .int k u], []⟩) (fun _ R s => s.heap.get? l = some { cls := .type "tuple", dict := dd, data := .seq items n, slots := sl } ∧ R (.ok (.ret (.ref l))) s) :=
  .of_wp fun prog w A R s h => by obtain ⟨hp, g, d, tk, os⟩ := s; obtain ⟨hl, h⟩ := h; have f1 := AutoSeq1.idx_int; wp_walk using AutoSeq1.wpAny_loadPart' hl; rw [if_neg h1]; wp_walk using AutoSeq1.wpAny_loadPart' hl; exact ⟨_, rfl, h⟩
theorem mul_tuple0 (l : Addr) (items : Array Value) (n : Nat) (dd : Option Addr) (sl : Array (Option Value)) (k : Int) (u : Tok) (h1 : ¬ (decide (k < -2 ^ 63) || decide (k ≥ 2 ^ 63)) = true) (h3 : ¬ (items.isEmpty || k == 1) = true) (h4 : (decide (k ≤ 0) || items.isEmpty) = true) :
    Meets (Builtin.«tuple.__mul__» ⟨[.ref l, .int k u], []⟩) (fun _ R s => s.heap.get? l = some { cls := .type "tuple", dict := dd, data := .seq items n, slots := sl } ∧ R (.ok (.ret (Value.ref s.heap.objs.size))) { s with heap := s.heap.push { cls := Value.type "tuple", data := Data.seq #[] }, toks := s.toks }) :=
  .of_wp fun prog w A R s h => by obtain ⟨hp, g, d, tk, os⟩ := s; obtain ⟨hl, h⟩ := h; have f1 := AutoSeq1.idx_int; wp_walk using AutoSeq1.wpAny_loadPart' hl; rw [if_neg h1]; wp_walk using AutoSeq1.wpAny_loadPart' hl; exact ⟨_, rfl, h⟩
theorem mul_tupleN (l : Addr) (items : Array Value) (n : Nat) (dd : Option Addr) (sl : Array (Option Value)) (k : Int) (u : Tok) (h1 : ¬ (decide (k < -2 ^ 63) || decide (k ≥ 2 ^ 63)) = true) (h3 : ¬ (items.isEmpty || k == 1) = true) (h4 : ¬ (decide (k ≤ 0) || items.isEmpty) = true)
    (h5 : ¬ (items.size * k > (2 ^ 63 - 1) / 8)) (h6 : ¬ Builtin.Tuple.tupleTooMany (items.size * k) = true) (hsz : (List.foldl (fun x1 x2 => x1 ++ x2) #[] (List.replicate k.toNat items)).size ≤ sizeLine) :
    Meets (Builtin.«tuple.__mul__» ⟨[.ref l, .int k u], []⟩) (fun _ R s => s.heap.get? l = some { cls := .type "tuple", dict := dd, data := .seq items n, slots := sl } ∧ R (.ok (.ret (Value.ref s.heap.objs.size))) { s with heap := s.heap.push { cls := Value.type "tuple", data := Data.seq (List.foldl (fun x1 x2 => x1 ++ x2) #[] (List.replicate k.toNat items)) }, toks := s.toks }) :=
  .of_wp fun prog w A R s h => by obtain ⟨hp, g, d, tk, os⟩ := s; obtain ⟨hl, h⟩ := h; have f1 := AutoSeq1.idx_int; wp_walk using AutoSeq1.wpAny_loadPart' hl; rw [if_neg h1]; wp_walk using AutoSeq1.wpAny_loadPart' hl; rw [if_neg h5]; wp_walk using AutoSeq1.wpAny_loadPart' hl; exact ⟨_, rfl, h⟩
theorem fold_vals : ∀ (k : Nat) (l acc : List Value), (List.replicate k l.toArray).foldl (· ++ ·) acc.toArray = (acc ++ Ev.rep k l).toArray
  | 0, l, acc => by simp [Ev.rep]
  | k + 1, l, acc => by
    rw [List.replicate_succ, List.foldl_cons]
    have : acc.toArray ++ l.toArray = (acc ++ l).toArray := by simp
    rw [this, fold_vals k l (acc ++ l)]
    simp [Ev.rep, List.replicate_succ]
theorem ob_mulT {pins : List (Addr × Obj)} {σ : L2.St} {H : Hp} {s : Shared} {Q : VK} (I : Inv X pins σ H s) {p : Addr} {vs : List V} {k : Int} {u : Tok} (hk : 0 ≤ k ∧ k ≤ 1000 ∧ vs.length ≤ 1000) (hp : SqT X.K H p vs)
    (q1 : Ev.rep k.toNat vs = vs → Q (.ref p) H) (q2 : ∀ p', H p' = none → Q (.ref p') (upd H p' (.tup (Ev.rep k.toNat vs)))) :
    wpAny (model X.prog X.w) X.A (binaryOp .Mult (.ref p) (.int k u)) (EP X pins σ Q) X.xe s := by
  obtain ⟨us, pv, pt, hz⟩ := I.tuple hp
  obtain ⟨⟨cls, dd, data, sl⟩, ho, hc, n, hd⟩ := id pt
  simp only at hc hd
  subst hc hd
  have hl := pv.length
  have h1 : ¬ (decide (k < -2 ^ 63) || decide (k ≥ 2 ^ 63)) = true := by simp; omega
  refine wpAny_binaryOp_repeat_ref (T := "tuple") (U := "int") (by decide) ⟨_, ho, rfl⟩ (fun s' => typeIs_int s' k u) noFill_tuple_mul PySem.F.fills_int_mul PySem.F.slot_int_rmul repeat_tuple PySem.F.slot_int_index.lookup
    (call_meets PySem.F.slot_int_rmul (typeIs_int s k u) PySem.F.entry_int_rmul (PySem.F.args_int_rmul_2 _ _) (rmul_tuple k u p us.toArray n dd sl) ⟨ho, rfl, ⟨_, ho, rfl⟩, ?_⟩)
  have hrep : ∀ m : Nat, (Ev.rep m us).length = m * us.length := fun m => rep_len m us
  by_cases h3 : (us.toArray.isEmpty || k == 1) = true
  · refine call_meets PySem.F.slot_tuple_mul ⟨_, ho, rfl⟩ PySem.F.entry_tuple_mul (PySem.F.args_tuple_mul_2 _ _) (mul_tuple1 p us.toArray n dd sl k u h1 h3) ⟨ho, ?_⟩
    refine ⟨.ref p, H, I, rfl, q1 ?_⟩
    rw [Bool.or_eq_true] at h3
    rcases h3 with h3 | h3
    · have : us = [] := by simpa using h3
      subst this
      cases pv
      simp [Ev.rep]
    · have : k = 1 := by simpa using h3
      subst this
      simp [Ev.rep]
  · have laid : ∀ m : Nat, m = k.toNat → EP X pins σ Q (.ref s.heap.objs.size) { s with heap := s.heap.push { cls := .type "tuple", data := .seq (Ev.rep m us).toArray } } := fun m hm => by
      subst hm
      refine ⟨.ref s.heap.objs.size, _, I.laid (t' := s.toks) (o := .tup (Ev.rep k.toNat vs)) (fun b ob q => Heap.get?_push_of_some _ q) (Nat.le_refl _) ?_, rfl, q2 _ (I.hok.fresh (Nat.le_refl _))⟩
      exact ⟨by rw [rep_len]; exact small_mul (by omega) hk.2.2, _, pv.rep k.toNat, IsTup.new _ _⟩
    by_cases h4 : (decide (k ≤ 0) || us.toArray.isEmpty) = true
    · refine call_meets PySem.F.slot_tuple_mul ⟨_, ho, rfl⟩ PySem.F.entry_tuple_mul (PySem.F.args_tuple_mul_2 _ _) (mul_tuple0 p us.toArray n dd sl k u h1 h3 h4) ⟨ho, ?_⟩
      have hk0 : k = 0 := by
        rw [Bool.or_eq_true] at h4 h3
        rcases h4 with h4 | h4
        · have : k ≤ 0 := of_decide_eq_true h4
          omega
        · exact absurd (.inl h4) h3
      have := laid 0 (by rw [hk0]; rfl)
      exact this
    · have hm : us.toArray.size * k.toNat ≤ 1000000 := by
        rw [List.size_toArray]
        exact Nat.mul_le_mul (by omega : us.length ≤ 1000) (by omega : k.toNat ≤ 1000)
      have hm' : (us.toArray.size : Int) * k ≤ 1000000 := by
        have e : (us.toArray.size : Int) * k = ((us.toArray.size * k.toNat : Nat) : Int) := by
          rw [Int.natCast_mul, Int.toNat_of_nonneg hk.1]
        rw [e]; omega
      have hf : List.foldl (fun x1 x2 => x1 ++ x2) #[] (List.replicate k.toNat us.toArray) = (Ev.rep k.toNat us).toArray := by
        have := fold_vals k.toNat us []
        simpa using this
      refine call_meets PySem.F.slot_tuple_mul ⟨_, ho, rfl⟩ PySem.F.entry_tuple_mul (PySem.F.args_tuple_mul_2 _ _) (mul_tupleN p us.toArray n dd sl k u h1 h3 h4 (by omega) ?_ ?_) ⟨ho, ?_⟩
      · unfold Builtin.Tuple.tupleTooMany
        simp only [decide_eq_true_eq]
        have : (sizeLine : Int) = 16777216 := by rw [sizeLine_eq]; rfl
        omega
      · rw [hf]
        simp only [List.size_toArray]
        rw [rep_len]
        exact small_mul (by omega) (by omega)
      · rw [hf]
        exact laid _ rfl
theorem ob_mul : OpR X (binaryOp .Mult) (rD2 X.K (Ev.bop .mul)) := by
  intro pins s σ H x y v u Q I rx ry q
  obtain ⟨r, h, a, b, d, h', hr, v1, v2, e, q⟩ := q
  cases b with
  | int k =>
    have s2 := v2.shape
    simp only [Shp] at s2
    subst s2
    cases a with
    | int i =>
      delta Ev.bop at e; dsimp only at e
      split at e
      · rename_i hz
        cases e
        refine op_mul pins s σ H x _ v u Q I rx ry ⟨i, k, v1, rfl, ?_, q.here rfl hr⟩
        unfold Ev.mulOk at hz
        simp only [Bool.or_eq_true, Bool.and_eq_true, decide_eq_true_eq] at hz
        exact hz
      · cases e
    | str l =>
      delta Ev.bop at e; dsimp only at e
      split at e
      · rename_i hz
        cases e
        simp only [RV] at v1
        obtain ⟨rfl, hl⟩ := v1
        obtain ⟨t, rfl⟩ := rx
        obtain ⟨t', rfl⟩ := ry
        exact ob_mulS I hz (q.here ⟨rfl, by rw [rep_len]; exact small_mul (by omega) hz.2.2⟩ hr)
      · cases e
    | tup ds =>
      delta Ev.bop at e; dsimp only at e
      split at e
      · rename_i hz
        cases e
        obtain ⟨p, vs, rfl, z, w⟩ := v1.shape
        cases rx
        obtain ⟨t', rfl⟩ := ry
        refine ob_mulT I ⟨hz.1, hz.2.1, by rw [w.length]; exact hz.2.2⟩ z (fun hrp => q.here ⟨p, vs, rfl, z, ?_⟩ hr) fun p' hp => q.tup (w.rep k.toNat) hr hp
        have := w.rep k.toNat
        rw [hrp] at this
        exact this
      · cases e
    | ref i =>
      delta Ev.bop at e; dsimp only at e
      split at e
      · rename_i ds e1
        split at e
        · rename_i hz
          obtain ⟨p, rfl, z⟩ := v1.shape
          obtain ⟨p', g1, vs, g2, g3⟩ := hr.ob _ _ e1
          rw [z] at g1; cases g1
          obtain ⟨hz2, q2⟩ := q.lst e (g3.rep k.toNat) hr
          exact op_rep pins s σ H (.ref p) _ v u Q I rx ry ⟨p, k, vs, rfl, rfl, g2, by omega, by omega, small_mul (by rw [g3.length]; exact hz.2.2) (by omega), q2⟩
        · cases e
      · cases e
    | _ => cases e
  | _ => cases a <;> cases e
end
end Sm
set_option Elab.async false
set_option linter.all false
set_option maxRecDepth 100000
namespace Sm
open PySem PySem.Spec PyProof.Rows L2 PySem.SeqAt
open Ev (D O Hh Fr R Phi E Es Eo T S Ss Fl Src BOp COp TY BI ME)
section
variable {X : Cx}
theorem bools_at {K : PySem.W.Frag} {H : Hp} {r : List Addr} : ∀ {ds : List D} {bs : List Bool} {vs : List V} {us : List Value}, Ev.boolsOf ds = some bs → RVs K H r ds vs → Vals vs us → us = bs.map Value.bool
  | [], bs, vs, us, e, w, p => by
    cases e
    simp only [RVs] at w; subst w; cases p; rfl
  | d :: ds, bs, vs, us, e, w, p => by
    cases d with
    | bl b =>
      simp only [Ev.boolsOf, Option.map_eq_some_iff] at e
      obtain ⟨bs', e1, rfl⟩ := e
      simp only [RVs, RV] at w
      obtain ⟨v, w', rfl, rfl, w2⟩ := w
      cases p with
      | cons p1 p2 =>
        cases p1
        rw [bools_at e1 w2 p2]
        rfl
    | _ => cases e
theorem ints_at {K : PySem.W.Frag} {H : Hp} {r : List Addr} : ∀ {ds : List D} {is : List Int} {vs : List V} {us : List Value}, Ev.intsOf ds = some is → RVs K H r ds vs → Vals vs us → IntsAre us is
  | [], bs, vs, us, e, w, p => by
    cases e
    simp only [RVs] at w; subst w; cases p; exact .nil
  | d :: ds, bs, vs, us, e, w, p => by
    cases d with
    | int b =>
      simp only [Ev.intsOf, Option.map_eq_some_iff] at e
      obtain ⟨bs', e1, rfl⟩ := e
      simp only [RVs, RV] at w
      obtain ⟨v, w', rfl, rfl, w2⟩ := w
      cases p with
      | cons p1 p2 =>
        obtain ⟨t, rfl⟩ := p1
        exact .cons _ _ (ints_at e1 w2 p2)
    | _ => cases e
theorem strs_at {K : PySem.W.Frag} {H : Hp} {r : List Addr} : ∀ {ds : List D} {ss : List (List Nat)} {vs : List V} {us : List Value}, Ev.strsOf ds = some ss → RVs K H r ds vs → Vals vs us → StrsAre us (ss.map sOf) ∧ ∀ l ∈ ss, l.length ≤ sizeLine
  | [], bs, vs, us, e, w, p => by
    cases e
    simp only [RVs] at w; subst w; cases p; exact ⟨.nil, fun l h => nomatch h⟩
  | d :: ds, bs, vs, us, e, w, p => by
    cases d with
    | str b =>
      simp only [Ev.strsOf, Option.map_eq_some_iff] at e
      obtain ⟨bs', e1, rfl⟩ := e
      simp only [RVs, RV] at w
      obtain ⟨v, w', rfl, ⟨rfl, hb⟩, w2⟩ := w
      cases p with
      | cons p1 p2 =>
        obtain ⟨t, rfl⟩ := p1
        obtain ⟨g1, g2⟩ := strs_at e1 w2 p2
        refine ⟨.cons _ _ g1, fun l hl => ?_⟩
        rcases List.mem_cons.mp hl with z | z
        · subst z; exact hb
        · exact g2 l z
    | _ => cases e
theorem walk_list {A : Around} {pins : List (Addr × Obj)} {σ : L2.St} {H : Hp} {s : Shared} (I : Inv X pins σ H s) {p : Addr} {us : List Value} (pl : PlainL s.heap p us.toArray) {Q : Value → Shared → Prop} {E : Value → Shared → Prop}
    (h : ∀ s₂ : Shared, s₂ = { s with heap := s.heap.push { cls := .type "list_iterator", data := .fields #[.ref p, .int 0 0] } } → (s₂.heap.IsListIter s.heap.objs.size p 0 ∧ s₂.heap.IsList p us.toArray) → p ≠ s.heap.objs.size → (∀ b ∈ [s.heap.objs.size, p], b < s₂.heap.objs.size) → Q (.ref s.heap.objs.size) s₂) :
    wpAny (model X.prog X.w) A (pyIter (.ref p)) Q E s := by
  have hlt : p < s.heap.objs.size := by obtain ⟨_, e, _⟩ := pl.isList; exact Heap.lt_size e
  refine wpAny_pyIter_list pl.isList (h _ rfl ⟨⟨_, Heap.get?_push_size _ rfl, rfl, rfl⟩, pl.isList.push _⟩ (Nat.ne_of_lt hlt) fun b hb => ?_)
  show b < (s.heap.push _).objs.size
  rw [Heap.size_push]
  rcases List.mem_cons.mp hb with z | z
  · rw [z]; exact Nat.lt_succ_self _
  · rw [List.mem_singleton.mp z]; exact Nat.lt_succ_of_lt hlt
theorem all_range {bs : List Bool} : (List.range bs.length).all (fun i => bs[i]?.getD true) = bs.all id := by
  rw [Bool.eq_iff_iff, List.all_eq_true, List.all_eq_true]
  constructor
  · intro h b hb
    obtain ⟨i, hi, rfl⟩ := List.getElem_of_mem hb
    simpa [hi] using h i (List.mem_range.mpr hi)
  · intro h i hi
    have hi' := List.mem_range.mp hi
    simpa [hi'] using h bs[i] (by simp)
theorem any_range {bs : List Bool} : (List.range bs.length).any (fun i => bs[i]?.getD true) = bs.any id := by
  rw [Bool.eq_iff_iff, List.any_eq_true, List.any_eq_true]
  constructor
  · rintro ⟨i, hi, h⟩
    have hi' := List.mem_range.mp hi
    exact ⟨bs[i], by simp, by simpa [hi'] using h⟩
  · rintro ⟨b, hb, h⟩
    obtain ⟨i, hi, rfl⟩ := List.getElem_of_mem hb
    exact ⟨i, List.mem_range.mpr hi, by simpa [hi] using h⟩
theorem old_kept' {s s₂ : Shared} {I p : Addr} {h' : Heap} (e : s₂.heap = s.heap.push { cls := .type "list_iterator", data := .fields #[.ref p, .int 0 0] }) (hI : I = s.heap.objs.size) (hk : ∀ b o, b ∉ [I] → s₂.heap.get? b = some o → h'.get? b = some o) :
    ∀ b o, s.heap.get? b = some o → h'.get? b = some o := fun b o q => hk b o (by simp; rw [hI]; exact Nat.ne_of_lt (Heap.lt_size q)) (by rw [e]; exact Heap.get?_push_of_some _ q)
variable {G : Tb} {n : Nat} {sc : Scope} {N : List Str} {df : Bool}
theorem cl_bools (g : Good G n sc N df X) {pins : List (Addr × Obj)} {σ : L2.St} {H : Hp} {s : Shared} (I : Inv X pins σ H s) {p : Addr} {bs : List Bool} (pl : PlainL s.heap p (bs.map Value.bool).toArray) {Q : VK} :
    (Q (.bl (bs.all id)) H → wpAny (model X.prog X.w) X.A (call (.builtin "all") [.ref p]) (EP X pins σ Q) X.xe s) ∧ (Q (.bl (bs.any id)) H → wpAny (model X.prog X.w) X.A (call (.builtin "any") [.ref p]) (EP X pins σ Q) X.xe s) := by
  have hh := I.ok.hd g.calm
  have tr : TruthOf X.prog X.w X.A.in1 (fun i v => (bs.map Value.bool).toArray[i]? = some v) (fun i => bs[i]?.getD true) := fun i v s' Q' E' hP hQ => by
    simp only [List.getElem?_toArray, List.getElem?_map, Option.map_eq_some_iff] at hP
    obtain ⟨b, hb, rfl⟩ := hP
    have hQ' : Q' (bs[i]?.getD true) s' := hQ
    rw [hb] at hQ'
    exact wpAny_truthy_bool hQ'
  have hsz : (bs.map Value.bool).toArray.size = bs.length := by simp
  constructor
  · intro q
    refine call_all_walk (walk_list I pl fun s₂ e st hne hfp => ?_)
    subst e
    refine ⟨_, _, _, _, _, _, _, rfl, Walks.list (A := X.A.in1) hh _ p hne (bs.map Value.bool).toArray, st, tr, fun h' tk hk => ?_⟩
    rw [hsz, all_range]
    exact ⟨.bl _, H, I.kept (old_kept' rfl rfl hk), rfl, q⟩
  · intro q
    refine call_any_walk (walk_list I pl fun s₂ e st hne hfp => ?_)
    subst e
    refine ⟨_, _, _, _, _, _, _, rfl, Walks.list (A := X.A.in1) hh _ p hne (bs.map Value.bool).toArray, st, tr, fun h' tk hk => ?_⟩
    rw [hsz, any_range]
    exact ⟨.bl _, H, I.kept (old_kept' rfl rfl hk), rfl, q⟩
theorem cb_all (g : Good G n sc N df X) : CallR X (.builtin "all") (rDn X.K (Ev.bfn .all)) := by
  intro pins s σ H xs us Q I r q
  obtain ⟨rr, h, as, d, h', hr, v1, e, q⟩ := q
  match as, e with
  | [.ref m], e =>
    obtain ⟨e, rfl⟩ := Ev.of_eq_ok e
    simp only [Option.map_eq_some_iff, Option.bind_eq_some_iff] at e
    obtain ⟨bs, ⟨ds, e1, e2⟩, rfl⟩ := e
    simp only [RVs, RV] at v1
    obtain ⟨v, w, rfl, ⟨p, rfl, z⟩, rfl⟩ := v1
    obtain ⟨u, rfl, ru⟩ := vals1 r
    cases ru
    obtain ⟨p', vs, z', q1, w⟩ := hr.read e1
    rw [z] at z'; cases z'
    obtain ⟨zs, pv, pl, _⟩ := I.list q1
    have := bools_at e2 w pv
    subst this
    exact (cl_bools g I pl).1 (q.here rfl hr)
theorem cb_sum (g : Good G n sc N df X) : CallR X (.builtin "sum") (rDn X.K (Ev.bfn .sum)) := by
  intro pins s σ H xs us Q I r q
  obtain ⟨rr, h, as, d, h', hr, v1, e, q⟩ := q
  match as, e with
  | [.ref m], e =>
    obtain ⟨e, rfl⟩ := Ev.of_eq_ok e
    simp only [Option.map_eq_some_iff, Option.bind_eq_some_iff] at e
    obtain ⟨is, ⟨ds, e1, e2⟩, rfl⟩ := e
    simp only [RVs, RV] at v1
    obtain ⟨v, w, rfl, ⟨p, rfl, z⟩, rfl⟩ := v1
    obtain ⟨u, rfl, ru⟩ := vals1 r
    cases ru
    obtain ⟨p', vs, z', q1, w⟩ := hr.read e1
    rw [z] at z'; cases z'
    obtain ⟨zs, pv, pl, _⟩ := I.list q1
    have hi := ints_at e2 w pv
    obtain ⟨ys, hys⟩ := (hi.allInts).items
    have hl : s.heap.IsList p (intItems ys) := by rw [← hys]; exact pl.isList
    refine sum_intListG (I.ok.hd g.calm) hl fun h'' tk t' hk => ?_
    have hsum : preSum (numAt ys) ys.size = is.sum := by
      have h1 : numsOf zs.toArray.toList = is := by rw [show zs.toArray.toList = zs from rfl]; exact hi.numsOf
      rw [hys, nums_intItems] at h1
      rw [preSum_eq, List.take_of_length_le (by simp), h1]
    rw [hsum]
    exact ⟨.int is.sum, H, I.kept hk, ⟨_, rfl⟩, q.here rfl hr⟩
theorem cb_len : CallR X (.builtin "len") (rDn X.K (Ev.bfn .len)) := by
  intro pins s σ H xs us Q I r q
  obtain ⟨rr, h, as, d, h', hr, v1, e, q⟩ := q
  match as, e with
  | [.str l], e =>
    delta Ev.bfn at e; dsimp only at e
    split at e
    · cases e
      simp only [RVs, RV] at v1
      obtain ⟨v, w, rfl, ⟨rfl, hl⟩, rfl⟩ := v1
      refine call_len_str pins s σ H _ us Q I r ⟨_, rfl, by rw [sOf_len]; exact hl, ?_⟩
      rw [sOf_len]
      exact q.here rfl hr
    · cases e
  | [.tup ds], e =>
    cases e
    simp only [RVs, RV] at v1
    obtain ⟨v, w, rfl, ⟨p, vs, rfl, z, w'⟩, rfl⟩ := v1
    refine call_len_seq pins s σ H _ us Q I r ⟨p, vs, rfl, .inr z, ?_⟩
    rw [w'.length]
    exact q.here rfl hr
  | [.ref m], e =>
    obtain ⟨e, rfl⟩ := Ev.of_eq_ok e
    simp only [Option.map_eq_some_iff] at e
    obtain ⟨ds, e1, rfl⟩ := e
    simp only [RVs, RV] at v1
    obtain ⟨v, w, rfl, ⟨p, rfl, z⟩, rfl⟩ := v1
    obtain ⟨p', vs, z', q1, w⟩ := hr.read e1
    rw [z] at z'; cases z'
    refine call_len_seq pins s σ H _ us Q I r ⟨p, vs, rfl, .inl q1, ?_⟩
    rw [w.length]
    exact q.here rfl hr
theorem mm_append : MtR X "list.append" (rDm X.K (Ev.mef .append)) := by
  intro pins s σ H x xs v us Q I rx rs q
  obtain ⟨r, h, a, as, d, h', hr, v1, v2, e, q⟩ := q
  cases a with
  | ref m =>
    match as, e with
    | [b], e =>
      delta Ev.mef at e; dsimp only at e
      split at e
      · rename_i ds e1
        split at e
        · rename_i hz
          cases e
          rw [big_eq] at hz
          obtain ⟨p, rfl, z⟩ := v1.shape
          simp only [RVs] at v2
          obtain ⟨y, w, rfl, v3, rfl⟩ := v2
          obtain ⟨p', g1, vs, g2, g3⟩ := hr.ob _ _ e1
          rw [z] at g1; cases g1
          refine mt_append pins s σ H _ _ v us Q I rx rs ⟨p, vs, y, rfl, rfl, g2, by rw [g3.length]; exact hz, ?_⟩
          have f := Fm.write (K := X.K) (ws := vs ++ [y]) g2 (List.mem_of_getElem? z)
          exact q _ _ r rfl (hr.write e1 z g2 (g3.append (.cons v3 .nil))) f
        · cases e
      · cases e
    | [], e => cases e
    | _ :: _ :: _, e => cases e
  | _ => cases e
theorem mm_extend : MtR X "list.extend" (rDm X.K (Ev.mef .extend)) := by
  intro pins s σ H x xs v us Q I rx rs q
  obtain ⟨r, h, a, as, d, h', hr, v1, v2, e, q⟩ := q
  cases a with
  | ref m =>
    match as, e with
    | [.ref k], e =>
      delta Ev.mef at e; dsimp only at e
      split at e
      · rename_i ds es e1 e2
        split at e
        · rename_i hz
          cases e
          rw [big_eq] at hz
          obtain ⟨p, rfl, z⟩ := v1.shape
          simp only [RVs, RV] at v2
          obtain ⟨y, w, rfl, ⟨p2, rfl, z2⟩, rfl⟩ := v2
          obtain ⟨p', g1, vs, g2, g3⟩ := hr.ob _ _ e1
          rw [z] at g1; cases g1
          obtain ⟨p'', k1, ws, k2, k3⟩ := hr.ob _ _ e2
          rw [z2] at k1; cases k1
          refine mt_extend pins s σ H _ _ v us Q I rx rs ⟨p, p2, vs, ws, rfl, rfl, g2, k2, by rw [g3.length, k3.length]; exact hz, ?_⟩
          have f := Fm.write (K := X.K) (ws := vs ++ ws) g2 (List.mem_of_getElem? z)
          exact q _ _ r rfl (hr.write e1 z g2 (g3.append k3)) f
        · cases e
      · cases e
  | _ => cases e
theorem join_eq' (sep : List Nat) : ∀ ss : List (List Nat), Str.join (sOf sep) (ss.map sOf) = sOf (Ev.joinS sep ss)
  | [] => rfl
  | [s] => rfl
  | s :: t :: r => by
    have ih := join_eq' sep (t :: r)
    show sOf s ++ sOf sep ++ Str.join (sOf sep) ((t :: r).map sOf) = _
    rw [ih, sOf_app, sOf_app]
    rfl
theorem join_eq (sep : List Nat) (ss : List (List Nat)) : Txt.join (sOf sep) (ss.map sOf) = sOf (Ev.joinS sep ss) := by
  rw [← join_eq']
  exact PySem.StrLaws.glued_eq_join _ _
theorem mm_join : MtR X "str.join" (rDm X.K (Ev.mef .join)) := by
  intro pins s σ H x xs v us Q I rx rs q
  obtain ⟨r, h, a, as, d, h', hr, v1, v2, e, q⟩ := q
  cases a with
  | str sep =>
    match as, e with
    | [.ref k], e =>
      delta Ev.mef at e; dsimp only at e
      split at e
      · rename_i ss e1
        split at e
        · rename_i hz
          cases e
          simp only [Option.bind_eq_some_iff] at e1
          obtain ⟨ds, e1, e2⟩ := e1
          simp only [RV] at v1
          obtain ⟨rfl, hl⟩ := v1
          obtain ⟨t, rfl⟩ := rx
          simp only [RVs, RV] at v2
          obtain ⟨y, w, rfl, ⟨p2, rfl, z2⟩, rfl⟩ := v2
          obtain ⟨u, rfl, ru⟩ := vals1 rs
          cases ru
          obtain ⟨p', vs, z', q1, w⟩ := hr.read e1
          rw [z2] at z'; cases z'
          obtain ⟨zs, pv, pl, _⟩ := I.list q1
          obtain ⟨g1, g2⟩ := strs_at e2 w pv
          have hlen : ((ss.map sOf).map (·.length)).sum + (ss.map sOf).length * (sOf sep).length ≤ 16777216 := by
            rw [List.map_map, List.length_map, sOf_len]
            have : (fun x : Str => x.length) ∘ sOf = fun l : List Nat => l.length := funext fun l => sOf_len l
            rw [this]
            exact hz
          refine join_list pl.isList g1 hlen fun t' k' => ?_
          rw [join_eq]
          refine ⟨.str _, H, I.tok _, ⟨_, rfl⟩, q.here ⟨rfl, ?_⟩ hr⟩
          have hj := PySem.StrLaws.join_length_le (sOf sep) (ss.map sOf)
          rw [join_eq', sOf_len] at hj
          have : sizeLine = 16777216 := sizeLine_eq
          omega
        · cases e
      · cases e
  | _ => cases e
end
end Sm
set_option Elab.async false
set_option linter.all false
set_option maxRecDepth 100000
namespace Sm
open PySem PySem.Spec PyProof.Rows L2 PySem.SeqAt
open Ev (D O Hh Fr R Phi E Es Eo T S Ss Fl Src BOp COp TY BI ME)
section
variable {X : Cx} {G : Tb} {n : Nat} {sc : Scope} {N : List Str} {df : Bool} {m : List Nat} {a b c : E} {xa xb xc tg : Expr} {pos : Pos}
theorem RVs.ofStr {K : PySem.W.Frag} {H : Hp} {r : List Addr} : ∀ (l : List Nat), RVs K H r (l.map fun c => .str [c]) (l.map fun c => .str (sOf [c]))
  | [] => .nil
  | c :: l => .cons ⟨rfl, by show 1 ≤ sizeLine; decide⟩ (RVs.ofStr l)
theorem vals_signs {x : List Nat} {acc : Array Value} (h : ItemsOf (SignAt (sOf x)) acc (sOf x).cps.size) : Vals (x.map fun c => .str (sOf [c])) acc.toList := by
  obtain ⟨h1, h2⟩ := h
  have hl : acc.toList.length = x.length := by simpa [sOf] using h1
  have go : ∀ (y : List Nat) (l : List Value) (k : Nat), l.length = y.length → (∀ j v, l[j]? = some v → SignAt (sOf x) (k + j) v) → (∀ j, y[j]? = x[k + j]?) → Vals (y.map fun c => .str (sOf [c])) l := by
    intro y
    induction y with
    | nil => intro l k hl _ _; cases l with | nil => exact .nil | cons _ _ => simp at hl
    | cons c y ih =>
      intro l k hl hv hy
      cases l with
      | nil => simp at hl
      | cons v l =>
        refine .cons ?_ (ih l (k + 1) (by simpa using hl) (fun j w hw => ?_) fun j => ?_)
        · obtain ⟨c', u, hc', rfl⟩ := hv 0 v (by simp)
          have := hy 0
          simp at this
          have hc2 : x[k]? = some c' := by simpa [sOf] using hc'
          rw [hc2] at this
          cases this
          exact ⟨u, rfl⟩
        · have := hv (j + 1) w (by simpa using hw)
          rw [show k + 1 + j = k + (j + 1) by omega]
          exact this
        · have := hy (j + 1)
          simp at this
          rw [this]
          congr 1
          omega
  exact go x acc.toList 0 hl (fun j v hv => by simpa using h2 j v (by simpa using hv)) fun j => by simp
theorem cl_list (g : Good G n sc N df X) : CallR X (.type "list") (fun xs H Q => ∃ r h d src x, HR X.K H r h ∧ RV X.K H r d x ∧ xs = [x] ∧ Ev.seqOf h d = some src ∧ src.1.length ≤ sizeLine ∧ ∀ vs, RVs X.K H r src.1 vs → ∀ l, H l = none → Q (.ref l) (upd H l (.lst vs))) := by
  intro pins s σ H xs us Q I rv q
  obtain ⟨r, h, d, src, x, hr, v1, rfl, e, hz, q⟩ := q
  cases d with
  | tup ds =>
    cases e
    obtain ⟨p, vs, rfl, z, w⟩ := v1.shape
    exact call_list_of pins s σ H _ us Q I rv ⟨p, vs, rfl, .inr z, q vs w⟩
  | ref i =>
    simp only [Ev.seqOf, Option.map_eq_some_iff] at e
    obtain ⟨ds, e1, rfl⟩ := e
    obtain ⟨p, rfl, z⟩ := v1.shape
    obtain ⟨p', vs, z', q1, w⟩ := hr.read e1
    rw [z] at z'; cases z'
    exact call_list_of pins s σ H _ us Q I rv ⟨p, vs, rfl, .inl q1, q vs w⟩
  | str l =>
    cases e
    simp only [RV] at v1
    obtain ⟨rfl, hl⟩ := v1
    obtain ⟨u, rfl, ru⟩ := vals1 rv
    obtain ⟨t, rfl⟩ := ru
    refine call_list_str (I.ok.hd g.calm) (sOf l) t (fun h' tk acc' c' hk hS' hacc => ?_) (by simpa [sOf] using hl)
    refine ⟨.ref s.heap.objs.size, _, I.laid (t' := tk) (o := .lst (l.map fun c => .str (sOf [c]))) hk (Nat.le_refl _) ?_, rfl, q _ (RVs.ofStr l) _ (I.hok.fresh (Nat.le_refl _))⟩
    exact ⟨by simpa using hl, acc'.toList, c', vals_signs hacc, by simpa using hS'⟩
  | _ => cases e
theorem je_lof {p : Pos} (ha : JE G n sc N df m a xa) (h1 : ("list" : Str) ∈ G.bl := by decide +kernel) (hg1 : sc.names.lookup ("list" : Str) = some .globalImplicit := by rfl)
    (hst : ∀ env : Env, starEach [xa] env = [(false, eval xa env)] := by intro _; rfl) : JE G n sc N df m (.lof (.seq a)) (.Call (.Name "list" p) [xa] [] pos) := fun X g => by
  refine PE.of (pe_callTy (cl_list g) (g.gl hg1) (g.bl _ h1) (by decide +kernel) (pa_cons (ha X g) pa_nil (hst _)) (by decide) (by decide) (hst _) rfl) fun s H Q q => ?_
  obtain ⟨r, fr, h, d, h', sr, hr, e, q⟩ := q
  simp only [Ev.ev, Ev.evi] at e
  obtain ⟨src, h3, e1, e⟩ := Ev.bind_eq_ok e
  obtain ⟨x, h4, e2, e1⟩ := Ev.bind_eq_ok e1
  obtain ⟨e1, rfl⟩ := Ev.of_eq_ok e1
  refine ⟨r, fr, h, x, _, sr, hr, e2, fun v H1 r1 v1 hr1 f1 => ?_⟩
  have hz : src.1.length ≤ sizeLine := by
    unfold Ev.alloc at e
    split at e
    · rename_i z; rw [← big_eq]; exact z
    · cases e
  exact ⟨r1, _, x, src, v, hr1, v1, rfl, e1, hz, fun vs w l hl => ((q.later f1).lst e w hr1).2 l hl⟩
theorem vals_range {lo : Int} {acc : Array Value} {k : Nat} (h : ItemsOf (fun i v => ∃ t, v = Value.int (lo + i * 1) t) acc k) : Vals ((List.range k).map fun i => V.int (lo + (i : Nat))) acc.toList := by
  obtain ⟨h1, h2⟩ := h
  subst h1
  have go : ∀ (l : List Value) (b : Nat), (∀ j v, l[j]? = some v → ∃ t, v = Value.int (lo + ((b + j : Nat) : Int)) t) → Vals ((List.range' b l.length).map fun i => V.int (lo + (i : Nat))) l := by
    intro l
    induction l with
    | nil => intro b _; exact .nil
    | cons v l ih =>
      intro b hv
      rw [List.length_cons, List.range'_succ]
      refine .cons (by obtain ⟨t, e⟩ := hv 0 v (by simp); subst e; exact ⟨t, by simp⟩) (ih (b + 1) fun j w hw => ?_)
      have := hv (j + 1) w (by simpa using hw)
      rw [show b + 1 + j = b + (j + 1) by omega]
      exact this
  have := go acc.toList 0 fun j v hv => by
    obtain ⟨t, e⟩ := h2 j v (by simpa using hv)
    exact ⟨t, by simpa using e⟩
  rw [List.range_eq_range']
  simpa using this
theorem RVs.ofRange {K : PySem.W.Frag} {H : Hp} {r : List Addr} (lo : Int) (k : Nat) : RVs K H r (Ev.range lo k) ((List.range k).map fun i => V.int (lo + (i : Nat))) := by
  unfold Ev.range
  generalize List.range k = l
  induction l with
  | nil => exact .nil
  | cons i l ih => exact .cons rfl ih
end
end Sm
set_option Elab.async false
set_option linter.all false
set_option maxRecDepth 100000
namespace Sm
open PySem PySem.Spec PyProof.Rows L2 PySem.SeqAt
open Ev (D O Hh Fr R Phi E Es Eo T S Ss Fl Src BOp COp TY BI ME)
section
variable {X : Cx} {G : Tb} {n : Nat} {sc : Scope} {N : List Str} {df : Bool} {m : List Nat} {a b c : E} {xa xb xc tg : Expr} {pos : Pos}
theorem adjust_rv (n : Nat) : Builtin.Slice.sliceAdjust none none (-1) (n : Int) = ((n : Int) - 1, -1) := by
  unfold Builtin.Slice.sliceAdjust
  simp
theorem places_rv (n : Nat) : Builtin.Slice.slicePlaces ((n : Int) - 1) (-1) (-1) = n := by
  unfold Builtin.Slice.slicePlaces
  have h1 : ¬ ((-1 : Int) > 0) := by omega
  simp only [h1, if_false]
  have h2 : (- -1 : Int) = 1 := by omega
  rw [h2]
  simp only [Int.ediv_one]
  split <;> omega
theorem sliceApplied_rv {prog : Program} {w : World} {A : Around} {E : Value → Shared → Prop} {s : Shared} {sl : Addr} {vk : Value} {n : Nat} {Q : Int × Int × Nat → Shared → Prop} (hs : s.heap.IsSliceOf sl .none .none vk) (pk : IsPart vk (some (-1)))
    (h : Q ((n : Int) - 1, -1, n) s) : wpAny (model prog w) A (Builtin.Slice.sliceApplied (.ref sl) (pure (n : Int))) Q E s := by
  obtain ⟨os, hos, hcs, hds⟩ := id hs
  unfold Builtin.Slice.sliceApplied Builtin.Slice.sliceFields
  refine wpAny_bind (wpAny_bind (wpAny_field hos hds (x := .none) rfl (wpAny_bind (wpAny_field hos hds (x := .none) rfl (wpAny_bind (wpAny_field hos hds (x := vk) rfl (wpAny_pure ?_)))))))
  refine wpAny_bind (HT.slicePart_ pk ?_)
  show wpAny _ _ (if ((-1 : Int) == 0) = true then _ else _) _ _ s
  rw [if_neg (by decide)]
  refine wpAny_bind (HT.slicePart_ .none (wpAny_bind (HT.slicePart_ .none (wpAny_bind (wpAny_pure ?_)))))
  show wpAny _ _ (match Builtin.Slice.sliceAdjust none none (-1) (n : Int) with | (lo, hi) => pure (lo, (-1 : Int), Builtin.Slice.slicePlaces lo hi (-1))) _ _ s
  rw [adjust_rv n]
  show wpAny _ _ (pure ((n : Int) - 1, (-1 : Int), Builtin.Slice.slicePlaces ((n : Int) - 1) (-1) (-1))) _ _ s
  rw [places_rv]
  exact wpAny_pure h
theorem pick_rv (xs : Array Value) : ((List.range xs.size).filterMap fun (m : Nat) => xs[((xs.size : Int) - 1 + (m : Int) * (-1)).toNat]?).toArray = xs.toList.reverse.toArray := by
  have e : (List.range xs.size).filterMap (fun (m : Nat) => xs[((xs.size : Int) - 1 + (m : Int) * (-1)).toNat]?) = ((List.range xs.size).map (fun k => xs.size - 1 - k)).filterMap (xs[·]?) := by
    rw [List.filterMap_map]
    have go : ∀ l : List Nat, (∀ k ∈ l, k < xs.size) → l.filterMap (fun (m : Nat) => xs[((xs.size : Int) - 1 + (m : Int) * (-1)).toNat]?) = l.filterMap ((xs[·]?) ∘ fun k => xs.size - 1 - k) := by
      intro l hl
      induction l with
      | nil => rfl
      | cons k l ih =>
        have hk := hl k (by simp)
        have e2 : ((xs.size : Int) - 1 + (k : Int) * (-1)).toNat = xs.size - 1 - k := by omega
        rw [List.filterMap_cons, List.filterMap_cons, e2, ih fun k' h' => hl k' (by simp [h'])]
        rfl
    exact go _ fun k hk => List.mem_range.mp hk
  rw [e, PySem.W.krv_range, List.filterMap_reverse, PySem.W.krv_all]
theorem getItem_rv {prog : Program} {w : World} {A : Around} {E : Value → Shared → Prop} {s : Shared} {t sl : Addr} {items : Array Value} {vk : Value} {Q : Value → Shared → Prop} (ht : IsTup s.heap t items) (hs : s.heap.IsSliceOf sl .none .none vk) (pk : IsPart vk (some (-1)))
    (h : Q (.ref s.heap.objs.size) { s with heap := s.heap.push { cls := .type "tuple", data := .seq items.toList.reverse.toArray } })
    (hsz : items.size ≤ sizeLine) : wpAny (model prog w) A (getItem (.ref t) (.ref sl)) Q E s := by
  have htake : sizeOk (.seq items.toList.reverse.toArray) := by
    show items.toList.reverse.toArray.size ≤ sizeLine
    rw [List.size_toArray, List.length_reverse, Array.length_toList]
    exact hsz
  obtain ⟨os, hos, hcs, hds⟩ := id hs
  have hTs : s.TypeIs (.ref sl) "slice" := ⟨os, hos, hcs⟩
  unfold getItem
  try with_reducible refine wpAny_holding ?_
  first | refine wpAny_bind (wpAny_pure ?_) | skip
  refine wpAny_bind (wpAny_sequenceKey ht.typeIs (by decide) ?_)
  refine wpAny_bind (wpAny_callSpecial?_slot (name := Str.ofString "__getitem__") ht.typeIs PyProof.Rows.slot_tuple_getitem
    (wpAny_call_entry PyProof.Rows.slot_tuple_getitem ht.typeIs entry_tuple_getitem ?_ (args_tuple_getitem _ _)))
  show wpAny _ _ (Builtin.Tuple.tupleItemsOf (.ref t) >>= _) _ _ s
  refine wpAny_bind (tupleItemsOf_ ht ?_)
  refine wpAny_bind (wpAny_typeOf hTs ?_)
  rw [if_pos (by decide)]
  refine wpAny_bind (sliceApplied_rv hs pk ?_)
  have hno : ¬ (((items.size : Int) - 1 == 0 && (-1 : Int) == 1 && items.size == items.size) = true) := by simp
  show wpAny _ _ (if ((items.size : Int) - 1 == 0 && (-1 : Int) == 1 && items.size == items.size) = true then _ else _) _ _ s
  rw [if_neg hno, pick_rv]
  first
    | exact wpAny_bind (m := Builtin.Tuple.tupleExact _) (wpAny_newObj_type (wpAny_pure ⟨_, rfl, wpAny_pure h⟩) htake)
    | exact wpAny_bind (m := Builtin.Tuple.tupleExact _) (wpAny_newObj_type (wpAny_bind (wpAny_pure (wpAny_pure ⟨_, rfl, wpAny_pure h⟩))) htake)
    | exact wpAny_bind (wpAny_bind (m := Builtin.Tuple.tupleExact _) (wpAny_newObj_type (wpAny_pure (wpAny_pure ⟨_, rfl, wpAny_pure h⟩)) htake))
    | exact wpAny_bind (wpAny_bind (m := Builtin.Tuple.tupleExact _) (wpAny_newObj_type (wpAny_pure ⟨_, rfl, wpAny_pure h⟩) htake))
theorem Vals.reverse {vs : List V} {us : List Value} (w : Vals vs us) : Vals vs.reverse us.reverse := by
  induction w with
  | nil => exact .nil
  | cons a _ ih => rw [List.reverse_cons, List.reverse_cons]; exact ih.append (.cons a .nil)
theorem je_rv {p1 p2 p3 : Pos} {j} (ha : JE G n sc N df m a xa) : JE G n sc N df m (.rv a) (.Subscript xa (.Slice none none (some (.UnaryOp .USub (.Constant (.int 1) j p1) p2)) p3) pos) := fun X g => by
  intro pins s σ H Q I q
  obtain ⟨r, fr, h, d, h', sr, hr, e, q⟩ := q
  simp only [Ev.ev] at e
  obtain ⟨x, h1, e1, e⟩ := Ev.bind_eq_ok e
  refine Subscript_ (thn (ha X g pins s σ H _ I ⟨r, fr, h, x, h1, sr, hr, e1, fun v H1 r1 v1 hr1 f1 => (show (fun (v : V) (H1 : Hp) => ∃ r1, RV X.K H1 r1 x v ∧ HR X.K H1 r1 h1 ∧ Fm X.K r r1 H H1) v H1 from ⟨r1, v1, hr1, f1⟩)⟩) fun v s1 ⟨x1, H1, I1, rx, r1, v1, hr1, f1⟩ => ?_)
  refine wpAny_Slice ?_
  rw [evalPart_none]
  refine wpAny_pure (wpAny_pure ?_)
  have hm1 : PE X (.UnaryOp .USub (.Constant (.int 1) j p1) p2) (tJ X.K m (Ev.run G.F G.w n) (.neg (.c (.int 1)))) := je_neg je_int X g
  refine thn (po_some hm1 pins s1 σ H1 (fun o H2 => o = some (-1) ∧ ∃ r2, RV X.K H2 r2 x x1 ∧ HR X.K H2 r2 h1 ∧ Fm X.K r r2 H H2) I1 ⟨r1, fr, h1, .int (-1), h1, sr.mono f1, hr1, by simp [Ev.ev], fun v' H2 r2 v2 hr2 f2 => ⟨-1, v2, rfl, r2, v1.mono f2, hr2, f1.trans f2⟩⟩) fun vk s2 ⟨o, H2, I2, pk, q2⟩ => ?_
  obtain ⟨rfl, r2, v2, hr2, f2⟩ := q2
  have I4 : Inv X pins σ H2 { s2 with heap := s2.heap.push { cls := .type "slice", data := .fields #[.none, .none, vk] } } := I2.kept (t' := s2.toks) fun b ob q => Heap.get?_push_of_some _ q
  have hS : ({ s2 with heap := s2.heap.push { cls := .type "slice", data := .fields #[.none, .none, vk] } } : Shared).heap.IsSliceOf s2.heap.objs.size .none .none vk := Heap.IsSliceOf.new s2.heap .none .none vk
  have key : ∃ T id, typeLookup (.type T) "__getitem__" = pure (some (.builtin id)) ∧ ({ s2 with heap := s2.heap.push { cls := .type "slice", data := .fields #[.none, .none, vk] } } : Shared).TypeIs v T ∧ wpAny (model X.prog X.w) X.A (getItem v (.ref s2.heap.objs.size)) (EP X pins σ Q) X.xe { s2 with heap := s2.heap.push { cls := .type "slice", data := .fields #[.none, .none, vk] } } := by
    revert I4 hS
    generalize ({ s2 with heap := s2.heap.push { cls := .type "slice", data := .fields #[.none, .none, vk] } } : Shared) = s3
    intro I4 hS
    cases x with
    | tup ds =>
      cases e
      obtain ⟨p, vs, rfl, z, w⟩ := v2.shape
      cases rx
      obtain ⟨us, pv, pt, hz⟩ := I4.tuple z
      refine ⟨"tuple", _, PyProof.Rows.slot_tuple_getitem.lookup, pt.typeIs, ?_⟩
      refine getItem_rv pt hS pk ?_ (by rw [List.size_toArray, ← pv.length]; exact hz)
      refine ⟨.ref s3.heap.objs.size, _, I4.laid (t' := s3.toks) (o := .tup vs.reverse) (fun b ob q => Heap.get?_push_of_some _ q) (Nat.le_refl _) ?_, rfl, (q.later f2).tup w.reverse hr2 (I4.hok.fresh (Nat.le_refl _))⟩
      exact ⟨by simpa using hz, _, Vals.reverse pv, ⟨_, Heap.get?_push_size _ rfl, rfl, 0, rfl⟩⟩
    | ref i =>
      simp only [Ev.rvd] at e
      split at e
      · rename_i ds e2
        obtain ⟨p, rfl, z⟩ := v2.shape
        obtain ⟨p', vs, z', q1, w⟩ := hr2.read e2
        rw [z] at z'; cases z'
        cases rx
        obtain ⟨us, pv, pt, hz⟩ := I4.list q1
        obtain ⟨hz2, q2⟩ := (q.later f2).lst e w.reverse hr2
        refine ⟨"list", _, slot_list_getitem.lookup, pt.isList.typeIs, ?_⟩
        refine wpAny_getItem_list_slice pt.isList hS .none .none pk (by simp) ?_ (by rw [List.size_toArray, ← pv.length]; exact hz)
        rw [PySem.W.krv_pick]
        refine ⟨.ref s3.heap.objs.size, _, I4.laid (t' := s3.toks) (o := .lst vs.reverse) (fun b ob q => Heap.get?_push_of_some _ q) (Nat.le_refl _) ?_, rfl, q2 _ (I4.hok.fresh (Nat.le_refl _))⟩
        exact ⟨by simpa using hz, _, 0, Vals.reverse pv, Heap.get?_push_size _ rfl⟩
      · cases e
    | _ => cases e
  obtain ⟨T, id, hT, ht, hg⟩ := key
  exact tail_any (ops := [v, .ref s2.heap.objs.size]) ht hT hg (by with_unfolding_all rfl)
end
end Sm
set_option Elab.async false
set_option linter.all false
set_option maxRecDepth 100000
namespace Sm
open PySem PySem.Spec PyProof.Rows L2 PySem.SeqAt
open Ev (D O Hh Fr R Phi E Es Eo T S Ss Fl Src BOp COp TY BI ME)
theorem le_anti : ∀ {a b : List Nat}, Ev.lexLe a b = true → Ev.lexLe b a = true → a = b
  | [], [], _, _ => rfl
  | [], _ :: _, _, h => by simp [Ev.lexLe] at h
  | _ :: _, [], h, _ => by simp [Ev.lexLe] at h
  | x :: xs, y :: ys, h1, h2 => by
    simp only [Ev.lexLe] at h1 h2
    by_cases e : x = y
    · subst e; simp only [if_true] at h1 h2; rw [le_anti h1 h2]
    · rw [if_neg e] at h1; rw [if_neg (Ne.symm e)] at h2; simp at h1 h2; omega
theorem le_trans' : ∀ {a b c : List Nat}, Ev.lexLe a b = true → Ev.lexLe b c = true → Ev.lexLe a c = true
  | [], _, _, _, _ => by simp [Ev.lexLe]
  | _ :: _, [], _, h, _ => by simp [Ev.lexLe] at h
  | _ :: _, _ :: _, [], _, h => by simp [Ev.lexLe] at h
  | x :: xs, y :: ys, z :: zs, h1, h2 => by
    simp only [Ev.lexLe] at h1 h2 ⊢
    by_cases e : x = y
    · subst e
      rw [if_pos rfl] at h1
      by_cases f : x = z
      · subst f; rw [if_pos rfl] at h2 ⊢; exact le_trans' h1 h2
      · rw [if_neg f] at h2 ⊢; exact h2
    · rw [if_neg e] at h1
      by_cases f : y = z
      · subst f; rw [if_neg e]; exact h1
      · rw [if_neg f] at h2
        simp at h1 h2
        have : x ≠ z := by omega
        rw [if_neg this]; simp; omega
theorem le_total' : ∀ a b : List Nat, Ev.lexLe a b = false → Ev.lexLe b a = true
  | [], _, h => by simp [Ev.lexLe] at h
  | _ :: _, [], _ => by simp [Ev.lexLe]
  | x :: xs, y :: ys, h => by
    simp only [Ev.lexLe] at h ⊢
    by_cases e : x = y
    · subst e; rw [if_pos rfl] at h ⊢; exact le_total' _ _ h
    · rw [if_neg e] at h; rw [if_neg (Ne.symm e)]; simp at h ⊢; omega
abbrev Le (a b : List Nat) : Prop := Ev.lexLe a b = true
theorem ins_perm (x : List Nat) : ∀ l, (Ev.insS x l).Perm (x :: l)
  | [] => .refl _
  | y :: l => by
    simp only [Ev.insS]
    split
    · exact .refl _
    · exact ((ins_perm x l).cons y).trans (.swap ..)
theorem ins_sorted (x : List Nat) : ∀ {l}, l.Pairwise Le → (Ev.insS x l).Pairwise Le
  | [], _ => by simp [Ev.insS]
  | y :: l, h => by
    obtain ⟨h1, h2⟩ := List.pairwise_cons.mp h
    simp only [Ev.insS]
    split
    · rename_i hx
      exact List.pairwise_cons.mpr ⟨fun z hz => by
        rcases List.mem_cons.mp hz with rfl | hz
        · exact hx
        · exact le_trans' hx (h1 z hz), h⟩
    · rename_i hx
      refine List.pairwise_cons.mpr ⟨fun z hz => ?_, ins_sorted x h2⟩
      rcases List.mem_cons.mp ((ins_perm x l).mem_iff.mp hz) with rfl | hz
      · exact le_total' _ _ (by simpa using hx)
      · exact h1 z hz
theorem sortS_perm : ∀ l, (Ev.sortS l).Perm l
  | [] => .refl _
  | x :: l => (ins_perm x _).trans ((sortS_perm l).cons x)
theorem sortS_sorted : ∀ l, (Ev.sortS l).Pairwise Le
  | [] => .nil
  | x :: l => ins_sorted x (sortS_sorted l)
theorem sortS_uniq {l m : List (List Nat)} (h : m.Perm l) (s : m.Pairwise Le) : m = Ev.sortS l :=
  (h.trans (sortS_perm l).symm).eq_of_pairwise (fun a b _ _ => le_anti) s (sortS_sorted l)
theorem lexLe_lt : ∀ a b : List Nat, Ev.lexLe a b = !ltCps b a
  | [], [] => by simp [Ev.lexLe, ltCps]
  | [], _ :: _ => by simp [Ev.lexLe, ltCps]
  | _ :: _, [] => by simp [Ev.lexLe, ltCps]
  | x :: xs, y :: ys => by
    have ih := lexLe_lt xs ys
    simp only [Ev.lexLe, ltCps]
    by_cases e : x = y
    · subst e; simp [ih]
    · have e2 : ¬ y = x := fun z => e z.symm
      rw [if_neg e]
      by_cases h : x < y
      · have : ¬ y < x := by omega
        simp [h, this, e2]
      · have : y < x := by omega
        simp [h, this]
theorem rising_pair : ∀ (p : Str) (l : List Str), risingS p l = true → (p :: l).Pairwise fun a b => Le a.cps.toList b.cps.toList
  | p, [], _ => by simp
  | p, x :: r, h => by
    have h' : (!ltCps x.cps.toList p.cps.toList && risingS x r) = true := h
    rw [Bool.and_eq_true, ← lexLe_lt] at h'
    have ih := rising_pair x r h'.2
    refine List.pairwise_cons.mpr ⟨fun z hz => ?_, ih⟩
    rcases List.mem_cons.mp hz with rfl | hz
    · exact h'.1
    · exact le_trans' h'.1 ((List.pairwise_cons.mp ih).1 z hz)
theorem sorted_eq {ss : List (List Nat)} {ss' : List Str} (hp : ss'.Perm (ss.map sOf)) (hs : sortedS ss' = true) : ss' = (Ev.sortS ss).map sOf := by
  have hpw : ss'.Pairwise fun a b => Le a.cps.toList b.cps.toList := by
    cases ss' with
    | nil => exact .nil
    | cons p l => exact rising_pair p l hs
  have h1 : (ss'.map fun z => z.cps.toList).Perm ss := by
    have := hp.map fun z : Str => z.cps.toList
    rw [List.map_map] at this
    have e : ss.map ((fun z : Str => z.cps.toList) ∘ sOf) = ss := by
      rw [show ((fun z : Str => z.cps.toList) ∘ sOf) = id from funext fun l => by simp [sOf]]
      simp
    rw [e] at this; exact this
  have h2 := sortS_uniq h1 (List.pairwise_map.mpr hpw)
  rw [← h2, List.map_map]
  rw [show (sOf ∘ fun z : Str => z.cps.toList) = id from funext fun z => by simp [sOf]]
  simp
section
variable {X : Cx} {G : Tb} {n : Nat} {sc : Scope} {N : List Str} {df : Bool} {m : List Nat} {a b c : E} {xa xb xc xd tg : Expr} {pos : Pos}
theorem strs_vals : ∀ {us : List Value} {ss : List (List Nat)}, StrsAre us (ss.map sOf) → Vals (ss.map fun l => V.str (sOf l)) us
  | [], [], _ => .nil
  | [], _ :: _, h => by cases h
  | u :: us, [], h => by cases h
  | u :: us, l :: ss, h => by
    cases h with
    | cons x t h => exact .cons ⟨_, rfl⟩ (strs_vals h)
theorem RVs.ofStrs {K : PySem.W.Frag} {H : Hp} {r : List Addr} : ∀ {ss : List (List Nat)}, (∀ l ∈ ss, l.length ≤ sizeLine) → RVs K H r (ss.map D.str) (ss.map fun l => V.str (sOf l))
  | [], _ => .nil
  | l :: ss, h => .cons ⟨rfl, h l (by simp)⟩ (RVs.ofStrs fun z hz => h z (by simp [hz]))
theorem cb_sorted : CallR X (.builtin "sorted") (rDn X.K (Ev.bfn .sorted)) := by
  intro pins s σ H xs us Q I r q
  obtain ⟨rr, h, as, d, h', hr, v1, e, q⟩ := q
  match as, e with
  | [.ref n], e =>
    delta Ev.bfn at e; dsimp only at e
    split at e
    case h_2 => cases e
    rename_i ss e1
    split at e
    case isFalse => cases e
    rename_i h64
    obtain ⟨ds, e2, e3⟩ := Option.bind_eq_some_iff.mp e1
    simp only [RVs, RV] at v1
    obtain ⟨v, w, rfl, ⟨p, rfl, z⟩, rfl⟩ := v1
    obtain ⟨p', vs, z', q1, w⟩ := hr.read e2
    rw [z] at z'; cases z'
    obtain ⟨u, rfl, ru⟩ := vals1 r
    cases ru
    obtain ⟨us, pv, pl, hz⟩ := I.list q1
    obtain ⟨hS, hl⟩ := strs_at e3 w pv
    have hlen : us.length < 64 := by
      have h1 := hS.length
      simp at h1
      omega
    refine sorted_strs pl.isList hS hlen fun out ss' a1 a2 a3 => ?_
    have hq := sorted_eq a2 a3
    subst hq
    have hsl : ∀ l ∈ Ev.sortS ss, l.length ≤ sizeLine := fun l hl' => hl l ((sortS_perm ss).mem_iff.mp hl')
    obtain ⟨e', he⟩ := sortedAll_at s.heap us out
    obtain ⟨hz2, q2⟩ := q.lst e (RVs.ofStrs hsl) hr
    refine ⟨.ref (s.heap.objs.size + 1), _, I.laid (t' := s.toks) (o := .lst ((Ev.sortS ss).map fun l => V.str (sOf l))) (fun b ob q => sortedAll_old q) (Nat.le_succ _) ?_, rfl, q2 _ (I.hok.fresh (Nat.le_succ _))⟩
    exact ⟨hz2, out.toList, e', strs_vals a1, by simpa [seqObj] using he⟩
theorem js_setS {i : Nat} {tp p3 : Pos} (ho : JE G n sc N df m (.v i) xa) (hl : JE G n sc N df m b xb) (hu : JE G n sc N df m c xc) (hv : JE G n sc N df m a xd)
    (hs : ∀ env : Env, swapsWithSole [.Subscript xa (.Slice (some xb) (some xc) none p3) tp] xd pos.line env = pure false := by intro _; rfl) (hw : ∀ env : Env, swappedStores [.Subscript xa (.Slice (some xb) (some xc) none p3) tp] xd env = pure none := by intro _; rfl)
    (h1 : ∀ env : Env, (assignEach [.Subscript xa (.Slice (some xb) (some xc) none p3) tp] env).map (·.2) = [assign (.Subscript xa (.Slice (some xb) (some xc) none p3) tp) env] := by intro _; rfl)
    (has : ∀ (env : Env) v, assign (.Subscript xa (.Slice (some xb) (some xc) none p3) tp) env v = (do
      let ov ← holding [v] (eval xa env)
      let iv ← holding [v, ov] (eval (.Slice (some xb) (some xc) none p3) env)
      standAt tp
      holding [v, ov, iv] (setItem ov iv v)
      release [iv, v, ov] []) := by intro _ _; rfl) :
    JS G n sc N df m (.exp (.me .setsl (.v i) (.cons a (.cons b (.cons c .nil))))) (.Assign [.Subscript xa (.Slice (some xb) (some xc) none p3) tp] xd pos) := fun X g => by
  have hg : PG X (.Subscript xa (.Slice (some xb) (some xc) none p3) tp) (fun v s H Q => ∃ r fr h d od y z h2 h3 h', SR X.K m H r fr s ∧ HR X.K H r h ∧ RV X.K H r d v ∧ Ev.ev (Ev.run G.F G.w n) (.v i) fr h = .ok od h ∧ Ev.ev (Ev.run G.F G.w n) b fr h = .ok y h2 ∧ Ev.ev (Ev.run G.F G.w n) c fr h2 = .ok z h3 ∧ Ev.setslF h3 od d y z = some h' ∧ ∀ H' r', HR X.K H' r' h' → Fm X.K r r' H H' → Q s H') := by
    intro pins s σ H v u Q I rv q
    obtain ⟨r, fr, h, d, od, y, z, h2, h3, h', sr, hr, vd, eo, e2, e3, es, q⟩ := q
    rw [has]
    refine wpAny_bind (wpAny_holding (thn (ho X g pins s σ H (fun x H1 => ∃ r1, RV X.K H1 r1 od x ∧ RV X.K H1 r1 d v ∧ HR X.K H1 r1 h ∧ Fm X.K r r1 H H1) I ⟨r, fr, h, od, h, sr, hr, eo, fun x H1 r1 v1 hr1 f1 => ⟨r1, v1, vd.mono f1, hr1, f1⟩⟩) fun ov s1 ⟨x, H1, I1, rx, r1, v1, vd1, hr1, f1⟩ => ?_))
    refine wpAny_bind (wpAny_holding (wpAny_Slice ?_))
    simp only [Ev.setslF, Option.bind_eq_some_iff] at es
    obtain ⟨P, es1, P2, es2, ka, es3, kc, es4, es⟩ := es
    split at es
    case isFalse => cases es
    rename_i hk
    cases es
    have hy : y = .int ka := by cases y <;> simp only [Ev.asI, reduceCtorEq, Option.some.injEq] at es3; rw [es3]
    have hz : z = .int kc := by cases z <;> simp only [Ev.asI, reduceCtorEq, Option.some.injEq] at es4; rw [es4]
    subst hy hz
    refine thn (po_some (hl X g) pins s1 σ H1 (fun o H2 => o = some ka ∧ ∃ r2, RV X.K H2 r2 od x ∧ RV X.K H2 r2 d v ∧ HR X.K H2 r2 h2 ∧ Fm X.K r r2 H H2) I1 ⟨r1, fr, h, .int ka, h2, sr.mono f1, hr1, e2, fun v' H2 r2 v2 hr2 f2 => ⟨ka, v2, rfl, r2, v1.mono f2, vd1.mono f2, hr2, f1.trans f2⟩⟩) fun vl s2 ⟨o, H2, I2, pl, q2⟩ => ?_
    obtain ⟨rfl, r2, v2, vd2, hr2, f2⟩ := q2
    refine thn (po_some (hu X g) pins s2 σ H2 (fun o H3 => o = some kc ∧ ∃ r3, RV X.K H3 r3 od x ∧ RV X.K H3 r3 d v ∧ HR X.K H3 r3 h3 ∧ Fm X.K r r3 H H3) I2 ⟨r2, fr, h2, .int kc, h3, sr.mono f2, hr2, e3, fun v' H3 r3 v3 hr3 f3 => ⟨kc, v3, rfl, r3, v2.mono f3, vd2.mono f3, hr3, f2.trans f3⟩⟩) fun vu s3 ⟨o, H3, I3, pu, q3⟩ => ?_
    obtain ⟨rfl, r3, v3, vd3, hr3, f3⟩ := q3
    rw [evalPart_none]
    refine wpAny_pure ?_
    have I4 : Inv X pins σ H3 { s3 with heap := s3.heap.push { cls := .type "slice", data := .fields #[vl, vu, .none] } } := I3.kept (t' := s3.toks) fun b ob q => Heap.get?_push_of_some _ q
    have hS : ({ s3 with heap := s3.heap.push { cls := .type "slice", data := .fields #[vl, vu, .none] } } : Shared).heap.IsSliceOf s3.heap.objs.size vl vu .none := Heap.IsSliceOf.new s3.heap vl vu .none
    have ho : ∃ n1 ds, od = .ref n1 ∧ h3[n1]? = some (.lst ds) ∧ P = (n1, ds) := by
      cases od <;> simp only [Ev.asL, reduceCtorEq] at es1
      split at es1
      · rename_i ds e; cases es1; exact ⟨_, ds, rfl, e, rfl⟩
      · cases es1
    have hd : ∃ n1 ds, d = .ref n1 ∧ h3[n1]? = some (.lst ds) ∧ P2 = (n1, ds) := by
      cases d <;> simp only [Ev.asL, reduceCtorEq] at es2
      split at es2
      · rename_i ds e; cases es2; exact ⟨_, ds, rfl, e, rfl⟩
      · cases es2
    obtain ⟨n1, ds, rfl, k1, rfl⟩ := ho
    obtain ⟨n2, cs, rfl, k2, rfl⟩ := hd
    dsimp only at hk q
    simp only [RV] at v3 vd3
    obtain ⟨p1, rfl, z1⟩ := v3
    obtain ⟨p2, rfl, z2⟩ := vd3
    obtain ⟨p1', g1, vs, g2, g3⟩ := hr3.ob _ _ k1
    rw [z1] at g1; cases g1
    obtain ⟨p2', g4, ws, g5, g6⟩ := hr3.ob _ _ k2
    rw [z2] at g4; cases g4
    cases rx; cases rv
    have hne : p1 ≠ p2 := fun zz => by subst zz; exact hk.1 (hr3.inj n1 n2 _ _ _ z1 z2 k1 k2)
    have ra : RelV (.int ka) vl := by cases pl with | int i t => exact ⟨t, rfl⟩
    have rc : RelV (.int kc) vu := by cases pu with | int i t => exact ⟨t, rfl⟩
    refine wpAny_bind (wpAny_standAt (wpAny_bind (wpAny_holding ?_)))
    refine set_slice I4 g2 g5 hne hS ra rc hk.2.1 hk.2.2.1 (by rw [g3.length]; exact hk.2.2.2.1) (by rw [g3.length, g6.length, ← big_eq]; exact hk.2.2.2.2) fun s4 I5 => ?_
    have f4 := Fm.write (K := X.K) (ws := vs.take ka.toNat ++ ws ++ vs.drop kc.toNat) g2 (List.mem_of_getElem? z1)
    exact wpAny_release ⟨σ, _, I5, q _ r3 (hr3.write k1 z1 g2 (((g3.take _).append g6).append (g3.drop _))) (f3.trans f4)⟩
  refine PS.of (ps_asg (hv X g) hg (hs _) (hw _) (h1 _)) fun Q s H q => ?_
  obtain ⟨r, fr, h, fl, fr', h', sr, hr, e, q⟩ := q
  simp only [Ev.ex] at e
  obtain ⟨d0, h1', e1, e⟩ := Ev.bind_eq_ok e
  cases e
  rw [Ev.ev] at e1
  obtain ⟨od, h2, eo, e1⟩ := Ev.bind_eq_ok e1
  have eo' : ∀ h, Ev.ev (Ev.run G.F G.w n) (.v i) fr h = .ok od h := fun hh => by
    rw [Ev.ev] at eo ⊢
    rw [(Ev.of_eq_ok eo).1]; rfl
  rw [eo'] at eo
  cases eo
  split at e1
  case isFalse => cases e1
  simp only [Ev.evs] at e1
  obtain ⟨as, h3, e2, e1⟩ := Ev.bind_eq_ok e1
  obtain ⟨d, h4, e3, e2⟩ := Ev.bind_eq_ok e2
  obtain ⟨as1, h5, e4, e2⟩ := Ev.bind_eq_ok e2
  cases e2
  obtain ⟨y, h6, e5, e4⟩ := Ev.bind_eq_ok e4
  obtain ⟨as2, h7, e6, e4⟩ := Ev.bind_eq_ok e4
  cases e4
  obtain ⟨z, h8, e7, e6⟩ := Ev.bind_eq_ok e6
  rw [Ev.bind_ok] at e6
  cases e6
  delta Ev.mef at e1; dsimp only at e1
  replace e1 := Ev.bind_eq_ok e1
  obtain ⟨hh, h9, e8, e9⟩ := e1
  have e10 := (Ev.of_eq_ok e8).1
  cases e9
  exact ⟨r, fr, _, d, _, sr, hr, e3, fun v H1 r1 v1 hr1 f1 => ⟨r1, fr, _, d, od, y, z, _, _, _, sr.mono f1, hr1, v1, eo' _, e5, e7, e10, fun H' r' hr' f' => q s H' r' ((sr.mono f1).mono f') hr' (f1.trans f')⟩⟩
end
end Sm
set_option Elab.async false
set_option linter.all false
set_option maxRecDepth 100000
namespace Sm
open PySem PySem.Spec PyProof.Rows L2 PySem.SeqAt
open Ev (D O Hh Fr R Phi E Es Eo T S Ss Fl Src BOp COp TY BI ME)
section
variable {G : Tb} {n : Nat} {sc : Scope} {N : List Str} {df : Bool} {m : List Nat} {a b c : E} {xa xb xc tg : Expr} {pos : Pos}
theorem cl_tuple (g : Good G n sc N df X) : CallR X (.type "tuple") (fun xs H Q => ∃ r h d x d' h', HR X.K H r h ∧ RV X.K H r d x ∧ xs = [x] ∧ Ev.tofD d h = .ok d' h' ∧ Res X.K r H h' d' Q) := by
  intro pins s σ H xs us Q I rv q
  obtain ⟨r, h, d, x, d', h', hr, v1, rfl, e, q⟩ := q
  cases d with
  | tup ds =>
    cases e
    have v2 := v1
    obtain ⟨p, vs, rfl, z, w⟩ := v1.shape
    exact call_tuple_of pins s σ H _ us Q I rv ⟨p, vs, rfl, .inr ⟨z, q.here v2 hr⟩⟩
  | ref i =>
    simp only [Ev.tofD] at e
    split at e
    · rename_i ds e1
      split at e
      · cases e
        obtain ⟨p, rfl, z⟩ := v1.shape
        obtain ⟨p', vs, z', q1, w⟩ := hr.read e1
        rw [z] at z'; cases z'
        exact call_tuple_of pins s σ H _ us Q I rv ⟨p, vs, rfl, .inl ⟨q1, fun l hl => q.tup w hr hl⟩⟩
      · cases e
    · cases e
  | _ => cases e
theorem je_ttp {p : Pos} (ha : JE G n sc N df m a xa) (h1 : ("tuple" : Str) ∈ G.bl := by decide +kernel) (hg1 : sc.names.lookup ("tuple" : Str) = some .globalImplicit := by rfl)
    (hst : ∀ env : Env, starEach [xa] env = [(false, eval xa env)] := by intro _; rfl) : JE G n sc N df m (.ttp a) (.Call (.Name "tuple" p) [xa] [] pos) := fun X g => by
  refine PE.of (pe_callTy (cl_tuple g) (g.gl hg1) (g.bl _ h1) (by decide +kernel) (pa_cons (ha X g) pa_nil (hst _)) (by decide) (by decide) (hst _) rfl) fun s H Q q => ?_
  obtain ⟨r, fr, h, d, h', sr, hr, e, q⟩ := q
  simp only [Ev.ev] at e
  obtain ⟨x, h3, e1, e⟩ := Ev.bind_eq_ok e
  refine ⟨r, fr, h, x, _, sr, hr, e1, fun v H1 r1 v1 hr1 f1 => ?_⟩
  exact ⟨r1, h3, x, v, d, h', hr1, v1, rfl, e, q.later f1⟩
theorem list_rng {X : Cx} (g : Good G n sc N df X) {pins : List (Addr × Obj)} {σ : L2.St} {H : Hp} {s : Shared} {Q : VK} {lo hi : Int} {t u v : Tok} {tk : Nat} (I : Inv X pins σ H s) (h1 : -(2 ^ 62) ≤ lo) (h2 : lo < 2 ^ 62) (h3 : -(2 ^ 62) ≤ hi) (h4 : hi < 2 ^ 62)
    (hl : (hi - lo).toNat ≤ sizeLine) (q : ∀ l, H l = none → Q (.ref l) (upd H l (.lst ((List.range (hi - lo).toNat).map fun i => V.int (lo + (i : Nat)))))) :
    wpAny (model X.prog X.w) X.A (call (.type "list") [.ref s.heap.objs.size]) (EP X pins σ Q) X.xe { s with heap := s.heap.push { cls := .type "range", data := .fields #[.int lo t, .int hi u, .int 1 v] }, toks := tk } := by
  have I1 : Inv X pins σ H { s with heap := s.heap.push { cls := .type "range", data := .fields #[.int lo t, .int hi u, .int 1 v] }, toks := tk } := I.kept fun b o e => Heap.get?_push_of_some _ e
  have e2 : Builtin.Range.rangeSize lo hi 1 = (((hi - lo).toNat : Nat) : Int) := by rw [rangeSize_one]; split <;> omega
  refine call_list_range (n := (hi - lo).toNat) (I.ok.hd g.calm) (IsRange.new ..) (small_one h1 h2 h3 h4) e2 (by rw [sizeLine_eq] at hl; exact hl) fun h' tk' acc' c' hk hS' hacc => ?_
  refine ⟨.ref _, _, I1.laid (t' := tk') (o := .lst ((List.range (hi - lo).toNat).map fun i => V.int (lo + (i : Nat)))) hk (Nat.le_refl _) ?_, rfl, q _ (I1.hok.fresh (Nat.le_refl _))⟩
  exact ⟨by simpa using hl, acc'.toList, c', vals_range hacc, by simpa using hS'⟩
theorem je_lofR2 {e1 e2 : E} {p p2 pos2 : Pos} (hs : JA G n sc N df m (.cons e1 (.cons e2 .nil)) [xa, xb]) (h1 : ("list" : Str) ∈ G.bl := by decide +kernel) (hg1 : sc.names.lookup ("list" : Str) = some .globalImplicit := by rfl)
    (hg : sc.names.lookup ("range" : Str) = some .globalImplicit := by rfl) (hb : ("range" : Str) ∈ G.bl := by decide +kernel)
    (hst : ∀ env : Env, starEach [xa, xb] env = [(false, eval xa env), (false, eval xb env)] := by intro _; rfl) (hst2 : ∀ env : Env, starEach [xb] env = [(false, eval xb env)] := by intro _; rfl)
    (hst3 : ∀ env : Env, starEach [Expr.Call (.Name "range" p2) [xa, xb] [] pos2] env = [(false, eval (Expr.Call (.Name "range" p2) [xa, xb] [] pos2) env)] := by intro _; rfl) :
    JE G n sc N df m (.lof (.rng (.cons e1 (.cons e2 .nil)))) (.Call (.Name "list" p) [.Call (.Name "range" p2) [xa, xb] [] pos2] [] pos) := fun X g => by
  intro pins s σ H Q I q
  obtain ⟨r, fr, h, d, h', sr, hr, e, q⟩ := q
  simp only [Ev.ev, Ev.evi] at e
  replace e := Ev.bind_eq_ok e; obtain ⟨src, h3, e1, e⟩ := e
  replace e1 := Ev.bind_eq_ok e1; obtain ⟨ds, h4, e2, e1⟩ := e1
  replace e1 := Ev.of_eq_ok e1; obtain ⟨e1, y0⟩ := e1; subst y0
  refine wpAny_Call_Name_kw (ld_blt I (g.gl hg1) (g.bl _ h1) (show bootBuiltins ("list" : Str) = some (.type "list") by decide +kernel) ?_ (by decide) (by decide))
  refine PyProof.Rows.callWith_type1 ?_ (hst3 _) rfl
  rw [hst3]
  show wpAny _ _ (spliced ((false, eval (Expr.Call (.Name "range" p2) [xa, xb] [] pos2) X.env) :: backTo pos [])) _ _ s
  refine Calls.spliced_cons ?_
  refine Call_ (ld_blt I (g.gl hg) (g.bl _ hb) boot_range (PyProof.Rows.callWith_type1 (thn ((hs X g) pos2 pins s σ H (fun vs H1 => ∃ r1, RVs X.K H1 r1 ds vs ∧ HR X.K H1 r1 h3 ∧ Fm X.K r r1 H H1) I ⟨r, fr, h, ds, h3, sr, hr, e2, fun vs H1 r1 v1 hr1 f1 => ⟨r1, v1, hr1, f1⟩⟩) fun us s1 z => ?_) (by rw [hst, hst2]) (by rw [hst2]; rfl)))
  · obtain ⟨vs, H1, I1, rv, r1, v1, hr1, f1⟩ := z
    unfold Ev.rngOf at e1
    split at e1
    · exfalso
      simp only [Ev.evs] at e2
      obtain ⟨d, _, _, e2⟩ := Ev.bind_eq_ok e2
      obtain ⟨d2, _, e3, e2⟩ := Ev.bind_eq_ok e2
      obtain ⟨d3, _, e4, e3⟩ := Ev.bind_eq_ok e3
      simp only [Ev.bind_ok] at e3
      cases e3
      cases e2
    · rename_i i j
      split at e1
      · rename_i hj
        cases e1
        simp only [RVs, RV] at v1
        obtain ⟨v, w, rfl, rfl, v', w', rfl, rfl, rfl⟩ := v1
        cases rv with
        | cons ra rb =>
        cases rb with
        | cons rb rc =>
        cases rc
        obtain ⟨t, rfl⟩ := ra
        obtain ⟨u, rfl⟩ := rb
        refine call_range_2 ?_
        refine Calls.spliced_nil ?_
        have hz : (j - i).toNat ≤ sizeLine := by
          unfold Ev.alloc at e
          split at e
          · rename_i z; rw [← big_eq]; simpa [Ev.range] using z
          · cases e
        refine list_rng g I1 hj.1 hj.2.1 hj.2.2.1 hj.2.2.2 hz fun l hl => ?_
        exact ((q.later f1).lst e (RVs.ofRange i (j - i).toNat) hr1).2 l hl
      · cases e1
    · cases e1
end
end Sm
set_option Elab.async false
set_option linter.all false
set_option maxRecDepth 100000
namespace Sm
open PySem PySem.Spec PyProof.Rows L2 PySem.SeqAt
open Ev (D O Hh Fr R Phi E Es Eo T S Ss Fl Src BOp COp TY BI ME)
section
variable {G : Tb} {n : Nat} {sc : Scope} {N : List Str} {df : Bool} {m : List Nat} {a b c : E} {xa xb xc : Expr} {pos : Pos}
end
end Sm
set_option Elab.async false
set_option linter.all false
set_option maxRecDepth 100000
namespace Sm
open PySem PySem.Spec PyProof.Rows L2 PySem.SeqAt
open Ev (D O Hh Fr R Phi E Es Eo T S Ss Fl Src BOp COp TY BI ME)
section
variable {G : Tb} {n : Nat} {sc : Scope} {N : List Str} {df : Bool} {m : List Nat} {a b c : E} {xa xb xc : Expr} {pos : Pos}
end
end Sm
set_option Elab.async false
set_option linter.all false
set_option maxRecDepth 100000
namespace Sm
open PySem PySem.Spec PyProof.Rows L2 PySem.SeqAt
open Ev (D O Hh Fr R Phi E Es Eo T S Ss Fl Src BOp COp TY BI ME)
theorem RVs.ofInts {K : PySem.W.Frag} {H : Hp} {r : List Addr} : ∀ ns : List Int, RVs K H r (ns.map D.int) (ns.map V.int)
  | [] => .nil
  | _ :: l => .cons rfl (RVs.ofInts l)
theorem frz_of {K : PySem.W.Frag} {H : Hp} {a : Addr} {vs : List V} (hO : Only H) (hS : SqL K H a vs) : FrzL K H a vs := by
  rcases hS with h | h
  · rcases h with h | ⟨o, h⟩
    · rcases hO a with q | ⟨o, xs, q⟩
      · rw [q] at h; cases h
      · rw [q] at h; cases h
    · exact .inl ⟨o, h⟩
  · exact .inr h
theorem sp_of {K : PySem.W.Frag} {F : List Ev.Fn} {w n f : Nat} {H : Hp} {a : Addr} {ns : List Int} (hO : Only H) (hS : SqL K H a (ns.map V.int)) {h' : Hh} (e : Ev.run F w n f [.ref 0] [.frz (ns.map D.int)] = .ok (.bl true) h') :
    spF K F w n f [.ref a] H (fun v _ => v = .bl true) fun _ _ _ => False := by
  refine ⟨[a], [.frz (ns.map D.int)], [.ref 0], .bl true, h', .cons (show RV K H [a] (.ref 0) (.ref a) from ⟨a, rfl, rfl⟩) .nil, ⟨rfl, fun k o hk => ?_, fun k l b x y _ _ hk _ => ?_⟩, e, fun v H' r' v1 _ _ => v1⟩
  · cases k with
    | zero =>
      simp at hk
      subst hk
      exact ⟨a, rfl, _, frz_of hO hS, RVs.ofInts ns⟩
    | succ k => simp at hk
  · cases k with
    | zero => simp at hk
    | succ k => simp at hk
theorem walk_ev {F : List Ev.Fn} {wh n f : Nat} {l : PySem.W.OpenLaw} {q : Program} {loose : List Str} {XP : (Str → Option Value) → Heap → Prop} {YP : World → Heap → Prop} {d : DefRec} {K : Params → PySem.W.Frag} {x : Str} (hn : l.most = some 63) (hdf : d.params.defaults = []) (hr : Room n callerA)
    (hY : ∀ (w : World) (h : Heap), YP w h → (K w.params).In h) (good : ∀ ns : List Int, ns.length ≤ 63 → ∃ h', Ev.run F wh n f [.ref 0] [.frz (ns.map D.int)] = .ok (.bl true) h')
    (Fo : ∀ (w : World) (mg : Str → Option Value) (fa : Addr) (h : Heap), (K w.params).In h → h.Ns mainGlobals mg → mg d.name = some (.ref fa) →
      ∃ fd : FuncData, (∀ (s : Shared) (u : Value), BindsTo s fd ⟨[u], []⟩ [(x, u)]) ∧ ∀ base : Heap, (K w.params).In base → base.Ns mainGlobals mg → FnOk l.prog w (K w.params) mg base CX0 n fa fd [x] (spF (K w.params) F wh n f)) :
    PySem.W.WalkO q loose XP YP l.row.toRowW d [] (fun f vs => PySem.call f vs) :=
  L2.walk_ofK (n := 63) (k := n) (x := x) (CX := CX0) (sp := fun K => spF K F wh n f) hn (by decide) hdf hr hY Fo (fun K H a ns hl hO hS => by
    obtain ⟨h', e⟩ := good ns hl
    exact sp_of hO hS e) fun _ _ _ _ z => z
theorem all_ok {P : Program} {w : World} {K : PySem.W.Frag} {mg : Str → Option Value} {base : Heap} {G : Tb} (T : Top P w K mg G)
    (st : ∀ n, AllOk P w K mg base G n → AllOk P w K mg base G (n + 1)) : ∀ n, AllOk P w K mg base G n
  | 0 => fun f i _ => ok_zero
  | n + 1 => st n (all_ok T st n)
structure At (K : PySem.W.Frag) (x : Str) (st : Stmt) (i : FI) : Prop where
  name : i.name = x
  ns : PySem.W.nsIn K mainGlobals x = some (some (.ref i.addr))
  fu : Fun K x x st i.addr i.fd
  bd : Binds K i.fd i.ps []
end Sm
set_option Elab.async false
set_option linter.all false
namespace Pv
open Ev (D BOp COp TY BI ME T E Es Eo It S Ss Fn big deep b2i rep mulOk ixN atI sIx cut joinS sortS slots)
theorem nd {α : Type _} {a b : α} (h : a = b) : a = b := h
inductive V where
  | non | bl (b : Bool) | int (i : Int) | str (s : List Nat) | tup (l : List V) | lst (l : List V) | frz (l : List V)
inductive Sl where
  | val (v : V) | own (l : List V) | bor (l : List V) | ro (l : List V)
abbrev Fr := List (Option Sl)
inductive R (α : Type) where
  | ok (a : α) (fr : Fr)
  | bad
noncomputable def R.bind {α β : Type} (r : R α) (f : α → Fr → R β) : R β :=
  match r with
  | .ok a h => f a h
  | .bad => .bad
@[simp] theorem bind_ok {α β : Type} (a : α) (h : Fr) (f : α → Fr → R β) : (R.ok a h).bind f = f a h := nd rfl
@[simp] theorem bind_bad {α β : Type} (f : α → Fr → R β) : (R.bad : R α).bind f = .bad := nd rfl
theorem bind_eq_ok {α β : Type} {r : R α} {f : α → Fr → R β} {b : β} {h : Fr} (e : r.bind f = .ok b h) : ∃ a h1, r = .ok a h1 ∧ f a h1 = .ok b h := by
  cases r with
  | ok a h1 => exact ⟨a, h1, rfl, e⟩
  | bad => cases e
noncomputable def R.of {α : Type} (o : Option α) (h : Fr) : R α := match o with
  | some a => .ok a h
  | none => .bad
@[simp] theorem of_some {α : Type} (a : α) (h : Fr) : R.of (some a) h = .ok a h := nd rfl
@[simp] theorem of_none {α : Type} (h : Fr) : R.of (none : Option α) h = .bad := nd rfl
theorem of_eq_ok {α : Type} {o : Option α} {h h' : Fr} {a : α} (e : R.of o h = .ok a h') : o = some a ∧ h' = h := by
  cases o with
  | none => cases e
  | some b => cases e; exact ⟨rfl, rfl⟩
inductive Fl where
  | nx | bk | ct | ret (v : V)
mutual
noncomputable def ofD : D → Option V
  | .non => some .non
  | .bl b => some (.bl b)
  | .int i => some (.int i)
  | .str s => some (.str s)
  | .tup ds => (ofDs ds).map .tup
  | .ref _ => none
noncomputable def ofDs : List D → Option (List V)
  | [] => some []
  | d :: ds => (ofD d).bind fun v => (ofDs ds).map fun vs => v :: vs
end
noncomputable def eqL (f : V → V → Option Bool) : List V → List V → Option Bool
  | [], [] => some true
  | x :: xs, y :: ys => (f x y).bind fun b => (eqL f xs ys).bind fun c => some (b && c)
  | _, _ => some false
noncomputable def veq : Nat → V → V → Option Bool
  | 0, _, _ => none
  | _ + 1, .non, .non => some true
  | _ + 1, .bl a, .bl b => some (a == b)
  | _ + 1, .int a, .int b => some (a == b)
  | _ + 1, .bl a, .int b => some (b2i a == b)
  | _ + 1, .int a, .bl b => some (a == b2i b)
  | _ + 1, .str a, .str b => some (a == b)
  | n + 1, .tup a, .tup b => eqL (veq n) a b
  | n + 1, .lst a, .lst b => eqL (veq n) a b
  | n + 1, .frz a, .lst b => eqL (veq n) a b
  | n + 1, .lst a, .frz b => eqL (veq n) a b
  | _ + 1, .frz _, .frz _ => none
  | _ + 1, _, _ => some false
noncomputable def truthy : V → Bool
  | .non => false
  | .bl b => b
  | .int i => i != 0
  | .str s => !s.isEmpty
  | .tup ds => !ds.isEmpty
  | .lst ds => !ds.isEmpty
  | .frz ds => !ds.isEmpty
noncomputable def mkL (l : List V) : Option V := if l.length ≤ big then some (.lst l) else none
noncomputable def mkT (l : List V) : Option V := if l.length ≤ big then some (.tup l) else none
noncomputable def bop : BOp → V → V → Option V
  | .add, .int i, .int j => some (.int (i + j))
  | .add, .str a, .str b => if a.length + b.length ≤ big then some (.str (a ++ b)) else none
  | .add, .tup a, .tup b => if a.length + b.length ≤ big then some (.tup (a ++ b)) else none
  | .add, .lst a, .lst b => mkL (a ++ b)
  | .sub, .int i, .int j => some (.int (i - j))
  | .mul, .int i, .int j => if mulOk i j then some (.int (i * j)) else none
  | .mul, .str a, .int k => if 0 ≤ k ∧ k ≤ 1000 ∧ a.length ≤ 1000 then some (.str (rep k.toNat a)) else none
  | .mul, .tup a, .int k => if 0 ≤ k ∧ k ≤ 1000 ∧ a.length ≤ 1000 then some (.tup (rep k.toNat a)) else none
  | .mul, .lst a, .int k => if 0 ≤ k ∧ k ≤ 1000 ∧ a.length ≤ 1000 then mkL (rep k.toNat a) else none
  | .fdiv, .int i, .int j => if 0 < j ∧ j < 1073741824 then some (.int (i / j)) else none
  | .mod, .int i, .int j => if 0 < j then some (.int (i % j)) else none
  | _, _, _ => none
noncomputable def mem (x : V) : List V → Option Bool
  | [] => some false
  | y :: ys => (veq deep y x).bind fun b => (mem x ys).bind fun c => some (b || c)
noncomputable def isin (x y : V) : Option Bool := match y with
  | .str s => match x with
    | .str [c] => some (s.contains c)
    | _ => none
  | .tup ds => mem x ds
  | .lst ds => mem x ds
  | .frz ds => mem x ds
  | _ => none
noncomputable def cop (o : COp) (x y : V) : Option Bool := match o, x, y with
  | .eq, x, y => veq deep x y
  | .ne, x, y => (veq deep x y).map (!·)
  | .lt, .int i, .int j => some (decide (i < j))
  | .le, .int i, .int j => some (decide (i ≤ j))
  | .gt, .int i, .int j => some (decide (j < i))
  | .ge, .int i, .int j => some (decide (j ≤ i))
  | .isin, x, y => isin x y
  | .notin, x, y => (isin x y).map (!·)
  | .isn, x, .non => some (match x with | .non => true | _ => false)
  | .isnn, x, .non => some (match x with | .non => false | _ => true)
  | _, _, _ => none
noncomputable def ixd (x y : V) : Option V := match x, y with
  | .tup ds, .int i => atI ds i
  | .str s, .int i => (atI s i).map fun c => .str [c]
  | .lst ds, .int i => atI ds i
  | .frz ds, .int i => atI ds i
  | _, _ => none
noncomputable def sld (x : V) (lo hi : Option Int) : Option V := match x with
  | .tup ds => some (.tup (cut ds lo hi))
  | .str s => some (.str (cut s lo hi))
  | .lst ds => mkL (cut ds lo hi)
  | .frz ds => mkL (cut ds lo hi)
  | _ => none
noncomputable def toT : V → Option V
  | .tup l => some (.tup l)
  | .lst l => mkT l
  | .frz l => mkT l
  | _ => none
noncomputable def rvd : V → Option V
  | .tup ds => some (.tup ds.reverse)
  | .lst ds => mkL ds.reverse
  | .frz ds => mkL ds.reverse
  | _ => none
noncomputable def tyOf : V → TY → Bool
  | .bl _, .bool => true
  | .bl _, .int => true
  | .int _, .int => true
  | .str _, .str => true
  | .tup _, .tuple => true
  | .lst _, .list => true
  | .frz _, .list => true
  | _, _ => false
noncomputable def boolsOf : List V → Option (List Bool)
  | [] => some []
  | .bl b :: ds => (boolsOf ds).map fun r => b :: r
  | _ => none
noncomputable def intsOf : List V → Option (List Int)
  | [] => some []
  | .int i :: ds => (intsOf ds).map fun r => i :: r
  | _ => none
noncomputable def strsOf : List V → Option (List (List Nat))
  | [] => some []
  | .str s :: ds => (strsOf ds).map fun r => s :: r
  | _ => none
noncomputable def lOf : V → Option (List V)
  | .lst l => some l
  | .frz l => some l
  | _ => none
noncomputable def bfn (b : BI) (xs : List V) : Option V := match b, xs with
  | .len, [.str s] => if s.length ≤ big then some (.int s.length) else none
  | .len, [.tup ds] => some (.int ds.length)
  | .len, [x] => (lOf x).map fun ds => .int ds.length
  | .all, [x] => ((lOf x).bind boolsOf).map fun bs => .bl (bs.all id)
  | .any, [x] => ((lOf x).bind boolsOf).map fun bs => .bl (bs.any id)
  | .sum, [x] => ((lOf x).bind intsOf).map fun is => .int is.sum
  | .min, [.int i, .int j] => some (.int (if j < i then j else i))
  | .max, [.int i, .int j] => some (.int (if j > i then j else i))
  | .abs, [.int i] => some (.int (if i < 0 then -i else i))
  | .sorted, [x] => ((lOf x).bind strsOf).bind fun ss => if ss.length < 64 then mkL ((sortS ss).map .str) else none
  | _, _ => none
noncomputable def idx (x : V) : List V → Nat → Option Nat
  | [], _ => none
  | y :: ys, k => match veq deep y x with
    | some true => some k
    | some false => idx x ys (k + 1)
    | none => none
noncomputable def cnt (x : V) : List V → Option Nat
  | [] => some 0
  | y :: ys => (veq deep y x).bind fun b => (cnt x ys).bind fun k => some (if b then k + 1 else k)
noncomputable def mef (m : ME) (o : V) (xs : List V) : Option V := match m, o, xs with
  | .join, .str sep, [x] => ((lOf x).bind strsOf).bind fun ss => if (ss.map (·.length)).sum + ss.length * sep.length ≤ big then some (.str (joinS sep ss)) else none
  | .count, o, [x] => ((lOf o).bind (cnt x)).map fun (k : Nat) => .int k
  | .index, o, [x] => ((lOf o).bind fun ds => idx x ds 0).map fun (k : Nat) => .int k
  | _, _, _ => none
noncomputable def asI : V → Option Int
  | .int i => some i
  | _ => none
noncomputable def asL : V → Option (List V)
  | .lst l => some l
  | _ => none
noncomputable def setslF (l : List V) (x y z : V) : Option (V × List V) := (asL x).bind fun q => (asI y).bind fun a => (asI z).bind fun c =>
  if 0 ≤ a ∧ a ≤ c ∧ c ≤ l.length ∧ l.length + q.length ≤ big then some (.non, l.take a.toNat ++ q ++ l.drop c.toNat) else none
noncomputable def mtf (m : ME) (l : List V) (xs : List V) : Option (V × List V) := match m, xs with
  | .append, [x] => if l.length < big then some (.non, l ++ [x]) else none
  | .extend, [.lst es] => if l.length + es.length ≤ big then some (.non, l ++ es) else none
  | .pop, [] => match l[l.length - 1]? with
    | some x => some (x, l.dropLast)
    | none => none
  | .setsl, [x, y, z] => setslF l x y z
  | _, _ => none
noncomputable def exK : ME → Bool
  | .extend => true
  | _ => false
noncomputable def isMut : ME → Bool
  | .append => true
  | .extend => true
  | .pop => true
  | .setsl => true
  | _ => false
noncomputable def flatV : V → Bool
  | .non => true
  | .bl _ => true
  | .int _ => true
  | .str _ => true
  | _ => false
noncomputable def lookL (x : V) : List (D × D) → Option V
  | [] => none
  | (k, v) :: r => match (ofD k).bind fun k' => veq 1 k' x with
    | some true => ofD v
    | some false => lookL x r
    | none => none
noncomputable def lookD (x : V) (kvs : List (D × D)) : Option V := if flatV x then lookL x kvs else none
noncomputable def seqOf : V → Option (List V)
  | .tup ds => some ds
  | .str s => some (s.map fun c => .str [c])
  | .lst ds => some ds
  | .frz ds => some ds
  | _ => none
noncomputable def range (lo : Int) (n : Nat) : List V := (List.range n).map fun (i : Nat) => .int (lo + i)
noncomputable def rngOf : List V → Option (List V)
  | [.int j] => if -(2 ^ 62) ≤ j ∧ j < 2 ^ 62 then some (range 0 j.toNat) else none
  | [.int i, .int j] => if -(2 ^ 62) ≤ i ∧ i < 2 ^ 62 ∧ -(2 ^ 62) ≤ j ∧ j < 2 ^ 62 then some (range i (j - i).toNat) else none
  | _ => none
noncomputable def zipD (a b : List V) : List V := List.zipWith (fun x y => .tup [x, y]) a b
noncomputable def enumD : Int → List V → List V
  | _, [] => []
  | k, x :: xs => .tup [.int k, x] :: enumD (k + 1) xs
noncomputable def put (fr : Fr) (i : Nat) (s : Sl) : Option Fr := match fr[i]? with
  | some (some (.bor _)) => none
  | some (some (.ro _)) => none
  | _ => some (fr.set i (some s))
noncomputable def setAll : List Nat → List V → Fr → Option Fr
  | [], [], fr => some fr
  | i :: is, d :: ds, fr => (put fr i (.val d)).bind (setAll is ds)
  | _, _, _ => none
noncomputable def bindT : T → V → Fr → Option Fr
  | .one i, d, fr => put fr i (.val d)
  | .many l, .tup ds, fr => setAll l ds fr
  | _, _, _ => none
noncomputable def undef (t : T) (fr : Fr) : Bool := (slots t).all fun i => (fr[i]?.join).isNone
noncomputable def Sl.read : Sl → Sl
  | .own l => .ro l
  | .bor l => .ro l
  | s => s
noncomputable def roF (fr : Fr) : Fr := fr.map (Option.map Sl.read)
noncomputable def Sl.shut : Sl → Sl
  | .own l => .val (.lst l)
  | s => s
noncomputable def shutF (fr : Fr) : Fr := fr.map (Option.map Sl.shut)
noncomputable def Sl.walk : Sl → Sl
  | .own l => .val (.lst l)
  | .bor l => .ro l
  | s => s
noncomputable def walkF (is : List Nat) (fr : Fr) : Fr := is.foldl (fun fr i => match fr[i]? with
  | some (some s) => fr.set i (some s.walk)
  | _ => fr) fr
noncomputable def Sl.out : Sl → Option (List V)
  | .bor l => some l
  | .ro l => some l
  | _ => none
noncomputable def Sl.lend : Sl → Option Sl
  | .own l => some (.bor l)
  | .bor l => some (.bor l)
  | .ro l => some (.ro l)
  | .val _ => none
noncomputable def lent (fr : Fr) (i : Nat) : Option Sl := match fr[i]? with
  | some (some s) => s.lend
  | _ => none
noncomputable def Sl.with : Sl → List V → Sl
  | .own _, l => .own l
  | .bor _, l => .bor l
  | s, _ => s
noncomputable def back : List Nat → List (List V) → Fr → Option Fr
  | [], [], fr => some fr
  | i :: is, l :: ls, fr => match fr[i]? with
    | some (some s) => back is ls (fr.set i (some (s.with l)))
    | _ => none
  | _, _, _ => none
noncomputable def compL (f : V → Option (Option V)) : List V → Option (List V)
  | [] => some []
  | d :: ds => (f d).bind fun o => (compL f ds).bind fun r => some (o.toList ++ r)
noncomputable def forL (f : V → Fr → R Fl) : List V → Fr → R Fl
  | [], fr => .ok .nx fr
  | d :: ds, fr => (f d fr).bind fun p fr1 => match p with
      | .nx => forL f ds fr1
      | .ct => forL f ds fr1
      | .bk => .ok .nx fr1
      | .ret x => .ok (.ret x) fr1
noncomputable def whlL (t : Fr → R Bool) (f : Fr → R Fl) : Nat → Fr → R Fl
  | 0, _ => .bad
  | n + 1, fr => (t fr).bind fun b fr1 => if b then (f fr1).bind fun p fr2 => match p with
      | .nx => whlL t f n fr2
      | .ct => whlL t f n fr2
      | .bk => .ok .nx fr2
      | .ret x => .ok (.ret x) fr2
    else .ok .nx fr1
noncomputable def dvs : Es → List Nat
  | .nil => []
  | .cons (.v i) es => i :: dvs es
  | .cons _ es => dvs es
noncomputable def mvs (m : ME) : E → List Nat
  | .v i => if isMut m then [i] else []
  | _ => []
mutual
noncomputable def tch : E → List Nat
  | .c _ => [] | .v _ => [] | .tup es => tchs es | .lst es => tchs es
  | .bin _ a b => tch a ++ tch b | .cmp _ a b => tch a ++ tch b | .ch _ _ a b c => tch a ++ (tch b ++ tch c)
  | .nt a => tch a | .neg a => tch a | .an a b => tch a ++ tch b | .orr a b => tch a ++ tch b | .ife t a b => tch t ++ (tch a ++ tch b)
  | .ix a b => tch a ++ tch b | .sl a lo hi => tch a ++ (tcho lo ++ tcho hi) | .rv a => tch a
  | .cl _ es => tchs es ++ dvs es | .bi _ es => tchs es | .me m o es => tch o ++ (tchs es ++ mvs m o)
  | .isi a _ => tch a
  | .comp _ _ it _ => tchi it
  | .lof it => tchi it | .tof it => tchi it
  | .dget _ a => tch a
  | .ttp a => tch a
noncomputable def tchs : Es → List Nat
  | .nil => []
  | .cons e es => tch e ++ tchs es
noncomputable def tcho : Eo → List Nat
  | .no => []
  | .yes e => tch e
noncomputable def tchi : It → List Nat
  | .seq e => tch e | .rng es => tchs es | .zip a b => tch a ++ tch b | .enum a => tch a | .rev a => tch a
end
noncomputable def kf (a : E) (l : List Nat) : Bool := match a with
  | .v i => !l.contains i
  | _ => l.isEmpty
noncomputable def itv : It → List Nat
  | .seq (.v i) => [i]
  | .enum (.v i) => [i]
  | .rev (.v i) => [i]
  | .zip (.v i) (.v j) => [i, j]
  | .zip (.v i) _ => [i]
  | .zip _ (.v j) => [j]
  | _ => []
abbrev Phi := Nat → List Sl → Option (V × List (List V))
noncomputable def intOf : V → Option Int
  | .int i => some i
  | _ => none
noncomputable def getV (k : Bool) (fr : Fr) (i : Nat) : Option V := match fr[i]? with
  | some (some (.val v)) => some v
  | some (some (.own l)) => if k then some (.lst l) else none
  | some (some (.bor l)) => if k then some (.lst l) else none
  | some (some (.ro l)) => if k then some (.lst l) else none
  | _ => none
noncomputable def getS (k : Bool) (fr : Fr) (i : Nat) : Option V := match fr[i]? with
  | some (some (.ro l)) => some (.lst l)
  | _ => getV k fr i
noncomputable def src (k : Bool) (fr : Fr) (e : E) (r : R V) : R V := match e with
  | .v i => R.of (getS k fr i) fr
  | _ => r
noncomputable def isV (fr : Fr) : E → Option Nat
  | .v i => if (lent fr i).isSome then some i else none
  | _ => none
noncomputable def args (fr : Fr) : List (Nat ⊕ V) → Option (List Sl)
  | [] => some []
  | .inl i :: r => (lent fr i).bind fun s => (args fr r).map fun l => s :: l
  | .inr v :: r => (args fr r).map fun l => .val v :: l
noncomputable def lefts : List (Nat ⊕ V) → List Nat
  | [] => []
  | .inl i :: r => i :: lefts r
  | .inr _ :: r => lefts r
noncomputable def callF (P : Phi) (f : Nat) (as : List (Nat ⊕ V)) (fr : Fr) : R V :=
  if (lefts as).Nodup then match args fr as with
    | some sl => match P f sl with
      | some (v, outs) => R.of ((back (lefts as) outs fr).map fun fr1 => (v, fr1)) fr |>.bind fun p _ => .ok p.1 p.2
      | none => .bad
    | none => .bad
  else .bad
mutual
noncomputable def ev (P : Phi) : Bool → E → Fr → R V
  | _, .c d, fr => R.of (ofD d) fr
  | k, .v i, fr => R.of (getV k fr i) fr
  | _, .tup es, fr => (evs P false es fr).bind fun ds fr1 => R.of (mkT ds) fr1
  | _, .lst es, fr => (evs P false es fr).bind fun ds fr1 => R.of (mkL ds) fr1
  | _, .bin o a b, fr => (ev P (kf a (tch b)) a fr).bind fun x fr1 => (ev P true b fr1).bind fun y fr2 => R.of (bop o x y) fr2
  | _, .cmp o a b, fr => (ev P (kf a (tch b)) a fr).bind fun x fr1 => (ev P true b fr1).bind fun y fr2 => R.of ((cop o x y).map .bl) fr2
  | _, .ch o p a b c, fr => (ev P (kf a (tch b)) a fr).bind fun x fr1 => (ev P (kf b (tch c)) b fr1).bind fun y fr2 => (R.of (cop o x y) fr2).bind fun k fr3 =>
      if k then (ev P true c fr3).bind fun z fr4 => R.of ((cop p y z).map .bl) fr4 else .ok (.bl false) fr3
  | _, .nt a, fr => (ev P true a fr).bind fun x fr1 => match x with
      | .bl b => .ok (.bl (!b)) fr1
      | _ => .bad
  | _, .neg a, fr => (ev P true a fr).bind fun x fr1 => match x with
      | .int i => .ok (.int (-i)) fr1
      | _ => .bad
  | k, .an a b, fr => (ev P true a fr).bind fun x fr1 => match x with
      | .bl true => ev P k b fr1
      | .bl false => .ok (.bl false) fr1
      | _ => .bad
  | k, .orr a b, fr => (ev P true a fr).bind fun x fr1 => match x with
      | .bl true => .ok (.bl true) fr1
      | .bl false => ev P k b fr1
      | _ => .bad
  | k, .ife t a b, fr => (evT P t fr).bind fun c fr1 => if c then ev P k a fr1 else ev P k b fr1
  | _, .ix a b, fr => (ev P (kf a (tch b)) a fr).bind fun x fr1 => (ev P true b fr1).bind fun y fr2 => R.of (ixd x y) fr2
  | _, .sl a lo hi, fr => (ev P (kf a (tcho lo ++ tcho hi)) a fr).bind fun x fr1 => (evo P lo fr1).bind fun l fr2 => (evo P hi fr2).bind fun u fr3 => R.of (sld x l u) fr3
  | _, .rv a, fr => (ev P true a fr).bind fun x fr1 => R.of (rvd x) fr1
  | _, .cl f es, fr => (evA P es fr).bind fun as fr1 => callF P f as fr1
  | _, .bi b es, fr => (evs P true es fr).bind fun ds fr1 => R.of (bfn b ds) fr1
  | _, .me m o es, fr => if isMut m then match isV fr o with
      | some i => (evs P (exK m) es fr).bind fun ds fr1 => match fr1[i]? with
        | some (some (.own l)) => match mtf m l ds with
          | some (v, l') => .ok v (fr1.set i (some (.own l')))
          | none => .bad
        | some (some (.bor l)) => match mtf m l ds with
          | some (v, l') => .ok v (fr1.set i (some (.bor l')))
          | none => .bad
        | _ => .bad
      | none => .bad
    else (ev P (kf o (tchs es)) o fr).bind fun x fr1 => (evs P true es fr1).bind fun ds fr2 => R.of (mef m x ds) fr2
  | _, .isi a ts, fr => (ev P true a fr).bind fun x fr1 => .ok (.bl (ts.any (tyOf x))) fr1
  | _, .comp elt t it cond, fr => (evi P true it fr).bind fun s fr1 => if undef t fr1 then
      R.of ((compL (fun d => match bindT t d (roF fr1) with
        | none => none
        | some fr2 => match evc P cond fr2 with
          | .ok c _ => if c then (match ev P false elt fr2 with | .ok x _ => some (some x) | .bad => none) else some none
          | .bad => none) s).bind mkL) fr1 else .bad
  | _, .lof it, fr => (evi P true it fr).bind fun s fr1 => R.of (mkL s) fr1
  | _, .tof it, fr => (evi P true it fr).bind fun s fr1 => R.of (mkT s) fr1
  | _, .dget kvs a, fr => (ev P true a fr).bind fun x fr1 => R.of (lookD x kvs) fr1
  | _, .ttp a, fr => (ev P true a fr).bind fun x fr1 => R.of (toT x) fr1
termination_by _ e => (sizeOf e, 0)
noncomputable def evs (P : Phi) : Bool → Es → Fr → R (List V)
  | _, .nil, fr => .ok [] fr
  | k, .cons e es, fr => (ev P (k && kf e (tchs es)) e fr).bind fun d fr1 => (evs P k es fr1).bind fun ds fr2 => .ok (d :: ds) fr2
termination_by _ e => (sizeOf e, 0)
noncomputable def evA (P : Phi) : Es → Fr → R (List (Nat ⊕ V))
  | .nil, fr => .ok [] fr
  | .cons e es, fr => match isV fr e with
      | some i => (evA P es fr).bind fun r fr1 => .ok (.inl i :: r) fr1
      | none => (ev P false e fr).bind fun d fr1 => (evA P es fr1).bind fun r fr2 => .ok (.inr d :: r) fr2
termination_by e => (sizeOf e, 0)
noncomputable def evo (P : Phi) : Eo → Fr → R (Option Int)
  | .no, fr => .ok none fr
  | .yes e, fr => (ev P true e fr).bind fun d fr1 => R.of ((intOf d).map some) fr1
termination_by e => (sizeOf e, 0)
noncomputable def evc (P : Phi) : Eo → Fr → R Bool
  | .no, fr => .ok true fr
  | .yes e, fr => evT P e fr
termination_by e => (sizeOf e, 0)
noncomputable def evT (P : Phi) : E → Fr → R Bool
  | .an a b, fr => (evT P a fr).bind fun k fr1 => if k then evT P b fr1 else .ok false fr1
  | .orr a b, fr => (evT P a fr).bind fun k fr1 => if k then .ok true fr1 else evT P b fr1
  | .nt a, fr => (evT P a fr).bind fun k fr1 => .ok (!k) fr1
  | e, fr => (ev P true e fr).bind fun x fr1 => .ok (truthy x) fr1
termination_by e => (sizeOf e, 1)
noncomputable def evi (P : Phi) : Bool → It → Fr → R (List V)
  | k, .seq e, fr => (src k fr e (ev P k e fr)).bind fun x fr1 => R.of (seqOf x) fr1
  | _, .rng es, fr => (evs P true es fr).bind fun ds fr1 => R.of (rngOf ds) fr1
  | k, .zip a b, fr => (src (k && kf a (tch b)) fr a (ev P (k && kf a (tch b)) a fr)).bind fun x fr1 => (src k fr1 b (ev P k b fr1)).bind fun y fr2 => R.of ((lOf x).bind fun s => (lOf y).map fun t => zipD s t) fr2
  | k, .enum a, fr => (src k fr a (ev P k a fr)).bind fun x fr1 => R.of ((seqOf x).map fun s => enumD 0 s) fr1
  | k, .rev a, fr => (src k fr a (ev P k a fr)).bind fun x fr1 => R.of ((seqOf x).map fun s => s.reverse) fr1
termination_by _ e => (sizeOf e, 0)
end
noncomputable def isNew : E → Bool
  | .lst _ => true
  | .lof _ => true
  | _ => false
mutual
noncomputable def ex (P : Phi) (w : Nat) : S → Fr → R Fl
  | .set i e, fr => (ev P false e fr).bind fun x fr1 => if isNew e then (match x with
      | .lst l => (R.of (put fr1 i (.own l)) fr1).bind fun fr2 _ => .ok .nx fr2
      | _ => .bad)
    else (R.of (put fr1 i (.val x)) fr1).bind fun fr2 _ => .ok .nx fr2
  | .setT l e, fr => (ev P false e fr).bind fun x fr1 => (R.of (bindT (.many l) x fr1) fr1).bind fun fr2 _ => .ok .nx fr2
  | .setI _ _ _, _ => .bad
  | .setS _ _ _ _, _ => .bad
  | .exp e, fr => (ev P true e fr).bind fun _ fr1 => .ok .nx fr1
  | .ret e, fr => (ev P false e (shutF fr)).bind fun x fr1 => .ok (.ret x) fr1
  | .iff t a b, fr => (evT P t fr).bind fun k fr1 => if k then exs P w a fr1 else exs P w b fr1
  | .for t it b, fr => (evi P false it (walkF (itv it) fr)).bind fun s fr1 => forL (fun d fr2 => match bindT t d fr2 with
      | some fr3 => exs P w b fr3
      | none => .bad) s fr1
  | .whl t b, fr => whlL (fun fr2 => evT P t fr2) (fun fr2 => exs P w b fr2) w fr
  | .pass, fr => .ok .nx fr
  | .brk, fr => .ok .bk fr
  | .cnt, fr => .ok .ct fr
  | .nev, _ => .bad
noncomputable def exs (P : Phi) (w : Nat) : Ss → Fr → R Fl
  | .nil, fr => .ok .nx fr
  | .cons s ss, fr => (ex P w s fr).bind fun p fr1 => match p with
      | .nx => exs P w ss fr1
      | p => .ok p fr1
end
noncomputable def fr0 (fn : Fn) (ds : List Sl) : Fr := ds.map some ++ List.replicate (fn.ns - fn.np) none
noncomputable def outs (np : Nat) (fr : Fr) : List (List V) := (fr.take np).filterMap fun o => o.bind Sl.out
noncomputable def run (F : List Fn) (w : Nat) : Nat → Phi
  | 0, _, _ => none
  | n + 1, f, ds => match F[f]? with
    | some fn => if ds.length = fn.np then match exs (run F w n) w fn.body (fr0 fn ds) with
        | .ok (.ret v) fr => some (v, outs fn.np fr)
        | .ok .nx fr => some (.non, outs fn.np fr)
        | _ => none
      else none
    | none => none
end Pv
set_option Elab.async false
set_option linter.all false
namespace Pv
open Ev (D O Hh BOp COp TY BI ME T E Es Eo It S Ss Fn big deep b2i rep mulOk ixN atI sIx cut joinS sortS slots lstOf)
section
variable (h : Hh) (S : Nat → Prop)
mutual
noncomputable def Rep : V → D → Prop
  | .non, d => d = .non
  | .bl b, d => d = .bl b
  | .int i, d => d = .int i
  | .str s, d => d = .str s
  | .tup l, d => ∃ ds, d = .tup ds ∧ RepL l ds
  | .lst l, d => ∃ n ds, d = .ref n ∧ S n ∧ h[n]? = some (.lst ds) ∧ RepL l ds
  | .frz l, d => ∃ n ds, d = .ref n ∧ S n ∧ h[n]? = some (.frz ds) ∧ RepL l ds
noncomputable def RepL : List V → List D → Prop
  | [], ds => ds = []
  | v :: vs, ds => ∃ d es, ds = d :: es ∧ Rep v d ∧ RepL vs es
end
noncomputable def RepT : V → D → Prop
  | .lst l, d => ∃ n ds, d = .ref n ∧ h[n]? = some (.lst ds) ∧ RepL h S l ds
  | v, d => Rep h S v d
noncomputable def RepTL : List V → List D → Prop
  | [], ds => ds = []
  | v :: vs, ds => ∃ d es, ds = d :: es ∧ RepT h S v d ∧ RepTL vs es
end
abbrev U : Nat → Prop := fun _ => True
section
variable {h h' : Hh} {S S' : Nat → Prop}
mutual
theorem Rep.mono (f : ∀ m, S m → h'[m]? = h[m]?) (g : ∀ m, S m → S' m) : ∀ {v : V} {d : D}, Rep h S v d → Rep h' S' v d
  | .non, _, q => q
  | .bl _, _, q => q
  | .int _, _, q => q
  | .str _, _, q => q
  | .tup l, _, ⟨ds, a, b⟩ => ⟨ds, a, RepL.mono f g b⟩
  | .lst l, _, ⟨n, ds, a, b, c, e⟩ => ⟨n, ds, a, g n b, by rw [f n b]; exact c, RepL.mono f g e⟩
  | .frz l, _, ⟨n, ds, a, b, c, e⟩ => ⟨n, ds, a, g n b, by rw [f n b]; exact c, RepL.mono f g e⟩
theorem RepL.mono (f : ∀ m, S m → h'[m]? = h[m]?) (g : ∀ m, S m → S' m) : ∀ {v : List V} {d : List D}, RepL h S v d → RepL h' S' v d
  | [], _, q => q
  | _ :: _, _, ⟨d, es, a, b, c⟩ => ⟨d, es, a, Rep.mono f g b, RepL.mono f g c⟩
end
theorem RepL.nil : RepL h S [] [] := by simp [RepL]
theorem RepL.cons {v : V} {d : D} {vs : List V} {ds : List D} (a : Rep h S v d) (b : RepL h S vs ds) : RepL h S (v :: vs) (d :: ds) := by simp only [RepL]; exact ⟨d, ds, rfl, a, b⟩
theorem Rep.top {v : V} {d : D} (q : Rep h S v d) : RepT h S v d := by
  cases v <;> first | exact q | (obtain ⟨n, ds, a, b, c, e⟩ := q; exact ⟨n, ds, a, c, e⟩)
theorem RepT.u {v : V} {d : D} (q : RepT h S v d) : Rep h U v d := by
  cases v with
  | lst l => obtain ⟨n, ds, a, b, c⟩ := q; exact ⟨n, ds, a, trivial, b, c.mono (fun _ _ => rfl) fun _ _ => trivial⟩
  | _ => exact Rep.mono (S := S) (fun _ _ => rfl) (fun _ _ => trivial) q
theorem RepL.u {v : List V} {d : List D} (q : RepL h S v d) : RepL h U v d := q.mono (fun _ _ => rfl) fun _ _ => trivial
theorem RepT.mono {v : V} {d : D} (f : ∀ m, m < h.length → h'[m]? = h[m]?) (k : ∀ m, S m → m < h.length) (g : ∀ m, S m → S' m) (q : RepT h S v d) : RepT h' S' v d := by
  cases v with
  | lst l =>
    obtain ⟨n, ds, a, b, c⟩ := q
    exact ⟨n, ds, a, by rw [f n (List.getElem?_eq_some_iff.mp b).1]; exact b, c.mono (fun m z => f m (k m z)) g⟩
  | _ => exact Rep.mono (fun m z => f m (k m z)) g q
theorem RepL.length : ∀ {v : List V} {d : List D}, RepL h S v d → v.length = d.length
  | [], _, q => by simp only [RepL] at q; subst q; rfl
  | _ :: _, _, q => by simp only [RepL] at q; obtain ⟨d, es, rfl, _, c⟩ := q; simp [c.length]
theorem RepL.get : ∀ {v : List V} {d : List D} {i : Nat} {x : V}, RepL h S v d → v[i]? = some x → ∃ y, d[i]? = some y ∧ Rep h S x y
  | [], _, _, _, _, e => by simp at e
  | _ :: _, _, 0, _, q, e => by
    simp only [RepL] at q
    obtain ⟨d, es, rfl, b, _⟩ := q
    simp at e; subst e
    exact ⟨d, by simp, b⟩
  | _ :: _, _, i + 1, _, q, e => by
    simp only [RepL] at q
    obtain ⟨d, es, rfl, _, c⟩ := q
    obtain ⟨y, a, b⟩ := c.get (i := i) (by simpa using e)
    exact ⟨y, by simpa using a, b⟩
theorem RepL.append : ∀ {v w : List V} {d e : List D}, RepL h S v d → RepL h S w e → RepL h S (v ++ w) (d ++ e)
  | [], _, _, _, a, b => by simp only [RepL] at a; subst a; simpa using b
  | _ :: _, _, _, _, a, b => by
    simp only [RepL] at a
    obtain ⟨d, es, rfl, x, y⟩ := a
    exact .cons x (y.append b)
theorem RepL.take : ∀ {v : List V} {d : List D} (n : Nat), RepL h S v d → RepL h S (v.take n) (d.take n)
  | _, _, 0, _ => by simp [RepL]
  | [], _, _ + 1, a => by simp only [RepL] at a; subst a; simp [RepL]
  | _ :: _, _, n + 1, a => by
    simp only [RepL] at a
    obtain ⟨d, es, rfl, x, y⟩ := a
    simp only [List.take_succ_cons]
    exact .cons x (y.take n)
theorem RepL.drop : ∀ {v : List V} {d : List D} (n : Nat), RepL h S v d → RepL h S (v.drop n) (d.drop n)
  | _, _, 0, a => by simpa using a
  | [], _, _ + 1, a => by simp only [RepL] at a; subst a; simp [RepL]
  | _ :: _, _, n + 1, a => by
    simp only [RepL] at a
    obtain ⟨d, es, rfl, x, y⟩ := a
    simp only [List.drop_succ_cons]
    exact y.drop n
theorem RepL.dropLast : ∀ {v : List V} {d : List D}, RepL h S v d → RepL h S v.dropLast d.dropLast := fun {v d} a => by
  rw [List.dropLast_eq_take, List.dropLast_eq_take, a.length]; exact a.take _
theorem RepL.reverse : ∀ {v : List V} {d : List D}, RepL h S v d → RepL h S v.reverse d.reverse
  | [], _, a => by simp only [RepL] at a; subst a; simp [RepL]
  | _ :: _, _, a => by
    simp only [RepL] at a
    obtain ⟨d, es, rfl, x, y⟩ := a
    simp only [List.reverse_cons]
    exact y.reverse.append (.cons x .nil)
theorem RepL.rep {v : List V} {d : List D} (a : RepL h S v d) : ∀ k : Nat, RepL h S (Ev.rep k v) (Ev.rep k d)
  | 0 => by simp [Ev.rep, RepL]
  | k + 1 => by
    have z := RepL.rep a k
    simp only [Ev.rep, List.replicate_succ, List.flatten_cons] at z ⊢
    exact a.append z
theorem RepL.cut {v : List V} {d : List D} (a : RepL h S v d) (lo hi : Option Int) : RepL h S (Ev.cut v lo hi) (Ev.cut d lo hi) := by
  unfold Ev.cut
  rw [a.length]
  exact (a.drop _).take _
theorem RepL.map {α : Type} {f : α → V} {g : α → D} (q : ∀ a, Rep h S (f a) (g a)) : ∀ l : List α, RepL h S (l.map f) (l.map g)
  | [] => .nil
  | _ :: l => .cons (q _) (RepL.map q l)
mutual
theorem Rep.uniq : ∀ {v w : V} {d : D}, Rep h U v d → Rep h U w d → v = w
  | .non, w, _, a, b => by simp only [Rep] at a; subst a; cases w <;> simp [Rep] at b <;> rfl
  | .bl _, w, _, a, b => by simp only [Rep] at a; subst a; cases w <;> simp [Rep] at b <;> rw [b]
  | .int _, w, _, a, b => by simp only [Rep] at a; subst a; cases w <;> simp [Rep] at b <;> rw [b]
  | .str _, w, _, a, b => by simp only [Rep] at a; subst a; cases w <;> simp [Rep] at b <;> rw [b]
  | .tup l, w, _, a, b => by
    simp only [Rep] at a; obtain ⟨ds, rfl, a⟩ := a
    cases w <;> simp [Rep] at b
    rw [RepL.uniq a b]
  | .lst l, w, _, a, b => by
    simp only [Rep] at a; obtain ⟨n, ds, rfl, _, a1, a⟩ := a
    cases w <;> simp [Rep] at b
    · obtain ⟨ds', b1, b⟩ := b
      rw [a1] at b1; cases b1
      rw [RepL.uniq a b]
    · obtain ⟨ds', b1, b⟩ := b
      rw [a1] at b1; cases b1
  | .frz l, w, _, a, b => by
    simp only [Rep] at a; obtain ⟨n, ds, rfl, _, a1, a⟩ := a
    cases w <;> simp [Rep] at b
    · obtain ⟨ds', b1, b⟩ := b
      rw [a1] at b1; cases b1
    · obtain ⟨ds', b1, b⟩ := b
      rw [a1] at b1; cases b1
      rw [RepL.uniq a b]
theorem RepL.uniq : ∀ {v w : List V} {d : List D}, RepL h U v d → RepL h U w d → v = w
  | [], w, _, a, b => by simp only [RepL] at a; subst a; cases w <;> simp [RepL] at b; rfl
  | x :: xs, w, _, a, b => by
    simp only [RepL] at a; obtain ⟨d, es, rfl, a1, a2⟩ := a
    cases w <;> simp only [RepL] at b
    · cases b
    obtain ⟨d', es', e, b1, b2⟩ := b
    cases e
    rw [Rep.uniq a1 b1, RepL.uniq a2 b2]
end
theorem eqL_refl {n : Nat} (f : ∀ v b, veq n v v = some b → b = true) : ∀ l b, eqL (veq n) l l = some b → b = true
  | [], b, e => by simp [eqL] at e; exact e
  | x :: xs, b, e => by
    simp only [eqL, Option.bind_eq_some_iff] at e
    obtain ⟨c, e1, c2, e2, e⟩ := e
    rw [f x c e1, eqL_refl f xs c2 e2] at e
    simpa using e.symm
theorem veq_refl : ∀ n v b, veq n v v = some b → b = true
  | 0, _, _, e => by simp [veq] at e
  | n + 1, v, b, e => by
    cases v <;> simp [veq] at e <;> first | exact e | exact e.symm | exact eqL_refl (veq_refl n) _ _ e
theorem eqL_ok {n : Nat} (f : ∀ {v w : V} {d e : D} {b}, veq n v w = some b → Rep h U v d → Rep h U w e → Ev.deq h n d e = some b) : ∀ {l m : List V} {ds es : List D} {b}, eqL (veq n) l m = some b → RepL h U l ds → RepL h U m es → Ev.eqL (Ev.deq h n) ds es = some b
  | [], [], _, _, b, e, p, q => by simp only [RepL] at p q; subst p q; simpa [eqL, Ev.eqL] using e
  | [], _ :: _, _, _, b, e, p, q => by simp only [RepL] at p q; subst p; obtain ⟨_, _, rfl, _⟩ := q; simpa [eqL, Ev.eqL] using e
  | _ :: _, [], _, _, b, e, p, q => by simp only [RepL] at p q; subst q; obtain ⟨_, _, rfl, _⟩ := p; simpa [eqL, Ev.eqL] using e
  | x :: xs, y :: ys, _, _, b, e, p, q => by
    simp only [RepL] at p q
    obtain ⟨d, ds, rfl, p1, p2⟩ := p
    obtain ⟨d', ds', rfl, q1, q2⟩ := q
    simp only [eqL, Option.bind_eq_some_iff] at e
    obtain ⟨c, e1, c2, e2, e⟩ := e
    simp [Ev.eqL, f e1 p1 q1, eqL_ok f e2 p2 q2]
    simpa using e
theorem lo_l {n : Nat} {ds : List D} (q : h[n]? = some (.lst ds)) : lstOf h n = some ds := by simp [lstOf, q]
theorem lo_f {n : Nat} {ds : List D} (q : h[n]? = some (.frz ds)) : lstOf h n = some ds := by simp [lstOf, q]
theorem veq_ok : ∀ (n : Nat) {v w : V} {d e : D} {b}, veq n v w = some b → Rep h U v d → Rep h U w e → Ev.deq h n d e = some b
  | 0, _, _, _, _, _, e, _, _ => by simp [veq] at e
  | n + 1, v, w, d, e, b, x, p, q => by
    by_cases hr : ∃ m, d = .ref m ∧ e = .ref m
    · obtain ⟨m, rfl, rfl⟩ := hr
      have hvw := p.uniq q
      subst hvw
      have hb := veq_refl _ _ _ x
      subst hb
      cases v <;> simp [Rep] at p
      · obtain ⟨ds, p1, p2⟩ := p; simp [Ev.deq, lo_l p1]
      · obtain ⟨ds, p1, p2⟩ := p; simp [Ev.deq, lo_f p1]
    · cases v <;> cases w <;> simp only [Rep] at p q <;>
      first
      | (subst p; subst q; simpa [veq, Ev.deq] using x)
      | (obtain ⟨ds, rfl, p⟩ := p; subst q; simpa [veq, Ev.deq] using x)
      | (obtain ⟨ds, rfl, q⟩ := q; subst p; simpa [veq, Ev.deq] using x)
      | (obtain ⟨ds, rfl, p⟩ := p; obtain ⟨es, rfl, q⟩ := q; simp only [veq] at x; simp only [Ev.deq]; exact eqL_ok (fun a b c => veq_ok n a b c) x p q)
      | (obtain ⟨m, ds, rfl, _, p1, p⟩ := p; obtain ⟨k, es, rfl, _, q1, q⟩ := q; simp only [veq] at x;
         have hne : m ≠ k := fun z => hr ⟨m, rfl, by rw [z]⟩
         simp only [Ev.deq, hne, if_false, p1, q1]; exact eqL_ok (fun a b c => veq_ok n a b c) x p q)
      | (simp [veq] at x; done)
      | (obtain ⟨m, ds, rfl, _, p1, p⟩ := p; subst q; simpa [veq, Ev.deq, lo_l p1, lo_f p1] using x)
      | (obtain ⟨m, ds, rfl, _, p1, p⟩ := p; subst q; simpa [veq, Ev.deq, lo_f p1] using x)
      | (obtain ⟨m, ds, rfl, _, p1, p⟩ := p; subst q; simpa [veq, Ev.deq, lo_l p1] using x)
      | (obtain ⟨m, ds, rfl, _, p1, p⟩ := p; obtain ⟨es, rfl, q⟩ := q; simpa [veq, Ev.deq, lo_f p1] using x)
      | (obtain ⟨m, ds, rfl, _, p1, p⟩ := p; obtain ⟨es, rfl, q⟩ := q; simpa [veq, Ev.deq, lo_l p1] using x)
      | (obtain ⟨m, ds, rfl, _, q1, q⟩ := q; subst p; simpa [veq, Ev.deq, lo_f q1] using x)
      | (obtain ⟨m, ds, rfl, _, q1, q⟩ := q; subst p; simpa [veq, Ev.deq, lo_l q1] using x)
      | (obtain ⟨m, ds, rfl, _, q1, q⟩ := q; obtain ⟨es, rfl, p⟩ := p; simpa [veq, Ev.deq, lo_f q1] using x)
      | (obtain ⟨m, ds, rfl, _, q1, q⟩ := q; obtain ⟨es, rfl, p⟩ := p; simpa [veq, Ev.deq, lo_l q1] using x)
end
end Pv
set_option Elab.async false
set_option linter.all false
namespace Pv
open Ev (D O Hh BOp COp TY BI ME T E Es Eo It S Ss Fn big deep b2i rep mulOk ixN atI sIx cut joinS sortS slots lstOf)
structure Al (h : Hh) (S : Nat → Prop) (h' : Hh) (S' : Nat → Prop) : Prop where
  len : h.length ≤ h'.length
  keep : ∀ m, m < h.length → h'[m]? = h[m]?
  sub : ∀ m, S m → S' m
  new : ∀ m, S' m → S m ∨ (h.length ≤ m ∧ m < h'.length)
section
variable {h h' : Hh} {S S' : Nat → Prop}
theorem Al.refl : Al h S h S := ⟨Nat.le_refl _, fun _ _ => rfl, fun _ q => q, fun _ q => .inl q⟩
theorem Al.snoc (o : O) : Al h S (h ++ [o]) (fun m => S m ∨ m = h.length) where
  len := by simp
  keep := fun m q => by rw [List.getElem?_append_left q]
  sub := fun _ q => .inl q
  new := fun m q => by
    rcases q with q | q
    · exact .inl q
    · subst q; exact .inr ⟨Nat.le_refl _, by simp⟩
theorem mkL_ok {l : List V} {v : V} {ds : List D} (w : ∀ m, S m → m < h.length) (e : mkL l = some v) (q : RepL h S l ds) : ∃ r h' S', Ev.alloc ds h = .ok r h' ∧ Rep h' S' v r ∧ Al h S h' S' := by
  unfold mkL at e
  split at e
  · rename_i z
    cases e
    refine ⟨.ref h.length, h ++ [.lst ds], fun m => S m ∨ m = h.length, by unfold Ev.alloc; rw [if_pos (by rw [← q.length]; exact z)], ?_, Al.snoc _⟩
    simp only [Rep]
    refine ⟨h.length, ds, rfl, .inr rfl, by simp, q.mono (fun m z => ?_) fun _ z => .inl z⟩
    rw [List.getElem?_append_left (w m z)]
  · cases e
theorem lOf_ok {v : V} {l : List V} {d : D} (e : lOf v = some l) (q : RepT h S v d) : ∃ n ds, d = .ref n ∧ lstOf h n = some ds ∧ RepL h S l ds := by
  cases v <;> simp [lOf] at e
  · subst e; simp only [RepT] at q; obtain ⟨n, ds, rfl, a, b⟩ := q; exact ⟨n, ds, rfl, lo_l a, b⟩
  · subst e; simp only [RepT, Rep] at q; obtain ⟨n, ds, rfl, _, a, b⟩ := q; exact ⟨n, ds, rfl, lo_f a, b⟩
mutual
theorem ofD_ok : ∀ {d : D} {v : V}, ofD d = some v → Rep h S v d
  | .non, _, e => by simp [ofD] at e; subst e; simp [Rep]
  | .bl _, _, e => by simp [ofD] at e; subst e; simp [Rep]
  | .int _, _, e => by simp [ofD] at e; subst e; simp [Rep]
  | .str _, _, e => by simp [ofD] at e; subst e; simp [Rep]
  | .ref _, _, e => by simp [ofD] at e
  | .tup ds, _, e => by
    simp [ofD] at e
    obtain ⟨vs, e, rfl⟩ := e
    exact ⟨ds, rfl, ofDs_ok e⟩
theorem ofDs_ok : ∀ {d : List D} {v : List V}, ofDs d = some v → RepL h S v d
  | [], _, e => by simp [ofDs] at e; subst e; exact .nil
  | d :: ds, _, e => by
    simp only [ofDs, Option.bind_eq_some_iff, Option.map_eq_some_iff] at e
    obtain ⟨v, e1, vs, e2, rfl⟩ := e
    exact .cons (ofD_ok e1) (ofDs_ok e2)
end
theorem RepL.emp {l : List V} {ds : List D} (q : RepL h S l ds) : ds.isEmpty = l.isEmpty := by
  have := q.length
  cases l <;> cases ds <;> simp at this ⊢
theorem truthy_ok {v : V} {d : D} (q : RepT h S v d) : Ev.truthy h d = some (truthy v) := by
  cases v <;> simp only [RepT, Rep] at q
  · subst q; rfl
  · subst q; rfl
  · subst q; rfl
  · subst q; rfl
  · obtain ⟨ds, rfl, q⟩ := q; simp only [Ev.truthy, truthy, q.emp]
  · obtain ⟨n, ds, rfl, a, q⟩ := q; simp only [Ev.truthy, truthy, lo_l a, Option.map, q.emp]
  · obtain ⟨n, ds, rfl, _, a, q⟩ := q; simp only [Ev.truthy, truthy, lo_f a, Option.map, q.emp]
theorem bop_ok {o : BOp} {x y v : V} {d e : D} (w : ∀ m, S m → m < h.length) (z : bop o x y = some v) (p : RepT h S x d) (q : RepT h S y e) : ∃ r h' S', Ev.bop o d e h = .ok r h' ∧ Rep h' S' v r ∧ Al h S h' S' := by
  cases o <;> cases x <;> cases y <;> (delta bop at z; dsimp only at z) <;> (try simp only [reduceCtorEq] at z) <;> simp only [RepT, Rep] at p q
  · subst p q; cases z; exact ⟨_, _, S, rfl, rfl, .refl⟩
  · subst p q; split at z
    · rename_i k; cases z; exact ⟨_, _, S, by delta Ev.bop; dsimp only; rw [if_pos k], rfl, .refl⟩
    · cases z
  · obtain ⟨ds, rfl, p⟩ := p; obtain ⟨es, rfl, q⟩ := q; split at z
    · rename_i k; cases z; exact ⟨_, _, S, by delta Ev.bop; dsimp only; rw [if_pos (by rw [← p.length, ← q.length]; exact k)], ⟨_, rfl, p.append q⟩, .refl⟩
    · cases z
  · obtain ⟨n, ds, rfl, a, p⟩ := p; obtain ⟨m, es, rfl, b, q⟩ := q
    delta Ev.bop; dsimp only; simp only [a, b]
    exact mkL_ok w z (p.append q)
  · subst p q; cases z; exact ⟨_, _, S, rfl, rfl, .refl⟩
  · subst p q; split at z
    · rename_i k; cases z; exact ⟨_, _, S, by delta Ev.bop; dsimp only; rw [if_pos k], rfl, .refl⟩
    · cases z
  · subst p q; split at z
    · rename_i k; cases z; exact ⟨_, _, S, by delta Ev.bop; dsimp only; rw [if_pos k], rfl, .refl⟩
    · cases z
  · obtain ⟨ds, rfl, p⟩ := p; subst q; split at z
    · rename_i k; cases z; exact ⟨_, _, S, by delta Ev.bop; dsimp only; rw [if_pos (by rw [← p.length]; exact k)], ⟨_, rfl, p.rep _⟩, .refl⟩
    · cases z
  · obtain ⟨n, ds, rfl, a, p⟩ := p; subst q; split at z
    · rename_i k
      delta Ev.bop; dsimp only; simp only [a]
      rw [if_pos (by rw [← p.length]; exact k)]
      exact mkL_ok w z (p.rep _)
    · cases z
  · subst p q; split at z
    · rename_i k; cases z; exact ⟨_, _, S, by delta Ev.bop; dsimp only; rw [if_pos k], rfl, .refl⟩
    · cases z
  · subst p q; split at z
    · rename_i k; cases z; exact ⟨_, _, S, by delta Ev.bop; dsimp only; rw [if_pos k], rfl, .refl⟩
    · cases z
theorem mem_ok {x : V} {d : D} (p : Rep h U x d) : ∀ {l : List V} {ds : List D} {b}, mem x l = some b → RepL h U l ds → Ev.mem h d ds = some b
  | [], _, b, e, q => by simp only [RepL] at q; subst q; simpa [mem, Ev.mem] using e
  | y :: ys, _, b, e, q => by
    simp only [RepL] at q
    obtain ⟨d', ds, rfl, q1, q2⟩ := q
    simp only [mem, Option.bind_eq_some_iff] at e
    obtain ⟨c, e1, c2, e2, e⟩ := e
    simp [Ev.mem, veq_ok deep e1 q1 p, mem_ok p e2 q2]
    simpa using e
theorem isin_ok {x y : V} {d e : D} {b : Bool} (z : isin x y = some b) (p : Rep h U x d) (q : Rep h U y e) : Ev.isin d e h = some b := by
  cases y <;> simp only [isin, reduceCtorEq] at z <;> simp only [Rep] at q
  · subst q
    split at z
    · simp only [Rep] at p; subst p; simpa [Ev.isin] using z
    · cases z
  · obtain ⟨ds, rfl, q⟩ := q; simpa [Ev.isin] using mem_ok p z q
  · obtain ⟨n, ds, rfl, _, a, q⟩ := q; simpa [Ev.isin, lo_l a] using mem_ok p z q
  · obtain ⟨n, ds, rfl, _, a, q⟩ := q; simpa [Ev.isin, lo_f a] using mem_ok p z q
theorem cop_ok {o : COp} {x y : V} {d e : D} {b : Bool} (z : cop o x y = some b) (p : Rep h U x d) (q : Rep h U y e) : Ev.cop o d e h = some b := by
  cases o
  case eq => delta cop at z; dsimp only at z; delta Ev.cop; dsimp only; exact veq_ok deep z p q
  case ne =>
    delta cop at z; dsimp only at z; simp only [Option.map_eq_some_iff] at z; obtain ⟨c, z, rfl⟩ := z
    delta Ev.cop; dsimp only; simp only [veq_ok deep z p q]; rfl
  case isin => delta cop at z; dsimp only at z; delta Ev.cop; dsimp only; exact isin_ok z p q
  case notin =>
    delta cop at z; dsimp only at z; simp only [Option.map_eq_some_iff] at z; obtain ⟨c, z, rfl⟩ := z
    delta Ev.cop; dsimp only; simp only [isin_ok z p q]; rfl
  case isn =>
    cases y <;> (delta cop at z; dsimp only at z) <;> (try simp only [reduceCtorEq] at z)
    simp only [Rep] at q; subst q
    cases x <;> simp only [Rep] at p <;> (try obtain ⟨_, rfl, _⟩ := p) <;> (try obtain ⟨_, _, rfl, _⟩ := p) <;> (try subst p) <;> (delta Ev.cop; dsimp only; simpa using z)
  case isnn =>
    cases y <;> (delta cop at z; dsimp only at z) <;> (try simp only [reduceCtorEq] at z)
    simp only [Rep] at q; subst q
    cases x <;> simp only [Rep] at p <;> (try obtain ⟨_, rfl, _⟩ := p) <;> (try obtain ⟨_, _, rfl, _⟩ := p) <;> (try subst p) <;> (delta Ev.cop; dsimp only; simpa using z)
  all_goals (
    cases x <;> cases y <;> (delta cop at z; dsimp only at z) <;> (try simp only [reduceCtorEq] at z)
    simp only [Rep] at p q; subst p q; (delta Ev.cop; dsimp only; simpa using z))
theorem at_ok {l : List V} {ds : List D} {i : Int} {v : V} (e : atI l i = some v) (q : RepL h S l ds) : ∃ d, atI ds i = some d ∧ Rep h S v d := by
  unfold atI at e ⊢
  rw [q.length] at e
  cases z : ixN ds.length i with
  | none => rw [z] at e; cases e
  | some j => rw [z] at e; exact q.get e
theorem ixd_ok {x y v : V} {d e : D} (z : ixd x y = some v) (p : RepT h S x d) (q : RepT h S y e) : ∃ r, Ev.ixd d e h = some r ∧ Rep h S v r := by
  cases x <;> cases y <;> simp only [ixd, reduceCtorEq] at z <;> simp only [RepT, Rep] at p q
  · subst p q
    simp only [Option.map_eq_some_iff] at z
    obtain ⟨c, z, rfl⟩ := z
    exact ⟨.str [c], by simp [Ev.ixd, z], rfl⟩
  · obtain ⟨ds, rfl, p⟩ := p; subst q; simpa [Ev.ixd] using at_ok z p
  · obtain ⟨n, ds, rfl, a, p⟩ := p; subst q; simpa [Ev.ixd, lo_l a] using at_ok z p
  · obtain ⟨n, ds, rfl, _, a, p⟩ := p; subst q; simpa [Ev.ixd, lo_f a] using at_ok z p
theorem sld_ok {x v : V} {d : D} {lo hi : Option Int} (w : ∀ m, S m → m < h.length) (z : sld x lo hi = some v) (p : RepT h S x d) : ∃ r h' S', Ev.sld d lo hi h = .ok r h' ∧ Rep h' S' v r ∧ Al h S h' S' := by
  cases x <;> simp only [sld, reduceCtorEq] at z <;> simp only [RepT, Rep] at p
  · subst p; cases z; exact ⟨_, _, S, rfl, rfl, .refl⟩
  · obtain ⟨ds, rfl, p⟩ := p; cases z; exact ⟨_, _, S, rfl, ⟨_, rfl, p.cut _ _⟩, .refl⟩
  · obtain ⟨n, ds, rfl, a, p⟩ := p; simp only [Ev.sld, lo_l a]; exact mkL_ok w z (p.cut _ _)
  · obtain ⟨n, ds, rfl, _, a, p⟩ := p; simp only [Ev.sld, lo_f a]; exact mkL_ok w z (p.cut _ _)
theorem rvd_ok {x v : V} {d : D} (w : ∀ m, S m → m < h.length) (z : rvd x = some v) (p : RepT h S x d) : ∃ r h' S', Ev.rvd d h = .ok r h' ∧ Rep h' S' v r ∧ Al h S h' S' := by
  cases x <;> simp only [rvd, reduceCtorEq] at z <;> simp only [RepT, Rep] at p
  · obtain ⟨ds, rfl, p⟩ := p; cases z; exact ⟨_, _, S, rfl, ⟨_, rfl, p.reverse⟩, .refl⟩
  · obtain ⟨n, ds, rfl, a, p⟩ := p; simp only [Ev.rvd, lo_l a]; exact mkL_ok w z p.reverse
  · obtain ⟨n, ds, rfl, _, a, p⟩ := p; simp only [Ev.rvd, lo_f a]; exact mkL_ok w z p.reverse
theorem toT_ok {x v : V} {d : D} (z : toT x = some v) (p : RepT h S x d) : ∃ r, Ev.tofD d h = .ok r h ∧ Rep h S v r := by
  cases x <;> simp only [toT, reduceCtorEq] at z <;> simp only [RepT, Rep] at p
  · obtain ⟨ds, rfl, p⟩ := p; cases z; exact ⟨_, rfl, ⟨_, rfl, p⟩⟩
  · obtain ⟨n, ds, rfl, a, p⟩ := p
    unfold mkT at z
    split at z
    · rename_i k; cases z
      refine ⟨.tup ds, ?_, ⟨_, rfl, p⟩⟩
      simp only [Ev.tofD, lo_l a]; rw [if_pos (by rw [← p.length]; exact k)]
    · cases z
  · obtain ⟨n, ds, rfl, _, a, p⟩ := p
    unfold mkT at z
    split at z
    · rename_i k; cases z
      refine ⟨.tup ds, ?_, ⟨_, rfl, p⟩⟩
      simp only [Ev.tofD, lo_f a]; rw [if_pos (by rw [← p.length]; exact k)]
    · cases z
theorem lstS_ok {x : V} {l : List V} {d : D} (z : lOf x = some l) (p : RepT h S x d) : ∃ s, Ev.lstS h d = some s ∧ RepL h S l s.1 ∧ (∀ q ∈ s.2, d = .ref q.1 ∧ lstOf h q.1 = some q.2) := by
  obtain ⟨n, ds, rfl, a, q⟩ := lOf_ok z p
  exact ⟨(ds, [(n, ds)]), by simp [Ev.lstS, a], q, by simp [a]⟩
theorem tyOf_ok {x : V} {d : D} (p : RepT h S x d) (t : TY) : Ev.tyOf h d t = tyOf x t := by
  cases x <;> simp only [RepT, Rep] at p
  · subst p; cases t <;> rfl
  · subst p; cases t <;> rfl
  · subst p; cases t <;> rfl
  · subst p; cases t <;> rfl
  · obtain ⟨_, rfl, _⟩ := p; cases t <;> rfl
  · obtain ⟨n, ds, rfl, a, p⟩ := p; cases t <;> simp [Ev.tyOf, tyOf, lo_l a]
  · obtain ⟨n, ds, rfl, _, a, p⟩ := p; cases t <;> simp [Ev.tyOf, tyOf, lo_f a]
theorem bools_ok : ∀ {l : List V} {ds : List D} {bs}, boolsOf l = some bs → RepL h S l ds → Ev.boolsOf ds = some bs
  | [], _, _, e, q => by simp only [RepL] at q; subst q; exact e
  | x :: xs, _, bs, e, q => by
    cases x <;> simp only [boolsOf, reduceCtorEq, Option.map_eq_some_iff] at e
    obtain ⟨r, e, rfl⟩ := e
    simp only [RepL, Rep] at q
    obtain ⟨_, ds, rfl, rfl, q⟩ := q
    simp [Ev.boolsOf, bools_ok e q]
theorem ints_ok : ∀ {l : List V} {ds : List D} {bs}, intsOf l = some bs → RepL h S l ds → Ev.intsOf ds = some bs
  | [], _, _, e, q => by simp only [RepL] at q; subst q; exact e
  | x :: xs, _, bs, e, q => by
    cases x <;> simp only [intsOf, reduceCtorEq, Option.map_eq_some_iff] at e
    obtain ⟨r, e, rfl⟩ := e
    simp only [RepL, Rep] at q
    obtain ⟨_, ds, rfl, rfl, q⟩ := q
    simp [Ev.intsOf, ints_ok e q]
theorem strs_ok : ∀ {l : List V} {ds : List D} {bs}, strsOf l = some bs → RepL h S l ds → Ev.strsOf ds = some bs
  | [], _, _, e, q => by simp only [RepL] at q; subst q; exact e
  | x :: xs, _, bs, e, q => by
    cases x <;> simp only [strsOf, reduceCtorEq, Option.map_eq_some_iff] at e
    obtain ⟨r, e, rfl⟩ := e
    simp only [RepL, Rep] at q
    obtain ⟨_, ds, rfl, rfl, q⟩ := q
    simp [Ev.strsOf, strs_ok e q]
theorem RepTL.one {v : V} {ds : List D} (q : RepTL h S [v] ds) : ∃ d, ds = [d] ∧ RepT h S v d := by
  simp only [RepTL] at q
  obtain ⟨d, es, rfl, a, rfl⟩ := q
  exact ⟨d, rfl, a⟩
theorem bfn_ok {b : BI} {xs : List V} {v : V} {ds : List D} (w : ∀ m, S m → m < h.length) (z : bfn b xs = some v) (p : RepTL h S xs ds) : ∃ r h' S', Ev.bfn b ds h = .ok r h' ∧ Rep h' S' v r ∧ Al h S h' S' := by
  delta bfn at z
  rcases xs with _ | ⟨x, _ | ⟨y, _ | ⟨u, xs⟩⟩⟩
  · cases b <;> (dsimp only at z; cases z)
  · obtain ⟨d, rfl, p1⟩ := p.one
    cases b
    case len =>
      cases x
      case str s =>
        dsimp only at z; simp only [RepT, Rep] at p1; subst p1
        split at z
        · rename_i k; cases z; exact ⟨_, _, S, by delta Ev.bfn; dsimp only; rw [if_pos k], rfl, .refl⟩
        · cases z
      case tup l =>
        dsimp only at z; simp only [RepT, Rep] at p1; obtain ⟨es, rfl, p2⟩ := p1
        cases z; exact ⟨_, _, S, rfl, by simp [Rep, p2.length], .refl⟩
      all_goals
        dsimp only at z
        simp only [Option.map_eq_some_iff] at z; obtain ⟨l, z, rfl⟩ := z
        obtain ⟨n, es, rfl, a, q⟩ := lOf_ok z p1
        exact ⟨.int es.length, h, S, by delta Ev.bfn; dsimp only; simp [a], by simp [Rep, q.length], .refl⟩
    case all =>
      dsimp only at z
      simp only [Option.map_eq_some_iff, Option.bind_eq_some_iff] at z; obtain ⟨bs, ⟨l, z, z2⟩, rfl⟩ := z
      obtain ⟨n, es, rfl, a, q⟩ := lOf_ok z p1
      exact ⟨_, _, S, by delta Ev.bfn; dsimp only; simp only [a, Option.bind, bools_ok z2 q]; rfl, rfl, .refl⟩
    case any =>
      dsimp only at z
      simp only [Option.map_eq_some_iff, Option.bind_eq_some_iff] at z; obtain ⟨bs, ⟨l, z, z2⟩, rfl⟩ := z
      obtain ⟨n, es, rfl, a, q⟩ := lOf_ok z p1
      exact ⟨_, _, S, by delta Ev.bfn; dsimp only; simp only [a, Option.bind, bools_ok z2 q]; rfl, rfl, .refl⟩
    case sum =>
      dsimp only at z
      simp only [Option.map_eq_some_iff, Option.bind_eq_some_iff] at z; obtain ⟨bs, ⟨l, z, z2⟩, rfl⟩ := z
      obtain ⟨n, es, rfl, a, q⟩ := lOf_ok z p1
      exact ⟨_, _, S, by delta Ev.bfn; dsimp only; simp only [a, Option.bind, ints_ok z2 q]; rfl, rfl, .refl⟩
    case min => cases x <;> (dsimp only at z; cases z)
    case max => cases x <;> (dsimp only at z; cases z)
    case abs =>
      cases x
      case int i =>
        dsimp only at z; simp only [RepT, Rep] at p1; subst p1
        cases z; exact ⟨_, _, S, rfl, rfl, .refl⟩
      all_goals (dsimp only at z; cases z)
    case sorted =>
      dsimp only at z
      simp only [Option.bind_eq_some_iff] at z; obtain ⟨ss, ⟨l, z, z2⟩, z3⟩ := z
      obtain ⟨n, es, rfl, a, q⟩ := lOf_ok z p1
      split at z3
      · rename_i hl
        delta Ev.bfn; dsimp only; simp only [a, Option.bind, strs_ok z2 q]
        rw [if_pos hl]
        exact mkL_ok w z3 (RepL.map (f := V.str) (g := D.str) (fun s => by simp [Rep]) _)
      · cases z3
  · cases b
    case min =>
      cases x
      case int i =>
        cases y
        case int j =>
          dsimp only at z
          simp only [RepTL, RepT, Rep] at p; obtain ⟨_, _, rfl, rfl, _, _, rfl, rfl, rfl⟩ := p
          cases z; exact ⟨_, _, S, rfl, rfl, .refl⟩
        all_goals (dsimp only at z; cases z)
      all_goals (dsimp only at z; cases z)
    case max =>
      cases x
      case int i =>
        cases y
        case int j =>
          dsimp only at z
          simp only [RepTL, RepT, Rep] at p; obtain ⟨_, _, rfl, rfl, _, _, rfl, rfl, rfl⟩ := p
          cases z; exact ⟨_, _, S, rfl, rfl, .refl⟩
        all_goals (dsimp only at z; cases z)
      all_goals (dsimp only at z; cases z)
    case len => cases x <;> (dsimp only at z; cases z)
    case abs => cases x <;> (dsimp only at z; cases z)
    all_goals (dsimp only at z; cases z)
  · cases b
    case min => cases x <;> (try cases y) <;> (dsimp only at z; cases z)
    case max => cases x <;> (try cases y) <;> (dsimp only at z; cases z)
    case len => cases x <;> (dsimp only at z; cases z)
    case abs => cases x <;> (dsimp only at z; cases z)
    all_goals (dsimp only at z; cases z)
theorem cnt_ok {x : V} {d : D} (p : Rep h U x d) : ∀ {l : List V} {ds : List D} {b}, cnt x l = some b → RepL h U l ds → Ev.cnt h d ds = some b
  | [], _, b, e, q => by simp only [RepL] at q; subst q; simpa [cnt, Ev.cnt] using e
  | y :: ys, _, b, e, q => by
    simp only [RepL] at q
    obtain ⟨d', ds, rfl, q1, q2⟩ := q
    simp only [cnt, Option.bind_eq_some_iff] at e
    obtain ⟨c, e1, c2, e2, e⟩ := e
    simp [Ev.cnt, veq_ok deep e1 q1 p, cnt_ok p e2 q2]
    simpa using e
theorem idx_ok {x : V} {d : D} (p : Rep h U x d) : ∀ {l : List V} {ds : List D} {k b}, idx x l k = some b → RepL h U l ds → Ev.idx h d ds k = some b
  | [], _, k, b, e, q => by simp [idx] at e
  | y :: ys, _, k, b, e, q => by
    simp only [RepL] at q
    obtain ⟨d', ds, rfl, q1, q2⟩ := q
    simp only [idx] at e
    cases z : veq deep y x with
    | none => rw [z] at e; cases e
    | some c =>
      rw [z] at e
      simp only [Ev.idx, veq_ok deep z q1 p]
      cases c with
      | true => exact e
      | false => exact idx_ok p e q2
theorem mef_ok {m : ME} {o : V} {xs : List V} {v : V} {d : D} {ds : List D} (z : mef m o xs = some v) (hm : isMut m = false) (po : RepT h S o d) (p : RepTL h S xs ds) : Ev.rcv m d h = true ∧ ∃ r, Ev.mef m d ds h = .ok r h ∧ Rep h S v r := by
  unfold mef at z
  split at z
  · obtain ⟨d, rfl, p1⟩ := p.one; simp only [RepT, Rep] at po; subst po
    simp only [Option.bind_eq_some_iff] at z; obtain ⟨ss, ⟨l, z, z2⟩, z3⟩ := z
    obtain ⟨n, es, rfl, a, q⟩ := lOf_ok z p1
    split at z3
    · rename_i k; cases z3
      refine ⟨rfl, _, ?_, rfl⟩
      delta Ev.mef; dsimp only; simp only [a, Option.bind, strs_ok z2 q]
      rw [if_pos k]
    · cases z3
  · obtain ⟨d', rfl, p1⟩ := p.one
    simp only [Option.map_eq_some_iff, Option.bind_eq_some_iff] at z; obtain ⟨k, ⟨l, z, z2⟩, rfl⟩ := z
    obtain ⟨n, es, rfl, a, q⟩ := lOf_ok z po
    refine ⟨by simp [Ev.rcv, a], _, ?_, rfl⟩
    delta Ev.mef; dsimp only; simp only [a, Option.bind, cnt_ok p1.u z2 q.u]; rfl
  · obtain ⟨d', rfl, p1⟩ := p.one
    simp only [Option.map_eq_some_iff, Option.bind_eq_some_iff] at z; obtain ⟨k, ⟨l, z, z2⟩, rfl⟩ := z
    obtain ⟨n, es, rfl, a, q⟩ := lOf_ok z po
    refine ⟨by simp [Ev.rcv, a], _, ?_, rfl⟩
    delta Ev.mef; dsimp only; simp only [a, Option.bind, idx_ok p1.u z2 q.u]; rfl
  · cases z
theorem flat_ok {x : V} {d : D} (f : flatV x = true) (p : Rep h U x d) : Rep [] U x d := by
  cases x <;> simp only [flatV, Bool.false_eq_true] at f <;> exact p
theorem lookD_ok {x : V} {d : D} (p : Rep h U x d) : ∀ {kvs : List (D × D)} {v : V}, lookD x kvs = some v → ∃ r, Ev.lookD d kvs = some r ∧ Rep h S v r := by
  intro kvs v z
  unfold lookD at z
  split at z
  · rename_i f
    have p' := flat_ok f p
    induction kvs with
    | nil => cases z
    | cons kv r ih =>
      obtain ⟨k, u⟩ := kv
      simp only [lookL] at z
      simp only [Ev.lookD]
      split at z
      · rename_i y
        simp only [Option.bind_eq_some_iff] at y
        obtain ⟨k', y1, y2⟩ := y
        rw [veq_ok 1 y2 (ofD_ok y1) p']
        exact ⟨u, rfl, ofD_ok z⟩
      · rename_i y
        simp only [Option.bind_eq_some_iff] at y
        obtain ⟨k', y1, y2⟩ := y
        rw [veq_ok 1 y2 (ofD_ok y1) p']
        exact ih z
      · cases z
  · cases z
theorem seqOf_ok {x : V} {l : List V} {d : D} (z : seqOf x = some l) (p : RepT h S x d) : ∃ s, Ev.seqOf h d = some s ∧ RepL h S l s.1 ∧ (∀ q ∈ s.2, d = .ref q.1 ∧ lstOf h q.1 = some q.2) := by
  cases x <;> simp only [seqOf, reduceCtorEq] at z <;> simp only [RepT, Rep] at p
  · subst p; cases z; exact ⟨_, rfl, RepL.map (f := fun c => V.str [c]) (g := fun c => D.str [c]) (fun _ => by simp [Rep]) _, by simp⟩
  · obtain ⟨ds, rfl, p⟩ := p; cases z; exact ⟨_, rfl, p, by simp⟩
  · obtain ⟨n, ds, rfl, a, p⟩ := p; cases z; exact ⟨(ds, [(n, ds)]), by simp [Ev.seqOf, lo_l a], p, by simp [lo_l a]⟩
  · obtain ⟨n, ds, rfl, _, a, p⟩ := p; cases z; exact ⟨(ds, [(n, ds)]), by simp [Ev.seqOf, lo_f a], p, by simp [lo_f a]⟩
theorem range_ok (lo : Int) (n : Nat) : RepL h S (range lo n) (Ev.range lo n) := RepL.map (f := fun (i : Nat) => V.int (lo + i)) (g := fun (i : Nat) => D.int (lo + i)) (fun _ => by simp [Rep]) _
theorem rng_ok {xs l : List V} {ds : List D} (z : rngOf xs = some l) (p : RepTL h S xs ds) : ∃ s, Ev.rngOf ds = some (s, []) ∧ RepL h S l s := by
  unfold rngOf at z
  split at z
  · obtain ⟨d, rfl, p1⟩ := p.one; simp only [RepT, Rep] at p1; subst p1
    split at z
    · rename_i k; cases z; exact ⟨_, by simp only [Ev.rngOf]; rw [if_pos k], range_ok _ _⟩
    · cases z
  · simp only [RepTL, RepT, Rep] at p; obtain ⟨_, _, rfl, rfl, _, _, rfl, rfl, rfl⟩ := p
    split at z
    · rename_i k; cases z; exact ⟨_, by simp only [Ev.rngOf]; rw [if_pos k], range_ok _ _⟩
    · cases z
  · cases z
theorem zip_ok : ∀ {a b : List V} {ds es : List D}, RepL h S a ds → RepL h S b es → RepL h S (zipD a b) (Ev.zipD ds es)
  | [], _, _, _, p, q => by simp only [RepL] at p; subst p; simp [zipD, Ev.zipD, RepL]
  | _ :: _, [], _, _, p, q => by simp only [RepL] at q; subst q; simp [zipD, Ev.zipD, RepL]
  | x :: xs, y :: ys, _, _, p, q => by
    simp only [RepL] at p q
    obtain ⟨d, ds, rfl, p1, p2⟩ := p
    obtain ⟨e, es, rfl, q1, q2⟩ := q
    have := zip_ok p2 q2
    simp only [zipD, Ev.zipD, List.zipWith_cons_cons] at this ⊢
    exact .cons ⟨_, rfl, .cons p1 (.cons q1 .nil)⟩ this
theorem enum_ok : ∀ {a : List V} {ds : List D} (k : Int), RepL h S a ds → RepL h S (enumD k a) (Ev.enumD k ds)
  | [], _, _, p => by simp only [RepL] at p; subst p; simp [enumD, Ev.enumD, RepL]
  | x :: xs, _, k, p => by
    simp only [RepL] at p
    obtain ⟨d, ds, rfl, p1, p2⟩ := p
    simp only [enumD, Ev.enumD]
    exact .cons ⟨_, rfl, .cons rfl (.cons p1 .nil)⟩ (enum_ok _ p2)
end
end Pv
set_option Elab.async false
set_option linter.all false
namespace Pv
open Ev (D O Hh BOp COp TY BI ME T E Es Eo It S Ss Fn big deep b2i rep mulOk ixN atI sIx cut joinS sortS slots lstOf)
noncomputable def SlR (M B : Nat → Prop) (h : Hh) (S : Nat → Prop) : Option Sl → Option D → Prop
  | none, p => p = none
  | some (.val v), p => ∃ d, p = some d ∧ Rep h S v d
  | some (.own l), p => ∃ m ds, p = some (.ref m) ∧ (M m ∧ ¬ B m) ∧ h[m]? = some (.lst ds) ∧ RepL h S l ds
  | some (.bor l), p => ∃ m ds, p = some (.ref m) ∧ (M m ∧ B m) ∧ h[m]? = some (.lst ds) ∧ RepL h S l ds
  | some (.ro l), p => ∃ m ds, p = some (.ref m) ∧ ¬ M m ∧ h[m]? = some (.lst ds) ∧ RepL h S l ds
noncomputable def isM : Option Sl → Bool
  | some (.own _) => true
  | some (.bor _) => true
  | _ => false
noncomputable def lkS : Option Sl → Bool
  | some (.bor _) => true
  | some (.ro _) => true
  | _ => false
noncomputable def locked (fr : Fr) (i : Nat) : Bool := match fr[i]? with
  | some o => lkS o
  | none => false
structure FrR (M B : Nat → Prop) (h : Hh) (S : Nat → Prop) (fr : Fr) (fr' : Ev.Fr) : Prop where
  wS : ∀ m, S m → m < h.length ∧ ¬ M m ∧ ¬ B m
  wM : ∀ m, M m → m < h.length
  wB : ∀ m, B m → m < h.length
  len : fr.length = fr'.length
  sl : ∀ (i : Nat) o p, fr[i]? = some o → fr'[i]? = some p → SlR M B h S o p
  inj : ∀ (i j : Nat) o o' m, fr[i]? = some o → fr[j]? = some o' → isM o = true → isM o' = true → fr'[i]? = some (some (.ref m)) → fr'[j]? = some (some (.ref m)) → i = j
structure Tk (X : Nat → Prop) (h : Hh) (S : Nat → Prop) (h' : Hh) (S' : Nat → Prop) : Prop where
  len : h.length ≤ h'.length
  keep : ∀ m, m < h.length → ¬ X m → h'[m]? = h[m]?
  sub : ∀ m, S m → S' m
  new : ∀ m, S' m → S m ∨ (h.length ≤ m ∧ m < h'.length)
noncomputable def Xs (M : Nat → Prop) (fr' : Ev.Fr) (l : List Nat) : Nat → Prop := fun m => M m ∧ ∃ i ∈ l, fr'[i]? = some (some (.ref m))
structure Out (M B : Nat → Prop) (c : List Nat) (h : Hh) (S : Nat → Prop) (fr : Fr) (fr' : Ev.Fr) (h' : Hh) (S' : Nat → Prop) (fr1 : Fr) : Prop where
  f : FrR M B h' S' fr1 fr'
  tr : Tk (Xs M fr' c) h S h' S'
  lk : ∀ i, locked fr1 i = locked fr i
section
variable {M B M' : Nat → Prop} {h h' h1 h2 : Hh} {S S' S1 S2 : Nat → Prop} {fr fr1 fr2 : Fr} {fr' : Ev.Fr} {c c1 c2 : List Nat} {v : V} {d : D} {X X1 X2 : Nat → Prop}
theorem FrR.get (f : FrR M B h S fr fr') {i : Nat} {o : Option Sl} (e : fr[i]? = some o) : ∃ p, fr'[i]? = some p ∧ SlR M B h S o p := by
  have h1 := (List.getElem?_eq_some_iff.mp e).1
  rw [f.len] at h1
  exact ⟨fr'[i], List.getElem?_eq_getElem h1, f.sl i o _ e (List.getElem?_eq_getElem h1)⟩
theorem FrR.w (f : FrR M B h S fr fr') : ∀ m, S m → m < h.length := fun m q => (f.wS m q).1
theorem Al.tr (a : Al h S h' S') : Tk X h S h' S' := ⟨a.len, fun m q _ => a.keep m q, a.sub, a.new⟩
theorem Tk.al (t : Tk X h S h' S') (z : ∀ m, ¬ X m) : Al h S h' S' := ⟨t.len, fun m q => t.keep m q (z m), t.sub, t.new⟩
theorem Tk.weak (t : Tk X h S h' S') (q : ∀ m, X m → X1 m) : Tk X1 h S h' S' := ⟨t.len, fun m k z => t.keep m k fun y => z (q m y), t.sub, t.new⟩
theorem Tk.trans (a : Tk X1 h S h1 S1) (b : Tk X2 h1 S1 h2 S2) : Tk (fun m => X1 m ∨ X2 m) h S h2 S2 where
  len := Nat.le_trans a.len b.len
  keep := fun m q z => by rw [b.keep m (Nat.lt_of_lt_of_le q a.len) (fun y => z (.inr y)), a.keep m q (fun y => z (.inl y))]
  sub := fun m q => b.sub m (a.sub m q)
  new := fun m q => by
    rcases b.new m q with q | ⟨q1, q2⟩
    · rcases a.new m q with q | ⟨q1, q2⟩
      · exact .inl q
      · exact .inr ⟨q1, Nat.lt_of_lt_of_le q2 b.len⟩
    · exact .inr ⟨Nat.le_trans a.len q1, q2⟩
theorem Al.trans (a : Al h S h1 S1) (b : Al h1 S1 h2 S2) : Al h S h2 S2 := ((a.tr (X := fun _ => False)).trans (b.tr (X := fun _ => False))).al fun m z => by simp at z
theorem Tk.refl : Tk X h S h S := ⟨Nat.le_refl _, fun _ _ _ => rfl, fun _ q => q, fun _ q => .inl q⟩
theorem Xs.app {l1 l2 : List Nat} {m : Nat} : Xs M fr' (l1 ++ l2) m ↔ Xs M fr' l1 m ∨ Xs M fr' l2 m := by
  unfold Xs
  constructor
  · rintro ⟨a, i, hi, e⟩
    rcases List.mem_append.mp hi with hi | hi
    · exact .inl ⟨a, i, hi, e⟩
    · exact .inr ⟨a, i, hi, e⟩
  · rintro (⟨a, i, hi, e⟩ | ⟨a, i, hi, e⟩)
    · exact ⟨a, i, List.mem_append.mpr (.inl hi), e⟩
    · exact ⟨a, i, List.mem_append.mpr (.inr hi), e⟩
theorem Xs.nil {m : Nat} : ¬ Xs M fr' [] m := by rintro ⟨_, i, hi, _⟩; simp at hi
theorem Xs.mono {l1 l2 : List Nat} (q : ∀ i ∈ l1, i ∈ l2) {m : Nat} : Xs M fr' l1 m → Xs M fr' l2 m := fun ⟨a, i, hi, e⟩ => ⟨a, i, q i hi, e⟩
theorem Rep.tr (q : Rep h S v d) (f : FrR M B h S fr fr') (t : Tk (Xs M fr' c) h S h' S') : Rep h' S' v d := q.mono (fun m z => t.keep m (f.wS m z).1 (fun y => (f.wS m z).2.1 y.1)) t.sub
theorem RepL.tr {l : List V} {ds : List D} (q : RepL h S l ds) (f : FrR M B h S fr fr') (t : Tk (Xs M fr' c) h S h' S') : RepL h' S' l ds := q.mono (fun m z => t.keep m (f.wS m z).1 (fun y => (f.wS m z).2.1 y.1)) t.sub
theorem RepT.tr (q : RepT h S v d) (f : FrR M B h S fr fr') (t : Tk X h S h' S') (z : ∀ m, ¬ X m) : RepT h' S' v d := q.mono (fun m k => t.keep m k (z m)) f.w t.sub
theorem SlR.al {o : Option Sl} {p : Option D} (q : SlR M B h S o p) (w : ∀ m, S m → m < h.length) (a : Al h S h' S') : SlR M B h' S' o p := by
  have k : ∀ m, S m → h'[m]? = h[m]? := fun m z => a.keep m (w m z)
  have g : ∀ (m : Nat) (ds : List D), h[m]? = some (O.lst ds) → h'[m]? = some (O.lst ds) := fun m ds z => by rw [a.keep m (List.getElem?_eq_some_iff.mp z).1]; exact z
  rcases o with _ | s
  · exact q
  · cases s with
    | val v => obtain ⟨d, e, q⟩ := q; exact ⟨d, e, q.mono k a.sub⟩
    | own l => obtain ⟨m, ds, e, z, y, q⟩ := q; exact ⟨m, ds, e, z, g m ds y, q.mono k a.sub⟩
    | bor l => obtain ⟨m, ds, e, z, y, q⟩ := q; exact ⟨m, ds, e, z, g m ds y, q.mono k a.sub⟩
    | ro l => obtain ⟨m, ds, e, z, y, q⟩ := q; exact ⟨m, ds, e, z, g m ds y, q.mono k a.sub⟩
theorem FrR.al (f : FrR M B h S fr fr') (a : Al h S h' S') : FrR M B h' S' fr fr' where
  wS := fun m q => by
    rcases a.new m q with q | ⟨q1, q2⟩
    · exact ⟨Nat.lt_of_lt_of_le (f.wS m q).1 a.len, (f.wS m q).2⟩
    · exact ⟨q2, fun z => by have := f.wM m z; omega, fun z => by have := f.wB m z; omega⟩
  wM := fun m q => Nat.lt_of_lt_of_le (f.wM m q) a.len
  wB := fun m q => Nat.lt_of_lt_of_le (f.wB m q) a.len
  len := f.len
  sl := fun i o p e1 e2 => (f.sl i o p e1 e2).al f.w a
  inj := f.inj
theorem Out.refl (f : FrR M B h S fr fr') : Out M B c h S fr fr' h S fr := ⟨f, .refl, fun _ => rfl⟩
theorem Out.trans (a : Out M B c1 h S fr fr' h1 S1 fr1) (b : Out M B c2 h1 S1 fr1 fr' h2 S2 fr2) : Out M B (c1 ++ c2) h S fr fr' h2 S2 fr2 := ⟨b.f, (a.tr.trans b.tr).weak fun m z => Xs.app.mpr z, fun i => (b.lk i).trans (a.lk i)⟩
theorem Out.al (a : Out M B c h S fr fr' h1 S1 fr1) (b : Al h1 S1 h2 S2) : Out M B c h S fr fr' h2 S2 fr1 := ⟨a.f.al b, (a.tr.trans (b.tr (X := fun _ => False))).weak (fun m z => by rcases z with z | z; exact z; exact z.elim), a.lk⟩
theorem Out.weak (a : Out M B c h S fr fr' h1 S1 fr1) (q : ∀ i ∈ c, i ∈ c1) : Out M B c1 h S fr fr' h1 S1 fr1 := ⟨a.f, a.tr.weak fun m z => Xs.mono q z, a.lk⟩
noncomputable def RepK (k : Bool) (h : Hh) (S : Nat → Prop) (v : V) (d : D) : Prop := if k = true then RepT h S v d else Rep h S v d
theorem RepK.of {k : Bool} (q : Rep h S v d) : RepK k h S v d := by unfold RepK; split; exact q.top; exact q
theorem RepK.t {k : Bool} (q : RepK k h S v d) : RepT h S v d := by unfold RepK at q; split at q; exact q; exact q.top
theorem RepK.n (q : RepK false h S v d) : Rep h S v d := by simpa [RepK] using q
theorem FrR.slot (f : FrR M B h S fr fr') {i m : Nat} (e : fr'[i]? = some (some (.ref m))) (hm : M m) : ∃ o, fr[i]? = some o ∧ isM o = true := by
  have hl : i < fr.length := by rw [f.len]; exact (List.getElem?_eq_some_iff.mp e).1
  refine ⟨fr[i], List.getElem?_eq_getElem hl, ?_⟩
  have s := f.sl i _ _ (List.getElem?_eq_getElem hl) e
  revert s
  generalize fr[i] = o
  intro s
  rcases o with _ | s'
  · cases s
  · cases s' with
    | own l => rfl
    | bor l => rfl
    | ro l => obtain ⟨m', ds, e, y, _⟩ := s; cases e; exact absurd hm y
    | val v =>
      obtain ⟨d, e, q⟩ := s
      cases e
      exfalso
      cases v <;> simp only [Rep, reduceCtorEq] at q
      · obtain ⟨_, e, _⟩ := q; cases e
      · obtain ⟨n, ds, e, sn, _⟩ := q; cases e; exact (f.wS _ sn).2.1 hm
      · obtain ⟨n, ds, e, sn, _⟩ := q; cases e; exact (f.wS _ sn).2.1 hm
theorem RepK.tr {k : Bool} {a : E} (q : RepK k h S v d) (f : FrR M B h S fr fr') (t : Tk (Xs M fr' c) h S h' S') (hk : k = true → kf a c = true) (ha : ∀ i, a = .v i → fr'[i]?.join = some d) : RepK k h' S' v d := by
  unfold RepK at q ⊢
  split at q
  · rename_i e
    rw [if_pos e]
    have hk := hk e
    have gen : c = [] → RepT h' S' v d := fun z => q.tr f t fun m y => by subst z; exact Xs.nil y
    by_cases hv : ∃ i, a = .v i
    · obtain ⟨i0, rfl⟩ := hv
      simp only [kf, Bool.not_eq_true', List.contains_eq_mem, decide_eq_false_iff_not] at hk
      cases v
      case lst l =>
        simp only [RepT] at q ⊢
        obtain ⟨n, ds, rfl, b1, b2⟩ := q
        refine ⟨n, ds, rfl, ?_, b2.tr f t⟩
        rw [t.keep n (List.getElem?_eq_some_iff.mp b1).1 ?_]
        · exact b1
        · rintro ⟨mn, j, hj, ej⟩
          have e2 : fr'[i0]? = some (some (D.ref n)) := by
            have := ha i0 rfl
            cases z : fr'[i0]? with
            | none => rw [z] at this; cases this
            | some p => rw [z] at this; simp at this; rw [this]
          obtain ⟨o1, y1, y2⟩ := f.slot e2 mn
          obtain ⟨o2, y3, y4⟩ := f.slot ej mn
          have := f.inj i0 j o1 o2 n y1 y3 y2 y4 e2 ej
          subst this
          exact hk hj
      all_goals exact Rep.tr (show Rep h S _ d from q) f t
    · have : kf a c = c.isEmpty := by
        cases a <;> first | rfl | exact absurd ⟨_, rfl⟩ hv
      rw [this, List.isEmpty_iff] at hk
      exact gen hk
  · rename_i e
    rw [if_neg e]
    exact q.tr f t
theorem getV_ok {k : Bool} {i : Nat} (e : getV k fr i = some v) (f : FrR M B h S fr fr') : ∃ d, fr'[i]?.join = some d ∧ RepK k h S v d := by
  unfold getV at e
  split at e
  · rename_i z
    obtain ⟨p, e1, q⟩ := f.get z
    obtain ⟨d, rfl, q⟩ := q
    cases e
    exact ⟨d, by rw [e1]; rfl, .of q⟩
  all_goals first
    | (rename_i z
       obtain ⟨p, e1, q⟩ := f.get z
       obtain ⟨m, ds, rfl, _, y, q⟩ := q
       split at e
       · rename_i hk
         cases e
         exact ⟨.ref m, by rw [e1]; rfl, by unfold RepK; rw [if_pos hk]; exact ⟨m, ds, rfl, y, q⟩⟩
       · cases e)
    | cases e
theorem lent_ok {i : Nat} {s : Sl} (e : lent fr i = some s) (f : FrR M B h S fr fr') : ∃ m ds l o, fr[i]? = some o ∧ fr'[i]? = some (some (.ref m)) ∧ h[m]? = some (.lst ds) ∧ RepL h S l ds ∧ ((s = .bor l ∧ M m ∧ isM o = true) ∨ (s = .ro l ∧ ¬ M m ∧ o = some (.ro l))) := by
  unfold lent at e
  split at e
  · rename_i s' z
    obtain ⟨p, e1, q⟩ := f.get z
    cases s' with
    | val v => simp [Sl.lend] at e
    | own l =>
      simp [Sl.lend] at e; subst e
      obtain ⟨m, ds, rfl, y, y1, q⟩ := q
      exact ⟨m, ds, l, _, z, e1, y1, q, .inl ⟨rfl, y.1, rfl⟩⟩
    | bor l =>
      simp [Sl.lend] at e; subst e
      obtain ⟨m, ds, rfl, y, y1, q⟩ := q
      exact ⟨m, ds, l, _, z, e1, y1, q, .inl ⟨rfl, y.1, rfl⟩⟩
    | ro l =>
      simp [Sl.lend] at e; subst e
      obtain ⟨m, ds, rfl, y, y1, q⟩ := q
      exact ⟨m, ds, l, _, z, e1, y1, q, .inr ⟨rfl, y, rfl⟩⟩
  · cases e
noncomputable def AsR (h : Hh) (S : Nat → Prop) (fr' : Ev.Fr) : List (Nat ⊕ V) → List D → Prop
  | [], ds => ds = []
  | .inl i :: r, ds => ∃ d es, ds = d :: es ∧ fr'[i]? = some (some d) ∧ AsR h S fr' r es
  | .inr v :: r, ds => ∃ d es, ds = d :: es ∧ Rep h S v d ∧ AsR h S fr' r es
noncomputable def OutR (h : Hh) (S : Nat → Prop) : List Sl → List D → List (List V) → Prop
  | [], _, os => os = []
  | .val _ :: sl, ds, os => ∃ d es, ds = d :: es ∧ OutR h S sl es os
  | .own _ :: _, _, _ => False
  | _ :: sl, ds, os => ∃ d es l r m cs, ds = d :: es ∧ os = l :: r ∧ d = .ref m ∧ h[m]? = some (.lst cs) ∧ RepL h S l cs ∧ OutR h S sl es r
noncomputable def PhiOk (P : Phi) (P' : Ev.Phi) : Prop := ∀ f sl v os, P f sl = some (v, os) → ∀ (h : Hh) (S B : Nat → Prop) (ds : List D), FrR B B h S (sl.map some) (ds.map some) →
  ∃ d h' S', P' f ds h = .ok d h' ∧ Rep h' S' v d ∧ Tk B h S h' S' ∧ OutR h' S' sl ds os
theorem args_get (f : FrR M B h S fr fr') : ∀ {as : List (Nat ⊕ V)} {sl : List Sl} {ds : List D}, args fr as = some sl → AsR h S fr' as ds → sl.length = ds.length ∧ ∀ (a : Nat) s d, sl[a]? = some s → ds[a]? = some d →
    (∃ i, as[a]? = some (.inl i) ∧ lent fr i = some s ∧ fr'[i]? = some (some d)) ∨ (∃ v, s = .val v ∧ Rep h S v d)
  | [], sl, ds, e, q => by
    simp [args] at e; simp only [AsR] at q; subst e q; simp
  | .inl i :: r, sl, ds, e, q => by
    simp only [args, Option.bind_eq_some_iff, Option.map_eq_some_iff] at e
    obtain ⟨s, e1, l, e2, rfl⟩ := e
    obtain ⟨d, es, rfl, q1, q⟩ := q
    obtain ⟨h1, h2⟩ := args_get f e2 q
    refine ⟨by simp [h1], fun a s' d' z1 z2 => ?_⟩
    cases a with
    | zero => simp at z1 z2; subst z1 z2; exact .inl ⟨i, by simp, e1, q1⟩
    | succ a => exact (h2 a s' d' (by simpa using z1) (by simpa using z2)).imp (fun ⟨i, k, z⟩ => ⟨i, by simpa using k, z⟩) id
  | .inr v :: r, sl, ds, e, q => by
    simp only [args, Option.map_eq_some_iff] at e
    obtain ⟨l, e2, rfl⟩ := e
    obtain ⟨d, es, rfl, q1, q⟩ := q
    obtain ⟨h1, h2⟩ := args_get f e2 q
    refine ⟨by simp [h1], fun a s' d' z1 z2 => ?_⟩
    cases a with
    | zero => simp at z1 z2; subst z1 z2; exact .inr ⟨v, rfl, q1⟩
    | succ a => exact (h2 a s' d' (by simpa using z1) (by simpa using z2)).imp (fun ⟨i, k, z⟩ => ⟨i, by simpa using k, z⟩) id
theorem lefts_mem : ∀ {as : List (Nat ⊕ V)} {a i : Nat}, as[a]? = some (.inl i) → i ∈ lefts as
  | [], _, _, e => by simp at e
  | .inl j :: r, 0, i, e => by simp at e; subst e; simp [lefts]
  | .inr j :: r, 0, i, e => by simp at e
  | .inl j :: r, a + 1, i, e => by have := lefts_mem (as := r) (a := a) (i := i) (by simpa using e); simp [lefts, this]
  | .inr j :: r, a + 1, i, e => by have := lefts_mem (as := r) (a := a) (i := i) (by simpa using e); simp [lefts, this]
theorem lefts_inj : ∀ {as : List (Nat ⊕ V)} {a b i : Nat}, (lefts as).Nodup → as[a]? = some (.inl i) → as[b]? = some (.inl i) → a = b
  | [], _, _, _, _, e, _ => by simp at e
  | x :: r, 0, 0, _, _, _, _ => rfl
  | .inr j :: r, 0, b + 1, i, n, e, _ => by simp at e
  | .inl j :: r, 0, b + 1, i, n, e, e2 => by
    simp at e; subst e
    simp only [lefts, List.nodup_cons] at n
    exact absurd (lefts_mem (as := r) (a := b) (by simpa using e2)) n.1
  | .inr j :: r, a + 1, 0, i, n, _, e => by simp at e
  | .inl j :: r, a + 1, 0, i, n, e2, e => by
    simp at e; subst e
    simp only [lefts, List.nodup_cons] at n
    exact absurd (lefts_mem (as := r) (a := a) (by simpa using e2)) n.1
  | .inl j :: r, a + 1, b + 1, i, n, e1, e2 => by
    simp only [lefts, List.nodup_cons] at n
    have := lefts_inj (as := r) (a := a) (b := b) (i := i) n.2 (by simpa using e1) (by simpa using e2)
    omega
  | .inr j :: r, a + 1, b + 1, i, n, e1, e2 => by
    simp only [lefts] at n
    have := lefts_inj (as := r) (a := a) (b := b) (i := i) n (by simpa using e1) (by simpa using e2)
    omega
theorem with_isM {s : Sl} {l : List V} : isM (some (s.with l)) = isM (some s) := by cases s <;> rfl
theorem with_lk {s : Sl} {l : List V} : lkS (some (s.with l)) = lkS (some s) := by cases s <;> rfl
theorem back_get : ∀ {is : List Nat} {ls : List (List V)} {fr fr1 : Fr}, back is ls fr = some fr1 → is.Nodup → fr1.length = fr.length ∧ (∀ i, i ∉ is → fr1[i]? = fr[i]?) ∧ ∀ i ∈ is, ∃ (k : Nat) (s : Sl) (l : List V), is[k]? = some i ∧ ls[k]? = some l ∧ fr[i]? = some (some s) ∧ fr1[i]? = some (some (s.with l))
  | [], [], fr, fr1, e, _ => by simp [back] at e; subst e; simp
  | [], _ :: _, _, _, e, _ => by simp [back] at e
  | _ :: _, [], _, _, e, _ => by simp [back] at e
  | i :: is, l :: ls, fr, fr1, e, n => by
    simp only [back] at e
    simp only [List.nodup_cons] at n
    split at e
    · rename_i s z
      obtain ⟨h1, h2, h3⟩ := back_get e n.2
      refine ⟨by simpa using h1, fun j hj => ?_, fun j hj => ?_⟩
      · simp at hj
        rw [h2 j hj.2, List.getElem?_set_ne (fun q => hj.1 q.symm)]
      · rcases List.mem_cons.mp hj with rfl | hj
        · exact ⟨0, s, l, by simp, by simp, z, by rw [h2 j n.1, List.getElem?_set_self (List.getElem?_eq_some_iff.mp z).1]⟩
        · obtain ⟨k, s', l', a, b, c, d⟩ := h3 j hj
          have hne : i ≠ j := fun q => n.1 (q ▸ hj)
          rw [List.getElem?_set_ne hne] at c
          exact ⟨k + 1, s', l', by simpa using a, by simpa using b, c, d⟩
    · cases e
theorem outR_left (f : FrR M B h S fr fr') : ∀ {as : List (Nat ⊕ V)} {sl : List Sl} {ds : List D} {os : List (List V)}, args fr as = some sl → AsR h S fr' as ds → OutR h' S' sl ds os →
    ∀ (k i : Nat) l, (lefts as)[k]? = some i → os[k]? = some l → ∃ m cs, fr'[i]? = some (some (.ref m)) ∧ h'[m]? = some (.lst cs) ∧ RepL h' S' l cs
  | [], sl, ds, os, e, q, o => by simp [lefts]
  | .inl i :: r, sl, ds, os, e, q, o => by
    simp only [args, Option.bind_eq_some_iff, Option.map_eq_some_iff] at e
    obtain ⟨s, e1, l, e2, rfl⟩ := e
    obtain ⟨d, es, rfl, q1, q⟩ := q
    obtain ⟨m, cs, l0, o0, _, z2, z3, z4, z5⟩ := lent_ok e1 f
    have key : ∃ l1 r1 cs, os = l1 :: r1 ∧ h'[m]? = some (.lst cs) ∧ RepL h' S' l1 cs ∧ OutR h' S' l es r1 := by
      rw [q1] at z2; cases z2
      rcases z5 with ⟨rfl, _⟩ | ⟨rfl, _⟩
      · obtain ⟨d', es', l1, r1, m1, cs1, a1, a2, a3, a4, a5, a6⟩ := o
        cases a1; cases a3
        exact ⟨l1, r1, cs1, a2, a4, a5, a6⟩
      · obtain ⟨d', es', l1, r1, m1, cs1, a1, a2, a3, a4, a5, a6⟩ := o
        cases a1; cases a3
        exact ⟨l1, r1, cs1, a2, a4, a5, a6⟩
    obtain ⟨l1, r1, cs1, rfl, a4, a5, a6⟩ := key
    intro k j l' y1 y2
    cases k with
    | zero => simp [lefts] at y1 y2; subst y1 y2; exact ⟨m, cs1, z2, a4, a5⟩
    | succ k => exact outR_left f e2 q a6 k j l' (by simpa [lefts] using y1) (by simpa using y2)
  | .inr v :: r, sl, ds, os, e, q, o => by
    simp only [args, Option.map_eq_some_iff] at e
    obtain ⟨l, e2, rfl⟩ := e
    obtain ⟨d, es, rfl, q1, q⟩ := q
    obtain ⟨d', es', a1, a2⟩ := o
    cases a1
    intro k j l' y1 y2
    exact outR_left f e2 q a2 k j l' (by simpa [lefts] using y1) y2
theorem lefts_lent : ∀ {as : List (Nat ⊕ V)} {sl : List Sl} {i : Nat}, args fr as = some sl → i ∈ lefts as → ∃ s, lent fr i = some s
  | [], _, _, _, q => by simp [lefts] at q
  | .inl j :: r, _, i, z, q => by
    simp only [args, Option.bind_eq_some_iff, Option.map_eq_some_iff] at z
    obtain ⟨s, e1, l, e2, rfl⟩ := z
    simp [lefts] at q
    rcases q with rfl | q
    · exact ⟨s, e1⟩
    · exact lefts_lent e2 q
  | .inr u :: r, _, i, z, q => by
    simp only [args, Option.map_eq_some_iff] at z
    obtain ⟨l, e2, rfl⟩ := z
    exact lefts_lent e2 (by simpa [lefts] using q)
theorem callF_ok {P : Phi} {P' : Ev.Phi} (HP : PhiOk P P') {g : Nat} {as : List (Nat ⊕ V)} {ds : List D} (e : callF P g as fr = .ok v fr1) (f : FrR M B h S fr fr') (q : AsR h S fr' as ds) :
    ∃ d h' S', P' g ds h = .ok d h' ∧ Rep h' S' v d ∧ Out M B (lefts as) h S fr fr' h' S' fr1 := by
  unfold callF at e
  split at e
  case isFalse => cases e
  rename_i nd
  cases z : args fr as with
  | none => rw [z] at e; cases e
  | some sl =>
  rw [z] at e
  simp only at e
  cases z2 : P g sl with
  | none => rw [z2] at e; cases e
  | some vo =>
  obtain ⟨v', os⟩ := vo
  rw [z2] at e
  simp only at e
  cases z3 : back (lefts as) os fr with
  | none => rw [z3] at e; cases e
  | some fr2 =>
  rw [z3] at e
  simp at e
  obtain ⟨rfl, rfl⟩ := e
  obtain ⟨hl, hg⟩ := args_get f z q
  let B0 : Nat → Prop := fun m => ∃ i o, i ∈ lefts as ∧ fr[i]? = some o ∧ isM o = true ∧ fr'[i]? = some (some (.ref m))
  have B0M : ∀ m, B0 m → M m := fun m ⟨i, o, _, a, b, c⟩ => by
    have s := f.sl i o _ a c
    rcases o with _ | s'
    · cases b
    · cases s' with
      | val v => cases b
      | ro l => cases b
      | own l => obtain ⟨m', ds', e, y, _⟩ := s; cases e; exact y.1
      | bor l => obtain ⟨m', ds', e, y, _⟩ := s; cases e; exact y.1
  have F0 : FrR B0 B0 h S (sl.map some) (ds.map some) := by
    refine ⟨fun m y => ⟨(f.wS m y).1, fun z => (f.wS m y).2.1 (B0M m z), fun z => (f.wS m y).2.1 (B0M m z)⟩, fun m y => f.wM m (B0M m y), fun m y => f.wM m (B0M m y), by simp [hl], fun a o p y1 y2 => ?_, fun a b o o' m y1 y2 y3 y4 y5 y6 => ?_⟩
    · simp at y1 y2
      obtain ⟨s, y1, rfl⟩ := y1
      obtain ⟨d, y2, rfl⟩ := y2
      rcases hg a s d y1 y2 with ⟨i, k1, k2, k3⟩ | ⟨u, rfl, k⟩
      · obtain ⟨m, cs, l0, o0, w1, w2, w3, w4, w5⟩ := lent_ok k2 f
        rw [k3] at w2; cases w2
        rcases w5 with ⟨rfl, w6, w7⟩ | ⟨rfl, w6, w7⟩
        · exact ⟨m, cs, rfl, ⟨⟨i, o0, lefts_mem k1, w1, w7, k3⟩, ⟨i, o0, lefts_mem k1, w1, w7, k3⟩⟩, w3, w4⟩
        · exact ⟨m, cs, rfl, fun z => w6 (B0M m z), w3, w4⟩
      · exact ⟨d, rfl, k⟩
    · simp at y1 y2 y5 y6
      obtain ⟨s, y1, rfl⟩ := y1
      obtain ⟨s', y2, rfl⟩ := y2
      rcases hg a s _ y1 y5 with ⟨i, k1, k2, k3⟩ | ⟨u, rfl, k⟩
      · rcases hg b s' _ y2 y6 with ⟨j, k4, k5, k6⟩ | ⟨u, rfl, k⟩
        · obtain ⟨m1, _, l1, o1, w1, w2, _, _, w5⟩ := lent_ok k2 f
          obtain ⟨m2, _, l2, o2, x1, x2, _, _, x5⟩ := lent_ok k5 f
          have i1 : isM o1 = true := by rcases w5 with ⟨_, _, w7⟩ | ⟨rfl, _, _⟩; exact w7; cases y3
          have i2 : isM o2 = true := by rcases x5 with ⟨_, _, w7⟩ | ⟨rfl, _, _⟩; exact w7; cases y4
          have := f.inj i j o1 o2 m w1 x1 i1 i2 k3 k6
          subst this
          exact lefts_inj nd k1 k4
        · cases y4
      · cases y3
  obtain ⟨d, h', S', c1, c2, c3, c4⟩ := HP g sl v' os z2 h S B0 ds F0
  obtain ⟨b1, b2, b3⟩ := back_get z3 nd
  have hL := outR_left f z q c4
  have keepS : ∀ m, S m → h'[m]? = h[m]? := fun m y => c3.keep m (f.wS m y).1 (fun z => (f.wS m y).2.1 (B0M m z))
  refine ⟨d, h', S', c1, c2, ⟨?_, ?_, ?_⟩⟩
  · refine ⟨fun m y => ?_, fun m y => Nat.lt_of_lt_of_le (f.wM m y) c3.len, fun m y => Nat.lt_of_lt_of_le (f.wB m y) c3.len, by rw [b1, f.len], fun i o p y1 y2 => ?_, fun i j o o' m y1 y2 y3 y4 y5 y6 => ?_⟩
    · rcases c3.new m y with y | ⟨y1, y2⟩
      · exact ⟨Nat.lt_of_lt_of_le (f.wS m y).1 c3.len, (f.wS m y).2⟩
      · exact ⟨y2, fun z => by have := f.wM m z; omega, fun z => by have := f.wB m z; omega⟩
    · by_cases hi : i ∈ lefts as
      · obtain ⟨k, s, l, w1, w2, w3, w4⟩ := b3 i hi
        rw [w4] at y1; cases y1
        obtain ⟨m, cs, x1, x2, x3⟩ := hL k i l w1 w2
        rw [x1] at y2; cases y2
        have old := f.sl i _ _ w3 x1
        cases s with
        | val u =>
          exfalso
          have : ∃ s, lent fr i = some s := lefts_lent z hi
          obtain ⟨s, hs⟩ := this
          simp [lent, w3, Sl.lend] at hs
        | own u => obtain ⟨m', ds', e, y, _⟩ := old; cases e; exact ⟨m, cs, rfl, y, x2, x3⟩
        | bor u => obtain ⟨m', ds', e, y, _⟩ := old; cases e; exact ⟨m, cs, rfl, y, x2, x3⟩
        | ro u =>
          obtain ⟨m', ds', e, y, y1, y2⟩ := old; cases e
          refine ⟨m, ds', rfl, y, ?_, y2.mono keepS c3.sub⟩
          rw [c3.keep m (List.getElem?_eq_some_iff.mp y1).1 (fun z => y (B0M m z))]; exact y1
      · rw [b2 i hi] at y1
        have old := f.sl i o p y1 y2
        rcases o with _ | s
        · exact old
        · cases s with
          | val u => obtain ⟨d, e, q⟩ := old; exact ⟨d, e, q.mono keepS c3.sub⟩
          | own u =>
            obtain ⟨m, ds', rfl, w1, w2, w3⟩ := old
            refine ⟨m, ds', rfl, w1, ?_, w3.mono keepS c3.sub⟩
            rw [c3.keep m (f.wM m w1.1) (fun ⟨j, o2, x1, x2, x3, x4⟩ => hi (f.inj i j _ o2 m y1 x2 rfl x3 y2 x4 ▸ x1))]; exact w2
          | bor u =>
            obtain ⟨m, ds', rfl, w1, w2, w3⟩ := old
            refine ⟨m, ds', rfl, w1, ?_, w3.mono keepS c3.sub⟩
            rw [c3.keep m (f.wM m w1.1) (fun ⟨j, o2, x1, x2, x3, x4⟩ => hi (f.inj i j _ o2 m y1 x2 rfl x3 y2 x4 ▸ x1))]; exact w2
          | ro u =>
            obtain ⟨m, ds', rfl, w1, w2, w3⟩ := old
            refine ⟨m, ds', rfl, w1, ?_, w3.mono keepS c3.sub⟩
            rw [c3.keep m (List.getElem?_eq_some_iff.mp w2).1 (fun z => w1 (B0M m z))]; exact w2
    · have kind : ∀ (i : Nat) o, fr2[i]? = some o → isM o = true → ∃ o0, fr[i]? = some o0 ∧ isM o0 = true := fun i o w1 w2 => by
        by_cases hi : i ∈ lefts as
        · obtain ⟨k, s, l, x1, x2, x3, x4⟩ := b3 i hi
          rw [x4] at w1; cases w1
          exact ⟨_, x3, by rw [with_isM] at w2; exact w2⟩
        · rw [b2 i hi] at w1; exact ⟨o, w1, w2⟩
      obtain ⟨oi, k1, k2⟩ := kind i o y1 y3
      obtain ⟨oj, k3, k4⟩ := kind j o' y2 y4
      exact f.inj i j oi oj m k1 k3 k2 k4 y5 y6
  · exact c3.weak fun m z => ⟨B0M m z, by obtain ⟨i, o, a1, a2, a3, a4⟩ := z; exact ⟨i, a1, a4⟩⟩
  · intro i
    unfold locked
    by_cases hi : i ∈ lefts as
    · obtain ⟨k, s, l, x1, x2, x3, x4⟩ := b3 i hi
      rw [x3, x4]; exact with_lk
    · rw [b2 i hi]
end
end Pv
set_option Elab.async false
set_option linter.all false
namespace Pv
open Ev (D O Hh BOp COp TY BI ME T E Es Eo It S Ss Fn big deep b2i rep mulOk ixN atI sIx cut joinS sortS slots lstOf)
section
variable {M B M' : Nat → Prop} {h h' h1 h2 : Hh} {S S' S1 S2 : Nat → Prop} {fr fr1 fr2 : Fr} {fr' : Ev.Fr} {c c1 c2 : List Nat} {v : V} {d : D}
theorem set_ne {n m : Nat} {o : O} (q : n ≠ m) : (h.set n o)[m]? = h[m]? := List.getElem?_set_ne q
theorem FrR.mM (f : FrR M B h S fr fr') {i n : Nat} {o : Option Sl} (e : fr[i]? = some o) (hM : isM o = true) (e' : fr'[i]? = some (some (.ref n))) : M n := by
  have s := f.sl i o _ e e'
  rcases o with _ | s'
  · cases hM
  · cases s' with
    | val v => cases hM
    | ro l => cases hM
    | own l => obtain ⟨m', ds', e, y, _⟩ := s; cases e; exact y.1
    | bor l => obtain ⟨m', ds', e, y, _⟩ := s; cases e; exact y.1
theorem FrR.write (f : FrR M B h S fr fr') {i n : Nat} {s : Sl} {l' : List V} {ds' : List D} (e : fr[i]? = some (some s)) (hM : isM (some s) = true) (e' : fr'[i]? = some (some (.ref n))) (q : RepL h S l' ds') :
    FrR M B (h.set n (.lst ds')) S (fr.set i (some (s.with l'))) fr' := by
  have mn := f.mM e hM e'
  have kp : ∀ m, S m → (h.set n (.lst ds'))[m]? = h[m]? := fun m z => set_ne fun y => (f.wS m z).2.1 (y ▸ mn)
  have il := (List.getElem?_eq_some_iff.mp e).1
  refine ⟨fun m y => by simpa using f.wS m y, fun m y => by simpa using f.wM m y, fun m y => by simpa using f.wB m y, by simp [f.len], fun j o p y1 y2 => ?_, fun j k o o' m y1 y2 y3 y4 y5 y6 => ?_⟩
  · by_cases hj : i = j
    · subst hj
      rw [List.getElem?_set_self il] at y1
      cases y1
      rw [e'] at y2; cases y2
      have old := f.sl i _ _ e e'
      have hn : (h.set n (.lst ds'))[n]? = some (.lst ds') := List.getElem?_set_self (f.wM n mn)
      cases s with
      | val v => cases hM
      | ro l => cases hM
      | own l => obtain ⟨m', _, e, y, _⟩ := old; cases e; exact ⟨n, ds', rfl, y, hn, q.mono kp fun _ z => z⟩
      | bor l => obtain ⟨m', _, e, y, _⟩ := old; cases e; exact ⟨n, ds', rfl, y, hn, q.mono kp fun _ z => z⟩
    · rw [List.getElem?_set_ne hj] at y1
      have old := f.sl j o p y1 y2
      rcases o with _ | s'
      · exact old
      · cases s' with
        | val u => obtain ⟨d, e, q⟩ := old; exact ⟨d, e, q.mono kp fun _ z => z⟩
        | own u =>
          obtain ⟨m, es, rfl, w1, w2, w3⟩ := old
          refine ⟨m, es, rfl, w1, ?_, w3.mono kp fun _ z => z⟩
          rw [set_ne fun (z : n = m) => hj (f.inj i j _ _ n e y1 hM rfl e' (by rw [z]; exact y2))]; exact w2
        | bor u =>
          obtain ⟨m, es, rfl, w1, w2, w3⟩ := old
          refine ⟨m, es, rfl, w1, ?_, w3.mono kp fun _ z => z⟩
          rw [set_ne fun (z : n = m) => hj (f.inj i j _ _ n e y1 hM rfl e' (by rw [z]; exact y2))]; exact w2
        | ro u =>
          obtain ⟨m, es, rfl, w1, w2, w3⟩ := old
          refine ⟨m, es, rfl, w1, ?_, w3.mono kp fun _ z => z⟩
          rw [set_ne fun (z : n = m) => w1 (z ▸ mn)]; exact w2
  · have kind : ∀ (j : Nat) o, (fr.set i (some (s.with l')))[j]? = some o → isM o = true → ∃ o0, fr[j]? = some o0 ∧ isM o0 = true := fun j o w1 w2 => by
      by_cases hj : i = j
      · subst hj; exact ⟨_, e, hM⟩
      · rw [List.getElem?_set_ne hj] at w1; exact ⟨o, w1, w2⟩
    obtain ⟨oi, k1, k2⟩ := kind j o y1 y3
    obtain ⟨oj, k3, k4⟩ := kind k o' y2 y4
    exact f.inj j k oi oj m k1 k3 k2 k4 y5 y6
theorem mtf_ok {m : ME} {l l' : List V} {xs : List V} {n : Nat} {ds es : List D} (z : mtf m l xs = some (v, l')) (e : h[n]? = some (.lst ds)) (q : RepL h S l ds) (p : RepTL h S xs es) (p' : m = .append ∨ m = .setsl → RepL h S xs es) (hS : ∀ k, S k → k ≠ n) :
    ∃ r ds', Ev.mef m (.ref n) es h = .ok r (h.set n (.lst ds')) ∧ Rep h S v r ∧ RepL h S l' ds' := by
  unfold mtf at z
  split at z
  · have p' := p' (.inl rfl)
    split at z
    · rename_i k
      cases z
      simp only [RepL] at p'
      obtain ⟨d, _, rfl, p1, rfl⟩ := p'
      refine ⟨_, _, ?_, rfl, q.append (.cons p1 .nil)⟩
      delta Ev.mef; dsimp only; simp only [e]
      rw [if_pos (by rw [← q.length]; exact k)]
    · cases z
  · split at z
    · rename_i k
      cases z
      obtain ⟨d, rfl, p1⟩ := p.one
      simp only [RepT] at p1
      obtain ⟨n2, cs, rfl, e2, p1⟩ := p1
      refine ⟨_, _, ?_, rfl, q.append p1⟩
      delta Ev.mef; dsimp only; simp only [e, e2]
      rw [if_pos (by rw [← q.length, ← p1.length]; exact k)]
    · cases z
  · simp only [RepTL] at p
    subst p
    split at z
    · rename_i x y
      cases z
      obtain ⟨d, k1, k2⟩ := q.get y
      refine ⟨d, _, ?_, k2, q.dropLast⟩
      delta Ev.mef; dsimp only; simp only [e]
      rw [← q.length, k1]
    · cases z
  · have p' := p' (.inr rfl)
    simp only [RepL] at p'
    obtain ⟨d1, _, rfl, p1, d2, _, rfl, p2, d3, _, rfl, p3, rfl⟩ := p'
    simp only [setslF, Option.bind_eq_some_iff] at z
    obtain ⟨ys, z1, a, z2, c, z3, z⟩ := z
    split at z
    case isFalse => cases z
    rename_i k
    cases z
    rename_i x y u
    cases x <;> simp only [asL, reduceCtorEq] at z1
    cases y <;> simp only [asI, reduceCtorEq] at z2
    cases u <;> simp only [asI, reduceCtorEq] at z3
    cases z1; cases z2; cases z3
    simp only [Rep] at p1 p2 p3
    obtain ⟨n2, cs, rfl, sn, e2, p1⟩ := p1
    subst p2 p3
    refine ⟨.non, _, ?_, rfl, ((q.take _).append p1).append (q.drop _)⟩
    delta Ev.mef; dsimp only
    simp only [Ev.setslF, Ev.asL, e, e2, Option.bind, Ev.asI]
    rw [if_pos ⟨fun w => hS _ sn w.symm, k.1, k.2.1, by rw [← q.length]; exact k.2.2.1, by rw [← q.length, ← p1.length]; exact k.2.2.2⟩]
    rfl
  · cases z
theorem FrR.set (f : FrR M B h S fr fr') {i : Nat} (e : put fr i (.val v) = some fr1) (q : Rep h S v d) : FrR M B h S fr1 (fr'.set i (some d)) ∧ (∀ j, locked fr1 j = locked fr j) ∧ ∀ j, locked fr j = true → (fr'.set i (some d))[j]? = fr'[j]? := by
  have hx : fr1 = fr.set i (some (.val v)) ∧ locked fr i = false := by
    unfold put at e
    unfold locked
    split at e
    · cases e
    · cases e
    · rename_i k1 k2
      cases e
      refine ⟨rfl, ?_⟩
      cases z : fr[i]? with
      | none => rfl
      | some o =>
        rcases o with _ | s
        · rfl
        · cases s with
          | bor l => exact absurd z (k1 l)
          | ro l => exact absurd z (k2 l)
          | _ => rfl
  obtain ⟨rfl, hk⟩ := hx
  have lk : ∀ j, locked (fr.set i (some (.val v))) j = locked fr j := fun j => by
    by_cases hj : i = j
    · subst hj
      rw [hk]
      unfold locked
      by_cases hl : i < fr.length
      · rw [List.getElem?_set_self hl]; rfl
      · rw [List.getElem?_eq_none (by simpa using hl)]
    · unfold locked; rw [List.getElem?_set_ne hj]
  refine ⟨⟨f.wS, f.wM, f.wB, by simp [f.len], fun j o p y1 y2 => ?_, fun j k o o' m y1 y2 y3 y4 y5 y6 => ?_⟩, lk, fun j hj => ?_⟩
  · by_cases hj : i = j
    · subst hj
      have hl : i < fr.length := by have := (List.getElem?_eq_some_iff.mp y1).1; simpa using this
      rw [List.getElem?_set_self hl] at y1
      rw [List.getElem?_set_self (by rw [← f.len]; exact hl)] at y2
      cases y1; cases y2
      exact ⟨d, rfl, q⟩
    · rw [List.getElem?_set_ne hj] at y1 y2
      exact f.sl j o p y1 y2
  · have hn : ∀ (j : Nat) o, (fr.set i (some (.val v)))[j]? = some o → isM o = true → i ≠ j := fun j o w1 w2 w3 => by
      subst w3
      have hl : i < fr.length := by have := (List.getElem?_eq_some_iff.mp w1).1; simpa using this
      rw [List.getElem?_set_self hl] at w1
      cases w1; cases w2
    have n1 := hn j o y1 y3
    have n2 := hn k o' y2 y4
    rw [List.getElem?_set_ne n1] at y1 y5
    rw [List.getElem?_set_ne n2] at y2 y6
    exact f.inj j k o o' m y1 y2 y3 y4 y5 y6
  · have : i ≠ j := fun z => by subst z; rw [hk] at hj; cases hj
    rw [List.getElem?_set_ne this]
theorem FrR.setAll : ∀ {is : List Nat} {vs : List V} {ds : List D} {fr fr1 : Fr} {fr' : Ev.Fr}, FrR M B h S fr fr' → setAll is vs fr = some fr1 → RepL h S vs ds → ∃ fr1', Ev.setAll is ds fr' = some fr1' ∧ FrR M B h S fr1 fr1' ∧ (∀ j, locked fr1 j = locked fr j) ∧ ∀ j, locked fr j = true → fr1'[j]? = fr'[j]?
  | [], [], ds, fr, fr1, fr', f, e, q => by
    simp [Pv.setAll] at e; simp only [RepL] at q; subst e q
    exact ⟨fr', rfl, f, fun _ => rfl, fun _ _ => rfl⟩
  | [], _ :: _, _, _, _, _, _, e, _ => by simp [Pv.setAll] at e
  | _ :: _, [], _, _, _, _, _, e, _ => by simp [Pv.setAll] at e
  | i :: is, v :: vs, ds, fr, fr1, fr', f, e, q => by
    simp only [Pv.setAll, Option.bind_eq_some_iff] at e
    obtain ⟨fr2, e1, e2⟩ := e
    simp only [RepL] at q
    obtain ⟨d, es, rfl, q1, q2⟩ := q
    obtain ⟨f2, l2, r2⟩ := f.set e1 q1
    obtain ⟨fr1', a, f3, l3, r3⟩ := f2.setAll e2 q2
    exact ⟨fr1', a, f3, fun j => (l3 j).trans (l2 j), fun j hj => (r3 j (by rw [l2 j]; exact hj)).trans (r2 j hj)⟩
theorem FrR.bindT (f : FrR M B h S fr fr') {t : T} (e : bindT t v fr = some fr1) (q : Rep h S v d) : ∃ fr1', Ev.bindT t d fr' = some fr1' ∧ FrR M B h S fr1 fr1' ∧ (∀ j, locked fr1 j = locked fr j) ∧ ∀ j, locked fr j = true → fr1'[j]? = fr'[j]? := by
  cases t with
  | one i => exact ⟨_, rfl, f.set e q⟩
  | many l =>
    cases v <;> simp only [Pv.bindT, reduceCtorEq] at e
    simp only [Rep] at q
    obtain ⟨ds, rfl, q⟩ := q
    exact f.setAll e q
theorem FrR.undef (f : FrR M B h S fr fr') {t : T} (e : undef t fr = true) : Ev.undef t fr' = true := by
  unfold Pv.undef at e
  unfold Ev.undef
  rw [List.all_eq_true] at e ⊢
  intro i hi
  have := e i hi
  cases z : fr[i]? with
  | none =>
    have : fr'[i]? = none := by
      rw [List.getElem?_eq_none_iff] at z ⊢
      rw [← f.len]; exact z
    rw [this]; rfl
  | some o =>
    obtain ⟨p, e1, q⟩ := f.get z
    rw [z] at this
    rcases o with _ | s
    · simp only [SlR] at q; subst q; rw [e1]; rfl
    · simp at this
theorem roF_get {i : Nat} {o : Option Sl} (e : (roF fr)[i]? = some o) : ∃ o0, fr[i]? = some o0 ∧ o = o0.map Sl.read := by
  unfold roF at e
  rw [List.getElem?_map] at e
  cases z : fr[i]? with
  | none => rw [z] at e; cases e
  | some o0 => rw [z] at e; cases e; exact ⟨o0, rfl, rfl⟩
theorem FrR.ro (f : FrR M B h S fr fr') : FrR (fun _ => False) B h S (roF fr) fr' := by
  refine ⟨fun m y => ⟨(f.wS m y).1, id, (f.wS m y).2.2⟩, fun m y => y.elim, f.wB, by simp [roF, f.len], fun i o p y1 y2 => ?_, fun i j o o' m y1 y2 y3 y4 y5 y6 => ?_⟩
  · obtain ⟨o0, z, rfl⟩ := roF_get y1
    have q := f.sl i o0 p z y2
    rcases o0 with _ | s
    · exact q
    · cases s with
      | val v => exact q
      | own l => obtain ⟨m, ds, a, b, c, d⟩ := q; exact ⟨m, ds, a, id, c, d⟩
      | bor l => obtain ⟨m, ds, a, b, c, d⟩ := q; exact ⟨m, ds, a, id, c, d⟩
      | ro l => obtain ⟨m, ds, a, b, c, d⟩ := q; exact ⟨m, ds, a, id, c, d⟩
  · obtain ⟨o0, z, rfl⟩ := roF_get y1
    rcases o0 with _ | s
    · cases y3
    · cases s <;> cases y3
theorem stays_of : ∀ {ck : List (Nat × List D)}, (∀ q ∈ ck, lstOf h q.1 = some q.2) → Ev.stays h ck = true
  | [], _ => rfl
  | (n, ds) :: r, q => by
    simp only [Ev.stays, Bool.and_eq_true]
    refine ⟨?_, stays_of fun x hx => q x (List.mem_cons_of_mem _ hx)⟩
    rw [q (n, ds) (List.mem_cons_self ..)]
    exact Ev.sameL_self _
theorem lst_keep {n : Nat} {ds : List D} (q : lstOf h n = some ds) (k : h'[n]? = h[n]?) : lstOf h' n = some ds := by
  unfold lstOf at q ⊢; rw [k]; exact q
theorem lst_lt {n : Nat} {ds : List D} (q : lstOf h n = some ds) : n < h.length := by
  unfold lstOf at q
  cases z : h[n]? with
  | none => rw [z] at q; cases q
  | some o => exact (List.getElem?_eq_some_iff.mp z).1
noncomputable def OptR (h : Hh) (S : Nat → Prop) : Option V → Option D → Prop
  | none, o => o = none
  | some v, o => ∃ d, o = some d ∧ Rep h S v d
theorem comp_ok {f : V → Option (Option V)} {f' : D → Hh → Ev.R (Option D)} {ck : List (Nat × List D)} {h0 : Hh} {S0 : Nat → Prop} (w0 : ∀ m, S0 m → m < h0.length) (st : ∀ q ∈ ck, lstOf h0 q.1 = some q.2)
    (turn : ∀ v o d h S, Al h0 S0 h S → f v = some o → Rep h S v d → ∃ o' h' S', f' d h = .ok o' h' ∧ OptR h' S' o o' ∧ Al h S h' S') :
    ∀ {vs : List V} {ds : List D} {rs : List V} {h : Hh} {S : Nat → Prop}, Al h0 S0 h S → compL f vs = some rs → RepL h S vs ds → ∃ rs' h' S', Ev.compL f' ck ds h = .ok rs' h' ∧ RepL h' S' rs rs' ∧ Al h S h' S'
  | [], ds, rs, h, S, a, e, q => by
    simp [compL] at e; simp only [RepL] at q; subst e q
    refine ⟨[], h, S, ?_, .nil, .refl⟩
    simp only [Ev.compL]
    rw [if_pos (stays_of fun x hx => lst_keep (st x hx) (a.keep _ (lst_lt (st x hx))))]
  | v :: vs, ds, rs, h, S, a, e, q => by
    simp only [compL, Option.bind_eq_some_iff] at e
    obtain ⟨o, e1, r, e2, e3⟩ := e
    cases e3
    simp only [RepL] at q
    obtain ⟨d, es, rfl, q1, q2⟩ := q
    have w : ∀ m, S m → m < h.length := fun m z => by
      rcases a.new m z with z | z
      · exact Nat.lt_of_lt_of_le (w0 m z) a.len
      · exact z.2
    obtain ⟨o', h1, S1, t1, t2, t3⟩ := turn v o d h S a e1 q1
    obtain ⟨rs', h2, S2, u1, u2, u3⟩ := comp_ok w0 st turn (a.trans t3) e2 (q2.mono (fun m z => t3.keep m (w m z)) t3.sub)
    have w1 : ∀ m, S1 m → m < h1.length := fun m z => by
      rcases t3.new m z with z | z
      · exact Nat.lt_of_lt_of_le (w m z) t3.len
      · exact z.2
    refine ⟨o'.toList ++ rs', h2, S2, ?_, ?_, t3.trans u3⟩
    · simp only [Ev.compL]
      rw [if_pos (stays_of fun x hx => lst_keep (st x hx) (a.keep _ (lst_lt (st x hx)))), t1, Ev.bind_ok, u1, Ev.bind_ok]
    · cases o with
      | none => simp only [OptR] at t2; subst t2; simpa using u2
      | some v' =>
        simp only [OptR] at t2
        obtain ⟨d', rfl, t2⟩ := t2
        exact .cons (t2.mono (fun m z => u3.keep m (w1 m z)) u3.sub) u2
end
section
variable (P : Phi) (P' : Ev.Phi)
noncomputable def EvOk (e : E) : Prop := ∀ {k : Bool} {fr : Fr} {v : V} {fr1 : Fr} {M B : Nat → Prop} {h : Hh} {S : Nat → Prop} {fr' : Ev.Fr}, ev P k e fr = .ok v fr1 → FrR M B h S fr fr' → ∃ d h' S', Ev.ev P' e fr' h = .ok d h' ∧ RepK k h' S' v d ∧ Out M B (tch e) h S fr fr' h' S' fr1
noncomputable def EvTOk (e : E) : Prop := ∀ {fr : Fr} {b : Bool} {fr1 : Fr} {M B : Nat → Prop} {h : Hh} {S : Nat → Prop} {fr' : Ev.Fr}, evT P e fr = .ok b fr1 → FrR M B h S fr fr' → ∃ h' S', Ev.evT P' e fr' h = .ok b h' ∧ Out M B (tch e) h S fr fr' h' S' fr1
noncomputable def RepKL (k : Bool) (h : Hh) (S : Nat → Prop) (v : List V) (d : List D) : Prop := if k = true then RepTL h S v d else RepL h S v d
noncomputable def EvsOk (e : Es) : Prop := ∀ {k : Bool} {fr : Fr} {v : List V} {fr1 : Fr} {M B : Nat → Prop} {h : Hh} {S : Nat → Prop} {fr' : Ev.Fr}, evs P k e fr = .ok v fr1 → FrR M B h S fr fr' → ∃ d h' S', Ev.evs P' e fr' h = .ok d h' ∧ RepKL k h' S' v d ∧ Out M B (tchs e) h S fr fr' h' S' fr1
noncomputable def EvAOk (e : Es) : Prop := ∀ {fr : Fr} {v : List (Nat ⊕ V)} {fr1 : Fr} {M B : Nat → Prop} {h : Hh} {S : Nat → Prop} {fr' : Ev.Fr}, evA P e fr = .ok v fr1 → FrR M B h S fr fr' → ∃ d h' S', Ev.evs P' e fr' h = .ok d h' ∧ AsR h' S' fr' v d ∧ Out M B (tchs e) h S fr fr' h' S' fr1
noncomputable def EvoOk (e : Eo) : Prop := ∀ {fr : Fr} {v : Option Int} {fr1 : Fr} {M B : Nat → Prop} {h : Hh} {S : Nat → Prop} {fr' : Ev.Fr}, evo P e fr = .ok v fr1 → FrR M B h S fr fr' → ∃ h' S', Ev.evo P' e fr' h = .ok v h' ∧ Out M B (tcho e) h S fr fr' h' S' fr1
noncomputable def EvcOk (e : Eo) : Prop := ∀ {fr : Fr} {v : Bool} {fr1 : Fr} {M B : Nat → Prop} {h : Hh} {S : Nat → Prop} {fr' : Ev.Fr}, evc P e fr = .ok v fr1 → FrR M B h S fr fr' → ∃ h' S', Ev.evc P' e fr' h = .ok v h' ∧ Out M B (tcho e) h S fr fr' h' S' fr1
noncomputable def EviOk (e : It) : Prop := ∀ {k : Bool} {fr : Fr} {v : List V} {fr1 : Fr} {M B : Nat → Prop} {h : Hh} {S : Nat → Prop} {fr' : Ev.Fr}, evi P k e fr = .ok v fr1 → FrR M B h S fr fr' → ∃ s h' S', Ev.evi P' e fr' h = .ok s h' ∧ RepL h' S' v s.1 ∧ (∀ q ∈ s.2, lstOf h' q.1 = some q.2 ∧ (k = false → ¬ M q.1)) ∧ Out M B (tchi e) h S fr fr' h' S' fr1
end
section
variable {P : Phi} {P' : Ev.Phi} {a b e tt : E} {es : Es} {lo hi : Eo} {it : It}
theorem c_ok {d : D} : EvOk P P' (.c d) := fun z f => by
  simp only [ev] at z
  replace z := of_eq_ok z; obtain ⟨z, y0⟩ := z; subst y0
  exact ⟨d, _, _, by simp only [Ev.ev], .of (ofD_ok z), .refl f⟩
theorem v_ok {i : Nat} : EvOk P P' (.v i) := fun z f => by
  simp only [ev] at z
  replace z := of_eq_ok z; obtain ⟨z, y0⟩ := z; subst y0
  obtain ⟨d, e1, q⟩ := getV_ok z f
  exact ⟨d, _, _, by simp only [Ev.ev, e1, Ev.of_some], q, .refl f⟩
theorem RepKL.n {h : Hh} {S : Nat → Prop} {v : List V} {d : List D} (q : RepKL false h S v d) : RepL h S v d := by simpa [RepKL] using q
theorem RepL.tl {h : Hh} {S : Nat → Prop} : ∀ {v : List V} {d : List D}, RepL h S v d → RepTL h S v d
  | [], _, q => q
  | _ :: _, _, ⟨d, es, a, b, q⟩ => ⟨d, es, a, b.top, q.tl⟩
theorem RepKL.t {k : Bool} {h : Hh} {S : Nat → Prop} {v : List V} {d : List D} (q : RepKL k h S v d) : RepTL h S v d := by
  unfold RepKL at q
  split at q
  · exact q
  · exact q.tl
theorem tup_ok (is : EvsOk P P' es) : EvOk P P' (.tup es) := fun z f => by
  simp only [ev] at z
  obtain ⟨ds, fr2, z1, z2⟩ := bind_eq_ok z
  replace z2 := of_eq_ok z2; obtain ⟨z2, y0⟩ := z2; subst y0
  obtain ⟨ds', h', S', e1, q, o⟩ := is z1 f
  unfold mkT at z2
  split at z2
  · rename_i hk
    cases z2
    refine ⟨.tup ds', h', S', ?_, .of ⟨ds', rfl, q.n⟩, o⟩
    simp only [Ev.ev, e1, Ev.bind_ok]
    rw [if_pos (by rw [← q.n.length]; exact hk)]
  · cases z2
theorem lst_ok (is : EvsOk P P' es) : EvOk P P' (.lst es) := fun z f => by
  simp only [ev] at z
  obtain ⟨ds, fr2, z1, z2⟩ := bind_eq_ok z
  replace z2 := of_eq_ok z2; obtain ⟨z2, y0⟩ := z2; subst y0
  obtain ⟨ds', h', S', e1, q, o⟩ := is z1 f
  obtain ⟨r, h2, S2, a1, a2, a3⟩ := mkL_ok o.f.w z2 q.n
  exact ⟨r, h2, S2, by simp only [Ev.ev, e1, Ev.bind_ok, a1], .of a2, o.al a3⟩
theorem ev_vd {a : E} {fr' : Ev.Fr} {h h1 : Hh} {d : D} (e : Ev.ev P' a fr' h = .ok d h1) : ∀ i, a = .v i → fr'[i]?.join = some d := fun i hi => by
  subst hi
  simp only [Ev.ev] at e
  exact (Ev.of_eq_ok e).1
theorem two (ia : EvOk P P' a) (ib : EvOk P P' b) {α : Type} {X : V → V → Fr → R α} {u : α} {fr frz : Fr} {M B : Nat → Prop} {h : Hh} {S : Nat → Prop} {fr' : Ev.Fr}
    (z : ((ev P (kf a (tch b)) a fr).bind fun x fr1 => (ev P true b fr1).bind fun y fr2 => X x y fr2) = .ok u frz) (f : FrR M B h S fr fr') :
    ∃ x y d e h2 S2 fr2, (∀ {β : Type} (g : D → D → Hh → Ev.R β), ((Ev.ev P' a fr' h).bind fun x h1 => (Ev.ev P' b fr' h1).bind fun y h2 => g x y h2) = g d e h2) ∧ X x y fr2 = .ok u frz ∧ RepT h2 S2 x d ∧ RepT h2 S2 y e ∧ Out M B (tch a ++ tch b) h S fr fr' h2 S2 fr2 := by
  replace z := bind_eq_ok z; obtain ⟨x, fr1, z1, z⟩ := z
  replace z := bind_eq_ok z; obtain ⟨y, fr2, z2, z⟩ := z
  obtain ⟨d, h1, S1, e1, q1, o1⟩ := ia z1 f
  obtain ⟨e, h2, S2, e2, q2, o2⟩ := ib z2 o1.f
  exact ⟨x, y, d, e, h2, S2, fr2, fun g => by rw [e1, Ev.bind_ok, e2, Ev.bind_ok], z, (q1.tr o1.f o2.tr id (ev_vd e1)).t, q2.t, o1.trans o2⟩
theorem bin_ok {o : BOp} (ia : EvOk P P' a) (ib : EvOk P P' b) : EvOk P P' (.bin o a b) := fun z f => by
  simp only [ev] at z
  replace z := two ia ib z f; obtain ⟨x, y, d, e, h2, S2, fr2, k, z, q1, q2, ou⟩ := z
  replace z := of_eq_ok z; obtain ⟨z, y0⟩ := z; subst y0
  obtain ⟨r, h3, S3, a1, a2, a3⟩ := bop_ok ou.f.w z q1 q2
  exact ⟨r, h3, S3, by simp only [Ev.ev]; rw [k]; exact a1, .of a2, ou.al a3⟩
theorem cmp_ok {o : COp} (ia : EvOk P P' a) (ib : EvOk P P' b) : EvOk P P' (.cmp o a b) := fun z f => by
  simp only [ev] at z
  replace z := two ia ib z f; obtain ⟨x, y, d, e, h2, S2, fr2, k, z, q1, q2, ou⟩ := z
  replace z := of_eq_ok z; obtain ⟨z, y0⟩ := z; subst y0
  simp only [Option.map_eq_some_iff] at z
  obtain ⟨b, z, rfl⟩ := z
  exact ⟨.bl b, h2, S2, by simp only [Ev.ev]; rw [k, cop_ok z q1.u q2.u]; rfl, .of rfl, ou⟩
theorem ix_ok (ia : EvOk P P' a) (ib : EvOk P P' b) : EvOk P P' (.ix a b) := fun z f => by
  simp only [ev] at z
  replace z := two ia ib z f; obtain ⟨x, y, d, e, h2, S2, fr2, k, z, q1, q2, ou⟩ := z
  replace z := of_eq_ok z; obtain ⟨z, y0⟩ := z; subst y0
  obtain ⟨r, a1, a2⟩ := ixd_ok z q1 q2
  exact ⟨r, h2, S2, by simp only [Ev.ev]; rw [k, a1]; rfl, .of a2, ou⟩
theorem ch_ok {o p : COp} {c : E} (ia : EvOk P P' a) (ib : EvOk P P' b) (ic : EvOk P P' c) : EvOk P P' (.ch o p a b c) := fun z f => by
  simp only [ev] at z
  replace z := bind_eq_ok z; obtain ⟨x, fr1, z1, z⟩ := z
  replace z := bind_eq_ok z; obtain ⟨y, fr2, z2, z⟩ := z
  replace z := bind_eq_ok z; obtain ⟨k, fr3, z3, z⟩ := z
  replace z3 := of_eq_ok z3; obtain ⟨z3, y0⟩ := z3; subst y0
  obtain ⟨d, h1, S1, e1, q1, o1⟩ := ia z1 f
  obtain ⟨e, h2, S2, e2, q2, o2⟩ := ib z2 o1.f
  have q1' := (q1.tr o1.f o2.tr id (ev_vd e1)).t
  have c1 := cop_ok z3 q1'.u q2.t.u
  cases k with
  | false =>
    simp only [Bool.false_eq_true, if_false] at z
    cases z
    refine ⟨.bl false, h2, S2, by simp only [Ev.ev, e1, Ev.bind_ok, e2, c1, Ev.of_some]; rfl, .of rfl, ?_⟩
    exact (o1.trans o2).weak (by simp only [tch]; intro i hi; simp at hi ⊢; rcases hi with hi | hi <;> simp [hi])
  | true =>
    simp only [if_true] at z
    replace z := bind_eq_ok z; obtain ⟨y2, fr4, z4, z⟩ := z
    replace z := of_eq_ok z; obtain ⟨z, y0⟩ := z; subst y0
    obtain ⟨g, h3, S3, e3, q3, o3⟩ := ic z4 o2.f
    simp only [Option.map_eq_some_iff] at z
    obtain ⟨b', z, rfl⟩ := z
    have c2 := cop_ok z (q2.tr o2.f o3.tr id (ev_vd e2)).t.u q3.t.u
    exact ⟨.bl b', h3, S3, by simp only [Ev.ev, e1, Ev.bind_ok, e2, c1, Ev.of_some, if_true, e3, c2]; rfl, .of rfl, o1.trans (o2.trans o3)⟩
theorem nt_ok (ia : EvOk P P' a) : EvOk P P' (.nt a) := fun z f => by
  simp only [ev] at z
  replace z := bind_eq_ok z; obtain ⟨x, fr1, z1, z⟩ := z
  obtain ⟨d, h1, S1, e1, q1, o1⟩ := ia z1 f
  cases x <;> simp only [reduceCtorEq] at z
  cases z
  have q := q1.t
  simp only [RepT, Rep] at q
  subst q
  exact ⟨_, h1, S1, by simp only [Ev.ev, e1, Ev.bind_ok], .of rfl, o1⟩
theorem neg_ok (ia : EvOk P P' a) : EvOk P P' (.neg a) := fun z f => by
  simp only [ev] at z
  replace z := bind_eq_ok z; obtain ⟨x, fr1, z1, z⟩ := z
  obtain ⟨d, h1, S1, e1, q1, o1⟩ := ia z1 f
  cases x <;> simp only [reduceCtorEq] at z
  cases z
  have q := q1.t
  simp only [RepT, Rep] at q
  subst q
  exact ⟨_, h1, S1, by simp only [Ev.ev, e1, Ev.bind_ok], .of rfl, o1⟩
theorem an_ok (ia : EvOk P P' a) (ib : EvOk P P' b) : EvOk P P' (.an a b) := fun z f => by
  simp only [ev] at z
  replace z := bind_eq_ok z; obtain ⟨x, fr1, z1, z⟩ := z
  obtain ⟨d, h1, S1, e1, q1, o1⟩ := ia z1 f
  cases x <;> try (cases z; done)
  rename_i k
  have q := q1.t
  simp only [RepT, Rep] at q
  subst q
  cases k with
  | true =>
    try simp only at z
    obtain ⟨d, h2, S2, e2, q2, o2⟩ := ib z o1.f
    exact ⟨d, h2, S2, by simp only [Ev.ev, e1, Ev.bind_ok, e2], q2, o1.trans o2⟩
  | false =>
    try simp only at z
    cases z
    exact ⟨_, h1, S1, by simp only [Ev.ev, e1, Ev.bind_ok], .of rfl, o1.weak (by simp only [tch]; intro i hi; simp [hi])⟩
theorem orr_ok (ia : EvOk P P' a) (ib : EvOk P P' b) : EvOk P P' (.orr a b) := fun z f => by
  simp only [ev] at z
  replace z := bind_eq_ok z; obtain ⟨x, fr1, z1, z⟩ := z
  obtain ⟨d, h1, S1, e1, q1, o1⟩ := ia z1 f
  cases x <;> try (cases z; done)
  rename_i k
  have q := q1.t
  simp only [RepT, Rep] at q
  subst q
  cases k with
  | false =>
    try simp only at z
    obtain ⟨d, h2, S2, e2, q2, o2⟩ := ib z o1.f
    exact ⟨d, h2, S2, by simp only [Ev.ev, e1, Ev.bind_ok, e2], q2, o1.trans o2⟩
  | true =>
    try simp only at z
    cases z
    exact ⟨_, h1, S1, by simp only [Ev.ev, e1, Ev.bind_ok], .of rfl, o1.weak (by simp only [tch]; intro i hi; simp [hi])⟩
theorem ife_ok (it : EvTOk P P' tt) (ia : EvOk P P' a) (ib : EvOk P P' b) : EvOk P P' (.ife tt a b) := fun z f => by
  simp only [ev] at z
  replace z := bind_eq_ok z; obtain ⟨k, fr1, z1, z⟩ := z
  obtain ⟨h1, S1, e1, o1⟩ := it z1 f
  cases k with
  | true =>
    simp only [if_true] at z
    obtain ⟨d, h2, S2, e2, q2, o2⟩ := ia z o1.f
    exact ⟨d, h2, S2, by simp only [Ev.ev, e1, Ev.bind_ok, if_true, e2], q2, (o1.trans o2).weak (by simp only [tch]; intro i hi; simp at hi ⊢; rcases hi with hi | hi <;> simp [hi])⟩
  | false =>
    simp only [Bool.false_eq_true, if_false] at z
    obtain ⟨d, h2, S2, e2, q2, o2⟩ := ib z o1.f
    exact ⟨d, h2, S2, by simp only [Ev.ev, e1, Ev.bind_ok]; rw [if_neg (by decide)]; exact e2, q2, (o1.trans o2).weak (by simp only [tch]; intro i hi; simp at hi ⊢; rcases hi with hi | hi <;> simp [hi])⟩
theorem sl_ok (ia : EvOk P P' a) (il : EvoOk P P' lo) (ih : EvoOk P P' hi) : EvOk P P' (.sl a lo hi) := fun z f => by
  simp only [ev] at z
  replace z := bind_eq_ok z; obtain ⟨x, fr1, z1, z⟩ := z
  replace z := bind_eq_ok z; obtain ⟨l, fr2, z2, z⟩ := z
  replace z := bind_eq_ok z; obtain ⟨u, fr3, z3, z⟩ := z
  replace z := of_eq_ok z; obtain ⟨z, y0⟩ := z; subst y0
  obtain ⟨d, h1, S1, e1, q1, o1⟩ := ia z1 f
  obtain ⟨h2, S2, e2, o2⟩ := il z2 o1.f
  obtain ⟨h3, S3, e3, o3⟩ := ih z3 o2.f
  have q := (q1.tr o1.f (o2.trans o3).tr id (ev_vd e1)).t
  obtain ⟨r, h4, S4, a1, a2, a3⟩ := sld_ok o3.f.w z q
  exact ⟨r, h4, S4, by simp only [Ev.ev, e1, Ev.bind_ok, e2, e3, a1], .of a2, (o1.trans (o2.trans o3)).al a3⟩
theorem rv_ok (ia : EvOk P P' a) : EvOk P P' (.rv a) := fun z f => by
  simp only [ev] at z
  replace z := bind_eq_ok z; obtain ⟨x, fr1, z1, z⟩ := z
  replace z := of_eq_ok z; obtain ⟨z, y0⟩ := z; subst y0
  obtain ⟨d, h1, S1, e1, q1, o1⟩ := ia z1 f
  obtain ⟨r, h4, S4, a1, a2, a3⟩ := rvd_ok o1.f.w z q1.t
  exact ⟨r, h4, S4, by simp only [Ev.ev, e1, Ev.bind_ok, a1], .of a2, o1.al a3⟩
theorem lefts_dvs : ∀ {es : Es} {fr fr1 : Fr} {as : List (Nat ⊕ V)}, evA P es fr = .ok as fr1 → ∀ i ∈ lefts as, i ∈ dvs es
  | .nil, _, _, _, z => by simp only [evA] at z; cases z; simp [lefts]
  | .cons e es, fr, fr1, as, z => by
    simp only [evA] at z
    cases y : isV fr e with
    | some i =>
      rw [y] at z
      simp only at z
      replace z := bind_eq_ok z; obtain ⟨xs, fr3, z2, z⟩ := z
      cases z
      have hy : e = .v i := by
        cases e <;> simp only [isV, reduceCtorEq] at y
        split at y
        · cases y; rfl
        · cases y
      subst hy
      intro j hj
      simp only [lefts, List.mem_cons] at hj
      simp only [dvs, List.mem_cons]
      exact hj.imp id fun hj => lefts_dvs z2 j hj
    | none =>
      rw [y] at z
      simp only at z
      replace z := bind_eq_ok z; obtain ⟨x, fr2, z1, z⟩ := z
      replace z := bind_eq_ok z; obtain ⟨xs, fr3, z2, z⟩ := z
      cases z
      intro j hj
      simp only [lefts] at hj
      have := lefts_dvs z2 j hj
      cases e <;> simp only [dvs] <;> first | exact this | exact List.mem_cons_of_mem _ this
theorem cl_ok (HP : PhiOk P P') {g : Nat} (is : EvAOk P P' es) : EvOk P P' (.cl g es) := fun z f => by
  simp only [ev] at z
  replace z := bind_eq_ok z; obtain ⟨as, fr1, z1, z⟩ := z
  obtain ⟨ds, h1, S1, e1, q1, o1⟩ := is z1 f
  obtain ⟨d, h2, S2, e2, q2, o2⟩ := callF_ok HP z o1.f q1
  exact ⟨d, h2, S2, by simp only [Ev.ev, e1, Ev.bind_ok, e2], .of q2, (o1.trans o2).weak (by
    simp only [tch]
    intro i hi
    rcases List.mem_append.mp hi with hi | hi
    · exact List.mem_append.mpr (.inl hi)
    · exact List.mem_append.mpr (.inr (lefts_dvs z1 i hi)))⟩
theorem bi_ok {g : BI} (is : EvsOk P P' es) : EvOk P P' (.bi g es) := fun z f => by
  simp only [ev] at z
  replace z := bind_eq_ok z; obtain ⟨as, fr1, z1, z⟩ := z
  replace z := of_eq_ok z; obtain ⟨z, y0⟩ := z; subst y0
  obtain ⟨ds, h1, S1, e1, q1, o1⟩ := is z1 f
  obtain ⟨r, h4, S4, a1, a2, a3⟩ := bfn_ok o1.f.w z q1.t
  exact ⟨r, h4, S4, by simp only [Ev.ev, e1, Ev.bind_ok, a1], .of a2, o1.al a3⟩
theorem isi_ok {ts : List TY} (ia : EvOk P P' a) : EvOk P P' (.isi a ts) := fun z f => by
  simp only [ev] at z
  replace z := bind_eq_ok z; obtain ⟨x, fr1, z1, z⟩ := z
  cases z
  obtain ⟨d, h1, S1, e1, q1, o1⟩ := ia z1 f
  have : Ev.tyOf h1 d = tyOf x := funext fun t => tyOf_ok q1.t t
  refine ⟨.bl (ts.any (Ev.tyOf h1 d)), h1, S1, by simp only [Ev.ev, e1, Ev.bind_ok], .of ?_, o1⟩
  rw [this]; rfl
theorem dget_ok {kvs : List (D × D)} (ia : EvOk P P' a) : EvOk P P' (.dget kvs a) := fun z f => by
  simp only [ev] at z
  replace z := bind_eq_ok z; obtain ⟨x, fr1, z1, z⟩ := z
  replace z := of_eq_ok z; obtain ⟨z, y0⟩ := z; subst y0
  obtain ⟨d, h1, S1, e1, q1, o1⟩ := ia z1 f
  obtain ⟨r, a1, a2⟩ := lookD_ok (S := S1) q1.t.u z
  exact ⟨r, h1, S1, by simp only [Ev.ev, e1, Ev.bind_ok, a1, Ev.of_some], .of a2, o1⟩
theorem ttp_ok (ia : EvOk P P' a) : EvOk P P' (.ttp a) := fun z f => by
  simp only [ev] at z
  replace z := bind_eq_ok z; obtain ⟨x, fr1, z1, z⟩ := z
  replace z := of_eq_ok z; obtain ⟨z, y0⟩ := z; subst y0
  obtain ⟨d, h1, S1, e1, q1, o1⟩ := ia z1 f
  obtain ⟨r, a1, a2⟩ := toT_ok z q1.t
  exact ⟨r, h1, S1, by simp only [Ev.ev, e1, Ev.bind_ok, a1], .of a2, o1⟩
theorem me_ok {m : ME} {o : E} (io : EvOk P P' o) (is : EvsOk P P' es) : EvOk P P' (.me m o es) := fun {k fr v fr1 M B h S fr'} z f => by
  simp only [ev] at z
  by_cases hm : isMut m = true
  · rw [if_pos hm] at z
    cases y : isV fr o with
    | none => rw [y] at z; cases z
    | some i =>
    rw [y] at z
    try simp only at z
    replace z := bind_eq_ok z; obtain ⟨as, fr2, z1, z⟩ := z
    have hy : o = .v i ∧ ∃ s, lent fr i = some s := by
      cases o <;> simp only [isV, reduceCtorEq] at y
      rename_i j
      split at y
      · rename_i hs
        cases y
        exact ⟨rfl, Option.isSome_iff_exists.mp hs⟩
      · cases y
    obtain ⟨rfl, s, hs⟩ := hy
    obtain ⟨n, cs, _, _, _, w2, w3, _, _⟩ := lent_ok hs f
    obtain ⟨ds, h1, S1, e1, q1, o1⟩ := is z1 f
    have hr : Ev.rcv m (.ref n) h = true := by cases m <;> simp [isMut] at hm <;> simp [Ev.rcv, lo_l w3]
    have hap : m = .append ∨ m = .setsl → RepL h1 S1 as ds := fun hh => by rcases hh with rfl | rfl <;> exact q1.n
    have fin : ∀ s l l', fr2[i]? = some (some s) → isM (some s) = true → (∃ m' cs', fr'[i]? = some (some (.ref m')) ∧ h1[m']? = some (.lst cs') ∧ RepL h1 S1 l cs') → mtf m l as = some (v, l') → fr1 = fr2.set i (some (s.with l')) →
        ∃ d h' S', Ev.ev P' (.me m (.v i) es) fr' h = .ok d h' ∧ RepK k h' S' v d ∧ Out M B (tch (.me m (.v i) es)) h S fr fr' h' S' fr1 := by
      intro s l l' k1 k2 ⟨m', cs', k3, k4, k5⟩ k6 k7
      rw [w2] at k3; cases k3
      have mn := o1.f.mM k1 k2 w2
      obtain ⟨r, ds', a1, a2, a3⟩ := mtf_ok k6 k4 k5 q1.t hap fun k z y => (o1.f.wS k z).2.1 (y ▸ mn)
      have fw := o1.f.write (l' := l') k1 k2 w2 a3
      subst k7
      refine ⟨r, _, S1, ?_, .of (a2.mono (fun m z => set_ne fun y => (o1.f.wS m z).2.1 (y ▸ mn)) fun _ z => z), fw, ?_, fun j => ?_⟩
      · simp only [Ev.ev, w2, Option.join, Ev.of_some, Ev.bind_ok, hr, if_true, e1]
        simp only [Option.bind, id, Ev.of_some, Ev.bind_ok, hr, if_true, e1]
        exact a1
      · refine ⟨by simpa using o1.tr.len, fun m y1 y2 => ?_, o1.tr.sub, fun m y => by simpa using o1.tr.new m y⟩
        have y3 : ¬ Xs M fr' (tchs es) m := fun z => y2 (Xs.mono (by simp only [tch]; intro i hi; simp [hi]) z)
        have y4 : m ≠ n := fun z => y2 ⟨z ▸ mn, i, by simp [tch, mvs, hm], by rw [z]; exact w2⟩
        rw [set_ne (fun (z : n = m) => y4 z.symm)]
        exact o1.tr.keep m y1 y3
      · rw [← o1.lk j]
        unfold locked
        by_cases hj : i = j
        · subst hj
          rw [List.getElem?_set_self (List.getElem?_eq_some_iff.mp k1).1, k1]
          exact with_lk
        · rw [List.getElem?_set_ne hj]
    split at z
    · rename_i l k1
      have old := o1.f.get k1
      obtain ⟨p, k2, m', cs', rfl, _, k4, k5⟩ := old
      split at z
      · rename_i v' l' k6
        cases z
        exact fin _ l l' k1 rfl ⟨m', cs', k2, k4, k5⟩ k6 rfl
      · cases z
    · rename_i l k1
      have old := o1.f.get k1
      obtain ⟨p, k2, m', cs', rfl, _, k4, k5⟩ := old
      split at z
      · rename_i v' l' k6
        cases z
        exact fin _ l l' k1 rfl ⟨m', cs', k2, k4, k5⟩ k6 rfl
      · cases z
    · cases z
  · rw [if_neg hm] at z
    replace z := bind_eq_ok z; obtain ⟨x, fr2, z1, z⟩ := z
    replace z := bind_eq_ok z; obtain ⟨as, fr3, z2, z⟩ := z
    replace z := of_eq_ok z; obtain ⟨z, y0⟩ := z; subst y0
    obtain ⟨d, h1, S1, e1, q1, o1⟩ := io z1 f
    obtain ⟨ds, h2, S2, e2, q2, o2⟩ := is z2 o1.f
    have hm' : isMut m = false := by simpa using hm
    have q1' := (q1.tr o1.f o2.tr id (ev_vd e1)).t
    obtain ⟨a1, r, a2, a3⟩ := mef_ok z hm' q1' q2.t
    have hr : Ev.rcv m d h1 = true := by
      unfold mef at z
      split at z
      · have := q1.t; simp only [RepT, Rep] at this; subst this; rfl
      · simp only [Option.map_eq_some_iff, Option.bind_eq_some_iff] at z; obtain ⟨_, ⟨l, z, _⟩, _⟩ := z
        obtain ⟨n, es, rfl, a, q⟩ := lOf_ok z q1.t
        simp [Ev.rcv, a]
      · simp only [Option.map_eq_some_iff, Option.bind_eq_some_iff] at z; obtain ⟨_, ⟨l, z, _⟩, _⟩ := z
        obtain ⟨n, es, rfl, a, q⟩ := lOf_ok z q1.t
        simp [Ev.rcv, a]
      · cases z
    exact ⟨r, h2, S2, by simp only [Ev.ev, e1, Ev.bind_ok, hr, if_true, e2, a2], .of a3, (o1.trans o2).weak (by simp only [tch]; intro i hi; simp at hi ⊢; rcases hi with hi | hi <;> simp [hi])⟩
theorem comp_okE {elt : E} {t : T} {cond : Eo} (ii : EviOk P P' it) (ic : EvcOk P P' cond) (ie : EvOk P P' elt) : EvOk P P' (.comp elt t it cond) := fun z f => by
  simp only [ev] at z
  replace z := bind_eq_ok z; obtain ⟨vs, fr2, z1, z⟩ := z
  split at z
  case isFalse => cases z
  rename_i hu
  replace z := of_eq_ok z; obtain ⟨z, y0⟩ := z; subst y0
  simp only [Option.bind_eq_some_iff] at z
  obtain ⟨rs, z2, z3⟩ := z
  obtain ⟨s, h1, S1, e1, q1, q2, o1⟩ := ii z1 f
  have fro := o1.f.ro
  obtain ⟨rs', h2, S2, c1, c2, c3⟩ := comp_ok (f' := fun d h2 => match Ev.bindT t d _ with
        | none => .bad
        | some fr2 => (Ev.evc P' cond fr2 h2).bind fun k h3 => if k then (Ev.ev P' elt fr2 h3).bind fun x h4 => .ok (some x) h4 else .ok none h3) (ck := s.2) o1.f.w (fun q hq => (q2 q hq).1) (fun v o d h S al y q => by
    split at y
    · cases y
    · rename_i fr3 y1
      obtain ⟨fr3', b1, b2, _, _⟩ := (fro.al al).bindT y1 q
      rw [b1]
      split at y
      · rename_i c fr4 y2
        obtain ⟨h3, S3, c1, oc⟩ := ic y2 b2
        have al3 : Al h S h3 S3 := oc.tr.al fun m z => z.1
        split at y
        · rename_i hc
          subst hc
          split at y
          · rename_i x fr5 y3
            cases y
            obtain ⟨d', h4, S4, d1, d2, od⟩ := ie y3 (b2.al al3)
            refine ⟨some d', h4, S4, ?_, ⟨d', rfl, d2.n⟩, al3.trans (od.tr.al fun m z => z.1)⟩
            simp only [c1, Ev.bind_ok, if_true, d1]
          · cases y
        · rename_i hc
          cases y
          refine ⟨none, h3, S3, ?_, rfl, al3⟩
          simp only [c1, Ev.bind_ok]
          rw [if_neg hc]
      · cases y) Al.refl z2 q1
  obtain ⟨r, h4, S4, a1, a2, a3⟩ := mkL_ok (o1.f.al c3).w z3 c2
  refine ⟨r, h4, S4, ?_, .of a2, (o1.al c3).al a3⟩
  simp only [Ev.ev, e1, Ev.bind_ok]
  rw [if_pos (o1.f.undef hu)]
  refine Eq.trans (congrArg (fun q : Ev.R (List D) => q.bind fun ds h2 => Ev.alloc ds h2) c1) ?_
  simp only [Ev.bind_ok, a1]
theorem lof_ok (ii : EviOk P P' it) : EvOk P P' (.lof it) := fun z f => by
  simp only [ev] at z
  replace z := bind_eq_ok z; obtain ⟨vs, fr2, z1, z⟩ := z
  replace z := of_eq_ok z; obtain ⟨z, y0⟩ := z; subst y0
  obtain ⟨s, h1, S1, e1, q1, q2, o1⟩ := ii z1 f
  obtain ⟨r, h4, S4, a1, a2, a3⟩ := mkL_ok o1.f.w z q1
  exact ⟨r, h4, S4, by simp only [Ev.ev, e1, Ev.bind_ok, a1], .of a2, o1.al a3⟩
theorem tof_ok (ii : EviOk P P' it) : EvOk P P' (.tof it) := fun z f => by
  simp only [ev] at z
  replace z := bind_eq_ok z; obtain ⟨vs, fr2, z1, z⟩ := z
  replace z := of_eq_ok z; obtain ⟨z, y0⟩ := z; subst y0
  obtain ⟨s, h1, S1, e1, q1, q2, o1⟩ := ii z1 f
  unfold mkT at z
  split at z
  · rename_i hk
    cases z
    refine ⟨.tup s.1, h1, S1, ?_, .of ⟨_, rfl, q1⟩, o1⟩
    simp only [Ev.ev, e1, Ev.bind_ok]
    rw [if_pos (by rw [← q1.length]; exact hk)]
  · cases z
theorem nil_ok : EvsOk P P' .nil := fun {k fr v fr1 M B h S fr'} z f => by
  simp only [evs] at z
  cases z
  refine ⟨[], _, _, by simp only [Ev.evs], ?_, .refl f⟩
  unfold RepKL; split <;> rfl
theorem cons_ok (ie : EvOk P P' e) (is : EvsOk P P' es) : EvsOk P P' (.cons e es) := fun {k fr v fr1 M B h S fr'} z f => by
  simp only [evs] at z
  replace z := bind_eq_ok z; obtain ⟨x, fr2, z1, z⟩ := z
  replace z := bind_eq_ok z; obtain ⟨xs, fr3, z2, z⟩ := z
  cases z
  obtain ⟨d, h1, S1, e1, q1, o1⟩ := ie z1 f
  obtain ⟨ds, h2, S2, e2, q2, o2⟩ := is z2 o1.f
  have q1' := q1.tr (a := e) o1.f o2.tr (by intro z; simp at z; exact z.2) (ev_vd e1)
  refine ⟨d :: ds, h2, S2, by simp only [Ev.evs, e1, Ev.bind_ok, e2], ?_, o1.trans o2⟩
  unfold RepKL at q2 ⊢
  cases k with
  | true => simp only [if_true] at q2 ⊢; exact ⟨d, ds, rfl, q1'.t, q2⟩
  | false =>
    simp only [Bool.false_eq_true, if_false] at q2 ⊢
    exact .cons (by simpa [RepK] using q1') q2
theorem nilA_ok : EvAOk P P' .nil := fun z f => by
  simp only [evA] at z
  cases z
  exact ⟨[], _, _, by simp only [Ev.evs], rfl, .refl f⟩
theorem consA_ok (ie : EvOk P P' e) (is : EvAOk P P' es) : EvAOk P P' (.cons e es) := fun {fr v fr1 M B h S fr'} z f => by
  simp only [evA] at z
  cases y : isV fr e with
  | some i =>
    rw [y] at z
    try simp only at z
    replace z := bind_eq_ok z; obtain ⟨xs, fr3, z2, z⟩ := z
    cases z
    have hy : e = .v i ∧ ∃ s, lent fr i = some s := by
      cases e <;> simp only [isV, reduceCtorEq] at y
      rename_i j
      split at y
      · rename_i hs
        cases y
        exact ⟨rfl, Option.isSome_iff_exists.mp hs⟩
      · cases y
    obtain ⟨rfl, s, hs⟩ := hy
    obtain ⟨n, cs, _, _, _, w2, w3, _, _⟩ := lent_ok hs f
    obtain ⟨ds, h2, S2, e2, q2, o2⟩ := is z2 f
    refine ⟨.ref n :: ds, h2, S2, ?_, ⟨_, _, rfl, w2, q2⟩, o2.weak (by simp only [tchs, tch]; intro i hi; simpa using hi)⟩
    simp only [Ev.evs, Ev.ev, w2, Option.join, Option.bind, id, Ev.of_some, Ev.bind_ok, e2]
  | none =>
    rw [y] at z
    try simp only at z
    replace z := bind_eq_ok z; obtain ⟨x, fr2, z1, z⟩ := z
    replace z := bind_eq_ok z; obtain ⟨xs, fr3, z2, z⟩ := z
    cases z
    obtain ⟨d, h1, S1, e1, q1, o1⟩ := ie z1 f
    obtain ⟨ds, h2, S2, e2, q2, o2⟩ := is z2 o1.f
    exact ⟨d :: ds, h2, S2, by simp only [Ev.evs, e1, Ev.bind_ok, e2], ⟨_, _, rfl, q1.n.tr o1.f o2.tr, q2⟩, o1.trans o2⟩
theorem no_ok : EvoOk P P' .no := fun z f => by
  simp only [evo] at z; cases z
  exact ⟨_, _, by simp only [Ev.evo], .refl f⟩
theorem yes_ok (ie : EvOk P P' e) : EvoOk P P' (.yes e) := fun z f => by
  simp only [evo] at z
  replace z := bind_eq_ok z; obtain ⟨x, fr2, z1, z⟩ := z
  replace z := of_eq_ok z; obtain ⟨z, y0⟩ := z; subst y0
  obtain ⟨d, h1, S1, e1, q1, o1⟩ := ie z1 f
  cases x <;> simp [intOf] at z
  subst z
  have q := q1.t
  simp only [RepT, Rep] at q
  subst q
  exact ⟨h1, S1, by simp only [Ev.evo, e1, Ev.bind_ok]; rfl, o1⟩
theorem noc_ok : EvcOk P P' .no := fun z f => by
  simp only [evc] at z; cases z
  exact ⟨_, _, by simp only [Ev.evc], .refl f⟩
theorem yesc_ok (ie : EvTOk P P' e) : EvcOk P P' (.yes e) := fun z f => by
  simp only [evc] at z
  obtain ⟨h1, S1, e1, o1⟩ := ie z f
  exact ⟨h1, S1, by simp only [Ev.evc, e1], o1⟩
theorem t_an (ia : EvTOk P P' a) (ib : EvTOk P P' b) : EvTOk P P' (.an a b) := fun z f => by
  simp only [evT] at z
  replace z := bind_eq_ok z; obtain ⟨k, fr1, z1, z⟩ := z
  obtain ⟨h1, S1, e1, o1⟩ := ia z1 f
  cases k with
  | true =>
    simp only [if_true] at z
    obtain ⟨h2, S2, e2, o2⟩ := ib z o1.f
    exact ⟨h2, S2, by simp only [Ev.evT, e1, Ev.bind_ok, if_true, e2], o1.trans o2⟩
  | false =>
    simp only [Bool.false_eq_true, if_false] at z
    cases z
    exact ⟨h1, S1, by simp only [Ev.evT, e1, Ev.bind_ok]; rfl, o1.weak (by simp only [tch]; intro i hi; simp [hi])⟩
theorem t_orr (ia : EvTOk P P' a) (ib : EvTOk P P' b) : EvTOk P P' (.orr a b) := fun z f => by
  simp only [evT] at z
  replace z := bind_eq_ok z; obtain ⟨k, fr1, z1, z⟩ := z
  obtain ⟨h1, S1, e1, o1⟩ := ia z1 f
  cases k with
  | false =>
    simp only [Bool.false_eq_true, if_false] at z
    obtain ⟨h2, S2, e2, o2⟩ := ib z o1.f
    exact ⟨h2, S2, by simp only [Ev.evT, e1, Ev.bind_ok]; rw [if_neg (by decide)]; exact e2, o1.trans o2⟩
  | true =>
    simp only [if_true] at z
    cases z
    exact ⟨h1, S1, by simp only [Ev.evT, e1, Ev.bind_ok]; rfl, o1.weak (by simp only [tch]; intro i hi; simp [hi])⟩
theorem t_nt (ia : EvTOk P P' a) : EvTOk P P' (.nt a) := fun z f => by
  simp only [evT] at z
  replace z := bind_eq_ok z; obtain ⟨k, fr1, z1, z⟩ := z
  obtain ⟨h1, S1, e1, o1⟩ := ia z1 f
  cases z
  exact ⟨h1, S1, by simp only [Ev.evT, e1, Ev.bind_ok], o1⟩
theorem t_val (ie : EvOk P P' e) (h1 : ∀ fr, evT P e fr = (ev P true e fr).bind fun x fr1 => .ok (truthy x) fr1) (h2 : ∀ fr h, Ev.evT P' e fr h = (Ev.ev P' e fr h).bind fun x h1 => Ev.R.of (Ev.truthy h1 x) h1) : EvTOk P P' e := fun z f => by
  rw [h1] at z
  replace z := bind_eq_ok z; obtain ⟨x, fr1, z1, z⟩ := z
  cases z
  obtain ⟨d, h1, S1, e1, q1, o1⟩ := ie z1 f
  exact ⟨h1, S1, by rw [h2, e1, Ev.bind_ok, truthy_ok q1.t]; rfl, o1⟩
theorem src_ok (ie : EvOk P P' e) {k : Bool} {fr : Fr} {v : V} {fr1 : Fr} {M B : Nat → Prop} {h : Hh} {S : Nat → Prop} {fr' : Ev.Fr} (z : src k fr e (ev P k e fr) = .ok v fr1) (f : FrR M B h S fr fr') :
    ∃ d h' S', Ev.ev P' e fr' h = .ok d h' ∧ RepT h' S' v d ∧ (k = false → ∀ n, d = .ref n → ¬ M n) ∧ Out M B (tch e) h S fr fr' h' S' fr1 := by
  have gen : ev P k e fr = .ok v fr1 → ∃ d h' S', Ev.ev P' e fr' h = .ok d h' ∧ RepT h' S' v d ∧ (k = false → ∀ n, d = .ref n → ¬ M n) ∧ Out M B (tch e) h S fr fr' h' S' fr1 := fun z => by
    obtain ⟨d, h1, S1, e1, q1, o1⟩ := ie z f
    refine ⟨d, h1, S1, e1, q1.t, fun hk n hd => ?_, o1⟩
    subst hk
    have q := q1.n
    cases v <;> simp only [Rep] at q
    · cases q.symm.trans hd
    · cases q.symm.trans hd
    · cases q.symm.trans hd
    · cases q.symm.trans hd
    · obtain ⟨_, q, _⟩ := q; cases q.symm.trans hd
    · obtain ⟨m, ds, q, sm, _⟩ := q; cases q.symm.trans hd; exact (o1.f.wS _ sm).2.1
    · obtain ⟨m, ds, q, sm, _⟩ := q; cases q.symm.trans hd; exact (o1.f.wS _ sm).2.1
  cases e
  case v i =>
    simp only [src] at z
    replace z := of_eq_ok z; obtain ⟨z, y0⟩ := z; subst y0
    unfold getS at z
    split at z
    · rename_i l y
      cases z
      obtain ⟨p, e1, m, ds, rfl, y1, y2, y3⟩ := f.get y
      exact ⟨.ref m, h, S, by simp only [Ev.ev, e1, Option.join, Option.bind, id, Ev.of_some], ⟨m, ds, rfl, y2, y3⟩, fun _ n hn => by cases hn; exact y1, .refl f⟩
    · exact gen (by simp only [ev, z, of_some])
  all_goals exact gen z
theorem seq_ok (ie : EvOk P P' e) : EviOk P P' (.seq e) := fun z f => by
  simp only [evi] at z
  replace z := bind_eq_ok z; obtain ⟨x, fr1, z1, z⟩ := z
  replace z := of_eq_ok z; obtain ⟨z, y0⟩ := z; subst y0
  obtain ⟨d, h1, S1, e1, q1, q2, o1⟩ := src_ok ie z1 f
  obtain ⟨s, a1, a2, a3⟩ := seqOf_ok z q1
  exact ⟨s, h1, S1, by simp only [Ev.evi, e1, Ev.bind_ok, a1, Ev.of_some], a2, fun q hq => ⟨(a3 q hq).2, fun hk => q2 hk _ (a3 q hq).1⟩, o1⟩
theorem rng_okI (is : EvsOk P P' es) : EviOk P P' (.rng es) := fun z f => by
  simp only [evi] at z
  replace z := bind_eq_ok z; obtain ⟨x, fr1, z1, z⟩ := z
  replace z := of_eq_ok z; obtain ⟨z, y0⟩ := z; subst y0
  obtain ⟨d, h1, S1, e1, q1, o1⟩ := is z1 f
  obtain ⟨s, a1, a2⟩ := rng_ok z q1.t
  exact ⟨(s, []), h1, S1, by simp only [Ev.evi, e1, Ev.bind_ok, a1, Ev.of_some], a2, fun q hq => by simp at hq, o1⟩
theorem enum_okI (ie : EvOk P P' e) : EviOk P P' (.enum e) := fun z f => by
  simp only [evi] at z
  replace z := bind_eq_ok z; obtain ⟨x, fr1, z1, z⟩ := z
  replace z := of_eq_ok z; obtain ⟨z, y0⟩ := z; subst y0
  obtain ⟨d, h1, S1, e1, q1, q2, o1⟩ := src_ok ie z1 f
  simp only [Option.map_eq_some_iff] at z
  obtain ⟨l, z, rfl⟩ := z
  obtain ⟨s, a1, a2, a3⟩ := seqOf_ok z q1
  exact ⟨(Ev.enumD 0 s.1, s.2), h1, S1, by simp only [Ev.evi, e1, Ev.bind_ok, a1, Option.map, Ev.of_some], enum_ok 0 a2, fun q hq => ⟨(a3 q hq).2, fun hk => q2 hk _ (a3 q hq).1⟩, o1⟩
theorem rev_okI (ie : EvOk P P' e) : EviOk P P' (.rev e) := fun z f => by
  simp only [evi] at z
  replace z := bind_eq_ok z; obtain ⟨x, fr1, z1, z⟩ := z
  replace z := of_eq_ok z; obtain ⟨z, y0⟩ := z; subst y0
  obtain ⟨d, h1, S1, e1, q1, q2, o1⟩ := src_ok ie z1 f
  simp only [Option.map_eq_some_iff] at z
  obtain ⟨l, z, rfl⟩ := z
  obtain ⟨s, a1, a2, a3⟩ := seqOf_ok z q1
  exact ⟨(s.1.reverse, s.2), h1, S1, by simp only [Ev.evi, e1, Ev.bind_ok, a1, Option.map, Ev.of_some], a2.reverse, fun q hq => ⟨(a3 q hq).2, fun hk => q2 hk _ (a3 q hq).1⟩, o1⟩
theorem zip_okI (ia : EvOk P P' a) (ib : EvOk P P' b) : EviOk P P' (.zip a b) := fun {k fr v fr1 M B h S fr'} z f => by
  simp only [evi] at z
  replace z := bind_eq_ok z; obtain ⟨x, fr2, z1, z⟩ := z
  replace z := bind_eq_ok z; obtain ⟨y, fr3, z2, z⟩ := z
  replace z := of_eq_ok z; obtain ⟨z, y0⟩ := z; subst y0
  obtain ⟨d, h1, S1, e1, q1, r1, o1⟩ := src_ok ia z1 f
  obtain ⟨e, h2, S2, e2, q2, r2, o2⟩ := src_ok ib z2 o1.f
  simp only [Option.map_eq_some_iff, Option.bind_eq_some_iff] at z
  obtain ⟨l, z3, m, z4, rfl⟩ := z
  have q1' : RepT h2 S2 x d := by
    by_cases hk : (k && kf a (tch b)) = true
    · exact (RepK.tr (k := true) (a := a) (by unfold RepK; rw [if_pos rfl]; exact q1) o1.f o2.tr (fun _ => by simp at hk; exact hk.2) (ev_vd e1)).t
    · have r1 := r1 (by simpa using hk)
      cases x
      case lst l =>
        simp only [RepT] at q1 ⊢
        obtain ⟨n, ds, rfl, a1, a2⟩ := q1
        exact ⟨n, ds, rfl, by rw [o2.tr.keep n (List.getElem?_eq_some_iff.mp a1).1 (fun z => r1 n rfl z.1)]; exact a1, a2.tr o1.f o2.tr⟩
      all_goals exact Rep.tr (show Rep h1 S1 _ d from q1) o1.f o2.tr
  obtain ⟨s, a1, a2, a3⟩ := lstS_ok z3 q1'
  obtain ⟨t, b1, b2, b3⟩ := lstS_ok z4 q2
  refine ⟨(Ev.zipD s.1 t.1, s.2 ++ t.2), h2, S2, by simp only [Ev.evi, e1, Ev.bind_ok, e2, a1, b1, Option.bind, Option.map, Ev.of_some], zip_ok a2 b2, fun q hq => ?_, o1.trans o2⟩
  rcases List.mem_append.mp hq with hq | hq
  · exact ⟨(a3 q hq).2, fun hk => r1 (by simp [hk]) _ (a3 q hq).1⟩
  · exact ⟨(b3 q hq).2, fun hk => r2 hk _ (b3 q hq).1⟩
end
section
variable {P : Phi} {P' : Ev.Phi} (HP : PhiOk P P')
include HP
mutual
theorem ev_ok : ∀ e : E, EvOk P P' e
  | .c _ => c_ok
  | .v _ => v_ok
  | .tup es => tup_ok (evs_ok es)
  | .lst es => lst_ok (evs_ok es)
  | .bin _ a b => bin_ok (ev_ok a) (ev_ok b)
  | .cmp _ a b => cmp_ok (ev_ok a) (ev_ok b)
  | .ch _ _ a b c => ch_ok (ev_ok a) (ev_ok b) (ev_ok c)
  | .nt a => nt_ok (ev_ok a)
  | .neg a => neg_ok (ev_ok a)
  | .an a b => an_ok (ev_ok a) (ev_ok b)
  | .orr a b => orr_ok (ev_ok a) (ev_ok b)
  | .ife t a b => ife_ok (evT_ok t) (ev_ok a) (ev_ok b)
  | .ix a b => ix_ok (ev_ok a) (ev_ok b)
  | .sl a lo hi => sl_ok (ev_ok a) (evo_ok lo) (evo_ok hi)
  | .rv a => rv_ok (ev_ok a)
  | .cl _ es => cl_ok HP (evA_ok es)
  | .bi _ es => bi_ok (evs_ok es)
  | .me _ o es => me_ok (ev_ok o) (evs_ok es)
  | .isi a _ => isi_ok (ev_ok a)
  | .comp elt _ it cond => comp_okE (evi_ok it) (evc_ok cond) (ev_ok elt)
  | .lof it => lof_ok (evi_ok it)
  | .tof it => tof_ok (evi_ok it)
  | .dget _ a => dget_ok (ev_ok a)
  | .ttp a => ttp_ok (ev_ok a)
theorem evT_ok : ∀ e : E, EvTOk P P' e
  | .an a b => t_an (evT_ok a) (evT_ok b)
  | .orr a b => t_orr (evT_ok a) (evT_ok b)
  | .nt a => t_nt (evT_ok a)
  | .c x => t_val c_ok (fun _ => by simp only [evT]) (fun _ _ => by simp only [Ev.evT])
  | .v x => t_val v_ok (fun _ => by simp only [evT]) (fun _ _ => by simp only [Ev.evT])
  | .tup es => t_val (tup_ok (evs_ok es)) (fun _ => by simp only [evT]) (fun _ _ => by simp only [Ev.evT])
  | .lst es => t_val (lst_ok (evs_ok es)) (fun _ => by simp only [evT]) (fun _ _ => by simp only [Ev.evT])
  | .bin _ a b => t_val (bin_ok (ev_ok a) (ev_ok b)) (fun _ => by simp only [evT]) (fun _ _ => by simp only [Ev.evT])
  | .cmp _ a b => t_val (cmp_ok (ev_ok a) (ev_ok b)) (fun _ => by simp only [evT]) (fun _ _ => by simp only [Ev.evT])
  | .ch _ _ a b c => t_val (ch_ok (ev_ok a) (ev_ok b) (ev_ok c)) (fun _ => by simp only [evT]) (fun _ _ => by simp only [Ev.evT])
  | .neg a => t_val (neg_ok (ev_ok a)) (fun _ => by simp only [evT]) (fun _ _ => by simp only [Ev.evT])
  | .ife t a b => t_val (ife_ok (evT_ok t) (ev_ok a) (ev_ok b)) (fun _ => by simp only [evT]) (fun _ _ => by simp only [Ev.evT])
  | .ix a b => t_val (ix_ok (ev_ok a) (ev_ok b)) (fun _ => by simp only [evT]) (fun _ _ => by simp only [Ev.evT])
  | .sl a lo hi => t_val (sl_ok (ev_ok a) (evo_ok lo) (evo_ok hi)) (fun _ => by simp only [evT]) (fun _ _ => by simp only [Ev.evT])
  | .rv a => t_val (rv_ok (ev_ok a)) (fun _ => by simp only [evT]) (fun _ _ => by simp only [Ev.evT])
  | .cl _ es => t_val (cl_ok HP (evA_ok es)) (fun _ => by simp only [evT]) (fun _ _ => by simp only [Ev.evT])
  | .bi _ es => t_val (bi_ok (evs_ok es)) (fun _ => by simp only [evT]) (fun _ _ => by simp only [Ev.evT])
  | .me _ o es => t_val (me_ok (ev_ok o) (evs_ok es)) (fun _ => by simp only [evT]) (fun _ _ => by simp only [Ev.evT])
  | .isi a _ => t_val (isi_ok (ev_ok a)) (fun _ => by simp only [evT]) (fun _ _ => by simp only [Ev.evT])
  | .comp elt _ it cond => t_val (comp_okE (evi_ok it) (evc_ok cond) (ev_ok elt)) (fun _ => by simp only [evT]) (fun _ _ => by simp only [Ev.evT])
  | .lof it => t_val (lof_ok (evi_ok it)) (fun _ => by simp only [evT]) (fun _ _ => by simp only [Ev.evT])
  | .tof it => t_val (tof_ok (evi_ok it)) (fun _ => by simp only [evT]) (fun _ _ => by simp only [Ev.evT])
  | .dget _ a => t_val (dget_ok (ev_ok a)) (fun _ => by simp only [evT]) (fun _ _ => by simp only [Ev.evT])
  | .ttp a => t_val (ttp_ok (ev_ok a)) (fun _ => by simp only [evT]) (fun _ _ => by simp only [Ev.evT])
theorem evs_ok : ∀ e : Es, EvsOk P P' e
  | .nil => nil_ok
  | .cons e es => cons_ok (ev_ok e) (evs_ok es)
theorem evA_ok : ∀ e : Es, EvAOk P P' e
  | .nil => nilA_ok
  | .cons e es => consA_ok (ev_ok e) (evA_ok es)
theorem evo_ok : ∀ e : Eo, EvoOk P P' e
  | .no => no_ok
  | .yes e => yes_ok (ev_ok e)
theorem evc_ok : ∀ e : Eo, EvcOk P P' e
  | .no => noc_ok
  | .yes e => yesc_ok (evT_ok e)
theorem evi_ok : ∀ e : It, EviOk P P' e
  | .seq e => seq_ok (ev_ok e)
  | .rng es => rng_okI (evs_ok es)
  | .zip a b => zip_okI (ev_ok a) (ev_ok b)
  | .enum a => enum_okI (ev_ok a)
  | .rev a => rev_okI (ev_ok a)
end
end
end Pv
set_option Elab.async false
set_option linter.all false
namespace Pv
open Ev (D O Hh BOp COp TY BI ME T E Es Eo It S Ss Fn big deep b2i rep mulOk ixN atI sIx cut joinS sortS slots lstOf)
structure Tr (M B : Nat → Prop) (h : Hh) (S : Nat → Prop) (M' : Nat → Prop) (h' : Hh) (S' : Nat → Prop) : Prop where
  len : h.length ≤ h'.length
  keep : ∀ m, m < h.length → ¬ M m → h'[m]? = h[m]?
  sub : ∀ m, S m → S' m
  new : ∀ m, S' m → S m ∨ (h.length ≤ m ∧ m < h'.length) ∨ (M m ∧ ¬ B m)
  newM : ∀ m, M' m → M m ∨ h.length ≤ m
structure OutS (M B : Nat → Prop) (h : Hh) (S : Nat → Prop) (fr : Fr) (fr' : Ev.Fr) (M' : Nat → Prop) (h' : Hh) (S' : Nat → Prop) (fr1 : Fr) (fr1' : Ev.Fr) : Prop where
  f : FrR M' B h' S' fr1 fr1'
  tr : Tr M B h S M' h' S'
  lk : ∀ i, locked fr1 i = locked fr i
  rf : ∀ i, locked fr i = true → fr1'[i]? = fr'[i]?
noncomputable def FlR (h : Hh) (S : Nat → Prop) : Fl → Ev.Fl → Prop
  | .nx, g => g = .nx
  | .bk, g => g = .bk
  | .ct, g => g = .ct
  | .ret v, g => ∃ d, g = .ret d ∧ Rep h S v d
section
variable {M B M' M1 M2 : Nat → Prop} {h h' h1 h2 : Hh} {S S' S1 S2 : Nat → Prop} {fr fr1 fr2 : Fr} {fr' fr1' fr2' : Ev.Fr} {c c1 c2 : List Nat} {v : V} {d : D}
theorem OutS.refl (f : FrR M B h S fr fr') : OutS M B h S fr fr' M h S fr fr' := ⟨f, ⟨Nat.le_refl _, fun _ _ _ => rfl, fun _ q => q, fun _ q => .inl q, fun _ q => .inl q⟩, fun _ => rfl, fun _ _ => rfl⟩
theorem Out.s (o : Out M B c h S fr fr' h1 S1 fr1) : OutS M B h S fr fr' M h1 S1 fr1 fr' := ⟨o.f, ⟨o.tr.len, fun m y1 y2 => o.tr.keep m y1 (fun z => y2 z.1), o.tr.sub, fun m q => (o.tr.new m q).imp id .inl, fun _ q => .inl q⟩, o.lk, fun _ _ => rfl⟩
theorem OutS.trans (f0 : FrR M B h S fr fr') (a : OutS M B h S fr fr' M1 h1 S1 fr1 fr1') (b : OutS M1 B h1 S1 fr1 fr1' M2 h2 S2 fr2 fr2') : OutS M B h S fr fr' M2 h2 S2 fr2 fr2' where
  f := b.f
  tr := ⟨Nat.le_trans a.tr.len b.tr.len, fun m y1 y2 => by
      rw [b.tr.keep m (Nat.lt_of_lt_of_le y1 a.tr.len) (fun z => by
        rcases a.tr.newM m z with z | z
        · exact y2 z
        · omega), a.tr.keep m y1 y2], fun m q => b.tr.sub m (a.tr.sub m q), fun m q => by
      rcases b.tr.new m q with q | q | q
      · rcases a.tr.new m q with q | q | q
        · exact .inl q
        · exact .inr (.inl ⟨q.1, Nat.lt_of_lt_of_le q.2 b.tr.len⟩)
        · exact .inr (.inr q)
      · exact .inr (.inl ⟨Nat.le_trans a.tr.len q.1, q.2⟩)
      · rcases a.tr.newM m q.1 with z | z
        · exact .inr (.inr ⟨z, q.2⟩)
        · exact .inr (.inl ⟨z, Nat.lt_of_lt_of_le (a.f.wM m q.1) b.tr.len⟩), fun m q => by
      rcases b.tr.newM m q with q | q
      · exact a.tr.newM m q
      · exact .inr (Nat.le_trans a.tr.len q)⟩
  lk := fun i => (b.lk i).trans (a.lk i)
  rf := fun i q => (b.rf i (by rw [a.lk i]; exact q)).trans (a.rf i q)
theorem FrR.kind (f : FrR M B h S fr fr') (g : Option Sl → Option Sl → Prop) (hl : fr1.length = fr.length) (hg : ∀ (i : Nat) o, fr1[i]? = some o → ∃ o0, fr[i]? = some o0 ∧ (o = o0 ∨ (∃ l, o0 = some (.own l) ∧ o = some (.val (.lst l))) ∨ (∃ l, o0 = some (.bor l) ∧ o = some (.ro l)))) :
    ∃ M' S', OutS M B h S fr fr' M' h S' fr1 fr' := by
  let X : Nat → Prop := fun m => ∃ (i : Nat) (l : List V), fr[i]? = some (some (Sl.own l)) ∧ fr1[i]? = some (some (Sl.val (V.lst l))) ∧ fr'[i]? = some (some (D.ref m))
  let Y : Nat → Prop := fun m => ∃ (i : Nat) (l : List V), fr[i]? = some (some (Sl.bor l)) ∧ fr1[i]? = some (some (Sl.ro l)) ∧ fr'[i]? = some (some (D.ref m))
  have xM : ∀ m, X m → M m ∧ ¬ B m := fun m ⟨i, l, a, _, b⟩ => by
    obtain ⟨m', ds, e, q, _⟩ := f.sl i _ _ a b; cases e; exact q
  have yM : ∀ m, Y m → M m ∧ B m := fun m ⟨i, l, a, _, b⟩ => by
    obtain ⟨m', ds, e, q, _⟩ := f.sl i _ _ a b; cases e; exact q
  have mono : ∀ {l : List V} {ds : List D}, RepL h S l ds → RepL h (fun m => S m ∨ X m) l ds := fun q => q.mono (fun _ _ => rfl) fun _ z => .inl z
  refine ⟨fun m => M m ∧ ¬ X m ∧ ¬ Y m, fun m => S m ∨ X m, ⟨⟨fun m q => ?_, fun m q => f.wM m q.1, f.wB, by rw [hl, f.len], fun i o p e1 e2 => ?_, fun i j o o' m y1 y2 y3 y4 y5 y6 => ?_⟩, ⟨Nat.le_refl _, fun _ _ _ => rfl, fun _ q => .inl q, fun m q => ?_, fun m q => .inl q.1⟩, fun i => ?_, fun _ _ => rfl⟩⟩
  · rcases q with q | q
    · exact ⟨(f.wS m q).1, fun z => (f.wS m q).2.1 z.1, (f.wS m q).2.2⟩
    · exact ⟨f.wM m (xM m q).1, fun z => z.2.1 q, (xM m q).2⟩
  · obtain ⟨o0, e0, k⟩ := hg i o e1
    have old := f.sl i o0 p e0 e2
    rcases k with rfl | ⟨l, rfl, rfl⟩ | ⟨l, rfl, rfl⟩
    · rcases o with _ | s
      · exact old
      · cases s with
        | val v => obtain ⟨d, e, q⟩ := old; exact ⟨d, e, q.mono (fun _ _ => rfl) fun _ z => .inl z⟩
        | own l =>
          obtain ⟨m, ds, rfl, z, y, q⟩ := old
          refine ⟨m, ds, rfl, ⟨⟨z.1, fun ⟨j, l', a1, a2, a3⟩ => ?_, fun ⟨j, l', a1, a2, a3⟩ => ?_⟩, z.2⟩, y, mono q⟩
          · have := f.inj i j _ _ m e0 a1 rfl rfl e2 a3; subst this; rw [e1] at a2; cases a2
          · have := f.inj i j _ _ m e0 a1 rfl rfl e2 a3; subst this; rw [e1] at a2; cases a2
        | bor l =>
          obtain ⟨m, ds, rfl, z, y, q⟩ := old
          refine ⟨m, ds, rfl, ⟨⟨z.1, fun ⟨j, l', a1, a2, a3⟩ => ?_, fun ⟨j, l', a1, a2, a3⟩ => ?_⟩, z.2⟩, y, mono q⟩
          · have := f.inj i j _ _ m e0 a1 rfl rfl e2 a3; subst this; rw [e1] at a2; cases a2
          · have := f.inj i j _ _ m e0 a1 rfl rfl e2 a3; subst this; rw [e1] at a2; cases a2
        | ro l => obtain ⟨m, ds, rfl, z, y, q⟩ := old; exact ⟨m, ds, rfl, fun w => z w.1, y, mono q⟩
    · obtain ⟨m, ds, rfl, z, y, q⟩ := old
      exact ⟨.ref m, rfl, m, ds, rfl, .inr ⟨i, l, e0, e1, e2⟩, y, mono q⟩
    · obtain ⟨m, ds, rfl, z, y, q⟩ := old
      exact ⟨m, ds, rfl, fun w => w.2.2 ⟨i, l, e0, e1, e2⟩, y, mono q⟩
  · have kd : ∀ (i : Nat) o, fr1[i]? = some o → isM o = true → ∃ o0, fr[i]? = some o0 ∧ isM o0 = true := fun i o w1 w2 => by
      obtain ⟨o0, e0, k⟩ := hg i o w1
      rcases k with rfl | ⟨l, rfl, rfl⟩ | ⟨l, rfl, rfl⟩
      · exact ⟨o, e0, w2⟩
      · cases w2
      · cases w2
    obtain ⟨oi, k1, k2⟩ := kd i o y1 y3
    obtain ⟨oj, k3, k4⟩ := kd j o' y2 y4
    exact f.inj i j oi oj m k1 k3 k2 k4 y5 y6
  · rcases q with q | q
    · exact .inl q
    · exact .inr (.inr (xM m q))
  · unfold locked
    cases z : fr1[i]? with
    | none =>
      have : fr[i]? = none := by rw [List.getElem?_eq_none_iff] at z ⊢; omega
      rw [this]
    | some o =>
      obtain ⟨o0, e0, k⟩ := hg i o z
      rw [e0]
      rcases k with rfl | ⟨l, rfl, rfl⟩ | ⟨l, rfl, rfl⟩ <;> rfl
theorem FrR.shut (f : FrR M B h S fr fr') : ∃ M' S', OutS M B h S fr fr' M' h S' (shutF fr) fr' := by
  refine f.kind (fun _ _ => True) (by simp [shutF]) fun i o e => ?_
  unfold shutF at e
  rw [List.getElem?_map] at e
  cases z : fr[i]? with
  | none => rw [z] at e; cases e
  | some o0 =>
    rw [z] at e; cases e
    refine ⟨o0, rfl, ?_⟩
    rcases o0 with _ | s
    · exact .inl rfl
    · cases s with
      | own l => exact .inr (.inl ⟨l, rfl, rfl⟩)
      | _ => exact .inl rfl
theorem FrR.walk : ∀ (is : List Nat) {M : Nat → Prop} {S : Nat → Prop} {fr : Fr}, FrR M B h S fr fr' → ∃ M' S', OutS M B h S fr fr' M' h S' (walkF is fr) fr'
  | [], _, _, _, f => ⟨_, _, .refl f⟩
  | i :: is, M, S, fr, f => by
    have one : ∃ M1 S1, OutS M B h S fr fr' M1 h S1 (match fr[i]? with | some (some s) => fr.set i (some s.walk) | _ => fr) fr' := by
      split
      · rename_i s z
        have hl := (List.getElem?_eq_some_iff.mp z).1
        refine f.kind (fun _ _ => True) (by simp) fun j o e => ?_
        by_cases hj : i = j
        · subst hj
          rw [List.getElem?_set_self hl] at e
          cases e
          refine ⟨_, z, ?_⟩
          cases s with
          | own l => exact .inr (.inl ⟨l, rfl, rfl⟩)
          | bor l => exact .inr (.inr ⟨l, rfl, rfl⟩)
          | _ => exact .inl rfl
        · rw [List.getElem?_set_ne hj] at e
          exact ⟨o, e, .inl rfl⟩
      · exact ⟨M, S, .refl f⟩
    obtain ⟨M1, S1, o1⟩ := one
    obtain ⟨M2, S2, o2⟩ := FrR.walk is o1.f
    exact ⟨M2, S2, o1.trans f o2⟩
theorem FrR.own (f : FrR M B h S fr fr') {i : Nat} {l : List V} {ds : List D} (e : put fr i (.own l) = some fr1) (q : RepL h S l ds) : OutS M B h S fr fr' (fun m => M m ∨ m = h.length) (h ++ [.lst ds]) S fr1 (fr'.set i (some (.ref h.length))) := by
  have hx : fr1 = fr.set i (some (.own l)) ∧ locked fr i = false := by
    unfold put at e
    unfold locked
    split at e
    · cases e
    · cases e
    · rename_i k1 k2
      cases e
      refine ⟨rfl, ?_⟩
      cases z : fr[i]? with
      | none => rfl
      | some o =>
        rcases o with _ | s
        · rfl
        · cases s with
          | bor l => exact absurd z (k1 l)
          | ro l => exact absurd z (k2 l)
          | _ => rfl
  obtain ⟨rfl, hk⟩ := hx
  have kp : ∀ m, m < h.length → (h ++ [O.lst ds])[m]? = h[m]? := fun m z => by rw [List.getElem?_append_left z]
  have kS : ∀ m, S m → (h ++ [O.lst ds])[m]? = h[m]? := fun m z => kp m (f.w m z)
  refine ⟨⟨fun m y => ⟨by have := (f.wS m y).1; simp; omega, fun z => ?_, (f.wS m y).2.2⟩, fun m y => ?_, fun m y => by have := f.wB m y; simp; omega, by simp [f.len], fun j o p y1 y2 => ?_, fun j k o o' m y1 y2 y3 y4 y5 y6 => ?_⟩, ⟨by simp, fun m y _ => kp m y, fun _ z => z, fun _ z => .inl z, fun m z => z.imp id (fun z => by omega)⟩, fun j => ?_, fun j hj => ?_⟩
  · rcases z with z | z
    · exact (f.wS m y).2.1 z
    · have := (f.wS m y).1; omega
  · rcases y with y | y
    · have := f.wM m y; simp; omega
    · subst y; simp
  · by_cases hj : i = j
    · subst hj
      have hl : i < fr.length := by have := (List.getElem?_eq_some_iff.mp y1).1; simpa using this
      rw [List.getElem?_set_self hl] at y1
      rw [List.getElem?_set_self (by rw [← f.len]; exact hl)] at y2
      cases y1; cases y2
      exact ⟨h.length, ds, rfl, ⟨.inr rfl, fun z => by have := f.wB _ z; omega⟩, by simp, q.mono kS fun _ z => z⟩
    · rw [List.getElem?_set_ne hj] at y1 y2
      have old := f.sl j o p y1 y2
      rcases o with _ | s
      · exact old
      · cases s with
        | val v => obtain ⟨d, e, q⟩ := old; exact ⟨d, e, q.mono kS fun _ z => z⟩
        | own l => obtain ⟨m, es, rfl, z, y, q⟩ := old; exact ⟨m, es, rfl, ⟨.inl z.1, z.2⟩, by rw [kp m (f.wM m z.1)]; exact y, q.mono kS fun _ z => z⟩
        | bor l => obtain ⟨m, es, rfl, z, y, q⟩ := old; exact ⟨m, es, rfl, ⟨.inl z.1, z.2⟩, by rw [kp m (f.wM m z.1)]; exact y, q.mono kS fun _ z => z⟩
        | ro l =>
          obtain ⟨m, es, rfl, z, y, q⟩ := old
          have hm := (List.getElem?_eq_some_iff.mp y).1
          exact ⟨m, es, rfl, fun w => by rcases w with w | w; exact z w; omega, by rw [kp m hm]; exact y, q.mono kS fun _ z => z⟩
  · have low : ∀ (j : Nat) o, i ≠ j → fr[j]? = some o → isM o = true → fr'[j]? = some (some (.ref m)) → m < h.length := fun j o _ w1 w2 w3 => f.wM m (f.mM w1 w2 w3)
    have new : ∀ (j : Nat), j < fr.length → i = j → (fr'.set i (some (.ref h.length)))[j]? = some (some (.ref m)) → m = h.length := fun j hl hj w => by
      subst hj
      rw [List.getElem?_set_self (by rw [← f.len]; exact hl)] at w
      cases w; rfl
    have lj : j < fr.length := by have := (List.getElem?_eq_some_iff.mp y1).1; simpa using this
    have lk : k < fr.length := by have := (List.getElem?_eq_some_iff.mp y2).1; simpa using this
    by_cases hj : i = j
    · by_cases hk2 : i = k
      · rw [← hj, ← hk2]
      · have a := new j lj hj y5
        rw [List.getElem?_set_ne hk2] at y2 y6
        have b := low k o' hk2 y2 y4 y6
        omega
    · by_cases hk2 : i = k
      · have a := new k lk hk2 y6
        rw [List.getElem?_set_ne hj] at y1 y5
        have b := low j o hj y1 y3 y5
        omega
      · rw [List.getElem?_set_ne hj] at y1 y5
        rw [List.getElem?_set_ne hk2] at y2 y6
        exact f.inj j k o o' m y1 y2 y3 y4 y5 y6
  · by_cases hj : i = j
    · subst hj
      rw [hk]
      unfold locked
      by_cases hl : i < fr.length
      · rw [List.getElem?_set_self hl]; rfl
      · rw [List.getElem?_eq_none (by simpa using hl)]
    · unfold locked; rw [List.getElem?_set_ne hj]
  · have : i ≠ j := fun z => by subst z; rw [hk] at hj; cases hj
    rw [List.getElem?_set_ne this]
end
section
variable (P : Phi) (P' : Ev.Phi) (w : Nat)
noncomputable def ExOk (s : S) : Prop := ∀ {fr : Fr} {g : Fl} {fr1 : Fr} {M B : Nat → Prop} {h : Hh} {S : Nat → Prop} {fr' : Ev.Fr}, ex P w s fr = .ok g fr1 → FrR M B h S fr fr' → ∃ g' fr1' M' h' S', Ev.ex P' w s fr' h = .ok (g', fr1') h' ∧ FlR h' S' g g' ∧ OutS M B h S fr fr' M' h' S' fr1 fr1'
noncomputable def ExsOk (s : Ss) : Prop := ∀ {fr : Fr} {g : Fl} {fr1 : Fr} {M B : Nat → Prop} {h : Hh} {S : Nat → Prop} {fr' : Ev.Fr}, exs P w s fr = .ok g fr1 → FrR M B h S fr fr' → ∃ g' fr1' M' h' S', Ev.exs P' w s fr' h = .ok (g', fr1') h' ∧ FlR h' S' g g' ∧ OutS M B h S fr fr' M' h' S' fr1 fr1'
end
section
variable {P : Phi} {P' : Ev.Phi} {w : Nat} (HP : PhiOk P P')
include HP
theorem sset_ok {i : Nat} {e : E} : ExOk P P' w (.set i e) := fun {fr g fr1 M B h S fr'} z f => by
  simp only [ex] at z
  replace z := bind_eq_ok z; obtain ⟨x, fr2, z1, z⟩ := z
  by_cases hn : isNew e = true
  · rw [if_pos hn] at z
    have key : ∃ l ds h1 S1, x = .lst l ∧ RepL h1 S1 l ds ∧ Ev.ev P' e fr' h = .ok (.ref h1.length) (h1 ++ [.lst ds]) ∧ Out M B (tch e) h S fr fr' h1 S1 fr2 := by
      cases e <;> simp only [isNew, Bool.false_eq_true] at hn
      case lst es =>
        simp only [ev] at z1
        replace z1 := bind_eq_ok z1; obtain ⟨l, fr3, z2, z1⟩ := z1
        replace z1 := of_eq_ok z1; obtain ⟨z1, y0⟩ := z1; subst y0
        unfold mkL at z1
        split at z1
        case isFalse => cases z1
        rename_i hk
        cases z1
        obtain ⟨ds, h1, S1, e1, q1, o1⟩ := evs_ok HP es z2 f
        refine ⟨l, ds, h1, S1, rfl, q1.n, ?_, o1⟩
        simp only [Ev.ev, e1, Ev.bind_ok, Ev.alloc]
        rw [if_pos (by rw [← q1.n.length]; exact hk)]
      case lof it =>
        simp only [ev] at z1
        replace z1 := bind_eq_ok z1; obtain ⟨l, fr3, z2, z1⟩ := z1
        replace z1 := of_eq_ok z1; obtain ⟨z1, y0⟩ := z1; subst y0
        unfold mkL at z1
        split at z1
        case isFalse => cases z1
        rename_i hk
        cases z1
        obtain ⟨s, h1, S1, e1, q1, q2, o1⟩ := evi_ok HP it z2 f
        refine ⟨l, s.1, h1, S1, rfl, q1, ?_, o1⟩
        simp only [Ev.ev, e1, Ev.bind_ok, Ev.alloc]
        rw [if_pos (by rw [← q1.length]; exact hk)]
    obtain ⟨l, ds, h1, S1, rfl, q1, e1, o1⟩ := key
    simp only at z
    replace z := bind_eq_ok z; obtain ⟨fr3, fr4, z2, z⟩ := z
    replace z2 := of_eq_ok z2; obtain ⟨z2, y0⟩ := z2; subst y0
    cases z
    have o2 := o1.f.own z2 q1
    exact ⟨.nx, _, _, _, _, by simp only [Ev.ex, e1, Ev.bind_ok], rfl, o1.s.trans f o2⟩
  · rw [if_neg hn] at z
    replace z := bind_eq_ok z; obtain ⟨fr3, fr4, z2, z⟩ := z
    replace z2 := of_eq_ok z2; obtain ⟨z2, y0⟩ := z2; subst y0
    cases z
    obtain ⟨d, h1, S1, e1, q1, o1⟩ := ev_ok HP e z1 f
    obtain ⟨f2, l2, r2⟩ := o1.f.set z2 q1.n
    refine ⟨.nx, _, _, _, _, by simp only [Ev.ex, e1, Ev.bind_ok], rfl, o1.s.trans f ⟨f2, (OutS.refl f2).tr, l2, r2⟩⟩
theorem setT_ok {l : List Nat} {e : E} : ExOk P P' w (.setT l e) := fun {fr g fr1 M B h S fr'} z f => by
  simp only [ex] at z
  replace z := bind_eq_ok z; obtain ⟨x, fr2, z1, z⟩ := z
  replace z := bind_eq_ok z; obtain ⟨fr3, fr4, z2, z⟩ := z
  replace z2 := of_eq_ok z2; obtain ⟨z2, y0⟩ := z2; subst y0
  cases z
  obtain ⟨d, h1, S1, e1, q1, o1⟩ := ev_ok HP e z1 f
  obtain ⟨fr3', b1, f2, l2, r2⟩ := o1.f.bindT z2 q1.n
  exact ⟨.nx, _, _, _, _, by simp only [Ev.ex, e1, Ev.bind_ok, b1], rfl, o1.s.trans f ⟨f2, (OutS.refl f2).tr, l2, r2⟩⟩
theorem exp_ok {e : E} : ExOk P P' w (.exp e) := fun {fr g fr1 M B h S fr'} z f => by
  simp only [ex] at z
  replace z := bind_eq_ok z; obtain ⟨x, fr2, z1, z⟩ := z
  cases z
  obtain ⟨d, h1, S1, e1, q1, o1⟩ := ev_ok HP e z1 f
  exact ⟨.nx, _, _, _, _, by simp only [Ev.ex, e1, Ev.bind_ok], rfl, o1.s⟩
theorem ret_ok {e : E} : ExOk P P' w (.ret e) := fun {fr g fr1 M B h S fr'} z f => by
  simp only [ex] at z
  replace z := bind_eq_ok z; obtain ⟨x, fr2, z1, z⟩ := z
  cases z
  obtain ⟨M1, S1, o1⟩ := f.shut
  obtain ⟨d, h2, S2, e1, q1, o2⟩ := ev_ok HP e z1 o1.f
  exact ⟨.ret d, _, _, _, _, by simp only [Ev.ex, e1, Ev.bind_ok], ⟨d, rfl, q1.n⟩, o1.trans f o2.s⟩
omit HP in
theorem for_okL {F : V → Fr → R Fl} {F' : D → Ev.Fr → Hh → Ev.R (Ev.Fl × Ev.Fr)} {ck : List (Nat × List D)} {B : Nat → Prop} {M0 : Nat → Prop} {h0 : Hh} {S0 : Nat → Prop} {fr0 : Fr} {fr0' : Ev.Fr} (f0 : FrR M0 B h0 S0 fr0 fr0') (st : ∀ q ∈ ck, lstOf h0 q.1 = some q.2 ∧ ¬ M0 q.1)
    (turn : ∀ v d fr g fr1 M h S fr', F v fr = .ok g fr1 → FrR M B h S fr fr' → Rep h S v d → ∃ g' fr1' M' h' S', F' d fr' h = .ok (g', fr1') h' ∧ FlR h' S' g g' ∧ OutS M B h S fr fr' M' h' S' fr1 fr1') :
    ∀ {vs : List V} {ds : List D} {fr : Fr} {g : Fl} {fr1 : Fr} {M : Nat → Prop} {h : Hh} {S : Nat → Prop} {fr' : Ev.Fr}, forL F vs fr = .ok g fr1 → OutS M0 B h0 S0 fr0 fr0' M h S fr fr' → RepL h S vs ds →
    ∃ g' fr1' M' h' S', Ev.forL F' ck ds fr' h = .ok (g', fr1') h' ∧ FlR h' S' g g' ∧ OutS M0 B h0 S0 fr0 fr0' M' h' S' fr1 fr1'
  | [], ds, fr, g, fr1, M, h, S, fr', e, o, q => by
    simp only [forL] at e; simp only [RepL] at q; subst q
    cases e
    refine ⟨.nx, fr', M, h, S, ?_, rfl, o⟩
    simp only [Ev.forL]
    rw [if_pos (stays_of fun x hx => lst_keep (st x hx).1 (o.tr.keep _ (lst_lt (st x hx).1) (st x hx).2))]
  | v :: vs, ds, fr, g, fr1, M, h, S, fr', e, o, q => by
    simp only [forL] at e
    replace e := bind_eq_ok e; obtain ⟨p, fr2, e1, e⟩ := e
    simp only [RepL] at q
    obtain ⟨d, es, rfl, q1, q2⟩ := q
    obtain ⟨g', fr2', M2, h2, S2, t1, t2, t3⟩ := turn v d fr p fr2 M h S fr' e1 o.f q1
    have o2 := o.trans f0 t3
    have st0 : Ev.stays h ck = true := stays_of fun x hx => lst_keep (st x hx).1 (o.tr.keep _ (lst_lt (st x hx).1) (st x hx).2)
    have q2' : RepL h2 S2 vs es := q2.mono (fun m z => t3.tr.keep m (o.f.wS m z).1 (o.f.wS m z).2.1) t3.tr.sub
    cases p with
    | nx =>
      simp only [FlR] at t2; subst t2
      simp only at e
      obtain ⟨g'', fr3', M3, h3, S3, u1, u2, u3⟩ := for_okL f0 st turn e o2 q2'
      refine ⟨g'', fr3', M3, h3, S3, ?_, u2, u3⟩
      simp only [Ev.forL]
      rw [if_pos st0, t1, Ev.bind_ok]
      exact u1
    | ct =>
      simp only [FlR] at t2; subst t2
      simp only at e
      obtain ⟨g'', fr3', M3, h3, S3, u1, u2, u3⟩ := for_okL f0 st turn e o2 q2'
      refine ⟨g'', fr3', M3, h3, S3, ?_, u2, u3⟩
      simp only [Ev.forL]
      rw [if_pos st0, t1, Ev.bind_ok]
      exact u1
    | bk =>
      simp only [FlR] at t2; subst t2
      simp only at e
      cases e
      refine ⟨.nx, fr2', M2, h2, S2, ?_, rfl, o2⟩
      simp only [Ev.forL]
      rw [if_pos st0, t1, Ev.bind_ok]
    | ret x =>
      simp only [FlR] at t2
      obtain ⟨d2, rfl, t2⟩ := t2
      simp only at e
      cases e
      refine ⟨.ret d2, fr2', M2, h2, S2, ?_, ⟨d2, rfl, t2⟩, o2⟩
      simp only [Ev.forL]
      rw [if_pos st0, t1, Ev.bind_ok]
theorem for_ok {t : T} {it : It} {b : Ss} (ib : ExsOk P P' w b) : ExOk P P' w (.for t it b) := fun {fr g fr1 M B h S fr'} z f => by
  simp only [ex] at z
  replace z := bind_eq_ok z; obtain ⟨vs, fr2, z1, z⟩ := z
  obtain ⟨M1, S1, o1⟩ := f.walk (itv it)
  obtain ⟨s, h2, S2, e1, q1, q2, o2⟩ := evi_ok HP it z1 o1.f
  have o3 := o1.trans f o2.s
  obtain ⟨g', fr1', M', h', S', u1, u2, u3⟩ := for_okL (F' := fun d fr2 h2 => match Ev.bindT t d fr2 with
      | some fr3 => Ev.exs P' w b fr3 h2
      | none => .bad) (ck := s.2) o2.f (fun q hq => ⟨(q2 q hq).1, (q2 q hq).2 rfl⟩) (fun v d fr g fr1 M h S fr' y f q => by
    split at y
    · rename_i fr3 y1
      obtain ⟨fr3', b1, b2, b3, b4⟩ := f.bindT y1 q
      rw [b1]
      obtain ⟨g', fr1', M', h', S', c1, c2, c3⟩ := ib y b2
      exact ⟨g', fr1', M', h', S', c1, c2, (⟨b2, (OutS.refl b2).tr, b3, b4⟩ : OutS M _ h S fr fr' M h S fr3 fr3').trans f c3⟩
    · cases y) z (OutS.refl o2.f) q1
  refine ⟨g', fr1', M', h', S', ?_, u2, o3.trans f u3⟩
  simp only [Ev.ex, e1, Ev.bind_ok]
  exact u1
theorem whl_ok {t : E} {b : Ss} (ib : ExsOk P P' w b) : ∀ (n : Nat) {fr : Fr} {g : Fl} {fr1 : Fr} {M B : Nat → Prop} {h : Hh} {S : Nat → Prop} {fr' : Ev.Fr}, whlL (fun fr2 => evT P t fr2) (fun fr2 => exs P w b fr2) n fr = .ok g fr1 → FrR M B h S fr fr' →
    ∃ g' fr1' M' h' S', Ev.whlL (fun fr2 h2 => Ev.evT P' t fr2 h2) (fun fr2 h2 => Ev.exs P' w b fr2 h2) n fr' h = .ok (g', fr1') h' ∧ FlR h' S' g g' ∧ OutS M B h S fr fr' M' h' S' fr1 fr1'
  | 0, _, _, _, _, _, _, _, _, z, _ => by simp only [whlL] at z; cases z
  | n + 1, fr, g, fr1, M, B, h, S, fr', z, f => by
    simp only [whlL] at z
    replace z := bind_eq_ok z; obtain ⟨k, fr2, z1, z⟩ := z
    obtain ⟨h1, S1, e1, o1⟩ := evT_ok HP t z1 f
    cases k with
    | false =>
      simp only [Bool.false_eq_true, if_false] at z
      cases z
      refine ⟨.nx, fr', M, h1, S1, ?_, rfl, o1.s⟩
      simp only [Ev.whlL, e1, Ev.bind_ok]
      rw [if_neg (by decide)]
    | true =>
      simp only [if_true] at z
      replace z := bind_eq_ok z; obtain ⟨p, fr3, z2, z⟩ := z
      obtain ⟨g', fr3', M2, h2, S2, t1, t2, t3⟩ := ib z2 o1.f
      have o2 := o1.s.trans f t3
      cases p with
      | nx =>
        simp only [FlR] at t2; subst t2
        simp only at z
        obtain ⟨g'', fr4', M3, h3, S3, u1, u2, u3⟩ := whl_ok ib n z t3.f
        refine ⟨g'', fr4', M3, h3, S3, ?_, u2, o2.trans f u3⟩
        simp only [Ev.whlL, e1, Ev.bind_ok, if_true, t1]
        exact u1
      | ct =>
        simp only [FlR] at t2; subst t2
        simp only at z
        obtain ⟨g'', fr4', M3, h3, S3, u1, u2, u3⟩ := whl_ok ib n z t3.f
        refine ⟨g'', fr4', M3, h3, S3, ?_, u2, o2.trans f u3⟩
        simp only [Ev.whlL, e1, Ev.bind_ok, if_true, t1]
        exact u1
      | bk =>
        simp only [FlR] at t2; subst t2
        simp only at z
        cases z
        refine ⟨.nx, fr3', M2, h2, S2, ?_, rfl, o2⟩
        simp only [Ev.whlL, e1, Ev.bind_ok, if_true, t1]
      | ret x =>
        simp only [FlR] at t2
        obtain ⟨d2, rfl, t2⟩ := t2
        simp only at z
        cases z
        refine ⟨.ret d2, fr3', M2, h2, S2, ?_, ⟨d2, rfl, t2⟩, o2⟩
        simp only [Ev.whlL, e1, Ev.bind_ok, if_true, t1]
theorem iff_ok {t : E} {a b : Ss} (ia : ExsOk P P' w a) (ib : ExsOk P P' w b) : ExOk P P' w (.iff t a b) := fun {fr g fr1 M B h S fr'} z f => by
  simp only [ex] at z
  replace z := bind_eq_ok z; obtain ⟨k, fr2, z1, z⟩ := z
  obtain ⟨h1, S1, e1, o1⟩ := evT_ok HP t z1 f
  cases k with
  | true =>
    simp only [if_true] at z
    obtain ⟨g', fr1', M', h', S', c1, c2, c3⟩ := ia z o1.f
    exact ⟨g', fr1', M', h', S', by simp only [Ev.ex, e1, Ev.bind_ok, if_true, c1], c2, o1.s.trans f c3⟩
  | false =>
    simp only [Bool.false_eq_true, if_false] at z
    obtain ⟨g', fr1', M', h', S', c1, c2, c3⟩ := ib z o1.f
    exact ⟨g', fr1', M', h', S', by simp only [Ev.ex, e1, Ev.bind_ok]; rw [if_neg (by decide)]; exact c1, c2, o1.s.trans f c3⟩
mutual
theorem ex_ok : ∀ s : S, ExOk P P' w s
  | .set _ _ => sset_ok HP
  | .setT _ _ => setT_ok HP
  | .setI _ _ _ => fun z _ => by simp only [ex] at z; cases z
  | .setS _ _ _ _ => fun z _ => by simp only [ex] at z; cases z
  | .exp _ => exp_ok HP
  | .ret _ => ret_ok HP
  | .iff _ a b => iff_ok HP (exs_ok a) (exs_ok b)
  | .for _ _ b => for_ok HP (exs_ok b)
  | .whl _ b => fun z f => by
    simp only [ex] at z
    obtain ⟨g', fr1', M', h', S', c1, c2, c3⟩ := whl_ok HP (exs_ok b) w z f
    exact ⟨g', fr1', M', h', S', by simp only [Ev.ex]; exact c1, c2, c3⟩
  | .pass => fun z f => by simp only [ex] at z; cases z; exact ⟨.nx, _, _, _, _, by simp only [Ev.ex], rfl, .refl f⟩
  | .brk => fun z f => by simp only [ex] at z; cases z; exact ⟨.bk, _, _, _, _, by simp only [Ev.ex], rfl, .refl f⟩
  | .nev => fun z _ => by simp only [ex] at z; cases z
  | .cnt => fun z f => by simp only [ex] at z; cases z; exact ⟨.ct, _, _, _, _, by simp only [Ev.ex], rfl, .refl f⟩
theorem exs_ok : ∀ s : Ss, ExsOk P P' w s
  | .nil => fun z f => by simp only [exs] at z; cases z; exact ⟨.nx, _, _, _, _, by simp only [Ev.exs], rfl, .refl f⟩
  | .cons s ss => fun z f => by
    simp only [exs] at z
    replace z := bind_eq_ok z; obtain ⟨p, fr2, z1, z⟩ := z
    obtain ⟨g', fr2', M2, h2, S2, t1, t2, t3⟩ := ex_ok s z1 f
    cases p with
    | nx =>
      simp only [FlR] at t2; subst t2
      simp only at z
      obtain ⟨g'', fr3', M3, h3, S3, u1, u2, u3⟩ := exs_ok ss z t3.f
      exact ⟨g'', fr3', M3, h3, S3, by simp only [Ev.exs, t1, Ev.bind_ok, u1], u2, t3.trans f u3⟩
    | ct =>
      simp only [FlR] at t2; subst t2
      simp only at z
      cases z
      exact ⟨.ct, fr2', M2, h2, S2, by simp only [Ev.exs, t1, Ev.bind_ok], rfl, t3⟩
    | bk =>
      simp only [FlR] at t2; subst t2
      simp only at z
      cases z
      exact ⟨.bk, fr2', M2, h2, S2, by simp only [Ev.exs, t1, Ev.bind_ok], rfl, t3⟩
    | ret x =>
      simp only [FlR] at t2
      obtain ⟨d2, rfl, t2⟩ := t2
      simp only at z
      cases z
      exact ⟨.ret d2, fr2', M2, h2, S2, by simp only [Ev.exs, t1, Ev.bind_ok], ⟨d2, rfl, t2⟩, t3⟩
end
end
theorem outs_ok {h : Hh} {S : Nat → Prop} {B : Nat → Prop} {h0 : Hh} {S0 : Nat → Prop} : ∀ {sl : List Sl} {ds : List D} {cs : Fr}, sl.length = ds.length →
    (∀ (a : Nat) s d, sl[a]? = some s → ds[a]? = some d → SlR B B h0 S0 (some s) (some d) ∧ locked cs a = lkS (some s) ∧ (lkS (some s) = true → ∃ m es l s', d = .ref m ∧ h[m]? = some (.lst es) ∧ RepL h S l es ∧ cs[a]? = some (some s') ∧ s'.out = some l)) → OutR h S sl ds ((cs.take sl.length).filterMap fun o => o.bind Sl.out)
  | [], ds, cs, _, _ => by simp [OutR]
  | s :: sl, [], cs, hl, _ => by simp at hl
  | s :: sl, d :: ds, [], hl, q => by
    have ih := outs_ok (h := h) (S := S) (sl := sl) (ds := ds) (cs := []) (by simpa using hl) fun a s' d' e1 e2 => by
      obtain ⟨w1, w2, w3⟩ := q (a + 1) s' d' (by simpa using e1) (by simpa using e2)
      exact ⟨w1, by simpa [locked] using w2, fun z => by obtain ⟨_, _, _, _, _, _, _, y, _⟩ := w3 z; simp at y⟩
    obtain ⟨w1, w2, w3⟩ := q 0 s d (by simp) (by simp)
    cases s with
    | val v => simp at ih ⊢; exact ⟨d, ds, rfl, ih⟩
    | own l => exact absurd w1 (by rintro ⟨m, es, e, q, _⟩; exact q.2 q.1)
    | bor l => obtain ⟨_, _, _, _, _, _, _, y, _⟩ := w3 rfl; simp at y
    | ro l => obtain ⟨_, _, _, _, _, _, _, y, _⟩ := w3 rfl; simp at y
  | s :: sl, d :: ds, o :: cs, hl, q => by
    have ih := outs_ok (h := h) (S := S) (sl := sl) (ds := ds) (cs := cs) (by simpa using hl) fun a s' d' e1 e2 => by
      obtain ⟨w1, w2, w3⟩ := q (a + 1) s' d' (by simpa using e1) (by simpa using e2)
      exact ⟨w1, by simpa [locked] using w2, fun z => by simpa using w3 z⟩
    obtain ⟨w1, w2, w3⟩ := q 0 s d (by simp) (by simp)
    cases s with
    | val v =>
      have : o.bind Sl.out = none := by
        simp [locked] at w2
        rcases o with _ | s
        · rfl
        · cases s <;> first | rfl | cases w2
      simp only [List.length_cons, List.take_succ_cons, List.filterMap_cons, this]
      exact ⟨d, ds, rfl, ih⟩
    | own l => exact absurd w1 (by rintro ⟨m, es, e, q, _⟩; exact q.2 q.1)
    | bor l =>
      obtain ⟨m, es, l', s', a1, a2, a3, a4, a5⟩ := w3 rfl
      simp at a4; subst a4
      simp only [List.length_cons, List.take_succ_cons, List.filterMap_cons, Option.bind, a5]
      exact ⟨d, ds, l', _, m, es, rfl, rfl, a1, a2, a3, ih⟩
    | ro l =>
      obtain ⟨m, es, l', s', a1, a2, a3, a4, a5⟩ := w3 rfl
      simp at a4; subst a4
      simp only [List.length_cons, List.take_succ_cons, List.filterMap_cons, Option.bind, a5]
      exact ⟨d, ds, l', _, m, es, rfl, rfl, a1, a2, a3, ih⟩
theorem run_ok (F : List Fn) (w : Nat) : ∀ n, PhiOk (run F w n) (Ev.run F w n)
  | 0 => fun f sl v os e => by simp [run] at e
  | n + 1 => fun f sl v os e h S B ds F0 => by
    have HP := run_ok F w n
    simp only [run] at e
    cases z : F[f]? with
    | none => rw [z] at e; cases e
    | some fn =>
    rw [z] at e
    simp only at e
    split at e
    case isFalse => cases e
    rename_i hl
    have hlen : sl.length = ds.length := by have := F0.len; simpa using this
    have f1 : FrR B B h S (fr0 fn sl) (Ev.fr0 fn ds) := by
      unfold fr0 Ev.fr0
      have sp : ∀ (i : Nat) o, (sl.map some ++ List.replicate (fn.ns - fn.np) none)[i]? = some o → (sl.map some)[i]? = some o ∨ (sl.length ≤ i ∧ o = none) := fun i o y => by
        by_cases hi : i < sl.length
        · rw [List.getElem?_append_left (by simpa using hi)] at y; exact .inl y
        · rw [List.getElem?_append_right (by simpa using hi)] at y
          have := List.mem_of_getElem? y
          exact .inr ⟨by omega, (List.mem_replicate.mp this).2⟩
      have lo : ∀ (i : Nat) p, i < sl.length → (ds.map some ++ List.replicate (fn.ns - fn.np) none)[i]? = some p → (ds.map some)[i]? = some p := fun i p hi y => by
        rw [List.getElem?_append_left (by simpa [← hlen] using hi)] at y; exact y
      refine ⟨F0.wS, F0.wM, F0.wB, by simp [hlen], fun i o p y1 y2 => ?_, fun i j o o' m y1 y2 y3 y4 y5 y6 => ?_⟩
      · rcases sp i o y1 with y1 | ⟨hi, rfl⟩
        · have hi : i < sl.length := by have := (List.getElem?_eq_some_iff.mp y1).1; simpa using this
          exact F0.sl i o p y1 (lo i p hi y2)
        · rw [List.getElem?_append_right (by simpa [← hlen] using hi)] at y2
          have := List.mem_of_getElem? y2
          exact (List.mem_replicate.mp this).2
      · rcases sp i o y1 with y1 | ⟨hi, rfl⟩
        · rcases sp j o' y2 with y2 | ⟨hj, rfl⟩
          · have hi : i < sl.length := by have := (List.getElem?_eq_some_iff.mp y1).1; simpa using this
            have hj : j < sl.length := by have := (List.getElem?_eq_some_iff.mp y2).1; simpa using this
            exact F0.inj i j o o' m y1 y2 y3 y4 (lo i _ hi y5) (lo j _ hj y6)
          · cases y4
        · cases y3
    have fin : ∀ {g : Fl} {fr1 : Fr}, exs (run F w n) w fn.body (fr0 fn sl) = .ok g fr1 → ∃ g' fr1' M' h' S', Ev.exs (Ev.run F w n) w fn.body (Ev.fr0 fn ds) h = .ok (g', fr1') h' ∧ FlR h' S' g g' ∧ Tk B h S h' S' ∧ OutR h' S' sl ds (outs fn.np fr1) := fun {g fr1} y => by
      obtain ⟨g', fr1', M', h', S', c1, c2, c3⟩ := exs_ok HP fn.body y f1
      refine ⟨g', fr1', M', h', S', c1, c2, ⟨c3.tr.len, fun m y1 y2 => c3.tr.keep m y1 y2, c3.tr.sub, fun m q => ?_⟩, ?_⟩
      · rcases c3.tr.new m q with q | q | q
        · exact .inl q
        · exact .inr q
        · exact absurd q.1 q.2
      · unfold outs
        rw [← hl]
        refine outs_ok (B := B) (h0 := h) (S0 := S) hlen fun a s d e1 e2 => ?_
        have ha : a < sl.length := (List.getElem?_eq_some_iff.mp e1).1
        have h0 : (fr0 fn sl)[a]? = some (some s) := by unfold fr0; rw [List.getElem?_append_left (by simpa using ha)]; simp [e1]
        have hlk : locked fr1 a = lkS (some s) := by rw [c3.lk a]; unfold locked; rw [h0]
        refine ⟨F0.sl a _ _ (by simp [e1]) (by simp [e2]), hlk, fun hk => ?_⟩
        have hr := c3.rf a (by unfold locked; rw [h0]; exact hk)
        have hd : (Ev.fr0 fn ds)[a]? = some (some d) := by unfold Ev.fr0; rw [List.getElem?_append_left (by simpa [← hlen] using ha)]; simp [e2]
        rw [hd] at hr
        cases y2 : fr1[a]? with
        | none => unfold locked at hlk; rw [y2] at hlk; rw [← hlk] at hk; cases hk
        | some o =>
          have sr := c3.f.sl a _ _ y2 hr
          unfold locked at hlk
          rw [y2, hk] at hlk
          rcases o with _ | s'
          · cases hlk
          · cases s' with
            | val v => cases hlk
            | own l => cases hlk
            | bor l => obtain ⟨m, es, e, _, k1, k2⟩ := sr; cases e; exact ⟨m, es, l, _, rfl, k1, k2, rfl, rfl⟩
            | ro l => obtain ⟨m, es, e, _, k1, k2⟩ := sr; cases e; exact ⟨m, es, l, _, rfl, k1, k2, rfl, rfl⟩
    simp only [Ev.run, z]
    have hl' : ds.length = fn.np := by omega
    rw [if_pos hl']
    split at e
    · rename_i v' fr1 y
      cases e
      obtain ⟨g', fr1', M', h', S', c1, c2, c3, c4⟩ := fin y
      simp only [FlR] at c2
      obtain ⟨d, rfl, c2⟩ := c2
      exact ⟨d, h', S', by simp only [Ev.endOf, c1, Ev.bind_ok], c2, c3, c4⟩
    · rename_i fr1 y
      cases e
      obtain ⟨g', fr1', M', h', S', c1, c2, c3, c4⟩ := fin y
      simp only [FlR] at c2
      subst c2
      exact ⟨.non, h', S', by simp only [Ev.endOf, c1, Ev.bind_ok], rfl, c3, c4⟩
    · cases e
end Pv
namespace Pv
open Ev (D O Hh Fn)
theorem good_of {F : List Fn} {w n f : Nat} {ns : List Int} (e : run F w n f [.val (.frz (ns.map V.int))] = some (.bl true, [])) : ∃ h', Ev.run F w n f [.ref 0] [.frz (ns.map D.int)] = .ok (.bl true) h' := by
  have F0 : FrR (fun _ => False) (fun _ => False) [O.frz (ns.map D.int)] (fun m => m = 0) ([Sl.val (.frz (ns.map V.int))].map some) ([D.ref 0].map some) := by
    refine ⟨fun m q => ⟨by subst q; simp, id, id⟩, fun m q => q.elim, fun m q => q.elim, rfl, fun i o p y1 y2 => ?_, fun i j o o' m y1 y2 y3 y4 y5 y6 => ?_⟩
    · cases i with
      | zero =>
        simp at y1 y2; subst y1 y2
        refine ⟨.ref 0, rfl, ?_⟩
        simp only [Rep]
        exact ⟨0, _, rfl, rfl, rfl, RepL.map (f := V.int) (g := D.int) (fun _ => by simp [Rep]) ns⟩
      | succ i => simp at y1
    · cases i with
      | zero => simp at y1; subst y1; cases y3
      | succ i => simp at y1
  obtain ⟨d, h', S', a, b, _, _⟩ := run_ok F w n f _ _ _ e _ _ _ _ F0
  simp only [Rep] at b
  subst b
  exact ⟨h', a⟩
end Pv
set_option Elab.async false
set_option linter.all false
namespace Pv
open Ev (D BOp COp TY BI ME T E Es Eo It S Ss Fn big deep b2i rep mulOk ixN atI sIx cut joinS sortS slots)
theorem le_big {n : Nat} (h : n ≤ 100000) : n ≤ big := Nat.le_trans h (by decide)
@[simp] theorem big1 : 1 ≤ big := le_big (by decide)
@[simp] theorem big2 : 2 ≤ big := le_big (by decide)
@[simp] theorem big3 : 3 ≤ big := le_big (by decide)
@[simp] theorem big5 : 5 ≤ big := le_big (by decide)
section
variable {i j : Int} {a b : List Nat} {x y : List V} {d e : V} {m n : Nat} {k l : Bool}
@[simp] theorem ofD_bl : ofD (.bl k) = some (.bl k) := by rw [ofD]
@[simp] theorem ofD_int : ofD (.int i) = some (.int i) := by rw [ofD]
@[simp] theorem ofD_str : ofD (.str a) = some (.str a) := by rw [ofD]
theorem mkL_le (h : x.length ≤ big) : mkL x = some (.lst x) := by simp [mkL, h]
theorem mkT_le (h : x.length ≤ big) : mkT x = some (.tup x) := by simp [mkT, h]
@[simp] theorem mkL_0 : mkL [] = some (.lst []) := mkL_le (by simp)
@[simp] theorem mkT_0 : mkT [] = some (.tup []) := mkT_le (by simp)
@[simp] theorem mkL_1 {a} : mkL [a] = some (.lst [a]) := mkL_le (by simp)
@[simp] theorem mkT_1 {a} : mkT [a] = some (.tup [a]) := mkT_le (by simp)
@[simp] theorem mkL_2 {a b} : mkL [a, b] = some (.lst [a, b]) := mkL_le (by simp)
@[simp] theorem mkT_2 {a b} : mkT [a, b] = some (.tup [a, b]) := mkT_le (by simp)
@[simp] theorem mkT_3 {a b c} : mkT [a, b, c] = some (.tup [a, b, c]) := mkT_le (by simp)
@[simp] theorem mkT_5 {a b c d e} : mkT [a, b, c, d, e] = some (.tup [a, b, c, d, e]) := mkT_le (by simp)
@[simp] theorem bop_addi : bop .add (.int i) (.int j) = some (.int (i + j)) := nd rfl
theorem bop_adds (h : a.length + b.length ≤ 100000) : bop .add (.str a) (.str b) = some (.str (a ++ b)) := by delta bop; dsimp only; simp [le_big h]
theorem bop_addt (h : x.length + y.length ≤ 100000) : bop .add (.tup x) (.tup y) = some (.tup (x ++ y)) := by delta bop; dsimp only; simp [le_big h]
theorem bop_addl (h : x.length + y.length ≤ 100000) : bop .add (.lst x) (.lst y) = some (.lst (x ++ y)) := by delta bop; dsimp only; simp [mkL_le (le_big (show (x ++ y).length ≤ 100000 by simpa using h))]
@[simp] theorem bop_subi : bop .sub (.int i) (.int j) = some (.int (i - j)) := nd rfl
@[simp] theorem bop_muli : bop .mul (.int i) (.int j) = if mulOk i j then some (.int (i * j)) else none := nd rfl
theorem bop_muls (h0 : 0 ≤ j) (h1 : j ≤ 1000) (h2 : a.length ≤ 1000) : bop .mul (.str a) (.int j) = some (.str (rep j.toNat a)) := by delta bop; dsimp only; simp [h0, h1, h2]
theorem bop_mult (h0 : 0 ≤ j) (h1 : j ≤ 1000) (h2 : x.length ≤ 1000) : bop .mul (.tup x) (.int j) = some (.tup (rep j.toNat x)) := by delta bop; dsimp only; simp [h0, h1, h2]
theorem bop_mull (h0 : 0 ≤ j) (h1 : j ≤ 1000) (h2 : x.length ≤ 1000) (h3 : (rep j.toNat x).length ≤ 100000) : bop .mul (.lst x) (.int j) = some (.lst (rep j.toNat x)) := by delta bop; dsimp only; simp [h0, h1, h2, mkL_le (le_big h3)]
@[simp] theorem bop_fdiv : bop .fdiv (.int i) (.int j) = if 0 < j ∧ j < 1073741824 then some (.int (i / j)) else none := nd rfl
@[simp] theorem bop_mod : bop .mod (.int i) (.int j) = if 0 < j then some (.int (i % j)) else none := nd rfl
@[simp] theorem cop_eq : cop .eq d e = veq deep d e := nd rfl
@[simp] theorem cop_ne : cop .ne d e = (veq deep d e).map (!·) := nd rfl
@[simp] theorem cop_lt : cop .lt (.int i) (.int j) = some (decide (i < j)) := nd rfl
@[simp] theorem cop_gt : cop .gt (.int i) (.int j) = some (decide (j < i)) := nd rfl
@[simp] theorem mem_cons : mem d (e :: x) = (veq deep e d).bind fun b => (mem d x).bind fun c => some (b || c) := nd rfl
@[simp] theorem veq_ii : veq (n + 1) (.int i) (.int j) = some (decide (i = j)) := by rw [veq]; by_cases h : i = j <;> simp [h]
@[simp] theorem veq_ss : veq (n + 1) (.str a) (.str b) = some (decide (a = b)) := by rw [veq]; by_cases h : a = b <;> simp [h]
@[simp] theorem veq_bb : veq (n + 1) (.bl k) (.bl l) = some (decide (k = l)) := by cases k <;> cases l <;> rfl
@[simp] theorem veq_si : veq (n + 1) (.str a) (.int i) = some false := nd rfl
@[simp] theorem veq_is : veq (n + 1) (.int i) (.str a) = some false := nd rfl
@[simp] theorem veq_tt : veq (n + 1) (.tup x) (.tup y) = eqL (veq n) x y := nd rfl
@[simp] theorem veq_ll : veq (n + 1) (.lst x) (.lst y) = eqL (veq n) x y := nd rfl
@[simp] theorem dveq_ii : veq deep (.int i) (.int j) = some (decide (i = j)) := veq_ii
@[simp] theorem dveq_ss : veq deep (.str a) (.str b) = some (decide (a = b)) := veq_ss
@[simp] theorem dveq_bb : veq deep (.bl k) (.bl l) = some (decide (k = l)) := veq_bb
@[simp] theorem dveq_tt : veq deep (.tup x) (.tup y) = eqL (veq (18 + 1)) x y := nd rfl
@[simp] theorem dveq_ll : veq deep (.lst x) (.lst y) = eqL (veq (18 + 1)) x y := nd rfl
@[simp] theorem dveq_fl : veq deep (.frz x) (.lst y) = eqL (veq (18 + 1)) x y := nd rfl
@[simp] theorem eqL_nil {f : V → V → Option Bool} : eqL f [] [] = some true := nd rfl
@[simp] theorem eqL_nc {f : V → V → Option Bool} : eqL f [] (d :: x) = some false := nd rfl
@[simp] theorem eqL_cn {f : V → V → Option Bool} : eqL f (d :: x) [] = some false := nd rfl
@[simp] theorem eqL_cons {f : V → V → Option Bool} : eqL f (d :: x) (e :: y) = (f d e).bind fun b => (eqL f x y).bind fun c => some (b && c) := nd rfl
theorem eqL_map {α : Type} [DecidableEq α] {f : V → V → Option Bool} {g : α → V} (h : ∀ a b, f (g a) (g b) = some (decide (a = b))) : ∀ l m : List α, eqL f (l.map g) (m.map g) = some (decide (l = m))
  | [], [] => by simp
  | [], _ :: _ => by simp
  | _ :: _, [] => by simp
  | a :: l, b :: m => by simp [h, eqL_map h l m]
@[simp] theorem ixd_tup : ixd (.tup x) (.int i) = atI x i := nd rfl
@[simp] theorem ixd_str : ixd (.str a) (.int i) = (atI a i).map fun c => .str [c] := nd rfl
@[simp] theorem ixd_lst : ixd (.lst x) (.int i) = atI x i := nd rfl
@[simp] theorem ixd_frz : ixd (.frz x) (.int i) = atI x i := nd rfl
@[simp] theorem sld_lst {lo hi : Option Int} : sld (.lst x) lo hi = mkL (cut x lo hi) := nd rfl
@[simp] theorem rvd_lst : rvd (.lst x) = mkL x.reverse := nd rfl
theorem len_str (h : a.length ≤ 100000) : bfn .len [.str a] = some (.int a.length) := by delta bfn; dsimp only; simp [le_big h]
@[simp] theorem len_lst : bfn .len [.lst x] = some (.int x.length) := nd rfl
@[simp] theorem len_frz : bfn .len [.frz x] = some (.int x.length) := nd rfl
@[simp] theorem sum_lst : bfn .sum [.lst x] = (intsOf x).map fun is => .int is.sum := nd rfl
@[simp] theorem toT_lst : toT (.lst x) = mkT x := nd rfl
@[simp] theorem seqOf_tup : seqOf (.tup x) = some x := nd rfl
@[simp] theorem seqOf_str : seqOf (.str a) = some (a.map fun c => .str [c]) := nd rfl
theorem rng1 (h0 : 0 ≤ j) (h1 : j ≤ 100000) : rngOf [.int j] = some (range 0 j.toNat) := by
  simp only [rngOf]; rw [if_pos ⟨by omega, by omega⟩]
theorem rng2 (h0 : -100000 ≤ i) (h1 : i ≤ 100000) (h2 : -100000 ≤ j) (h3 : j ≤ 100000) : rngOf [.int i, .int j] = some (range i (j - i).toNat) := by
  simp only [rngOf]; rw [if_pos ⟨by omega, by omega, by omega, by omega⟩]
theorem intsOf_map {α : Type} (g : α → Int) (l : List α) : intsOf (l.map fun x => .int (g x)) = some (l.map g) := by induction l <;> simp [intsOf, *]
theorem strsOf_map {α : Type} (g : α → List Nat) (l : List α) : strsOf (l.map fun x => .str (g x)) = some (l.map g) := by induction l <;> simp [strsOf, *]
theorem joinS_nil : ∀ l : List (List Nat), joinS [] l = l.flatten
  | [] => rfl
  | [s] => by simp [joinS]
  | s :: t :: r => by simp [joinS, joinS_nil (t :: r)]
@[simp] theorem tru_bl : truthy (.bl k) = k := nd rfl
theorem join0 {l : List (List Nat)} (h : l.flatten.length ≤ 100000) : mef .join (.str []) [.lst (l.map V.str)] = some (.str l.flatten) := by
  have hs := strsOf_map (fun x => x) l
  have : (l.map (·.length)).sum ≤ big := le_big (by rw [← List.length_flatten]; exact h)
  simp only [List.map_id'] at hs
  have hs' : strsOf (l.map V.str) = some l := by simpa using strsOf_map (fun x => x) l
  delta mef; dsimp only; simp [lOf, hs', joinS_nil, this]
end
theorem compL_map {α : Type} {f : V → Option (Option V)} (e : α → V) (g : α → V) (l : List α) (h : ∀ a ∈ l, f (e a) = some (some (g a))) : compL f (l.map e) = some (l.map g) := by
  induction l with
  | nil => rfl
  | cons a l ih => simp only [List.map_cons, compL, h a (by simp), ih fun u hu => h u (by simp [hu]), Option.bind]; rfl
theorem compL_filter {α : Type} {f : V → Option (Option V)} (e : α → V) (p : α → Bool) (g : α → V) (l : List α) (h : ∀ a ∈ l, f (e a) = some (if p a then some (g a) else none)) : compL f (l.map e) = some ((l.filter p).map g) := by
  induction l with
  | nil => rfl
  | cons a l ih =>
    simp only [List.map_cons, compL, h a (by simp), ih fun u hu => h u (by simp [hu]), Option.bind]
    cases z : p a <;> simp [z]
noncomputable def Wp {α : Type} (r : R α) (Q : α → Fr → Prop) : Prop := ∃ a h, r = .ok a h ∧ Q a h
section
variable {α β : Type} {Q Q' : α → Fr → Prop}
@[simp] theorem wp_ok (a : α) (h : Fr) : Wp (.ok a h) Q = Q a h := propext ⟨fun ⟨_, _, e, q⟩ => by cases e; exact q, fun q => ⟨_, _, rfl, q⟩⟩
@[simp] theorem wp_bad : Wp (.bad : R α) Q = False := propext ⟨fun q => (by obtain ⟨_, _, e, _⟩ := q; cases e), False.elim⟩
@[simp] theorem wp_bind (r : R β) (f : β → Fr → R α) : Wp (r.bind f) Q = Wp r fun a h => Wp (f a h) Q := by cases r <;> simp
theorem Wp.mono {r : R α} (h : Wp r Q) (f : ∀ a h, Q a h → Q' a h) : Wp r Q' := by
  obtain ⟨a, h', e, q⟩ := h
  exact ⟨a, h', e, f a h' q⟩
end
noncomputable def fl (I Q : Fr → Prop) (X : V → Fr → Prop) : Fl → Fr → Prop
  | .nx, fr => I fr
  | .ct, fr => I fr
  | .bk, fr => Q fr
  | .ret v, fr => X v fr
section
variable {I J : Fr → Prop} {X : V → Fr → Prop} {fr : Fr} {v : V}
@[simp] theorem fl_nx : fl I J X .nx fr = I fr := nd rfl
end
theorem wp_forM {α : Type} {e : α → V} {f : V → Fr → R Fl} {Q : Fl → Fr → Prop} (I : List α → List α → Fr → Prop) (turn : ∀ p a l fr, I p (a :: l) fr → Wp (f (e a) fr) (fl (I (p ++ [a]) l) (Q .nx) fun v => Q (.ret v))) (fin : ∀ p fr, I p [] fr → Q .nx fr) : ∀ (l p : List α) (fr : Fr), I p l fr → Wp (forL f (l.map e) fr) Q
  | [], p, fr, i => by simp only [List.map_nil, forL, wp_ok]; exact fin p fr i
  | a :: l, p, fr, i => by
    simp only [List.map_cons, forL, wp_bind]
    refine (turn p a l fr i).mono fun g h2 q => ?_
    cases g with
    | nx => exact wp_forM I turn fin l _ h2 q
    | ct => exact wp_forM I turn fin l _ h2 q
    | bk => exact (wp_ok _ _).mpr q
    | ret x => exact (wp_ok _ _).mpr q
theorem wp_forR {f : V → Fr → R Fl} {Q : Fl → Fr → Prop} {lo : Int} {N : Nat} (I : Nat → Fr → Prop) (turn : ∀ (k : Nat) fr, k < N → I k fr → Wp (f (.int (lo + (k : Nat))) fr) (fl (I (k + 1)) (Q .nx) fun v => Q (.ret v))) (fin : ∀ fr, I N fr → Q .nx fr) {fr : Fr} (i : I 0 fr) : Wp (forL f (range lo N) fr) Q := by
  have h := wp_forM (e := fun (k : Nat) => V.int (lo + k)) (f := f) (Q := Q) (fun p l fr => ∃ k, k ≤ N ∧ p = List.range k ∧ p ++ l = List.range N ∧ I k fr)
    (fun p a l fr ⟨k, hk, hp, hl, q⟩ => by
      subst hp
      have hlen := congrArg List.length hl
      simp at hlen
      have ha : a = k := by
        have := congrArg (·[k]?) hl
        simp [List.getElem?_append_right] at this
        rw [List.getElem?_range (by omega)] at this
        simpa using this
      subst ha
      refine (turn a fr (by omega) q).mono fun g h2 z => ?_
      cases g with
      | nx => exact ⟨a + 1, by omega, by simp [List.range_succ], by simpa using hl, z⟩
      | ct => exact ⟨a + 1, by omega, by simp [List.range_succ], by simpa using hl, z⟩
      | bk => exact z
      | ret x => exact z)
    (fun p fr ⟨k, hk, hp, hl, q⟩ => by
      subst hp
      have hlen := congrArg List.length hl
      simp at hlen
      subst hlen
      exact fin fr q) (List.range N) [] fr ⟨0, Nat.zero_le _, rfl, by simp, i⟩
  exact h
noncomputable def fin (np : Nat) : R Fl → Option (V × List (List V))
  | .ok (.ret v) fr => some (v, outs np fr)
  | .ok .nx fr => some (.non, outs np fr)
  | _ => none
@[simp] theorem fin_ret {np : Nat} {v : V} {fr : Fr} : fin np (.ok (.ret v) fr) = some (v, outs np fr) := nd rfl
theorem run_eq {F : List Fn} {w n f : Nat} {ds : List Sl} {fn : Fn} (hf : F[f]? = some fn) (hl : ds.length = fn.np) : run F w (n + 1) f ds = fin fn.np (exs (run F w n) w fn.body (fr0 fn ds)) := by
  simp only [run, hf, hl, if_true]
  cases exs (run F w n) w fn.body (fr0 fn ds) with
  | bad => rfl
  | ok g fr => cases g <;> rfl
theorem run_wp {F : List Fn} {w n f : Nat} {ds : List Sl} {fn : Fn} {v : V} {os : List (List V)} (hf : F[f]? = some fn) (hl : ds.length = fn.np) (q : Wp (exs (run F w n) w fn.body (fr0 fn ds)) fun g fr => g = .ret v ∧ outs fn.np fr = os) : run F w (n + 1) f ds = some (v, os) := by
  rw [run_eq hf hl]
  obtain ⟨g, fr, e, rfl, rfl⟩ := q
  rw [e]; rfl
section
variable {P : Phi} {w : Nat} {fr : Fr} {k : Bool} {a b c : E} {es : Es} {ss sa sb : Ss} {st : S} {lo hi : Eo} {it : It}
@[simp] theorem ev_c {d : D} : ev P k (.c d) fr = R.of (ofD d) fr := by rw [ev]
@[simp] theorem ev_v {i : Nat} : ev P k (.v i) fr = R.of (getV k fr i) fr := by rw [ev]
@[simp] theorem ev_tup : ev P k (.tup es) fr = (evs P false es fr).bind fun ds fr1 => R.of (mkT ds) fr1 := by rw [ev]
@[simp] theorem ev_lst : ev P k (.lst es) fr = (evs P false es fr).bind fun ds fr1 => R.of (mkL ds) fr1 := by rw [ev]
@[simp] theorem ev_bin {o : BOp} : ev P k (.bin o a b) fr = (ev P (kf a (tch b)) a fr).bind fun x fr1 => (ev P true b fr1).bind fun y fr2 => R.of (bop o x y) fr2 := by rw [ev]
@[simp] theorem ev_cmp {o : COp} : ev P k (.cmp o a b) fr = (ev P (kf a (tch b)) a fr).bind fun x fr1 => (ev P true b fr1).bind fun y fr2 => R.of ((cop o x y).map .bl) fr2 := by rw [ev]
@[simp] theorem ev_ife : ev P k (.ife a b c) fr = (evT P a fr).bind fun t fr1 => if t then ev P k b fr1 else ev P k c fr1 := by rw [ev]
@[simp] theorem ev_ix : ev P k (.ix a b) fr = (ev P (kf a (tch b)) a fr).bind fun x fr1 => (ev P true b fr1).bind fun y fr2 => R.of (ixd x y) fr2 := by rw [ev]
@[simp] theorem ev_sl : ev P k (.sl a lo hi) fr = (ev P (kf a (tcho lo ++ tcho hi)) a fr).bind fun x fr1 => (evo P lo fr1).bind fun l fr2 => (evo P hi fr2).bind fun u fr3 => R.of (sld x l u) fr3 := by rw [ev]
@[simp] theorem ev_rv : ev P k (.rv a) fr = (ev P true a fr).bind fun x fr1 => R.of (rvd x) fr1 := by rw [ev]
@[simp] theorem ev_cl {f : Nat} : ev P k (.cl f es) fr = (evA P es fr).bind fun as fr1 => callF P f as fr1 := by rw [ev]
@[simp] theorem ev_bi {g : BI} : ev P k (.bi g es) fr = (evs P true es fr).bind fun ds fr1 => R.of (bfn g ds) fr1 := by rw [ev]
noncomputable def chgS (m : ME) (i : Nat) : List V → Fr → R V := fun ds fr1 => match fr1[i]? with
  | some (some (.own l)) => match mtf m l ds with
    | some (v, l') => .ok v (fr1.set i (some (.own l')))
    | none => .bad
  | some (some (.bor l)) => match mtf m l ds with
    | some (v, l') => .ok v (fr1.set i (some (.bor l')))
    | none => .bad
  | _ => .bad
theorem ev_meM {m : ME} {i : Nat} (hm : isMut m = true) : ev P k (.me m (.v i) es) fr = if (lent fr i).isSome then (evs P (exK m) es fr).bind (chgS m i) else .bad := by
  rw [ev, if_pos hm]
  unfold isV
  cases z : (lent fr i).isSome <;> simp [z] <;> rfl
@[simp] theorem ev_append {i : Nat} : ev P k (.me .append (.v i) es) fr = if (lent fr i).isSome then (evs P false es fr).bind (chgS .append i) else .bad := ev_meM rfl
@[simp] theorem ev_extend {i : Nat} : ev P k (.me .extend (.v i) es) fr = if (lent fr i).isSome then (evs P true es fr).bind (chgS .extend i) else .bad := ev_meM rfl
theorem ev_meN {m : ME} (hm : isMut m = false) : ev P k (.me m a es) fr = (ev P (kf a (tchs es)) a fr).bind fun x fr1 => (evs P true es fr1).bind fun ds fr2 => R.of (mef m x ds) fr2 := by rw [ev, hm]; rfl
@[simp] theorem ev_join : ev P k (.me .join a es) fr = (ev P (kf a (tchs es)) a fr).bind fun x fr1 => (evs P true es fr1).bind fun ds fr2 => R.of (mef .join x ds) fr2 := ev_meN rfl
noncomputable def turnC (P : Phi) (elt : E) (t : T) (cond : Eo) (fr : Fr) : V → Option (Option V) := fun d => match bindT t d (roF fr) with
  | none => none
  | some fr2 => match evc P cond fr2 with
    | .ok c _ => if c then (match ev P false elt fr2 with | .ok x _ => some (some x) | .bad => none) else some none
    | .bad => none
@[simp] theorem ev_comp {elt : E} {t : T} {cond : Eo} : ev P k (.comp elt t it cond) fr = (evi P true it fr).bind fun s fr1 => if undef t fr1 then R.of ((compL (turnC P elt t cond fr1) s).bind mkL) fr1 else .bad := by rw [ev]; rfl
@[simp] theorem ev_lof : ev P k (.lof it) fr = (evi P true it fr).bind fun s fr1 => R.of (mkL s) fr1 := by rw [ev]
@[simp] theorem ev_ttp : ev P k (.ttp a) fr = (ev P true a fr).bind fun x fr1 => R.of (toT x) fr1 := by rw [ev]
@[simp] theorem evs_nil : evs P k .nil fr = .ok [] fr := by rw [evs]
@[simp] theorem evs_cons : evs P k (.cons a es) fr = (ev P (k && kf a (tchs es)) a fr).bind fun d fr1 => (evs P k es fr1).bind fun ds fr2 => .ok (d :: ds) fr2 := by rw [evs]
@[simp] theorem evA_nil : evA P .nil fr = .ok [] fr := by rw [evA]
noncomputable def lendA (P : Phi) (a : E) (es : Es) (fr : Fr) : Option Nat → R (List (Nat ⊕ V))
  | some i => (evA P es fr).bind fun r fr1 => .ok (.inl i :: r) fr1
  | none => (ev P false a fr).bind fun d fr1 => (evA P es fr1).bind fun r fr2 => .ok (.inr d :: r) fr2
@[simp] theorem lendA_none : lendA P a es fr none = (ev P false a fr).bind fun d fr1 => (evA P es fr1).bind fun r fr2 => .ok (.inr d :: r) fr2 := nd rfl
@[simp] theorem evA_cons : evA P (.cons a es) fr = lendA P a es fr (isV fr a) := by rw [evA]; cases isV fr a <;> rfl
@[simp] theorem evo_yes : evo P (.yes a) fr = (ev P true a fr).bind fun d fr1 => R.of ((intOf d).map some) fr1 := by rw [evo]
@[simp] theorem intOf_int {i : Int} : intOf (.int i) = some i := nd rfl
@[simp] theorem evc_no : evc P .no fr = .ok true fr := by rw [evc]
@[simp] theorem evc_yes : evc P (.yes a) fr = evT P a fr := by rw [evc]
@[simp] theorem evT_an : evT P (.an a b) fr = (evT P a fr).bind fun k fr1 => if k then evT P b fr1 else .ok false fr1 := by rw [evT]
@[simp] theorem evT_orr : evT P (.orr a b) fr = (evT P a fr).bind fun k fr1 => if k then .ok true fr1 else evT P b fr1 := by rw [evT]
noncomputable def truR : V → Fr → R Bool := fun x fr1 => .ok (truthy x) fr1
@[simp] theorem truR_eq {x : V} : truR x fr = .ok (truthy x) fr := nd rfl
@[simp] theorem evT_cmp {o : COp} : evT P (.cmp o a b) fr = (ev P true (.cmp o a b) fr).bind truR := by rw [evT]; rfl; all_goals (intros; contradiction)
@[simp] theorem evT_v {i : Nat} : evT P (.v i) fr = (ev P true (.v i) fr).bind truR := by rw [evT]; rfl; all_goals (intros; contradiction)
@[simp] theorem evi_seq : evi P k (.seq a) fr = (src k fr a (ev P k a fr)).bind fun x fr1 => R.of (seqOf x) fr1 := by rw [evi]
@[simp] theorem evi_rng : evi P k (.rng es) fr = (evs P true es fr).bind fun ds fr1 => R.of (rngOf ds) fr1 := by rw [evi]
noncomputable def setN (i : Nat) (fr1 : Fr) : V → R Fl
  | .lst l => (R.of (put fr1 i (.own l)) fr1).bind fun fr2 _ => .ok .nx fr2
  | _ => .bad
@[simp] theorem setN_lst {i : Nat} {l : List V} : setN i fr (.lst l) = (R.of (put fr i (.own l)) fr).bind fun fr2 _ => .ok .nx fr2 := nd rfl
@[simp] theorem ex_set {i : Nat} : ex P w (.set i a) fr = (ev P false a fr).bind fun x fr1 => if isNew a then setN i fr1 x else (R.of (put fr1 i (.val x)) fr1).bind fun fr2 _ => .ok .nx fr2 := by
  rw [ex]; rfl
@[simp] theorem ex_exp : ex P w (.exp a) fr = (ev P true a fr).bind fun _ fr1 => .ok .nx fr1 := by rw [ex]
@[simp] theorem ex_ret : ex P w (.ret a) fr = (ev P false a (shutF fr)).bind fun x fr1 => .ok (.ret x) fr1 := by rw [ex]
@[simp] theorem ex_iff : ex P w (.iff a sa sb) fr = (evT P a fr).bind fun k fr1 => if k then exs P w sa fr1 else exs P w sb fr1 := by rw [ex]
noncomputable def turnF (P : Phi) (w : Nat) (t : T) (b : Ss) : V → Fr → R Fl := fun d fr2 => match bindT t d fr2 with
  | some fr3 => exs P w b fr3
  | none => .bad
@[simp] theorem ex_for {t : T} : ex P w (.for t it ss) fr = (evi P false it (walkF (itv it) fr)).bind fun s fr1 => forL (turnF P w t ss) s fr1 := by rw [ex]; rfl
@[simp] theorem exs_nil : exs P w .nil fr = .ok .nx fr := by rw [exs]
noncomputable def nextS (P : Phi) (w : Nat) (ss : Ss) : Fl → Fr → R Fl := fun p h1 => match p with
  | .nx => exs P w ss h1
  | p => .ok p h1
@[simp] theorem nextS_nx : nextS P w ss .nx fr = exs P w ss fr := nd rfl
@[simp] theorem nextS_ret {d : V} : nextS P w ss (.ret d) fr = .ok (.ret d) fr := nd rfl
@[simp] theorem exs_cons : exs P w (.cons st ss) fr = (ex P w st fr).bind (nextS P w ss) := by rw [exs]; rfl
@[simp] theorem bind_ite {α β : Type} {c : Prop} [Decidable c] {x y : R α} {f : α → Fr → R β} : (if c then x else y).bind f = if c then x.bind f else y.bind f := by split <;> rfl
end
theorem callF_all {P : Phi} {f : Nat} {vs : List V} {fr : Fr} {v : V} (h : P f (vs.map .val) = some (v, [])) : callF P f (vs.map .inr) fr = .ok v fr := by
  have h1 : ∀ vs : List V, lefts (vs.map .inr) = [] := fun vs => by induction vs <;> simp [lefts, *]
  have h2 : ∀ vs : List V, args fr (vs.map .inr) = some (vs.map .val) := fun vs => by induction vs <;> simp [args, *]
  simp [callF, h1, h2, h, back]
section
variable {P : Phi} {f : Nat} {fr : Fr} {a b c d v : V}
theorem call1 (h : P f [.val a] = some (v, [])) : callF P f [.inr a] fr = .ok v fr := callF_all (vs := [a]) h
theorem call2 (h : P f [.val a, .val b] = some (v, [])) : callF P f [.inr a, .inr b] fr = .ok v fr := callF_all (vs := [a, b]) h
theorem call3 (h : P f [.val a, .val b, .val c] = some (v, [])) : callF P f [.inr a, .inr b, .inr c] fr = .ok v fr := callF_all (vs := [a, b, c]) h
end
end Pv
set_option Elab.async false
set_option linter.all false
namespace Pv
open Ev (D BOp COp TY BI ME T E Es Eo It S Ss Fn big deep b2i rep mulOk ixN atI sIx cut joinS sortS slots)
section
variable {fr : Fr} {i j : Nat} {k : Bool} {s : Sl} {v u : V} {l : List V} {o : Option Sl}
noncomputable def slV (k : Bool) : Option (Option Sl) → Option V
  | some (some (.val v)) => some v
  | some (some (.own l)) => if k then some (.lst l) else none
  | some (some (.bor l)) => if k then some (.lst l) else none
  | some (some (.ro l)) => if k then some (.lst l) else none
  | _ => none
@[simp] theorem getV_sl : getV k fr i = slV k fr[i]? := by unfold getV slV; split <;> simp_all
@[simp] theorem slV_val : slV k (some (some (.val v))) = some v := nd rfl
@[simp] theorem slV_own : slV k (some (some (.own l))) = if k then some (.lst l) else none := nd rfl
noncomputable def slS (k : Bool) : Option (Option Sl) → Option V
  | some (some (.ro l)) => some (.lst l)
  | o => slV k o
@[simp] theorem slS_val : slS k (some (some (.val v))) = some v := nd rfl
@[simp] theorem getS_sl : getS k fr i = slS k fr[i]? := by unfold getS; rw [getV_sl]; unfold slS; split <;> simp_all
@[simp] theorem src_v {r : R V} : src k fr (.v i) r = R.of (getS k fr i) fr := nd rfl
@[simp] theorem src_tup {r : R V} {es : Es} : src k fr (.tup es) r = r := nd rfl
noncomputable def slL : Option (Option Sl) → Option Sl
  | some (some s) => s.lend
  | _ => none
@[simp] theorem lent_sl : lent fr i = slL fr[i]? := by unfold lent slL; split <;> simp_all
@[simp] theorem slL_val : slL (some (some (.val v))) = none := nd rfl
@[simp] theorem slL_own : slL (some (some (.own l))) = some (.bor l) := nd rfl
@[simp] theorem isV_v : isV fr (.v i) = if (slL fr[i]?).isSome then some i else none := by rw [← lent_sl]; rfl
@[simp] theorem isV_c {d : D} : isV fr (.c d) = none := nd rfl
@[simp] theorem isV_bin {o : BOp} {a b : E} : isV fr (.bin o a b) = none := nd rfl
@[simp] theorem isV_cl {f : Nat} {es : Es} : isV fr (.cl f es) = none := nd rfl
noncomputable def slP (fr : Fr) (i : Nat) (s : Sl) : Option (Option Sl) → Option Fr
  | some (some (.bor _)) => none
  | some (some (.ro _)) => none
  | _ => some (fr.set i (some s))
@[simp] theorem put_sl : put fr i s = slP fr i s fr[i]? := by unfold put slP; split <;> simp_all
@[simp] theorem slP_none : slP fr i s (some none) = some (fr.set i (some s)) := nd rfl
@[simp] theorem slP_val : slP fr i s (some (some (.val v))) = some (fr.set i (some s)) := nd rfl
@[simp] theorem slP_own : slP fr i s (some (some (.own l))) = some (fr.set i (some s)) := nd rfl
@[simp] theorem bindT_one : bindT (.one i) v fr = put fr i (.val v) := nd rfl
@[simp] theorem bindT_many {l : List Nat} {x : List V} : bindT (.many l) (.tup x) fr = setAll l x fr := nd rfl
@[simp] theorem setAll_nil : setAll [] [] fr = some fr := nd rfl
@[simp] theorem setAll_cons {l : List Nat} {x : List V} : setAll (i :: l) (v :: x) fr = (put fr i (.val v)).bind (setAll l x) := nd rfl
@[simp] theorem roF_nil : roF [] = [] := nd rfl
@[simp] theorem roF_cons : roF (o :: fr) = o.map Sl.read :: roF fr := nd rfl
@[simp] theorem read_val : Sl.read (.val v) = .val v := nd rfl
@[simp] theorem shutF_nil : shutF [] = [] := nd rfl
@[simp] theorem shutF_cons : shutF (o :: fr) = o.map Sl.shut :: shutF fr := nd rfl
@[simp] theorem shut_val : Sl.shut (.val v) = .val v := nd rfl
@[simp] theorem shut_own : Sl.shut (.own l) = .val (.lst l) := nd rfl
noncomputable def slW (fr : Fr) (i : Nat) : Option (Option Sl) → Fr
  | some (some s) => fr.set i (some s.walk)
  | _ => fr
@[simp] theorem walkF_nil : walkF [] fr = fr := nd rfl
@[simp] theorem walkF_cons {l : List Nat} : walkF (i :: l) fr = walkF l (slW fr i fr[i]?) := by
  show List.foldl _ _ _ = _
  simp only [List.foldl_cons]
  unfold walkF slW
  congr 1
@[simp] theorem slW_some : slW fr i (some (some s)) = fr.set i (some s.walk) := nd rfl
@[simp] theorem walk_val : Sl.walk (.val v) = .val v := nd rfl
@[simp] theorem itv_v : itv (.seq (.v i)) = [i] := nd rfl
@[simp] theorem itv_rng {es : Es} : itv (.rng es) = [] := nd rfl
@[simp] theorem itv_tup {es : Es} : itv (.seq (.tup es)) = [] := nd rfl
@[simp] theorem undef_eq {t : T} : undef t fr = (slots t).all fun i => (fr[i]?.join).isNone := nd rfl
@[simp] theorem slots_one : slots (.one i) = [i] := nd rfl
@[simp] theorem outs_0 : outs 0 fr = [] := by simp [outs]
@[simp] theorem outs_nil : outs i [] = [] := by simp [outs]
@[simp] theorem outs_val : outs (i + 1) (some (.val v) :: fr) = outs i fr := by simp [outs, List.filterMap_cons, Sl.out]
@[simp] theorem fr0_eq {np ns : Nat} {b : Ss} {ds : List Sl} : fr0 ⟨np, ns, b⟩ ds = ds.map some ++ List.replicate (ns - np) none := nd rfl
@[simp] theorem isNew_lst {es : Es} : isNew (.lst es) = true := nd rfl
@[simp] theorem isNew_lof {it : It} : isNew (.lof it) = true := nd rfl
@[simp] theorem isNew_c {d : D} : isNew (.c d) = false := nd rfl
@[simp] theorem isNew_tup {es : Es} : isNew (.tup es) = false := nd rfl
@[simp] theorem isNew_bin {o : BOp} {a b : E} : isNew (.bin o a b) = false := nd rfl
@[simp] theorem isNew_cmp {o : COp} {a b : E} : isNew (.cmp o a b) = false := nd rfl
@[simp] theorem isNew_cl {f : Nat} {es : Es} : isNew (.cl f es) = false := nd rfl
@[simp] theorem isNew_bi {f : BI} {es : Es} : isNew (.bi f es) = false := nd rfl
noncomputable def slC (m : ME) (i : Nat) (ds : List V) (fr : Fr) : Option (Option Sl) → R V
  | some (some (.own l)) => match mtf m l ds with
    | some (v, l') => .ok v (fr.set i (some (.own l')))
    | none => .bad
  | some (some (.bor l)) => match mtf m l ds with
    | some (v, l') => .ok v (fr.set i (some (.bor l')))
    | none => .bad
  | _ => .bad
@[simp] theorem chgS_sl {m : ME} {ds : List V} : chgS m i ds fr = slC m i ds fr fr[i]? := by unfold chgS slC; split <;> simp_all <;> rfl
theorem app_own {d : V} (h : l.length < 100000) : slC .append i [d] fr (some (some (.own l))) = .ok .non (fr.set i (some (.own (l ++ [d])))) := by
  simp [slC, mtf, Nat.lt_of_lt_of_le h (show 100000 ≤ big by decide)]
theorem ext_own {d : List V} (h : l.length + d.length ≤ 100000) : slC .extend i [.lst d] fr (some (some (.own l))) = .ok .non (fr.set i (some (.own (l ++ d)))) := by
  simp [slC, mtf, le_big h]
end
noncomputable def vo (o : Option Sl) : Prop := o = none ∨ ∃ y, o = some (.val y)
theorem vo.none : vo none := .inl rfl
theorem vo.val {v : V} : vo (some (.val v)) := .inr ⟨v, rfl⟩
theorem slP_vo {fr : Fr} {i : Nat} {s : Sl} {b : Option Sl} (h : vo b) : slP fr i s (some b) = some (fr.set i (some s)) := by rcases h with rfl | ⟨y, rfl⟩ <;> rfl
@[simp] theorem vo_val {v : V} : vo (some (.val v)) = True := by simp [vo]
theorem shut_vo {b : Option Sl} (h : vo b) : b.map Sl.shut = b := by rcases h with rfl | ⟨y, rfl⟩ <;> rfl
noncomputable def nextL (f : V → Fr → R Fl) (ds : List V) : Fl → Fr → R Fl := fun p fr1 => match p with
  | .nx => forL f ds fr1
  | .ct => forL f ds fr1
  | .bk => .ok .nx fr1
  | .ret x => .ok (.ret x) fr1
section
variable {f : V → Fr → R Fl} {ds : List V} {d x : V} {fr : Fr}
@[simp] theorem forL_cons : forL f (d :: ds) fr = (f d fr).bind (nextL f ds) := nd rfl
end
section
variable {a b c : E} {es : Es} {lo hi : Eo} {it : It} {l : List Nat}
@[simp] theorem kf_v {i : Nat} : kf (.v i) l = !l.contains i := nd rfl
@[simp] theorem kf_nil : kf a [] = true := by cases a <;> simp [kf]
@[simp] theorem tch_c {d : D} : tch (.c d) = [] := by rw [tch]
@[simp] theorem tch_v {i : Nat} : tch (.v i) = [] := by rw [tch]
@[simp] theorem tch_tup : tch (.tup es) = tchs es := by rw [tch]
@[simp] theorem tch_lst : tch (.lst es) = tchs es := by rw [tch]
@[simp] theorem tch_bin {o : BOp} : tch (.bin o a b) = tch a ++ tch b := by rw [tch]
@[simp] theorem tch_cmp {o : COp} : tch (.cmp o a b) = tch a ++ tch b := by rw [tch]
@[simp] theorem tch_ife : tch (.ife a b c) = tch a ++ (tch b ++ tch c) := by rw [tch]
@[simp] theorem tch_ix : tch (.ix a b) = tch a ++ tch b := by rw [tch]
@[simp] theorem tch_cl {f : Nat} : tch (.cl f es) = tchs es ++ dvs es := by rw [tch]
@[simp] theorem tch_bi {f : BI} : tch (.bi f es) = tchs es := by rw [tch]
@[simp] theorem tch_comp {t : T} : tch (.comp a t it lo) = tchi it := by rw [tch]
@[simp] theorem tch_lof : tch (.lof it) = tchi it := by rw [tch]
@[simp] theorem tch_ttp : tch (.ttp a) = tch a := by rw [tch]
@[simp] theorem tchs_nil : tchs .nil = [] := by rw [tchs]
@[simp] theorem tchs_cons : tchs (.cons a es) = tch a ++ tchs es := by rw [tchs]
@[simp] theorem tcho_yes : tcho (.yes a) = tch a := by rw [tcho]
@[simp] theorem tchi_seq : tchi (.seq a) = tch a := by rw [tchi]
@[simp] theorem tchi_rng : tchi (.rng es) = tchs es := by rw [tchi]
@[simp] theorem dvs_nil : dvs .nil = [] := by rw [dvs]
@[simp] theorem dvs_v {i : Nat} : dvs (.cons (.v i) es) = i :: dvs es := by rw [dvs]
@[simp] theorem dvs_c {d : D} : dvs (.cons (.c d) es) = dvs es := by rw [dvs]; intro i h; cases h
@[simp] theorem dvs_bin {o : BOp} : dvs (.cons (.bin o a b) es) = dvs es := by rw [dvs]; intro i h; cases h
@[simp] theorem dvs_cl {f : Nat} {x : Es} : dvs (.cons (.cl f x) es) = dvs es := by rw [dvs]; intro i h; cases h
end
theorem atI_nn {α : Type} {l : List α} {i : Int} (h0 : 0 ≤ i) : atI l i = l[i.toNat]? := by
  unfold atI ixN
  rw [if_pos h0]
  split
  · rfl
  · rw [List.getElem?_eq_none (by omega)]; rfl
@[simp] theorem atI_1 {α : Type} {l : List α} : atI l (1 : Int) = l[1]? := by rw [atI_nn (by omega)]; rfl
@[simp] theorem atI_0 {α : Type} {l : List α} : atI l (0 : Int) = l[0]? := by rw [atI_nn (by omega)]; rfl
@[simp] theorem atI_nat {α : Type} {l : List α} {n : Nat} : atI l (n : Int) = l[n]? := by rw [atI_nn (by omega)]; simp
noncomputable def fCell : Fn := ⟨2, 2, (.cons (.iff (.cmp .eq (.v 0) (.lst .nil)) (.cons (.ret (.bin .mul (.c (.int 7)) (.v 1))) .nil) .nil) (.cons (.ret (.bin .add (.ix (.v 0) (.bin .mod (.v 1) (.bi .len (.cons (.v 0) .nil)))) (.bin .mul (.c (.int 6553)) (.bin .fdiv (.v 1) (.bi .len (.cons (.v 0) .nil)))))) .nil))⟩
noncomputable def fDrawn (c : Nat) : Fn := ⟨3, 4, (.cons (.set 3 (.bin .mod (.bin .add (.bin .mul (.bin .mod (.cl c (.cons (.v 0) (.cons (.v 1) .nil))) (.c (.int 2147483563))) (.c (.int 69069))) (.bin .mul (.c (.int 104723)) (.bin .add (.v 1) (.c (.int 1))))) (.c (.int 2147483563)))) (.cons (.set 3 (.bin .mod (.bin .add (.bin .mul (.v 3) (.v 3)) (.bin .fdiv (.v 3) (.c (.int 3)))) (.c (.int 2147483399)))) (.cons (.ret (.bin .mod (.bin .fdiv (.bin .mod (.bin .add (.bin .mul (.v 3) (.v 3)) (.bin .fdiv (.v 3) (.c (.int 7)))) (.c (.int 2147483647))) (.c (.int 11))) (.v 2))) .nil)))⟩
noncomputable def cellv (ns : List Int) (k : Int) : Int := if ns = [] then 7 * k else (ns[(k % ns.length).toNat]?.getD 0) + 6553 * (k / ns.length)
noncomputable def drw (ns : List Int) (k many : Int) : Int :=
  let c := (cellv ns k % 2147483563 * 69069 + 104723 * (k + 1)) % 2147483563
  let c := (c * c + c / 3) % 2147483399
  (c * c + c / 7) % 2147483647 / 11 % many
theorem drw_lo (ns : List Int) (k : Int) {many : Int} (h : 0 < many) : 0 ≤ drw ns k many := Int.emod_nonneg _ (by omega)
theorem drw_hi (ns : List Int) (k : Int) {many : Int} (h : 0 < many) : drw ns k many < many := Int.emod_lt_of_pos _ h
noncomputable def scr (ns : List Int) : V := .frz (ns.map V.int)
theorem scr_nil (ns : List Int) : eqL (veq (18 + 1)) (ns.map V.int) [] = some (decide (ns = [])) := by cases ns <;> simp
theorem run_cell {F : List Fn} {w n c : Nat} (hc : F[c]? = some fCell) {ns : List Int} (hn : ns.length ≤ 63) (k : Int) : run F w (n + 1) c [.val (scr ns), .val (.int k)] = some (.int (cellv ns k), []) := by
  rw [run_eq hc rfl]
  by_cases h0 : ns = []
  · simp [fCell, scr, h0, mulOk, cellv]
  · have hlen : 0 < ns.length := List.length_pos_iff.mpr h0
    have hm := Int.emod_lt_of_pos k (b := (ns.length : Int)) (by omega)
    have hm0 := Int.emod_nonneg k (b := (ns.length : Int)) (by omega)
    have hlt : (k % (ns.length : Int)).toNat < ns.length := by omega
    have h30 : (ns.length : Int) < 1073741824 := by omega
    have h31 : (0 : Int) < ns.length := by omega
    simp [fCell, scr, scr_nil, h0, h30, h31, hlen, atI_nn hm0, List.getElem?_eq_getElem hlt, mulOk, cellv]
theorem run_drawn {F : List Fn} {w n c dr : Nat} (hc : F[c]? = some fCell) (hd : F[dr]? = some (fDrawn c)) {ns : List Int} (hn : ns.length ≤ 63) (k : Int) {many : Int} (hm : 0 < many) : run F w (n + 2) dr [.val (scr ns), .val (.int k), .val (.int many)] = some (.int (drw ns k many), []) := by
  rw [run_eq hd rfl]
  have m1 : ∀ a : Int, 0 ≤ a % 2147483563 ∧ a % 2147483563 < 2147483563 := fun a => ⟨Int.emod_nonneg _ (by decide), Int.emod_lt_of_pos _ (by decide)⟩
  have m2 : ∀ a : Int, 0 ≤ a % 2147483399 ∧ a % 2147483399 < 2147483399 := fun a => ⟨Int.emod_nonneg _ (by decide), Int.emod_lt_of_pos _ (by decide)⟩
  have k1 : ∀ a b : Int, mulOk (a % 2147483563) b = true := fun a b => by have := m1 a; simp [mulOk]; omega
  have k2 : ∀ a b : Int, mulOk (a % 2147483399) b = true := fun a b => by have := m2 a; simp [mulOk]; omega
  have k3 : ∀ b : Int, mulOk 104723 b = true := fun b => by simp [mulOk]
  simp [fDrawn, call2 (run_cell hc hn k), k1, k2, k3, hm, drw]
end Pv
set_option Elab.async false
set_option linter.all false
namespace Pv
open Ev (D BOp COp TY BI ME T E Es Eo It S Ss Fn big deep b2i rep mulOk ixN atI sIx cut joinS sortS slots)
noncomputable def fText (dr : Nat) : Fn := ⟨3, 4, (.cons (.ret (.me .join (.c (.str [])) (.cons (.comp (.ix (.c (.str [97, 98, 99, 32])) (.cl dr (.cons (.v 0) (.cons (.bin .add (.bin .add (.v 1) (.c (.int 1))) (.v 3)) (.cons (.c (.int 4)) .nil))))) (.one 3) (.rng (.cons (.cl dr (.cons (.v 0) (.cons (.v 1) (.cons (.bin .add (.v 2) (.c (.int 1))) .nil)))) .nil)) .no) .nil))) .nil)⟩
noncomputable def chgB1 (dr : Nat) : S := .iff (.cmp .eq (.cl dr (.cons (.v 0) (.cons (.bin .add (.v 1) (.bin .mul (.c (.int 4)) (.v 4))) (.cons (.c (.int 4)) .nil)))) (.c (.int 0))) (.cons (.set 5 (.bin .mul (.ix (.c (.str [97, 98, 122])) (.cl dr (.cons (.v 0) (.cons (.bin .add (.bin .add (.v 1) (.bin .mul (.c (.int 4)) (.v 4))) (.c (.int 1))) (.cons (.c (.int 3)) .nil))))) (.bin .add (.c (.int 1)) (.cl dr (.cons (.v 0) (.cons (.bin .add (.bin .add (.v 1) (.bin .mul (.c (.int 4)) (.v 4))) (.c (.int 2))) (.cons (.c (.int 2)) .nil))))))) (.cons (.set 3 (.bin .add (.v 3) (.tup (.cons (.tup (.cons (.c (.str [112, 117, 116])) (.cons (.v 5) .nil))) .nil)))) .nil)) .nil
noncomputable def chgB2 (dr : Nat) : S := .iff (.cmp .lt (.v 4) (.bi .len (.cons (.v 2) .nil))) (.cons (.set 6 (.cmp .gt (.cl dr (.cons (.v 0) (.cons (.bin .add (.bin .add (.v 1) (.bin .mul (.c (.int 4)) (.v 4))) (.c (.int 3))) (.cons (.c (.int 3)) .nil)))) (.c (.int 0)))) (.cons (.set 3 (.bin .add (.v 3) (.tup (.cons (.ife (.v 6) (.tup (.cons (.c (.str [107, 101, 101, 112])) (.cons (.c (.int 1)) .nil))) (.tup (.cons (.c (.str [100, 114, 111, 112])) (.cons (.ix (.v 2) (.v 4)) .nil)))) .nil)))) .nil)) .nil
noncomputable def fChange (dr : Nat) : Fn := ⟨3, 7, (.cons (.set 3 (.tup .nil)) (.cons (.for (.one 4) (.rng (.cons (.bin .add (.bi .len (.cons (.v 2) .nil)) (.c (.int 1))) .nil)) (.cons (chgB1 dr) (.cons (chgB2 dr) .nil))) (.cons (.ret (.v 3)) .nil)))⟩
inductive Pt where
  | keep (n : Nat) | put (s : List Nat) | drop (s : List Nat)
deriving DecidableEq
noncomputable def kKeep : List Nat := [107, 101, 101, 112]
noncomputable def kPut : List Nat := [112, 117, 116]
noncomputable def kDrop : List Nat := [100, 114, 111, 112]
noncomputable def Pt.v : Pt → V
  | .keep n => .tup [.str kKeep, .int n]
  | .put s => .tup [.str kPut, .str s]
  | .drop s => .tup [.str kDrop, .str s]
noncomputable def chV (c : List Pt) : V := .tup (c.map Pt.v)
theorem veq_pt (n : Nat) (a b : Pt) : veq (n + 2) a.v b.v = some (decide (a = b)) := by
  cases a <;> cases b <;> simp [Pt.v, kKeep, kPut, kDrop]
  all_goals omega
theorem veq_ch (a b : List Pt) : veq deep (chV a) (chV b) = some (decide (a = b)) := by
  simp only [chV, dveq_tt]
  exact eqL_map (fun a b => veq_pt 17 a b) a b
noncomputable def txt (ns : List Int) (at_ most : Int) : List Nat := (List.range (drw ns at_ (most + 1)).toNat).map fun (k : Nat) => [97, 98, 99, 32].getD (drw ns (at_ + 1 + k) 4).toNat 0
theorem txt_len (ns : List Int) (at_ : Int) {most : Int} (h : 0 ≤ most) : (txt ns at_ most).length ≤ most.toNat := by
  unfold txt
  have h1 := drw_hi ns at_ (many := most + 1) (by omega)
  have h2 := drw_lo ns at_ (many := most + 1) (by omega)
  simp; omega
theorem getD_at {α : Type} {l : List α} {i : Int} (h0 : 0 ≤ i) (h1 : i < l.length) (d : α) : atI l i = some (l.getD i.toNat d) := by
  have : i.toNat < l.length := by omega
  rw [atI_nn h0]; simp [List.getD, List.getElem?_eq_getElem this]
theorem flatten_one {α β : Type} (l : List α) (f : α → β) : (l.map fun x => [f x]).flatten = l.map f := by induction l <;> simp [*]
theorem range_map (lo : Int) (n : Nat) : range lo n = (List.range n).map fun (i : Nat) => V.int (lo + i) := rfl
section
variable {F : List Fn} {w n c dr t : Nat} (hc : F[c]? = some fCell) (hd : F[dr]? = some (fDrawn c)) {ns : List Int} (hn : ns.length ≤ 63)
include hc hd hn
theorem run_text (ht : F[t]? = some (fText dr)) (k most : Int) (hm : 0 ≤ most) (hm2 : most ≤ 1000) : run F w (n + 3) t [.val (scr ns), .val (.int k), .val (.int most)] = some (.str (txt ns k most), []) := by
  rw [run_eq ht rfl]
  have b0 := drw_lo ns k (many := most + 1) (by omega)
  have b1 := drw_hi ns k (many := most + 1) (by omega)
  have hcomp : compL (turnC (run F w (n + 2)) (.ix (.c (.str [97, 98, 99, 32])) (.cl dr (.cons (.v 0) (.cons (.bin .add (.bin .add (.v 1) (.c (.int 1))) (.v 3)) (.cons (.c (.int 4)) .nil))))) (.one 3) .no [some (.val (scr ns)), some (.val (.int k)), some (.val (.int most)), none]) (range 0 (drw ns k (most + 1)).toNat) = some ((List.range (drw ns k (most + 1)).toNat).map fun (j : Nat) => V.str [[97, 98, 99, 32].getD (drw ns (k + 1 + j) 4).toNat 0]) := by
    rw [range_map]
    refine compL_map _ _ _ fun j _ => ?_
    have c0 := drw_lo ns (k + 1 + j) (many := 4) (by decide)
    have c1 := drw_hi ns (k + 1 + j) (many := 4) (by decide)
    simp [turnC, call3 (run_drawn hc hd hn (k + 1 + j) (many := 4) (by decide)), getD_at (l := [97, 98, 99, 32]) c0 c1 0]
  have hj := join0 (l := (List.range (drw ns k (most + 1)).toNat).map fun (j : Nat) => [[97, 98, 99, 32].getD (drw ns (k + 1 + j) 4).toNat 0]) (by rw [flatten_one]; simp; omega)
  rw [List.map_map, flatten_one] at hj
  simp only [Function.comp_def] at hj
  have hmk : mkL ((List.range (drw ns k (most + 1)).toNat).map fun (j : Nat) => V.str [[97, 98, 99, 32].getD (drw ns (k + 1 + j) 4).toNat 0]) = some (.lst _) := mkL_le (le_big (by simp; omega))
  simp [fText, call3 (run_drawn hc hd hn k (many := most + 1) (by omega)), rng1 b0 (by omega), -List.getD_eq_getElem?_getD]
  rw [hcomp]
  simp [hmk, -List.getD_eq_getElem?_getD]
  simp [hj, txt, -List.getD_eq_getElem?_getD]
end
noncomputable def chgAt (ns : List Int) (at_ : Int) (s : List Nat) (k : Nat) : List Pt :=
  (if drw ns (at_ + 4 * k) 4 = 0 then [.put (rep (1 + drw ns (at_ + 4 * k + 2) 2).toNat [[97, 98, 122].getD (drw ns (at_ + 4 * k + 1) 3).toNat 0])] else []) ++
  (match s[k]? with
  | some c => [if 0 < drw ns (at_ + 4 * k + 3) 3 then .keep 1 else .drop [c]]
  | none => [])
noncomputable def chgTo (ns : List Int) (at_ : Int) (s : List Nat) (k : Nat) : List Pt := (List.range k).flatMap (chgAt ns at_ s)
noncomputable def chg (ns : List Int) (at_ : Int) (s : List Nat) : List Pt := chgTo ns at_ s (s.length + 1)
theorem chgAt_len (ns : List Int) (at_ : Int) (s : List Nat) (k : Nat) : (chgAt ns at_ s k).length ≤ 2 := by
  unfold chgAt
  split <;> split <;> simp
theorem chgTo_succ (ns : List Int) (at_ : Int) (s : List Nat) (k : Nat) : chgTo ns at_ s (k + 1) = chgTo ns at_ s k ++ chgAt ns at_ s k := by simp [chgTo, List.range_succ]
theorem chgTo_len (ns : List Int) (at_ : Int) (s : List Nat) : ∀ k, (chgTo ns at_ s k).length ≤ 2 * k
  | 0 => by simp [chgTo]
  | k + 1 => by
    have h1 := chgAt_len ns at_ s k
    have h2 := chgTo_len ns at_ s k
    rw [chgTo_succ, List.length_append]
    omega
theorem mul4 (i : Int) : mulOk 4 i = true := by simp [mulOk]
theorem addch {a b : List Pt} (h : a.length + b.length ≤ 100000) : bop .add (chV a) (chV b) = some (chV (a ++ b)) := by
  simp only [chV]; rw [bop_addt (by simpa using h)]; simp
theorem rngN {j : Int} {n : Nat} (h : n ≤ 100000) (e : j = n) : rngOf [.int j] = some (range 0 n) := by
  subst e
  rw [rng1 (by omega) (by omega)]
  rfl
theorem evi_len {P : Phi} {fr : Fr} {x : List Nat} (hx : x.length ≤ 1000) (hfr : getV true fr 2 = some (.str x)) : evi P false (.rng (.cons (.bin .add (.bi .len (.cons (.v 2) .nil)) (.c (.int 1))) .nil)) fr = .ok (range 0 (x.length + 1)) fr := by
  have r1 := rngN (j := (x.length : Int) + 1) (n := x.length + 1) (by omega) (by omega)
  rw [evi_rng, evs_cons, ev_bin, ev_bi, evs_cons, ev_v, tchs_nil, kf_nil, Bool.and_self, hfr, of_some, bind_ok, evs_nil, bind_ok, bind_ok, len_str (show x.length ≤ 100000 by omega), of_some, bind_ok, ev_c, ofD_int, of_some, bind_ok, bop_addi, of_some, bind_ok, evs_nil, bind_ok, bind_ok, r1, of_some]
theorem add_put {a : List Pt} {s : List Nat} (h : a.length < 100000) : bop .add (chV a) (.tup [.tup [.str [112, 117, 116], .str s]]) = some (chV (a ++ [.put s])) := addch (a := a) (b := [.put s]) (by simp; omega)
theorem add_drop {a : List Pt} {s : List Nat} (h : a.length < 100000) : bop .add (chV a) (.tup [.tup [.str [100, 114, 111, 112], .str s]]) = some (chV (a ++ [.drop s])) := addch (a := a) (b := [.drop s]) (by simp; omega)
theorem add_keep {a : List Pt} (h : a.length < 100000) : bop .add (chV a) (.tup [.tup [.str [107, 101, 101, 112], .int 1]]) = some (chV (a ++ [.keep 1])) := addch (a := a) (b := [.keep 1]) (by simp; omega)
section
variable {F : List Fn} {w n c dr t : Nat} (hc : F[c]? = some fCell) (hd : F[dr]? = some (fDrawn c)) {ns : List Int} (hn : ns.length ≤ 63)
include hc hd hn
theorem wp_chgB1 (k : Int) (x : V) (fd : List Pt) (j : Nat) (u v : Option Sl) (hu : u = none ∨ ∃ y, u = some (.val y)) (hfd : fd.length ≤ 10000) :
    Wp (ex (run F w (n + 2)) w (chgB1 dr) [some (.val (scr ns)), some (.val (.int k)), some (.val x), some (.val (chV fd)), some (.val (.int j)), u, v]) fun g fr => g = .nx ∧ ∃ b, (b = none ∨ ∃ y, b = some (.val y)) ∧ fr = [some (.val (scr ns)), some (.val (.int k)), some (.val x), some (.val (chV (fd ++ if drw ns (k + 4 * j) 4 = 0 then [.put (rep (1 + drw ns (k + 4 * j + 2) 2).toNat [[97, 98, 122].getD (drw ns (k + 4 * j + 1) 3).toNat 0])] else []))), some (.val (.int j)), b, v] := by
  have d1 := call3 (fr := [some (.val (scr ns)), some (.val (.int k)), some (.val x), some (.val (chV fd)), some (.val (.int j)), u, v]) (run_drawn (w := w) (n := n) hc hd hn (k + 4 * j) (many := 4) (by decide))
  have d2 := call3 (fr := [some (.val (scr ns)), some (.val (.int k)), some (.val x), some (.val (chV fd)), some (.val (.int j)), u, v]) (run_drawn (w := w) (n := n) hc hd hn (k + 4 * j + 1) (many := 3) (by decide))
  have d3 := call3 (fr := [some (.val (scr ns)), some (.val (.int k)), some (.val x), some (.val (chV fd)), some (.val (.int j)), u, v]) (run_drawn (w := w) (n := n) hc hd hn (k + 4 * j + 2) (many := 2) (by decide))
  by_cases h0 : drw ns (k + 4 * j) 4 = 0
  · have c0 := drw_lo ns (k + 4 * j + 1) (many := 3) (by decide)
    have c1 := drw_hi ns (k + 4 * j + 1) (many := 3) (by decide)
    have c2 := drw_lo ns (k + 4 * j + 2) (many := 2) (by decide)
    have c3 := drw_hi ns (k + 4 * j + 2) (many := 2) (by decide)
    have c4 : 0 ≤ 1 + drw ns (k + 4 * j + 2) 2 := by omega
    have c5 : 1 + drw ns (k + 4 * j + 2) 2 ≤ 1000 := by omega
    rcases hu with rfl | ⟨y, rfl⟩ <;>
    simp [chgB1, mul4, d1, d2, d3, h0, getD_at (l := [97, 98, 122]) c0 c1 0, bop_muls c4 c5 (a := [_]) (by simp), add_put (show fd.length < 100000 by omega), -List.getD_eq_getElem?_getD]
  · simp [chgB1, mul4, d1, h0, hu]
theorem wp_chgB2 (k : Int) (x : List Nat) (hx : x.length ≤ 1000) (fd : List Pt) (j : Nat) (u v : Option Sl) (hv : v = none ∨ ∃ y, v = some (.val y)) (hfd : fd.length ≤ 10000) :
    Wp (ex (run F w (n + 2)) w (chgB2 dr) [some (.val (scr ns)), some (.val (.int k)), some (.val (.str x)), some (.val (chV fd)), some (.val (.int j)), u, v]) fun g fr => g = .nx ∧ ∃ b, (b = none ∨ ∃ y, b = some (.val y)) ∧ fr = [some (.val (scr ns)), some (.val (.int k)), some (.val (.str x)), some (.val (chV (fd ++ match x[j]? with
          | some c => [if 0 < drw ns (k + 4 * j + 3) 3 then .keep 1 else .drop [c]]
          | none => []))), some (.val (.int j)), u, b] := by
  have d1 := call3 (fr := [some (.val (scr ns)), some (.val (.int k)), some (.val (.str x)), some (.val (chV fd)), some (.val (.int j)), u, v]) (run_drawn (w := w) (n := n) hc hd hn (k + 4 * j + 3) (many := 3) (by decide))
  have hb : x.length ≤ 100000 := by omega
  by_cases hlt : j < x.length
  · have hl : fd.length < 100000 := by omega
    by_cases hk : 0 < drw ns (k + 4 * j + 3) 3
    · rcases hv with rfl | ⟨y, rfl⟩ <;> simp [chgB2, len_str hb, hlt, mul4, d1, hk, add_keep hl]
    · rcases hv with rfl | ⟨y, rfl⟩ <;> simp [chgB2, len_str hb, hlt, mul4, d1, hk, add_drop hl]
  · simp [chgB2, len_str hb, hlt, List.getElem?_eq_none (show x.length ≤ j by omega), hv]
theorem run_change (ht : F[t]? = some (fChange dr)) (k : Int) (x : List Nat) (hx : x.length ≤ 1000) : run F w (n + 3) t [.val (scr ns), .val (.int k), .val (.str x)] = some (chV (chg ns k x), []) := by
  refine run_wp ht rfl ?_
  simp only [fChange, fr0_eq, exs_cons, ex_for, wp_bind, ex_set, ev_tup, evs_nil, bind_ok, mkT_0, of_some, isNew_tup, wp_ok]
  simp only [List.map_cons, List.map_nil, List.cons_append, List.nil_append, List.replicate, Nat.reduceSub, put_sl, List.getElem?_cons_succ, List.getElem?_cons_zero, slP_none, of_some, bind_ok, Bool.false_eq_true, if_false, List.set_cons_succ, List.set_cons_zero, wp_ok, nextS_nx, exs_cons, wp_bind, ex_for, itv_rng, walkF_nil]
  rw [evi_len hx (by simp)]
  simp only [wp_ok]
  refine wp_forR (fun j fr => ∃ a b c, (a = none ∨ ∃ y, a = some (.val y)) ∧ (b = none ∨ ∃ y, b = some (.val y)) ∧ (c = none ∨ ∃ y, c = some (.val y)) ∧ fr = [some (.val (scr ns)), some (.val (.int k)), some (.val (.str x)), some (.val (chV (chgTo ns k x j))), a, b, c]) (fun j fr hj ⟨a, b, c', ha, hb, hc', hfr⟩ => ?_) (fun fr ⟨a, b, c', ha, hb, hc', hfr⟩ => ?_) ⟨none, none, none, .inl rfl, .inl rfl, .inl rfl, by simp [chgTo, chV]⟩
  · subst hfr
    have hz := chgTo_len ns k x j
    have : turnF (run F w (n + 2)) w (.one 4) (.cons (chgB1 dr) (.cons (chgB2 dr) .nil)) (.int (0 + (j : Nat))) [some (.val (scr ns)), some (.val (.int k)), some (.val (.str x)), some (.val (chV (chgTo ns k x j))), a, b, c'] = exs (run F w (n + 2)) w (.cons (chgB1 dr) (.cons (chgB2 dr) .nil)) [some (.val (scr ns)), some (.val (.int k)), some (.val (.str x)), some (.val (chV (chgTo ns k x j))), some (.val (.int j)), b, c'] := by
      rcases ha with rfl | ⟨y, rfl⟩ <;> simp [turnF]
    rw [this]
    simp only [exs_cons, wp_bind]
    refine (wp_chgB1 hc hd hn k (.str x) (chgTo ns k x j) j b c' hb (by omega)).mono fun g fr ⟨q1, b2, hb2, q3⟩ => ?_
    subst q1 q3
    simp only [nextS_nx, exs_cons, wp_bind]
    refine (wp_chgB2 hc hd hn k x hx _ j b2 c' hc' (by split <;> simp <;> omega)).mono fun g fr ⟨q1, b3, hb3, q3⟩ => ?_
    subst q1 q3
    simp only [nextS_nx, exs_nil, wp_ok, fl_nx]
    refine ⟨some (.val (.int j)), b2, b3, .inr ⟨_, rfl⟩, hb2, hb3, ?_⟩
    simp [chgTo_succ, chgAt, List.append_assoc]
  · subst hfr
    simp [chg]
end
end Pv
set_option Elab.async false
set_option linter.all false
namespace Pv
open Ev (D BOp COp TY BI ME T E Es Eo It S Ss Fn big deep b2i rep mulOk ixN atI sIx cut joinS sortS slots)
noncomputable def q_size_0 : S := .iff (.cmp .eq (.ix (.v 0) (.c (.int 0))) (.c (.str [107, 101, 101, 112]))) (.cons (.ret (.ix (.v 0) (.c (.int 1)))) .nil) .nil
noncomputable def q_size_1 : S := .ret (.bi .len (.cons (.ix (.v 0) (.c (.int 1))) .nil))
noncomputable def F_size : Fn := ⟨1, 1, (.cons q_size_0 (.cons q_size_1 .nil))⟩
noncomputable def q_before_0 (n_size : Nat) : S := .ret (.bi .sum (.cons (.comp (.cl n_size (.cons (.v 1) .nil)) (.one 1) (.seq (.v 0)) (.yes (.cmp .ne (.ix (.v 1) (.c (.int 0))) (.c (.str [112, 117, 116]))))) .nil))
noncomputable def F_before (n_size : Nat) : Fn := ⟨1, 2, (.cons (q_before_0 n_size) .nil)⟩
noncomputable def q_after_0 (n_size : Nat) : S := .ret (.bi .sum (.cons (.comp (.cl n_size (.cons (.v 1) .nil)) (.one 1) (.seq (.v 0)) (.yes (.cmp .ne (.ix (.v 1) (.c (.int 0))) (.c (.str [100, 114, 111, 112]))))) .nil))
noncomputable def F_after (n_size : Nat) : Fn := ⟨1, 2, (.cons (q_after_0 n_size) .nil)⟩
noncomputable def q_cost_0 (n_size : Nat) : S := .ret (.bi .sum (.cons (.comp (.cl n_size (.cons (.v 1) .nil)) (.one 1) (.seq (.v 0)) (.yes (.cmp .ne (.ix (.v 1) (.c (.int 0))) (.c (.str [107, 101, 101, 112]))))) .nil))
noncomputable def F_cost (n_size : Nat) : Fn := ⟨1, 2, (.cons (q_cost_0 n_size) .nil)⟩
noncomputable def q_form_0 : S := .set 1 (.lst .nil)
noncomputable def q_form_1 : S := .set 2 (.c (.int 0))
noncomputable def q_form_2 : S := .set 3 (.c (.str []))
noncomputable def q_form_3 : S := .set 4 (.c (.str []))
noncomputable def w_form_0 (n_stretch : Nat) : Ss := (.cons (.iff (.cmp .eq (.v 5) (.c (.str [100, 114, 111, 112]))) (.cons (.set 3 (.bin .add (.v 3) (.v 6))) .nil) (.cons (.iff (.cmp .eq (.v 5) (.c (.str [112, 117, 116]))) (.cons (.set 4 (.bin .add (.v 4) (.v 6))) .nil) (.cons (.iff (.cmp .gt (.v 6) (.c (.int 0))) (.cons (.iff (.orr (.cmp .ne (.v 3) (.c (.str []))) (.cmp .ne (.v 4) (.c (.str [])))) (.cons (.exp (.me .extend (.v 1) (.cons (.cl n_stretch (.cons (.v 2) (.cons (.v 3) (.cons (.v 4) .nil)))) .nil))) (.cons (.set 2 (.c (.int 0))) (.cons (.set 3 (.c (.str []))) (.cons (.set 4 (.c (.str []))) .nil)))) .nil) (.cons (.set 2 (.bin .add (.v 2) (.v 6))) .nil)) .nil) .nil)) .nil)) .nil)
noncomputable def q_form_4 (n_stretch : Nat) : S := .for (.many [5, 6]) (.seq (.v 0)) (w_form_0 n_stretch)
noncomputable def q_form_5 (n_stretch : Nat) : S := .exp (.me .extend (.v 1) (.cons (.cl n_stretch (.cons (.v 2) (.cons (.v 3) (.cons (.v 4) .nil)))) .nil))
noncomputable def q_form_6 : S := .ret (.ttp (.v 1))
noncomputable def F_form (n_stretch : Nat) : Fn := ⟨1, 7, (.cons q_form_0 (.cons q_form_1 (.cons q_form_2 (.cons q_form_3 (.cons (q_form_4 n_stretch) (.cons (q_form_5 n_stretch) (.cons q_form_6 .nil)))))))⟩
noncomputable def q_stretch_0 : S := .set 3 (.lst .nil)
noncomputable def q_stretch_1 : S := .iff (.cmp .gt (.v 0) (.c (.int 0))) (.cons (.exp (.me .append (.v 3) (.cons (.tup (.cons (.c (.str [107, 101, 101, 112])) (.cons (.v 0) .nil))) .nil))) .nil) .nil
noncomputable def q_stretch_2 : S := .iff (.cmp .ne (.v 1) (.c (.str []))) (.cons (.exp (.me .append (.v 3) (.cons (.tup (.cons (.c (.str [100, 114, 111, 112])) (.cons (.v 1) .nil))) .nil))) .nil) .nil
noncomputable def q_stretch_3 : S := .iff (.cmp .ne (.v 2) (.c (.str []))) (.cons (.exp (.me .append (.v 3) (.cons (.tup (.cons (.c (.str [112, 117, 116])) (.cons (.v 2) .nil))) .nil))) .nil) .nil
noncomputable def q_stretch_4 : S := .ret (.v 3)
noncomputable def F_stretch : Fn := ⟨3, 4, (.cons q_stretch_0 (.cons q_stretch_1 (.cons q_stretch_2 (.cons q_stretch_3 (.cons q_stretch_4 .nil)))))⟩
noncomputable def q_sense_0 : S := .set 1 (.lst .nil)
noncomputable def q_sense_1 : S := .set 2 (.lst .nil)
noncomputable def w_sense_0 : Ss := (.cons (.iff (.cmp .eq (.v 3) (.c (.str [107, 101, 101, 112]))) (.cons (.set 2 (.bin .add (.v 2) (.lof (.rng (.cons (.bi .len (.cons (.v 1) .nil)) (.cons (.bin .add (.bi .len (.cons (.v 1) .nil)) (.v 4)) .nil)))))) (.cons (.set 1 (.bin .add (.v 1) (.bin .mul (.lst (.cons (.c (.str [])) .nil)) (.v 4)))) .nil)) (.cons (.iff (.cmp .eq (.v 3) (.c (.str [100, 114, 111, 112]))) (.cons (.set 1 (.bin .add (.v 1) (.lof (.seq (.v 4))))) .nil) (.cons (.set 2 (.bin .add (.v 2) (.lof (.seq (.v 4))))) .nil)) .nil)) .nil)
noncomputable def q_sense_2 : S := .for (.many [3, 4]) (.seq (.v 0)) w_sense_0
noncomputable def q_sense_3 : S := .ret (.tup (.cons (.v 1) (.cons (.v 2) .nil)))
noncomputable def F_sense : Fn := ⟨1, 5, (.cons q_sense_0 (.cons q_sense_1 (.cons q_sense_2 (.cons q_sense_3 .nil))))⟩
noncomputable def Pt.n : Pt → Nat
  | .keep n => n
  | .put s => s.length
  | .drop s => s.length
noncomputable def tot (c : List Pt) : Nat := (c.map Pt.n).sum
theorem tot_app (a b : List Pt) : tot (a ++ b) = tot a + tot b := by simp [tot]
theorem tot_cons (p : Pt) (c : List Pt) : tot (p :: c) = p.n + tot c := by simp [tot]
noncomputable def isPut : Pt → Bool
  | .put _ => true
  | _ => false
noncomputable def isDrop : Pt → Bool
  | .drop _ => true
  | _ => false
noncomputable def isKeep : Pt → Bool
  | .keep _ => true
  | _ => false
noncomputable def bef (c : List Pt) : Nat := tot (c.filter fun p => !isPut p)
noncomputable def aft (c : List Pt) : Nat := tot (c.filter fun p => !isDrop p)
noncomputable def cst (c : List Pt) : Nat := tot (c.filter fun p => !isKeep p)
section
variable {F : List Fn} {w n i_size i : Nat}
theorem run_size (hs : F[i]? = some F_size) (p : Pt) (hp : p.n ≤ 100000) : run F w (n + 1) i [.val p.v] = some (.int p.n, []) := by
  rw [run_eq hs rfl]
  cases p with
  | keep k => simp [F_size, q_size_0, q_size_1, Pt.v, kKeep, Pt.n]
  | put s => simp [F_size, q_size_0, q_size_1, Pt.v, kPut, Pt.n, len_str (show s.length ≤ 100000 from hp)]
  | drop s => simp [F_size, q_size_0, q_size_1, Pt.v, kDrop, Pt.n, len_str (show s.length ≤ 100000 from hp)]
theorem n_le {c : List Pt} {p : Pt} (h : p ∈ c) : p.n ≤ tot c := by
  induction c with
  | nil => simp at h
  | cons q c ih =>
    rw [tot_cons]
    rcases List.mem_cons.mp h with rfl | h
    · omega
    · have := ih h; omega
theorem sum_n (c : List Pt) : (c.map fun p => (p.n : Int)).sum = (tot c : Int) := by
  induction c with
  | nil => rfl
  | cons p c ih => simp only [List.map_cons, List.sum_cons, ih, tot_cons]; omega
theorem sum_comp {P : Phi} {word : List Nat} {pr : Pt → Bool} {j : Nat} {fr : Fr} {c : List Pt} (hc : c.length ≤ 10000) (hf : ∀ p ∈ c, P j [.val p.v] = some (.int p.n, [])) (hw : ∀ p : Pt, ∃ x, p.v = .tup [.str x, (match p with | .keep n => .int n | .put s => .str s | .drop s => .str s)] ∧ pr p = !decide (x = word)) (hfr : roF fr = [some (.val (chV c)), none]) :
    (compL (turnC P (.cl j (.cons (.v 1) .nil)) (.one 1) (.yes (.cmp .ne (.ix (.v 1) (.c (.int 0))) (.c (.str word)))) fr) (c.map Pt.v)).bind mkL = some (.lst ((c.filter pr).map fun p => .int p.n)) := by
  rw [compL_filter (e := Pt.v) (p := pr) (g := fun p => .int p.n) c fun p hp => ?_]
  · exact mkL_le (le_big (by have := List.length_filter_le pr c; simp; omega))
  · obtain ⟨x, hx, hpr⟩ := hw p
    have hcall := fun fr => call1 (fr := fr) (hf p hp)
    rw [hx] at hcall
    rw [hx]
    by_cases hxw : x = word <;> simp [turnC, hfr, hcall, hpr, hxw]
theorem run_before (hs : F[i_size]? = some F_size) (hb : F[i]? = some (F_before i_size)) (c : List Pt) (h1 : c.length ≤ 10000) (h2 : tot c ≤ 100000) : run F w (n + 2) i [.val (chV c)] = some (.int (bef c), []) := by
  rw [run_eq hb rfl]
  have := sum_comp (P := run F w (n + 1)) (word := [112, 117, 116]) (pr := fun p => !isPut p) (j := i_size) (fr := [some (.val (chV c)), none]) h1 (fun p hp => run_size hs p (Nat.le_trans (n_le hp) h2)) (fun p => by cases p <;> exact ⟨_, rfl, by simp [isPut, kKeep, kPut, kDrop]⟩) (by simp)
  simp only [chV] at this
  simp [F_before, q_before_0, chV]
  rw [this]
  simp [intsOf_map (fun p : Pt => (p.n : Int)), sum_n, bef]
theorem run_after (hs : F[i_size]? = some F_size) (hb : F[i]? = some (F_after i_size)) (c : List Pt) (h1 : c.length ≤ 10000) (h2 : tot c ≤ 100000) : run F w (n + 2) i [.val (chV c)] = some (.int (aft c), []) := by
  rw [run_eq hb rfl]
  have := sum_comp (P := run F w (n + 1)) (word := [100, 114, 111, 112]) (pr := fun p => !isDrop p) (j := i_size) (fr := [some (.val (chV c)), none]) h1 (fun p hp => run_size hs p (Nat.le_trans (n_le hp) h2)) (fun p => by cases p <;> exact ⟨_, rfl, by simp [isDrop, kKeep, kPut, kDrop]⟩) (by simp)
  simp only [chV] at this
  simp [F_after, q_after_0, chV]
  rw [this]
  simp [intsOf_map (fun p : Pt => (p.n : Int)), sum_n, aft]
theorem run_cost (hs : F[i_size]? = some F_size) (hb : F[i]? = some (F_cost i_size)) (c : List Pt) (h1 : c.length ≤ 10000) (h2 : tot c ≤ 100000) : run F w (n + 2) i [.val (chV c)] = some (.int (cst c), []) := by
  rw [run_eq hb rfl]
  have := sum_comp (P := run F w (n + 1)) (word := [107, 101, 101, 112]) (pr := fun p => !isKeep p) (j := i_size) (fr := [some (.val (chV c)), none]) h1 (fun p hp => run_size hs p (Nat.le_trans (n_le hp) h2)) (fun p => by cases p <;> exact ⟨_, rfl, by simp [isKeep, kKeep, kPut, kDrop]⟩) (by simp)
  simp only [chV] at this
  simp [F_cost, q_cost_0, chV]
  rw [this]
  simp [intsOf_map (fun p : Pt => (p.n : Int)), sum_n, cst]
end
noncomputable def stretch (k : Nat) (g w : List Nat) : List Pt := (if 0 < k then [.keep k] else []) ++ (if g = [] then [] else [.drop g]) ++ (if w = [] then [] else [.put w])
theorem stretch_len (k : Nat) (g w : List Nat) : (stretch k g w).length ≤ 3 := by unfold stretch; split <;> split <;> split <;> simp
theorem run_stretch {F : List Fn} {w n i : Nat} (hs : F[i]? = some F_stretch) (k : Nat) (g x : List Nat) : run F w (n + 1) i [.val (.int k), .val (.str g), .val (.str x)] = some (.lst ((stretch k g x).map Pt.v), []) := by
  rw [run_eq hs rfl]
  by_cases hk : 0 < k <;> by_cases hg : g = [] <;> by_cases hx : x = [] <;>
    simp [F_stretch, q_stretch_0, q_stretch_1, q_stretch_2, q_stretch_3, q_stretch_4, stretch, hk, hg, hx, app_own, Pt.v, kKeep, kPut, kDrop]
abbrev FS := List Pt × Nat × List Nat × List Nat
noncomputable def fstep (st : FS) : Pt → FS
  | .drop s => (st.1, st.2.1, st.2.2.1 ++ s, st.2.2.2)
  | .put s => (st.1, st.2.1, st.2.2.1, st.2.2.2 ++ s)
  | .keep k => if 0 < k then (if st.2.2.1 = [] ∧ st.2.2.2 = [] then (st.1, st.2.1 + k, [], []) else (st.1 ++ stretch st.2.1 st.2.2.1 st.2.2.2, k, [], [])) else st
noncomputable def fst0 : FS := ([], 0, [], [])
noncomputable def fend (st : FS) : List Pt := st.1 ++ stretch st.2.1 st.2.2.1 st.2.2.2
noncomputable def form (c : List Pt) : List Pt := fend (c.foldl fstep fst0)
theorem fs_snoc (p : List Pt) (a : Pt) : (p ++ [a]).foldl fstep fst0 = fstep (p.foldl fstep fst0) a := by simp
theorem fs_bound (c : List Pt) : ∀ st : FS, (c.foldl fstep st).1.length ≤ st.1.length + 3 * c.length ∧ (c.foldl fstep st).2.2.1.length ≤ st.2.2.1.length + tot c ∧ (c.foldl fstep st).2.2.2.length ≤ st.2.2.2.length + tot c := by
  induction c with
  | nil => intro st; simp [tot]
  | cons p c ih =>
    intro st
    have h := ih (fstep st p)
    have h2 : (fstep st p).1.length ≤ st.1.length + 3 ∧ (fstep st p).2.2.1.length ≤ st.2.2.1.length + p.n ∧ (fstep st p).2.2.2.length ≤ st.2.2.2.length + p.n := by
      have := stretch_len st.2.1 st.2.2.1 st.2.2.2
      cases p with
      | drop s => simp [fstep, Pt.n]
      | put s => simp [fstep, Pt.n]
      | keep k =>
        simp only [fstep]
        split
        · split
          · simp
          · simp; omega
        · simp
    simp only [List.foldl_cons, List.length_cons, tot_cons]
    omega
theorem run_form {F : List Fn} {w n i_stretch i : Nat} (hs : F[i_stretch]? = some F_stretch) (hf : F[i]? = some (F_form i_stretch)) (c : List Pt) (h1 : c.length ≤ 10000) (h2 : tot c ≤ 10000) : run F w (n + 2) i [.val (chV c)] = some (chV (form c), []) := by
  refine run_wp hf rfl ?_
  simp only [F_form]
  simp [q_form_0, q_form_1, q_form_2, q_form_3]
  simp [q_form_4, chV]
  refine wp_forM (e := Pt.v) (fun p l fr => p ++ l = c ∧ ∃ a b, vo a ∧ vo b ∧ fr = [some (.val (chV c)), some (.own ((p.foldl fstep fst0).1.map Pt.v)), some (.val (.int (p.foldl fstep fst0).2.1)), some (.val (.str (p.foldl fstep fst0).2.2.1)), some (.val (.str (p.foldl fstep fst0).2.2.2)), a, b]) (fun p x l fr ⟨hpl, a, b, ha, hb, hfr⟩ => ?_) (fun p fr ⟨hpl, a, b, ha, hb, hfr⟩ => ?_) c [] _ ⟨rfl, none, none, .none, .none, by simp [fst0, chV]⟩
  · subst hfr
    obtain ⟨b1, b2, b3⟩ := fs_bound p fst0
    have hlen : p.length + l.length + 1 = c.length := by rw [← hpl]; simp; omega
    have htot : tot p + x.n + tot l = tot c := by rw [← hpl, tot_app, tot_cons]; omega
    rw [fs_snoc]
    generalize p.foldl fstep fst0 = st at *
    simp [fst0] at b1 b2 b3
    have hpl' : (p ++ [x]) ++ l = c := by simpa using hpl
    have sl := stretch_len st.2.1 st.2.2.1 st.2.2.2
    have rs := fun fr => call3 (fr := fr) (run_stretch (w := w) (n := n) hs st.2.1 st.2.2.1 st.2.2.2)
    have ex := fun fr => ext_own (fr := fr) (l := st.1.map Pt.v) (d := (stretch st.2.1 st.2.2.1 st.2.2.2).map Pt.v) (i := 1) (by simp; omega)
    cases x with
    | drop s =>
      have hs : s.length ≤ tot c := by simp only [Pt.n] at htot; omega
      simp [turnF, Pt.v, slP_vo ha, slP_vo hb, w_form_0, kDrop, bop_adds (show st.2.2.1.length + s.length ≤ 100000 by omega), fstep, hpl]
    | put s =>
      have hs : s.length ≤ tot c := by simp only [Pt.n] at htot; omega
      simp [turnF, Pt.v, slP_vo ha, slP_vo hb, w_form_0, kPut, kDrop, bop_adds (show st.2.2.2.length + s.length ≤ 100000 by omega), fstep, hpl]
    | keep k =>
      by_cases hk : 0 < k
      · by_cases hg : st.2.2.1 = []
        · by_cases hx : st.2.2.2 = []
          · simp [turnF, Pt.v, slP_vo ha, slP_vo hb, w_form_0, kKeep, hk, hg, hx, fstep, hpl]
          · simp [turnF, Pt.v, slP_vo ha, slP_vo hb, w_form_0, kKeep, hk, hg, hx, fstep, hpl, rs, ex]
            simp [hg] at rs ex
            simp [rs, ex]
        · simp [turnF, Pt.v, slP_vo ha, slP_vo hb, w_form_0, kKeep, hk, hg, fstep, hpl, rs, ex]
      · have hk0 : k = 0 := by omega
        subst hk0
        simp [turnF, Pt.v, slP_vo ha, slP_vo hb, w_form_0, kKeep, fstep, hpl]
  · subst hfr
    simp at hpl
    subst hpl
    obtain ⟨b1, b2, b3⟩ := fs_bound p fst0
    have e : form p = fend (p.foldl fstep fst0) := rfl
    rw [e]
    generalize p.foldl fstep fst0 = st at *
    simp [fst0] at b1 b2 b3
    have sl := stretch_len st.2.1 st.2.2.1 st.2.2.2
    have rs := fun fr => call3 (fr := fr) (run_stretch (w := w) (n := n) hs st.2.1 st.2.2.1 st.2.2.2)
    have ex := fun fr => ext_own (fr := fr) (l := st.1.map Pt.v) (d := (stretch st.2.1 st.2.2.1 st.2.2.2).map Pt.v) (i := 1) (by simp; omega)
    have mk := mkT_le (x := st.1.map Pt.v ++ (stretch st.2.1 st.2.2.1 st.2.2.2).map Pt.v) (le_big (by simp; omega))
    simp [q_form_5, q_form_6, rs, ex, mk, shut_vo ha, shut_vo hb, fend, chV]
end Pv
set_option Elab.async false
set_option linter.all false
namespace Pv
open Ev (D BOp COp TY BI ME T E Es Eo It S Ss Fn big deep b2i rep mulOk ixN atI sIx cut joinS sortS slots)
noncomputable def lv (o : Option Sl) (l : List V) : Prop := o = some (.own l) ∨ o = some (.val (.lst l))
section
variable {o : Option Sl} {l : List V} {fr : Fr} {i : Nat} {s : Sl}
theorem lv.own : lv (some (.own l)) l := .inl rfl
theorem lv.val : lv (some (.val (.lst l))) l := .inr rfl
theorem slV_lv (h : lv o l) : slV true (some o) = some (.lst l) := by rcases h with rfl | rfl <;> simp
theorem slP_lv (h : lv o l) : slP fr i s (some o) = some (fr.set i (some s)) := by rcases h with rfl | rfl <;> simp
theorem shut_lv (h : lv o l) : o.map Sl.shut = some (.val (.lst l)) := by rcases h with rfl | rfl <;> simp
end
inductive Tq where
  | at (i : Nat) | sg (c : Nat)
deriving DecidableEq
noncomputable def Tq.v : Tq → V
  | .at i => .int i
  | .sg c => .str [c]
theorem veq_tk (n : Nat) (a b : Tq) : veq (n + 1) a.v b.v = some (decide (a = b)) := by
  cases a <;> cases b <;> simp [Tq.v]
  all_goals omega
noncomputable def Pt.asks : Pt → List (List Nat)
  | .keep n => List.replicate n []
  | .drop s => s.map fun c => [c]
  | .put _ => []
noncomputable def asks (c : List Pt) : List (List Nat) := c.flatMap Pt.asks
noncomputable def Pt.told (k : Nat) : Pt → List Tq
  | .keep n => (List.range n).map fun j => .at (k + j)
  | .drop _ => []
  | .put s => s.map .sg
noncomputable def told (k : Nat) : List Pt → List Tq
  | [] => []
  | p :: c => p.told k ++ told (k + p.asks.length) c
theorem asks_app (a b : List Pt) : asks (a ++ b) = asks a ++ asks b := by simp [asks]
theorem told_app (a b : List Pt) : ∀ k, told k (a ++ b) = told k a ++ told (k + (asks a).length) b := by
  induction a with
  | nil => intro k; simp [told, asks]
  | cons p a ih =>
    intro k
    simp only [List.cons_append, told, ih, List.append_assoc]
    congr 3
    simp [asks]; omega
theorem asks_len (p : Pt) : p.asks.length ≤ p.n := by cases p <;> simp [Pt.asks, Pt.n]
theorem told_len (k : Nat) (p : Pt) : (p.told k).length ≤ p.n := by cases p <;> simp [Pt.told, Pt.n]
theorem asks_le (c : List Pt) : (asks c).length ≤ tot c := by
  induction c with
  | nil => simp [asks]
  | cons p c ih => have := asks_len p; simp only [asks, List.flatMap_cons, List.length_append, tot_cons] at *; omega
theorem told_le (c : List Pt) : ∀ k, (told k c).length ≤ tot c := by
  induction c with
  | nil => intro k; simp [told]
  | cons p c ih => intro k; have := told_len k p; have := ih (k + p.asks.length); simp only [told, List.length_append, tot_cons]; omega
noncomputable def askV (c : List Pt) : List V := (asks c).map V.str
noncomputable def toldV (c : List Pt) : List V := (told 0 c).map Tq.v
noncomputable def sense (c : List Pt) : List (List Nat) × List Tq := (asks c, told 0 c)
noncomputable def senV (c : List Pt) : V := .tup [.lst (askV c), .lst (toldV c)]
theorem veq_sen (a b : List Pt) : veq deep (senV a) (senV b) = some (decide (sense a = sense b)) := by
  have h1 := eqL_map (f := veq (17 + 1)) (g := V.str) (fun a b => veq_ss) (asks a) (asks b)
  have h2 := eqL_map (f := veq (17 + 1)) (g := Tq.v) (fun a b => veq_tk 17 a b) (told 0 a) (told 0 b)
  simp [senV, sense, askV, toldV, h1, h2]
theorem rngNN {i j : Int} {n : Nat} (h0 : 0 ≤ i) (h1 : i ≤ 50000) (h2 : n ≤ 50000) (e : j = i + n) : rngOf [.int i, .int j] = some (range i n) := by
  rw [rng2 (by omega) (by omega) (by omega) (by omega)]
  congr 2
  omega
theorem rep_one {α : Type} (n : Nat) (a : α) : rep n [a] = List.replicate n a := by
  induction n with
  | zero => rfl
  | succ n ih => simp only [rep, List.replicate_succ, List.flatten_cons] at ih ⊢; rw [ih]; rfl
theorem run_sense {F : List Fn} {w n i : Nat} (hs : F[i]? = some F_sense) (c : List Pt) (h1 : tot c ≤ 1000) : run F w (n + 1) i [.val (chV c)] = some (senV c, []) := by
  refine run_wp hs rfl ?_
  simp only [F_sense]
  simp [q_sense_0, q_sense_1]
  simp [q_sense_2, chV]
  refine wp_forM (e := Pt.v) (fun p l fr => p ++ l = c ∧ ∃ o1 o2 a b, lv o1 (askV p) ∧ lv o2 (toldV p) ∧ vo a ∧ vo b ∧ fr = [some (.val (chV c)), o1, o2, a, b]) (fun p x l fr ⟨hpl, o1, o2, a, b, h1', h2', ha, hb, hfr⟩ => ?_) (fun p fr ⟨hpl, o1, o2, a, b, h1', h2', ha, hb, hfr⟩ => ?_) c [] _ ⟨rfl, _, _, none, none, .own, .own, .none, .none, by simp [askV, toldV, asks, told, chV]⟩
  · subst hfr
    have htot : tot p + x.n + tot l = tot c := by rw [← hpl, tot_app, tot_cons]; omega
    have la := asks_le p
    have lt := told_le p 0
    have hA : askV (p ++ [x]) = askV p ++ x.asks.map V.str := by simp [askV, asks]
    have hT : toldV (p ++ [x]) = toldV p ++ (x.told (asks p).length).map Tq.v := by simp [toldV, told_app, told]
    have lA : (askV p).length = (asks p).length := by simp [askV]
    have lT : (toldV p).length = (told 0 p).length := by simp [toldV]
    cases x with
    | drop s =>
      have hs : s.length ≤ tot c := by simp only [Pt.n] at htot; omega
      have ad := bop_addl (x := askV p) (y := s.map fun c => V.str [c]) (by simp; omega)
      have hd : askV (p ++ [.drop s]) = askV p ++ s.map fun c => V.str [c] := by rw [hA]; simp [Pt.asks]
      have ht : toldV (p ++ [.drop s]) = toldV p := by rw [hT]; simp [Pt.told]
      have mk := mkL_le (x := s.map fun c => V.str [c]) (le_big (by simp; omega))
      simp [turnF, Pt.v, slP_vo ha, slP_vo hb, w_sense_0, kDrop, slV_lv h1', slP_lv h1', mk, ad, hpl, hd, ht]
      exact ⟨_, .val, _, h2', _, .val, _, .val, rfl, rfl, rfl, rfl⟩
    | put s =>
      have hs : s.length ≤ tot c := by simp only [Pt.n] at htot; omega
      have ad := bop_addl (x := toldV p) (y := s.map fun c => V.str [c]) (by simp; omega)
      have hd : toldV (p ++ [.put s]) = toldV p ++ s.map fun c => V.str [c] := by rw [hT]; simp [Pt.told, Tq.v]
      have ht : askV (p ++ [.put s]) = askV p := by rw [hA]; simp [Pt.asks]
      have mk := mkL_le (x := s.map fun c => V.str [c]) (le_big (by simp; omega))
      simp [turnF, Pt.v, slP_vo ha, slP_vo hb, w_sense_0, kPut, slV_lv h2', slP_lv h2', mk, ad, hpl, hd, ht]
      exact ⟨_, h1', _, .val, _, .val, _, .val, rfl, rfl, rfl, rfl⟩
    | keep k =>
      have hs : k ≤ tot c := by simp only [Pt.n] at htot; omega
      have rg := rngNN (i := ((askV p).length : Int)) (j := ((askV p).length : Int) + k) (n := k) (by omega) (by omega) (by omega) rfl
      have mk := mkL_le (x := range ((askV p).length : Int) k) (le_big (by simp [range]; omega))
      have ad := bop_addl (x := toldV p) (y := range ((askV p).length : Int) k) (by simp [range]; omega)
      have ml := bop_mull (x := [V.str []]) (j := (k : Int)) (by omega) (by omega) (by simp) (by simp [rep]; omega)
      have ad2 := bop_addl (x := askV p) (y := rep (k : Int).toNat [V.str []]) (by simp [rep]; omega)
      have hd : toldV (p ++ [.keep k]) = toldV p ++ range ((askV p).length : Int) k := by rw [hT]; simp [Pt.told, Tq.v, range, lA]
      have ht : askV (p ++ [.keep k]) = askV p ++ rep (k : Int).toNat [V.str []] := by rw [hA, rep_one]; simp [Pt.asks]
      generalize hK : (k : Int) = K at *
      simp [turnF, Pt.v, slP_vo ha, slP_vo hb, w_sense_0, kKeep, slV_lv h1', slV_lv h2', slP_lv h1', slP_lv h2', rg, mk, ad, ml, ad2, hpl, hd, ht, hK]
      exact ⟨_, .val, _, .val, _, .val, _, .val, rfl, rfl, rfl, rfl⟩
  · subst hfr
    simp at hpl
    subst hpl
    simp [q_sense_3, shut_lv h1', shut_lv h2', shut_vo ha, shut_vo hb, senV]
noncomputable def Pt.word : Pt → List Nat
  | .keep _ => kKeep
  | .put _ => kPut
  | .drop _ => kDrop
theorem stretch_asks (k : Nat) (g x : List Nat) : asks (stretch k g x) = List.replicate k [] ++ g.map fun c => [c] := by
  unfold stretch
  by_cases hk : 0 < k <;> by_cases hg : g = [] <;> by_cases hx : x = [] <;> simp [hk, hg, hx, asks, Pt.asks]
  all_goals (have : k = 0 := by omega
             subst this; simp)
theorem stretch_told (k : Nat) (g x : List Nat) (j : Nat) : told j (stretch k g x) = (List.range k).map (fun i => Tq.at (j + i)) ++ x.map Tq.sg := by
  unfold stretch
  by_cases hk : 0 < k <;> by_cases hg : g = [] <;> by_cases hx : x = [] <;> simp [hk, hg, hx, told, Pt.told, Pt.asks]
  all_goals (have : k = 0 := by omega
             subst this; simp)
theorem fend_sense (st : FS) (p : Pt) : asks (fend (fstep st p)) = asks (fend st ++ [p]) ∧ ∀ j, told j (fend (fstep st p)) = told j (fend st ++ [p]) := by
  obtain ⟨ps, k, g, x⟩ := st
  have e1 : ∀ a : List Pt, asks (a ++ [p]) = asks a ++ p.asks := fun a => by simp [asks]
  have e2 : ∀ (a : List Pt) j, told j (a ++ [p]) = told j a ++ p.told (j + (asks a).length) := fun a j => by simp [told_app, told]
  rw [e1]
  cases p with
  | drop s =>
    refine ⟨by simp [fstep, fend, asks_app, stretch_asks, Pt.asks], fun j => ?_⟩
    rw [e2]
    simp [fstep, fend, told_app, stretch_told, Pt.told]
  | put s =>
    refine ⟨by simp [fstep, fend, asks_app, stretch_asks, Pt.asks], fun j => ?_⟩
    rw [e2]
    simp [fstep, fend, told_app, stretch_told, Pt.told]
  | keep m =>
    simp only [fstep]
    split
    · split
      · rename_i h
        obtain ⟨rfl, rfl⟩ := h
        refine ⟨by simp [fend, asks_app, stretch_asks, Pt.asks], fun j => ?_⟩
        rw [e2]
        simp [fend, asks_app, told_app, stretch_told, stretch_asks, Pt.told, List.range_add, Nat.add_assoc]
      · refine ⟨by simp [fend, asks_app, stretch_asks, Pt.asks], fun j => ?_⟩
        rw [e2]
        simp [fend, asks_app, told_app, stretch_told, stretch_asks, Pt.told, Nat.add_assoc]
    · rename_i h
      have : m = 0 := by omega
      subst this
      refine ⟨by simp [Pt.asks], fun j => ?_⟩
      rw [e2]
      simp [Pt.told]
theorem fold_sense (c : List Pt) : ∀ st : FS, asks (fend (c.foldl fstep st)) = asks (fend st ++ c) ∧ ∀ j, told j (fend (c.foldl fstep st)) = told j (fend st ++ c) := by
  induction c with
  | nil => intro st; simp
  | cons p c ih =>
    intro st
    obtain ⟨h1, h2⟩ := ih (fstep st p)
    obtain ⟨h3, h4⟩ := fend_sense st p
    simp only [List.foldl_cons]
    have e : fend st ++ p :: c = (fend st ++ [p]) ++ c := by simp
    refine ⟨?_, fun j => ?_⟩
    · rw [h1, e, asks_app, asks_app _ c, h3]
    · rw [h2 j, e, told_app, told_app _ c, h4 j, h3]
theorem asks_form (c : List Pt) : asks (form c) = asks c := by
  have := (fold_sense c fst0).1
  simpa [form, fst0, fend, stretch] using this
theorem told_form (c : List Pt) (j : Nat) : told j (form c) = told j c := by
  have := (fold_sense c fst0).2 j
  simpa [form, fst0, fend, stretch] using this
theorem sense_form (c : List Pt) : sense (form c) = sense c := by simp [sense, asks_form, told_form]
noncomputable def kps (c : List Pt) : Nat := tot (c.filter isKeep)
theorem len_asks (c : List Pt) : (asks c).length = bef c := by
  induction c with
  | nil => rfl
  | cons p c ih => cases p <;> simp [asks, bef, tot, isPut, Pt.asks, Pt.n] at ih ⊢ <;> omega
theorem len_told (c : List Pt) : ∀ j, (told j c).length = aft c := by
  induction c with
  | nil => intro j; rfl
  | cons p c ih => intro j; cases p <;> simp [told, aft, tot, isDrop, Pt.told, Pt.n, ih] at ih ⊢
theorem bef_k (n : Nat) (c : List Pt) : bef (.keep n :: c) = n + bef c := by simp [bef, tot, isPut, Pt.n]
theorem bef_d (s : List Nat) (c : List Pt) : bef (.drop s :: c) = s.length + bef c := by simp [bef, tot, isPut, Pt.n]
theorem bef_p (s : List Nat) (c : List Pt) : bef (.put s :: c) = bef c := by simp [bef, tot, isPut, Pt.n]
theorem aft_k (n : Nat) (c : List Pt) : aft (.keep n :: c) = n + aft c := by simp [aft, tot, isDrop, Pt.n]
theorem aft_d (s : List Nat) (c : List Pt) : aft (.drop s :: c) = aft c := by simp [aft, tot, isDrop, Pt.n]
theorem aft_p (s : List Nat) (c : List Pt) : aft (.put s :: c) = s.length + aft c := by simp [aft, tot, isDrop, Pt.n]
theorem cst_k (n : Nat) (c : List Pt) : cst (.keep n :: c) = cst c := by simp [cst, tot, isKeep, Pt.n]
theorem cst_d (s : List Nat) (c : List Pt) : cst (.drop s :: c) = s.length + cst c := by simp [cst, tot, isKeep, Pt.n]
theorem cst_p (s : List Nat) (c : List Pt) : cst (.put s :: c) = s.length + cst c := by simp [cst, tot, isKeep, Pt.n]
theorem kps_k (n : Nat) (c : List Pt) : kps (.keep n :: c) = n + kps c := by simp [kps, tot, List.filter_cons, isKeep, Pt.n]
theorem kps_d (s : List Nat) (c : List Pt) : kps (.drop s :: c) = kps c := by simp [kps, tot, isKeep, Pt.n]
theorem kps_p (s : List Nat) (c : List Pt) : kps (.put s :: c) = kps c := by simp [kps, tot, isKeep, Pt.n]
noncomputable def isAt : Tq → Bool
  | .at _ => true
  | _ => false
theorem len_at (c : List Pt) : ∀ j, ((told j c).filter isAt).length = kps c := by
  induction c with
  | nil => intro j; rfl
  | cons p c ih =>
    intro j
    have e1 : ∀ (m : Nat) (f : Nat → Nat), (((List.range m).map fun i => Tq.at (f i)).filter isAt).length = m := fun m f => by
      rw [List.filter_eq_self.mpr]
      · simp
      · intro a ha; obtain ⟨i, _, rfl⟩ := List.mem_map.mp ha; rfl
    have e2 : ∀ s : List Nat, ((s.map Tq.sg).filter isAt).length = 0 := fun s => by
      rw [List.filter_eq_nil_iff.mpr]
      · rfl
      · intro a ha; obtain ⟨i, _, rfl⟩ := List.mem_map.mp ha; simp [isAt]
    cases p with
    | keep m => simp only [told, Pt.told, List.filter_append, List.length_append, e1, ih, kps, tot, isKeep, List.filter_cons, if_true, List.map_cons, List.sum_cons, Pt.n]
    | put s => simp only [told, Pt.told, List.filter_append, List.length_append, e2, ih, kps, isKeep, List.filter_cons]; simp
    | drop s => simp only [told, Pt.told, List.filter_append, List.length_append, ih, kps, isKeep, List.filter_cons]; simp
theorem cst_eq (c : List Pt) : (cst c : Int) = bef c - kps c + aft c - kps c := by
  induction c with
  | nil => rfl
  | cons p c ih => cases p <;> simp only [cst_k, cst_d, cst_p, bef_k, bef_d, bef_p, aft_k, aft_d, aft_p, kps_k, kps_d, kps_p] <;> omega
theorem tot_eq (c : List Pt) : tot c + kps c = bef c + aft c := by
  induction c with
  | nil => rfl
  | cons p c ih => cases p <;> simp only [tot_cons, Pt.n, bef_k, bef_d, bef_p, aft_k, aft_d, aft_p, kps_k, kps_d, kps_p] <;> omega
theorem bef_form (c : List Pt) : bef (form c) = bef c := by rw [← len_asks, ← len_asks, asks_form]
theorem aft_form (c : List Pt) : aft (form c) = aft c := by rw [← len_told _ 0, ← len_told _ 0, told_form]
theorem kps_form (c : List Pt) : kps (form c) = kps c := by rw [← len_at _ 0, ← len_at _ 0, told_form]
theorem cst_form (c : List Pt) : cst (form c) = cst c := by
  have h1 := cst_eq (form c)
  have h2 := cst_eq c
  rw [bef_form, aft_form, kps_form] at h1
  omega
theorem tot_form (c : List Pt) : tot (form c) = tot c := by
  have h1 := tot_eq (form c)
  have h2 := tot_eq c
  rw [bef_form, aft_form, kps_form] at h1
  omega
theorem form_len (c : List Pt) : (form c).length ≤ 3 * c.length + 3 := by
  have := (fs_bound c fst0).1
  have := stretch_len (c.foldl fstep fst0).2.1 (c.foldl fstep fst0).2.2.1 (c.foldl fstep fst0).2.2.2
  simp [form, fend, fst0] at *
  omega
end Pv
set_option Elab.async false
set_option linter.all false
namespace Pv
open Ev (D BOp COp TY BI ME T E Es Eo It S Ss Fn big deep b2i rep mulOk ixN atI sIx cut joinS sortS slots)
abbrev Bl := List Nat × List Nat
abbrev BS := List Bl × Bl
noncomputable def bstep (st : BS) : Pt → BS
  | .drop s => (st.1, (st.2.1 ++ s, st.2.2))
  | .put s => (st.1, (st.2.1, st.2.2 ++ s))
  | .keep 0 => st
  | .keep (n + 1) => (st.1 ++ st.2 :: List.replicate n ([], []), ([], []))
noncomputable def bs0 : BS := ([], ([], []))
noncomputable def blocks (c : List Pt) : BS := c.foldl bstep bs0
noncomputable def pkstep (st : List Pt × Nat) (b : Bl) : List Pt × Nat := if b.1 = [] ∧ b.2 = [] then (st.1, st.2 + 1) else (st.1 ++ stretch st.2 b.1 b.2, 1)
noncomputable def pk (bs : List Bl) : List Pt × Nat := bs.foldl pkstep ([], 0)
theorem pk_empty (n : Nat) : ∀ st : List Pt × Nat, (List.replicate n (([], []) : Bl)).foldl pkstep st = (st.1, st.2 + n) := by
  induction n with
  | zero => intro st; simp
  | succ n ih => intro st; simp [List.replicate_succ, pkstep, ih]; omega
noncomputable def ofB (st : BS) : FS := ((pk st.1).1, (pk st.1).2, st.2.1, st.2.2)
theorem ofB_step (st : BS) (p : Pt) : fstep (ofB st) p = ofB (bstep st p) := by
  obtain ⟨bs, g, x⟩ := st
  cases p with
  | drop s => rfl
  | put s => rfl
  | keep n =>
    cases n with
    | zero => rfl
    | succ n =>
      have e : pk (bs ++ (g, x) :: List.replicate n ([], [])) = ((pkstep (pk bs) (g, x)).1, (pkstep (pk bs) (g, x)).2 + n) := by
        simp only [pk, List.foldl_append, List.foldl_cons, pk_empty]
      simp only [ofB, bstep, e, fstep, Nat.succ_pos, if_true, pkstep]
      by_cases h : g = [] ∧ x = []
      · simp [h]; omega
      · simp [h]; omega
theorem ofB_fold (c : List Pt) : ∀ st : BS, c.foldl fstep (ofB st) = ofB (c.foldl bstep st) := by
  induction c with
  | nil => intro st; rfl
  | cons p c ih => intro st; simp only [List.foldl_cons, ofB_step, ih]
theorem form_blocks (c : List Pt) : form c = fend (ofB (blocks c)) := by
  unfold form blocks
  rw [← ofB_fold]; rfl
noncomputable def spA (st : List (List Nat) × List Nat) : List Nat → List (List Nat) × List Nat
  | [] => (st.1 ++ [st.2], [])
  | c :: _ => (st.1, st.2 ++ [c])
noncomputable def spT (st : List (List Nat) × List Nat) : Tq → List (List Nat) × List Nat
  | .at _ => (st.1 ++ [st.2], [])
  | .sg c => (st.1, st.2 ++ [c])
theorem spA_signs (s : List Nat) : ∀ st, (s.map fun c => [c]).foldl spA st = (st.1, st.2 ++ s) := by
  induction s with
  | nil => intro st; simp
  | cons c s ih => intro st; simp [spA, ih]
theorem spA_kept (n : Nat) : ∀ st, (List.replicate n []).foldl spA st = if n = 0 then st else (st.1 ++ st.2 :: List.replicate (n - 1) [], []) := by
  induction n with
  | zero => intro st; rfl
  | succ n ih =>
    intro st
    simp only [List.replicate_succ, List.foldl_cons, spA, ih]
    cases n with
    | zero => simp
    | succ n => simp [List.replicate_succ]
theorem spT_signs (s : List Nat) : ∀ st, (s.map Tq.sg).foldl spT st = (st.1, st.2 ++ s) := by
  induction s with
  | nil => intro st; simp
  | cons c s ih => intro st; simp [spT, ih]
theorem spT_kept (n : Nat) : ∀ (k : Nat) st, ((List.range n).map fun j => Tq.at (k + j)).foldl spT st = if n = 0 then st else (st.1 ++ st.2 :: List.replicate (n - 1) [], []) := by
  induction n with
  | zero => intro k st; rfl
  | succ n ih =>
    intro k st
    rw [List.range_succ, List.map_append, List.foldl_append, ih]
    cases n with
    | zero => simp [spT]
    | succ n =>
      simp [spT]
      rw [← List.replicate_succ', List.replicate_succ]
theorem spA_blocks (c : List Pt) : ∀ st : BS, (asks c).foldl spA (st.1.map Prod.fst, st.2.1) = ((c.foldl bstep st).1.map Prod.fst, (c.foldl bstep st).2.1) := by
  induction c with
  | nil => intro st; rfl
  | cons p c ih =>
    intro st
    have e : asks (p :: c) = p.asks ++ asks c := by simp [asks]
    rw [e, List.foldl_append, List.foldl_cons, ← ih]
    congr 1
    cases p with
    | drop s => simp [Pt.asks, spA_signs, bstep]
    | put s => simp [Pt.asks, bstep]
    | keep n =>
      simp only [Pt.asks, spA_kept]
      cases n with
      | zero => rfl
      | succ n => simp [bstep]
theorem spT_blocks (c : List Pt) : ∀ (k : Nat) (st : BS), (told k c).foldl spT (st.1.map Prod.snd, st.2.2) = ((c.foldl bstep st).1.map Prod.snd, (c.foldl bstep st).2.2) := by
  induction c with
  | nil => intro k st; rfl
  | cons p c ih =>
    intro k st
    rw [told, List.foldl_append, List.foldl_cons, ← ih (k + p.asks.length)]
    congr 1
    cases p with
    | put s => simp [Pt.told, spT_signs, bstep]
    | drop s => simp [Pt.told, bstep]
    | keep n =>
      simp only [Pt.told, spT_kept]
      cases n with
      | zero => rfl
      | succ n => simp [bstep]
theorem zip_ext {α β : Type} : ∀ {a b : List (α × β)}, a.map Prod.fst = b.map Prod.fst → a.map Prod.snd = b.map Prod.snd → a = b
  | [], [], _, _ => rfl
  | [], _ :: _, h, _ => by simp at h
  | _ :: _, [], h, _ => by simp at h
  | (x, y) :: a, (x', y') :: b, h1, h2 => by
    simp at h1 h2
    rw [h1.1, h2.1, zip_ext h1.2 h2.2]
theorem blocks_sense {a b : List Pt} (h : sense a = sense b) : blocks a = blocks b := by
  have hA : asks a = asks b := congrArg Prod.fst h
  have hT : told 0 a = told 0 b := congrArg Prod.snd h
  have a1 := spA_blocks a bs0
  have b1 := spA_blocks b bs0
  have a2 := spT_blocks a 0 bs0
  have b2 := spT_blocks b 0 bs0
  rw [hA, b1] at a1
  rw [hT, b2] at a2
  have e1 := congrArg Prod.fst a1
  have e2 := congrArg Prod.snd a1
  have e3 := congrArg Prod.fst a2
  have e4 := congrArg Prod.snd a2
  unfold blocks
  exact Prod.ext (zip_ext e1.symm e3.symm) (Prod.ext e2.symm e4.symm)
theorem form_iff (a b : List Pt) : form a = form b ↔ sense a = sense b := by
  constructor
  · intro h
    rw [← sense_form a, ← sense_form b, h]
  · intro h
    rw [form_blocks, form_blocks, blocks_sense h]
theorem form_form (a : List Pt) : form (form a) = form a := (form_iff _ _).mpr (sense_form a)
noncomputable def Pt.sw : Pt → Pt
  | .keep n => .keep n
  | .put s => .drop s
  | .drop s => .put s
noncomputable def sw (c : List Pt) : List Pt := c.map Pt.sw
end Pv
set_option Elab.async false
set_option linter.all false
namespace Pv
open Ev (D BOp COp TY BI ME T E Es Eo It S Ss Fn big deep b2i rep mulOk ixN atI sIx cut joinS sortS slots)
theorem cut_nn {α : Type} (l : List α) (p k : Nat) : cut l (some (p : Int)) (some ((p : Int) + k)) = (l.drop p).take k := by
  have h1 : ¬ (p : Int) < 0 := by omega
  have h2 : ¬ (p : Int) + k < 0 := by omega
  have h3 : ((p : Int) + k).toNat = p + k := by omega
  simp only [cut, sIx, h1, h2, if_false, h3, Int.toNat_natCast]
  by_cases hp : p ≤ l.length
  · rw [Nat.min_eq_left hp]
    by_cases hk : p + k ≤ l.length
    · rw [Nat.min_eq_left hk]; congr 1; omega
    · rw [Nat.min_eq_right (by omega), List.take_of_length_le (by simp), List.take_of_length_le (by simp; omega)]
  · have e1 : min p l.length = l.length := by omega
    rw [e1, List.drop_eq_nil_of_le (Nat.le_refl _), List.drop_eq_nil_of_le (by omega)]
    simp
section
variable {F : List Fn} {w n i_size i_fits i_form i_stretch i : Nat}
end
end Pv
set_option Elab.async false
set_option linter.all false
namespace Pv
open Ev (rep)
theorem chgAt_tot (ns : List Int) (at_ : Int) (s : List Nat) (k : Nat) : tot (chgAt ns at_ s k) ≤ 3 := by
  have h1 := drw_hi ns (at_ + 4 * k + 2) (many := 2) (by decide)
  have h2 := drw_lo ns (at_ + 4 * k + 2) (many := 2) (by decide)
  unfold chgAt
  rw [tot_app]
  have a : tot (if drw ns (at_ + 4 * k) 4 = 0 then [Pt.put (rep (1 + drw ns (at_ + 4 * k + 2) 2).toNat [[97, 98, 122].getD (drw ns (at_ + 4 * k + 1) 3).toNat 0])] else []) ≤ 2 := by
    split
    · simp [tot, Pt.n, rep]; omega
    · simp [tot]
  cases s[k]? with
  | none => simp [tot] at a ⊢; omega
  | some c =>
    have b : tot [if 0 < drw ns (at_ + 4 * k + 3) 3 then Pt.keep 1 else Pt.drop [c]] ≤ 1 := by split <;> simp [tot, Pt.n]
    simp only at b ⊢
    omega
theorem chgTo_tot (ns : List Int) (at_ : Int) (s : List Nat) : ∀ k, tot (chgTo ns at_ s k) ≤ 3 * k
  | 0 => by simp [chgTo, tot]
  | k + 1 => by
    have h1 := chgAt_tot ns at_ s k
    have h2 := chgTo_tot ns at_ s k
    rw [chgTo_succ, tot_app]
    omega
end Pv
set_option Elab.async false
set_option linter.all false
set_option maxRecDepth 100000
namespace Lw
noncomputable def q0_0 : Ev.S := .iff (.cmp .eq (.ix (.v 0) (.c (.int 0))) (.c (.str [107, 101, 101, 112]))) (.cons (.ret (.ix (.v 0) (.c (.int 1)))) .nil) .nil
noncomputable def q0_1 : Ev.S := .ret (.bi .len (.cons (.ix (.v 0) (.c (.int 1))) .nil))
noncomputable def f0 : Ev.Fn := ⟨1, 1, (.cons q0_0 (.cons q0_1 .nil))⟩
noncomputable def q1_0 : Ev.S := .ret (.bi .sum (.cons (.comp (.cl 0 (.cons (.v 1) .nil)) (.one 1) (.seq (.v 0)) (.yes (.cmp .ne (.ix (.v 1) (.c (.int 0))) (.c (.str [112, 117, 116]))))) .nil))
noncomputable def f1 : Ev.Fn := ⟨1, 2, (.cons q1_0 .nil)⟩
noncomputable def q2_0 : Ev.S := .ret (.bi .sum (.cons (.comp (.cl 0 (.cons (.v 1) .nil)) (.one 1) (.seq (.v 0)) (.yes (.cmp .ne (.ix (.v 1) (.c (.int 0))) (.c (.str [100, 114, 111, 112]))))) .nil))
noncomputable def f2 : Ev.Fn := ⟨1, 2, (.cons q2_0 .nil)⟩
noncomputable def q3_0 : Ev.S := .ret (.bi .sum (.cons (.comp (.cl 0 (.cons (.v 1) .nil)) (.one 1) (.seq (.v 0)) (.yes (.cmp .ne (.ix (.v 1) (.c (.int 0))) (.c (.str [107, 101, 101, 112]))))) .nil))
noncomputable def f3 : Ev.Fn := ⟨1, 2, (.cons q3_0 .nil)⟩
noncomputable def q4_0 : Ev.S := .set 1 (.lst .nil)
noncomputable def q4_1 : Ev.S := .set 2 (.c (.int 0))
noncomputable def q4_2 : Ev.S := .set 3 (.c (.str []))
noncomputable def q4_3 : Ev.S := .set 4 (.c (.str []))
noncomputable def w4_0 : Ev.Ss := (.cons (.iff (.cmp .eq (.v 5) (.c (.str [100, 114, 111, 112]))) (.cons (.set 3 (.bin .add (.v 3) (.v 6))) .nil) (.cons (.iff (.cmp .eq (.v 5) (.c (.str [112, 117, 116]))) (.cons (.set 4 (.bin .add (.v 4) (.v 6))) .nil) (.cons (.iff (.cmp .gt (.v 6) (.c (.int 0))) (.cons (.iff (.orr (.cmp .ne (.v 3) (.c (.str []))) (.cmp .ne (.v 4) (.c (.str [])))) (.cons (.exp (.me .extend (.v 1) (.cons (.cl 5 (.cons (.v 2) (.cons (.v 3) (.cons (.v 4) .nil)))) .nil))) (.cons (.set 2 (.c (.int 0))) (.cons (.set 3 (.c (.str []))) (.cons (.set 4 (.c (.str []))) .nil)))) .nil) (.cons (.set 2 (.bin .add (.v 2) (.v 6))) .nil)) .nil) .nil)) .nil)) .nil)
noncomputable def q4_4 : Ev.S := .for (.many [5, 6]) (.seq (.v 0)) w4_0
noncomputable def q4_5 : Ev.S := .exp (.me .extend (.v 1) (.cons (.cl 5 (.cons (.v 2) (.cons (.v 3) (.cons (.v 4) .nil)))) .nil))
noncomputable def q4_6 : Ev.S := .ret (.ttp (.v 1))
noncomputable def f4 : Ev.Fn := ⟨1, 7, (.cons q4_0 (.cons q4_1 (.cons q4_2 (.cons q4_3 (.cons q4_4 (.cons q4_5 (.cons q4_6 .nil)))))))⟩
noncomputable def q5_0 : Ev.S := .set 3 (.lst .nil)
noncomputable def q5_1 : Ev.S := .iff (.cmp .gt (.v 0) (.c (.int 0))) (.cons (.exp (.me .append (.v 3) (.cons (.tup (.cons (.c (.str [107, 101, 101, 112])) (.cons (.v 0) .nil))) .nil))) .nil) .nil
noncomputable def q5_2 : Ev.S := .iff (.cmp .ne (.v 1) (.c (.str []))) (.cons (.exp (.me .append (.v 3) (.cons (.tup (.cons (.c (.str [100, 114, 111, 112])) (.cons (.v 1) .nil))) .nil))) .nil) .nil
noncomputable def q5_3 : Ev.S := .iff (.cmp .ne (.v 2) (.c (.str []))) (.cons (.exp (.me .append (.v 3) (.cons (.tup (.cons (.c (.str [112, 117, 116])) (.cons (.v 2) .nil))) .nil))) .nil) .nil
noncomputable def q5_4 : Ev.S := .ret (.v 3)
noncomputable def f5 : Ev.Fn := ⟨3, 4, (.cons q5_0 (.cons q5_1 (.cons q5_2 (.cons q5_3 (.cons q5_4 .nil)))))⟩
noncomputable def q6_0 : Ev.S := .iff (.cmp .eq (.v 0) (.lst .nil)) (.cons (.ret (.bin .mul (.c (.int 7)) (.v 1))) .nil) .nil
noncomputable def q6_1 : Ev.S := .ret (.bin .add (.ix (.v 0) (.bin .mod (.v 1) (.bi .len (.cons (.v 0) .nil)))) (.bin .mul (.c (.int 6553)) (.bin .fdiv (.v 1) (.bi .len (.cons (.v 0) .nil)))))
noncomputable def f6 : Ev.Fn := ⟨2, 2, (.cons q6_0 (.cons q6_1 .nil))⟩
noncomputable def q7_0 : Ev.S := .set 3 (.bin .mod (.bin .add (.bin .mul (.bin .mod (.cl 6 (.cons (.v 0) (.cons (.v 1) .nil))) (.c (.int 2147483563))) (.c (.int 69069))) (.bin .mul (.c (.int 104723)) (.bin .add (.v 1) (.c (.int 1))))) (.c (.int 2147483563)))
noncomputable def q7_1 : Ev.S := .set 3 (.bin .mod (.bin .add (.bin .mul (.v 3) (.v 3)) (.bin .fdiv (.v 3) (.c (.int 3)))) (.c (.int 2147483399)))
noncomputable def q7_2 : Ev.S := .ret (.bin .mod (.bin .fdiv (.bin .mod (.bin .add (.bin .mul (.v 3) (.v 3)) (.bin .fdiv (.v 3) (.c (.int 7)))) (.c (.int 2147483647))) (.c (.int 11))) (.v 2))
noncomputable def f7 : Ev.Fn := ⟨3, 4, (.cons q7_0 (.cons q7_1 (.cons q7_2 .nil)))⟩
noncomputable def q8_0 : Ev.S := .ret (.me .join (.c (.str [])) (.cons (.comp (.ix (.c (.str [97, 98, 99, 32])) (.cl 7 (.cons (.v 0) (.cons (.bin .add (.bin .add (.v 1) (.c (.int 1))) (.v 3)) (.cons (.c (.int 4)) .nil))))) (.one 3) (.rng (.cons (.cl 7 (.cons (.v 0) (.cons (.v 1) (.cons (.bin .add (.v 2) (.c (.int 1))) .nil)))) .nil)) .no) .nil))
noncomputable def f8 : Ev.Fn := ⟨3, 4, (.cons q8_0 .nil)⟩
noncomputable def q9_0 : Ev.S := .set 3 (.tup .nil)
noncomputable def w9_0 : Ev.Ss := (.cons (.iff (.cmp .eq (.cl 7 (.cons (.v 0) (.cons (.bin .add (.v 1) (.bin .mul (.c (.int 4)) (.v 4))) (.cons (.c (.int 4)) .nil)))) (.c (.int 0))) (.cons (.set 5 (.bin .mul (.ix (.c (.str [97, 98, 122])) (.cl 7 (.cons (.v 0) (.cons (.bin .add (.bin .add (.v 1) (.bin .mul (.c (.int 4)) (.v 4))) (.c (.int 1))) (.cons (.c (.int 3)) .nil))))) (.bin .add (.c (.int 1)) (.cl 7 (.cons (.v 0) (.cons (.bin .add (.bin .add (.v 1) (.bin .mul (.c (.int 4)) (.v 4))) (.c (.int 2))) (.cons (.c (.int 2)) .nil))))))) (.cons (.set 3 (.bin .add (.v 3) (.tup (.cons (.tup (.cons (.c (.str [112, 117, 116])) (.cons (.v 5) .nil))) .nil)))) .nil)) .nil) (.cons (.iff (.cmp .lt (.v 4) (.bi .len (.cons (.v 2) .nil))) (.cons (.set 6 (.cmp .gt (.cl 7 (.cons (.v 0) (.cons (.bin .add (.bin .add (.v 1) (.bin .mul (.c (.int 4)) (.v 4))) (.c (.int 3))) (.cons (.c (.int 3)) .nil)))) (.c (.int 0)))) (.cons (.set 3 (.bin .add (.v 3) (.tup (.cons (.ife (.v 6) (.tup (.cons (.c (.str [107, 101, 101, 112])) (.cons (.c (.int 1)) .nil))) (.tup (.cons (.c (.str [100, 114, 111, 112])) (.cons (.ix (.v 2) (.v 4)) .nil)))) .nil)))) .nil)) .nil) .nil))
noncomputable def q9_1 : Ev.S := .for (.one 4) (.rng (.cons (.bin .add (.bi .len (.cons (.v 2) .nil)) (.c (.int 1))) .nil)) w9_0
noncomputable def q9_2 : Ev.S := .ret (.v 3)
noncomputable def f9 : Ev.Fn := ⟨3, 7, (.cons q9_0 (.cons q9_1 (.cons q9_2 .nil)))⟩
noncomputable def q10_0 : Ev.S := .set 1 (.lst .nil)
noncomputable def q10_1 : Ev.S := .set 2 (.lst .nil)
noncomputable def w10_0 : Ev.Ss := (.cons (.iff (.cmp .eq (.v 3) (.c (.str [107, 101, 101, 112]))) (.cons (.set 2 (.bin .add (.v 2) (.lof (.rng (.cons (.bi .len (.cons (.v 1) .nil)) (.cons (.bin .add (.bi .len (.cons (.v 1) .nil)) (.v 4)) .nil)))))) (.cons (.set 1 (.bin .add (.v 1) (.bin .mul (.lst (.cons (.c (.str [])) .nil)) (.v 4)))) .nil)) (.cons (.iff (.cmp .eq (.v 3) (.c (.str [100, 114, 111, 112]))) (.cons (.set 1 (.bin .add (.v 1) (.lof (.seq (.v 4))))) .nil) (.cons (.set 2 (.bin .add (.v 2) (.lof (.seq (.v 4))))) .nil)) .nil)) .nil)
noncomputable def q10_2 : Ev.S := .for (.many [3, 4]) (.seq (.v 0)) w10_0
noncomputable def q10_3 : Ev.S := .ret (.tup (.cons (.v 1) (.cons (.v 2) .nil)))
noncomputable def f10 : Ev.Fn := ⟨1, 5, (.cons q10_0 (.cons q10_1 (.cons q10_2 (.cons q10_3 .nil))))⟩
noncomputable def q11_0 : Ev.S := .set 1 (.tup .nil)
noncomputable def w11_0 : Ev.Ss := (.cons (.iff (.cmp .eq (.v 2) (.c (.str [107, 101, 101, 112]))) (.cons (.set 1 (.bin .add (.v 1) (.bin .mul (.tup (.cons (.tup (.cons (.c (.str [107, 101, 101, 112])) (.cons (.c (.int 1)) .nil))) .nil)) (.v 3)))) .nil) (.cons (.set 1 (.bin .add (.v 1) (.ttp (.comp (.tup (.cons (.v 2) (.cons (.v 4) .nil))) (.one 4) (.seq (.v 3)) .no)))) .nil)) .nil)
noncomputable def q11_1 : Ev.S := .for (.many [2, 3]) (.seq (.v 0)) w11_0
noncomputable def q11_2 : Ev.S := .ret (.v 1)
noncomputable def f11 : Ev.Fn := ⟨1, 5, (.cons q11_0 (.cons q11_1 (.cons q11_2 .nil)))⟩
noncomputable def q12_0 : Ev.S := .set 3 (.lof (.seq (.v 2)))
noncomputable def w12_0 : Ev.Ss := (.cons (.set 5 (.bi .sorted (.cons (.lst (.cons (.ix (.ix (.v 3) (.v 4)) (.c (.int 0))) (.cons (.ix (.ix (.v 3) (.bin .add (.v 4) (.c (.int 1)))) (.c (.int 0))) .nil))) .nil))) (.cons (.iff (.an (.cmp .eq (.v 5) (.lst (.cons (.c (.str [100, 114, 111, 112])) (.cons (.c (.str [112, 117, 116])) .nil)))) (.cmp .eq (.cl 7 (.cons (.v 0) (.cons (.bin .add (.v 1) (.v 4)) (.cons (.c (.int 2)) .nil)))) (.c (.int 0)))) (.cons (.exp (.me .setsl (.v 3) (.cons (.rv (.sl (.v 3) (.yes (.v 4)) (.yes (.bin .add (.v 4) (.c (.int 2)))))) (.cons (.v 4) (.cons (.bin .add (.v 4) (.c (.int 2))) .nil))))) .nil) .nil) .nil))
noncomputable def q12_1 : Ev.S := .for (.one 4) (.rng (.cons (.bin .sub (.bi .len (.cons (.v 3) .nil)) (.c (.int 1))) .nil)) w12_0
noncomputable def q12_2 : Ev.S := .ret (.ttp (.v 3))
noncomputable def f12 : Ev.Fn := ⟨3, 6, (.cons q12_0 (.cons q12_1 (.cons q12_2 .nil)))⟩
noncomputable def q13_0 : Ev.S := .set 1 (.cl 8 (.cons (.v 0) (.cons (.c (.int 0)) (.cons (.c (.int 6)) .nil))))
noncomputable def q13_1 : Ev.S := .set 2 (.cl 9 (.cons (.v 0) (.cons (.c (.int 10)) (.cons (.v 1) .nil))))
noncomputable def q13_2 : Ev.S := .set 3 (.cl 4 (.cons (.v 2) .nil))
noncomputable def q13_3 : Ev.S := .set 4 (.cl 11 (.cons (.v 2) .nil))
noncomputable def q13_4 : Ev.S := .set 5 (.cl 12 (.cons (.v 0) (.cons (.c (.int 60)) (.cons (.cl 12 (.cons (.v 0) (.cons (.c (.int 60)) (.cons (.v 4) .nil)))) .nil))))
noncomputable def w13_0 : Ev.Ss := (.cons (.set 7 (.tup (.cons (.cl 1 (.cons (.v 6) .nil)) (.cons (.cl 2 (.cons (.v 6) .nil)) (.cons (.cl 3 (.cons (.v 6) .nil)) .nil))))) (.cons (.iff (.orr (.cmp .ne (.cl 4 (.cons (.v 6) .nil)) (.v 3)) (.cmp .ne (.v 7) (.tup (.cons (.cl 1 (.cons (.v 3) .nil)) (.cons (.cl 2 (.cons (.v 3) .nil)) (.cons (.cl 3 (.cons (.v 3) .nil)) .nil)))))) (.cons (.ret (.c (.bl false))) .nil) .nil) .nil))
noncomputable def q13_5 : Ev.S := .for (.one 6) (.seq (.tup (.cons (.v 3) (.cons (.v 4) (.cons (.v 5) (.cons (.cl 11 (.cons (.v 3) .nil)) (.cons (.cl 12 (.cons (.v 0) (.cons (.c (.int 90)) (.cons (.cl 11 (.cons (.v 3) .nil)) .nil)))) .nil))))))) w13_0
noncomputable def q13_6 : Ev.S := .set 8 (.cl 9 (.cons (.v 0) (.cons (.c (.int 120)) (.cons (.v 1) .nil))))
noncomputable def q13_7 : Ev.S := .iff (.cmp .ne (.cmp .eq (.cl 4 (.cons (.v 8) .nil)) (.v 3)) (.cmp .eq (.cl 10 (.cons (.cl 4 (.cons (.v 8) .nil)) .nil)) (.cl 10 (.cons (.v 3) .nil)))) (.cons (.ret (.c (.bl false))) .nil) .nil
noncomputable def q13_8 : Ev.S := .ret (.cmp .eq (.cmp .eq (.cl 4 (.cons (.v 8) .nil)) (.v 3)) (.cmp .eq (.cl 10 (.cons (.v 8) .nil)) (.cl 10 (.cons (.v 2) .nil))))
noncomputable def f13 : Ev.Fn := ⟨1, 9, (.cons q13_0 (.cons q13_1 (.cons q13_2 (.cons q13_3 (.cons q13_4 (.cons q13_5 (.cons q13_6 (.cons q13_7 (.cons q13_8 .nil)))))))))⟩
noncomputable def prog : List Ev.Fn := [f0, f1, f2, f3, f4, f5, f6, f7, f8, f9, f10, f11, f12, f13]
end Lw
set_option Elab.async false
set_option linter.all false
set_option maxRecDepth 100000
namespace Lw
open PySem PySem.Spec PyProof.Rows L2 Sm
open Ev (D O Hh Fr R Phi E Es Eo T S Ss Fl Src BOp COp TY BI ME)
noncomputable def top (i : Nat) : Stmt := PySem.Challenge.pw_pastways_k03_whole_forms.main.body.getD i (.Pass ⟨0, 0, 0, 0⟩)
abbrev i0 (a : Nat → Addr) (d : Nat → FuncData) : FI := ⟨"size", a 0, d 0, ["part"]⟩
abbrev i1 (a : Nat → Addr) (d : Nat → FuncData) : FI := ⟨"before", a 1, d 1, ["change"]⟩
abbrev i2 (a : Nat → Addr) (d : Nat → FuncData) : FI := ⟨"after", a 2, d 2, ["change"]⟩
abbrev i3 (a : Nat → Addr) (d : Nat → FuncData) : FI := ⟨"cost", a 3, d 3, ["change"]⟩
abbrev i4 (a : Nat → Addr) (d : Nat → FuncData) : FI := ⟨"form", a 4, d 4, ["change"]⟩
abbrev i5 (a : Nat → Addr) (d : Nat → FuncData) : FI := ⟨"stretch", a 5, d 5, ["kept", "gone", "new"]⟩
abbrev i6 (a : Nat → Addr) (d : Nat → FuncData) : FI := ⟨"_law_cell", a 6, d 6, ["_law_script", "_law_k"]⟩
abbrev i7 (a : Nat → Addr) (d : Nat → FuncData) : FI := ⟨"_law_drawn", a 7, d 7, ["_law_script", "_law_k", "_law_many"]⟩
abbrev i8 (a : Nat → Addr) (d : Nat → FuncData) : FI := ⟨"_law_text", a 8, d 8, ["_law_script", "_law_at", "_law_most"]⟩
abbrev i9 (a : Nat → Addr) (d : Nat → FuncData) : FI := ⟨"_law_change", a 9, d 9, ["_law_script", "_law_at", "_law_text_here"]⟩
abbrev i10 (a : Nat → Addr) (d : Nat → FuncData) : FI := ⟨"_law_sense", a 10, d 10, ["_law_change_here"]⟩
abbrev i11 (a : Nat → Addr) (d : Nat → FuncData) : FI := ⟨"_law_apart", a 11, d 11, ["_law_change_here"]⟩
abbrev i12 (a : Nat → Addr) (d : Nat → FuncData) : FI := ⟨"_law_exchanged", a 12, d 12, ["_law_script", "_law_at", "_law_change_here"]⟩
abbrev i13 (a : Nat → Addr) (d : Nat → FuncData) : FI := ⟨"law", a 13, d 13, ["_law_script"]⟩
noncomputable def bls : List Str := ["len", "list", "range", "sorted", "sum", "tuple"]
theorem m_len : ("len" : Str) ∈ bls := by decide +kernel
theorem m_list : ("list" : Str) ∈ bls := by decide +kernel
theorem m_range : ("range" : Str) ∈ bls := by decide +kernel
theorem m_sorted : ("sorted" : Str) ∈ bls := by decide +kernel
theorem m_sum : ("sum" : Str) ∈ bls := by decide +kernel
theorem m_tuple : ("tuple" : Str) ∈ bls := by decide +kernel
theorem g0 : (("size" : Str) == ("__debug__" : Str)) = false := by decide +kernel
theorem g1 : (("before" : Str) == ("__debug__" : Str)) = false := by decide +kernel
theorem g2 : (("after" : Str) == ("__debug__" : Str)) = false := by decide +kernel
theorem g3 : (("cost" : Str) == ("__debug__" : Str)) = false := by decide +kernel
theorem g4 : (("form" : Str) == ("__debug__" : Str)) = false := by decide +kernel
theorem g5 : (("stretch" : Str) == ("__debug__" : Str)) = false := by decide +kernel
theorem g6 : (("_law_cell" : Str) == ("__debug__" : Str)) = false := by decide +kernel
theorem g7 : (("_law_drawn" : Str) == ("__debug__" : Str)) = false := by decide +kernel
theorem g8 : (("_law_text" : Str) == ("__debug__" : Str)) = false := by decide +kernel
theorem g9 : (("_law_change" : Str) == ("__debug__" : Str)) = false := by decide +kernel
theorem g10 : (("_law_sense" : Str) == ("__debug__" : Str)) = false := by decide +kernel
theorem g11 : (("_law_apart" : Str) == ("__debug__" : Str)) = false := by decide +kernel
theorem g12 : (("_law_exchanged" : Str) == ("__debug__" : Str)) = false := by decide +kernel
noncomputable def tb (a : Nat → Addr) (d : Nat → FuncData) : Tb := ⟨prog, 100000, [i0 a d, i1 a d, i2 a d, i3 a d, i4 a d, i5 a d, i6 a d, i7 a d, i8 a d, i9 a d, i10 a d, i11 a d, i12 a d, i13 a d], bls, [("__name__", .str [108, 97, 119, 95, 112, 97, 115, 116, 119, 97, 121, 115, 95, 107, 48, 51, 95, 119, 104, 111, 108, 101, 95, 102, 111, 114, 109, 115])], []⟩
section
variable {a : Nat → Addr} {d : Nat → FuncData} {n : Nat}
abbrev n0 : List Str := ["part"]
theorem s0 : FnScope n0 ["part"] (defScope (top 1)) := ⟨rfl, rfl, rfl, by decide +kernel, rfl, by decide +kernel, by decide +kernel⟩
set_option maxHeartbeats 0 in
theorem b0 : JSs (tb a d) n (defScope (top 1)) n0 true (List.range n0.length) f0.body (defBody (top 1)) := by
  refine jss_cons ?_ ?_
  refine js_iff ?_ ?_ ?_
  refine jt_cmp (fun X g => oc_eq g) ?_ ?_ (nomark _)
  refine je_ix (fun X g => ox_ix) ?_ ?_
  refine je_v 0 0
  refine je_int
  refine je_str
  refine jss_cons ?_ ?_
  refine js_ret ?_
  refine je_ix (fun X g => ox_ix) ?_ ?_
  refine je_v 0 0
  refine je_int
  refine jss_nil
  refine jss_nil
  refine jss_cons ?_ ?_
  refine js_ret ?_
  refine je_bi (x := "len") (id := "len") (fun X g => cb_len) ?_ (hb := m_len) (hv := by decide +kernel)
  refine ja_cons ?_ ?_
  refine je_ix (fun X g => ox_ix) ?_ ?_
  refine je_v 0 0
  refine je_int
  refine ja_nil
  refine jss_nil
abbrev n1 : List Str := ["change"]
theorem s1 : FnScope n1 ["change"] (defScope (top 2)) := ⟨rfl, rfl, rfl, by decide +kernel, rfl, by decide +kernel, by decide +kernel⟩
set_option maxHeartbeats 0 in
theorem b1 : JSs (tb a d) n (defScope (top 2)) n1 true (List.range n1.length) f1.body (defBody (top 2)) := by
  refine jss_cons ?_ ?_
  refine js_ret ?_
  refine je_bi (x := "sum") (id := "sum") (fun X g => cb_sum g) ?_ (hb := m_sum) (hv := by decide +kernel)
  refine ja_cons ?_ ?_
  refine je_comp (N' := ["part"]) (m' := [1]) ?_ ?_ ?_ ?_ (namesOk.of (by decide +kernel)) (ScOk.of (by decide +kernel))
  refine ji_seq ?_
  refine je_v 0 0
  refine jg_one 0 1 (by decide +kernel) (by decide +kernel)
  refine jc_yes ?_
  refine jt_cmp (fun X g => oc_ne g) ?_ ?_ (nomark _)
  refine je_ix (fun X g => ox_ix) ?_ ?_
  refine je_v 0 1
  refine je_int
  refine je_str
  refine je_cl (i := i0 a d) rfl ?_ (hd := g0)
  refine ja_cons ?_ ?_
  refine je_v 0 1
  refine ja_nil
  refine ja_nil
  refine jss_nil
abbrev n2 : List Str := ["change"]
theorem s2 : FnScope n2 ["change"] (defScope (top 3)) := ⟨rfl, rfl, rfl, by decide +kernel, rfl, by decide +kernel, by decide +kernel⟩
set_option maxHeartbeats 0 in
theorem b2 : JSs (tb a d) n (defScope (top 3)) n2 true (List.range n2.length) f2.body (defBody (top 3)) := by
  refine jss_cons ?_ ?_
  refine js_ret ?_
  refine je_bi (x := "sum") (id := "sum") (fun X g => cb_sum g) ?_ (hb := m_sum) (hv := by decide +kernel)
  refine ja_cons ?_ ?_
  refine je_comp (N' := ["part"]) (m' := [1]) ?_ ?_ ?_ ?_ (namesOk.of (by decide +kernel)) (ScOk.of (by decide +kernel))
  refine ji_seq ?_
  refine je_v 0 0
  refine jg_one 0 1 (by decide +kernel) (by decide +kernel)
  refine jc_yes ?_
  refine jt_cmp (fun X g => oc_ne g) ?_ ?_ (nomark _)
  refine je_ix (fun X g => ox_ix) ?_ ?_
  refine je_v 0 1
  refine je_int
  refine je_str
  refine je_cl (i := i0 a d) rfl ?_ (hd := g0)
  refine ja_cons ?_ ?_
  refine je_v 0 1
  refine ja_nil
  refine ja_nil
  refine jss_nil
abbrev n3 : List Str := ["change"]
theorem s3 : FnScope n3 ["change"] (defScope (top 4)) := ⟨rfl, rfl, rfl, by decide +kernel, rfl, by decide +kernel, by decide +kernel⟩
set_option maxHeartbeats 0 in
theorem b3 : JSs (tb a d) n (defScope (top 4)) n3 true (List.range n3.length) f3.body (defBody (top 4)) := by
  refine jss_cons ?_ ?_
  refine js_ret ?_
  refine je_bi (x := "sum") (id := "sum") (fun X g => cb_sum g) ?_ (hb := m_sum) (hv := by decide +kernel)
  refine ja_cons ?_ ?_
  refine je_comp (N' := ["part"]) (m' := [1]) ?_ ?_ ?_ ?_ (namesOk.of (by decide +kernel)) (ScOk.of (by decide +kernel))
  refine ji_seq ?_
  refine je_v 0 0
  refine jg_one 0 1 (by decide +kernel) (by decide +kernel)
  refine jc_yes ?_
  refine jt_cmp (fun X g => oc_ne g) ?_ ?_ (nomark _)
  refine je_ix (fun X g => ox_ix) ?_ ?_
  refine je_v 0 1
  refine je_int
  refine je_str
  refine je_cl (i := i0 a d) rfl ?_ (hd := g0)
  refine ja_cons ?_ ?_
  refine je_v 0 1
  refine ja_nil
  refine ja_nil
  refine jss_nil
abbrev n4 : List Str := ["change", "parts", "kept", "gone", "new", "word", "what"]
theorem s4 : FnScope n4 ["change"] (defScope (top 5)) := ⟨rfl, rfl, rfl, by decide +kernel, rfl, by decide +kernel, by decide +kernel⟩
set_option maxHeartbeats 0 in
theorem b4 : JSs (tb a d) n (defScope (top 5)) n4 true (List.range n4.length) f4.body (defBody (top 5)) := by
  refine jss_cons ?_ ?_
  refine js_set 1 1 (by decide +kernel) (by decide +kernel) ?_
  refine je_lst ?_
  refine ja_nil
  refine jss_cons ?_ ?_
  refine js_set 2 2 (by decide +kernel) (by decide +kernel) ?_
  refine je_int
  refine jss_cons ?_ ?_
  refine js_set 3 3 (by decide +kernel) (by decide +kernel) ?_
  refine je_str
  refine jss_cons ?_ ?_
  refine js_set 4 4 (by decide +kernel) (by decide +kernel) ?_
  refine je_str
  refine jss_cons ?_ ?_
  refine js_for ?_ ?_ ?_
  refine ji_seq ?_
  refine je_v 0 0
  refine jg_many ?_
  refine jgs_cons 5 5 (by decide +kernel) (by decide +kernel) ?_
  refine jgs_cons 6 6 (by decide +kernel) (by decide +kernel) ?_
  refine jgs_nil
  refine jss_cons ?_ ?_
  refine js_iff ?_ ?_ ?_
  refine jt_cmp (fun X g => oc_eq g) ?_ ?_ (nomark _)
  refine je_v 5 5
  refine je_str
  refine jss_cons ?_ ?_
  refine js_set 3 3 (by decide +kernel) (by decide +kernel) ?_
  refine je_bin (fun X g => ob_add) ?_ ?_
  refine je_v 3 3
  refine je_v 6 6
  refine jss_nil
  refine jss_cons ?_ ?_
  refine js_iff ?_ ?_ ?_
  refine jt_cmp (fun X g => oc_eq g) ?_ ?_ (nomark _)
  refine je_v 5 5
  refine je_str
  refine jss_cons ?_ ?_
  refine js_set 4 4 (by decide +kernel) (by decide +kernel) ?_
  refine je_bin (fun X g => ob_add) ?_ ?_
  refine je_v 4 4
  refine je_v 6 6
  refine jss_nil
  refine jss_cons ?_ ?_
  refine js_iff ?_ ?_ ?_
  refine jt_cmp (fun X g => oc_gt) ?_ ?_ (nomark _)
  refine je_v 6 6
  refine je_int
  refine jss_cons ?_ ?_
  refine js_iff ?_ ?_ ?_
  refine jt_w ?_
  refine jw_orr ?_ ?_
  refine jt_cmp (fun X g => oc_ne g) ?_ ?_ (nomark _)
  refine je_v 3 3
  refine je_str
  refine jw_orr1 ?_
  refine jt_cmp (fun X g => oc_ne g) ?_ ?_ (nomark _)
  refine je_v 4 4
  refine je_str
  refine jss_cons ?_ ?_
  refine js_exp ?_
  refine je_me PySem.F.plainAttrs_list PySem.F.slot_list_extend PySem.F.type_list_extend (fun X g => mm_extend) rfl ?_ ?_
  refine je_v 1 1
  refine ja_cons ?_ ?_
  refine je_cl (i := i5 a d) rfl ?_ (hd := g5)
  refine ja_cons ?_ ?_
  refine je_v 2 2
  refine ja_cons ?_ ?_
  refine je_v 3 3
  refine ja_cons ?_ ?_
  refine je_v 4 4
  refine ja_nil
  refine ja_nil
  refine jss_cons ?_ ?_
  refine js_set 2 2 (by decide +kernel) (by decide +kernel) ?_
  refine je_int
  refine jss_cons ?_ ?_
  refine js_set 3 3 (by decide +kernel) (by decide +kernel) ?_
  refine je_str
  refine jss_cons ?_ ?_
  refine js_set 4 4 (by decide +kernel) (by decide +kernel) ?_
  refine je_str
  refine jss_nil
  refine jss_nil
  refine jss_cons ?_ ?_
  refine js_set 2 2 (by decide +kernel) (by decide +kernel) ?_
  refine je_bin (fun X g => ob_add) ?_ ?_
  refine je_v 2 2
  refine je_v 6 6
  refine jss_nil
  refine jss_nil
  refine jss_nil
  refine jss_nil
  refine jss_nil
  refine jss_cons ?_ ?_
  refine js_exp ?_
  refine je_me PySem.F.plainAttrs_list PySem.F.slot_list_extend PySem.F.type_list_extend (fun X g => mm_extend) rfl ?_ ?_
  refine je_v 1 1
  refine ja_cons ?_ ?_
  refine je_cl (i := i5 a d) rfl ?_ (hd := g5)
  refine ja_cons ?_ ?_
  refine je_v 2 2
  refine ja_cons ?_ ?_
  refine je_v 3 3
  refine ja_cons ?_ ?_
  refine je_v 4 4
  refine ja_nil
  refine ja_nil
  refine jss_cons ?_ ?_
  refine js_ret ?_
  refine je_ttp ?_ (h1 := m_tuple)
  refine je_v 1 1
  refine jss_nil
abbrev n5 : List Str := ["kept", "gone", "new", "parts"]
theorem s5 : FnScope n5 ["kept", "gone", "new"] (defScope (top 6)) := ⟨rfl, rfl, rfl, by decide +kernel, rfl, by decide +kernel, by decide +kernel⟩
set_option maxHeartbeats 0 in
theorem b5 : JSs (tb a d) n (defScope (top 6)) n5 true (List.range n5.length) f5.body (defBody (top 6)) := by
  refine jss_cons ?_ ?_
  refine js_set 3 3 (by decide +kernel) (by decide +kernel) ?_
  refine je_lst ?_
  refine ja_nil
  refine jss_cons ?_ ?_
  refine js_iff ?_ ?_ ?_
  refine jt_cmp (fun X g => oc_gt) ?_ ?_ (nomark _)
  refine je_v 0 0
  refine je_int
  refine jss_cons ?_ ?_
  refine js_exp ?_
  refine je_me PySem.F.plainAttrs_list PySem.F.slot_list_append PySem.F.type_list_append (fun X g => mm_append) rfl ?_ ?_
  refine je_v 3 3
  refine ja_cons ?_ ?_
  refine je_tup ?_
  refine ja_cons ?_ ?_
  refine je_str
  refine ja_cons ?_ ?_
  refine je_v 0 0
  refine ja_nil
  refine ja_nil
  refine jss_nil
  refine jss_nil
  refine jss_cons ?_ ?_
  refine js_iff ?_ ?_ ?_
  refine jt_cmp (fun X g => oc_ne g) ?_ ?_ (nomark _)
  refine je_v 1 1
  refine je_str
  refine jss_cons ?_ ?_
  refine js_exp ?_
  refine je_me PySem.F.plainAttrs_list PySem.F.slot_list_append PySem.F.type_list_append (fun X g => mm_append) rfl ?_ ?_
  refine je_v 3 3
  refine ja_cons ?_ ?_
  refine je_tup ?_
  refine ja_cons ?_ ?_
  refine je_str
  refine ja_cons ?_ ?_
  refine je_v 1 1
  refine ja_nil
  refine ja_nil
  refine jss_nil
  refine jss_nil
  refine jss_cons ?_ ?_
  refine js_iff ?_ ?_ ?_
  refine jt_cmp (fun X g => oc_ne g) ?_ ?_ (nomark _)
  refine je_v 2 2
  refine je_str
  refine jss_cons ?_ ?_
  refine js_exp ?_
  refine je_me PySem.F.plainAttrs_list PySem.F.slot_list_append PySem.F.type_list_append (fun X g => mm_append) rfl ?_ ?_
  refine je_v 3 3
  refine ja_cons ?_ ?_
  refine je_tup ?_
  refine ja_cons ?_ ?_
  refine je_str
  refine ja_cons ?_ ?_
  refine je_v 2 2
  refine ja_nil
  refine ja_nil
  refine jss_nil
  refine jss_nil
  refine jss_cons ?_ ?_
  refine js_ret ?_
  refine je_v 3 3
  refine jss_nil
abbrev n6 : List Str := ["_law_script", "_law_k"]
theorem s6 : FnScope n6 ["_law_script", "_law_k"] (defScope (top 8)) := ⟨rfl, rfl, rfl, by decide +kernel, rfl, by decide +kernel, by decide +kernel⟩
set_option maxHeartbeats 0 in
theorem b6 : JSs (tb a d) n (defScope (top 8)) n6 true (List.range n6.length) f6.body (defBody (top 8)) := by
  refine jss_cons ?_ ?_
  refine js_iff ?_ ?_ ?_
  refine jt_cmp (fun X g => oc_eq g) ?_ ?_ (nomark _)
  refine je_v 0 0
  refine je_lst ?_
  refine ja_nil
  refine jss_cons ?_ ?_
  refine js_ret ?_
  refine je_bin (fun X g => ob_mul) ?_ ?_
  refine je_int
  refine je_v 1 1
  refine jss_nil
  refine jss_nil
  refine jss_cons ?_ ?_
  refine js_ret ?_
  refine je_bin (fun X g => ob_add) ?_ ?_
  refine je_ix (fun X g => ox_ix) ?_ ?_
  refine je_v 0 0
  refine je_bin (fun X g => ob_mod) ?_ ?_
  refine je_v 1 1
  refine je_bi (x := "len") (id := "len") (fun X g => cb_len) ?_ (hb := m_len) (hv := by decide +kernel)
  refine ja_cons ?_ ?_
  refine je_v 0 0
  refine ja_nil
  refine je_bin (fun X g => ob_mul) ?_ ?_
  refine je_int
  refine je_bin (fun X g => ob_fdiv) ?_ ?_
  refine je_v 1 1
  refine je_bi (x := "len") (id := "len") (fun X g => cb_len) ?_ (hb := m_len) (hv := by decide +kernel)
  refine ja_cons ?_ ?_
  refine je_v 0 0
  refine ja_nil
  refine jss_nil
abbrev n7 : List Str := ["_law_script", "_law_k", "_law_many", "_law_cell_here"]
theorem s7 : FnScope n7 ["_law_script", "_law_k", "_law_many"] (defScope (top 9)) := ⟨rfl, rfl, rfl, by decide +kernel, rfl, by decide +kernel, by decide +kernel⟩
set_option maxHeartbeats 0 in
theorem b7 : JSs (tb a d) n (defScope (top 9)) n7 true (List.range n7.length) f7.body (defBody (top 9)) := by
  refine jss_cons ?_ ?_
  refine js_set 3 3 (by decide +kernel) (by decide +kernel) ?_
  refine je_bin (fun X g => ob_mod) ?_ ?_
  refine je_bin (fun X g => ob_add) ?_ ?_
  refine je_bin (fun X g => ob_mul) ?_ ?_
  refine je_bin (fun X g => ob_mod) ?_ ?_
  refine je_cl (i := i6 a d) rfl ?_ (hd := g6)
  refine ja_cons ?_ ?_
  refine je_v 0 0
  refine ja_cons ?_ ?_
  refine je_v 1 1
  refine ja_nil
  refine je_int
  refine je_int
  refine je_bin (fun X g => ob_mul) ?_ ?_
  refine je_int
  refine je_bin (fun X g => ob_add) ?_ ?_
  refine je_v 1 1
  refine je_int
  refine je_int
  refine jss_cons ?_ ?_
  refine js_set 3 3 (by decide +kernel) (by decide +kernel) ?_
  refine je_bin (fun X g => ob_mod) ?_ ?_
  refine je_bin (fun X g => ob_add) ?_ ?_
  refine je_bin (fun X g => ob_mul) ?_ ?_
  refine je_v 3 3
  refine je_v 3 3
  refine je_bin (fun X g => ob_fdiv) ?_ ?_
  refine je_v 3 3
  refine je_int
  refine je_int
  refine jss_cons ?_ ?_
  refine js_ret ?_
  refine je_bin (fun X g => ob_mod) ?_ ?_
  refine je_bin (fun X g => ob_fdiv) ?_ ?_
  refine je_bin (fun X g => ob_mod) ?_ ?_
  refine je_bin (fun X g => ob_add) ?_ ?_
  refine je_bin (fun X g => ob_mul) ?_ ?_
  refine je_v 3 3
  refine je_v 3 3
  refine je_bin (fun X g => ob_fdiv) ?_ ?_
  refine je_v 3 3
  refine je_int
  refine je_int
  refine je_int
  refine je_v 2 2
  refine jss_nil
abbrev n8 : List Str := ["_law_script", "_law_at", "_law_most"]
theorem s8 : FnScope n8 ["_law_script", "_law_at", "_law_most"] (defScope (top 10)) := ⟨rfl, rfl, rfl, by decide +kernel, rfl, by decide +kernel, by decide +kernel⟩
set_option maxHeartbeats 0 in
theorem b8 : JSs (tb a d) n (defScope (top 10)) n8 true (List.range n8.length) f8.body (defBody (top 10)) := by
  refine jss_cons ?_ ?_
  refine js_ret ?_
  refine je_me PySem.F.plainAttrs_str PySem.F.slot_str_join PySem.F.type_str_join (fun X g => mm_join) rfl ?_ ?_
  refine je_str
  refine ja_cons ?_ ?_
  refine je_comp (N' := ["_law_k", "_law_script", "_law_at"]) (m' := [3, 0, 1]) ?_ ?_ ?_ ?_ (namesOk.of (by decide +kernel)) (ScOk.of (by decide +kernel))
  refine ji_rng1 ?_ (hb := m_range)
  refine ja_cons ?_ ?_
  refine je_cl (i := i7 a d) rfl ?_ (hd := g7)
  refine ja_cons ?_ ?_
  refine je_v 0 0
  refine ja_cons ?_ ?_
  refine je_v 1 1
  refine ja_cons ?_ ?_
  refine je_bin (fun X g => ob_add) ?_ ?_
  refine je_v 2 2
  refine je_int
  refine ja_nil
  refine ja_nil
  refine jg_one 0 3 (by decide +kernel) (by decide +kernel)
  refine jc_no
  refine je_ix (fun X g => ox_ix) ?_ ?_
  refine je_str
  refine je_cl (i := i7 a d) rfl ?_ (hd := g7)
  refine ja_cons ?_ ?_
  refine je_v 1 0
  refine ja_cons ?_ ?_
  refine je_bin (fun X g => ob_add) ?_ ?_
  refine je_bin (fun X g => ob_add) ?_ ?_
  refine je_v 2 1
  refine je_int
  refine je_v 0 3
  refine ja_cons ?_ ?_
  refine je_int
  refine ja_nil
  refine ja_nil
  refine jss_nil
abbrev n9 : List Str := ["_law_script", "_law_at", "_law_text_here", "_law_found", "_law_k", "_law_new", "_law_is_kept"]
theorem s9 : FnScope n9 ["_law_script", "_law_at", "_law_text_here"] (defScope (top 11)) := ⟨rfl, rfl, rfl, by decide +kernel, rfl, by decide +kernel, by decide +kernel⟩
set_option maxHeartbeats 0 in
theorem b9 : JSs (tb a d) n (defScope (top 11)) n9 true (List.range n9.length) f9.body (defBody (top 11)) := by
  refine jss_cons ?_ ?_
  refine js_set 3 3 (by decide +kernel) (by decide +kernel) ?_
  refine je_tup ?_
  refine ja_nil
  refine jss_cons ?_ ?_
  refine js_for ?_ ?_ ?_
  refine ji_rng1 ?_ (hb := m_range)
  refine ja_cons ?_ ?_
  refine je_bin (fun X g => ob_add) ?_ ?_
  refine je_bi (x := "len") (id := "len") (fun X g => cb_len) ?_ (hb := m_len) (hv := by decide +kernel)
  refine ja_cons ?_ ?_
  refine je_v 2 2
  refine ja_nil
  refine je_int
  refine ja_nil
  refine jg_one 4 4 (by decide +kernel) (by decide +kernel)
  refine jss_cons ?_ ?_
  refine js_iff ?_ ?_ ?_
  refine jt_cmp (fun X g => oc_eq g) ?_ ?_ (nomark _)
  refine je_cl (i := i7 a d) rfl ?_ (hd := g7)
  refine ja_cons ?_ ?_
  refine je_v 0 0
  refine ja_cons ?_ ?_
  refine je_bin (fun X g => ob_add) ?_ ?_
  refine je_v 1 1
  refine je_bin (fun X g => ob_mul) ?_ ?_
  refine je_int
  refine je_v 4 4
  refine ja_cons ?_ ?_
  refine je_int
  refine ja_nil
  refine je_int
  refine jss_cons ?_ ?_
  refine js_set 5 5 (by decide +kernel) (by decide +kernel) ?_
  refine je_bin (fun X g => ob_mul) ?_ ?_
  refine je_ix (fun X g => ox_ix) ?_ ?_
  refine je_str
  refine je_cl (i := i7 a d) rfl ?_ (hd := g7)
  refine ja_cons ?_ ?_
  refine je_v 0 0
  refine ja_cons ?_ ?_
  refine je_bin (fun X g => ob_add) ?_ ?_
  refine je_bin (fun X g => ob_add) ?_ ?_
  refine je_v 1 1
  refine je_bin (fun X g => ob_mul) ?_ ?_
  refine je_int
  refine je_v 4 4
  refine je_int
  refine ja_cons ?_ ?_
  refine je_int
  refine ja_nil
  refine je_bin (fun X g => ob_add) ?_ ?_
  refine je_int
  refine je_cl (i := i7 a d) rfl ?_ (hd := g7)
  refine ja_cons ?_ ?_
  refine je_v 0 0
  refine ja_cons ?_ ?_
  refine je_bin (fun X g => ob_add) ?_ ?_
  refine je_bin (fun X g => ob_add) ?_ ?_
  refine je_v 1 1
  refine je_bin (fun X g => ob_mul) ?_ ?_
  refine je_int
  refine je_v 4 4
  refine je_int
  refine ja_cons ?_ ?_
  refine je_int
  refine ja_nil
  refine jss_cons ?_ ?_
  refine js_set 3 3 (by decide +kernel) (by decide +kernel) ?_
  refine je_bin (fun X g => ob_add) ?_ ?_
  refine je_v 3 3
  refine je_tup ?_
  refine ja_cons ?_ ?_
  refine je_tup ?_
  refine ja_cons ?_ ?_
  refine je_str
  refine ja_cons ?_ ?_
  refine je_v 5 5
  refine ja_nil
  refine ja_nil
  refine jss_nil
  refine jss_nil
  refine jss_cons ?_ ?_
  refine js_iff ?_ ?_ ?_
  refine jt_cmp (fun X g => oc_lt) ?_ ?_ (nomark _)
  refine je_v 4 4
  refine je_bi (x := "len") (id := "len") (fun X g => cb_len) ?_ (hb := m_len) (hv := by decide +kernel)
  refine ja_cons ?_ ?_
  refine je_v 2 2
  refine ja_nil
  refine jss_cons ?_ ?_
  refine js_set 6 6 (by decide +kernel) (by decide +kernel) ?_
  refine je_cmp (fun X g => oc_gt) ?_ ?_ (nomark _)
  refine je_cl (i := i7 a d) rfl ?_ (hd := g7)
  refine ja_cons ?_ ?_
  refine je_v 0 0
  refine ja_cons ?_ ?_
  refine je_bin (fun X g => ob_add) ?_ ?_
  refine je_bin (fun X g => ob_add) ?_ ?_
  refine je_v 1 1
  refine je_bin (fun X g => ob_mul) ?_ ?_
  refine je_int
  refine je_v 4 4
  refine je_int
  refine ja_cons ?_ ?_
  refine je_int
  refine ja_nil
  refine je_int
  refine jss_cons ?_ ?_
  refine js_set 3 3 (by decide +kernel) (by decide +kernel) ?_
  refine je_bin (fun X g => ob_add) ?_ ?_
  refine je_v 3 3
  refine je_tup ?_
  refine ja_cons ?_ ?_
  refine je_ife ?_ ?_ ?_
  refine jt_val ?_
  refine je_v 6 6
  refine je_tup ?_
  refine ja_cons ?_ ?_
  refine je_str
  refine ja_cons ?_ ?_
  refine je_int
  refine ja_nil
  refine je_tup ?_
  refine ja_cons ?_ ?_
  refine je_str
  refine ja_cons ?_ ?_
  refine je_ix (fun X g => ox_ix) ?_ ?_
  refine je_v 2 2
  refine je_v 4 4
  refine ja_nil
  refine ja_nil
  refine jss_nil
  refine jss_nil
  refine jss_nil
  refine jss_cons ?_ ?_
  refine js_ret ?_
  refine je_v 3 3
  refine jss_nil
abbrev n10 : List Str := ["_law_change_here", "_law_asks", "_law_told", "_law_word", "_law_what"]
theorem s10 : FnScope n10 ["_law_change_here"] (defScope (top 12)) := ⟨rfl, rfl, rfl, by decide +kernel, rfl, by decide +kernel, by decide +kernel⟩
set_option maxHeartbeats 0 in
theorem b10 : JSs (tb a d) n (defScope (top 12)) n10 true (List.range n10.length) f10.body (defBody (top 12)) := by
  refine jss_cons ?_ ?_
  refine js_set 1 1 (by decide +kernel) (by decide +kernel) ?_
  refine je_lst ?_
  refine ja_nil
  refine jss_cons ?_ ?_
  refine js_set 2 2 (by decide +kernel) (by decide +kernel) ?_
  refine je_lst ?_
  refine ja_nil
  refine jss_cons ?_ ?_
  refine js_for ?_ ?_ ?_
  refine ji_seq ?_
  refine je_v 0 0
  refine jg_many ?_
  refine jgs_cons 3 3 (by decide +kernel) (by decide +kernel) ?_
  refine jgs_cons 4 4 (by decide +kernel) (by decide +kernel) ?_
  refine jgs_nil
  refine jss_cons ?_ ?_
  refine js_iff ?_ ?_ ?_
  refine jt_cmp (fun X g => oc_eq g) ?_ ?_ (nomark _)
  refine je_v 3 3
  refine je_str
  refine jss_cons ?_ ?_
  refine js_set 2 2 (by decide +kernel) (by decide +kernel) ?_
  refine je_bin (fun X g => ob_add) ?_ ?_
  refine je_v 2 2
  refine je_lofR2 ?_ (h1 := m_list) (hb := m_range)
  refine ja_cons ?_ ?_
  refine je_bi (x := "len") (id := "len") (fun X g => cb_len) ?_ (hb := m_len) (hv := by decide +kernel)
  refine ja_cons ?_ ?_
  refine je_v 1 1
  refine ja_nil
  refine ja_cons ?_ ?_
  refine je_bin (fun X g => ob_add) ?_ ?_
  refine je_bi (x := "len") (id := "len") (fun X g => cb_len) ?_ (hb := m_len) (hv := by decide +kernel)
  refine ja_cons ?_ ?_
  refine je_v 1 1
  refine ja_nil
  refine je_v 4 4
  refine ja_nil
  refine jss_cons ?_ ?_
  refine js_set 1 1 (by decide +kernel) (by decide +kernel) ?_
  refine je_bin (fun X g => ob_add) ?_ ?_
  refine je_v 1 1
  refine je_bin (fun X g => ob_mul) ?_ ?_
  refine je_lst ?_
  refine ja_cons ?_ ?_
  refine je_str
  refine ja_nil
  refine je_v 4 4
  refine jss_nil
  refine jss_cons ?_ ?_
  refine js_iff ?_ ?_ ?_
  refine jt_cmp (fun X g => oc_eq g) ?_ ?_ (nomark _)
  refine je_v 3 3
  refine je_str
  refine jss_cons ?_ ?_
  refine js_set 1 1 (by decide +kernel) (by decide +kernel) ?_
  refine je_bin (fun X g => ob_add) ?_ ?_
  refine je_v 1 1
  refine je_lof ?_ (h1 := m_list)
  refine je_v 4 4
  refine jss_nil
  refine jss_cons ?_ ?_
  refine js_set 2 2 (by decide +kernel) (by decide +kernel) ?_
  refine je_bin (fun X g => ob_add) ?_ ?_
  refine je_v 2 2
  refine je_lof ?_ (h1 := m_list)
  refine je_v 4 4
  refine jss_nil
  refine jss_nil
  refine jss_nil
  refine jss_cons ?_ ?_
  refine js_ret ?_
  refine je_tup ?_
  refine ja_cons ?_ ?_
  refine je_v 1 1
  refine ja_cons ?_ ?_
  refine je_v 2 2
  refine ja_nil
  refine jss_nil
abbrev n11 : List Str := ["_law_change_here", "_law_found", "_law_word", "_law_what"]
theorem s11 : FnScope n11 ["_law_change_here"] (defScope (top 14)) := ⟨rfl, rfl, rfl, by decide +kernel, rfl, by decide +kernel, by decide +kernel⟩
set_option maxHeartbeats 0 in
theorem b11 : JSs (tb a d) n (defScope (top 14)) n11 true (List.range n11.length) f11.body (defBody (top 14)) := by
  refine jss_cons ?_ ?_
  refine js_set 1 1 (by decide +kernel) (by decide +kernel) ?_
  refine je_tup ?_
  refine ja_nil
  refine jss_cons ?_ ?_
  refine js_for ?_ ?_ ?_
  refine ji_seq ?_
  refine je_v 0 0
  refine jg_many ?_
  refine jgs_cons 2 2 (by decide +kernel) (by decide +kernel) ?_
  refine jgs_cons 3 3 (by decide +kernel) (by decide +kernel) ?_
  refine jgs_nil
  refine jss_cons ?_ ?_
  refine js_iff ?_ ?_ ?_
  refine jt_cmp (fun X g => oc_eq g) ?_ ?_ (nomark _)
  refine je_v 2 2
  refine je_str
  refine jss_cons ?_ ?_
  refine js_set 1 1 (by decide +kernel) (by decide +kernel) ?_
  refine je_bin (fun X g => ob_add) ?_ ?_
  refine je_v 1 1
  refine je_bin (fun X g => ob_mul) ?_ ?_
  refine je_tup ?_
  refine ja_cons ?_ ?_
  refine je_tup ?_
  refine ja_cons ?_ ?_
  refine je_str
  refine ja_cons ?_ ?_
  refine je_int
  refine ja_nil
  refine ja_nil
  refine je_v 3 3
  refine jss_nil
  refine jss_cons ?_ ?_
  refine js_set 1 1 (by decide +kernel) (by decide +kernel) ?_
  refine je_bin (fun X g => ob_add) ?_ ?_
  refine je_v 1 1
  refine je_ttp ?_ (h1 := m_tuple)
  refine je_comp (N' := ["_law_sign", "_law_word"]) (m' := [4, 2]) ?_ ?_ ?_ ?_ (namesOk.of (by decide +kernel)) (ScOk.of (by decide +kernel))
  refine ji_seq ?_
  refine je_v 3 3
  refine jg_one 0 4 (by decide +kernel) (by decide +kernel)
  refine jc_no
  refine je_tup ?_
  refine ja_cons ?_ ?_
  refine je_v 1 2
  refine ja_cons ?_ ?_
  refine je_v 0 4
  refine ja_nil
  refine jss_nil
  refine jss_nil
  refine jss_cons ?_ ?_
  refine js_ret ?_
  refine je_v 1 1
  refine jss_nil
abbrev n12 : List Str := ["_law_script", "_law_at", "_law_change_here", "_law_rows", "_law_k", "_law_words"]
theorem s12 : FnScope n12 ["_law_script", "_law_at", "_law_change_here"] (defScope (top 15)) := ⟨rfl, rfl, rfl, by decide +kernel, rfl, by decide +kernel, by decide +kernel⟩
set_option maxHeartbeats 0 in
theorem b12 : JSs (tb a d) n (defScope (top 15)) n12 true (List.range n12.length) f12.body (defBody (top 15)) := by
  refine jss_cons ?_ ?_
  refine js_set 3 3 (by decide +kernel) (by decide +kernel) ?_
  refine je_lof ?_ (h1 := m_list)
  refine je_v 2 2
  refine jss_cons ?_ ?_
  refine js_for ?_ ?_ ?_
  refine ji_rng1 ?_ (hb := m_range)
  refine ja_cons ?_ ?_
  refine je_bin (fun X g => ob_sub) ?_ ?_
  refine je_bi (x := "len") (id := "len") (fun X g => cb_len) ?_ (hb := m_len) (hv := by decide +kernel)
  refine ja_cons ?_ ?_
  refine je_v 3 3
  refine ja_nil
  refine je_int
  refine ja_nil
  refine jg_one 4 4 (by decide +kernel) (by decide +kernel)
  refine jss_cons ?_ ?_
  refine js_set 5 5 (by decide +kernel) (by decide +kernel) ?_
  refine je_bi (x := "sorted") (id := "sorted") (fun X g => cb_sorted) ?_ (hb := m_sorted) (hv := by decide +kernel)
  refine ja_cons ?_ ?_
  refine je_lst ?_
  refine ja_cons ?_ ?_
  refine je_ix (fun X g => ox_ix) ?_ ?_
  refine je_ix (fun X g => ox_ix) ?_ ?_
  refine je_v 3 3
  refine je_v 4 4
  refine je_int
  refine ja_cons ?_ ?_
  refine je_ix (fun X g => ox_ix) ?_ ?_
  refine je_ix (fun X g => ox_ix) ?_ ?_
  refine je_v 3 3
  refine je_bin (fun X g => ob_add) ?_ ?_
  refine je_v 4 4
  refine je_int
  refine je_int
  refine ja_nil
  refine ja_nil
  refine jss_cons ?_ ?_
  refine js_iff ?_ ?_ ?_
  refine jt_w ?_
  refine jw_an ?_ ?_
  refine jt_cmp (fun X g => oc_eq g) ?_ ?_ (nomark _)
  refine je_v 5 5
  refine je_lst ?_
  refine ja_cons ?_ ?_
  refine je_str
  refine ja_cons ?_ ?_
  refine je_str
  refine ja_nil
  refine jw_an1 ?_
  refine jt_cmp (fun X g => oc_eq g) ?_ ?_ (nomark _)
  refine je_cl (i := i7 a d) rfl ?_ (hd := g7)
  refine ja_cons ?_ ?_
  refine je_v 0 0
  refine ja_cons ?_ ?_
  refine je_bin (fun X g => ob_add) ?_ ?_
  refine je_v 1 1
  refine je_v 4 4
  refine ja_cons ?_ ?_
  refine je_int
  refine ja_nil
  refine je_int
  refine jss_cons ?_ ?_
  refine js_setS ?_ ?_ ?_ ?_
  refine je_v 3 3
  refine je_v 4 4
  refine je_bin (fun X g => ob_add) ?_ ?_
  refine je_v 4 4
  refine je_int
  refine je_rv ?_
  refine je_sl (fun X g => sl_any) ?_ ?_ ?_
  refine je_v 3 3
  refine jo_yes ?_
  refine je_v 4 4
  refine jo_yes ?_
  refine je_bin (fun X g => ob_add) ?_ ?_
  refine je_v 4 4
  refine je_int
  refine jss_nil
  refine jss_nil
  refine jss_nil
  refine jss_cons ?_ ?_
  refine js_ret ?_
  refine je_ttp ?_ (h1 := m_tuple)
  refine je_v 3 3
  refine jss_nil
abbrev n13 : List Str := ["_law_script", "_law_text_here", "_law_change_here", "_law_own", "_law_pieces", "_law_turned", "_law_one", "_law_sizes", "_law_other"]
theorem s13 : FnScope n13 ["_law_script"] (defScope (top 16)) := ⟨rfl, rfl, rfl, by decide +kernel, rfl, by decide +kernel, by decide +kernel⟩
set_option maxHeartbeats 0 in
theorem b13 : JSs (tb a d) n (defScope (top 16)) n13 true (List.range n13.length) f13.body (defBody (top 16)) := by
  refine jss_cons ?_ ?_
  refine js_set 1 1 (by decide +kernel) (by decide +kernel) ?_
  refine je_cl (i := i8 a d) rfl ?_ (hd := g8)
  refine ja_cons ?_ ?_
  refine je_v 0 0
  refine ja_cons ?_ ?_
  refine je_int
  refine ja_cons ?_ ?_
  refine je_int
  refine ja_nil
  refine jss_cons ?_ ?_
  refine js_set 2 2 (by decide +kernel) (by decide +kernel) ?_
  refine je_cl (i := i9 a d) rfl ?_ (hd := g9)
  refine ja_cons ?_ ?_
  refine je_v 0 0
  refine ja_cons ?_ ?_
  refine je_int
  refine ja_cons ?_ ?_
  refine je_v 1 1
  refine ja_nil
  refine jss_cons ?_ ?_
  refine js_set 3 3 (by decide +kernel) (by decide +kernel) ?_
  refine je_cl (i := i4 a d) rfl ?_ (hd := g4)
  refine ja_cons ?_ ?_
  refine je_v 2 2
  refine ja_nil
  refine jss_cons ?_ ?_
  refine js_set 4 4 (by decide +kernel) (by decide +kernel) ?_
  refine je_cl (i := i11 a d) rfl ?_ (hd := g11)
  refine ja_cons ?_ ?_
  refine je_v 2 2
  refine ja_nil
  refine jss_cons ?_ ?_
  refine js_set 5 5 (by decide +kernel) (by decide +kernel) ?_
  refine je_cl (i := i12 a d) rfl ?_ (hd := g12)
  refine ja_cons ?_ ?_
  refine je_v 0 0
  refine ja_cons ?_ ?_
  refine je_int
  refine ja_cons ?_ ?_
  refine je_cl (i := i12 a d) rfl ?_ (hd := g12)
  refine ja_cons ?_ ?_
  refine je_v 0 0
  refine ja_cons ?_ ?_
  refine je_int
  refine ja_cons ?_ ?_
  refine je_v 4 4
  refine ja_nil
  refine ja_nil
  refine jss_cons ?_ ?_
  refine js_for ?_ ?_ ?_
  refine ji_seq ?_
  refine je_tup ?_
  refine ja_cons ?_ ?_
  refine je_v 3 3
  refine ja_cons ?_ ?_
  refine je_v 4 4
  refine ja_cons ?_ ?_
  refine je_v 5 5
  refine ja_cons ?_ ?_
  refine je_cl (i := i11 a d) rfl ?_ (hd := g11)
  refine ja_cons ?_ ?_
  refine je_v 3 3
  refine ja_nil
  refine ja_cons ?_ ?_
  refine je_cl (i := i12 a d) rfl ?_ (hd := g12)
  refine ja_cons ?_ ?_
  refine je_v 0 0
  refine ja_cons ?_ ?_
  refine je_int
  refine ja_cons ?_ ?_
  refine je_cl (i := i11 a d) rfl ?_ (hd := g11)
  refine ja_cons ?_ ?_
  refine je_v 3 3
  refine ja_nil
  refine ja_nil
  refine ja_nil
  refine jg_one 6 6 (by decide +kernel) (by decide +kernel)
  refine jss_cons ?_ ?_
  refine js_set 7 7 (by decide +kernel) (by decide +kernel) ?_
  refine je_tup ?_
  refine ja_cons ?_ ?_
  refine je_cl (i := i1 a d) rfl ?_ (hd := g1)
  refine ja_cons ?_ ?_
  refine je_v 6 6
  refine ja_nil
  refine ja_cons ?_ ?_
  refine je_cl (i := i2 a d) rfl ?_ (hd := g2)
  refine ja_cons ?_ ?_
  refine je_v 6 6
  refine ja_nil
  refine ja_cons ?_ ?_
  refine je_cl (i := i3 a d) rfl ?_ (hd := g3)
  refine ja_cons ?_ ?_
  refine je_v 6 6
  refine ja_nil
  refine ja_nil
  refine jss_cons ?_ ?_
  refine js_iff ?_ ?_ ?_
  refine jt_w ?_
  refine jw_orr ?_ ?_
  refine jt_cmp (fun X g => oc_ne g) ?_ ?_ (nomark _)
  refine je_cl (i := i4 a d) rfl ?_ (hd := g4)
  refine ja_cons ?_ ?_
  refine je_v 6 6
  refine ja_nil
  refine je_v 3 3
  refine jw_orr1 ?_
  refine jt_cmp (fun X g => oc_ne g) ?_ ?_ (nomark _)
  refine je_v 7 7
  refine je_tup ?_
  refine ja_cons ?_ ?_
  refine je_cl (i := i1 a d) rfl ?_ (hd := g1)
  refine ja_cons ?_ ?_
  refine je_v 3 3
  refine ja_nil
  refine ja_cons ?_ ?_
  refine je_cl (i := i2 a d) rfl ?_ (hd := g2)
  refine ja_cons ?_ ?_
  refine je_v 3 3
  refine ja_nil
  refine ja_cons ?_ ?_
  refine je_cl (i := i3 a d) rfl ?_ (hd := g3)
  refine ja_cons ?_ ?_
  refine je_v 3 3
  refine ja_nil
  refine ja_nil
  refine jss_cons ?_ ?_
  refine js_ret ?_
  refine je_bl
  refine jss_nil
  refine jss_nil
  refine jss_nil
  refine jss_cons ?_ ?_
  refine js_set 8 8 (by decide +kernel) (by decide +kernel) ?_
  refine je_cl (i := i9 a d) rfl ?_ (hd := g9)
  refine ja_cons ?_ ?_
  refine je_v 0 0
  refine ja_cons ?_ ?_
  refine je_int
  refine ja_cons ?_ ?_
  refine je_v 1 1
  refine ja_nil
  refine jss_cons ?_ ?_
  refine js_iff ?_ ?_ ?_
  refine jt_cmp (fun X g => oc_ne g) ?_ ?_ (nomark _)
  refine je_cmp (fun X g => oc_eq g) ?_ ?_ (nomark _)
  refine je_cl (i := i4 a d) rfl ?_ (hd := g4)
  refine ja_cons ?_ ?_
  refine je_v 8 8
  refine ja_nil
  refine je_v 3 3
  refine je_cmp (fun X g => oc_eq g) ?_ ?_ (nomark _)
  refine je_cl (i := i10 a d) rfl ?_ (hd := g10)
  refine ja_cons ?_ ?_
  refine je_cl (i := i4 a d) rfl ?_ (hd := g4)
  refine ja_cons ?_ ?_
  refine je_v 8 8
  refine ja_nil
  refine ja_nil
  refine je_cl (i := i10 a d) rfl ?_ (hd := g10)
  refine ja_cons ?_ ?_
  refine je_v 3 3
  refine ja_nil
  refine jss_cons ?_ ?_
  refine js_ret ?_
  refine je_bl
  refine jss_nil
  refine jss_nil
  refine jss_cons ?_ ?_
  refine js_ret ?_
  refine je_cmp (fun X g => oc_eq g) ?_ ?_ (nomark _)
  refine je_cmp (fun X g => oc_eq g) ?_ ?_ (nomark _)
  refine je_cl (i := i4 a d) rfl ?_ (hd := g4)
  refine ja_cons ?_ ?_
  refine je_v 8 8
  refine ja_nil
  refine je_v 3 3
  refine je_cmp (fun X g => oc_eq g) ?_ ?_ (nomark _)
  refine je_cl (i := i10 a d) rfl ?_ (hd := g10)
  refine ja_cons ?_ ?_
  refine je_v 8 8
  refine ja_nil
  refine je_cl (i := i10 a d) rfl ?_ (hd := g10)
  refine ja_cons ?_ ?_
  refine je_v 2 2
  refine ja_nil
  refine jss_nil
end
end Lw
set_option Elab.async false
set_option linter.all false
set_option maxRecDepth 100000
namespace Lw
open PySem PySem.Spec PyProof.Rows L2 Sm
open Ev (D O Hh Fr R Phi E Es Eo T S Ss Fl Src BOp COp TY BI ME)
theorem len1 {α : Type _} {l : List α} (h : l.length = 1) : ∃ a, l = [a] := by
  rcases l with _ | ⟨a, _ | ⟨b, l⟩⟩ <;> simp at h ⊢
theorem len2 {α : Type _} {l : List α} (h : l.length = 2) : ∃ a b, l = [a, b] := by
  rcases l with _ | ⟨a, l⟩
  · simp at h
  · obtain ⟨b, rfl⟩ := len1 (l := l) (by simpa using h); exact ⟨a, b, rfl⟩
theorem len3 {α : Type _} {l : List α} (h : l.length = 3) : ∃ a b c, l = [a, b, c] := by
  rcases l with _ | ⟨a, l⟩
  · simp at h
  · obtain ⟨b, c, rfl⟩ := len2 (l := l) (by simpa using h); exact ⟨a, b, c, rfl⟩
theorem all_mk {l : PySem.W.OpenLaw} {w : World} {K : PySem.W.Frag} {h : Heap} {mg : Str → Option Value} {fa p0 p1 p2 p3 p4 p5 p6 p7 p8 p9 p10 p11 p12 p13 : Addr} (X : K.In h) (G : h.Ns mainGlobals mg) (hfa : mg "law" = some (.ref fa))
    {od0 an0 od1 an1 od2 an2 od3 an3 od4 an4 od5 an5 od6 an6 od7 an7 od8 an8 od9 an9 od10 an10 od11 an11 od12 an12 od13 an13 : Option Addr} {sl0 sl1 sl2 sl3 sl4 sl5 sl6 sl7 sl8 sl9 sl10 sl11 sl12 sl13 : Array (Option Value)} {oc0 kV0 dc0 pm0 cd0 ct0 oc1 kV1 dc1 pm1 cd1 ct1 oc2 kV2 dc2 pm2 cd2 ct2 oc3 kV3 dc3 pm3 cd3 ct3 oc4 kV4 dc4 pm4 cd4 ct4 oc5 kV5 dc5 pm5 cd5 ct5 oc6 kV6 dc6 pm6 cd6 ct6 oc7 kV7 dc7 pm7 cd7 ct7 oc8 kV8 dc8 pm8 cd8 ct8 oc9 kV9 dc9 pm9 cd9 ct9 oc10 kV10 dc10 pm10 cd10 ct10 oc11 kV11 dc11 pm11 cd11 ct11 oc12 kV12 dc12 pm12 cd12 ct12 oc13 kV13 dc13 pm13 cd13 ct13 : Value}
    (a0 : PySem.W.nsIn K mainGlobals "size" = some (some (.ref p0))) (l0 : K.lookup p0 = some ⟨oc0, od0, .func (PySem.W.fnOf "size" "size" (defArgs (top 1)) (defBody (top 1)) (defScope (top 1)) .none kV0 dc0 pm0 an0 cd0 ct0), sl0⟩) (c0 : PySem.W.codeIn K cd0 "size" = true) (k0 : PySem.W.keepIn K (.ref p0) = true)
    (a1 : PySem.W.nsIn K mainGlobals "before" = some (some (.ref p1))) (l1 : K.lookup p1 = some ⟨oc1, od1, .func (PySem.W.fnOf "before" "before" (defArgs (top 2)) (defBody (top 2)) (defScope (top 2)) .none kV1 dc1 pm1 an1 cd1 ct1), sl1⟩) (c1 : PySem.W.codeIn K cd1 "before" = true) (k1 : PySem.W.keepIn K (.ref p1) = true)
    (a2 : PySem.W.nsIn K mainGlobals "after" = some (some (.ref p2))) (l2 : K.lookup p2 = some ⟨oc2, od2, .func (PySem.W.fnOf "after" "after" (defArgs (top 3)) (defBody (top 3)) (defScope (top 3)) .none kV2 dc2 pm2 an2 cd2 ct2), sl2⟩) (c2 : PySem.W.codeIn K cd2 "after" = true) (k2 : PySem.W.keepIn K (.ref p2) = true)
    (a3 : PySem.W.nsIn K mainGlobals "cost" = some (some (.ref p3))) (l3 : K.lookup p3 = some ⟨oc3, od3, .func (PySem.W.fnOf "cost" "cost" (defArgs (top 4)) (defBody (top 4)) (defScope (top 4)) .none kV3 dc3 pm3 an3 cd3 ct3), sl3⟩) (c3 : PySem.W.codeIn K cd3 "cost" = true) (k3 : PySem.W.keepIn K (.ref p3) = true)
    (a4 : PySem.W.nsIn K mainGlobals "form" = some (some (.ref p4))) (l4 : K.lookup p4 = some ⟨oc4, od4, .func (PySem.W.fnOf "form" "form" (defArgs (top 5)) (defBody (top 5)) (defScope (top 5)) .none kV4 dc4 pm4 an4 cd4 ct4), sl4⟩) (c4 : PySem.W.codeIn K cd4 "form" = true) (k4 : PySem.W.keepIn K (.ref p4) = true)
    (a5 : PySem.W.nsIn K mainGlobals "stretch" = some (some (.ref p5))) (l5 : K.lookup p5 = some ⟨oc5, od5, .func (PySem.W.fnOf "stretch" "stretch" (defArgs (top 6)) (defBody (top 6)) (defScope (top 6)) .none kV5 dc5 pm5 an5 cd5 ct5), sl5⟩) (c5 : PySem.W.codeIn K cd5 "stretch" = true) (k5 : PySem.W.keepIn K (.ref p5) = true)
    (a6 : PySem.W.nsIn K mainGlobals "_law_cell" = some (some (.ref p6))) (l6 : K.lookup p6 = some ⟨oc6, od6, .func (PySem.W.fnOf "_law_cell" "_law_cell" (defArgs (top 8)) (defBody (top 8)) (defScope (top 8)) .none kV6 dc6 pm6 an6 cd6 ct6), sl6⟩) (c6 : PySem.W.codeIn K cd6 "_law_cell" = true) (k6 : PySem.W.keepIn K (.ref p6) = true)
    (a7 : PySem.W.nsIn K mainGlobals "_law_drawn" = some (some (.ref p7))) (l7 : K.lookup p7 = some ⟨oc7, od7, .func (PySem.W.fnOf "_law_drawn" "_law_drawn" (defArgs (top 9)) (defBody (top 9)) (defScope (top 9)) .none kV7 dc7 pm7 an7 cd7 ct7), sl7⟩) (c7 : PySem.W.codeIn K cd7 "_law_drawn" = true) (k7 : PySem.W.keepIn K (.ref p7) = true)
    (a8 : PySem.W.nsIn K mainGlobals "_law_text" = some (some (.ref p8))) (l8 : K.lookup p8 = some ⟨oc8, od8, .func (PySem.W.fnOf "_law_text" "_law_text" (defArgs (top 10)) (defBody (top 10)) (defScope (top 10)) .none kV8 dc8 pm8 an8 cd8 ct8), sl8⟩) (c8 : PySem.W.codeIn K cd8 "_law_text" = true) (k8 : PySem.W.keepIn K (.ref p8) = true)
    (a9 : PySem.W.nsIn K mainGlobals "_law_change" = some (some (.ref p9))) (l9 : K.lookup p9 = some ⟨oc9, od9, .func (PySem.W.fnOf "_law_change" "_law_change" (defArgs (top 11)) (defBody (top 11)) (defScope (top 11)) .none kV9 dc9 pm9 an9 cd9 ct9), sl9⟩) (c9 : PySem.W.codeIn K cd9 "_law_change" = true) (k9 : PySem.W.keepIn K (.ref p9) = true)
    (a10 : PySem.W.nsIn K mainGlobals "_law_sense" = some (some (.ref p10))) (l10 : K.lookup p10 = some ⟨oc10, od10, .func (PySem.W.fnOf "_law_sense" "_law_sense" (defArgs (top 12)) (defBody (top 12)) (defScope (top 12)) .none kV10 dc10 pm10 an10 cd10 ct10), sl10⟩) (c10 : PySem.W.codeIn K cd10 "_law_sense" = true) (k10 : PySem.W.keepIn K (.ref p10) = true)
    (a11 : PySem.W.nsIn K mainGlobals "_law_apart" = some (some (.ref p11))) (l11 : K.lookup p11 = some ⟨oc11, od11, .func (PySem.W.fnOf "_law_apart" "_law_apart" (defArgs (top 14)) (defBody (top 14)) (defScope (top 14)) .none kV11 dc11 pm11 an11 cd11 ct11), sl11⟩) (c11 : PySem.W.codeIn K cd11 "_law_apart" = true) (k11 : PySem.W.keepIn K (.ref p11) = true)
    (a12 : PySem.W.nsIn K mainGlobals "_law_exchanged" = some (some (.ref p12))) (l12 : K.lookup p12 = some ⟨oc12, od12, .func (PySem.W.fnOf "_law_exchanged" "_law_exchanged" (defArgs (top 15)) (defBody (top 15)) (defScope (top 15)) .none kV12 dc12 pm12 an12 cd12 ct12), sl12⟩) (c12 : PySem.W.codeIn K cd12 "_law_exchanged" = true) (k12 : PySem.W.keepIn K (.ref p12) = true)
    (a13 : PySem.W.nsIn K mainGlobals "law" = some (some (.ref p13))) (l13 : K.lookup p13 = some ⟨oc13, od13, .func (PySem.W.fnOf "law" "law" (defArgs (top 16)) (defBody (top 16)) (defScope (top 16)) .none kV13 dc13 pm13 an13 cd13 ct13), sl13⟩) (c13 : PySem.W.codeIn K cd13 "law" = true) (k13 : PySem.W.keepIn K (.ref p13) = true)
    (z0 : PySem.W.nsIn K mainGlobals "len" = some none)
    (z1 : PySem.W.nsIn K mainGlobals "list" = some none)
    (z2 : PySem.W.nsIn K mainGlobals "range" = some none)
    (z3 : PySem.W.nsIn K mainGlobals "sorted" = some none)
    (z4 : PySem.W.nsIn K mainGlobals "sum" = some none)
    (z5 : PySem.W.nsIn K mainGlobals "tuple" = some none)
    {t0 : Tok} (q0 : PySem.W.nsIn K mainGlobals "__name__" = some (some (.str "law_pastways_k03_whole_forms" t0)))
    : ∃ fd : FuncData, (∀ (s : Shared) (v : Value), BindsTo s fd ⟨[v], []⟩ [("_law_script", v)]) ∧ ∀ base : Heap, K.In base → base.Ns mainGlobals mg → FnOk l.prog w K mg base CX0 60 fa fd ["_law_script"] (spF K prog 100000 60 13) := by
  have e := hfa.symm.trans (PySem.W.mg_of X G a13)
  have e2 : p13 = fa := by injection e with e; injection e with e; exact e.symm
  subst e2
  have F0 := fun_mk (st := top 1) l0 c0 k0
  have B0 := F0.binds (ps := ["part"]) fun _ _ _ _ _ _ us hl => by obtain ⟨_, rfl⟩ := len1 hl; rfl
  have F1 := fun_mk (st := top 2) l1 c1 k1
  have B1 := F1.binds (ps := ["change"]) fun _ _ _ _ _ _ us hl => by obtain ⟨_, rfl⟩ := len1 hl; rfl
  have F2 := fun_mk (st := top 3) l2 c2 k2
  have B2 := F2.binds (ps := ["change"]) fun _ _ _ _ _ _ us hl => by obtain ⟨_, rfl⟩ := len1 hl; rfl
  have F3 := fun_mk (st := top 4) l3 c3 k3
  have B3 := F3.binds (ps := ["change"]) fun _ _ _ _ _ _ us hl => by obtain ⟨_, rfl⟩ := len1 hl; rfl
  have F4 := fun_mk (st := top 5) l4 c4 k4
  have B4 := F4.binds (ps := ["change"]) fun _ _ _ _ _ _ us hl => by obtain ⟨_, rfl⟩ := len1 hl; rfl
  have F5 := fun_mk (st := top 6) l5 c5 k5
  have B5 := F5.binds (ps := ["kept", "gone", "new"]) fun _ _ _ _ _ _ us hl => by obtain ⟨_, _, _, rfl⟩ := len3 hl; rfl
  have F6 := fun_mk (st := top 8) l6 c6 k6
  have B6 := F6.binds (ps := ["_law_script", "_law_k"]) fun _ _ _ _ _ _ us hl => by obtain ⟨_, _, rfl⟩ := len2 hl; rfl
  have F7 := fun_mk (st := top 9) l7 c7 k7
  have B7 := F7.binds (ps := ["_law_script", "_law_k", "_law_many"]) fun _ _ _ _ _ _ us hl => by obtain ⟨_, _, _, rfl⟩ := len3 hl; rfl
  have F8 := fun_mk (st := top 10) l8 c8 k8
  have B8 := F8.binds (ps := ["_law_script", "_law_at", "_law_most"]) fun _ _ _ _ _ _ us hl => by obtain ⟨_, _, _, rfl⟩ := len3 hl; rfl
  have F9 := fun_mk (st := top 11) l9 c9 k9
  have B9 := F9.binds (ps := ["_law_script", "_law_at", "_law_text_here"]) fun _ _ _ _ _ _ us hl => by obtain ⟨_, _, _, rfl⟩ := len3 hl; rfl
  have F10 := fun_mk (st := top 12) l10 c10 k10
  have B10 := F10.binds (ps := ["_law_change_here"]) fun _ _ _ _ _ _ us hl => by obtain ⟨_, rfl⟩ := len1 hl; rfl
  have F11 := fun_mk (st := top 14) l11 c11 k11
  have B11 := F11.binds (ps := ["_law_change_here"]) fun _ _ _ _ _ _ us hl => by obtain ⟨_, rfl⟩ := len1 hl; rfl
  have F12 := fun_mk (st := top 15) l12 c12 k12
  have B12 := F12.binds (ps := ["_law_script", "_law_at", "_law_change_here"]) fun _ _ _ _ _ _ us hl => by obtain ⟨_, _, _, rfl⟩ := len3 hl; rfl
  have F13 := fun_mk (st := top 16) l13 c13 k13
  have B13 := F13.binds (ps := ["_law_script"]) fun _ _ _ _ _ _ us hl => by obtain ⟨_, rfl⟩ := len1 hl; rfl
  let aa : Nat → Addr := fun k => [p0, p1, p2, p3, p4, p5, p6, p7, p8, p9, p10, p11, p12, p13].getD k p0
  let dd : Nat → FuncData := fun k => [(PySem.W.fnOf "size" "size" (defArgs (top 1)) (defBody (top 1)) (defScope (top 1)) .none kV0 dc0 pm0 an0 cd0 ct0), (PySem.W.fnOf "before" "before" (defArgs (top 2)) (defBody (top 2)) (defScope (top 2)) .none kV1 dc1 pm1 an1 cd1 ct1), (PySem.W.fnOf "after" "after" (defArgs (top 3)) (defBody (top 3)) (defScope (top 3)) .none kV2 dc2 pm2 an2 cd2 ct2), (PySem.W.fnOf "cost" "cost" (defArgs (top 4)) (defBody (top 4)) (defScope (top 4)) .none kV3 dc3 pm3 an3 cd3 ct3), (PySem.W.fnOf "form" "form" (defArgs (top 5)) (defBody (top 5)) (defScope (top 5)) .none kV4 dc4 pm4 an4 cd4 ct4), (PySem.W.fnOf "stretch" "stretch" (defArgs (top 6)) (defBody (top 6)) (defScope (top 6)) .none kV5 dc5 pm5 an5 cd5 ct5), (PySem.W.fnOf "_law_cell" "_law_cell" (defArgs (top 8)) (defBody (top 8)) (defScope (top 8)) .none kV6 dc6 pm6 an6 cd6 ct6), (PySem.W.fnOf "_law_drawn" "_law_drawn" (defArgs (top 9)) (defBody (top 9)) (defScope (top 9)) .none kV7 dc7 pm7 an7 cd7 ct7), (PySem.W.fnOf "_law_text" "_law_text" (defArgs (top 10)) (defBody (top 10)) (defScope (top 10)) .none kV8 dc8 pm8 an8 cd8 ct8), (PySem.W.fnOf "_law_change" "_law_change" (defArgs (top 11)) (defBody (top 11)) (defScope (top 11)) .none kV9 dc9 pm9 an9 cd9 ct9), (PySem.W.fnOf "_law_sense" "_law_sense" (defArgs (top 12)) (defBody (top 12)) (defScope (top 12)) .none kV10 dc10 pm10 an10 cd10 ct10), (PySem.W.fnOf "_law_apart" "_law_apart" (defArgs (top 14)) (defBody (top 14)) (defScope (top 14)) .none kV11 dc11 pm11 an11 cd11 ct11), (PySem.W.fnOf "_law_exchanged" "_law_exchanged" (defArgs (top 15)) (defBody (top 15)) (defScope (top 15)) .none kV12 dc12 pm12 an12 cd12 ct12), (PySem.W.fnOf "law" "law" (defArgs (top 16)) (defBody (top 16)) (defScope (top 16)) .none kV13 dc13 pm13 an13 cd13 ct13)].getD k (PySem.W.fnOf "size" "size" (defArgs (top 1)) (defBody (top 1)) (defScope (top 1)) .none kV0 dc0 pm0 an0 cd0 ct0)
  have T : Top l.prog w K mg (tb aa dd) := by
    refine ⟨fun f i hi => ?_, ?_, ?_, ?_⟩
    · match f, hi with
      | 0, hi => obtain rfl : i0 aa dd = i := Option.some.inj hi; exact ⟨PySem.W.mg_of X G a0, k0, B0⟩
      | 1, hi => obtain rfl : i1 aa dd = i := Option.some.inj hi; exact ⟨PySem.W.mg_of X G a1, k1, B1⟩
      | 2, hi => obtain rfl : i2 aa dd = i := Option.some.inj hi; exact ⟨PySem.W.mg_of X G a2, k2, B2⟩
      | 3, hi => obtain rfl : i3 aa dd = i := Option.some.inj hi; exact ⟨PySem.W.mg_of X G a3, k3, B3⟩
      | 4, hi => obtain rfl : i4 aa dd = i := Option.some.inj hi; exact ⟨PySem.W.mg_of X G a4, k4, B4⟩
      | 5, hi => obtain rfl : i5 aa dd = i := Option.some.inj hi; exact ⟨PySem.W.mg_of X G a5, k5, B5⟩
      | 6, hi => obtain rfl : i6 aa dd = i := Option.some.inj hi; exact ⟨PySem.W.mg_of X G a6, k6, B6⟩
      | 7, hi => obtain rfl : i7 aa dd = i := Option.some.inj hi; exact ⟨PySem.W.mg_of X G a7, k7, B7⟩
      | 8, hi => obtain rfl : i8 aa dd = i := Option.some.inj hi; exact ⟨PySem.W.mg_of X G a8, k8, B8⟩
      | 9, hi => obtain rfl : i9 aa dd = i := Option.some.inj hi; exact ⟨PySem.W.mg_of X G a9, k9, B9⟩
      | 10, hi => obtain rfl : i10 aa dd = i := Option.some.inj hi; exact ⟨PySem.W.mg_of X G a10, k10, B10⟩
      | 11, hi => obtain rfl : i11 aa dd = i := Option.some.inj hi; exact ⟨PySem.W.mg_of X G a11, k11, B11⟩
      | 12, hi => obtain rfl : i12 aa dd = i := Option.some.inj hi; exact ⟨PySem.W.mg_of X G a12, k12, B12⟩
      | 13, hi => obtain rfl : i13 aa dd = i := Option.some.inj hi; exact ⟨PySem.W.mg_of X G a13, k13, B13⟩
      | j + 14, hi => exact nomatch (show (none : Option FI) = some i from hi)
    · exact (show ∀ x ∈ bls, mg x = none from List.forall_mem_cons.mpr ⟨PySem.W.mg_none_of X G z0, List.forall_mem_cons.mpr ⟨PySem.W.mg_none_of X G z1, List.forall_mem_cons.mpr ⟨PySem.W.mg_none_of X G z2, List.forall_mem_cons.mpr ⟨PySem.W.mg_none_of X G z3, List.forall_mem_cons.mpr ⟨PySem.W.mg_none_of X G z4, List.forall_mem_cons.mpr ⟨PySem.W.mg_none_of X G z5, fun _ h => nomatch h⟩⟩⟩⟩⟩⟩)
    · exact fun x d hx => (show ∀ y ∈ (tb aa dd).cs, ∃ v u, mg y.1 = some u ∧ RelV v u ∧ isC y.2 v from List.forall_mem_cons.mpr ⟨⟨.str "law_pastways_k03_whole_forms", _, PySem.W.mg_of X G q0, ⟨_, rfl⟩, ⟨by decide +kernel, by decide⟩⟩, fun _ h => nomatch h⟩) (x, d) hx
    · exact fun x d hx => (show ∀ y ∈ (tb aa dd).dk, ∃ a, mg y.1 = some (.ref a) ∧ ∀ h : Heap, K.In h → StrTab l.prog w h a (tabOf y.2) from fun _ h => nomatch h) (x, d) hx
  refine ⟨PySem.W.fnOf "law" "law" (defArgs (top 16)) (defBody (top 16)) (defScope (top 16)) .none kV13 dc13 pm13 an13 cd13 ct13, fun s v => .of_eq rfl, fun base _ _ => ?_⟩
  refine all_ok (P := l.prog) (w := w) (base := base) T (fun n A0 f i hi => ?_) 60 13 (i13 aa dd) rfl
  match f, hi with
  | 0, hi => obtain rfl : i0 aa dd = i := Option.some.inj hi; exact fn_ok (i := i0 aa dd) T A0 F0 s0 rfl rfl b0
  | 1, hi => obtain rfl : i1 aa dd = i := Option.some.inj hi; exact fn_ok (i := i1 aa dd) T A0 F1 s1 rfl rfl b1
  | 2, hi => obtain rfl : i2 aa dd = i := Option.some.inj hi; exact fn_ok (i := i2 aa dd) T A0 F2 s2 rfl rfl b2
  | 3, hi => obtain rfl : i3 aa dd = i := Option.some.inj hi; exact fn_ok (i := i3 aa dd) T A0 F3 s3 rfl rfl b3
  | 4, hi => obtain rfl : i4 aa dd = i := Option.some.inj hi; exact fn_ok (i := i4 aa dd) T A0 F4 s4 rfl rfl b4
  | 5, hi => obtain rfl : i5 aa dd = i := Option.some.inj hi; exact fn_ok (i := i5 aa dd) T A0 F5 s5 rfl rfl b5
  | 6, hi => obtain rfl : i6 aa dd = i := Option.some.inj hi; exact fn_ok (i := i6 aa dd) T A0 F6 s6 rfl rfl b6
  | 7, hi => obtain rfl : i7 aa dd = i := Option.some.inj hi; exact fn_ok (i := i7 aa dd) T A0 F7 s7 rfl rfl b7
  | 8, hi => obtain rfl : i8 aa dd = i := Option.some.inj hi; exact fn_ok (i := i8 aa dd) T A0 F8 s8 rfl rfl b8
  | 9, hi => obtain rfl : i9 aa dd = i := Option.some.inj hi; exact fn_ok (i := i9 aa dd) T A0 F9 s9 rfl rfl b9
  | 10, hi => obtain rfl : i10 aa dd = i := Option.some.inj hi; exact fn_ok (i := i10 aa dd) T A0 F10 s10 rfl rfl b10
  | 11, hi => obtain rfl : i11 aa dd = i := Option.some.inj hi; exact fn_ok (i := i11 aa dd) T A0 F11 s11 rfl rfl b11
  | 12, hi => obtain rfl : i12 aa dd = i := Option.some.inj hi; exact fn_ok (i := i12 aa dd) T A0 F12 s12 rfl rfl b12
  | 13, hi => obtain rfl : i13 aa dd = i := Option.some.inj hi; exact fn_ok (i := i13 aa dd) T A0 F13 s13 rfl rfl b13
  | j + 14, hi => exact nomatch (show (none : Option FI) = some i from hi)
end Lw
set_option Elab.async false
set_option linter.all false
namespace Lg
open Pv
open Lw (prog f11 q11_0 q11_1 q11_2 w11_0 f12 q12_0 q12_1 q12_2 w12_0 f13 q13_0 q13_1 q13_2 q13_3 q13_4 q13_5 q13_6 q13_7 q13_8 w13_0)
open Ev (deep big rep cut atI)
noncomputable def Pt.ap : Pt → List Pt
  | .keep n => List.replicate n (.keep 1)
  | .put s => s.map fun c => .put [c]
  | .drop s => s.map fun c => .drop [c]
noncomputable def aprt (c : List Pt) : List Pt := c.flatMap Pt.ap
theorem aprt_snoc (p : List Pt) (x : Pt) : aprt (p ++ [x]) = aprt p ++ Pt.ap x := by simp [aprt]
theorem ap_tot (p : Pt) : tot (Pt.ap p) = p.n ∧ (Pt.ap p).length = p.n := by
  cases p with
  | keep n => simp [Pt.ap, tot, Pt.n]
  | put s => simp only [Pt.ap, tot, Pt.n, List.map_map, List.length_map, and_true]; induction s <;> simp_all [Pt.n, Nat.add_comm]
  | drop s => simp only [Pt.ap, tot, Pt.n, List.map_map, List.length_map, and_true]; induction s <;> simp_all [Pt.n, Nat.add_comm]
theorem aprt_tot (c : List Pt) : tot (aprt c) = tot c ∧ (aprt c).length = tot c := by
  induction c with
  | nil => simp [aprt, tot]
  | cons p c ih =>
    have e : aprt (p :: c) = Pt.ap p ++ aprt c := by simp [aprt]
    have h := ap_tot p
    rw [e, tot_app, List.length_append, tot_cons]
    omega
theorem ap_asks (p : Pt) : asks (Pt.ap p) = p.asks := by
  cases p with
  | keep n => simp only [Pt.ap, asks, Pt.asks]; induction n <;> simp_all [List.replicate_succ, Pt.asks]
  | put s => simp [Pt.ap, asks, Pt.asks, List.flatMap]
  | drop s => simp only [Pt.ap, asks, Pt.asks]; induction s <;> simp_all [Pt.asks]
theorem ap_told (p : Pt) : ∀ k, told k (Pt.ap p) = p.told k := by
  cases p with
  | keep n =>
    simp only [Pt.ap, Pt.told]
    induction n with
    | zero => intro k; rfl
    | succ n ih =>
      intro k
      simp only [List.replicate_succ, told, ih, Pt.told, Pt.asks, List.range_succ_eq_map, List.map_cons, List.map_map]
      simp [Function.comp_def, Nat.add_assoc, Nat.add_comm 1]
  | put s => intro k; simp only [Pt.ap, Pt.told]; induction s generalizing k <;> simp_all [told, Pt.told]
  | drop s => intro k; simp only [Pt.ap, Pt.told]; induction s generalizing k <;> simp_all [told, Pt.told]
theorem aprt_asks (c : List Pt) : asks (aprt c) = asks c := by
  induction c with
  | nil => rfl
  | cons p c ih =>
    have e : aprt (p :: c) = Pt.ap p ++ aprt c := by simp [aprt]
    rw [e, asks_app, ap_asks, ih]; simp [asks]
theorem aprt_told (c : List Pt) : ∀ k, told k (aprt c) = told k c := by
  induction c with
  | nil => intro k; rfl
  | cons p c ih =>
    intro k
    have e : aprt (p :: c) = Pt.ap p ++ aprt c := by simp [aprt]
    rw [e, told_app, ap_told, ap_asks, ih, told]
theorem aprt_sense (c : List Pt) : sense (aprt c) = sense c := by simp [sense, aprt_asks, aprt_told]
noncomputable def pd : Pt → Pt → Bool
  | .put _, .drop _ => true
  | .drop _, .put _ => true
  | _, _ => false
theorem swap_sense (a b : List Pt) (p q : Pt) (h : pd p q = true) : sense (a ++ [q, p] ++ b) = sense (a ++ [p, q] ++ b) := by
  have h1 : asks [q, p] = asks [p, q] := by cases p <;> cases q <;> simp [pd] at h <;> simp [asks, Pt.asks]
  have h2 : ∀ k, told k [q, p] = told k [p, q] := fun k => by cases p <;> cases q <;> simp [pd] at h <;> simp [told, Pt.told, Pt.asks]
  simp only [sense, asks_app, told_app, h1, h2]
variable {w n : Nat} {ns : List Int} (hn : ns.length ≤ 63)
theorem run_apart (c : List Pt) (h1 : tot c ≤ 1000) : run prog w (n + 1) 11 [.val (chV c)] = some (chV (aprt c), []) := by
  refine run_wp (fn := f11) rfl rfl ?_
  simp only [f11]
  simp [q11_0]
  simp [q11_1, chV]
  refine wp_forM (e := Pt.v) (fun p l fr => p ++ l = c ∧ ∃ a b, vo a ∧ vo b ∧ fr = [some (.val (chV c)), some (.val (chV (aprt p))), a, b, none]) (fun p x l fr ⟨hpl, a, b, ha, hb, hfr⟩ => ?_) (fun p fr ⟨hpl, a, b, ha, hb, hfr⟩ => ?_) c [] _ ⟨rfl, none, none, .none, .none, by simp [aprt, chV]⟩
  · subst hfr
    have htot : tot p + x.n + tot l = tot c := by rw [← hpl, tot_app, tot_cons]; omega
    have lp := (aprt_tot p).2
    have lx := (ap_tot x).2
    have ad := addch (a := aprt p) (b := Pt.ap x) (by omega)
    rw [← aprt_snoc] at ad
    cases x with
    | keep k =>
      have hk : k ≤ tot c := by simp only [Pt.n] at htot; omega
      have ml := bop_mult (x := [V.tup [.str kKeep, .int 1]]) (j := (k : Int)) (by omega) (by omega) (by simp)
      have er : V.tup (rep (k : Int).toNat [V.tup [.str kKeep, .int 1]]) = chV (Pt.ap (.keep k)) := by
        rw [rep_one]; simp [chV, Pt.ap, Pt.v]
      rw [er] at ml
      simp only [kKeep] at ml
      simp [turnF, Pt.v, slP_vo ha, slP_vo hb, w11_0, kKeep, ml, ad, hpl]
    | put s =>
      have hs : s.length ≤ tot c := by simp only [Pt.n] at htot; omega
      have hc : compL (turnC (run prog w n) (.tup (.cons (.v 2) (.cons (.v 4) .nil))) (.one 4) .no [some (.val (chV c)), some (.val (chV (aprt p))), some (.val (.str kPut)), some (.val (.str s)), none]) (s.map fun c => V.str [c]) = some ((Pt.ap (.put s)).map Pt.v) := by
        rw [show (Pt.ap (.put s)).map Pt.v = s.map fun c => V.tup [.str kPut, .str [c]] by simp [Pt.ap, Pt.v]]
        exact compL_map _ _ _ fun d _ => by simp [turnC]
      have mk := mkL_le (x := (Pt.ap (.put s)).map Pt.v) (le_big (by simp [Pt.ap]; omega))
      have mt := mkT_le (x := (Pt.ap (.put s)).map Pt.v) (le_big (by simp [Pt.ap]; omega))
      simp only [kPut] at hc
      simp only [chV] at ad hc
      simp [turnF, Pt.v, slP_vo ha, slP_vo hb, w11_0, kPut, chV]
      rw [hc]
      simp only [Option.bind, mk, of_some, wp_ok, toT_lst, mt, ad]
      simp [hpl, chV]
    | drop s =>
      have hs : s.length ≤ tot c := by simp only [Pt.n] at htot; omega
      have hc : compL (turnC (run prog w n) (.tup (.cons (.v 2) (.cons (.v 4) .nil))) (.one 4) .no [some (.val (chV c)), some (.val (chV (aprt p))), some (.val (.str kDrop)), some (.val (.str s)), none]) (s.map fun c => V.str [c]) = some ((Pt.ap (.drop s)).map Pt.v) := by
        rw [show (Pt.ap (.drop s)).map Pt.v = s.map fun c => V.tup [.str kDrop, .str [c]] by simp [Pt.ap, Pt.v]]
        exact compL_map _ _ _ fun d _ => by simp [turnC]
      have mk := mkL_le (x := (Pt.ap (.drop s)).map Pt.v) (le_big (by simp [Pt.ap]; omega))
      have mt := mkT_le (x := (Pt.ap (.drop s)).map Pt.v) (le_big (by simp [Pt.ap]; omega))
      simp only [kDrop] at hc
      simp only [chV] at ad hc
      simp [turnF, Pt.v, slP_vo ha, slP_vo hb, w11_0, kDrop, chV]
      rw [hc]
      simp only [Option.bind, mk, of_some, wp_ok, toT_lst, mt, ad]
      simp [hpl, chV]
  · subst hfr
    simp at hpl
    subst hpl
    simp [q11_2, shut_vo ha, shut_vo hb, chV]
theorem set_own {i : Nat} {l d : List V} {fr : Fr} {a c : Int} (h0 : 0 ≤ a) (h1 : a ≤ c) (h2 : c ≤ l.length) (h3 : l.length + d.length ≤ 100000) : slC .setsl i [.lst d, .int a, .int c] fr (some (some (.own l))) = .ok .non (fr.set i (some (.own (l.take a.toNat ++ d ++ l.drop c.toNat)))) := by
  simp [slC, mtf, setslF, asL, asI, h0, h1, h2, le_big h3]
@[simp] theorem ev_setsl {P : Phi} {k : Bool} {es : Ev.Es} {fr : Fr} {i : Nat} : ev P k (.me .setsl (.v i) es) fr = if (lent fr i).isSome then (evs P false es fr).bind (chgS .setsl i) else .bad := ev_meM rfl
theorem srt (a b : List Nat) : bfn .sorted [.lst [.str a, .str b]] = some (.lst ((Ev.sortS [a, b]).map V.str)) := by
  have h : ((Ev.sortS [a, b]).map V.str).length = 2 := by simp only [Ev.sortS, Ev.insS]; split <;> rfl
  delta bfn; dsimp only; simp [lOf, strsOf, mkL_le (x := (Ev.sortS [a, b]).map V.str) (by rw [h]; decide)]
theorem set_two (a b : List Pt) (p q p' q' : Pt) : ((a ++ [p, q] ++ b).map Pt.v).take a.length ++ [q', p'].map Pt.v ++ ((a ++ [p, q] ++ b).map Pt.v).drop (a.length + 2) = (a ++ [q', p'] ++ b).map Pt.v := by
  simp [List.take_append_of_le_length, List.drop_append]
theorem two_of {α : Type} (l : List α) (k : Nat) (h : k + 1 < l.length) : ∃ a p q b, l = a ++ [p, q] ++ b ∧ a.length = k := by
  refine ⟨l.take k, l[k], l[k + 1], l.drop (k + 2), ?_, by simp; omega⟩
  have h1 : l = l.take k ++ l.drop k := (List.take_append_drop k l).symm
  rw [List.drop_eq_getElem_cons (by omega), List.drop_eq_getElem_cons (by omega)] at h1
  simpa using h1
theorem v_word (p : Pt) : ∃ y, p.v = .tup [.str p.word, y] := by cases p <;> exact ⟨_, rfl⟩
theorem sort_pd (p q : Pt) : veq deep (.lst ((Ev.sortS [p.word, q.word]).map V.str)) (.lst [.str kDrop, .str kPut]) = some (pd p q) := by
  cases p <;> cases q <;> simp [Pt.word, kKeep, kPut, kDrop, Ev.sortS, Ev.insS, Ev.lexLe, pd]
include hn
theorem run_exch (at_ : Int) (c : List Pt) (h1 : c.length ≤ 1000) : ∃ c', run prog w (n + 3) 12 [.val (scr ns), .val (.int at_), .val (chV c)] = some (chV c', []) ∧ sense c' = sense c ∧ c'.length = c.length ∧ tot c' = tot c := by
  suffices h : ∃ c', (sense c' = sense c ∧ c'.length = c.length ∧ tot c' = tot c) ∧ run prog w (n + 3) 12 [.val (scr ns), .val (.int at_), .val (chV c)] = some (chV c', []) by
    obtain ⟨c', h, e⟩ := h; exact ⟨c', e, h⟩
  have rg : ∃ k : Nat, k ≤ 1000 ∧ k = c.length - 1 ∧ rngOf [.int ((c.length : Int) - 1)] = some (range 0 k) := by
    refine ⟨c.length - 1, by omega, rfl, ?_⟩
    by_cases h0 : c.length = 0
    · rw [h0]; rfl
    · exact rngN (by omega) (by omega)
  obtain ⟨N, hN, hN2, rg⟩ := rg
  have mk := mkL_le (x := c.map Pt.v) (le_big (by simp; omega))
  have key : Wp (exs (run prog w (n + 2)) w f12.body (fr0 f12 [.val (scr ns), .val (.int at_), .val (chV c)])) fun g fr => ∃ c', (sense c' = sense c ∧ c'.length = c.length ∧ tot c' = tot c) ∧ g = .ret (chV c') ∧ outs f12.np fr = [] := by
    simp only [f12]
    simp [q12_0, chV, mk]
    simp [q12_1, rg]
    refine wp_forR (fun k fr => ∃ c' a b, (sense c' = sense c ∧ c'.length = c.length ∧ tot c' = tot c) ∧ vo a ∧ vo b ∧ fr = [some (.val (scr ns)), some (.val (.int at_)), some (.val (chV c)), some (.own (c'.map Pt.v)), a, b]) (fun k fr hk ⟨c', a, b, hc', ha, hb, hfr⟩ => ?_) (fun fr ⟨c', a, b, hc', ha, hb, hfr⟩ => ?_) ⟨c, none, none, ⟨rfl, rfl, rfl⟩, .none, .none, by simp [chV]⟩
    · subst hfr
      obtain ⟨x, p, q, y, rfl, hx⟩ := two_of c' k (by omega)
      obtain ⟨yp, hp⟩ := v_word p
      obtain ⟨yq, hq⟩ := v_word q
      have e1 : ((x ++ [p, q] ++ y).map Pt.v)[k]? = some p.v := by simp [← hx]
      have e2 : atI ((x ++ [p, q] ++ y).map Pt.v) ((k : Int) + 1) = some q.v := by
        rw [atI_nn (by omega), show ((k : Int) + 1).toNat = k + 1 by omega]
        simp [← hx, List.getElem?_append]
      have sp := sort_pd p q
      have so := srt p.word q.word
      have d1 := fun fr => call3 (fr := fr) (run_drawn (w := w) (n := n) (F := prog) (c := 6) (dr := 7) rfl rfl hn (at_ + k) (many := 2) (by decide))
      have cu : cut ((x ++ [p, q] ++ y).map Pt.v) (some (k : Int)) (some ((k : Int) + 2)) = [p.v, q.v] := by
        rw [show ((k : Int) + 2) = (k : Int) + ((2 : Nat) : Int) from rfl, cut_nn]; simp [← hx]
      have se := fun fr => set_own (fr := fr) (i := 3) (l := (x ++ [p, q] ++ y).map Pt.v) (d := [q.v, p.v]) (a := (k : Int)) (c := (k : Int) + 2) (by omega) (by omega) (by simp; omega) (by simp at hc' ⊢; omega)
      have st := set_two x y p q p q
      rw [show ((k : Int)).toNat = x.length by omega, show ((k : Int) + 2).toNat = x.length + 2 by omega] at se
      simp only [List.map_cons, List.map_nil] at st
      simp only [st] at se
      have sw := swap_sense x y p q
      generalize hL : (x ++ [p, q] ++ y) = L at *
      rw [hp] at e1
      rw [hq] at e2
      cases hpd : pd p q with
      | false =>
        rw [hpd] at sp
        simp only [kDrop, kPut] at sp
        simp [turnF, slP_vo ha, slP_vo hb, w12_0, e1, e2, so, sp]
        exact ⟨L, hc', _, .val, _, .val, rfl, rfl, rfl⟩
      | true =>
        rw [hpd] at sp
        simp only [kDrop, kPut] at sp
        by_cases hd : drw ns (at_ + k) 2 = 0
        · simp [turnF, slP_vo ha, slP_vo hb, w12_0, e1, e2, so, sp, d1, hd, cu, se]
          refine ⟨x ++ [q, p] ++ y, ⟨(sw hpd).trans hc'.1, ?_, ?_⟩, _, .val, _, .val, by simp, rfl, rfl⟩
          · rw [← hc'.2.1, ← hL]; simp
          · rw [← hc'.2.2, ← hL]; simp only [tot_app, tot_cons]; omega
        · simp [turnF, slP_vo ha, slP_vo hb, w12_0, e1, e2, so, sp, d1, hd]
          exact ⟨L, hc', _, .val, _, .val, rfl, rfl, rfl⟩
    · subst hfr
      have mt := mkT_le (x := c'.map Pt.v) (le_big (by simp; omega))
      simp [q12_2, mt, shut_vo ha, shut_vo hb]
      exact ⟨c', hc', rfl⟩
  obtain ⟨g, fr, e, c', hc', rfl, ho⟩ := key
  refine ⟨c', hc', ?_⟩
  rw [run_eq (fn := f12) rfl rfl, e]
  simp [ho]
omit hn in
theorem gd_of {x c : List Pt} (h : form x = form c) : bef x = bef (form c) ∧ aft x = aft (form c) ∧ cst x = cst (form c) := by
  rw [← h, bef_form, aft_form, cst_form]; exact ⟨rfl, rfl, rfl⟩
theorem law_ok : run prog w (n + 9) 13 [.val (scr ns)] = some (.bl true, []) := by
  refine run_wp (fn := f13) rfl rfl ?_
  have ht := txt_len ns 0 (most := 6) (by decide)
  obtain ⟨t, htt⟩ : ∃ t, txt ns 0 6 = t := ⟨_, rfl⟩
  have c8 := fun fr => call3 (fr := fr) (run_text (F := prog) (c := 6) (dr := 7) (t := 8) (w := w) (n := n + 5) rfl rfl hn rfl 0 6 (by decide) (by decide))
  rw [htt] at c8 ht
  have ht' : t.length ≤ 6 := ht
  have c9 := fun fr => call3 (fr := fr) (run_change (F := prog) (c := 6) (dr := 7) (t := 9) (w := w) (n := n + 5) rfl rfl hn rfl 10 t (by omega))
  have c9' := fun fr => call3 (fr := fr) (run_change (F := prog) (c := 6) (dr := 7) (t := 9) (w := w) (n := n + 5) rfl rfl hn rfl 120 t (by omega))
  have lc := chgTo_len ns 10 t (t.length + 1)
  have tc := chgTo_tot ns 10 t (t.length + 1)
  have lc2 := chgTo_len ns 120 t (t.length + 1)
  have tc2 := chgTo_tot ns 120 t (t.length + 1)
  obtain ⟨c, hc⟩ : ∃ c, chg ns 10 t = c := ⟨_, rfl⟩
  obtain ⟨o, ho⟩ : ∃ o, chg ns 120 t = o := ⟨_, rfl⟩
  have lc' : c.length ≤ 14 := by rw [← hc]; simp only [chg]; omega
  have tc' : tot c ≤ 21 := by rw [← hc]; simp only [chg]; omega
  have lo' : o.length ≤ 14 := by rw [← ho]; simp only [chg]; omega
  have to' : tot o ≤ 21 := by rw [← ho]; simp only [chg]; omega
  rw [hc] at c9
  rw [ho] at c9'
  have fl := form_len c
  have ft := tot_form c
  have flo := form_len o
  have fto := tot_form o
  have frm := fun (x : List Pt) (h1 : x.length ≤ 100) (h2 : tot x ≤ 100) fr => call1 (fr := fr) (run_form (F := prog) (i_stretch := 5) (i := 4) (w := w) (n := n + 6) rfl rfl x (by omega) (by omega))
  have g1 := frm c (by omega) (by omega)
  have g2 := frm o (by omega) (by omega)
  have a1 := fun fr => call1 (fr := fr) (run_apart (w := w) (n := n + 7) c (by omega))
  have a2 := fun fr => call1 (fr := fr) (run_apart (w := w) (n := n + 7) (form c) (by omega))
  have at1 := aprt_tot c
  have at2 := aprt_tot (form c)
  obtain ⟨x1, e1, s1, l1, t1⟩ := run_exch (w := w) (n := n + 5) hn 60 (aprt c) (by omega)
  obtain ⟨x2, e2, s2, l2, t2⟩ := run_exch (w := w) (n := n + 5) hn 60 x1 (by omega)
  obtain ⟨x3, e3, s3, l3, t3⟩ := run_exch (w := w) (n := n + 5) hn 90 (aprt (form c)) (by omega)
  have k1 := fun fr => call3 (fr := fr) e1
  have k2 := fun fr => call3 (fr := fr) e2
  have k3 := fun fr => call3 (fr := fr) e3
  simp only [f13]
  simp [q13_0, q13_1, q13_2, q13_3, q13_4, c8, c9, g1, a1, k1, k2]
  simp [q13_5, a2, k3, -forL_cons]
  have all : ∀ x ∈ [form c, aprt c, x2, aprt (form c), x3], form x = form c ∧ x.length ≤ 100 ∧ tot x ≤ 100 := by
    intro x hx
    simp only [List.mem_cons, List.not_mem_nil, or_false] at hx
    rcases hx with rfl | rfl | rfl | rfl | rfl
    · exact ⟨form_form c, by omega, by omega⟩
    · exact ⟨(form_iff _ _).mpr (aprt_sense c), by omega, by omega⟩
    · exact ⟨(form_iff _ _).mpr (s2.trans (s1.trans (aprt_sense c))), by omega, by omega⟩
    · exact ⟨(form_iff _ _).mpr ((aprt_sense _).trans (sense_form c)), by omega, by omega⟩
    · exact ⟨(form_iff _ _).mpr (s3.trans ((aprt_sense _).trans (sense_form c))), by omega, by omega⟩
  have el : [chV (form c), chV (aprt c), chV x2, chV (aprt (form c)), chV x3] = [form c, aprt c, x2, aprt (form c), x3].map chV := rfl
  rw [el]
  generalize [form c, aprt c, x2, aprt (form c), x3] = xs at all
  refine wp_forM (e := chV) (fun p l fr => (∀ x ∈ l, form x = form c ∧ x.length ≤ 100 ∧ tot x ≤ 100) ∧ ∃ a b, vo a ∧ vo b ∧ fr = [some (.val (scr ns)), some (.val (.str t)), some (.val (chV c)), some (.val (chV (form c))), some (.val (chV (aprt c))), some (.val (chV x2)), a, b, none]) (fun p x l fr ⟨hl, a, b, ha, hb, hfr⟩ => ?_) (fun p fr ⟨hl, a, b, ha, hb, hfr⟩ => ?_) xs [] _ ⟨all, none, none, .none, .none, rfl⟩
  · subst hfr
    obtain ⟨hx, lx, tx⟩ := hl x (by simp)
    have rest : ∀ x ∈ l, form x = form c ∧ x.length ≤ 100 ∧ tot x ≤ 100 := fun y hy => hl y (by simp [hy])
    have hg := gd_of hx
    have gx := frm x lx tx
    rw [hx] at gx
    have b1 := fun fr => call1 (fr := fr) (run_before (F := prog) (i_size := 0) (i := 1) (w := w) (n := n + 6) rfl rfl x (by omega) (by omega))
    have b2 := fun fr => call1 (fr := fr) (run_after (F := prog) (i_size := 0) (i := 2) (w := w) (n := n + 6) rfl rfl x (by omega) (by omega))
    have b3 := fun fr => call1 (fr := fr) (run_cost (F := prog) (i_size := 0) (i := 3) (w := w) (n := n + 6) rfl rfl x (by omega) (by omega))
    have d1 := fun fr => call1 (fr := fr) (run_before (F := prog) (i_size := 0) (i := 1) (w := w) (n := n + 6) rfl rfl (form c) (by omega) (by omega))
    have d2 := fun fr => call1 (fr := fr) (run_after (F := prog) (i_size := 0) (i := 2) (w := w) (n := n + 6) rfl rfl (form c) (by omega) (by omega))
    have d3 := fun fr => call1 (fr := fr) (run_cost (F := prog) (i_size := 0) (i := 3) (w := w) (n := n + 6) rfl rfl (form c) (by omega) (by omega))
    rw [hg.1] at b1
    rw [hg.2.1] at b2
    rw [hg.2.2] at b3
    simp [turnF, slP_vo ha, slP_vo hb, w13_0, b1, b2, b3, gx, veq_ch, d1, d2, d3]
    exact rest
  · subst hfr
    have n1 := fun fr => call1 (fr := fr) (run_sense (F := prog) (i := 10) (w := w) (n := n + 7) rfl (form o) (by omega))
    have n2 := fun fr => call1 (fr := fr) (run_sense (F := prog) (i := 10) (w := w) (n := n + 7) rfl (form c) (by omega))
    have n3 := fun fr => call1 (fr := fr) (run_sense (F := prog) (i := 10) (w := w) (n := n + 7) rfl o (by omega))
    have n4 := fun fr => call1 (fr := fr) (run_sense (F := prog) (i := 10) (w := w) (n := n + 7) rfl c (by omega))
    have i1 : decide (form o = form c) = decide (sense (form o) = sense (form c)) := by
      rw [sense_form, sense_form]; simp only [form_iff]
    have i2 : decide (form o = form c) = decide (sense o = sense c) := by simp only [form_iff]
    have vs : ∀ x y : List Pt, veq deep (senV x) (senV y) = some (decide (sense x = sense y)) := veq_sen
    simp [q13_6, c9']
    simp [q13_7, g2, n1, n2, veq_ch, vs, ← i1]
    simp [q13_8, g2, n3, n4, veq_ch, vs, ← i2, shut_vo ha, shut_vo hb]
omit hn in
theorem good : ∀ ns : List Int, ns.length ≤ 63 → ∃ h', Ev.run prog 100000 60 13 [.ref 0] [.frz (ns.map Ev.D.int)] = .ok (.bl true) h' := fun ns h => good_of (law_ok (w := 100000) (n := 51) h)
end Lg
theorem Lw.good : ∀ ns : List Int, ns.length ≤ 63 → ∃ h', Ev.run Lw.prog 100000 60 13 [.ref 0] [.frz (ns.map Ev.D.int)] = .ok (.bl true) h' := Lg.good
open PySem PySem.W PyProof.Rows
set_option maxRecDepth 100000 in
set_option maxHeartbeats 0 in
theorem PySem.Challenge.cw_pastways_k03_whole_forms_holds : PySem.Challenge.rw_pastways_k03_whole_forms.Holds := by
  w_on; o_law; k_head; (case hw => w_witness2)
  k_fill
  refine Sm.walk_ev (F := Lw.prog) (wh := 100000) (n := 60) (f := 13) (x := "_law_script") (l := PySem.Challenge.rw_pastways_k03_whole_forms) rfl rfl ⟨rfl, by decide, by decide⟩ (fun w h Y => PySem.W.kIn_of Y) Lw.good ?F
  case F =>
    intro w mg fa h KX G hmg
    refine' Lw.all_mk KX G hmg ?a0 ?l0 ?c0 ?k0 ?a1 ?l1 ?c1 ?k1 ?a2 ?l2 ?c2 ?k2 ?a3 ?l3 ?c3 ?k3 ?a4 ?l4 ?c4 ?k4 ?a5 ?l5 ?c5 ?k5 ?a6 ?l6 ?c6 ?k6 ?a7 ?l7 ?c7 ?k7 ?a8 ?l8 ?c8 ?k8 ?a9 ?l9 ?c9 ?k9 ?a10 ?l10 ?c10 ?k10 ?a11 ?l11 ?c11 ?k11 ?a12 ?l12 ?c12 ?k12 ?a13 ?l13 ?c13 ?k13 ?z0 ?z1 ?z2 ?z3 ?z4 ?z5 ?q0
    (case a0 => k_is)
    (case l0 => k_is)
    (case c0 => k_is)
    (case k0 => k_is)
    (case a1 => k_is)
    (case l1 => k_is)
    (case c1 => k_is)
    (case k1 => k_is)
    (case a2 => k_is)
    (case l2 => k_is)
    (case c2 => k_is)
    (case k2 => k_is)
    (case a3 => k_is)
    (case l3 => k_is)
    (case c3 => k_is)
    (case k3 => k_is)
    (case a4 => k_is)
    (case l4 => k_is)
    (case c4 => k_is)
    (case k4 => k_is)
    (case a5 => k_is)
    (case l5 => k_is)
    (case c5 => k_is)
    (case k5 => k_is)
    (case a6 => k_is)
    (case l6 => k_is)
    (case c6 => k_is)
    (case k6 => k_is)
    (case a7 => k_is)
    (case l7 => k_is)
    (case c7 => k_is)
    (case k7 => k_is)
    (case a8 => k_is)
    (case l8 => k_is)
    (case c8 => k_is)
    (case k8 => k_is)
    (case a9 => k_is)
    (case l9 => k_is)
    (case c9 => k_is)
    (case k9 => k_is)
    (case a10 => k_is)
    (case l10 => k_is)
    (case c10 => k_is)
    (case k10 => k_is)
    (case a11 => k_is)
    (case l11 => k_is)
    (case c11 => k_is)
    (case k11 => k_is)
    (case a12 => k_is)
    (case l12 => k_is)
    (case c12 => k_is)
    (case k12 => k_is)
    (case a13 => k_is)
    (case l13 => k_is)
    (case c13 => k_is)
    (case k13 => k_is)
    (case z0 => k_is)
    (case z1 => k_is)
    (case z2 => k_is)
    (case z3 => k_is)
    (case z4 => k_is)
    (case z5 => k_is)
    (case q0 => k_is)

import PyProof.Rows.All
import Wide.All
import OpenK.AllK
import Wide.FinOn
import HandS.ForMost
import HandS.TupAny
import HandS.Flow
import HandS.IsInst
import HandS.Walk
import HandS.TupSets
import HandS.TupLe
import HandS.Zip
import KE.GoesEnum
import HandS.Conv
import HandS.SortInts
import HandS.NamedTupSort
import KE.DataCmp
import HandS.Style
import HandS.Deep
import HandS.Gcd
import KE.SortCalls
import HandS.Sort
import HandS.SetBool
import HandS.Strs
import HandS.Comp
import HandS.ForExc
import Open.SpecLaws
import KE.OsGo
import HandS.ForSpec
import KE.KExcIs
import KE.KIsAll
import PyProof.TupleCall
import PyProof.EqAt
import PyProof.EqKinds
import KE.DataMinMax
import PyProof.TupleOfSeq
import PySem.Challenge.RW_heardagain_k14_normal_forms
set_option Elab.async false
set_option linter.all false
set_option maxRecDepth 100000
set_option maxHeartbeats 8000000
namespace Qz
open PySem PySem.Spec L2
open PyProof.Rows hiding St

abbrev D := PyData
def keyD : Key → D
  | .inl i => .int i
  | .inr x => .str x

/-! ## what a value stands for, in the part of the heap that stays -/
section
variable (K : PySem.W.Frag) (F : Hp)
mutual
def Rep : D → V → Prop
  | .none, v => v = .non
  | .bool b, v => v = .bl b
  | .int i, v => v = .int i
  | .str s, v => v = .str s
  | .list ds, v => ∃ a xs, v = .ref a ∧ SqL K F a xs ∧ RepL ds xs
  | .tuple ds, v => ∃ a xs, v = .ref a ∧ F a = some (.tup xs) ∧ RepL ds xs
  | .dict kvs, v => ∃ a ys, v = .ref a ∧ F a = some (.dK ys) ∧ RepD kvs ys
def RepL : List D → List V → Prop
  | [], xs => xs = []
  | d :: ds, xs => ∃ x r, xs = x :: r ∧ Rep d x ∧ RepL ds r
def RepD : List (D × D) → List (Key × V) → Prop
  | [], ys => ys = []
  | (k, d) :: r, ys => ∃ key x r', ys = (key, x) :: r' ∧ k = keyD key ∧ Rep d x ∧ RepD r r'
end
/-- a dict by its keys -/
def RepM {κ : Type} : List (κ × D) → List (κ × V) → Prop
  | [], ys => ys = []
  | (k, d) :: r, ys => ∃ x r', ys = (k, x) :: r' ∧ Rep K F d x ∧ RepM r r'
abbrev RepK (kvs : List (Key × D)) (ys : List (Key × V)) : Prop := RepM K F kvs ys
abbrev RepT (kvs : List (List Key × D)) (ys : List (List Key × V)) : Prop := RepM K F kvs ys
end
theorem same_seqT {K : PySem.W.Frag} {H H' : Hp} {a : Addr} {xs : List V} (e : Same H H') (h : SqT K H a xs) : SqT K H' a xs := by
  rcases h with (h | ⟨o, h⟩) | h
  · exact .inl (.inl (e _ _ h))
  · exact .inl (.inr ⟨o, e _ _ h⟩)
  · exact .inr h
section
variable {K : PySem.W.Frag} {F G : Hp}
mutual
theorem Rep.mono (e : Same F G) : ∀ (d : D) (v : V), Rep K F d v → Rep K G d v
  | .none, _, h => by simpa only [Rep] using h
  | .bool _, _, h => by simpa only [Rep] using h
  | .int _, _, h => by simpa only [Rep] using h
  | .str _, _, h => by simpa only [Rep] using h
  | .list ds, _, h => by
    simp only [Rep] at h ⊢
    obtain ⟨a, xs, e1, h1, h2⟩ := h
    exact ⟨a, xs, e1, e.seq h1, RepL.mono e ds xs h2⟩
  | .tuple ds, _, h => by
    simp only [Rep] at h ⊢
    obtain ⟨a, xs, e1, h1, h2⟩ := h
    exact ⟨a, xs, e1, e _ _ h1, RepL.mono e ds xs h2⟩
  | .dict kvs, _, h => by
    simp only [Rep] at h ⊢
    obtain ⟨a, ys, e1, h1, h2⟩ := h
    exact ⟨a, ys, e1, e _ _ h1, RepD.mono e kvs ys h2⟩
theorem RepL.mono (e : Same F G) : ∀ (ds : List D) (xs : List V), RepL K F ds xs → RepL K G ds xs
  | [], _, h => by simpa only [RepL] using h
  | d :: ds, _, h => by
    simp only [RepL] at h ⊢
    obtain ⟨x, r, e1, h1, h2⟩ := h
    exact ⟨x, r, e1, Rep.mono e d x h1, RepL.mono e ds r h2⟩
theorem RepD.mono (e : Same F G) : ∀ (ds : List (D × D)) (xs : List (Key × V)), RepD K F ds xs → RepD K G ds xs
  | [], _, h => by simpa only [RepD] using h
  | (k, d) :: ds, _, h => by
    simp only [RepD] at h ⊢
    obtain ⟨key, x, r, e1, ek, h1, h2⟩ := h
    exact ⟨key, x, r, e1, ek, Rep.mono e d x h1, RepD.mono e ds r h2⟩
end
theorem RepM.mono {κ : Type} (e : Same F G) : ∀ (ds : List (κ × D)) (xs : List (κ × V)), RepM K F ds xs → RepM K G ds xs
  | [], _, h => h
  | (k, d) :: ds, _, ⟨x, r, e1, h1, h2⟩ => ⟨x, r, e1, Rep.mono e d x h1, RepM.mono e ds r h2⟩
theorem RepK.mono (e : Same F G) (ds : List (Key × D)) (xs : List (Key × V)) (h : RepK K F ds xs) : RepK K G ds xs := RepM.mono e ds xs h
theorem RepT.mono (e : Same F G) (ds : List (List Key × D)) (xs : List (List Key × V)) (h : RepT K F ds xs) : RepT K G ds xs := RepM.mono e ds xs h
theorem RepK.dict : ∀ (ds : List (Key × D)) (xs : List (Key × V)), RepK K F ds xs → RepD K F (ds.map fun p => (keyD p.1, p.2)) xs
  | [], _, h => by simpa [RepD, RepM] using h
  | (k, d) :: ds, _, ⟨x, r, e1, h1, h2⟩ => by
    simp only [List.map_cons, RepD]
    exact ⟨k, x, r, e1, rfl, h1, RepK.dict ds r h2⟩
theorem RepL.length : ∀ (ds : List D) (xs : List V), RepL K F ds xs → ds.length = xs.length
  | [], _, h => by simp only [RepL] at h; subst h; rfl
  | d :: ds, _, h => by
    simp only [RepL] at h
    obtain ⟨x, r, rfl, _, h2⟩ := h
    simp [RepL.length ds r h2]
theorem RepL.nil : RepL K F [] [] := by simp only [RepL]
theorem RepL.cons {d : D} {x : V} {ds : List D} {xs : List V} (h : Rep K F d x) (r : RepL K F ds xs) : RepL K F (d :: ds) (x :: xs) := by
  simp only [RepL]
  exact ⟨x, xs, rfl, h, r⟩
theorem RepL.append : ∀ (ds : List D) (xs : List V) {es : List D} {ys : List V}, RepL K F ds xs → RepL K F es ys → RepL K F (ds ++ es) (xs ++ ys)
  | [], _, _, _, h, r => by simp only [RepL] at h; subst h; exact r
  | d :: ds, _, _, _, h, r => by
    simp only [RepL] at h
    obtain ⟨x, q, rfl, h1, h2⟩ := h
    exact .cons h1 (RepL.append ds q h2 r)
theorem RepL.take : ∀ (ds : List D) (xs : List V) (n : Nat), RepL K F ds xs → RepL K F (ds.take n) (xs.take n)
  | _, _, 0, _ => RepL.nil
  | [], _, _ + 1, h => by simp only [RepL] at h; subst h; exact RepL.nil
  | d :: ds, _, n + 1, h => by
    simp only [RepL] at h
    obtain ⟨x, q, rfl, h1, h2⟩ := h
    exact .cons h1 (RepL.take ds q n h2)
theorem RepL.drop : ∀ (ds : List D) (xs : List V) (n : Nat), RepL K F ds xs → RepL K F (ds.drop n) (xs.drop n)
  | _, _, 0, h => h
  | [], _, _ + 1, h => by simp only [RepL] at h; subst h; exact RepL.nil
  | d :: ds, _, n + 1, h => by
    simp only [RepL] at h
    obtain ⟨x, q, rfl, h1, h2⟩ := h
    exact RepL.drop ds q n h2
theorem RepL.get : ∀ (ds : List D) (xs : List V) (i : Nat) (d : D), RepL K F ds xs → ds[i]? = some d → ∃ x, xs[i]? = some x ∧ Rep K F d x
  | [], _, _, _, _, e => by simp at e
  | d :: ds, _, 0, _, h, e => by
    simp only [RepL] at h
    obtain ⟨x, q, rfl, h1, h2⟩ := h
    simp at e
    subst e
    exact ⟨x, rfl, h1⟩
  | d :: ds, _, i + 1, d', h, e => by
    simp only [RepL] at h
    obtain ⟨x, q, rfl, h1, h2⟩ := h
    obtain ⟨y, h3, h4⟩ := RepL.get ds q i d' h2 (by simpa using e)
    exact ⟨y, by simpa using h3, h4⟩
theorem RepL.getV : ∀ (ds : List D) (xs : List V) (i : Nat) (x : V), RepL K F ds xs → xs[i]? = some x → ∃ d, ds[i]? = some d ∧ Rep K F d x
  | [], _, _, _, h, e => by simp only [RepL] at h; subst h; simp at e
  | d :: ds, _, 0, _, h, e => by
    simp only [RepL] at h
    obtain ⟨x, q, rfl, h1, h2⟩ := h
    simp at e
    subst e
    exact ⟨d, rfl, h1⟩
  | d :: ds, _, i + 1, x', h, e => by
    simp only [RepL] at h
    obtain ⟨x, q, rfl, h1, h2⟩ := h
    obtain ⟨y, h3, h4⟩ := RepL.getV ds q i x' h2 (by simpa using e)
    exact ⟨y, by simpa using h3, h4⟩
mutual
theorem Rep.dp (e : Same F G) : ∀ (d : D) (v : V), Rep K F d v → d.hasDict = false → Dp K G v d
  | .none, _, h, _ => by simp only [Rep] at h; subst h; exact .non
  | .bool b, _, h, _ => by simp only [Rep] at h; subst h; exact .bl b
  | .int i, _, h, _ => by simp only [Rep] at h; subst h; exact .int i
  | .str x, _, h, _ => by simp only [Rep] at h; subst h; exact .str x
  | .list ds, _, h, n => by
    simp only [Rep] at h
    obtain ⟨a, xs, rfl, h1, h2⟩ := h
    exact .lst (e.seq h1) (RepL.dp e ds xs h2 (by simpa only [PyData.hasDict] using n))
  | .tuple ds, _, h, n => by
    simp only [Rep] at h
    obtain ⟨a, xs, rfl, h1, h2⟩ := h
    exact .tup (SqT.of (e _ _ h1)) (RepL.dp e ds xs h2 (by simpa only [PyData.hasDict] using n))
  | .dict _, _, _, n => by simp only [PyData.hasDict] at n; cases n
theorem RepL.dp (e : Same F G) : ∀ (ds : List D) (xs : List V), RepL K F ds xs → PyData.hasDictAll ds = false → DpAll K G xs ds
  | [], _, h, _ => by simp only [RepL] at h; subst h; exact .nil
  | d :: ds, _, h, n => by
    simp only [RepL] at h
    obtain ⟨x, r, rfl, h1, h2⟩ := h
    simp only [PyData.hasDictAll, Bool.or_eq_false_iff] at n
    exact .cons (Rep.dp e d x h1 n.1) (RepL.dp e ds r h2 n.2)
end
end
end Qz
namespace Qz
open PySem PySem.Spec L2
open PyProof.Rows hiding St

/-! ## containers that one name alone holds, results, states -/
inductive C where
  | lst (l : List D)
  | dK (l : List (Key × D))
  | dT (l : List (List Key × D))
/-- the box that numbers are drawn from -/
structure Bx where
  g : List Int
  s : Int
  c : Int
inductive R where
  | d (x : D) | o (c : C) | sl (i : Nat) | bx
structure S where
  a : List (Option R)
  b : Bx
inductive Out (α : Type) where
  | ok (a : α) (s : S) | no
abbrev M (α : Type) := S → Out α
inductive Fl where
  | nx | rt (r : R) | bk | ct
abbrev ME := M R
abbrev MA := M (List R)
abbrev MT := M Bool
abbrev MS := M Fl
inductive OutF where
  | ok (r : R) (b : Bx) | no
abbrev DF := List R → Bx → OutF

/-- the world that is told beside the heap: what stays, who owns what, where the box is -/
structure Wd where
  F : Hp
  O : Addr → Option Nat
  B : Option (Addr × Addr)

def bxF (g : Addr) (b : Bx) : HO := .dK [(.inr "great", .ref g), (.inr "stirred", .int b.s), (.inr "count", .int b.c)]
structure BoxOk (F H : Hp) (p g : Addr) (b : Bx) : Prop where
  fp : F p = none
  fg : F g = none
  ne : p ≠ g
  hp : H p = some (bxF g b)
  hg : H g = some (.lst (b.g.map V.int))
def isBox (B : Option (Addr × Addr)) (a : Addr) : Prop := ∃ p g, B = some (p, g) ∧ (a = p ∨ a = g)

section
variable (K : PySem.W.Frag)
def Own (w : Wd) (H : Hp) (t : Nat) : C → V → Prop
  | .lst ds, u => ∃ a xs, u = .ref a ∧ w.O a = some t ∧ H a = some (.lst xs) ∧ RepL K w.F ds xs
  | .dK kvs, u => ∃ a ys, u = .ref a ∧ w.O a = some t ∧ H a = some (.dK ys) ∧ RepK K w.F kvs ys
  | .dT kvs, u => ∃ a ys, u = .ref a ∧ w.O a = some t ∧ H a = some (.dT ys) ∧ RepT K w.F kvs ys
/-- what a slot holds -/
def SlR (w : Wd) (H : Hp) (i : Nat) : Option R → Option V → Prop
  | none, _ => True
  | some (.d x), v => ∃ u, v = some u ∧ Rep K w.F x u
  | some (.o c), v => ∃ u, v = some u ∧ Own K w H i c u
  | some .bx, v => ∃ p g, w.B = some (p, g) ∧ v = some (.ref p)
  | some (.sl _), _ => False
/-- no tuple -/
def NT (o : HO) : Prop := ∀ xs, o ≠ .tup xs
structure OKs (w : Wd) (H : Hp) (σ : St) (s : S) (t : Nat) : Prop where
  sub : Same w.F H
  len : σ.length = s.a.length
  sl : ∀ i q v, s.a[i]? = some q → σ[i]? = some v → SlR K w H i q v
  own : ∀ a i, w.O a = some i → w.F a = none ∧ (∃ o, H a = some o ∧ NT o) ∧ i < t
  tN : s.a.length ≤ t
  box : ∀ p g, w.B = some (p, g) → BoxOk w.F H p g s.b ∧ w.O p = none ∧ w.O g = none
  nob : s.b.c < 0 → w.B = none
def RelR (w : Wd) (H : Hp) (σ : St) (s : S) (t : Nat) : R → V → Prop
  | .d x, u => Rep K w.F x u
  | .o c, u => Own K w H t c u
  | .sl i, u => ∃ q, s.a[i]? = some (some q) ∧ σ[i]? = some (some u)
  | .bx, u => ∃ p g, w.B = some (p, g) ∧ u = .ref p
def RelRs (w : Wd) (H : Hp) (σ : St) (s : S) (hi : Nat) : Nat → List R → List V → Prop
  | _, [], xs => xs = []
  | t, r :: rs, xs => ∃ x q τ, xs = x :: q ∧ t ≤ τ ∧ τ < hi ∧ RelR K w H σ s τ r x ∧ RelRs w H σ s hi (τ + 1) rs q
end
/-- from one world to a later one; n: how many slots -/
structure Step (n t0 : Nat) (w : Wd) (H : Hp) (w' : Wd) (H' : Hp) : Prop where
  F : Same w.F w'.F
  keep : ∀ a o, H a = some o → (∀ i, w.O a = some i → n ≤ i ∧ i < t0) → ¬ isBox w.B a → H' a = some o
  there : ∀ a o, H a = some o → ∃ o', H' a = some o'
  tmp : ∀ a i, w.O a = some i → n ≤ i → i < t0 → w'.O a = some i
  newF : ∀ a, w'.F a ≠ none → w.F a ≠ none ∨ H a = none ∨ (∃ i, w.O a = some i ∧ (i < n ∨ t0 ≤ i)) ∨ (∃ xs, H a = some (.tup xs)) ∨ isBox w.B a
  newO : ∀ a i, w'.O a = some i → H a = none ∨ w.O a ≠ none
  newT : ∀ a i, w'.O a = some i → n ≤ i → H a = none ∨ w.O a = some i
  B : w'.B = w.B ∨ (w.B = none ∧ ∀ p g, w'.B = some (p, g) → H p = none ∧ H g = none)

section
variable {K : PySem.W.Frag} {n t t0 t1 : Nat} {w w1 w2 w' : Wd} {H H1 H2 H' : Hp} {σ : St} {s s' s1 s2 : S}
theorem Step.refl : Step n t0 w H w H := ⟨Same.refl _, fun _ _ h _ _ => h, fun a o h => ⟨o, h⟩, fun _ _ h _ _ => h, fun _ h => .inl h, fun a i h => .inr (by rw [h]; simp), fun a i h _ => .inr h, .inl rfl⟩
theorem Step.mono (a : Step n t1 w H w1 H1) (h : t0 ≤ t1) : Step n t0 w H w1 H1 where
  F := a.F
  keep := fun c o h1 h2 h3 => a.keep c o h1 (fun i hi => ⟨(h2 i hi).1, Nat.lt_of_lt_of_le (h2 i hi).2 h⟩) h3
  there := a.there
  tmp := fun c i h1 h2 h3 => a.tmp c i h1 h2 (Nat.lt_of_lt_of_le h3 h)
  newF := fun c q => by
    rcases a.newF c q with z | z | ⟨i, z, hi⟩ | z
    · exact .inl z
    · exact .inr (.inl z)
    · exact .inr (.inr (.inl ⟨i, z, hi.imp id (Nat.le_trans h)⟩))
    · exact .inr (.inr (.inr z))
  newO := a.newO
  newT := a.newT
  B := a.B
theorem Step.trans (a : Step n t0 w H w1 H1) (b : Step n t0 w1 H1 w2 H2) : Step n t0 w H w2 H2 where
  F := a.F.trans b.F
  keep := fun c o h ho hb => by
    have h1 := a.keep c o h ho hb
    refine b.keep c o h1 (fun i hi => ?_) (fun q => ?_)
    · rcases a.newO c i hi with z | z
      · rw [h] at z; cases z
      · cases e : w.O c with
        | none => exact absurd e z
        | some j =>
          have := a.tmp c j e (ho j e).1 (ho j e).2
          rw [hi] at this; cases this
          exact ho i e
    · obtain ⟨p, g, e, z⟩ := q
      rcases a.B with e1 | ⟨_, e1⟩
      · exact hb ⟨p, g, e1 ▸ e, z⟩
      · obtain ⟨z1, z2⟩ := e1 p g e
        rcases z with rfl | rfl
        · rw [h] at z1; cases z1
        · rw [h] at z2; cases z2
  there := fun c o h => by
    obtain ⟨o1, h1⟩ := a.there c o h
    exact b.there c o1 h1
  tmp := fun c i h hi hj => b.tmp c i (a.tmp c i h hi hj) hi hj
  newF := fun c h => by
    rcases b.newF c h with z | z | ⟨i, z, hi⟩ | ⟨xs, z⟩ | ⟨p, g, z, hz⟩
    · exact a.newF c z
    · cases e : H c with
      | none => exact .inr (.inl rfl)
      | some o =>
        obtain ⟨o1, h1⟩ := a.there c o e
        rw [h1] at z; cases z
    · rcases a.newO c i z with q | q
      · exact .inr (.inl q)
      · cases e : w.O c with
        | none => exact absurd e q
        | some j =>
          by_cases hj : j < n ∨ t0 ≤ j
          · exact .inr (.inr (.inl ⟨j, rfl, hj⟩))
          · have := a.tmp c j e (by omega) (by omega)
            rw [z] at this; cases this
            exact absurd hi hj
    · cases e : H c with
      | none => exact .inr (.inl rfl)
      | some o =>
        by_cases hb : isBox w.B c
        · exact .inr (.inr (.inr (.inr hb)))
        · by_cases ho : ∀ i, w.O c = some i → n ≤ i ∧ i < t0
          · have h1 := a.keep c o e ho hb
            rw [z] at h1; cases h1
            exact .inr (.inr (.inr (.inl ⟨xs, rfl⟩)))
          · obtain ⟨i, hi⟩ := Classical.not_forall.mp ho
            obtain ⟨h1, h2⟩ := Classical.not_imp.mp hi
            exact .inr (.inr (.inl ⟨i, h1, by omega⟩))
    · rcases a.B with e1 | ⟨_, e1⟩
      · exact .inr (.inr (.inr (.inr ⟨p, g, e1 ▸ z, hz⟩)))
      · obtain ⟨z1, z2⟩ := e1 p g z
        rcases hz with rfl | rfl
        · exact .inr (.inl z1)
        · exact .inr (.inl z2)
  newO := fun c i h => by
    rcases b.newO c i h with z | z
    · cases e : H c with
      | none => exact .inl rfl
      | some o =>
        obtain ⟨o1, h1⟩ := a.there c o e
        rw [h1] at z; cases z
    · cases e : w1.O c with
      | none => exact absurd e z
      | some j => exact a.newO c j e
  newT := fun c i h hi => by
    rcases b.newT c i h hi with z | z
    · cases e : H c with
      | none => exact .inl rfl
      | some o =>
        obtain ⟨o1, h1⟩ := a.there c o e
        rw [h1] at z; cases z
    · exact a.newT c i z hi
  B := by
    rcases b.B with e | ⟨e, f⟩
    · rcases a.B with e' | ⟨e', f'⟩
      · exact .inl (e.trans e')
      · exact .inr ⟨e', fun p g q => f' p g (e ▸ q)⟩
    · rcases a.B with e' | ⟨e', f'⟩
      · refine .inr ⟨e' ▸ e, fun p g q => ?_⟩
        obtain ⟨z1, z2⟩ := f p g q
        have back : ∀ c, H1 c = none → H c = none := fun c hc => by
          cases e : H c with
          | none => rfl
          | some o =>
            obtain ⟨o1, h1⟩ := a.there c o e
            rw [hc] at h1; cases h1
        exact ⟨back p z1, back g z2⟩
      · refine .inr ⟨e', fun p g q => ?_⟩
        obtain ⟨z1, z2⟩ := f p g q
        have back : ∀ c, H1 c = none → H c = none := fun c hc => by
          cases e : H c with
          | none => rfl
          | some o =>
            obtain ⟨o1, h1⟩ := a.there c o e
            rw [hc] at h1; cases h1
        exact ⟨back p z1, back g z2⟩
/-- fewer slots bind less: a step of a frame of n slots -/
theorem Own.keep {t : Nat} {c : C} {u : V} (ok : OKs K w H σ s t2) (h : Own K w H t c u) (st : Step s.a.length t0 w H w' H') (ht : s.a.length ≤ t) (ht0 : t < t0) : Own K w' H' t c u := by
  have nb : ∀ a, w.O a = some t → ¬ isBox w.B a := fun a ha ⟨p, g, e, z⟩ => by
    obtain ⟨_, z1, z2⟩ := ok.box p g e
    rcases z with rfl | rfl
    · rw [ha] at z1; cases z1
    · rw [ha] at z2; cases z2
  cases c with
  | lst ds =>
    obtain ⟨a, xs, e, h1, h2, h3⟩ := h
    exact ⟨a, xs, e, st.tmp a t h1 ht ht0, st.keep a _ h2 (fun i hi => by rw [h1] at hi; cases hi; exact ⟨ht, ht0⟩) (nb a h1), RepL.mono st.F ds xs h3⟩
  | dK ds =>
    obtain ⟨a, xs, e, h1, h2, h3⟩ := h
    exact ⟨a, xs, e, st.tmp a t h1 ht ht0, st.keep a _ h2 (fun i hi => by rw [h1] at hi; cases hi; exact ⟨ht, ht0⟩) (nb a h1), RepK.mono st.F ds xs h3⟩
  | dT ds =>
    obtain ⟨a, xs, e, h1, h2, h3⟩ := h
    exact ⟨a, xs, e, st.tmp a t h1 ht ht0, st.keep a _ h2 (fun i hi => by rw [h1] at hi; cases hi; exact ⟨ht, ht0⟩) (nb a h1), RepT.mono st.F ds xs h3⟩
/-- a state's slots stay known: some slot that holds something still does -/
def Slotted (s s' : S) : Prop := ∀ (i : Nat) (q : R), s.a[i]? = some (some q) → ∃ q', s'.a[i]? = some (some q')
theorem Slotted.refl : Slotted s s := fun _ q h => ⟨q, h⟩
theorem Slotted.trans (a : Slotted s s1) (b : Slotted s1 s2) : Slotted s s2 := fun i q h => by
  obtain ⟨q1, h1⟩ := a i q h
  exact b i q1 h1
theorem RelR.keep {r : R} {u : V} (ok : OKs K w H σ s t2) (h : RelR K w H σ s t r u) (st : Step s.a.length t0 w H w' H') (ht : s.a.length ≤ t) (ht0 : t < t0) (hs : Slotted s s') : RelR K w' H' σ s' t r u := by
  cases r with
  | d x => exact Rep.mono st.F x u h
  | o c => exact Own.keep ok h st ht ht0
  | sl i =>
    obtain ⟨q, h1, h2⟩ := h
    obtain ⟨q', h3⟩ := hs i q h1
    exact ⟨q', h3, h2⟩
  | bx =>
    obtain ⟨p, g, e, h1⟩ := h
    rcases st.B with z | ⟨z, _⟩
    · exact ⟨p, g, z.trans e, h1⟩
    · rw [z] at e; cases e
theorem RelRs.keep {hi : Nat} (ok : OKs K w H σ s t2) (st : Step s.a.length t0 w H w' H') (hs : Slotted s s') (h0 : hi ≤ t0) : ∀ (rs : List R) (us : List V) (t : Nat), RelRs K w H σ s hi t rs us → s.a.length ≤ t → RelRs K w' H' σ s' hi t rs us
  | [], _, _, h, _ => h
  | r :: rs, _, t, ⟨x, q, τ, e, a1, a2, h1, h2⟩, ht =>
    ⟨x, q, τ, e, a1, a2, RelR.keep ok h1 st (by omega) (by omega) hs, RelRs.keep ok st hs h0 rs q (τ + 1) h2 (by omega)⟩
end

/-! ## what a result is worth as data -/
def C.data : C → Option D
  | .lst l => some (.list l)
  | .dK l => some (.dict (l.map fun p => (keyD p.1, p.2)))
  | .dT _ => none
/-- read, where it stands -/
def view (s : S) : R → Option D
  | .d x => some x
  | .o c => c.data
  | .sl i => match s.a[i]? with
    | some (some (.d x)) => some x
    | some (some (.o c)) => c.data
    | _ => none
  | .bx => none
/-- taken as data, for good -/
def take1 (s : S) : R → Option (D × S)
  | .d x => some (x, s)
  | .o c => c.data.map fun x => (x, s)
  | .sl i => match s.a[i]? with
    | some (some (.d x)) => some (x, s)
    | some (some (.o c)) => c.data.map fun x => (x, { s with a := s.a.set i (some (.d x)) })
    | _ => none
  | .bx => none
def takes : S → List R → Option (List D × S)
  | s, [] => some ([], s)
  | s, r :: rs => match take1 s r with
    | none => none
    | some (x, s1) => match takes s1 rs with
      | none => none
      | some (xs, s2) => some (x :: xs, s2)
/-- the view's meaning: what may be read of u in H -/
def Vw (K : PySem.W.Frag) (F H : Hp) (x : D) (u : V) : Prop :=
  Rep K F x u ∨ (∃ a xs ds, x = .list ds ∧ u = .ref a ∧ H a = some (.lst xs) ∧ RepL K F ds xs) ∨
    ∃ a ys kvs, x = .dict kvs ∧ u = .ref a ∧ H a = some (.dK ys) ∧ RepD K F kvs ys
section
variable {K : PySem.W.Frag} {n t t2 : Nat} {w w' : Wd} {H H' : Hp} {σ : St} {s s' : S}
theorem Own.view {c : C} {u : V} {x : D} (h : Own K w H t c u) (e : c.data = some x) : Vw K w.F H x u := by
  cases c with
  | lst ds =>
    obtain ⟨a, xs, e1, h1, h2, h3⟩ := h
    cases e
    exact .inr (.inl ⟨a, xs, ds, rfl, e1, h2, h3⟩)
  | dK ds =>
    obtain ⟨a, xs, e1, h1, h2, h3⟩ := h
    cases e
    exact .inr (.inr ⟨a, xs, _, rfl, e1, h2, RepK.dict ds xs h3⟩)
  | dT ds => cases e
theorem RelR.view {r : R} {u : V} {x : D} (ok : OKs K w H σ s t2) (h : RelR K w H σ s t r u) (e : view s r = some x) : Vw K w.F H x u := by
  cases r with
  | d y => cases e; exact .inl h
  | o c => exact Own.view h e
  | sl i =>
    obtain ⟨q, h1, h2⟩ := h
    have hs := ok.sl i _ _ h1 h2
    simp only [Qz.view, h1] at e
    cases q with
    | d y =>
      cases e
      obtain ⟨v, e1, h3⟩ := hs
      cases e1
      exact .inl h3
    | o c =>
      obtain ⟨v, e1, h3⟩ := hs
      cases e1
      exact Own.view h3 e
    | sl _ => exact hs.elim
    | bx => cases e
  | bx => cases e
/-- the owner gives an object up: from then on it stays as it is -/
def Wd.freeze (w : Wd) (a : Addr) (o : HO) : Wd := { w with F := upd w.F a o, O := fun b => if b = a then none else w.O b }
theorem freeze_same {a : Addr} {o : HO} (hF : w.F a = none) : Same w.F (w.freeze a o).F := fun b u e => by
  show upd w.F a o b = some u
  rw [upd_ne (ne_of_none e hF)]
  exact e
theorem freeze_ok {a : Addr} {o : HO} {j : Nat} (ok : OKs K w H σ s t) (ha : w.O a = some j) (hH : H a = some o) {s' : S}
    (hb : s'.b = s.b) (hl : s'.a.length = s.a.length) (hsl : ∀ i q v, s'.a[i]? = some q → σ[i]? = some v → (s.a[i]? = some q ∧ (∀ c, q = some (.o c) → i ≠ j)) ∨ (∃ y z, q = some (.d y) ∧ v = some z ∧ Rep K (w.freeze a o).F y z)) :
    OKs K (w.freeze a o) H σ s' t := by
  obtain ⟨hF, _, hj⟩ := ok.own a j ha
  have sm := freeze_same (o := o) hF
  refine ⟨fun b u e => ?_, ok.len.trans hl.symm, fun i q v h1 h2 => ?_, fun b i e => ?_, by rw [hl]; exact ok.tN, fun p g e => ?_, by rw [hb]; exact ok.nob⟩
  · by_cases hb : b = a
    · subst hb
      have e' : upd w.F b o b = some u := e
      rw [upd_same] at e'
      rw [hH]; exact e'
    · have e' : upd w.F a o b = some u := e
      rw [upd_ne hb] at e'
      exact ok.sub b u e'
  · rcases hsl i q v h1 h2 with ⟨h3, hne⟩ | ⟨y, z, rfl, rfl, h3⟩
    · have hs := ok.sl i q v h3 h2
      cases q with
      | none => trivial
      | some q =>
        cases q with
        | d y => obtain ⟨z, e1, h4⟩ := hs; exact ⟨z, e1, Rep.mono sm y z h4⟩
        | o c =>
          obtain ⟨z, e1, h4⟩ := hs
          refine ⟨z, e1, ?_⟩
          have hij := hne c rfl
          have na : ∀ b, w.O b = some i → b ≠ a := fun b hb e => by subst e; rw [ha] at hb; cases hb; exact hij rfl
          cases c with
          | lst ds =>
            obtain ⟨b, xs, e2, h5, h6, h7⟩ := h4
            exact ⟨b, xs, e2, by show (if b = a then none else w.O b) = _; rw [if_neg (na b h5)]; exact h5, h6, RepL.mono sm ds xs h7⟩
          | dK ds =>
            obtain ⟨b, xs, e2, h5, h6, h7⟩ := h4
            exact ⟨b, xs, e2, by show (if b = a then none else w.O b) = _; rw [if_neg (na b h5)]; exact h5, h6, RepK.mono sm ds xs h7⟩
          | dT ds =>
            obtain ⟨b, xs, e2, h5, h6, h7⟩ := h4
            exact ⟨b, xs, e2, by show (if b = a then none else w.O b) = _; rw [if_neg (na b h5)]; exact h5, h6, RepT.mono sm ds xs h7⟩
        | sl _ => exact hs.elim
        | bx => exact hs
    · exact ⟨z, rfl, h3⟩
  · have e' : (if b = a then none else w.O b) = some i := e
    by_cases hb : b = a
    · rw [if_pos hb] at e'; cases e'
    · rw [if_neg hb] at e'
      obtain ⟨q1, q2, q3⟩ := ok.own b i e'
      exact ⟨by show upd w.F a o b = none; rw [upd_ne hb]; exact q1, q2, q3⟩
  · obtain ⟨bo, o1, o2⟩ := ok.box p g e
    have np : p ≠ a := fun z => by subst z; rw [ha] at o1; cases o1
    have ng : g ≠ a := fun z => by subst z; rw [ha] at o2; cases o2
    refine ⟨⟨?_, ?_, bo.ne, by rw [hb]; exact bo.hp, by rw [hb]; exact bo.hg⟩, ?_, ?_⟩
    · show upd w.F a o p = none; rw [upd_ne np]; exact bo.fp
    · show upd w.F a o g = none; rw [upd_ne ng]; exact bo.fg
    · show (if p = a then none else w.O p) = none; rw [if_neg np]; exact o1
    · show (if g = a then none else w.O g) = none; rw [if_neg ng]; exact o2
end
/-- the step of giving up -/
theorem freeze_step {K : PySem.W.Frag} {t t0 n j : Nat} {w : Wd} {H : Hp} {σ : St} {s : S} {a : Addr} {o : HO} (ok : OKs K w H σ s t) (ha : w.O a = some j) (hH : H a = some o) (hj : j < n ∨ t0 ≤ j) : Step n t0 w H (w.freeze a o) H where
  F := freeze_same (ok.own a j ha).1
  keep := fun _ _ h _ _ => h
  there := fun b u h => ⟨u, h⟩
  tmp := fun b i h h1 h2 => by
    show (if b = a then none else w.O b) = some i
    have : b ≠ a := fun e => by subst e; rw [ha] at h; cases h; omega
    rw [if_neg this]; exact h
  newF := fun b h => by
    by_cases hb : b = a
    · subst hb; exact .inr (.inr (.inl ⟨j, ha, hj⟩))
    · have h' : upd w.F a o b ≠ none := h
      rw [upd_ne hb] at h'
      exact .inl h'
  newO := fun b i h => by
    have h' : (if b = a then none else w.O b) = some i := h
    by_cases hb : b = a
    · rw [if_pos hb] at h'; cases h'
    · rw [if_neg hb] at h'
      exact .inr (by rw [h']; simp)
  newT := fun b i h _ => by
    have h' : (if b = a then none else w.O b) = some i := h
    by_cases hb : b = a
    · rw [if_pos hb] at h'; cases h'
    · rw [if_neg hb] at h'; exact .inr h'
  B := .inl rfl
section
variable {K : PySem.W.Frag} {n t t0 τ : Nat} {w w' : Wd} {H H' : Hp} {σ : St} {s s' : S}
theorem set_get {α : Type} {l : List α} {i j : Nat} {x y : α} (h : (l.set i x)[j]? = some y) : (j = i ∧ y = x) ∨ (j ≠ i ∧ l[j]? = some y) := by
  by_cases e : i = j
  · subst e
    rw [List.getElem?_set] at h
    split at h
    · split at h
      · cases h; exact .inl ⟨rfl, rfl⟩
      · cases h
    · rename_i q; exact absurd rfl q
  · rw [List.getElem?_set_ne e] at h
    exact .inr ⟨Ne.symm e, h⟩
theorem take1_b {r : R} {x : D} (e : take1 s r = some (x, s')) : s'.b = s.b := by
  cases r with
  | d y => cases e; rfl
  | o c => simp only [take1, Option.map_eq_some_iff] at e; obtain ⟨y, _, e⟩ := e; cases e; rfl
  | sl i =>
    simp only [take1] at e
    split at e
    · cases e; rfl
    · simp only [Option.map_eq_some_iff] at e; obtain ⟨y, _, e⟩ := e; cases e; rfl
    · cases e
  | bx => cases e
/-- what an owner holds, taken as data -/
theorem own_take {c : C} {u : V} {x : D} {j : Nat} (ok : OKs K w H σ s t) (h : Own K w H j c u) (e : c.data = some x) :
    ∃ a o, u = .ref a ∧ w.O a = some j ∧ H a = some o ∧ Rep K (w.freeze a o).F x u := by
  cases c with
  | lst ds =>
    obtain ⟨a, xs, rfl, h1, h2, h3⟩ := h
    cases e
    refine ⟨a, _, rfl, h1, h2, ?_⟩
    simp only [Rep]
    exact ⟨a, xs, rfl, .inl (.inl upd_same), RepL.mono (freeze_same (ok.own a j h1).1) ds xs h3⟩
  | dK ds =>
    obtain ⟨a, xs, rfl, h1, h2, h3⟩ := h
    cases e
    refine ⟨a, _, rfl, h1, h2, ?_⟩
    simp only [Rep]
    exact ⟨a, xs, rfl, upd_same, RepD.mono (freeze_same (ok.own a j h1).1) _ xs (RepK.dict ds xs h3)⟩
  | dT ds => cases e
theorem take1_ok {r : R} {u : V} {x : D} (ok : OKs K w H σ s t) (h : RelR K w H σ s τ r u) (e : take1 s r = some (x, s')) (ht : t0 ≤ τ) (hn : s.a.length ≤ t0) :
    ∃ w', OKs K w' H σ s' t ∧ Step s.a.length t0 w H w' H ∧ Rep K w'.F x u ∧ Slotted s s' ∧ s'.a.length = s.a.length ∧ (∀ a i, s.a.length ≤ i → i ≠ τ → w.O a = some i → w'.O a = some i) := by
  cases r with
  | d y =>
    cases e
    exact ⟨w, ok, .refl, h, .refl, rfl, fun _ _ _ _ q => q⟩
  | o c =>
    simp only [take1, Option.map_eq_some_iff] at e
    obtain ⟨y, e1, e⟩ := e
    cases e
    obtain ⟨a, o, rfl, h1, h2, h3⟩ := own_take ok h e1
    refine ⟨w.freeze a o, freeze_ok ok h1 h2 rfl rfl fun i q v q1 q2 => .inl ⟨q1, fun c _ e => ?_⟩, freeze_step ok h1 h2 (.inr ht), h3, .refl, rfl, fun b i _ hi q => ?_⟩
    · have : i < s.a.length := (List.getElem?_eq_some_iff.mp q1).1
      omega
    · show (if b = a then none else w.O b) = some i
      rw [if_neg (fun z => by subst z; rw [h1] at q; cases q; exact hi rfl)]
      exact q
  | sl i =>
    obtain ⟨q, h1, h2⟩ := h
    simp only [take1, h1] at e
    have hs := ok.sl i _ _ h1 h2
    cases q with
    | d y =>
      cases e
      obtain ⟨v, e1, h3⟩ := hs
      cases e1
      exact ⟨w, ok, .refl, h3, .refl, rfl, fun _ _ _ _ q => q⟩
    | o c =>
      simp only [Option.map_eq_some_iff] at e
      obtain ⟨y, e1, e⟩ := e
      cases e
      obtain ⟨v, e2, h3⟩ := hs
      cases e2
      obtain ⟨a, o, rfl, h4, h5, h6⟩ := own_take ok h3 e1
      have hil : i < s.a.length := (List.getElem?_eq_some_iff.mp h1).1
      refine ⟨w.freeze a o, freeze_ok ok h4 h5 rfl (by simp) fun k q v q1 q2 => ?_, freeze_step ok h4 h5 (.inl hil), h6, fun k q hk => ?_, by simp, fun b k hk _ q => ?_⟩
      · rcases set_get q1 with ⟨rfl, rfl⟩ | ⟨hk, q3⟩
        · rw [h2] at q2; cases q2
          exact .inr ⟨x, _, rfl, rfl, h6⟩
        · exact .inl ⟨q3, fun _ _ => hk⟩
      · by_cases hki : k = i
        · subst hki
          exact ⟨.d x, by simp [hil]⟩
        · exact ⟨q, by rw [List.getElem?_set_ne (Ne.symm hki)]; exact hk⟩
      · show (if b = a then none else w.O b) = some k
        rw [if_neg (fun z => by subst z; rw [h4] at q; cases q; omega)]
        exact q
    | sl _ => cases e
    | bx => cases e
  | bx => cases e
theorem RelR.other {r : R} {u : V} {τ2 : Nat} (ok : OKs K w H σ s t) (h : RelR K w H σ s τ2 r u) (hF : Same w.F w'.F) (hB : w'.B = w.B) (hO : ∀ a, w.O a = some τ2 → w'.O a = some τ2) (hs : Slotted s s') : RelR K w' H σ s' τ2 r u := by
  cases r with
  | d y => exact Rep.mono hF y u h
  | o c =>
    cases c with
    | lst ds => obtain ⟨a, xs, e, h1, h2, h3⟩ := h; exact ⟨a, xs, e, hO a h1, h2, RepL.mono hF ds xs h3⟩
    | dK ds => obtain ⟨a, xs, e, h1, h2, h3⟩ := h; exact ⟨a, xs, e, hO a h1, h2, RepK.mono hF ds xs h3⟩
    | dT ds => obtain ⟨a, xs, e, h1, h2, h3⟩ := h; exact ⟨a, xs, e, hO a h1, h2, RepT.mono hF ds xs h3⟩
  | sl i =>
    obtain ⟨q, h1, h2⟩ := h
    obtain ⟨q', h3⟩ := hs i q h1
    exact ⟨q', h3, h2⟩
  | bx =>
    obtain ⟨p, g, e, h1⟩ := h
    exact ⟨p, g, hB.trans e, h1⟩
theorem RelRs.other {hi : Nat} (ok : OKs K w H σ s t) (hF : Same w.F w'.F) (hB : w'.B = w.B) (hs : Slotted s s') : ∀ (rs : List R) (us : List V) (τ : Nat), RelRs K w H σ s hi τ rs us → (∀ a i, τ ≤ i → w.O a = some i → w'.O a = some i) → RelRs K w' H σ s' hi τ rs us
  | [], _, _, h, _ => h
  | r :: rs, _, τ, ⟨x, q, τ2, e, a1, a2, h1, h2⟩, hO => ⟨x, q, τ2, e, a1, a2, RelR.other ok h1 hF hB (fun a => hO a τ2 a1) hs, RelRs.other ok hF hB hs rs q (τ2 + 1) h2 fun a i hi => hO a i (by omega)⟩
end
theorem take1_B {K : PySem.W.Frag} {n t0 : Nat} {w w' : Wd} {H : Hp} (h : Step n t0 w H w' H) (hb : ∀ p g, w'.B = some (p, g) → ∃ o, H p = some o) : w'.B = w.B := by
  rcases h.B with e | ⟨e, f⟩
  · exact e
  · cases q : w'.B with
    | none => exact e.symm
    | some pg =>
      obtain ⟨p, g⟩ := pg
      obtain ⟨o, ho⟩ := hb p g q
      rw [(f p g q).1] at ho; cases ho
section
variable {K : PySem.W.Frag} {n t t0 τ : Nat} {w w' : Wd} {H H' : Hp} {σ : St}
theorem takes_ok {hi : Nat} : ∀ (rs : List R) (us : List V) (xs : List D) (s s' : S) (w : Wd) (τ : Nat), OKs K w H σ s t → RelRs K w H σ s hi τ rs us → takes s rs = some (xs, s') → t0 ≤ τ → s.a.length ≤ t0 →
    ∃ w', OKs K w' H σ s' t ∧ Step s.a.length t0 w H w' H ∧ RepL K w'.F xs us ∧ Slotted s s' ∧ s'.a.length = s.a.length
  | [], _, _, s, _, w, _, ok, h, e, _, _ => by
    cases e
    simp only [RelRs] at h
    subst h
    exact ⟨w, ok, .refl, .nil, .refl, rfl⟩
  | r :: rs, _, _, s, s', w, τ, ok, ⟨x, q, τ2, rfl, a1, a2, h1, h2⟩, e, ht, hn => by
    simp only [takes] at e
    split at e
    · cases e
    · rename_i y s1 e1
      split at e
      · cases e
      · rename_i ys s2 e2
        cases e
        obtain ⟨w1, ok1, st1, p1, sl1, l1, o1⟩ := take1_ok (t0 := t0) ok h1 e1 (by omega) hn
        have hB : w1.B = w.B := take1_B (K := K) st1 fun p g z => ⟨_, (ok1.box p g z).1.hp⟩
        have h2' := RelRs.other ok st1.F hB sl1 rs q (τ2 + 1) h2 fun a i hi => o1 a i (by omega) (by omega)
        obtain ⟨w2, ok2, st2, p2, sl2, l2⟩ := takes_ok rs q ys s1 _ w1 (τ2 + 1) ok1 h2' e2 (by omega) (by omega)
        rw [l1] at st2
        exact ⟨w2, ok2, st1.trans st2, .cons (Rep.mono st2.F y x p1) p2, sl1.trans sl2, l2.trans l1⟩
end
end Qz
namespace Qz
open PySem PySem.Spec L2
open PyProof.Rows hiding St

/-! ## small facts of states -/
section
variable {K : PySem.W.Frag} {n t t0 t1 : Nat} {w w' : Wd} {H H' : Hp} {σ : St} {s s' : S}
theorem OKs.up (ok : OKs K w H σ s t) (h : t ≤ t1) : OKs K w H σ s t1 :=
  ⟨ok.sub, ok.len, ok.sl, fun a i e => let ⟨a1, a2, a3⟩ := ok.own a i e; ⟨a1, a2, Nat.lt_of_lt_of_le a3 h⟩, Nat.le_trans ok.tN h, ok.box, ok.nob⟩
theorem OKs.slen (ok : OKs K w H σ s t) (ok' : OKs K w' H' σ s' t1) : s'.a.length = s.a.length := ok'.len.symm.trans ok.len
/-- a new object that stays -/
def Wd.lay (w : Wd) (p : Addr) (o : HO) : Wd := { w with F := upd w.F p o }
theorem Step.free (st : Step n t0 w H w' H') {p : Addr} (h : H' p = none) : H p = none := by
  cases e : H p with
  | none => rfl
  | some o =>
    obtain ⟨o', h'⟩ := st.there p o e
    rw [h] at h'; cases h'
theorem SlR.mono {i : Nat} {q : Option R} {v : Option V} (h : SlR K w H i q v) (hF : Same w.F w'.F) (hB : w'.B = w.B) (hO : ∀ a, w.O a = some i → w'.O a = some i ∧ H' a = H a) : SlR K w' H' i q v := by
  cases q with
  | none => trivial
  | some r =>
    cases r with
    | d y => obtain ⟨u, e, h1⟩ := h; exact ⟨u, e, Rep.mono hF y u h1⟩
    | o c =>
      obtain ⟨u, e, h1⟩ := h
      refine ⟨u, e, ?_⟩
      cases c with
      | lst ds => obtain ⟨a, xs, e, q1, q2, q3⟩ := h1; exact ⟨a, xs, e, (hO a q1).1, (hO a q1).2.trans q2, RepL.mono hF ds xs q3⟩
      | dK ds => obtain ⟨a, xs, e, q1, q2, q3⟩ := h1; exact ⟨a, xs, e, (hO a q1).1, (hO a q1).2.trans q2, RepK.mono hF ds xs q3⟩
      | dT ds => obtain ⟨a, xs, e, q1, q2, q3⟩ := h1; exact ⟨a, xs, e, (hO a q1).1, (hO a q1).2.trans q2, RepT.mono hF ds xs q3⟩
    | sl _ => exact h
    | bx => obtain ⟨p, g, e, h1⟩ := h; exact ⟨p, g, hB.trans e, h1⟩
theorem lay_ok {p : Addr} {o : HO} (ok : OKs K w H σ s t) (hp : H p = none) : OKs K (w.lay p o) (upd H p o) σ s t := by
  have hF : w.F p = none := by
    cases e : w.F p with
    | none => rfl
    | some u => have := ok.sub p u e; rw [hp] at this; cases this
  have sm : Same w.F (w.lay p o).F := fun b u e => by show upd w.F p o b = _; rw [upd_ne (ne_of_none e hF)]; exact e
  have on : ∀ a i, w.O a = some i → a ≠ p := fun a i h => by
    obtain ⟨_, ⟨u, h2, _⟩, _⟩ := ok.own a i h
    exact ne_of_none h2 hp
  refine ⟨fun b u e => ?_, ok.len, fun i q v h1 h2 => SlR.mono (ok.sl i q v h1 h2) sm rfl (fun a ha => ⟨ha, upd_ne (on a i ha)⟩), fun a i e => ?_, ok.tN, fun q g e => ?_, ok.nob⟩
  · have e' : upd w.F p o b = some u := e
    by_cases hb : b = p
    · subst hb; rw [upd_same] at e' ⊢; exact e'
    · rw [upd_ne hb] at e' ⊢; exact ok.sub b u e'
  · obtain ⟨h1, ⟨u, h2, nt⟩, h3⟩ := ok.own a i e
    have := on a i e
    exact ⟨by show upd w.F p o a = none; rw [upd_ne this]; exact h1, ⟨u, by rw [upd_ne this]; exact h2, nt⟩, h3⟩
  · obtain ⟨b, o1, o2⟩ := ok.box q g e
    have n1 : q ≠ p := ne_of_none b.hp hp
    have n2 : g ≠ p := ne_of_none b.hg hp
    exact ⟨⟨by show upd w.F p o q = none; rw [upd_ne n1]; exact b.fp, by show upd w.F p o g = none; rw [upd_ne n2]; exact b.fg, b.ne, by rw [upd_ne n1]; exact b.hp, by rw [upd_ne n2]; exact b.hg⟩, o1, o2⟩
theorem lay_step {p : Addr} {o : HO} (ok : OKs K w H σ s t) (hp : H p = none) : Step n t0 w H (w.lay p o) (upd H p o) where
  F := fun b u e => by
    have hF : w.F p = none := by
      cases e : w.F p with
      | none => rfl
      | some u => have := ok.sub p u e; rw [hp] at this; cases this
    show upd w.F p o b = _
    rw [upd_ne (ne_of_none e hF)]; exact e
  keep := fun a u h _ _ => by rw [upd_ne (ne_of_none h hp)]; exact h
  there := fun a u h => ⟨u, by rw [upd_ne (ne_of_none h hp)]; exact h⟩
  tmp := fun _ _ h _ _ => h
  newF := fun a h => by
    by_cases ha : a = p
    · subst ha; exact .inr (.inl hp)
    · have h' : upd w.F p o a ≠ none := h
      rw [upd_ne ha] at h'; exact .inl h'
  newO := fun a i h => .inr (by rw [show w.O a = some i from h]; simp)
  newT := fun a i h _ => .inr h
  B := .inl rfl
/-- a new object with an owner -/
def Wd.give (w : Wd) (p : Addr) (t : Nat) : Wd := { w with O := fun b => if b = p then some t else w.O b }
theorem give_ok {p : Addr} {o : HO} (ok : OKs K w H σ s t) (hp : H p = none) (nt : NT o := by exact fun _ h => nomatch h) : OKs K (w.give p t) (upd H p o) σ s (t + 1) := by
  have hF : w.F p = none := by
    cases e : w.F p with
    | none => rfl
    | some u => have := ok.sub p u e; rw [hp] at this; cases this
  have on : ∀ a i, w.O a = some i → a ≠ p := fun a i h => by
    obtain ⟨_, ⟨u, h2, _⟩, _⟩ := ok.own a i h
    exact ne_of_none h2 hp
  refine ⟨fun b u e => ?_, ok.len, fun i q v h1 h2 => SlR.mono (ok.sl i q v h1 h2) (Same.refl _) rfl (fun a ha => ⟨?_, upd_ne (on a i ha)⟩), fun a i e => ?_, Nat.le_succ_of_le ok.tN, fun q g e => ?_, ok.nob⟩
  · have e' : w.F b = some u := e
    rw [upd_ne (ne_of_none e' hF)]; exact ok.sub b u e'
  · show (if a = p then some t else w.O a) = some i
    rw [if_neg (on a i ha)]; exact ha
  · have e' : (if a = p then some t else w.O a) = some i := e
    by_cases ha : a = p
    · rw [if_pos ha] at e'; cases e'
      subst ha
      exact ⟨hF, ⟨o, upd_same, nt⟩, Nat.lt_succ_self _⟩
    · rw [if_neg ha] at e'
      obtain ⟨h1, ⟨u, h2, nt⟩, h3⟩ := ok.own a i e'
      exact ⟨h1, ⟨u, by rw [upd_ne ha]; exact h2, nt⟩, Nat.lt_succ_of_lt h3⟩
  · obtain ⟨b, o1, o2⟩ := ok.box q g e
    have n1 : q ≠ p := ne_of_none b.hp hp
    have n2 : g ≠ p := ne_of_none b.hg hp
    refine ⟨⟨b.fp, b.fg, b.ne, by rw [upd_ne n1]; exact b.hp, by rw [upd_ne n2]; exact b.hg⟩, ?_, ?_⟩
    · show (if q = p then some t else w.O q) = none; rw [if_neg n1]; exact o1
    · show (if g = p then some t else w.O g) = none; rw [if_neg n2]; exact o2
theorem give_step {p : Addr} {o : HO} (ok : OKs K w H σ s t) (hp : H p = none) : Step n t0 w H (w.give p t) (upd H p o) where
  F := Same.refl _
  keep := fun a u h _ _ => by rw [upd_ne (ne_of_none h hp)]; exact h
  there := fun a u h => ⟨u, by rw [upd_ne (ne_of_none h hp)]; exact h⟩
  tmp := fun a i h _ _ => by
    show (if a = p then some t else w.O a) = some i
    obtain ⟨_, ⟨u, h2, _⟩, _⟩ := ok.own a i h
    rw [if_neg (ne_of_none h2 hp)]; exact h
  newF := fun a h => .inl h
  newO := fun a i h => by
    have h' : (if a = p then some t else w.O a) = some i := h
    by_cases ha : a = p
    · subst ha; exact .inl hp
    · rw [if_neg ha] at h'; exact .inr (by rw [h']; simp)
  newT := fun a i h _ => by
    have h' : (if a = p then some t else w.O a) = some i := h
    by_cases ha : a = p
    · subst ha; exact .inl hp
    · rw [if_neg ha] at h'; exact .inr h'
  B := .inl rfl
end

/-! ## the judgements -/
section
variable (K : PySem.W.Frag)
def SndE (te : TE) (m : ME) : Prop := ∀ (σ : St) (H : Hp) (w : Wd) (s : S) (t : Nat) (Q : VK) (r : R) (s' : S), OKs K w H σ s t → m s = .ok r s' →
  (∀ w' H' x t' τ, t ≤ τ → τ < t' → OKs K w' H' σ s' t' → Step s.a.length t w H w' H' → Slotted s s' → RelR K w' H' σ s' τ r x → Q x H') → te σ H Q
def SndA (ta : TA) (m : MA) : Prop := ∀ (σ : St) (H : Hp) (w : Wd) (s : S) (t : Nat) (Q : List V → Hp → Prop) (rs : List R) (s' : S), OKs K w H σ s t → m s = .ok rs s' →
  (∀ w' H' xs t', t ≤ t' → OKs K w' H' σ s' t' → Step s.a.length t w H w' H' → Slotted s s' → RelRs K w' H' σ s' t' t rs xs → Q xs H') → ta σ H Q
def SndT (tt : TT) (m : MT) : Prop := ∀ (σ : St) (H : Hp) (w : Wd) (s : S) (t : Nat) (Q : Bool → Hp → Prop) (b : Bool) (s' : S), OKs K w H σ s t → m s = .ok b s' →
  (∀ w' H' t', t ≤ t' → OKs K w' H' σ s' t' → Step s.a.length t w H w' H' → Slotted s s' → Q b H') → tt σ H Q
end
structure RE (X : Cx) (e : Expr) (m : ME) : Prop where
  ex : ∃ te, PE X e te ∧ SndE X.K te m
structure RA (X : Cx) (es : List Expr) (m : MA) : Prop where
  ex : ∃ ta, PA X es ta ∧ SndA X.K ta m
structure RT (X : Cx) (e : Expr) (m : MT) : Prop where
  ex : ∃ tt, PT X e tt ∧ SndT X.K tt m
structure RW (X : Cx) (e : Expr) (m : MT) : Prop where
  ex : ∃ tt, PW X e tt ∧ SndT X.K tt m

/-! ## what expressions are worth -/
def mVar (i : Nat) : ME := fun s => match s.a[i]? with
  | some (some (.d x)) => .ok (.d x) s
  | some (some (.o _)) => .ok (.sl i) s
  | some (some .bx) => .ok .bx s
  | _ => .no
def mC (x : D) : ME := fun s => .ok (.d x) s
def mNil : MA := fun s => .ok [] s
def mCons (m : ME) (ms : MA) : MA := fun s => match m s with
  | .no => .no
  | .ok r s1 => match ms s1 with
    | .no => .no
    | .ok rs s2 => .ok (r :: rs) s2
/-- a list of results taken as data -/
def mData (ms : MA) (f : List D → Option R) : ME := fun s => match ms s with
  | .no => .no
  | .ok rs s1 => match takes s1 rs with
    | none => .no
    | some (xs, s2) => match f xs with
      | none => .no
      | some r => .ok r s2
def dTup (xs : List D) : Option R := if xs.length ≤ sizeLine then some (.d (.tuple xs)) else none
def dLst (xs : List D) : Option R := if xs.length ≤ sizeLine then some (.o (.lst xs)) else none
def mTup (ms : MA) : ME := mData ms dTup
def mLst (ms : MA) : ME := mData ms dLst
/-- two results, read where they stand -/
def mOp (f : D → D → Option R) (m1 m2 : ME) : ME := fun s => match m1 s with
  | .no => .no
  | .ok r1 s1 => match m2 s1 with
    | .no => .no
    | .ok r2 s2 => match view s2 r1 with
      | none => .no
      | some x => match view s2 r2 with
        | none => .no
        | some y => match f x y with
          | none => .no
          | some r => .ok r s2
def mUn (f : D → Option R) (m1 : ME) : ME := fun s => match m1 s with
  | .no => .no
  | .ok r1 s1 => match view s1 r1 with
      | none => .no
      | some x => match f x with
          | none => .no
          | some r => .ok r s1

section
variable {X : Cx} {e a b : Expr} {es : List Expr} {m m1 m2 : ME} {ms : MA} {pos : Pos}
theorem re_var (i : Nat) {x : Str} (hN : X.N[i]? = some x := by rfl) (hv : Vis X.env.scope x := by first | exact Or.inl rfl | exact Or.inr (Or.inl rfl) | exact Or.inr (Or.inr rfl)) (hd : (x == ("__debug__" : Str)) = false := by decide)
    (hcd : (x == ("__classdict__" : Str)) = false := by decide) : RE X (.Name x pos) (mVar i) := by
  refine ⟨tVar i, pe_var hN hv hd hcd, fun σ H w s t Q r s' ok e k => ?_⟩
  simp only [mVar] at e
  have hi : i < s.a.length ∧ ∃ q, s.a[i]? = some q := by
    split at e
    all_goals first | (rename_i h; exact ⟨(List.getElem?_eq_some_iff.mp h).1, _, h⟩) | cases e
  have hv : ∃ v, σ[i]? = some v := ⟨σ[i]'(by rw [ok.len]; exact hi.1), by simp [ok.len, hi.1]⟩
  obtain ⟨v, hv⟩ := hv
  split at e
  · rename_i x h
    cases e
    obtain ⟨u, rfl, h1⟩ := ok.sl i _ _ h hv
    exact ⟨u, hv, k w H u (t + 1) t (Nat.le_refl _) (Nat.lt_succ_self _) (ok.up (Nat.le_succ _)) .refl .refl h1⟩
  · rename_i c h
    cases e
    obtain ⟨u, rfl, h1⟩ := ok.sl i _ _ h hv
    exact ⟨u, hv, k w H u (t + 1) t (Nat.le_refl _) (Nat.lt_succ_self _) (ok.up (Nat.le_succ _)) .refl .refl ⟨_, h, hv⟩⟩
  · rename_i h
    cases e
    obtain ⟨p, g, hB, rfl⟩ := ok.sl i _ _ h hv
    exact ⟨_, hv, k w H _ (t + 1) t (Nat.le_refl _) (Nat.lt_succ_self _) (ok.up (Nat.le_succ _)) .refl .refl ⟨p, g, hB, rfl⟩⟩
  · cases e
theorem re_c {x : V} {d : D} (h : PE X e (tC x)) (hr : ∀ (F : Hp), Rep X.K F d x) : RE X e (mC d) :=
  ⟨_, h, fun σ H w s t Q r s' ok e k => by cases e; exact k w H x (t + 1) t (Nat.le_refl _) (Nat.lt_succ_self _) (ok.up (Nat.le_succ _)) .refl .refl (hr _)⟩
theorem re_int {i j} : RE X (.Constant (.int i) j pos) (mC (.int i)) := re_c pe_int fun F => by simp only [Rep]
theorem re_bl {i j} : RE X (.Constant (.bool i) j pos) (mC (.bool i)) := re_c pe_bl fun F => by simp only [Rep]
theorem re_non {j} : RE X (.Constant .none j pos) (mC .none) := re_c pe_non fun F => by simp only [Rep]
theorem re_str {i j} : RE X (.Constant (.str i) j pos) (mC (.str i)) := re_c pe_str fun F => by simp only [Rep]
theorem re_glob {x : Str} {i : Int} {u : Value} (hg : Gl X x) (hm : X.mg x = some u) (r : RelV (.int i) u) (hd : (x == ("__debug__" : Str)) = false := by decide) : RE X (.Name x pos) (mC (.int i)) := re_c (pe_glob hg hm r hd) fun F => by simp only [Rep]
theorem RelRs.lo {K : PySem.W.Frag} {w : Wd} {H : Hp} {σ : St} {s : S} {hi t1 t2 : Nat} (rs : List R) (xs : List V) (h : RelRs K w H σ s hi t1 rs xs) (ht : t2 ≤ t1) : RelRs K w H σ s hi t2 rs xs := by
  cases rs with
  | nil => exact h
  | cons r rs =>
    obtain ⟨x, q, τ, e, a1, a2, h1, h2⟩ := h
    exact ⟨x, q, τ, e, by omega, a2, h1, h2⟩
theorem ra_nil : RA X [] mNil := ⟨_, pa_nil, fun σ H w s t Q r s' ok e k => by
  cases e
  exact k w H [] t (Nat.le_refl _) ok .refl .refl rfl⟩
theorem ra_cons (h : RE X e m) (hr : RA X es ms) (hs : starEach (e :: es) X.env = (false, eval e X.env) :: starEach es X.env := by rfl) : RA X (e :: es) (mCons m ms) := by
  obtain ⟨te, h1, h2⟩ := h
  obtain ⟨ta, h3, h4⟩ := hr
  refine ⟨_, pa_cons h1 h3 hs, fun σ H w s t Q r s' ok e k => ?_⟩
  simp only [mCons] at e
  split at e
  · cases e
  · rename_i r1 s1 e1
    split at e
    · cases e
    · rename_i rs s2 e2
      cases e
      refine h2 σ H w s t _ r1 s1 ok e1 fun w1 H1 x t1 τ a1 a2 ok1 st1 sl1 rel1 => ?_
      refine h4 σ H1 w1 s1 t1 _ rs _ ok1 e2 fun w2 H2 xs t2 a3 ok2 st2 sl2 rel2 => ?_
      have l := ok.slen ok1
      have tN := ok.tN
      rw [l] at st2
      refine k w2 H2 (x :: xs) t2 (by omega) ok2 (st1.trans (st2.mono (by omega))) (sl1.trans sl2) ⟨x, xs, τ, rfl, a1, by omega, ?_, RelRs.lo rs xs rel2 (by omega)⟩
      exact RelR.keep ok1 rel1 (by rw [l]; exact st2) (by omega) (by omega) sl2
/-- what is made of a list of data -/
def MkS (K : PySem.W.Frag) (rd : List V → Hp → VK → Prop) (f : List D → Option R) : Prop := ∀ (w : Wd) (H : Hp) (σ : St) (s : S) (t : Nat) (us : List V) (xs : List D) (r : R) (Q : VK), OKs K w H σ s t → RepL K w.F xs us → f xs = some r →
  (∀ w' H' z, OKs K w' H' σ s (t + 1) → Step s.a.length t w H w' H' → RelR K w' H' σ s t r z → Q z H') → rd us H Q
theorem re_data {rd : List V → Hp → VK → Prop} {f : List D → Option R} (hp : ∀ ta, PA X es ta → PE X e (fun σ H Q => ta σ H fun us H1 => rd us H1 Q)) (hr : RA X es ms) (hm : MkS X.K rd f) : RE X e (mData ms f) := by
  obtain ⟨ta, h1, h2⟩ := hr
  refine ⟨_, hp ta h1, fun σ H w s t Q r s' ok e k => ?_⟩
  simp only [mData] at e
  split at e
  · cases e
  · rename_i rs s1 e1
    split at e
    · cases e
    · rename_i xs s2 e2
      split at e
      · cases e
      · rename_i r' e3
        cases e
        refine h2 σ H w s t _ rs s1 ok e1 fun w1 H1 us t1 a1 ok1 st1 sl1 rel1 => ?_
        have l := ok.slen ok1
        obtain ⟨w2, ok2, st2, rep, sl2, l2⟩ := takes_ok (t0 := t) rs us xs s1 s' w1 t ok1 rel1 e2 (Nat.le_refl _) (by rw [l]; exact ok.tN)
        refine hm w2 H1 σ s' t1 us xs r Q ok2 rep e3 fun w3 H3 z ok3 st3 rel3 => ?_
        rw [l] at st2
        rw [l2, l] at st3
        exact k w3 H3 z (t1 + 1) t1 a1 (Nat.lt_succ_self _) ok3 ((st1.trans st2).trans (st3.mono a1)) (sl1.trans sl2) rel3
end
end Qz
namespace Qz
open PySem PySem.Spec L2
open PyProof.Rows hiding St

section
variable {K : PySem.W.Frag} {n t : Nat} {w w' : Wd} {H H' : Hp} {σ : St} {s s' : S}
theorem mk_tup : MkS K (fun us H Q => us.length ≤ sizeLine ∧ ∀ p, H p = none → Q (.ref p) (upd H p (.tup us))) dTup := by
  intro w H σ s t us xs r Q ok rep e k
  simp only [dTup] at e
  split at e
  · rename_i h
    cases e
    refine ⟨by rw [← RepL.length xs us rep]; exact h, fun p hp => ?_⟩
    refine k (w.lay p (.tup us)) _ _ ((lay_ok ok hp).up (Nat.le_succ _)) (lay_step ok hp) ?_
    simp only [RelR, Rep]
    exact ⟨p, us, rfl, upd_same, RepL.mono (lay_step (t0 := t) (n := 0) ok hp).F xs us rep⟩
  · cases e
theorem mk_lst : MkS K (fun us H Q => us.length ≤ sizeLine ∧ ∀ p, H p = none → Q (.ref p) (upd H p (.lst us))) dLst := by
  intro w H σ s t us xs r Q ok rep e k
  simp only [dLst] at e
  split at e
  · rename_i h
    cases e
    refine ⟨by rw [← RepL.length xs us rep]; exact h, fun p hp => ?_⟩
    refine k (w.give p t) _ _ (give_ok ok hp) (give_step ok hp) ?_
    exact ⟨p, us, rfl, by show (if p = p then some t else w.O p) = some t; rw [if_pos rfl], upd_same, rep⟩
  · cases e
end
section
variable {X : Cx} {e a b : Expr} {es : List Expr} {m m1 m2 : ME} {ms : MA} {pos : Pos}
theorem re_tup {x1} (h : RA X es ms) : RE X (.Tuple es x1 pos) (mTup ms) := re_data (fun ta h => pe_tup h) h mk_tup
theorem re_lst (h : RA X es ms) : RE X (.List es pos) (mLst ms) := re_data (fun ta h => pe_lst h) h mk_lst

/-! ## two values: operators and comparisons -/
def OpS (K : PySem.W.Frag) (rd : R2) (f : D → D → Option R) : Prop := ∀ (w : Wd) (H : Hp) (σ : St) (s : S) (t : Nat) (u v : V) (x y : D) (r : R) (Q : VK), OKs K w H σ s t → Vw K w.F H x u → Vw K w.F H y v → f x y = some r →
  (∀ w' H' z, OKs K w' H' σ s (t + 1) → Step s.a.length t w H w' H' → RelR K w' H' σ s t r z → Q z H') → rd u v H Q
theorem op2_ok {K : PySem.W.Frag} {te1 te2 : TE} {rd : R2} {f : D → D → Option R} (h1 : SndE K te1 m1) (h2 : SndE K te2 m2) (hf : OpS K rd f) : SndE K (tOp rd te1 te2) (mOp f m1 m2) := by
  intro σ H w s t Q r s' ok e k
  simp only [mOp] at e
  split at e
  · cases e
  · rename_i r1 s1 e1
    split at e
    · cases e
    · rename_i r2 s2 e2
      split at e
      · cases e
      · rename_i x e3
        split at e
        · cases e
        · rename_i y e4
          split at e
          · cases e
          · rename_i r' e5
            cases e
            refine h1 σ H w s t _ r1 s1 ok e1 fun w1 H1 u t1 τ1 a1 a2 ok1 st1 sl1 rel1 => ?_
            refine h2 σ H1 w1 s1 t1 _ r2 _ ok1 e2 fun w2 H2 v t2 τ2 b1 b2 ok2 st2 sl2 rel2 => ?_
            have l := ok.slen ok1
            have l2 := ok.slen ok2
            have tN := ok.tN
            have rel1' := RelR.keep ok1 rel1 st2 (by omega) (by omega) sl2
            rw [l] at st2
            refine hf w2 H2 σ _ t2 u v x y r Q ok2 (RelR.view ok2 rel1' e3) (RelR.view ok2 rel2 e4) e5 fun w3 H3 z ok3 st3 rel3 => ?_
            rw [l2] at st3
            exact k w3 H3 z (t2 + 1) t2 (by omega) (Nat.lt_succ_self _) ok3 ((st1.trans (st2.mono (by omega))).trans (st3.mono (by omega))) (sl1.trans sl2) rel3
theorem re_op {op : Operator} {rd : R2} {f : D → D → Option R} (ho : OpR X (binaryOp op) rd) (hf : OpS X.K rd f) (ha : RE X a m1) (hb : RE X b m2) : RE X (.BinOp a op b pos) (mOp f m1 m2) := by
  obtain ⟨t1, p1, h1⟩ := ha
  obtain ⟨t2, p2, h2⟩ := hb
  exact ⟨_, pe_op ho p1 p2, op2_ok h1 h2 hf⟩
theorem re_cmp {op : CmpOp} {rd : R2} {f : D → D → Option R} (ho : OpR X (compareOp op) rd) (hf : OpS X.K rd f) (ha : RE X a m1) (hb : RE X b m2) (hm : behindInMarks op b = false) : RE X (.Compare a [op] [b] pos) (mOp f m1 m2) := by
  obtain ⟨t1, p1, h1⟩ := ha
  obtain ⟨t2, p2, h2⟩ := hb
  exact ⟨_, pe_cmpR ho p1 p2 hm, op2_ok h1 h2 hf⟩
/-- a value that is a bool, as a test -/
def mB (m : ME) : MT := fun s => match m s with
  | .ok (.d (.bool b)) s1 => .ok b s1
  | _ => .no
theorem b_ok {K : PySem.W.Frag} {te : TE} (h : SndE K te m) : SndT K (fun σ H Q => te σ H fun x H' => ∃ k, x = .bl k ∧ Q k H') (mB m) := by
  intro σ H w s t Q b s' ok e k
  simp only [mB] at e
  split at e
  · rename_i b' s1 e1
    cases e
    refine h σ H w s t _ _ _ ok e1 fun w1 H1 x t1 τ a1 a2 ok1 st1 sl1 rel1 => ?_
    simp only [RelR, Rep] at rel1
    exact ⟨_, rel1, k w1 H1 t1 (by omega) ok1 st1 sl1⟩
  · cases e
theorem rt_cmp {op : CmpOp} {rd : R2} {f : D → D → Option R} (ho : OpR X (compareOp op) rd) (hf : OpS X.K rd f) (ha : RE X a m1) (hb : RE X b m2) (hm : behindInMarks op b = false) : RT X (.Compare a [op] [b] pos) (mB (mOp f m1 m2)) := by
  obtain ⟨t1, p1, h1⟩ := ha
  obtain ⟨t2, p2, h2⟩ := hb
  exact ⟨_, pt_cmpR ho p1 p2 hm, b_ok (op2_ok h1 h2 hf)⟩
theorem rt_val (h : RE X e m) (he : ∀ whole, isTrue e X.env whole = (do let v ← whole; standAt e.pos; holding [v] (truthy v)) := by intro _; rfl) : RT X e (mB m) := by
  obtain ⟨t1, p1, h1⟩ := h
  exact ⟨_, pt_val p1 he, b_ok h1⟩

/-! ## tests -/
def mAnd (a b : MT) : MT := fun s => match a s with
  | .no => .no
  | .ok true s1 => b s1
  | .ok false s1 => .ok false s1
def mOr (a b : MT) : MT := fun s => match a s with
  | .no => .no
  | .ok true s1 => .ok true s1
  | .ok false s1 => b s1
def mNot (a : MT) : MT := fun s => match a s with
  | .no => .no
  | .ok c s1 => .ok (!c) s1
variable {ta tb : MT} {rest : List Expr}
theorem and_ok {K : PySem.W.Frag} {t1 t2 : TT} (h1 : SndT K t1 ta) (h2 : SndT K t2 tb) : SndT K (tAnd t1 t2) (mAnd ta tb) := by
  intro σ H w s t Q b s' ok e k
  simp only [mAnd] at e
  split at e
  · cases e
  · rename_i s1 e1
    refine h1 σ H w s t _ true s1 ok e1 fun w1 H1 t1 a1 ok1 st1 sl1 => ?_
    rw [if_pos rfl]
    refine h2 σ H1 w1 s1 t1 _ b s' ok1 e fun w2 H2 t2 a2 ok2 st2 sl2 => ?_
    rw [ok.slen ok1] at st2
    exact k w2 H2 t2 (by omega) ok2 (st1.trans (st2.mono a1)) (sl1.trans sl2)
  · rename_i s1 e1
    cases e
    refine h1 σ H w s t _ false _ ok e1 fun w1 H1 t1 a1 ok1 st1 sl1 => ?_
    rw [if_neg Bool.false_ne_true]
    exact k w1 H1 t1 a1 ok1 st1 sl1
theorem or_ok {K : PySem.W.Frag} {t1 t2 : TT} (h1 : SndT K t1 ta) (h2 : SndT K t2 tb) : SndT K (tOr t1 t2) (mOr ta tb) := by
  intro σ H w s t Q b s' ok e k
  simp only [mOr] at e
  split at e
  · cases e
  · rename_i s1 e1
    cases e
    refine h1 σ H w s t _ true _ ok e1 fun w1 H1 t1 a1 ok1 st1 sl1 => ?_
    rw [if_pos rfl]
    exact k w1 H1 t1 a1 ok1 st1 sl1
  · rename_i s1 e1
    refine h1 σ H w s t _ false s1 ok e1 fun w1 H1 t1 a1 ok1 st1 sl1 => ?_
    rw [if_neg Bool.false_ne_true]
    refine h2 σ H1 w1 s1 t1 _ b s' ok1 e fun w2 H2 t2 a2 ok2 st2 sl2 => ?_
    rw [ok.slen ok1] at st2
    exact k w2 H2 t2 (by omega) ok2 (st1.trans (st2.mono a1)) (sl1.trans sl2)
theorem not_ok {K : PySem.W.Frag} {t1 : TT} (h1 : SndT K t1 ta) : SndT K (tNot t1) (mNot ta) := by
  intro σ H w s t Q b s' ok e k
  simp only [mNot] at e
  split at e
  · cases e
  · rename_i c s1 e1
    cases e
    exact h1 σ H w s t _ c _ ok e1 fun w1 H1 t1 a1 ok1 st1 sl1 => k w1 H1 t1 a1 ok1 st1 sl1
theorem rw_and1 (h : RT X a ta) : RW X (.BoolOp .And [a] pos) ta := let ⟨t, p, q⟩ := h.ex; ⟨t, pw_and1 p, q⟩
theorem rw_or1 (h : RT X a ta) : RW X (.BoolOp .Or [a] pos) ta := let ⟨t, p, q⟩ := h.ex; ⟨t, pw_or1 p, q⟩
theorem rw_and (h : RT X a ta) (hr : RW X (.BoolOp .And (b :: rest) pos) tb) : RW X (.BoolOp .And (a :: b :: rest) pos) (mAnd ta tb) :=
  let ⟨t, p, q⟩ := h.ex; let ⟨t2, p2, q2⟩ := hr.ex; ⟨_, pw_and p p2, and_ok q q2⟩
theorem rw_or (h : RT X a ta) (hr : RW X (.BoolOp .Or (b :: rest) pos) tb) : RW X (.BoolOp .Or (a :: b :: rest) pos) (mOr ta tb) :=
  let ⟨t, p, q⟩ := h.ex; let ⟨t2, p2, q2⟩ := hr.ex; ⟨_, pw_or p p2, or_ok q q2⟩
theorem RW.rt (h : RW X e ta) : RT X e ta := let ⟨t, p, q⟩ := h.ex; ⟨t, p.pt, q⟩
theorem rt_not (h : RT X a ta) : RT X (.UnaryOp .Not a pos) (mNot ta) := let ⟨t, p, q⟩ := h.ex; ⟨_, pt_not p, not_ok q⟩
/-- .. as values, all of them bools -/
def mAndV (a b : ME) : ME := fun s => match a s with
  | .ok (.d (.bool true)) s1 => b s1
  | .ok (.d (.bool false)) s1 => .ok (.d (.bool false)) s1
  | _ => .no
def mOrV (a b : ME) : ME := fun s => match a s with
  | .ok (.d (.bool true)) s1 => .ok (.d (.bool true)) s1
  | .ok (.d (.bool false)) s1 => b s1
  | _ => .no
def mNotV (a : ME) : ME := fun s => match a s with
  | .ok (.d (.bool c)) s1 => .ok (.d (.bool (!c))) s1
  | _ => .no
def mIte (c : MT) (a b : ME) : ME := fun s => match c s with
  | .no => .no
  | .ok true s1 => a s1
  | .ok false s1 => b s1
theorem re_one {op} (h : RE X a m) : RE X (.BoolOp op [a] pos) m := let ⟨t, p, q⟩ := h.ex; ⟨t, pe_one p, q⟩
theorem re_and (h : RE X a m1) (hr : RE X (.BoolOp .And (b :: rest) pos) m2) : RE X (.BoolOp .And (a :: b :: rest) pos) (mAndV m1 m2) := by
  obtain ⟨t1, p1, h1⟩ := h
  obtain ⟨t2, p2, h2⟩ := hr
  refine ⟨_, pe_and p1 p2, fun σ H w s t Q r s' ok e k => ?_⟩
  simp only [mAndV] at e
  split at e
  · rename_i s1 e1
    refine h1 σ H w s t _ _ s1 ok e1 fun w1 H1 x t1 τ a1 a2 ok1 st1 sl1 rel1 => ?_
    simp only [RelR, Rep] at rel1
    refine ⟨true, rel1, iteT ?_⟩
    refine h2 σ H1 w1 s1 t1 _ r s' ok1 e fun w2 H2 y t2 τ2 b1 b2 ok2 st2 sl2 rel2 => ?_
    rw [ok.slen ok1] at st2
    exact k w2 H2 y t2 τ2 (by omega) b2 ok2 (st1.trans (st2.mono (by omega))) (sl1.trans sl2) rel2
  · rename_i s1 e1
    cases e
    refine h1 σ H w s t _ _ _ ok e1 fun w1 H1 x t1 τ a1 a2 ok1 st1 sl1 rel1 => ?_
    have rel2 := rel1
    simp only [RelR, Rep] at rel1
    subst rel1
    exact ⟨false, rfl, iteF (k w1 H1 _ t1 τ a1 a2 ok1 st1 sl1 rel2)⟩
  · cases e
theorem re_or (h : RE X a m1) (hr : RE X (.BoolOp .Or (b :: rest) pos) m2) : RE X (.BoolOp .Or (a :: b :: rest) pos) (mOrV m1 m2) := by
  obtain ⟨t1, p1, h1⟩ := h
  obtain ⟨t2, p2, h2⟩ := hr
  refine ⟨_, pe_or p1 p2, fun σ H w s t Q r s' ok e k => ?_⟩
  simp only [mOrV] at e
  split at e
  · rename_i s1 e1
    cases e
    refine h1 σ H w s t _ _ _ ok e1 fun w1 H1 x t1 τ a1 a2 ok1 st1 sl1 rel1 => ?_
    have rel2 := rel1
    simp only [RelR, Rep] at rel1
    subst rel1
    exact ⟨true, rfl, iteT (k w1 H1 _ t1 τ a1 a2 ok1 st1 sl1 rel2)⟩
  · rename_i s1 e1
    refine h1 σ H w s t _ _ s1 ok e1 fun w1 H1 x t1 τ a1 a2 ok1 st1 sl1 rel1 => ?_
    simp only [RelR, Rep] at rel1
    refine ⟨false, rel1, iteF ?_⟩
    refine h2 σ H1 w1 s1 t1 _ r s' ok1 e fun w2 H2 y t2 τ2 b1 b2 ok2 st2 sl2 rel2 => ?_
    rw [ok.slen ok1] at st2
    exact k w2 H2 y t2 τ2 (by omega) b2 ok2 (st1.trans (st2.mono (by omega))) (sl1.trans sl2) rel2
  · cases e
theorem re_not (h : RE X a m1) : RE X (.UnaryOp .Not a pos) (mNotV m1) := by
  obtain ⟨t1, p1, h1⟩ := h
  refine ⟨_, pe_not p1, fun σ H w s t Q r s' ok e k => ?_⟩
  simp only [mNotV] at e
  split at e
  · rename_i c s1 e1
    cases e
    refine h1 σ H w s t _ _ _ ok e1 fun w1 H1 x t1 τ a1 a2 ok1 st1 sl1 rel1 => ?_
    simp only [RelR, Rep] at rel1
    exact ⟨c, rel1, k w1 H1 _ t1 τ a1 a2 ok1 st1 sl1 (by simp only [RelR, Rep])⟩
  · cases e
theorem re_ite {c : Expr} {mc : MT} (hc : RT X c mc) (ha : RE X a m1) (hb : RE X b m2) : RE X (.IfExp c a b pos) (mIte mc m1 m2) := by
  obtain ⟨t0, p0, h0⟩ := hc
  obtain ⟨t1, p1, h1⟩ := ha
  obtain ⟨t2, p2, h2⟩ := hb
  refine ⟨_, pe_ifExp p0 p1 p2, fun σ H w s t Q r s' ok e k => ?_⟩
  simp only [mIte] at e
  split at e
  · cases e
  · rename_i s1 e1
    refine h0 σ H w s t _ _ s1 ok e1 fun w1 H1 t1 a1 ok1 st1 sl1 => iteT ?_
    refine h1 σ H1 w1 s1 t1 _ r s' ok1 e fun w2 H2 y t2 τ2 b1 b2 ok2 st2 sl2 rel2 => ?_
    rw [ok.slen ok1] at st2
    exact k w2 H2 y t2 τ2 (by omega) b2 ok2 (st1.trans (st2.mono (by omega))) (sl1.trans sl2) rel2
  · rename_i s1 e1
    refine h0 σ H w s t _ _ s1 ok e1 fun w1 H1 t1 a1 ok1 st1 sl1 => iteF ?_
    refine h2 σ H1 w1 s1 t1 _ r s' ok1 e fun w2 H2 y t2 τ2 b1 b2 ok2 st2 sl2 rel2 => ?_
    rw [ok.slen ok1] at st2
    exact k w2 H2 y t2 τ2 (by omega) b2 ok2 (st1.trans (st2.mono (by omega))) (sl1.trans sl2) rel2
end
end Qz
namespace Qz
open PySem PySem.Spec L2
open PyProof.Rows hiding St

/-! ## reading views -/
section
variable {K : PySem.W.Frag} {F H : Hp} {u : V}
theorem Vw.int {i : Int} (h : Vw K F H (.int i) u) : u = .int i := by
  rcases h with h | ⟨_, _, _, e, _⟩ | ⟨_, _, _, e, _⟩
  · simpa only [Rep] using h
  · cases e
  · cases e
theorem Vw.bool {i : Bool} (h : Vw K F H (.bool i) u) : u = .bl i := by
  rcases h with h | ⟨_, _, _, e, _⟩ | ⟨_, _, _, e, _⟩
  · simpa only [Rep] using h
  · cases e
  · cases e
theorem Vw.str {i : Str} (h : Vw K F H (.str i) u) : u = .str i := by
  rcases h with h | ⟨_, _, _, e, _⟩ | ⟨_, _, _, e, _⟩
  · simpa only [Rep] using h
  · cases e
  · cases e
theorem Vw.non (h : Vw K F H .none u) : u = .non := by
  rcases h with h | ⟨_, _, _, e, _⟩ | ⟨_, _, _, e, _⟩
  · simpa only [Rep] using h
  · cases e
  · cases e
theorem Vw.tup {ds : List D} (h : Vw K F H (.tuple ds) u) : ∃ a xs, u = .ref a ∧ F a = some (.tup xs) ∧ RepL K F ds xs := by
  rcases h with h | ⟨_, _, _, e, _⟩ | ⟨_, _, _, e, _⟩
  · simpa only [Rep] using h
  · cases e
  · cases e
theorem Vw.lst {ds : List D} (h : Vw K F H (.list ds) u) (sub : Same F H) : ∃ a xs, u = .ref a ∧ SqL K H a xs ∧ RepL K F ds xs := by
  rcases h with h | ⟨a, xs, es, e, e2, h1, h2⟩ | ⟨_, _, _, e, _⟩
  · simp only [Rep] at h
    obtain ⟨a, xs, e, h1, h2⟩ := h
    exact ⟨a, xs, e, sub.seq h1, h2⟩
  · cases e
    exact ⟨a, xs, e2, .of h1, h2⟩
  · cases e
theorem Vw.dp {d : D} (h : Vw K F H d u) (sub : Same F H) (n : d.hasDict = false) : Dp K H u d := by
  rcases h with h | ⟨a, xs, es, rfl, rfl, h1, h2⟩ | ⟨_, _, _, rfl, _⟩
  · exact Rep.dp sub d u h n
  · exact .lst (.of h1) (RepL.dp sub es xs h2 (by simpa only [PyData.hasDict] using n))
  · simp only [PyData.hasDict] at n; cases n
end

/-! ## the operators over data -/
def dAdd : D → D → Option R
  | .int i, .int j => some (.d (.int (i + j)))
  | .tuple a, .tuple b => if a.length + b.length ≤ sizeLine then some (.d (.tuple (a ++ b))) else none
  | .list a, .list b => if a.length + b.length ≤ sizeLine then some (.o (.lst (a ++ b))) else none
  | .str a, .str b => if a.length + b.length ≤ sizeLine then some (.d (.str (a ++ b))) else none
  | _, _ => none
def dSub : D → D → Option R
  | .int i, .int j => some (.d (.int (i - j)))
  | _, _ => none
def mulOk (i j : Int) : Bool := (decide (-(2 ^ 64) < i) && decide (i < 2 ^ 64)) || (decide (-(2 ^ 64) < j) && decide (j < 2 ^ 64)) || (decide (i.natAbs < 2 ^ 1000) && decide (j.natAbs < 2 ^ 1000))
def CMulB (i j : Int) : Prop := CMul i j ∨ (i.natAbs < 2 ^ 1000 ∧ j.natAbs < 2 ^ 1000)
theorem op_mulB {X : Cx} : OpR X (binaryOp .Mult) (rI CMulB fun i j => .int (i * j)) := opI fun i j _ _ _ _ _ hc q => by
  refine mul_int q ?_
  rcases hc with h | ⟨h1, h2⟩
  · exact h.ok
  · exact mulOk_of_bits (intBits_le_iff.mpr h1) (intBits_le_iff.mpr h2) (by decide)
def CDivB (i j : Int) : Prop := 0 < j ∧ j < 1267650600228229401496703205376
theorem op_fdivB {X : Cx} : OpR X (binaryOp .FloorDiv) (rI CDivB fun i j => .int (i / j)) := opI fun i j _ _ _ _ _ hc q => by
  have h1 : (0 : Int) < j := hc.1
  have h2 : j < 1267650600228229401496703205376 := hc.2
  refine floordiv_int (by omega) (by rw [Int.fdiv_eq_ediv_of_nonneg i (by omega)]; exact q) (.inl (PyProof.noPylong_of_log2 ?_))
  refine (Nat.log2_lt (by omega)).mpr (Nat.lt_of_lt_of_le (show j.natAbs < 2 ^ 100 by omega) (Nat.pow_le_pow_right (by decide) (by decide)))
def dMul : D → D → Option R
  | .int i, .int j => if mulOk i j then some (.d (.int (i * j))) else none
  | _, _ => none
def CDivC (i j : Int) : Prop := j ≠ 0 ∧ -1267650600228229401496703205376 < j ∧ j < 1267650600228229401496703205376
theorem op_fdivC {X : Cx} : OpR X (binaryOp .FloorDiv) (rI CDivC fun i j => .int (i.fdiv j)) := opI fun i j _ _ _ _ _ hc q => by
  obtain ⟨h1, h2, h3⟩ := hc
  refine floordiv_int h1 q (.inl (PyProof.noPylong_of_log2 ?_))
  refine (Nat.log2_lt (by omega)).mpr (Nat.lt_of_lt_of_le (show j.natAbs < 2 ^ 100 by omega) (Nat.pow_le_pow_right (by decide) (by decide)))
def dFdiv : D → D → Option R
  | .int i, .int j => if j ≠ 0 ∧ -1267650600228229401496703205376 < j ∧ j < 1267650600228229401496703205376 then some (.d (.int (i.fdiv j))) else none
  | _, _ => none
def dMod : D → D → Option R
  | .int i, .int j => if 0 < j then some (.d (.int (i % j))) else none
  | _, _ => none
def dPow : D → D → Option R
  | .int i, .int j => if 0 ≤ j ∧ j ≤ 1000000 ∧ i.natAbs < 2 ^ 64 then some (.d (.int (i ^ j.toNat))) else none
  | _, _ => none
def dNeg : D → Option R
  | .int i => some (.d (.int (-i)))
  | _ => none
def eqOk (x y : D) : Bool := !x.hasDict && !y.hasDict && SeqAt.shaped x && SeqAt.shaped y
def dEq (x y : D) : Option R := if eqOk x y then some (.d (.bool (PyData.eqv x y))) else none
def dNe (x y : D) : Option R := if eqOk x y then some (.d (.bool (!PyData.eqv x y))) else none
def dCmp (p : Int → Int → Bool) : D → D → Option R
  | .int i, .int j => some (.d (.bool (p i j)))
  | _, _ => none
def isNoneD : D → Bool
  | .none => true
  | _ => false
def dIsN (x : D) (y : D) : Option R := match y with
  | .none => some (.d (.bool (isNoneD x)))
  | _ => none
def dNotN (x : D) (y : D) : Option R := match y with
  | .none => some (.d (.bool (!(isNoneD x))))
  | _ => none
def dIdx : D → D → Option R
  | .tuple a, .int i => (atI a i).map .d
  | .list a, .int i => (atI a i).map .d
  | _, _ => none
def cutG {α : Type} (xs : List α) (lo hi : Option Int) : List α := (xs.drop (HT.sIx xs.length 0 lo)).take (HT.sIx xs.length xs.length hi - HT.sIx xs.length 0 lo)

section
variable {X : Cx}
/-- scalars: the heap stays -/
theorem s_d {K : PySem.W.Frag} {w : Wd} {H : Hp} {σ : St} {s : S} {t : Nat} {x : D} {v : V} {Q : VK} (ok : OKs K w H σ s t)
    (k : ∀ w' H' z, OKs K w' H' σ s (t + 1) → Step s.a.length t w H w' H' → RelR K w' H' σ s t (.d x) z → Q z H') (h : Rep K w.F x v) : Q v H :=
  k w H v (ok.up (Nat.le_succ _)) .refl h
theorem op_catL : OpR X (binaryOp .Add) (fun x y H Q => ∃ l b xs zs, x = .ref l ∧ y = .ref b ∧ SqL X.K H l xs ∧ SqL X.K H b zs ∧ xs.length + zs.length ≤ sizeLine ∧ ∀ p, H p = none → Q (.ref p) (upd H p (.lst (xs ++ zs)))) := by
  intro pins s σ H x y v u Q I rx ry h
  obtain ⟨l, b, xs, zs, rfl, rfl, hH, hB, hz, q⟩ := h
  cases rx
  cases ry
  obtain ⟨its, r, ⟨⟨cls, dd, data, sl⟩, n, ho, hc, hdd, hd⟩, hz1⟩ := I.list hH
  obtain ⟨its2, r2, ⟨⟨cls2, dd2, data2, sl2⟩, n2, ho2, hc2, hdd2, hd2⟩, hz2⟩ := I.list hB
  simp only at hc hd hc2 hd2
  subst hc hd hc2 hd2
  have e : its.toArray ++ its2.toArray = (its ++ its2).toArray := by simp
  refine concat_meets ⟨_, ho, rfl⟩ ⟨_, ho2, rfl⟩ noFill_list_add seq_list_add PySem.F.slot_list_add PySem.F.entry_list_add (PySem.F.args_list_add_2 _ _)
    (list_addW l b its.toArray its2.toArray n n2 dd dd2 sl sl2 (by rw [List.size_toArray, List.size_toArray, ← r.length, ← r2.length]; exact hz)) ⟨ho, ho2, ?_⟩
  rw [e]
  exact ⟨.ref _, _, I.lnew (t' := s.toks) (r.append r2) (by rw [List.length_append]; omega), rfl, q _ I.fresh⟩
def rAdd4 (K : PySem.W.Frag) : R2 := fun x y H Q =>
  rI0 (fun i j => .int (i + j)) x y H Q ∨ (rCatA K x y H Q ∨ ((∃ l b xs zs, x = .ref l ∧ y = .ref b ∧ SqL K H l xs ∧ SqL K H b zs ∧ xs.length + zs.length ≤ sizeLine ∧ ∀ p, H p = none → Q (.ref p) (upd H p (.lst (xs ++ zs)))) ∨
    ∃ i j, x = .str i ∧ y = .str j ∧ i.length + j.length ≤ sizeLine ∧ Q (.str (i ++ j)) H))
theorem o_add : OpR X (binaryOp .Add) (rAdd4 X.K) := op_add.or (op_catA.or (op_catL.or op_add_str))
theorem s_add {K : PySem.W.Frag} : OpS K (rAdd4 K) dAdd := by
  intro w H σ s t u v x y r Q ok hx hy e k
  unfold dAdd at e
  split at e
  · cases e
    rw [hx.int, hy.int]
    exact .inl ⟨_, _, rfl, rfl, s_d ok k (by simp only [Rep])⟩
  · rename_i a b
    split at e
    · rename_i hz
      cases e
      obtain ⟨p, xs, rfl, h1, h2⟩ := hx.tup
      obtain ⟨q, ys, rfl, h3, h4⟩ := hy.tup
      have l1 := RepL.length _ _ h2
      have l2 := RepL.length _ _ h4
      refine .inr (.inl ⟨p, q, xs, ys, rfl, rfl, SqT.of (ok.sub _ _ h1), SqT.of (ok.sub _ _ h3), by omega, fun hn => ?_, fun _ hn => ?_, fun _ _ c hc => ?_⟩)
      · refine s_d ok k ?_
        have : a = [] := by cases a with | nil => rfl | cons _ _ => rw [hn] at l1; simp at l1
        subst this
        simp only [Rep]
        exact ⟨q, ys, rfl, h3, h4⟩
      · refine s_d ok k ?_
        have : b = [] := by cases b with | nil => rfl | cons _ _ => rw [hn] at l2; simp at l2
        subst this
        simp only [Rep, List.append_nil]
        exact ⟨p, xs, rfl, h1, h2⟩
      · refine k (w.lay c _) _ _ ((lay_ok ok hc).up (Nat.le_succ _)) (lay_step ok hc) ?_
        simp only [RelR, Rep]
        have m := (lay_step (o := .tup (xs ++ ys)) (t0 := t) (n := 0) ok hc).F
        exact ⟨c, _, rfl, upd_same, RepL.append _ _ (RepL.mono m _ _ h2) (RepL.mono m _ _ h4)⟩
    · cases e
  · rename_i a b
    split at e
    · rename_i hz
      cases e
      obtain ⟨p, xs, rfl, h1, h2⟩ := hx.lst ok.sub
      obtain ⟨q, ys, rfl, h3, h4⟩ := hy.lst ok.sub
      have l1 := RepL.length _ _ h2
      have l2 := RepL.length _ _ h4
      refine .inr (.inr (.inl ⟨p, q, xs, ys, rfl, rfl, h1, h3, by omega, fun c hc => ?_⟩))
      refine k (w.give c t) _ _ (give_ok ok hc) (give_step ok hc) ?_
      exact ⟨c, _, rfl, by show (if c = c then some t else w.O c) = some t; rw [if_pos rfl], upd_same, RepL.append _ _ h2 h4⟩
    · cases e
  · split at e
    · rename_i hz
      cases e
      rw [hx.str, hy.str]
      exact .inr (.inr (.inr ⟨_, _, rfl, rfl, hz, s_d ok k (by simp only [Rep])⟩))
    · cases e
  · cases e
theorem s_sub {K : PySem.W.Frag} : OpS K (rI0 fun i j => .int (i - j)) dSub := by
  intro w H σ s t u v x y r Q ok hx hy e k
  unfold dSub at e
  split at e
  · cases e
    rw [hx.int, hy.int]
    exact ⟨_, _, rfl, rfl, s_d ok k (by simp only [Rep])⟩
  · cases e
theorem s_mul {K : PySem.W.Frag} : OpS K (rI CMulB fun i j => .int (i * j)) dMul := by
  intro w H σ s t u v x y r Q ok hx hy e k
  unfold dMul at e
  split at e
  · split at e
    · rename_i hc
      cases e
      rw [hx.int, hy.int]
      refine ⟨_, _, rfl, rfl, ?_, s_d ok k (by simp only [Rep])⟩
      simp only [mulOk, Bool.or_eq_true, Bool.and_eq_true, decide_eq_true_eq] at hc
      exact hc
    · cases e
  · cases e
theorem s_fdiv {K : PySem.W.Frag} : OpS K (rI CDivC fun i j => .int (i.fdiv j)) dFdiv := by
  intro w H σ s t u v x y r Q ok hx hy e k
  unfold dFdiv at e
  split at e
  · split at e
    · rename_i hc
      cases e
      rw [hx.int, hy.int]
      exact ⟨_, _, rfl, rfl, hc, s_d ok k (by simp only [Rep])⟩
    · cases e
  · cases e
theorem s_mod {K : PySem.W.Frag} : OpS K (rI (fun _ j => 0 < j) fun i j => .int (i % j)) dMod := by
  intro w H σ s t u v x y r Q ok hx hy e k
  unfold dMod at e
  split at e
  · split at e
    · rename_i hc
      cases e
      rw [hx.int, hy.int]
      exact ⟨_, _, rfl, rfl, hc, s_d ok k (by simp only [Rep])⟩
    · cases e
  · cases e
theorem s_pow {K : PySem.W.Frag} : OpS K (rI CPow fun i j => .int (i ^ j.toNat)) dPow := by
  intro w H σ s t u v x y r Q ok hx hy e k
  unfold dPow at e
  split at e
  · split at e
    · rename_i hc
      cases e
      rw [hx.int, hy.int]
      exact ⟨_, _, rfl, rfl, hc, s_d ok k (by simp only [Rep])⟩
    · cases e
  · cases e
theorem s_cmp {K : PySem.W.Frag} {p : Int → Int → Bool} : OpS K (rI0 fun i j => .bl (p i j)) (dCmp p) := by
  intro w H σ s t u v x y r Q ok hx hy e k
  unfold dCmp at e
  split at e
  · cases e
    rw [hx.int, hy.int]
    exact ⟨_, _, rfl, rfl, s_d ok k (by simp only [Rep])⟩
  · cases e
theorem s_eq {K : PySem.W.Frag} : OpS K (rEqD K) dEq := by
  intro w H σ s t u v x y r Q ok hx hy e k
  unfold dEq at e
  split at e
  · rename_i hc
    cases e
    simp only [eqOk, Bool.and_eq_true, Bool.not_eq_true'] at hc
    obtain ⟨⟨⟨h1, h2⟩, h3⟩, h4⟩ := hc
    exact ⟨x, y, hx.dp ok.sub h1, hy.dp ok.sub h2, h3, h4, s_d ok k (by simp only [Rep])⟩
  · cases e
theorem s_ne {K : PySem.W.Frag} : OpS K (rNeD K) dNe := by
  intro w H σ s t u v x y r Q ok hx hy e k
  unfold dNe at e
  split at e
  · rename_i hc
    cases e
    simp only [eqOk, Bool.and_eq_true, Bool.not_eq_true'] at hc
    obtain ⟨⟨⟨h1, h2⟩, h3⟩, h4⟩ := hc
    exact ⟨x, y, hx.dp ok.sub h1, hy.dp ok.sub h2, h3, h4, s_d ok k (by simp only [Rep])⟩
  · cases e
theorem Vw.isNon {K : PySem.W.Frag} {F H : Hp} {u : V} {x : D} (h : Vw K F H x u) : decide (u = .non) = isNoneD x := by
  rcases h with h | ⟨_, _, _, rfl, rfl, _⟩ | ⟨_, _, _, rfl, rfl, _⟩
  · cases x with
    | none => simp only [Rep] at h; subst h; rfl
    | bool b => simp only [Rep] at h; subst h; rfl
    | int b => simp only [Rep] at h; subst h; rfl
    | str b => simp only [Rep] at h; subst h; rfl
    | list b => simp only [Rep] at h; obtain ⟨_, _, rfl, _⟩ := h; rfl
    | tuple b => simp only [Rep] at h; obtain ⟨_, _, rfl, _⟩ := h; rfl
    | dict b => simp only [Rep] at h; obtain ⟨_, _, rfl, _⟩ := h; rfl
  · rfl
  · rfl
theorem s_isN {K : PySem.W.Frag} : OpS K (fun x y H Q => y = .non ∧ Q (.bl (decide (x = .non))) H) dIsN := by
  intro w H σ s t u v x y r Q ok hx hy e k
  unfold dIsN at e
  split at e
  · cases e
    exact ⟨hy.non, s_d ok k (by simp only [Rep]; rw [hx.isNon])⟩
  · cases e
theorem s_notN {K : PySem.W.Frag} : OpS K (fun x y H Q => y = .non ∧ Q (.bl (!decide (x = .non))) H) dNotN := by
  intro w H σ s t u v x y r Q ok hx hy e k
  unfold dNotN at e
  split at e
  · cases e
    exact ⟨hy.non, s_d ok k (by simp only [Rep]; rw [hx.isNon])⟩
  · cases e
theorem atI_rep {K : PySem.W.Frag} {F : Hp} {ds : List D} {xs : List V} {i : Int} {d : D} (h : RepL K F ds xs) (e : atI ds i = some d) : ∃ x, atI xs i = some x ∧ Rep K F d x := by
  unfold atI at e ⊢
  rw [← RepL.length _ _ h]
  cases q : ixN ds.length i with
  | none => rw [q] at e; cases e
  | some j =>
    rw [q] at e
    exact RepL.get ds xs j d h e
theorem s_idx {K : PySem.W.Frag} : OpS K (fun x y H Q => rIxL K x y H Q ∨ rIxT K x y H Q) dIdx := by
  intro w H σ s t u v x y r Q ok hx hy e k
  unfold dIdx at e
  split at e
  · rename_i a i
    simp only [Option.map_eq_some_iff] at e
    obtain ⟨d, e1, rfl⟩ := e
    obtain ⟨p, xs, rfl, h1, h2⟩ := hx.tup
    obtain ⟨z, h3, h4⟩ := atI_rep h2 e1
    rw [hy.int]
    exact .inr ⟨p, xs, i, z, rfl, rfl, SqT.of (ok.sub _ _ h1), h3, s_d ok k h4⟩
  · rename_i a i
    simp only [Option.map_eq_some_iff] at e
    obtain ⟨d, e1, rfl⟩ := e
    obtain ⟨p, xs, rfl, h1, h2⟩ := hx.lst ok.sub
    obtain ⟨z, h3, h4⟩ := atI_rep h2 e1
    rw [hy.int]
    exact .inl ⟨p, xs, i, z, rfl, rfl, h1, h3, s_d ok k h4⟩
  · cases e
variable {a b : Expr} {m1 m2 : ME} {pos : Pos}
theorem re_idx (ha : RE X a m1) (hb : RE X b m2) (hs : PlainIx b := by exact fun _ _ => rfl) : RE X (.Subscript a b pos) (mOp dIdx m1 m2) := by
  obtain ⟨t1, p1, h1⟩ := ha
  obtain ⟨t2, p2, h2⟩ := hb
  exact ⟨_, pe_ix (ix_list.or ix_tup) p1 p2 hs, op2_ok h1 h2 s_idx⟩
theorem re_neg (ha : RE X a m1) : RE X (.UnaryOp .USub a pos) (mUn dNeg m1) := by
  obtain ⟨t1, p1, h1⟩ := ha
  refine ⟨_, pe_un un_neg p1, fun σ H w s t Q r s' ok e k => ?_⟩
  simp only [mUn] at e
  split at e
  · cases e
  · rename_i r1 s1 e1
    split at e
    · cases e
    · rename_i x e2
      split at e
      · cases e
      · rename_i r' e3
        cases e
        refine h1 σ H w s t _ r1 _ ok e1 fun w1 H1 u t1 τ a1 a2 ok1 st1 sl1 rel1 => ?_
        have v := RelR.view ok1 rel1 e2
        unfold dNeg at e3
        split at e3
        · cases e3
          exact ⟨_, v.int, k w1 H1 _ t1 τ a1 a2 ok1 st1 sl1 (by simp only [RelR, Rep])⟩
        · cases e3

/-! ## slices -/
def mPart : Option ME → S → Out (Option Int)
  | none, s => .ok none s
  | some m, s => match m s with
    | .ok (.d (.int i)) s1 => .ok (some i) s1
    | _ => .no
structure RO (X : Cx) (e : Option Expr) (m : Option ME) : Prop where
  ex : ∃ t, PO X e t ∧ ∀ (σ : St) (H : Hp) (w : Wd) (s : S) (t0 : Nat) (Q : Option Int → Hp → Prop) (o : Option Int) (s' : S), OKs X.K w H σ s t0 → mPart m s = .ok o s' →
    (∀ w' H' t', t0 ≤ t' → OKs X.K w' H' σ s' t' → Step s.a.length t0 w H w' H' → Slotted s s' → Q o H') → t σ H Q
theorem ro_none : RO X none none := ⟨_, po_none, fun σ H w s t0 Q o s' ok e k => by cases e; exact k w H t0 (Nat.le_refl _) ok .refl .refl⟩
theorem ro_some (h : RE X a m1) : RO X (some a) (some m1) := by
  obtain ⟨t1, p1, h1⟩ := h
  refine ⟨_, po_some p1, fun σ H w s t0 Q o s' ok e k => ?_⟩
  simp only [mPart] at e
  split at e
  · rename_i i s1 e1
    cases e
    refine h1 σ H w s t0 _ _ _ ok e1 fun w1 H1 u t1 τ a1 a2 ok1 st1 sl1 rel1 => ?_
    simp only [RelR, Rep] at rel1
    exact ⟨i, rel1, k w1 H1 t1 (by omega) ok1 st1 sl1⟩
  · cases e
def dCut (x : D) (lo hi : Option Int) : Option R := match x with
  | .tuple a => some (.d (.tuple (cutG a lo hi)))
  | .list a => some (.o (.lst (cutG a lo hi)))
  | _ => none
def mCut (m : ME) (lo hi : Option ME) : ME := fun s => match m s with
  | .no => .no
  | .ok r s1 => match mPart lo s1 with
    | .no => .no
    | .ok l s2 => match mPart hi s2 with
      | .no => .no
      | .ok h s3 => match view s3 r with
        | none => .no
        | some x => match dCut x l h with
          | none => .no
          | some r' => .ok r' s3
theorem cut_rep {K : PySem.W.Frag} {F : Hp} {ds : List D} {xs : List V} (h : RepL K F ds xs) (lo hi : Option Int) : RepL K F (cutG ds lo hi) (cutV xs lo hi) := by
  unfold cutG cutV
  rw [RepL.length _ _ h]
  exact RepL.take _ _ _ (RepL.drop _ _ _ h)
theorem re_cut {lo hi : Option Expr} {ml mh : Option ME} {p2 : Pos} (he : RE X a m1) (hl : RO X lo ml) (hh : RO X hi mh) : RE X (.Subscript a (.Slice lo hi none p2) pos) (mCut m1 ml mh) := by
  obtain ⟨t1, p1, h1⟩ := he
  obtain ⟨tl, pl, h2⟩ := hl
  obtain ⟨th, ph, h3⟩ := hh
  refine ⟨_, pe_slice (sl_tupA.or sl_list) p1 pl ph, fun σ H w s t Q r s' ok e k => ?_⟩
  simp only [mCut] at e
  split at e
  · cases e
  · rename_i r1 s1 e1
    split at e
    · cases e
    · rename_i l s2 e2
      split at e
      · cases e
      · rename_i hv s3 e3
        split at e
        · cases e
        · rename_i x e4
          split at e
          · cases e
          · rename_i r' e5
            cases e
            refine h1 σ H w s t _ r1 s1 ok e1 fun w1 H1 u t1 τ1 a1 a2 ok1 st1 sl1 rel1 => ?_
            refine h2 σ H1 w1 s1 t1 _ l s2 ok1 e2 fun w2 H2 t2 b1 ok2 st2 sl2 => ?_
            refine h3 σ H2 w2 s2 t2 _ hv _ ok2 e3 fun w3 H3 t3 c1 ok3 st3 sl3 => ?_
            have l1 := ok.slen ok1
            have l2 := ok1.slen ok2
            have l3 := ok.slen ok3
            have tN := ok.tN
            rw [l2] at st3
            have st23 := st2.trans (st3.mono b1)
            have rel1' := RelR.keep ok1 rel1 st23 (by omega) (by omega) (sl2.trans sl3)
            have vw := RelR.view ok3 rel1' e4
            rw [l1] at st23
            have st := st1.trans (st23.mono (by omega))
            have sl := sl1.trans (sl2.trans sl3)
            unfold dCut at e5
            split at e5
            · rename_i ds
              cases e5
              obtain ⟨p, xs, rfl, q1, q2⟩ := vw.tup
              refine .inl ⟨p, xs, rfl, SqT.of (ok3.sub _ _ q1), fun hw => ?_, fun hw c hc => ?_⟩
              · refine k w3 H3 _ (t3 + 1) t3 (by omega) (Nat.lt_succ_self _) (ok3.up (Nat.le_succ _)) st sl ?_
                simp only [RelR, Rep]
                refine ⟨p, xs, rfl, q1, ?_⟩
                have z := cut_rep q2 l hv
                have ez : cutV xs l hv = xs := by
                  unfold cutV
                  rw [hw.1, hw.2]
                  simp
                rw [ez] at z
                exact z
              · refine k (w3.lay c _) _ _ (t3 + 1) t3 (by omega) (Nat.lt_succ_self _) ((lay_ok ok3 hc).up (Nat.le_succ _)) (st.trans (lay_step ok3 hc)) sl ?_
                simp only [RelR, Rep]
                have m := (lay_step (o := .tup (cutV xs l hv)) (t0 := t) (n := 0) ok3 hc).F
                exact ⟨c, _, rfl, upd_same, RepL.mono m _ _ (cut_rep q2 l hv)⟩
            · rename_i ds
              cases e5
              obtain ⟨p, xs, rfl, q1, q2⟩ := vw.lst ok3.sub
              refine .inr ⟨p, xs, rfl, q1, fun c hc => ?_⟩
              refine k (w3.give c t3) _ _ (t3 + 1) t3 (by omega) (Nat.lt_succ_self _) (give_ok ok3 hc) (st.trans ((give_step (n := s.a.length) ok3 hc).mono (by omega))) sl ?_
              exact ⟨c, _, rfl, by show (if c = c then some t3 else w3.O c) = some t3; rw [if_pos rfl], upd_same, cut_rep q2 l hv⟩
            · cases e5
end
end Qz
namespace Qz
open PySem PySem.Spec L2
open PyProof.Rows hiding St

/-! ## statements -/
section
variable (K : PySem.W.Frag)
structure EndsOk (D : Ends) (n : Nat) (w : Wd) (H : Hp) (f : Fl) (s' : S) : Prop where
  nx : f = .nx → ∀ (σ' : St) w' H', OKs K w' H' σ' s' n → s'.a.length = n → Step n n w H w' H' → D.nx σ' H'
  bk : f = .bk → ∀ (σ' : St) w' H', OKs K w' H' σ' s' n → s'.a.length = n → Step n n w H w' H' → D.bk σ' H'
  ct : f = .ct → ∀ (σ' : St) w' H', OKs K w' H' σ' s' n → s'.a.length = n → Step n n w H w' H' → D.ct σ' H'
  rt : ∀ r, f = .rt r → ∀ (σ' : St) w' H' x t' τ, n ≤ τ → τ < t' → OKs K w' H' σ' s' t' → s'.a.length = n → Step n n w H w' H' → RelR K w' H' σ' s' τ r x → D.rt x H'
def SndS (ts : TS) (m : MS) : Prop := ∀ (σ : St) (H : Hp) (w : Wd) (s : S) (D : Ends) (f : Fl) (s' : S), OKs K w H σ s s.a.length → m s = .ok f s' → EndsOk K D s.a.length w H f s' → ts D σ H
end
structure RS (X : Cx) (st : Stmt) (m : MS) : Prop where
  ex : ∃ ts, PS X st ts ∧ SndS X.K ts m
structure RSs (X : Cx) (st : List Stmt) (m : MS) : Prop where
  ex : ∃ ts, PSs X st ts ∧ SndS X.K ts m

section
variable {K : PySem.W.Frag} {n t t0 : Nat} {w w' w1 : Wd} {H H' H1 : Hp} {σ : St} {s s' : S}
theorem EndsOk.after {D : Ends} {f : Fl} (h : EndsOk K D n w H f s') (st : Step n n w H w1 H1) : EndsOk K D n w1 H1 f s' :=
  ⟨fun e σ' w' H' ok l st' => h.nx e σ' w' H' ok l (st.trans st'), fun e σ' w' H' ok l st' => h.bk e σ' w' H' ok l (st.trans st'), fun e σ' w' H' ok l st' => h.ct e σ' w' H' ok l (st.trans st'),
   fun r e σ' w' H' x t' τ a1 a2 ok l st' rel => h.rt r e σ' w' H' x t' τ a1 a2 ok l (st.trans st') rel⟩
/-- temporaries given up -/
def Wd.drop (w : Wd) (n : Nat) : Wd := { w with O := fun b => match w.O b with | some i => if i < n then some i else none | none => none }
theorem drop_of {a : Addr} {i n : Nat} (h : (w.drop n).O a = some i) : w.O a = some i ∧ i < n := by
  have h' : (match w.O a with | some i => if i < n then some i else none | none => none) = some i := h
  split at h'
  · rename_i j e
    split at h'
    · cases h'; exact ⟨e, by assumption⟩
    · cases h'
  · cases h'
theorem drop_at {a : Addr} {i n : Nat} (h : w.O a = some i) (hi : i < n) : (w.drop n).O a = some i := by
  show (match w.O a with | some i => if i < n then some i else none | none => none) = some i
  rw [h]
  exact if_pos hi
theorem drop_ok (ok : OKs K w H σ s t) (hn : s.a.length = n) : OKs K (w.drop n) H σ s n := by
  refine ⟨ok.sub, ok.len, fun i q v h1 h2 => SlR.mono (ok.sl i q v h1 h2) (Same.refl _) rfl (fun a ha => ⟨drop_at ha ?_, rfl⟩), fun a i e => ?_, Nat.le_of_eq hn, fun p g e => ?_, ok.nob⟩
  · have := (List.getElem?_eq_some_iff.mp h1).1
    omega
  · obtain ⟨e1, e2⟩ := drop_of e
    obtain ⟨h1, h2, h3⟩ := ok.own a i e1
    exact ⟨h1, h2, e2⟩
  · obtain ⟨b, o1, o2⟩ := ok.box p g e
    refine ⟨b, ?_, ?_⟩
    · cases q : (w.drop n).O p with
      | none => rfl
      | some i => obtain ⟨z, _⟩ := drop_of q; rw [o1] at z; cases z
    · cases q : (w.drop n).O g with
      | none => rfl
      | some i => obtain ⟨z, _⟩ := drop_of q; rw [o2] at z; cases z
theorem drop_step : Step n n w H (w.drop n) H where
  F := Same.refl _
  keep := fun _ _ h _ _ => h
  there := fun a o h => ⟨o, h⟩
  tmp := fun a i h h1 h2 => by omega
  newF := fun a h => .inl h
  newO := fun a i h => .inr (by rw [(drop_of h).1]; simp)
  newT := fun a i h _ => .inr (drop_of h).1
  B := .inl rfl
/-- what a result becomes when it is stored -/
def store (i : Nat) (s : S) (r : R) : Option S := if s.a.length ≤ i then none else match r with
  | .o c => some { s with a := s.a.set i (some (.o c)) }
  | .bx => some { s with a := s.a.set i (some .bx) }
  | _ => match take1 s r with
    | some (x, s1) => some { s1 with a := s1.a.set i (some (.d x)) }
    | none => none
def Wd.move (w : Wd) (τ i n : Nat) : Wd := { w with O := fun b => match w.O b with | some k => if k = τ then some i else if k = i then none else if k < n then some k else none | none => none }
theorem move_of {a : Addr} {τ i n k : Nat} (h : (w.move τ i n).O a = some k) : (w.O a = some τ ∧ k = i) ∨ (w.O a = some k ∧ k ≠ i ∧ k ≠ τ ∧ k < n) := by
  have h' : (match w.O a with | some k => if k = τ then some i else if k = i then none else if k < n then some k else none | none => none) = some k := h
  split at h'
  · rename_i j e
    split at h'
    · rename_i e2; subst e2; cases h'; exact .inl ⟨e, rfl⟩
    · split at h'
      · cases h'
      · split at h'
        · cases h'; exact .inr ⟨e, by assumption, by assumption, by assumption⟩
        · cases h'
  · cases h'
theorem move_at {a : Addr} {τ i n : Nat} (h : w.O a = some τ) : (w.move τ i n).O a = some i := by
  show (match w.O a with | some k => if k = τ then some i else if k = i then none else if k < n then some k else none | none => none) = some i
  rw [h]; exact if_pos rfl
theorem move_old {a : Addr} {τ i n k : Nat} (h : w.O a = some k) (h1 : k ≠ τ) (h2 : k ≠ i) (h3 : k < n) : (w.move τ i n).O a = some k := by
  show (match w.O a with | some k => if k = τ then some i else if k = i then none else if k < n then some k else none | none => none) = some k
  rw [h]
  show (if k = τ then some i else if k = i then none else if k < n then some k else none) = some k
  rw [if_neg h1, if_neg h2, if_pos h3]
theorem move_step {τ i : Nat} (hi : i < n) : Step n n w H (w.move τ i n) H where
  F := Same.refl _
  keep := fun _ _ h _ _ => h
  there := fun a o h => ⟨o, h⟩
  tmp := fun a i h h1 h2 => by omega
  newF := fun a h => .inl h
  newO := fun a k h => .inr (by rcases move_of h with ⟨e, _⟩ | ⟨e, _⟩ <;> rw [e] <;> simp)
  newT := fun a k h hk => by
    rcases move_of h with ⟨e, e2⟩ | ⟨e, _⟩
    · omega
    · exact .inr e
  B := .inl rfl
/-- the stored thing is in its place -/
theorem move_ok {r : R} {x : V} {τ i : Nat} (ok : OKs K w H σ s t) (hn : s.a.length = n) (hi : i < n) (hτ : n ≤ τ) (h : RelR K w H σ s τ r x) (hr : ∀ j, r ≠ .sl j) :
    OKs K (w.move τ i n) H (σ.set i (some x)) { s with a := s.a.set i (some r) } n := by
  refine ⟨ok.sub, by simp [ok.len], fun k q v h1 h2 => ?_, fun a k e => ?_, by simp [hn], fun p g e => ?_, ok.nob⟩
  · rcases set_get h1 with ⟨rfl, rfl⟩ | ⟨hk, h3⟩
    · have hv : v = some x := by
        rcases set_get h2 with ⟨_, e⟩ | ⟨e, _⟩
        · exact e
        · exact absurd rfl e
      subst hv
      cases r with
      | d y => exact ⟨x, rfl, h⟩
      | o c =>
        refine ⟨x, rfl, ?_⟩
        cases c with
        | lst ds => obtain ⟨a, xs, e, q1, q2, q3⟩ := h; exact ⟨a, xs, e, move_at q1, q2, q3⟩
        | dK ds => obtain ⟨a, xs, e, q1, q2, q3⟩ := h; exact ⟨a, xs, e, move_at q1, q2, q3⟩
        | dT ds => obtain ⟨a, xs, e, q1, q2, q3⟩ := h; exact ⟨a, xs, e, move_at q1, q2, q3⟩
      | sl j => exact absurd rfl (hr j)
      | bx => obtain ⟨p, g, e, rfl⟩ := h; exact ⟨p, g, e, rfl⟩
    · have h4 : σ[k]? = some v := by
        rcases set_get h2 with ⟨e, _⟩ | ⟨_, e⟩
        · exact absurd e hk
        · exact e
      have hkl := (List.getElem?_eq_some_iff.mp h3).1
      exact SlR.mono (ok.sl k q v h3 h4) (Same.refl _) rfl (fun a ha => ⟨move_old ha (by omega) hk (by omega), rfl⟩)
  · rcases move_of e with ⟨e1, e2⟩ | ⟨e1, _, _, e2⟩
    · obtain ⟨h1, h2, h3⟩ := ok.own a τ e1
      exact ⟨h1, h2, by omega⟩
    · obtain ⟨h1, h2, h3⟩ := ok.own a k e1
      exact ⟨h1, h2, e2⟩
  · obtain ⟨b, o1, o2⟩ := ok.box p g e
    refine ⟨b, ?_, ?_⟩
    · cases q : (w.move τ i n).O p with
      | none => rfl
      | some j => rcases move_of q with ⟨z, _⟩ | ⟨z, _⟩ <;> (rw [o1] at z; cases z)
    · cases q : (w.move τ i n).O g with
      | none => rfl
      | some j => rcases move_of q with ⟨z, _⟩ | ⟨z, _⟩ <;> (rw [o2] at z; cases z)
theorem store_fin {r : R} {x : V} {τ i : Nat} (ok : OKs K w H σ s t) (hn : s.a.length = n) (hτ : n ≤ τ) (h : RelR K w H σ s τ r x) (e : store i s r = some s') :
    ∃ w', OKs K w' H (σ.set i (some x)) s' n ∧ s'.a.length = n ∧ Step n n w H w' H := by
  have hi : i < n := by
    unfold store at e
    split at e
    · cases e
    · omega
  unfold store at e
  rw [if_neg (by omega)] at e
  have tk : ∀ y s1, take1 s r = some (y, s1) → s' = { s1 with a := s1.a.set i (some (.d y)) } → ∃ w', OKs K w' H (σ.set i (some x)) s' n ∧ s'.a.length = n ∧ Step n n w H w' H := fun y s1 e1 e2 => by
    obtain ⟨w1, ok1, st1, rep, sl, l, _⟩ := take1_ok (t0 := n) ok h e1 hτ (Nat.le_of_eq hn)
    have hl : s1.a.length = n := l.trans hn
    rw [hn] at st1
    refine ⟨w1.move t i n, ?_, ?_, st1.trans (move_step hi)⟩
    · rw [e2]
      exact move_ok (r := .d y) ok1 hl hi (by have := ok.tN; omega) rep fun j => by simp
    · rw [e2]; simp [hl]
  cases r with
  | d y => exact tk y s rfl (by simp only [take1] at e; cases e; rfl)
  | o c =>
    cases e
    exact ⟨w.move τ i n, move_ok ok hn hi hτ h fun j => by simp, by simp [hn], move_step hi⟩
  | sl j =>
    simp only at e
    split at e
    · rename_i y s1 e1
      cases e
      exact tk y s1 e1 rfl
    · cases e
  | bx =>
    cases e
    exact ⟨w.move τ i n, move_ok ok hn hi hτ h fun j => by simp, by simp [hn], move_step hi⟩
end

def mSet (i : Nat) (m : ME) : MS := fun s => match m s with
  | .no => .no
  | .ok r s1 => match store i s1 r with
    | none => .no
    | some s2 => .ok .nx s2
def mNext : MS := fun s => .ok .nx s
def mSeq (a b : MS) : MS := fun s => match a s with
  | .ok .nx s1 => b s1
  | .ok f s1 => .ok f s1
  | .no => .no
def mRet (m : ME) : MS := fun s => match m s with
  | .no => .no
  | .ok r s1 => .ok (.rt r) s1
def mRetN : MS := fun s => .ok (.rt (.d .none)) s
def mIf (c : MT) (a b : MS) : MS := fun s => match c s with
  | .no => .no
  | .ok true s1 => a s1
  | .ok false s1 => b s1
def mDrop (m : ME) : MS := fun s => match m s with
  | .no => .no
  | .ok _ s1 => .ok .nx s1
def mBreak : MS := fun s => .ok .bk s
def mCont : MS := fun s => .ok .ct s
section
variable {X : Cx} {e a b : Expr} {st : Stmt} {sts : List Stmt} {m m1 m2 : ME} {p q : MS} {pos : Pos}
theorem rss_nil : RSs X [] mNext := ⟨_, pss_nil, fun σ H w s D f s' ok e k => by
  cases e
  exact k.nx rfl σ w H ok rfl .refl⟩
theorem rss_cons (h1 : RS X st p) (h2 : RSs X sts q) : RSs X (st :: sts) (mSeq p q) := by
  obtain ⟨t1, p1, s1⟩ := h1
  obtain ⟨t2, p2, s2⟩ := h2
  refine ⟨_, pss_cons p1 p2, fun σ H w s D f s' ok e k => ?_⟩
  simp only [mSeq] at e
  split at e
  · rename_i sa e1
    refine s1 σ H w s _ .nx sa ok e1 ⟨fun _ σ1 w1 H1 ok1 l1 st1 => ?_, (fun h => nomatch h), (fun h => nomatch h), (fun r h => nomatch h)⟩
    have k2 := k.after st1
    rw [← l1] at ok1 k2
    exact s2 σ1 H1 w1 sa D f s' ok1 e k2
  · rename_i f1 sa hne e1
    cases e
    refine s1 σ H w s _ _ _ ok e1 ⟨fun h => absurd h (by simpa using hne), k.bk, k.ct, k.rt⟩
  · cases e
theorem rs_set {i : Nat} {x : Str} {pos' : Pos} (hN : X.N.Nodup) (hi : X.N[i]? = some x) (hx : Loc X.env.scope x) (he : RE X e m) (hs : swapsWith e (some (.Name x pos')) pos.line X.env = pure false := by rfl)
    (hf : X.fn x = true ∨ X.env.scope.names.lookup x = some .local := by first | exact .inl rfl | exact .inr rfl | assumption) : RS X (.Assign [.Name x pos'] e pos) (mSet i m) := by
  obtain ⟨t1, p1, s1⟩ := he
  refine ⟨_, ps_set hN hi hx p1 hs hf, fun σ H w s D f s' ok e k => ?_⟩
  simp only [mSet] at e
  split at e
  · cases e
  · rename_i r sa e1
    split at e
    · cases e
    · rename_i s2 e2
      cases e
      refine s1 σ H w s _ _ r sa ok e1 fun w1 H1 x t' τ a1 a2 ok1 st1 sl1 rel1 => ?_
      have hl := ok.slen ok1
      obtain ⟨w2, ok2, l2, st2⟩ := store_fin ok1 hl a1 rel1 e2
      exact k.nx rfl _ w2 H1 ok2 l2 (st1.trans st2)
theorem rs_ret (he : RE X e m) : RS X (.Return (some e) pos) (mRet m) := by
  obtain ⟨t1, p1, s1⟩ := he
  refine ⟨_, ps_ret p1, fun σ H w s D f s' ok e k => ?_⟩
  simp only [mRet] at e
  split at e
  · cases e
  · rename_i r sa e1
    cases e
    exact s1 σ H w s _ _ r _ ok e1 fun w1 H1 x t' τ a1 a2 ok1 st1 sl1 rel1 => k.rt r rfl σ w1 H1 x t' τ a1 a2 ok1 (ok.slen ok1) st1 rel1
theorem rs_retN : RS X (.Return none pos) mRetN := ⟨_, ps_retN, fun σ H w s D f s' ok e k => by
  cases e
  exact k.rt _ rfl σ w H .non (s.a.length + 1) s.a.length (Nat.le_refl _) (Nat.lt_succ_self _) (ok.up (Nat.le_succ _)) rfl .refl (by simp only [RelR, Rep])⟩
theorem rs_expr (he : RE X e m) (hs : swapsWith e none pos.line X.env = pure false := by rfl) : RS X (.Expr e pos) (mDrop m) := by
  obtain ⟨t1, p1, s1⟩ := he
  refine ⟨_, ps_expr p1 hs, fun σ H w s D f s' ok e k => ?_⟩
  simp only [mDrop] at e
  split at e
  · cases e
  · rename_i r sa e1
    cases e
    refine s1 σ H w s _ _ r _ ok e1 fun w1 H1 x t' τ a1 a2 ok1 st1 sl1 rel1 => ?_
    have hl := ok.slen ok1
    exact k.nx rfl σ _ H1 (drop_ok ok1 hl) hl (st1.trans drop_step)
theorem rs_if {c : Expr} {xs ys : List Stmt} {mc : MT} (hc : RT X c mc) (ha : RSs X xs p) (hb : RSs X ys q) : RS X (.If c xs ys pos) (mIf mc p q) := by
  obtain ⟨t0, p0, s0⟩ := hc
  obtain ⟨t1, p1, s1⟩ := ha
  obtain ⟨t2, p2, s2⟩ := hb
  refine ⟨_, ps_if p0 p1 p2, fun σ H w s D f s' ok e k => ?_⟩
  simp only [mIf] at e
  split at e
  · cases e
  · rename_i sa e1
    refine s0 σ H w s _ _ true sa ok e1 fun w1 H1 t' a1 ok1 st1 sl1 => iteT ?_
    have hl := ok.slen ok1
    have k2 := k.after (st1.trans drop_step)
    have ok2 := drop_ok ok1 hl
    rw [← hl] at ok2 k2
    exact s1 σ H1 _ sa D f s' ok2 e k2
  · rename_i sa e1
    refine s0 σ H w s _ _ false sa ok e1 fun w1 H1 t' a1 ok1 st1 sl1 => iteF ?_
    have hl := ok.slen ok1
    have k2 := k.after (st1.trans drop_step)
    have ok2 := drop_ok ok1 hl
    rw [← hl] at ok2 k2
    exact s2 σ H1 _ sa D f s' ok2 e k2
theorem rs_break : RS X (.Break pos) mBreak := ⟨_, ps_break, fun σ H w s D f s' ok e k => by cases e; exact k.bk rfl σ w H ok rfl .refl⟩
theorem rs_continue : RS X (.Continue pos) mCont := ⟨_, ps_continue, fun σ H w s D f s' ok e k => by cases e; exact k.ct rfl σ w H ok rfl .refl⟩
theorem rs_doc {x j pos'} : RS X (.Expr (.Constant (.str x) j pos) pos') mNext := ⟨_, ps_doc, fun σ H w s D f s' ok e k => by cases e; exact k.nx rfl σ w H ok rfl .refl⟩
end
end Qz
namespace Qz
open PySem PySem.Spec L2
open PyProof.Rows hiding St

/-! ## targets -/
def SndG (K : PySem.W.Frag) (t : TG) (g : D → S → Option S) (ws : List Nat) : Prop := ∀ (d : D) (x : V) (σ : St) (H : Hp) (w : Wd) (s s' : S) (k n : Nat) (Q : St → Hp → Prop), OKs K w H σ s k → s.a.length = n → Rep K w.F d x → g d s = some s' →
    (∀ σ', OKs K w H σ' s' k → s'.a.length = n → Slotted s s' → (∀ i, i ∉ ws → σ'[i]? = σ[i]?) → Q σ' H) → t x σ H Q
def SndGs (K : PySem.W.Frag) (t : List V → St → Hp → (St → Hp → Prop) → Prop) (g : List D → S → Option S) (ws : List Nat) : Prop := ∀ (ds : List D) (xs : List V) (σ : St) (H : Hp) (w : Wd) (s s' : S) (k n : Nat) (Q : St → Hp → Prop), OKs K w H σ s k → s.a.length = n → RepL K w.F ds xs → g ds s = some s' →
    (∀ σ', OKs K w H σ' s' k → s'.a.length = n → Slotted s s' → (∀ i, i ∉ ws → σ'[i]? = σ[i]?) → Q σ' H) → t xs σ H Q
structure RG (X : Cx) (tg : Expr) (g : D → S → Option S) (ws : List Nat) : Prop where
  ex : ∃ t, PG X tg t ∧ SndG X.K t g ws
structure RGs (X : Cx) (tg : List Expr) (g : List D → S → Option S) (ws : List Nat) : Prop where
  ex : ∃ t, PGs X tg t ∧ SndGs X.K t g ws
/-- data into a slot -/
def putD (i : Nat) (s : S) (d : D) : Option S := if s.a.length ≤ i then none else some { s with a := s.a.set i (some (.d d)) }
def gN (i : Nat) (d : D) (s : S) : Option S := putD i s d
def gs0 (ds : List D) (s : S) : Option S := match ds with
  | [] => some s
  | _ => none
def gsC (g : D → S → Option S) (gs : List D → S → Option S) (ds : List D) (s : S) : Option S := match ds with
  | [] => none
  | d :: r => match g d s with
    | none => none
    | some s1 => gs r s1
def gT (k : Nat) (gs : List D → S → Option S) (d : D) (s : S) : Option S := match d with
  | .tuple ds => if ds.length = k then gs ds s else none
  | _ => none
theorem putD_ok {K : PySem.W.Frag} {w : Wd} {H : Hp} {σ : St} {s s' : S} {k i : Nat} {d : D} {x : V} (ok : OKs K w H σ s k) (rep : Rep K w.F d x) (e : putD i s d = some s') :
    OKs K w H (σ.set i (some x)) s' k ∧ s'.a.length = s.a.length ∧ Slotted s s' ∧ ∀ j, j ∉ [i] → (σ.set i (some x))[j]? = σ[j]? := by
  unfold putD at e
  split at e
  · cases e
  · rename_i hi
    cases e
    refine ⟨⟨ok.sub, by simp [ok.len], fun j q v h1 h2 => ?_, ok.own, by simpa using ok.tN, ok.box, ok.nob⟩, by simp, fun j q h => ?_, fun j hj => List.getElem?_set_ne (by simpa using Ne.symm (by simpa using hj))⟩
    · rcases set_get h1 with ⟨rfl, rfl⟩ | ⟨hj, h3⟩
      · rcases set_get h2 with ⟨_, rfl⟩ | ⟨hj, _⟩
        · exact ⟨x, rfl, rep⟩
        · exact absurd rfl hj
      · rcases set_get h2 with ⟨rfl, _⟩ | ⟨_, h4⟩
        · exact absurd rfl hj
        · exact ok.sl j q v h3 h4
    · by_cases hj : j = i
      · subst hj; exact ⟨.d d, List.getElem?_set_self (Nat.lt_of_not_le hi)⟩
      · exact ⟨q, by rw [List.getElem?_set_ne (Ne.symm hj)]; exact h⟩
section
variable {X : Cx} {e : Expr} {es : List Expr} {pos : Pos} {g : D → S → Option S} {gs : List D → S → Option S} {ws us : List Nat}
theorem rg_name {i : Nat} {x : Str} (hN : X.N.Nodup) (hi : X.N[i]? = some x) (hx : Loc X.env.scope x) (hf : X.fn x = true ∨ X.env.scope.names.lookup x = some .local := by first | exact .inl rfl | exact .inr rfl | assumption) : RG X (.Name x pos) (gN i) [i] :=
  ⟨_, pg_name hN hi hx hf, fun d x σ H w s s' m n Q ok hn rep e k => by
    obtain ⟨ok', l', sl, ws⟩ := putD_ok ok rep e
    exact k _ ok' (l'.trans hn) sl ws⟩
theorem rgs_nil : RGs X [] gs0 [] := ⟨_, pgs_nil, fun ds xs σ H w s s' m n Q ok hn rep e k => by
  cases ds with
  | cons _ _ => cases e
  | nil =>
    cases e
    simp only [RepL] at rep
    exact ⟨rep, k σ ok hn .refl fun _ _ => rfl⟩⟩
theorem rgs_cons (h1 : RG X e g ws) (h2 : RGs X es gs us) (hs : (assignEach (e :: es) X.env).map (·.2) = assign e X.env :: (assignEach es X.env).map (·.2) := by rfl) : RGs X (e :: es) (gsC g gs) (ws ++ us) := by
  obtain ⟨t1, p1, s1⟩ := h1
  obtain ⟨t2, p2, s2⟩ := h2
  refine ⟨_, pgs_cons p1 p2 hs, fun ds xs σ H w s s' m n Q ok hn rep e k => ?_⟩
  cases ds with
  | nil => cases e
  | cons d r =>
    simp only [gsC] at e
    simp only [RepL] at rep
    obtain ⟨x, q, rfl, h1, h2⟩ := rep
    split at e
    · cases e
    · rename_i sa e1
      refine ⟨x, q, rfl, s1 d x σ H w s sa m n _ ok hn h1 e1 fun σ1 ok1 l1 sl1 w1 => ?_⟩
      exact s2 r q σ1 H w sa s' m n Q ok1 l1 h2 e fun σ2 ok2 l2 sl2 w2 => k σ2 ok2 l2 (sl1.trans sl2) fun i hi => by
        simp only [List.mem_append, not_or] at hi
        rw [w2 i hi.2, w1 i hi.1]
theorem rg_tup {k n : Nat} (h : RGs X es gs ws) (hc : X.calm = true := by rfl) (hn : (assignEach es X.env).length = n := by rfl) (hst : (assignEach es X.env).findIdx? (·.1) = none := by rfl) : RG X (.Tuple es k pos) (gT n gs) ws := by
  obtain ⟨t1, p1, s1⟩ := h
  refine ⟨_, pg_tup hc p1 hn hst, fun d x σ H w s s' m n Q ok hm rep e kk => ?_⟩
  unfold gT at e
  split at e
  · rename_i ds
    split at e
    · rename_i hl
      simp only [Rep] at rep
      obtain ⟨a, xs, rfl, h1, h2⟩ := rep
      exact ⟨a, xs, rfl, SqT.of (ok.sub _ _ h1), by rw [← RepL.length _ _ h2]; exact hl, s1 ds xs σ H w s s' m n Q ok hm h2 e kk⟩
    · cases e
  · cases e
end

/-! ## loops -/
abbrev MI := M (List D)
def WalkOk (K : PySem.W.Frag) (J : It) (ds : List D) (F : Hp) : Prop := ∃ (G : Hp → Prop) (Y : Nat → Hp → V → Hp → Prop), Walk J ds.length G Y ∧ (∀ H, Same F H → G H) ∧
  ∀ i H x H', i < ds.length → Same F H → Y i H x H' → ∃ d, ds[i]? = some d ∧ ((H' = H ∧ Rep K F d x) ∨ ∃ T vs es, x = .ref T ∧ H T = none ∧ H' = upd H T (.tup vs) ∧ d = .tuple es ∧ RepL K F es vs)
structure RI (X : Cx) (tg iter : Expr) (src : MI) : Prop where
  ex : ∃ wi, PI X tg iter wi ∧ ∀ (σ : St) (H : Hp) (w : Wd) (s : S) (t : Nat) (Q : It → Hp → Prop) (ds : List D) (s' : S), OKs X.K w H σ s t → src s = .ok ds s' →
    (∀ w' H' t' J, t ≤ t' → OKs X.K w' H' σ s' t' → Step s.a.length t w H w' H' → Slotted s s' → WalkOk X.K J ds w'.F → Q J H') → wi σ H Q
def iTupD (m : ME) : MI := fun s => match m s with
  | .no => .no
  | .ok r s1 => match take1 s1 r with
    | some (.tuple ds, s2) => .ok ds s2
    | _ => .no
def iLstD (m : ME) : MI := fun s => match m s with
  | .no => .no
  | .ok r s1 => match take1 s1 r with
    | some (.list ds, s2) => .ok ds s2
    | _ => .no
def intsD (lo : Int) (n : Nat) : List D := (List.range n).map fun i => .int (lo + (i : Nat))
def iRange1 (m : MA) : MI := fun s => match m s with
  | .ok [.d (.int j)] s1 => if -(2 ^ 62) ≤ j ∧ j < 2 ^ 62 then .ok (intsD 0 j.toNat) s1 else .no
  | _ => .no
def iRange2 (m : MA) : MI := fun s => match m s with
  | .ok [.d (.int i), .d (.int j)] s1 => if -(2 ^ 62) ≤ i ∧ i < 2 ^ 62 ∧ -(2 ^ 62) ≤ j ∧ j < 2 ^ 62 then .ok (intsD i (j - i).toNat) s1 else .no
  | _ => .no
section
variable {X : Cx} {e a b tg : Expr} {es : List Expr} {pos : Pos} {m : ME} {ms : MA}
theorem walk_seq {K : PySem.W.Frag} {J : It} {ds : List D} {xs : List V} {F : Hp} {G : Hp → Prop} (hw : Walk J xs.length G (YAt xs)) (hG : ∀ H, Same F H → G H) (rep : RepL K F ds xs) : WalkOk K J ds F := by
  have l := RepL.length _ _ rep
  refine ⟨G, YAt xs, by rw [l]; exact hw, hG, fun i H x H' hi hs y => ?_⟩
  obtain ⟨rfl, hx⟩ := y
  obtain ⟨d, h1, h2⟩ := RepL.getV _ _ i x rep hx
  exact ⟨d, h1, .inl ⟨rfl, h2⟩⟩
theorem ri_tup (h : RE X e m) : RI X tg e (iTupD m) := by
  obtain ⟨te, p1, s1⟩ := h
  refine ⟨_, pi_tup p1, fun σ H w s t Q ds s' ok e k => ?_⟩
  simp only [iTupD] at e
  split at e
  · cases e
  · rename_i r sa e1
    split at e
    · rename_i es sb e2
      cases e
      refine s1 σ H w s t _ r sa ok e1 fun w1 H1 x t1 τ a1 a2 ok1 st1 sl1 rel1 => ?_
      have l := ok.slen ok1
      obtain ⟨w2, ok2, st2, rep, sl2, l2, _⟩ := take1_ok (t0 := t) ok1 rel1 e2 a1 (by rw [l]; exact ok.tN)
      simp only [Rep] at rep
      obtain ⟨a, xs, rfl, h1, h2⟩ := rep
      rw [l] at st2
      exact ⟨a, rfl, ⟨xs, SqT.of (ok2.sub _ _ h1)⟩, k w2 H1 t1 _ (by omega) ok2 (st1.trans st2) (sl1.trans sl2) (walk_seq walk_tup (fun H' sm => SqT.of (sm _ _ h1)) h2)⟩
    · cases e
theorem ri_lst (h : RE X e m) : RI X tg e (iLstD m) := by
  obtain ⟨te, p1, s1⟩ := h
  refine ⟨_, pi_list p1, fun σ H w s t Q ds s' ok e k => ?_⟩
  simp only [iLstD] at e
  split at e
  · cases e
  · rename_i r sa e1
    split at e
    · rename_i es sb e2
      cases e
      refine s1 σ H w s t _ r sa ok e1 fun w1 H1 x t1 τ a1 a2 ok1 st1 sl1 rel1 => ?_
      have l := ok.slen ok1
      obtain ⟨w2, ok2, st2, rep, sl2, l2, _⟩ := take1_ok (t0 := t) ok1 rel1 e2 a1 (by rw [l]; exact ok.tN)
      simp only [Rep] at rep
      obtain ⟨a, xs, rfl, h1, h2⟩ := rep
      rw [l] at st2
      exact ⟨a, rfl, ⟨xs, ok2.sub.seq h1⟩, k w2 H1 t1 _ (by omega) ok2 (st1.trans st2) (sl1.trans sl2) (walk_seq walk_list (fun H' sm => sm.seq h1) h2)⟩
    · cases e
theorem walk_ints {K : PySem.W.Frag} {lo : Int} {n : Nat} {F : Hp} : WalkOk K (Itr lo n) (intsD lo n) F := by
  have l : (intsD lo n).length = n := by simp [intsD]
  refine ⟨fun _ => True, _, by rw [l]; exact walk_range, fun _ _ => trivial, fun i H x H' hi hs y => ?_⟩
  obtain ⟨rfl, rfl⟩ := y
  rw [l] at hi
  refine ⟨.int (lo + (i : Nat)), by simp [intsD, hi], .inl ⟨rfl, by simp only [Rep]⟩⟩
theorem ri_range1 {p : Pos} (hg : Gl X "range") (hm : X.mg "range" = none) (h : RA X [a] ms) (hs : starEach [a] X.env = [(false, eval a X.env)] := by rfl) : RI X tg (.Call (.Name "range" p) [a] [] pos) (iRange1 ms) := by
  obtain ⟨ta, p1, s1⟩ := h
  refine ⟨_, pi_range1 hg hm p1 hs, fun σ H w s t Q ds s' ok e k => ?_⟩
  simp only [iRange1] at e
  split at e
  · rename_i j sa e1
    split at e
    · rename_i hb
      cases e
      refine s1 σ H w s t _ _ _ ok e1 fun w1 H1 xs t1 a1 ok1 st1 sl1 rel1 => ?_
      obtain ⟨x, q, τ, rfl, _, _, h1, rfl⟩ := rel1
      simp only [RelR, Rep] at h1
      subst h1
      exact ⟨j, rfl, hb.1, hb.2, k w1 H1 t1 _ a1 ok1 st1 sl1 walk_ints⟩
    · cases e
  · cases e
theorem ri_range2 {p : Pos} (hg : Gl X "range") (hm : X.mg "range" = none) (h : RA X [a, b] ms) (hs : starEach [a, b] X.env = [(false, eval a X.env), (false, eval b X.env)] := by rfl) (hs2 : starEach [b] X.env = [(false, eval b X.env)] := by rfl) :
    RI X tg (.Call (.Name "range" p) [a, b] [] pos) (iRange2 ms) := by
  obtain ⟨ta, p1, s1⟩ := h
  refine ⟨_, pi_range2 hg hm p1 hs hs2, fun σ H w s t Q ds s' ok e k => ?_⟩
  simp only [iRange2] at e
  split at e
  · rename_i i j sa e1
    split at e
    · rename_i hb
      cases e
      refine s1 σ H w s t _ _ _ ok e1 fun w1 H1 xs t1 a1 ok1 st1 sl1 rel1 => ?_
      obtain ⟨x, q, τ, rfl, _, _, h1, y, q2, τ2, rfl, _, _, h2, rfl⟩ := rel1
      simp only [RelR, Rep] at h1 h2
      subst h1
      subst h2
      exact ⟨i, j, rfl, hb, k w1 H1 t1 _ a1 ok1 st1 sl1 walk_ints⟩
    · cases e
  · cases e
end
def loopL (g : D → S → Option S) (body : MS) : List D → MS
  | [], s => .ok .nx s
  | d :: r, s => match g d s with
    | none => .no
    | some s1 => match body s1 with
      | .ok .nx s2 => loopL g body r s2
      | .ok .ct s2 => loopL g body r s2
      | .ok .bk s2 => .ok .nx s2
      | .ok (.rt x) s2 => .ok (.rt x) s2
      | .no => .no
def mFor (src : MI) (g : D → S → Option S) (body : MS) : MS := fun s => match src s with
  | .no => .no
  | .ok ds s1 => loopL g body ds s1
def whileN (c : MT) (body : MS) : Nat → MS
  | 0, _ => .no
  | n + 1, s => match c s with
    | .no => .no
    | .ok false s1 => .ok .nx s1
    | .ok true s1 => match body s1 with
      | .ok .nx s2 => whileN c body n s2
      | .ok .ct s2 => whileN c body n s2
      | .ok .bk s2 => .ok .nx s2
      | .ok (.rt x) s2 => .ok (.rt x) s2
      | .no => .no
open Classical in
noncomputable def mWhile (c : MT) (body : MS) : MS := fun s => if h : ∃ n, whileN c body n s ≠ .no then whileN c body h.choose s else .no
section
variable {X : Cx} {e c iter tg : Expr} {body : List Stmt} {pos : Pos} {src : MI} {g : D → S → Option S} {ws : List Nat} {mc : MT} {mb : MS}
theorem rs_for (hp : PassesOwn (model X.prog X.w) X.A X.env X.xe) (hc : X.calm = true) (hi : RI X tg iter src) (hg : RG X tg g ws) (hb : RSs X body mb) (hs : ∀ x, foldedSetIterable iter X.env x = pure x := by intro _; rfl) : RS X (.For tg iter body [] pos) (mFor src g mb) := by
  obtain ⟨ti, p1, s1⟩ := hi
  obtain ⟨tt, p2, s2⟩ := hg
  obtain ⟨tb, p3, s3⟩ := hb
  refine ⟨_, ps_for hp hc p1 p2 p3 hs, fun σ H w s D f s' ok e k => ?_⟩
  simp only [mFor] at e
  split at e
  · cases e
  · rename_i ds sa e1
    refine s1 σ H w s _ _ ds sa ok e1 fun w1 H1 t1 J a1 ok1 st1 sl1 wk => ?_
    have hl := ok.slen ok1
    generalize hn : s.a.length = n at *
    obtain ⟨G, Y, hw, hG, hY⟩ := wk
    have k1 := k.after (st1.trans drop_step)
    refine for_it hw (fun i σ2 H2 => ∃ w2 s2, OKs X.K w2 H2 σ2 s2 n ∧ s2.a.length = n ∧ Step n n (w1.drop n) H1 w2 H2 ∧ loopL g mb (ds.drop i) s2 = .ok f s') ⟨_, sa, drop_ok ok1 hl, hl, .refl, e⟩
      (fun i σ2 H2 _ ⟨w2, s2, ok2, _, st2, _⟩ => hG H2 (st2.F.trans ok2.sub)) ?_ ?_
    · rintro i x σ2 H2 H3 hi ⟨w2, sb, ok2, l2, st2, e2⟩ y
      obtain ⟨d, hd, hx⟩ := hY i H2 x H3 hi (st2.F.trans ok2.sub) y
      have ed : ds.drop i = d :: ds.drop (i + 1) := by
        have := List.drop_eq_getElem_cons hi
        rw [this]
        have q := (List.getElem?_eq_some_iff.mp hd).2
        rw [q]
      rw [ed] at e2
      -- the item, the world in which it stands
      obtain ⟨w3, ok3, st3, rep3⟩ : ∃ w3, OKs X.K w3 H3 σ2 sb n ∧ Step n n w2 H2 w3 H3 ∧ Rep X.K w3.F d x := by
        rcases hx with ⟨rfl, hr⟩ | ⟨T, vs, es, rfl, hT, rfl, rfl, hr⟩
        · exact ⟨w2, ok2, .refl, Rep.mono st2.F d x hr⟩
        · refine ⟨w2.lay T (.tup vs), lay_ok ok2 hT, lay_step ok2 hT, ?_⟩
          simp only [Rep]
          exact ⟨T, vs, rfl, upd_same, RepL.mono (st2.F.trans (lay_step (o := .tup vs) (t0 := n) (n := n) ok2 hT).F) es vs hr⟩
      simp only [loopL] at e2
      split at e2
      · cases e2
      · rename_i sc e3
        refine s2 d x σ2 H3 w3 sb sc n n _ ok3 l2 rep3 e3 fun σ4 ok4 l4 sl4 wr4 => ?_
        have st14 := st2.trans st3
        rw [← l4] at ok4
        split at e2
        · rename_i sd e4
          refine s3 σ4 H3 w3 sc _ .nx sd ok4 e4 ⟨fun _ σ5 w5 H5 ok5 l5 st5 => ?_, (fun h => nomatch h), (fun h => nomatch h), (fun r h => nomatch h)⟩
          rw [l4] at ok5 l5 st5
          exact ⟨w5, sd, ok5, l5, st14.trans st5, e2⟩
        · rename_i sd e4
          refine s3 σ4 H3 w3 sc _ .ct sd ok4 e4 ⟨(fun h => nomatch h), (fun h => nomatch h), fun _ σ5 w5 H5 ok5 l5 st5 => ?_, (fun r h => nomatch h)⟩
          rw [l4] at ok5 l5 st5
          exact ⟨w5, sd, ok5, l5, st14.trans st5, e2⟩
        · rename_i sd e4
          cases e2
          refine s3 σ4 H3 w3 sc _ .bk _ ok4 e4 ⟨(fun h => nomatch h), fun _ σ5 w5 H5 ok5 l5 st5 => ?_, (fun h => nomatch h), (fun r h => nomatch h)⟩
          rw [l4] at ok5 l5 st5
          exact k1.nx rfl σ5 w5 H5 ok5 l5 (st14.trans st5)
        · rename_i r sd e4
          cases e2
          refine s3 σ4 H3 w3 sc _ (.rt r) _ ok4 e4 ⟨(fun h => nomatch h), (fun h => nomatch h), (fun h => nomatch h), fun r' h σ5 w5 H5 x5 t5 τ5 b1 b2 ok5 l5 st5 rel5 => ?_⟩
          cases h
          rw [l4] at b1 l5 st5
          exact k1.rt r rfl σ5 w5 H5 x5 t5 τ5 b1 b2 ok5 l5 (st14.trans st5) rel5
        · cases e2
    · rintro σ2 H2 ⟨w2, sb, ok2, l2, st2, e2⟩
      rw [List.drop_length] at e2
      cases e2
      exact k1.nx rfl σ2 w2 H2 ok2 l2 st2
theorem rs_while (hp : PassesOwn (model X.prog X.w) X.A X.env X.xe) (hc : RT X c mc) (hb : RSs X body mb) : RS X (.While c body [] pos) (mWhile mc mb) := by
  obtain ⟨tc, p1, s1⟩ := hc
  obtain ⟨tb, p2, s2⟩ := hb
  refine ⟨_, ps_while hp p1 p2, fun σ H w s D f s' ok e k => ?_⟩
  simp only [mWhile] at e
  split at e
  · rename_i hx
    generalize hx.choose = N at e
    generalize hn : s.a.length = n at *
    refine ⟨fun m σ2 H2 => ∃ w2 s2, OKs X.K w2 H2 σ2 s2 n ∧ s2.a.length = n ∧ Step n n w H w2 H2 ∧ whileN mc mb m s2 = .ok f s', ⟨N, w, s, ok, hn, .refl, e⟩, ?_⟩
    rintro m σ2 H2 ⟨w2, sb, ok2, l2, st2, e2⟩
    cases m with
    | zero => cases e2
    | succ m =>
      simp only [whileN] at e2
      have ok2' := ok2
      rw [← l2] at ok2'
      split at e2
      · cases e2
      · rename_i sc e3
        cases e2
        refine s1 σ2 H2 w2 sb _ _ false _ ok2' e3 fun w3 H3 t3 a3 ok3 st3 sl3 => iteF ?_
        have l3 := ok2.slen ok3
        rw [l2] at st3 l3
        exact k.nx rfl σ2 _ H3 (drop_ok ok3 l3) l3 ((st2.trans st3).trans drop_step)
      · rename_i sc e3
        refine s1 σ2 H2 w2 sb _ _ true sc ok2' e3 fun w3 H3 t3 a3 ok3 st3 sl3 => iteT ?_
        have l3 := ok2.slen ok3
        rw [l2] at st3 l3
        refine ⟨fun σ' H' => ∃ w2 s2, OKs X.K w2 H' σ' s2 n ∧ s2.a.length = n ∧ Step n n w H w2 H' ∧ whileN mc mb m s2 = .ok f s', fun σ' H' h => ⟨m, Nat.lt_succ_self m, h⟩, ?_⟩
        have ok4 := drop_ok ok3 l3
        have st14 := (st2.trans st3).trans (drop_step (n := n))
        rw [← l3] at ok4
        split at e2
        · rename_i sd e4
          refine s2 σ2 H3 _ sc _ .nx sd ok4 e4 ⟨fun _ σ5 w5 H5 ok5 l5 st5 => ?_, (fun h => nomatch h), (fun h => nomatch h), (fun r h => nomatch h)⟩
          rw [l3] at ok5 l5 st5
          exact ⟨w5, sd, ok5, l5, st14.trans st5, e2⟩
        · rename_i sd e4
          refine s2 σ2 H3 _ sc _ .ct sd ok4 e4 ⟨(fun h => nomatch h), (fun h => nomatch h), fun _ σ5 w5 H5 ok5 l5 st5 => ?_, (fun r h => nomatch h)⟩
          rw [l3] at ok5 l5 st5
          exact ⟨w5, sd, ok5, l5, st14.trans st5, e2⟩
        · rename_i sd e4
          cases e2
          refine s2 σ2 H3 _ sc _ .bk _ ok4 e4 ⟨(fun h => nomatch h), fun _ σ5 w5 H5 ok5 l5 st5 => ?_, (fun h => nomatch h), (fun r h => nomatch h)⟩
          rw [l3] at ok5 l5 st5
          exact k.nx rfl σ5 w5 H5 ok5 l5 (st14.trans st5)
        · rename_i r sd e4
          cases e2
          refine s2 σ2 H3 _ sc _ (.rt r) _ ok4 e4 ⟨(fun h => nomatch h), (fun h => nomatch h), (fun h => nomatch h), fun r' h σ5 w5 H5 x5 t5 τ5 b1 b2 ok5 l5 st5 rel5 => ?_⟩
          cases h
          rw [l3] at b1 l5 st5
          exact k.rt r rfl σ5 w5 H5 x5 t5 τ5 b1 b2 ok5 l5 (st14.trans st5) rel5
        · cases e2
  · cases e
end
end Qz
namespace Qz
open PySem PySem.Spec L2
open PyProof.Rows hiding St

/-! ## defs -/
def S.init (N : Nat) (rs : List R) (b : Bx) : S := ⟨rs.map some ++ List.replicate (N - rs.length) none, b⟩
def fin (s : S) : R → OutF
  | .sl i => match s.a[i]? with
    | some (some (.o c)) => .ok (.o c) s.b
    | some (some (.d x)) => .ok (.d x) s.b
    | _ => .no
  | r => .ok r s.b
def runF (N : Nat) (body : MS) : DF := fun rs b => match body (.init N rs b) with
  | .ok .nx s => .ok (.d .none) s.b
  | .ok (.rt r) s => fin s r
  | _ => .no
section
variable (K : PySem.W.Frag)
def ArgsR (F : Hp) (B : Option (Addr × Addr)) : List R → List V → Prop
  | [], vs => vs = []
  | .d d :: rs, vs => ∃ v q, vs = v :: q ∧ Rep K F d v ∧ ArgsR F B rs q
  | .bx :: rs, vs => ∃ p g q, B = some (p, g) ∧ vs = .ref p :: q ∧ ArgsR F B rs q
  | _ :: _, _ => False
/-- an owner without a tag: new in H' -/
def OwnN (F H H' : Hp) : C → V → Prop
  | .lst ds, u => ∃ a xs, u = .ref a ∧ F a = none ∧ H a = none ∧ H' a = some (.lst xs) ∧ RepL K F ds xs
  | .dK kvs, u => ∃ a ys, u = .ref a ∧ F a = none ∧ H a = none ∧ H' a = some (.dK ys) ∧ RepK K F kvs ys
  | .dT kvs, u => ∃ a ys, u = .ref a ∧ F a = none ∧ H a = none ∧ H' a = some (.dT ys) ∧ RepT K F kvs ys
def RetR (F H H' : Hp) (B : Option (Addr × Addr)) : R → V → Prop
  | .d d, u => Rep K F d u
  | .o c, u => OwnN K F H H' c u ∧ ∀ a, u = .ref a → ¬ isBox B a
  | .bx, u => ∃ p g, B = some (p, g) ∧ u = .ref p
  | _, _ => False
structure After (F H : Hp) (B : Option (Addr × Addr)) (F' H' : Hp) (B' : Option (Addr × Addr)) (b' : Bx) : Prop where
  mono : Same F F'
  sub : Same F' H'
  keep : ∀ a o, H a = some o → ¬ isBox B a → H' a = some o
  there : ∀ a o, H a = some o → ∃ o', H' a = some o'
  newF : ∀ a, F' a ≠ none → F a ≠ none ∨ H a = none ∨ (∃ xs, H a = some (.tup xs)) ∨ isBox B a
  B : B' = B ∨ (B = none ∧ ∀ p g, B' = some (p, g) → H p = none ∧ H g = none)
  box : ∀ p g, B' = some (p, g) → BoxOk F' H' p g b'
  nob : b'.c < 0 → B' = none
def spD (np : Nat) (g : DF) : Sp := fun vs H Q _ => ∃ (F : Hp) (B : Option (Addr × Addr)) (rs : List R) (b : Bx) (r : R) (b' : Bx), vs.length = np ∧ Same F H ∧ (∀ p g, B = some (p, g) → BoxOk F H p g b) ∧ (b.c < 0 → B = none) ∧ ArgsR K F B rs vs ∧ g rs b = .ok r b' ∧
  ∀ F' B' H' x, After F H B F' H' B' b' → RetR K F' H H' B' r x → Q x H'
end
section
variable {K : PySem.W.Frag}
theorem ArgsR.length {F : Hp} {B : Option (Addr × Addr)} : ∀ (rs : List R) (vs : List V), ArgsR K F B rs vs → rs.length = vs.length
  | [], _, h => by simp only [ArgsR] at h; subst h; rfl
  | .d d :: rs, _, h => by
    simp only [ArgsR] at h
    obtain ⟨v, q, rfl, _, h2⟩ := h
    simp [ArgsR.length rs q h2]
  | .bx :: rs, _, h => by
    simp only [ArgsR] at h
    obtain ⟨p, g, q, _, rfl, h2⟩ := h
    simp [ArgsR.length rs q h2]
  | .o _ :: _, _, h => h.elim
  | .sl _ :: _, _, h => h.elim
theorem ArgsR.slot {F H : Hp} {B : Option (Addr × Addr)} : ∀ (rs : List R) (vs : List V) (j i : Nat) (r : R) (v : V), ArgsR K F B rs vs → rs[i]? = some r → vs[i]? = some v → SlR K ⟨F, fun _ => none, B⟩ H j (some r) (some v)
  | [], _, _, _, _, _, _, e, _ => by simp at e
  | .d d :: rs, _, j, 0, _, _, h, e, e2 => by
    simp only [ArgsR] at h
    obtain ⟨v, q, rfl, h1, h2⟩ := h
    simp at e e2
    subst e
    subst e2
    exact ⟨v, rfl, h1⟩
  | .bx :: rs, _, j, 0, _, _, h, e, e2 => by
    simp only [ArgsR] at h
    obtain ⟨p, g, q, h1, rfl, h2⟩ := h
    simp at e e2
    subst e
    subst e2
    exact ⟨p, g, h1, rfl⟩
  | .d d :: rs, _, j, i + 1, r, v, h, e, e2 => by
    simp only [ArgsR] at h
    obtain ⟨v', q, rfl, h1, h2⟩ := h
    exact ArgsR.slot rs q j i r v h2 (by simpa using e) (by simpa using e2)
  | .bx :: rs, _, j, i + 1, r, v, h, e, e2 => by
    simp only [ArgsR] at h
    obtain ⟨p, g, q, h1, rfl, h2⟩ := h
    exact ArgsR.slot rs q j i r v h2 (by simpa using e) (by simpa using e2)
  | .o _ :: _, _, _, _, _, _, h, _, _ => h.elim
  | .sl _ :: _, _, _, _, _, _, h, _, _ => h.elim
theorem start_ok {F H : Hp} {B : Option (Addr × Addr)} {rs : List R} {vs : List V} {b : Bx} {N : List Str} (hF : Same F H) (hB : ∀ p g, B = some (p, g) → BoxOk F H p g b) (hnb : b.c < 0 → B = none) (ha : ArgsR K F B rs vs) :
    OKs K ⟨F, fun _ => none, B⟩ H (L2.start N vs) (.init N.length rs b) (S.init N.length rs b).a.length := by
  have hl := ArgsR.length rs vs ha
  refine ⟨hF, by simp [L2.start, S.init, hl], fun i q v h1 h2 => ?_, (fun a i e => nomatch e), Nat.le_refl _, fun p g e => ⟨hB p g e, rfl, rfl⟩, hnb⟩
  unfold S.init at h1
  unfold L2.start at h2
  by_cases hi : i < rs.length
  · rw [List.getElem?_append_left (by simpa using hi)] at h1
    rw [List.getElem?_append_left (by simpa [← hl] using hi)] at h2
    simp only [List.getElem?_map, Option.map_eq_some_iff] at h1 h2
    obtain ⟨r, h3, rfl⟩ := h1
    obtain ⟨u, h4, rfl⟩ := h2
    exact ArgsR.slot rs vs i i r u ha h3 h4
  · rw [List.getElem?_append_right (by simpa using hi)] at h1
    have : q = none := by
      have := List.mem_of_getElem? h1
      exact (List.mem_replicate.mp this).2
    subst this
    trivial
theorem after_of {n : Nat} {F H : Hp} {B : Option (Addr × Addr)} {w' : Wd} {H' : Hp} {σ : St} {s : S} {t : Nat} (st : Step n n ⟨F, fun _ => none, B⟩ H w' H') (ok : OKs K w' H' σ s t) : After F H B w'.F H' w'.B s.b :=
  ⟨st.F, ok.sub, fun a o h hb => st.keep a o h (fun i hi => nomatch hi) hb, st.there, (fun a h => by
    rcases st.newF a h with z | z | ⟨i, z, _⟩ | z
    · exact .inl z
    · exact .inr (.inl z)
    · cases z
    · exact .inr (.inr z)), st.B, fun p g e => (ok.box p g e).1, ok.nob⟩
theorem own_new {n τ : Nat} {F H : Hp} {B : Option (Addr × Addr)} {w' : Wd} {H' : Hp} {σ : St} {s : S} {t : Nat} {c : C} {u : V} (st : Step n n ⟨F, fun _ => none, B⟩ H w' H') (ok : OKs K w' H' σ s t) (h : Own K w' H' τ c u) : RetR K w'.F H H' w'.B (.o c) u := by
  have key : ∀ a, w'.O a = some τ → w'.F a = none ∧ H a = none ∧ ¬ isBox w'.B a := fun a ha => by
    refine ⟨(ok.own a τ ha).1, ?_, ?_⟩
    · rcases st.newO a τ ha with z | z
      · exact z
      · exact absurd rfl z
    · rintro ⟨p, g, e, z⟩
      obtain ⟨_, z1, z2⟩ := ok.box p g e
      rcases z with rfl | rfl
      · rw [ha] at z1; cases z1
      · rw [ha] at z2; cases z2
  cases c with
  | lst ds =>
    obtain ⟨a, xs, rfl, h1, h2, h3⟩ := h
    exact ⟨⟨a, xs, rfl, (key a h1).1, (key a h1).2.1, h2, h3⟩, fun b e => by cases e; exact (key a h1).2.2⟩
  | dK ds =>
    obtain ⟨a, xs, rfl, h1, h2, h3⟩ := h
    exact ⟨⟨a, xs, rfl, (key a h1).1, (key a h1).2.1, h2, h3⟩, fun b e => by cases e; exact (key a h1).2.2⟩
  | dT ds =>
    obtain ⟨a, xs, rfl, h1, h2, h3⟩ := h
    exact ⟨⟨a, xs, rfl, (key a h1).1, (key a h1).2.1, h2, h3⟩, fun b e => by cases e; exact (key a h1).2.2⟩
/-- a body keeps its def's promise -/
theorem body_ok {N : List Str} {ts : TS} {m : MS} {np : Nat} {vs : List V} {H : Hp} {Q : VK} {E : XK} (hm : SndS K ts m) (hs : spD K np (runF N.length m) vs H Q E) : ts { nx := fun _ H' => Q .non H', rt := Q } (L2.start N vs) H := by
  obtain ⟨F, B, rs, b, r, b', hl, hF, hB, hnb, ha, e, k⟩ := hs
  have ok := start_ok (N := N) (b := b) hF hB hnb ha
  simp only [runF] at e
  split at e
  · rename_i sa e1
    cases e
    refine hm _ H _ _ _ .nx sa ok e1 ⟨fun _ σ1 w1 H1 ok1 l1 st1 => ?_, (fun h => nomatch h), (fun h => nomatch h), (fun r h => nomatch h)⟩
    exact k w1.F w1.B H1 .non (after_of st1 ok1) (by simp only [RetR, Rep])
  · rename_i r1 sa e1
    refine hm _ H _ _ _ (.rt r1) sa ok e1 ⟨(fun h => nomatch h), (fun h => nomatch h), (fun h => nomatch h), fun r2 h σ1 w1 H1 x t1 τ a1 a2 ok1 l1 st1 rel => ?_⟩
    cases h
    cases r1 with
    | d y => cases e; exact k w1.F w1.B H1 x (after_of st1 ok1) rel
    | o c => cases e; exact k w1.F w1.B H1 x (after_of st1 ok1) (own_new st1 ok1 rel)
    | sl i =>
      obtain ⟨q, h1, h2⟩ := rel
      have hs := ok1.sl i _ _ h1 h2
      simp only [fin, h1] at e
      cases q with
      | d y =>
        cases e
        obtain ⟨v, e1, h3⟩ := hs
        cases e1
        exact k w1.F w1.B H1 _ (after_of st1 ok1) h3
      | o c =>
        cases e
        obtain ⟨v, e1, h3⟩ := hs
        cases e1
        exact k w1.F w1.B H1 _ (after_of st1 ok1) (own_new st1 ok1 h3)
      | sl _ => cases e
      | bx => cases e
    | bx => cases e; exact k w1.F w1.B H1 x (after_of st1 ok1) rel
  · cases e
end

/-! ## a def's promise where no repr is under way -/
def SysM (g : Heap) : Prop := ∃ mm, g.Ns sysModules mm
structure FnG (P : Program) (w : World) (K : PySem.W.Frag) (mg : Str → Option Value) (base : Heap) (k : Nat) (f : Addr) (fd : FuncData) (ps : List Str) (sp : Sp) : Prop where
  many : ∀ vs H Q E, sp vs H Q E → vs.length = ps.length
  goes : ∀ (A : Around) (outer : List Env) (s : Shared) (H : Hp) (args : Args) (us : List Value) (vs : List V) (Q : VK) (E : XK), A.guards = some [] → SysM base → Room k A →
    Env0 P w K mg base A outer s H → BindsTo s fd args (ps.zip us) → Vals vs us → sp vs H Q E → codeAny (model P w) A (.call (.ref f) args) (CR CX0 outer P w H s Q E) s
theorem FnG.up {P : Program} {w : World} {K : PySem.W.Frag} {mg : Str → Option Value} {base : Heap} {j k : Nat} {f : Addr} {fd : FuncData} {ps : List Str} {sp : Sp} (F : FnG P w K mg base j f fd ps sp) (h : j ≤ k) : FnG P w K mg base k f fd ps sp :=
  ⟨F.many, fun A o s H a us vs Q E g1 g2 hr => F.goes A o s H a us vs Q E g1 g2 (hr.mono h)⟩
/-- what the rules ask of the place where code stands -/
structure Here (X : Cx) (k : Nat) : Prop where
  gd : X.A.guards = some []
  sy : SysM X.base
  rm : Room k X.A
theorem Here.up {X : Cx} {j k : Nat} (h : Here X k) (hj : j ≤ k) : Here X j := ⟨h.gd, h.sy, h.rm.mono hj⟩
section
variable {P : Program} {w : World} {K : PySem.W.Frag} {mg : Str → Option Value} {base : Heap}
/-- a def of the text, by its body -/
theorem fng_of {x qual : Str} {st : Stmt} {f : Addr} {fd : FuncData} {N ps : List Str} {k : Nat} {m : MS} (F : Fun K x qual st f fd) (S : FnScope N ps (defScope st))
    (hb : ∀ (X : Cx), X.prog = P → X.w = w → X.K = K → X.mg = mg → X.base = base → X.N = N → X.env.scope = defScope st → X.calm = true → (∀ y, X.fn y = true) → (∀ e s, ¬ X.xe e s) → Here X k → RSs X (defBody st) m) :
    FnG P w K mg base (k + 1) f fd ps (spD K ps.length (runF N.length m)) := by
  obtain ⟨oc, od, kV, doc, pm, an, cdv, ct, osl, rfl, lk, hcd⟩ := F.ex
  refine ⟨fun vs H Q E ⟨_, _, _, _, _, _, hl, _⟩ => hl, fun A outer s H args us vs Q E g1 g2 hr e0 hbd r hsp => ?_⟩
  have hl : vs.length = ps.length := by obtain ⟨_, _, _, _, _, _, hl, _⟩ := hsp; exact hl
  have grow := fun b o e => (e0.bs b o e).1
  have KX : K.In s.heap := e0.mod.kin.keeps grow
  have lim : s.heap.NoLimit := e0.mod.nolimit.keeps grow
  have hkind : ∀ y ∈ ps.zip us, (defScope st).names.lookup y.1 = some .local ∨ ((defScope st).names.lookup y.1 = some .cell ∧ ((cellsFrom (s.heap.objs.size + 1) (defScope st).names []).lookup y.1).isSome = true) := by
    rintro ⟨n, v⟩ hy
    rcases S.par n (List.of_mem_zip hy).1 with q | q
    · exact .inl q
    · exact .inr ⟨q, PySem.W.cellsFrom_some _ _ _ (.inl q)⟩
  refine codeAny_call_function hr.depth (KX _ _ lk) rfl S.co S.gen rfl (PySem.W.codeRec_of KX hcd) (hbd _ _ _ _ ?_)
  refine wpAny_newFunctionEnv_cells S.kind hkind fun env he s1 x => ?_
  subst he
  refine ⟨lim.keeps x.toInCall.keep, codeAny_func ?_⟩
  obtain ⟨ts, p1, p2⟩ := (hb (cxOf CX0 P w K mg base N qual (defScope st) f cdv A outer s H E).nox rfl rfl rfl rfl rfl rfl rfl rfl (fun _ => rfl) (fun _ _ h => h) ⟨g1, g2, hr.deeper _⟩).ex
  have I : Inv (cxOf CX0 P w K mg base N qual (defScope st) f cdv A outer s H E) [] (L2.start N vs) H s1 := inv_start S hr.hd e0 hl r x
  refine wpAny_mono (p1.nox.run [] s1 _ H { nx := fun _ H' => Q .non H', rt := Q } I (body_ok (E := E) p2 hsp)) (fun fl s' hs => ?_) fun e s' hs => hs
  cases fl with
  | ret u => obtain ⟨v, σ', H', J, rv, q⟩ := hs; exact ⟨v, H', J.os, J.bare, J.base, J.hok, rv, q⟩
  | next => obtain ⟨σ', H', J, q⟩ := hs; exact ⟨.non, H', J.os, J.bare, J.base, J.hok, rfl, q⟩
  | brk => obtain ⟨_, _, _, q⟩ := hs; exact q.elim
  | cont => obtain ⟨_, _, _, q⟩ := hs; exact q.elim
end
section
variable {X : Cx} {k : Nat} {f : Addr} {fd : FuncData} {ps : List Str} {sp : Sp} {E : XK} {x : Str} {p pos : Pos} {e : Expr} {es : List Expr} {t : TA}
theorem callee {pins : List (Addr × Obj)} {σ : St} {H : Hp} {s : Shared} {Q : VK} {args : Args} {us : List Value} {vs : List V} (F : FnG X.prog X.w X.K X.mg X.base k f fd ps sp) (h : Here X k) (hb : BindsTo s fd args (ps.zip us))
    (I : Inv X pins σ H s) (r : Vals vs us) (hs : sp vs H Q E) : wpAny (model X.prog X.w) X.A (call (.ref f) args.pos args.kw) (EP X pins σ Q) X.xe s := by
  refine wpAny_call (codeAny_mono (F.goes X.A X.stack s H args us vs Q E h.gd h.sy h.rm I.env0 hb r hs) fun r s' hq => ?_)
  cases r with
  | error e => exact hq.elim
  | ok fl =>
    cases fl with
    | ret u => exact I.after hq
    | next => exact hq.elim
    | brk => exact hq.elim
    | cont => exact hq.elim
theorem peg_call (F : FnG X.prog X.w X.K X.mg X.base k f fd ps sp) (h : Here X k) (hg : Gl X x) (hm : X.mg x = some (.ref f)) (hk : PySem.W.keepIn X.K (.ref f) = true) (hb : Binds X.K fd ps [])
    (ha : PA X (e :: es) t) (hdb : (x == ("__debug__" : Str)) = false) (he : starEach (e :: es) X.env = (false, eval e X.env) :: starEach es X.env) (hpl : (backTo pos (starEach es X.env)).any (·.1) = false) :
    PE X (.Call (.Name x p) (e :: es) [] pos) (fun σ H Q => t σ H fun vs H1 => sp vs H1 Q E) := by
  refine ⟨fun pins s σ H Q I hw => wpAny_Call_Name_kw (ld_glob I hg hm ?_ hdb)⟩
  refine PySem.W.callWith_K (h₀ := X.base) I.ok.mod.kin hk (thn (ha.run pos pins s σ H _ I hw) fun us s1 ⟨vs, H1, I1, r, q⟩ => ⟨I1.kIn, ?_⟩) he hpl
  have hl := F.many vs H1 Q E q
  have z := hb s1 us I1.kIn (by rw [List.append_nil, ← r.length]; exact hl)
  rw [List.append_nil] at z
  exact callee F h z I1 r q
theorem peg_call0 (F : FnG X.prog X.w X.K X.mg X.base k f fd ps sp) (h : Here X k) (hg : Gl X x) (hm : X.mg x = some (.ref f)) (hk : PySem.W.keepIn X.K (.ref f) = true) (hb : Binds X.K fd ps []) (hdb : (x == ("__debug__" : Str)) = false) :
    PE X (.Call (.Name x p) [] [] pos) (fun σ H Q => sp [] H Q E) := by
  refine ⟨fun pins s σ H Q I hw => wpAny_Call_Name_kw (ld_glob I hg hm ?_ hdb)⟩
  have hl := F.many [] H Q E hw
  have z := hb s [] I.kIn (by rw [List.append_nil]; exact hl)
  exact PySem.W.callWith_K0 I.kIn hk (callee F h z I .nil hw)
theorem peg_callK {kws : List Keyword} {ks : List Str} {tk : TA} {g : List Value → List Value → List Value} {gV : List V → List V → List V} (F : FnG X.prog X.w X.K X.mg X.base k f fd ps sp) (h : Here X k) (hg : Gl X x) (hm : X.mg x = some (.ref f)) (hk : PySem.W.keepIn X.K (.ref f) = true)
    (hb : KBinds X.K fd ps ks g gV) (ha : PA X (e :: es) t) (hkw : PK X kws tk) (hall : (backToKw pos (keywordEach kws X.env)).all (·.1.isSome) = true) (hks : (backToKw pos (keywordEach kws X.env)).filterMap (·.1) = ks)
    (hdb : (x == ("__debug__" : Str)) = false) (he : starEach (e :: es) X.env = (false, eval e X.env) :: starEach es X.env)
    (hpl : ((backTo pos (starEach (e :: es) X.env)).any (·.1) || (backToKw pos (keywordEach kws X.env)).any (·.1.isNone)) = false) :
    PE X (.Call (.Name x p) (e :: es) kws pos) (tCallK sp gV E t tk) := by
  refine ⟨fun pins s σ H Q I hw => wpAny_Call_Name_kw (ld_glob I hg hm ?_ hdb)⟩
  refine PySem.W.callWith_KW (h₀ := X.base) I.ok.mod.kin hk hall (thn (ha.run pos pins s σ H _ I hw) fun us s1 ⟨vs, H1, I1, r, q⟩ => thn (hkw.run pos pins s1 σ H1 _ I1 q) fun ws s2 ⟨zs, H2, I2, rz, q2⟩ => ⟨I2.kIn, ?_⟩) hpl he
  rw [hks]
  have r2 := hb.rel r rz
  exact callee F h (hb.to s2 us ws I2.kIn (by rw [← r2.length]; exact F.many _ _ _ _ q2)) I2 r2 q2
theorem peg_callK0 {kws : List Keyword} {ks : List Str} {tk : TA} {g : List Value → List Value → List Value} {gV : List V → List V → List V} (F : FnG X.prog X.w X.K X.mg X.base k f fd ps sp) (h : Here X k) (hg : Gl X x) (hm : X.mg x = some (.ref f)) (hk : PySem.W.keepIn X.K (.ref f) = true)
    (hb : KBinds X.K fd ps ks g gV) (hkw : PK X kws tk) (hall : (backToKw pos (keywordEach kws X.env)).all (·.1.isSome) = true) (hks : (backToKw pos (keywordEach kws X.env)).filterMap (·.1) = ks)
    (hdb : (x == ("__debug__" : Str)) = false) (hpl : ((backTo pos (starEach [] X.env)).any (·.1) || (backToKw pos (keywordEach kws X.env)).any (·.1.isNone)) = false) :
    PE X (.Call (.Name x p) [] kws pos) (tCallK sp gV E tNil tk) := by
  refine ⟨fun pins s σ H Q I hw => wpAny_Call_Name_kw (ld_glob I hg hm ?_ hdb)⟩
  refine PySem.W.callWith_KW0 (h₀ := X.base) I.ok.mod.kin hk hall (thn (hkw.run pos pins s σ H _ I hw) fun ws s2 ⟨zs, H2, I2, rz, q2⟩ => ⟨I2.kIn, ?_⟩) hpl
  rw [hks]
  have r2 := hb.rel (.nil : Vals [] []) rz
  exact callee F h (hb.to s2 [] ws I2.kIn (by rw [← r2.length]; exact F.many _ _ _ _ q2)) I2 r2 q2
end

/-! ## calls -/
def argsT (s : S) : List R → Option (List R × S)
  | [] => some ([], s)
  | .bx :: rs => match argsT s rs with
    | none => none
    | some (q, s2) => some (.bx :: q, s2)
  | r :: rs => match take1 s r with
    | none => none
    | some (x, s1) => match argsT s1 rs with
      | none => none
      | some (q, s2) => some (.d x :: q, s2)
def mCall (np : Nat) (g : DF) (ms : MA) : ME := fun s => match ms s with
  | .no => .no
  | .ok rs s1 => if rs.length = np then match argsT s1 rs with
    | none => .no
    | some (q, s2) => match g q s2.b with
      | .no => .no
      | .ok r b => .ok r { s2 with b := b } else .no
section
variable {K : PySem.W.Frag} {t t0 : Nat} {H : Hp} {σ : St}
theorem ArgsR.mono {F G : Hp} {B : Option (Addr × Addr)} (e : Same F G) : ∀ (rs : List R) (vs : List V), ArgsR K F B rs vs → ArgsR K G B rs vs
  | [], _, h => h
  | .d d :: rs, _, h => by
    simp only [ArgsR] at h ⊢
    obtain ⟨v, q, rfl, h1, h2⟩ := h
    exact ⟨v, q, rfl, Rep.mono e d v h1, ArgsR.mono e rs q h2⟩
  | .bx :: rs, _, h => by
    simp only [ArgsR] at h ⊢
    obtain ⟨p, g, q, h1, rfl, h2⟩ := h
    exact ⟨p, g, q, h1, rfl, ArgsR.mono e rs q h2⟩
  | .o _ :: _, _, h => h.elim
  | .sl _ :: _, _, h => h.elim
theorem argsT_ok {hi : Nat} : ∀ (rs : List R) (us : List V) (qs : List R) (s s' : S) (w : Wd) (τ : Nat), OKs K w H σ s t → RelRs K w H σ s hi τ rs us → argsT s rs = some (qs, s') → t0 ≤ τ → s.a.length ≤ t0 →
    ∃ w', OKs K w' H σ s' t ∧ Step s.a.length t0 w H w' H ∧ ArgsR K w'.F w'.B qs us ∧ Slotted s s' ∧ s'.a.length = s.a.length ∧ w'.B = w.B
  | [], _, _, s, _, w, _, ok, h, e, _, _ => by
    cases e
    simp only [RelRs] at h
    subst h
    exact ⟨w, ok, .refl, by simp only [ArgsR], .refl, rfl, rfl⟩
  | r :: rs, _, _, s, s', w, τ, ok, ⟨x, q, τ2, rfl, a1, a2, h1, h2⟩, e, ht, hn => by
    have gen : (∀ y s1, take1 s r = some (y, s1) → ∀ q2 s2, argsT s1 rs = some (q2, s2) → s2 = s' → ∃ w', OKs K w' H σ s' t ∧ Step s.a.length t0 w H w' H ∧ ArgsR K w'.F w'.B (.d y :: q2) (x :: q) ∧ Slotted s s' ∧ s'.a.length = s.a.length ∧ w'.B = w.B) := fun y s1 e1 q2 s2 e2 es => by
      subst es
      obtain ⟨w1, ok1, st1, p1, sl1, l1, o1⟩ := take1_ok (t0 := t0) ok h1 e1 (by omega) hn
      have hB : w1.B = w.B := take1_B (K := K) st1 fun p g z => ⟨_, (ok1.box p g z).1.hp⟩
      have h2' := RelRs.other ok st1.F hB sl1 rs q (τ2 + 1) h2 fun a i hi => o1 a i (by omega) (by omega)
      obtain ⟨w2, ok2, st2, p2, sl2, l2, B2⟩ := argsT_ok rs q q2 s1 _ w1 (τ2 + 1) ok1 h2' e2 (by omega) (by omega)
      rw [l1] at st2
      refine ⟨w2, ok2, st1.trans st2, ?_, sl1.trans sl2, l2.trans l1, B2.trans hB⟩
      simp only [ArgsR]
      exact ⟨x, q, rfl, Rep.mono st2.F y x p1, p2⟩
    cases r with
    | bx =>
      simp only [argsT] at e
      split at e
      · cases e
      · rename_i q2 s2 e2
        cases e
        obtain ⟨w2, ok2, st2, p2, sl2, l2, B2⟩ := argsT_ok rs q q2 s _ w (τ2 + 1) ok h2 e2 (by omega) (by omega)
        obtain ⟨p, g, hB, rfl⟩ := h1
        refine ⟨w2, ok2, st2, ?_, sl2, l2, B2⟩
        simp only [ArgsR]
        exact ⟨p, g, q, B2.trans hB, rfl, p2⟩
    | d y =>
      simp only [argsT] at e
      split at e
      · cases e
      · rename_i y s1 e1
        split at e
        · cases e
        · rename_i q2 s2 e2
          cases e
          exact gen y s1 e1 q2 _ e2 rfl
    | o c =>
      simp only [argsT] at e
      split at e
      · cases e
      · rename_i y s1 e1
        split at e
        · cases e
        · rename_i q2 s2 e2
          cases e
          exact gen y s1 e1 q2 _ e2 rfl
    | sl i =>
      simp only [argsT] at e
      split at e
      · cases e
      · rename_i y s1 e1
        split at e
        · cases e
        · rename_i q2 s2 e2
          cases e
          exact gen y s1 e1 q2 _ e2 rfl
theorem RelRs.length {w : Wd} {s : S} {hi : Nat} : ∀ (rs : List R) (us : List V) (τ : Nat), RelRs K w H σ s hi τ rs us → rs.length = us.length
  | [], _, _, h => by simp only [RelRs] at h; subst h; rfl
  | r :: rs, _, τ, ⟨x, q, τ2, e, _, _, _, h2⟩ => by subst e; simp [RelRs.length rs q (τ2 + 1) h2]
/-- behind a call -/
theorem call_after {np : Nat} {g : DF} {w : Wd} {s : S} {qs : List R} {us : List V} {r : R} {b : Bx} {Q : VK} {E : XK} (ok : OKs K w H σ s t) (ha : ArgsR K w.F w.B qs us) (hl : us.length = np) (e : g qs s.b = .ok r b)
    (k : ∀ w' H' x, OKs K w' H' σ { s with b := b } (t + 1) → Step s.a.length t w H w' H' → RelR K w' H' σ { s with b := b } t r x → Q x H') : spD K np g us H Q E := by
  refine ⟨w.F, w.B, qs, s.b, r, b, hl, ok.sub, fun p g e => (ok.box p g e).1, ok.nob, ha, e, fun F' B' H' x A rel => ?_⟩
  -- who owns what behind it
  have ho : ∀ a i, w.O a = some i → H' a = H a ∧ F' a = none ∧ ¬ isBox B' a := fun a i h => by
    obtain ⟨h1, ⟨o, h2, nt⟩, h3⟩ := ok.own a i h
    have nb : ¬ isBox w.B a := fun ⟨p, g, e, z⟩ => by
      obtain ⟨_, z1, z2⟩ := ok.box p g e
      rcases z with rfl | rfl
      · rw [h] at z1; cases z1
      · rw [h] at z2; cases z2
    refine ⟨(A.keep a o h2 nb).trans h2.symm, ?_, fun ⟨p, g, e, z⟩ => ?_⟩
    · cases q : F' a with
      | none => rfl
      | some u =>
        rcases A.newF a (by rw [q]; simp) with z | z | ⟨xs, z⟩ | z
        · exact absurd h1 z
        · rw [h2] at z; cases z
        · rw [h2] at z; exact absurd (Option.some.inj z) (nt xs)
        · exact absurd z nb
    · rcases A.B with e1 | ⟨_, e1⟩
      · exact nb ⟨p, g, e1 ▸ e, z⟩
      · obtain ⟨z1, z2⟩ := e1 p g e
        rcases z with rfl | rfl
        · rw [h2] at z1; cases z1
        · rw [h2] at z2; cases z2
  have hB0 : ∀ p g, B' = some (p, g) → w.O p = none ∧ w.O g = none := fun p g e => by
    constructor
    · cases q : w.O p with
      | none => rfl
      | some i => exact absurd ⟨p, g, e, .inl rfl⟩ (ho p i q).2.2
    · cases q : w.O g with
      | none => rfl
      | some i => exact absurd ⟨p, g, e, .inr rfl⟩ (ho g i q).2.2
  have hsl : ∀ (O' : Addr → Option Nat), (∀ a i, w.O a = some i → O' a = some i) → ∀ (i : Nat) q v, s.a[i]? = some q → σ[i]? = some v → SlR K ⟨F', O', B'⟩ H' i q v := fun O' hO i q v h1 h2 => by
    have hs := ok.sl i q v h1 h2
    cases q with
    | none => trivial
    | some q =>
      cases q with
      | d y => obtain ⟨u, e, h1⟩ := hs; exact ⟨u, e, Rep.mono A.mono y u h1⟩
      | o c =>
        obtain ⟨u, e, h1⟩ := hs
        refine ⟨u, e, ?_⟩
        cases c with
        | lst ds => obtain ⟨a, xs, e, q1, q2, q3⟩ := h1; exact ⟨a, xs, e, hO a i q1, (ho a i q1).1.trans q2, RepL.mono A.mono ds xs q3⟩
        | dK ds => obtain ⟨a, xs, e, q1, q2, q3⟩ := h1; exact ⟨a, xs, e, hO a i q1, (ho a i q1).1.trans q2, RepK.mono A.mono ds xs q3⟩
        | dT ds => obtain ⟨a, xs, e, q1, q2, q3⟩ := h1; exact ⟨a, xs, e, hO a i q1, (ho a i q1).1.trans q2, RepT.mono A.mono ds xs q3⟩
      | sl _ => exact hs
      | bx =>
        obtain ⟨p, g, e, h1⟩ := hs
        rcases A.B with z | ⟨z, _⟩
        · exact ⟨p, g, z.trans e, h1⟩
        · rw [z] at e; cases e
  have keep : ∀ a o, H a = some o → (∀ i, w.O a = some i → s.a.length ≤ i ∧ i < t) → ¬ isBox w.B a → H' a = some o := fun a o h _ hb => A.keep a o h hb
  have newF : ∀ a, F' a ≠ none → w.F a ≠ none ∨ H a = none ∨ (∃ i, w.O a = some i ∧ (i < s.a.length ∨ t ≤ i)) ∨ (∃ xs, H a = some (.tup xs)) ∨ isBox w.B a := fun a h => (A.newF a h).imp id (fun z => z.imp id .inr)
  -- without a new owner
  have plain : RelR K ⟨F', w.O, B'⟩ H' σ { s with b := b } t r x → Q x H' := fun rel => by
    refine k ⟨F', w.O, B'⟩ H' x ⟨A.sub, ok.len, hsl w.O (fun _ _ h => h), fun a i h => ?_, Nat.le_succ_of_le ok.tN, fun p g e => ⟨A.box p g e, hB0 p g e⟩, A.nob⟩ ⟨A.mono, keep, A.there, fun _ _ h _ _ => h, newF, fun a i h => .inr (by rw [show w.O a = some i from h]; simp), fun _ _ h _ => .inr h, A.B⟩ rel
    obtain ⟨h1, ⟨o, h2, nt⟩, h3⟩ := ok.own a i h
    exact ⟨(ho a i h).2.1, ⟨o, (ho a i h).1.trans h2, nt⟩, Nat.lt_succ_of_lt h3⟩
  -- with one
  have owned : ∀ (a : Addr) (o : HO) (c : C), r = .o c → NT o → x = .ref a → F' a = none → H a = none → H' a = some o → ¬ isBox B' a → (∀ O' : Addr → Option Nat, O' a = some t → Own K ⟨F', O', B'⟩ H' t c x) → Q x H' := fun a o c er nt0 ex h1 h2 h3 h4 hc => by
    have hn : w.O a = none := by
      cases q : w.O a with
      | none => rfl
      | some i =>
        obtain ⟨_, ⟨u, h5, _⟩, _⟩ := ok.own a i q
        rw [h2] at h5; cases h5
    have hO : ∀ b i, w.O b = some i → (if b = a then some t else w.O b) = some i := fun b i h => by
      rw [if_neg (fun z => by subst z; rw [hn] at h; cases h)]; exact h
    refine k ⟨F', fun b => if b = a then some t else w.O b, B'⟩ H' x ⟨A.sub, ok.len, hsl _ hO, fun b i h => ?_, Nat.le_succ_of_le ok.tN, fun p g e => ⟨A.box p g e, ?_, ?_⟩, A.nob⟩
      ⟨A.mono, keep, A.there, fun b i h _ _ => hO b i h, newF, fun b i h => ?_, fun b i h _ => ?_, A.B⟩ (by subst er; exact hc _ (if_pos rfl))
    · have h' : (if b = a then some t else w.O b) = some i := h
      by_cases hb : b = a
      · rw [if_pos hb] at h'; cases h'
        subst hb
        exact ⟨h1, ⟨o, h3, nt0⟩, Nat.lt_succ_self _⟩
      · rw [if_neg hb] at h'
        obtain ⟨q1, ⟨u, q2, nt⟩, q3⟩ := ok.own b i h'
        exact ⟨(ho b i h').2.1, ⟨u, (ho b i h').1.trans q2, nt⟩, Nat.lt_succ_of_lt q3⟩
    · show (if p = a then some t else w.O p) = none
      rw [if_neg (fun z => by subst z; exact h4 ⟨p, g, e, .inl rfl⟩)]; exact (hB0 p g e).1
    · show (if g = a then some t else w.O g) = none
      rw [if_neg (fun z => by subst z; exact h4 ⟨p, g, e, .inr rfl⟩)]; exact (hB0 p g e).2
    · have h' : (if b = a then some t else w.O b) = some i := h
      by_cases hb : b = a
      · subst hb; exact .inl h2
      · rw [if_neg hb] at h'; exact .inr (by rw [h']; simp)
    · have h' : (if b = a then some t else w.O b) = some i := h
      by_cases hb : b = a
      · subst hb; exact .inl h2
      · rw [if_neg hb] at h'; exact .inr h'
  cases r with
  | d y => exact plain rel
  | o c =>
    obtain ⟨rel, nb⟩ := rel
    cases c with
    | lst ds =>
      obtain ⟨a, xs, ex, h1, h2, h3, h4⟩ := rel
      exact owned a _ _ rfl (fun _ h => by cases h) ex h1 h2 h3 (nb a ex) fun O' hO => ⟨a, xs, ex, hO, h3, h4⟩
    | dK ds =>
      obtain ⟨a, xs, ex, h1, h2, h3, h4⟩ := rel
      exact owned a _ _ rfl (fun _ h => by cases h) ex h1 h2 h3 (nb a ex) fun O' hO => ⟨a, xs, ex, hO, h3, h4⟩
    | dT ds =>
      obtain ⟨a, xs, ex, h1, h2, h3, h4⟩ := rel
      exact owned a _ _ rfl (fun _ h => by cases h) ex h1 h2 h3 (nb a ex) fun O' hO => ⟨a, xs, ex, hO, h3, h4⟩
  | sl _ => exact rel.elim
  | bx => exact plain rel
end
section
variable {X : Cx} {e : Expr} {es : List Expr} {ms : MA} {k : Nat} {f : Addr} {fd : FuncData} {ps : List Str} {x : Str} {p pos : Pos} {g : DF} {E : XK}
theorem call_snd {K : PySem.W.Frag} {ta : TA} {np : Nat} (h : SndA K ta ms) : SndE K (fun σ H Q => ta σ H fun vs H1 => spD K np g vs H1 Q E) (mCall np g ms) := by
  intro σ H w s t Q r s' ok e kk
  simp only [mCall] at e
  split at e
  · cases e
  · rename_i rs sa e1
    split at e
    · rename_i hlen
      split at e
      · cases e
      · rename_i qs sb e2
        split at e
        · cases e
        · rename_i r' b e3
          cases e
          refine h σ H w s t _ rs sa ok e1 fun w1 H1 us t1 a1 ok1 st1 sl1 rel1 => ?_
          have l := ok.slen ok1
          have tN := ok.tN
          obtain ⟨w2, ok2, st2, ar, sl2, l2, _⟩ := argsT_ok (t0 := t) rs us qs sa sb w1 t ok1 rel1 e2 (Nat.le_refl _) (by rw [l]; exact tN)
          rw [l] at st2
          refine call_after ok2 ar ((RelRs.length rs us t rel1).symm.trans hlen) e3 fun w3 H3 y ok3 st3 rel3 => ?_
          rw [l2, l] at st3
          exact kk w3 H3 y (t1 + 1) t1 a1 (Nat.lt_succ_self _) ok3 ((st1.trans st2).trans (st3.mono a1)) (sl1.trans sl2) rel3
    · cases e
theorem re_call (F : FnG X.prog X.w X.K X.mg X.base k f fd ps (spD X.K ps.length g)) (hr : Here X k) (hm : X.mg x = some (.ref f)) (hk : PySem.W.keepIn X.K (.ref f) = true) (hb : Binds X.K fd ps [])
    (ha : RA X (e :: es) ms) (hg : Gl X x := by rfl) (hdb : (x == ("__debug__" : Str)) = false := by decide) (he : starEach (e :: es) X.env = (false, eval e X.env) :: starEach es X.env := by rfl) (hpl : (backTo pos (starEach es X.env)).any (·.1) = false := by rfl) :
    RE X (.Call (.Name x p) (e :: es) [] pos) (mCall ps.length g ms) := by
  obtain ⟨ta, p1, s1⟩ := ha
  exact ⟨_, peg_call (E := E0) F hr hg hm hk hb p1 hdb he hpl, call_snd s1⟩
theorem re_call0 (F : FnG X.prog X.w X.K X.mg X.base k f fd ps (spD X.K ps.length g)) (hr : Here X k) (hm : X.mg x = some (.ref f)) (hk : PySem.W.keepIn X.K (.ref f) = true) (hb : Binds X.K fd ps [])
    (hg : Gl X x := by rfl) (hdb : (x == ("__debug__" : Str)) = false := by decide) :
    RE X (.Call (.Name x p) [] [] pos) (mCall ps.length g mNil) := by
  refine ⟨_, peg_call0 (E := E0) F hr hg hm hk hb hdb, ?_⟩
  refine call_snd (E := E0) (ta := tNil) (ms := mNil) fun σ H w s t Q r s' ok e k => ?_
  cases e
  exact k w H [] t (Nat.le_refl _) ok .refl .refl rfl

/-! ## keywords -/
structure RK (X : Cx) (kws : List Keyword) (m : MA) : Prop where
  ex : ∃ ta, PK X kws ta ∧ SndA X.K ta m
theorem nil_snd {K : PySem.W.Frag} : SndA K tNil mNil := fun σ H w s t Q r s' ok e k => by
  cases e
  exact k w H [] t (Nat.le_refl _) ok .refl .refl rfl
theorem cons_snd {K : PySem.W.Frag} {te : TE} {ta : TA} {m : ME} (h2 : SndE K te m) (h4 : SndA K ta ms) : SndA K (tCons te ta) (mCons m ms) := by
  intro σ H w s t Q r s' ok e k
  simp only [mCons] at e
  split at e
  · cases e
  · rename_i r1 s1 e1
    split at e
    · cases e
    · rename_i rs s2 e2
      cases e
      refine h2 σ H w s t _ r1 s1 ok e1 fun w1 H1 x t1 τ a1 a2 ok1 st1 sl1 rel1 => ?_
      refine h4 σ H1 w1 s1 t1 _ rs _ ok1 e2 fun w2 H2 xs t2 a3 ok2 st2 sl2 rel2 => ?_
      have l := ok.slen ok1
      have tN := ok.tN
      rw [l] at st2
      refine k w2 H2 (x :: xs) t2 (by omega) ok2 (st1.trans (st2.mono (by omega))) (sl1.trans sl2) ⟨x, xs, τ, rfl, a1, by omega, ?_, RelRs.lo rs xs rel2 (by omega)⟩
      exact RelR.keep ok1 rel1 (by rw [l]; exact st2) (by omega) (by omega) sl2
theorem rk_nil : RK X [] mNil := ⟨_, pk_nil, nil_snd⟩
theorem rk_cons {kws : List Keyword} {m : ME} {nm : Option Str} {kpos : Pos} (h : RE X e m) (hr : RK X kws ms) : RK X (⟨nm, e, kpos⟩ :: kws) (mCons m ms) := by
  obtain ⟨te, h1, h2⟩ := h
  obtain ⟨ta, h3, h4⟩ := hr
  exact ⟨_, pk_cons h1 h3, cons_snd h2 h4⟩
def gP {α : Type} (nu nk : Nat) (perm : List Nat) (us ws : List α) : List α := if us.length = nu ∧ ws.length = nk then perm.filterMap fun i => (us ++ ws)[i]? else []
theorem vals_pick {vs : List V} {us : List Value} (r : Vals vs us) : ∀ perm : List Nat, Vals (perm.filterMap fun i => vs[i]?) (perm.filterMap fun i => us[i]?)
  | [] => .nil
  | i :: perm => by
    have ih := vals_pick r perm
    rw [List.filterMap_cons, List.filterMap_cons]
    cases q : vs[i]? with
    | none => rw [Vals.none_of r q]; exact ih
    | some x =>
      obtain ⟨u, h1, h2⟩ := Vals.get r q
      rw [h1]
      exact .cons h2 ih
theorem kb_mk {K : PySem.W.Frag} {ks : List Str} {nu nk : Nat} {perm : List Nat} (hp : 0 < ps.length) (h : ∀ us ws : List Value, us.length = nu → ws.length = nk → bindArgs fd ⟨us, ks.zip ws⟩ = pure (ps.zip (gP nu nk perm us ws))) : KBinds K fd ps ks (gP nu nk perm) (gP nu nk perm) := by
  refine ⟨fun s us ws _ hl => ?_, fun {vs us zs ws} r1 r2 => ?_⟩
  · by_cases hc : us.length = nu ∧ ws.length = nk
    · exact .of_eq (h us ws hc.1 hc.2)
    · unfold gP at hl
      rw [if_neg hc] at hl
      simp only [List.length_nil] at hl
      omega
  · unfold gP
    rw [r1.length, r2.length]
    split
    · exact vals_pick (Vals.append r1 r2) perm
    · exact .nil
theorem args_no_o {K : PySem.W.Frag} {F : Hp} {B : Option (Addr × Addr)} : ∀ (qs : List R) (us : List V) (i : Nat) (c : C), ArgsR K F B qs us → qs[i]? = some (.o c) → False
  | [], _, _, _, _, e => by simp at e
  | .d d :: rs, _, 0, _, _, e => by simp at e
  | .bx :: rs, _, 0, _, _, e => by simp at e
  | .d d :: rs, _, i + 1, c, h, e => by
    simp only [ArgsR] at h
    obtain ⟨v, q, rfl, _, h2⟩ := h
    exact args_no_o rs q i c h2 (by simpa using e)
  | .bx :: rs, _, i + 1, c, h, e => by
    simp only [ArgsR] at h
    obtain ⟨p, g, q, _, rfl, h2⟩ := h
    exact args_no_o rs q i c h2 (by simpa using e)
  | .o _ :: _, _, _, _, h, _ => h.elim
  | .sl _ :: _, _, _, _, h, _ => h.elim
theorem args_pick {K : PySem.W.Frag} {F : Hp} {B : Option (Addr × Addr)} {qs : List R} {us : List V} (h : ArgsR K F B qs us) : ∀ perm : List Nat, ArgsR K F B (perm.filterMap fun i => qs[i]?) (perm.filterMap fun i => us[i]?)
  | [] => by simp only [List.filterMap_nil, ArgsR]
  | i :: perm => by
    have ih := args_pick h perm
    have hl := ArgsR.length qs us h
    rw [List.filterMap_cons, List.filterMap_cons]
    cases q : qs[i]? with
    | none =>
      have : us[i]? = none := by rw [List.getElem?_eq_none_iff] at q ⊢; omega
      rw [this]; exact ih
    | some r =>
      obtain ⟨hi, _⟩ := List.getElem?_eq_some_iff.mp q
      have hu : us[i]? = some (us[i]'(by omega)) := List.getElem?_eq_getElem _
      have sl := ArgsR.slot (H := F) qs us 0 i r _ h q hu
      rw [hu]
      cases r with
      | d y =>
        obtain ⟨v, e, h1⟩ := sl
        simp only [ArgsR]
        refine ⟨_, _, rfl, ?_, ih⟩
        cases e; exact h1
      | bx =>
        obtain ⟨p, g, e, h1⟩ := sl
        simp only [ArgsR]
        exact ⟨p, g, _, e, by rw [Option.some.inj h1], ih⟩
      | o _ => obtain ⟨v, e, h1⟩ := sl; exfalso; exact args_no_o qs us i _ h q
      | sl _ => exact sl.elim
def mCallK (np : Nat) (g : DF) (nu nk : Nat) (perm : List Nat) (ms mk : MA) : ME := fun s => match ms s with
  | .no => .no
  | .ok rs s1 => match mk s1 with
    | .no => .no
    | .ok zs s2 => if rs.length = nu ∧ zs.length = nk then match argsT s2 (rs ++ zs) with
      | none => .no
      | some (q, s3) => if (perm.filterMap fun i => q[i]?).length = np then match g (perm.filterMap fun i => q[i]?) s3.b with
        | .no => .no
        | .ok r b => .ok r { s3 with b := b } else .no else .no
theorem RelRs.append {K : PySem.W.Frag} {H : Hp} {σ : St} {w : Wd} {s : S} {hi mid : Nat} : ∀ (rs : List R) (us : List V) (τ : Nat) {zs : List R} {vs : List V}, RelRs K w H σ s mid τ rs us → RelRs K w H σ s hi mid zs vs → τ ≤ mid → mid ≤ hi → RelRs K w H σ s hi τ (rs ++ zs) (us ++ vs)
  | [], _, τ, zs, vs, h, h2, h3, _ => by
    simp only [RelRs] at h
    subst h
    exact RelRs.lo zs vs h2 h3
  | r :: rs, _, τ, _, _, ⟨x, q, τ2, e, a1, a2, h1, h2⟩, h3, h4, h5 => by
    subst e
    exact ⟨x, _, τ2, rfl, a1, by omega, h1, RelRs.append rs q (τ2 + 1) h2 h3 (by omega) h5⟩
theorem callk_snd {K : PySem.W.Frag} {ta tk : TA} {np nu nk : Nat} {perm : List Nat} {mk : MA} (h : SndA K ta ms) (hk : SndA K tk mk) : SndE K (tCallK (spD K np g) (gP nu nk perm) E ta tk) (mCallK np g nu nk perm ms mk) := by
  intro σ H w s t Q r s' ok e kk
  simp only [mCallK] at e
  split at e
  · cases e
  · rename_i rs sa e1
    split at e
    · cases e
    · rename_i zs sa2 e1k
      split at e
      · rename_i hc
        split at e
        · cases e
        · rename_i qs sb e2
          split at e
          · rename_i hlen
            split at e
            · cases e
            · rename_i r' b e3
              cases e
              refine h σ H w s t _ rs sa ok e1 fun w1 H1 us t1 a1 ok1 st1 sl1 rel1 => ?_
              refine hk σ H1 w1 sa t1 _ zs sa2 ok1 e1k fun w1' H1' vs t1' a1' ok1' st1' sl1' rel1' => ?_
              have l := ok.slen ok1
              have l' := ok.slen ok1'
              have tN := ok.tN
              have relA := RelRs.keep ok1 st1' sl1' (Nat.le_refl _) rs us t rel1 (by omega)
              have rel := RelRs.append rs us t relA rel1' a1 a1'
              rw [l] at st1'
              obtain ⟨w2, ok2, st2, ar, sl2, l2, _⟩ := argsT_ok (t0 := t) (rs ++ zs) (us ++ vs) qs sa2 sb w1' t ok1' rel e2 (Nat.le_refl _) (by rw [l']; exact tN)
              rw [l'] at st2
              have eg : gP nu nk perm us vs = perm.filterMap fun i => (us ++ vs)[i]? := by
                unfold gP
                rw [if_pos ⟨by rw [← RelRs.length rs us t rel1]; exact hc.1, by rw [← RelRs.length zs vs t1 rel1']; exact hc.2⟩]
              rw [eg]
              have ar2 := args_pick ar perm
              refine call_after ok2 ar2 ((ArgsR.length _ _ ar2).symm.trans hlen) e3 fun w3 H3 y ok3 st3 rel3 => ?_
              rw [l2, l'] at st3
              exact kk w3 H3 y (t1' + 1) t1' (by omega) (Nat.lt_succ_self _) ok3 (((st1.trans (st1'.mono a1)).trans st2).trans (st3.mono (by omega))) ((sl1.trans sl1').trans sl2) rel3
          · cases e
      · cases e
theorem re_callK {kws : List Keyword} {ks : List Str} {nu nk : Nat} {perm : List Nat} {mk : MA} (F : FnG X.prog X.w X.K X.mg X.base k f fd ps (spD X.K ps.length g)) (hr : Here X k) (hm : X.mg x = some (.ref f)) (hk : PySem.W.keepIn X.K (.ref f) = true) (hb : KBinds X.K fd ps ks (gP nu nk perm) (gP nu nk perm))
    (ha : RA X (e :: es) ms) (hkw : RK X kws mk) (hall : (backToKw pos (keywordEach kws X.env)).all (·.1.isSome) = true := by rfl) (hks : (backToKw pos (keywordEach kws X.env)).filterMap (·.1) = ks := by rfl) (hg : Gl X x := by rfl)
    (hdb : (x == ("__debug__" : Str)) = false := by decide) (he : starEach (e :: es) X.env = (false, eval e X.env) :: starEach es X.env := by rfl)
    (hpl : ((backTo pos (starEach (e :: es) X.env)).any (·.1) || (backToKw pos (keywordEach kws X.env)).any (·.1.isNone)) = false := by rfl) :
    RE X (.Call (.Name x p) (e :: es) kws pos) (mCallK ps.length g nu nk perm ms mk) := by
  obtain ⟨ta, p1, s1⟩ := ha
  obtain ⟨tk, p2, s2⟩ := hkw
  exact ⟨_, peg_callK (E := E0) F hr hg hm hk hb p1 p2 hall hks hdb he hpl, callk_snd s1 s2⟩
theorem re_callK0 {kws : List Keyword} {ks : List Str} {nk : Nat} {perm : List Nat} {mk : MA} (F : FnG X.prog X.w X.K X.mg X.base k f fd ps (spD X.K ps.length g)) (hr : Here X k) (hm : X.mg x = some (.ref f)) (hk : PySem.W.keepIn X.K (.ref f) = true) (hb : KBinds X.K fd ps ks (gP 0 nk perm) (gP 0 nk perm))
    (hkw : RK X kws mk) (hall : (backToKw pos (keywordEach kws X.env)).all (·.1.isSome) = true := by rfl) (hks : (backToKw pos (keywordEach kws X.env)).filterMap (·.1) = ks := by rfl) (hg : Gl X x := by rfl)
    (hdb : (x == ("__debug__" : Str)) = false := by decide) (hpl : ((backTo pos (starEach [] X.env)).any (·.1) || (backToKw pos (keywordEach kws X.env)).any (·.1.isNone)) = false := by rfl) :
    RE X (.Call (.Name x p) [] kws pos) (mCallK ps.length g 0 nk perm mNil mk) := by
  obtain ⟨tk, p2, s2⟩ := hkw
  exact ⟨_, peg_callK0 (E := E0) F hr hg hm hk hb p2 hall hks hdb hpl, callk_snd nil_snd s2⟩
end
end Qz
namespace Qz
open PySem PySem.Spec L2
open PyProof.Rows hiding St

/-! ## built-ins, called -/
def views (s : S) : List R → Option (List D)
  | [] => some []
  | r :: rs => match view s r with
    | none => none
    | some x => match views s rs with
      | none => none
      | some xs => some (x :: xs)
def VwL (K : PySem.W.Frag) (F H : Hp) : List D → List V → Prop
  | [], us => us = []
  | x :: xs, us => ∃ u q, us = u :: q ∧ Vw K F H x u ∧ VwL K F H xs q
def mBlt (f : List D → Option R) (ms : MA) : ME := fun s => match ms s with
  | .no => .no
  | .ok rs s1 => match views s1 rs with
    | none => .no
    | some xs => match f xs with
      | none => .no
      | some r => .ok r s1
def BltS (K : PySem.W.Frag) (rd : List V → Hp → VK → Prop) (f : List D → Option R) : Prop := ∀ (w : Wd) (H : Hp) (σ : St) (s : S) (t : Nat) (us : List V) (xs : List D) (r : R) (Q : VK), OKs K w H σ s t → VwL K w.F H xs us → f xs = some r →
  (∀ w' H' z, OKs K w' H' σ s (t + 1) → Step s.a.length t w H w' H' → RelR K w' H' σ s t r z → Q z H') → rd us H Q
section
variable {K : PySem.W.Frag} {t : Nat} {w : Wd} {H : Hp} {σ : St} {s : S}
theorem views_ok {hi : Nat} (ok : OKs K w H σ s t) : ∀ (rs : List R) (us : List V) (xs : List D) (τ : Nat), RelRs K w H σ s hi τ rs us → views s rs = some xs → VwL K w.F H xs us
  | [], _, _, _, h, e => by
    cases e
    simp only [RelRs] at h
    exact h
  | r :: rs, _, _, τ, ⟨x, q, τ2, rfl, a1, a2, h1, h2⟩, e => by
    simp only [views] at e
    split at e
    · cases e
    · rename_i y e1
      split at e
      · cases e
      · rename_i ys e2
        cases e
        exact ⟨x, q, rfl, RelR.view ok h1 e1, views_ok ok rs q ys (τ2 + 1) h2 e2⟩
theorem blt_snd {ta : TA} {rd : List V → Hp → VK → Prop} {f : List D → Option R} {ms : MA} (h : SndA K ta ms) (hf : BltS K rd f) : SndE K (fun σ H Q => ta σ H fun us H1 => rd us H1 Q) (mBlt f ms) := by
  intro σ H w s t Q r s' ok e k
  simp only [mBlt] at e
  split at e
  · cases e
  · rename_i rs sa e1
    split at e
    · cases e
    · rename_i xs e2
      split at e
      · cases e
      · rename_i r' e3
        cases e
        refine h σ H w s t _ rs _ ok e1 fun w1 H1 us t1 a1 ok1 st1 sl1 rel1 => ?_
        have l := ok.slen ok1
        refine hf w1 H1 σ _ t1 us xs r Q ok1 (views_ok ok1 rs us xs t rel1 e2) e3 fun w2 H2 z ok2 st2 rel2 => ?_
        rw [l] at st2
        exact k w2 H2 z (t1 + 1) t1 a1 (Nat.lt_succ_self _) ok2 (st1.trans (st2.mono a1)) sl1 rel2
end
section
variable {X : Cx} {e : Expr} {es : List Expr} {ms : MA} {p pos : Pos} {x : Str} {id T : String} {rd : List V → Hp → VK → Prop} {f : List D → Option R}
theorem re_blt (hc : CallR X (.builtin id) rd) (hf : BltS X.K rd f) (hm : X.mg x = none) (hv : bootBuiltins x = some (.builtin id)) (ha : RA X (e :: es) ms) (hg : Gl X x := by rfl) (hn : x ≠ "__name__" := by decide) (hdb : (x == ("__debug__" : Str)) = false := by decide)
    (he : starEach (e :: es) X.env = (false, eval e X.env) :: starEach es X.env := by rfl) (hpl : (backTo pos (starEach es X.env)).any (·.1) = false := by rfl) : RE X (.Call (.Name x p) (e :: es) [] pos) (mBlt f ms) := by
  obtain ⟨ta, p1, s1⟩ := ha
  exact ⟨_, pe_callB hc hg hm hv p1 hn hdb he hpl, blt_snd s1 hf⟩
theorem re_ty (hc : CallR X (.type T) rd) (hf : BltS X.K rd f) (hm : X.mg x = none) (hv : bootBuiltins x = some (.type T)) (ha : RA X (e :: es) ms) (hg : Gl X x := by rfl) (hn : x ≠ "__name__" := by decide) (hdb : (x == ("__debug__" : Str)) = false := by decide)
    (he : starEach (e :: es) X.env = (false, eval e X.env) :: starEach es X.env := by rfl) (hpl : (backTo pos (starEach es X.env)).any (·.1) = false := by rfl) : RE X (.Call (.Name x p) (e :: es) [] pos) (mBlt f ms) := by
  obtain ⟨ta, p1, s1⟩ := ha
  exact ⟨_, pe_callTy hc hg hm hv p1 hn hdb he hpl, blt_snd s1 hf⟩
end
/-! ### len, abs, int, min, max, tuple, list -/
def fLen : List D → Option R
  | [.list ds] => some (.d (.int ds.length))
  | [.tuple ds] => some (.d (.int ds.length))
  | [.str z] => if z.length ≤ sizeLine then some (.d (.int z.length)) else none
  | _ => none
def fAbs : List D → Option R
  | [.int i] => some (.d (.int (if i < 0 then -i else i)))
  | _ => none
def fInt : List D → Option R
  | [.int i] => some (.d (.int i))
  | [.bool b] => some (.d (.int (if b then 1 else 0)))
  | _ => none
def fMax2 : List D → Option R
  | [.int i, .int j] => some (.d (.int (if j > i then j else i)))
  | _ => none
def fMin2 : List D → Option R
  | [.int i, .int j] => some (.d (.int (if j < i then j else i)))
  | _ => none
def fTup : List D → Option R
  | [.list ds] => some (.d (.tuple ds))
  | [.tuple ds] => some (.d (.tuple ds))
  | _ => none
def fLst : List D → Option R
  | [.list ds] => some (.o (.lst ds))
  | [.tuple ds] => some (.o (.lst ds))
  | _ => none
section
variable {X : Cx} {K : PySem.W.Frag}
theorem VwL.one {F H : Hp} {x : D} {us : List V} (h : VwL K F H [x] us) : ∃ u, us = [u] ∧ Vw K F H x u := by
  obtain ⟨u, q, rfl, h1, rfl⟩ := h
  exact ⟨u, rfl, h1⟩
theorem VwL.two {F H : Hp} {x y : D} {us : List V} (h : VwL K F H [x, y] us) : ∃ u v, us = [u, v] ∧ Vw K F H x u ∧ Vw K F H y v := by
  obtain ⟨u, q, rfl, h1, v, q2, rfl, h2, rfl⟩ := h
  exact ⟨u, v, rfl, h1, h2⟩
def rLen (K : PySem.W.Frag) : List V → Hp → VK → Prop := fun xs H Q => (∃ p ys, xs = [.ref p] ∧ (SqL K H p ys ∨ SqT K H p ys) ∧ Q (.int ys.length) H) ∨ ∃ z, xs = [.str z] ∧ z.length ≤ sizeLine ∧ Q (.int z.length) H
theorem c_len : CallR X (.builtin "len") (rLen X.K) := call_len_seq.or call_len_str
theorem s_len : BltS K (rLen K) fLen := by
  intro w H σ s t us xs r Q ok vw e k
  unfold fLen at e
  split at e
  · cases e
    obtain ⟨u, rfl, v⟩ := vw.one
    obtain ⟨a, ys, rfl, h1, h2⟩ := v.lst ok.sub
    refine .inl ⟨a, ys, rfl, .inl h1, s_d ok k ?_⟩
    simp only [Rep]; rw [RepL.length _ _ h2]
  · cases e
    obtain ⟨u, rfl, v⟩ := vw.one
    obtain ⟨a, ys, rfl, h1, h2⟩ := v.tup
    refine .inl ⟨a, ys, rfl, .inr (SqT.of (ok.sub _ _ h1)), s_d ok k ?_⟩
    simp only [Rep]; rw [RepL.length _ _ h2]
  · split at e
    · rename_i hz
      cases e
      obtain ⟨u, rfl, v⟩ := vw.one
      rw [v.str]
      exact .inr ⟨_, rfl, hz, s_d ok k (by simp only [Rep])⟩
    · cases e
  · cases e
theorem s_abs : BltS K (fun xs H Q => ∃ i, xs = [.int i] ∧ Q (.int (if i < 0 then -i else i)) H) fAbs := by
  intro w H σ s t us xs r Q ok vw e k
  unfold fAbs at e
  split at e
  · cases e
    obtain ⟨u, rfl, v⟩ := vw.one
    rw [v.int]
    exact ⟨_, rfl, s_d ok k (by simp only [Rep])⟩
  · cases e
theorem s_int : BltS K (fun xs H Q => (∃ i, xs = [.int i] ∧ Q (.int i) H) ∨ ∃ k, xs = [.bl k] ∧ Q (.int (if k then 1 else 0)) H) fInt := by
  intro w H σ s t us xs r Q ok vw e k
  unfold fInt at e
  split at e
  · cases e
    obtain ⟨u, rfl, v⟩ := vw.one
    rw [v.int]
    exact .inl ⟨_, rfl, s_d ok k (by simp only [Rep])⟩
  · cases e
    obtain ⟨u, rfl, v⟩ := vw.one
    rw [v.bool]
    exact .inr ⟨_, rfl, s_d ok k (by simp only [Rep])⟩
  · cases e
theorem s_max2 : BltS K (fun xs H Q => ∃ i j, xs = [.int i, .int j] ∧ Q (.int (if j > i then j else i)) H) fMax2 := by
  intro w H σ s t us xs r Q ok vw e k
  unfold fMax2 at e
  split at e
  · cases e
    obtain ⟨u, u2, rfl, v, v2⟩ := vw.two
    rw [v.int, v2.int]
    exact ⟨_, _, rfl, s_d ok k (by simp only [Rep])⟩
  · cases e
theorem s_min2 : BltS K (fun xs H Q => ∃ i j, xs = [.int i, .int j] ∧ Q (.int (if j < i then j else i)) H) fMin2 := by
  intro w H σ s t us xs r Q ok vw e k
  unfold fMin2 at e
  split at e
  · cases e
    obtain ⟨u, u2, rfl, v, v2⟩ := vw.two
    rw [v.int, v2.int]
    exact ⟨_, _, rfl, s_d ok k (by simp only [Rep])⟩
  · cases e
theorem s_tup : BltS K (fun xs H Q => ∃ p ys, xs = [.ref p] ∧ ((SqL K H p ys ∧ ∀ l, H l = none → Q (.ref l) (upd H l (.tup ys))) ∨ (SqT K H p ys ∧ Q (.ref p) H))) fTup := by
  intro w H σ s t us xs r Q ok vw e k
  unfold fTup at e
  split at e
  · cases e
    obtain ⟨u, rfl, v⟩ := vw.one
    obtain ⟨a, ys, rfl, h1, h2⟩ := v.lst ok.sub
    refine ⟨a, ys, rfl, .inl ⟨h1, fun p hp => ?_⟩⟩
    refine k (w.lay p (.tup ys)) _ _ ((lay_ok ok hp).up (Nat.le_succ _)) (lay_step ok hp) ?_
    simp only [RelR, Rep]
    exact ⟨p, ys, rfl, upd_same, RepL.mono (lay_step (t0 := t) (n := 0) ok hp).F _ _ h2⟩
  · cases e
    obtain ⟨u, rfl, v⟩ := vw.one
    obtain ⟨a, ys, rfl, h1, h2⟩ := v.tup
    refine ⟨a, ys, rfl, .inr ⟨SqT.of (ok.sub _ _ h1), s_d ok k ?_⟩⟩
    simp only [Rep]
    exact ⟨a, ys, rfl, h1, h2⟩
  · cases e
theorem s_lst : BltS K (fun xs H Q => ∃ p ys, xs = [.ref p] ∧ (SqL K H p ys ∨ SqT K H p ys) ∧ ∀ l, H l = none → Q (.ref l) (upd H l (.lst ys))) fLst := by
  intro w H σ s t us xs r Q ok vw e k
  unfold fLst at e
  split at e
  · cases e
    obtain ⟨u, rfl, v⟩ := vw.one
    obtain ⟨a, ys, rfl, h1, h2⟩ := v.lst ok.sub
    refine ⟨a, ys, rfl, .inl h1, fun p hp => ?_⟩
    refine k (w.give p t) _ _ (give_ok ok hp) (give_step ok hp) ?_
    exact ⟨p, ys, rfl, by show (if p = p then some t else w.O p) = some t; rw [if_pos rfl], upd_same, h2⟩
  · cases e
    obtain ⟨u, rfl, v⟩ := vw.one
    obtain ⟨a, ys, rfl, h1, h2⟩ := v.tup
    refine ⟨a, ys, rfl, .inr (SqT.of (ok.sub _ _ h1)), fun p hp => ?_⟩
    refine k (w.give p t) _ _ (give_ok ok hp) (give_step ok hp) ?_
    exact ⟨p, ys, rfl, by show (if p = p then some t else w.O p) = some t; rw [if_pos rfl], upd_same, h2⟩
  · cases e
variable {e : Expr} {es : List Expr} {ms : MA} {p pos : Pos}
theorem re_len (hm : X.mg "len" = none) (ha : RA X [e] ms) (hg : Gl X "len" := by rfl) (he : starEach [e] X.env = (false, eval e X.env) :: starEach [] X.env := by rfl) : RE X (.Call (.Name "len" p) [e] [] pos) (mBlt fLen ms) := re_blt c_len s_len hm PySem.boot_len ha hg (by decide) (by decide) he rfl
theorem re_abs (hm : X.mg "abs" = none) (ha : RA X [e] ms) (hg : Gl X "abs" := by rfl) (he : starEach [e] X.env = (false, eval e X.env) :: starEach [] X.env := by rfl) : RE X (.Call (.Name "abs" p) [e] [] pos) (mBlt fAbs ms) := re_blt call_abs s_abs hm (by decide +kernel) ha hg (by decide) (by decide) he rfl
theorem re_int1 (hm : X.mg "int" = none) (ha : RA X [e] ms) (hg : Gl X "int" := by rfl) (he : starEach [e] X.env = (false, eval e X.env) :: starEach [] X.env := by rfl) : RE X (.Call (.Name "int" p) [e] [] pos) (mBlt fInt ms) := re_ty call_int1 s_int hm (by decide +kernel) ha hg (by decide) (by decide) he rfl
theorem re_tuple (hm : X.mg "tuple" = none) (ha : RA X [e] ms) (hg : Gl X "tuple" := by rfl) (he : starEach [e] X.env = (false, eval e X.env) :: starEach [] X.env := by rfl) : RE X (.Call (.Name "tuple" p) [e] [] pos) (mBlt fTup ms) := re_ty call_tuple_of s_tup hm (by decide +kernel) ha hg (by decide) (by decide) he rfl
theorem re_list (hm : X.mg "list" = none) (ha : RA X [e] ms) (hg : Gl X "list" := by rfl) (he : starEach [e] X.env = (false, eval e X.env) :: starEach [] X.env := by rfl) : RE X (.Call (.Name "list" p) [e] [] pos) (mBlt fLst ms) := re_ty call_list_of s_lst hm (by decide +kernel) ha hg (by decide) (by decide) he rfl
end

end Qz
namespace Qz
open PySem PySem.Spec L2
open PyProof.Rows hiding St

/-! ## repr -/
section
variable {X : Cx} {pins : List (Addr × Obj)} {σ : St} {F H : Hp} {s : Shared}
theorem key_reads {h : Heap} {k : Key} {v : Value} (e : keyIs k v = true) : Reads h v (keyD k) [] := by
  rcases keyIs_shape e with ⟨i, t, rfl, rfl⟩ | ⟨x, t, rfl, rfl⟩
  · exact Reads.int i t
  · exact Reads.str x t
theorem not_sys (I : Inv X pins σ H s) (hs : SysM s.heap) {a : Addr} {o : Obj} {its : Array Value} {n : Nat} (ho : s.heap.get? a = some o) (hd : o.data = .seq its n) : a ≠ sysModules := fun e => by
  subst e
  obtain ⟨mm, o', es, ep, h1, h2, _⟩ := hs
  rw [ho] at h1; cases h1
  rw [hd] at h2; cases h2
mutual
theorem Rep.reads (I : Inv X pins σ H s) (hs : SysM s.heap) (sub : Same F H) : ∀ (d : D) (v : V) (u : Value), Rep X.K F d v → RelV v u → ∃ as, Reads s.heap u d as ∧ ∀ a ∈ as, a ≠ sysModules
  | .none, _, _, h, r => by
    simp only [Rep] at h; subst h; cases r
    exact ⟨_, Reads.none, by simp⟩
  | .bool b, _, _, h, r => by
    simp only [Rep] at h; subst h; cases r
    exact ⟨_, Reads.bool b, by simp⟩
  | .int i, _, _, h, r => by
    simp only [Rep] at h; subst h
    obtain ⟨t, rfl⟩ := r
    exact ⟨_, Reads.int i t, by simp⟩
  | .str i, _, _, h, r => by
    simp only [Rep] at h; subst h
    obtain ⟨t, rfl⟩ := r
    exact ⟨_, Reads.str i t, by simp⟩
  | .list ds, _, _, h, r => by
    simp only [Rep] at h
    obtain ⟨a, xs, rfl, h1, h2⟩ := h
    cases r
    obtain ⟨its, rv, ⟨o, n, ho, hc, _, hd⟩, _⟩ := I.list (sub.seq h1)
    obtain ⟨as, hr, hn⟩ := RepL.reads I hs sub ds xs its h2 rv
    refine ⟨_, Reads.list ho hc hd hr, fun b hb => ?_⟩
    rcases List.mem_cons.mp hb with rfl | hb
    · exact not_sys I hs ho hd
    · exact hn b hb
  | .tuple ds, _, _, h, r => by
    simp only [Rep] at h
    obtain ⟨a, xs, rfl, h1, h2⟩ := h
    cases r
    obtain ⟨its, rv, ⟨o, ho, hc, n, hd⟩, _⟩ := I.tuple (SqT.of (sub _ _ h1))
    obtain ⟨as, hr, hn⟩ := RepL.reads I hs sub ds xs its h2 rv
    exact ⟨_, Reads.tuple ho hc hd hr, hn⟩
  | .dict kvs, _, _, h, r => by
    simp only [Rep] at h
    obtain ⟨a, ys, rfl, h1, h2⟩ := h
    cases r
    obtain ⟨_, hne, vs, kv, o, es, ep, ho, hex, hd, _, hp, _⟩ := dk_of I.hok (sub _ _ h1)
    obtain ⟨as, bs, hr1, hr2, hn1, hn2⟩ := RepD.reads I hs sub kvs ys vs es.toList h2 kv hp
    refine ⟨_, Reads.dict ho hex.1 hd hr1 hr2, fun b hb => ?_⟩
    rcases List.mem_append.mp hb with hb | hb
    · rcases List.mem_cons.mp hb with rfl | hb
      · exact fun e => by subst e; simp at hne
      · exact hn1 b hb
    · exact hn2 b hb
theorem RepL.reads (I : Inv X pins σ H s) (hs : SysM s.heap) (sub : Same F H) : ∀ (ds : List D) (vs : List V) (us : List Value), RepL X.K F ds vs → Vals vs us → ∃ as, ReadsAll s.heap us ds as ∧ ∀ a ∈ as, a ≠ sysModules
  | [], _, _, h, r => by
    simp only [RepL] at h; subst h; cases r
    exact ⟨_, ReadsAll.nil, by simp⟩
  | d :: ds, _, _, h, r => by
    simp only [RepL] at h
    obtain ⟨x, q, rfl, h1, h2⟩ := h
    cases r with
    | cons r1 r2 =>
      obtain ⟨as, q1, n1⟩ := Rep.reads I hs sub d _ _ h1 r1
      obtain ⟨bs, q2, n2⟩ := RepL.reads I hs sub ds _ _ h2 r2
      exact ⟨_, ReadsAll.cons q1 q2, fun a ha => (List.mem_append.mp ha).elim (n1 a) (n2 a)⟩
theorem RepD.reads (I : Inv X pins σ H s) (hs : SysM s.heap) (sub : Same F H) : ∀ (ds : List (D × D)) (ys : List (Key × V)) (vs : List (Key × Value)) (es : List DictEntry), RepD X.K F ds ys → KV ys vs → Pairs (mixKind X.prog X.w) es vs →
    ∃ as bs, ReadsAll s.heap (es.map (·.key)) (ds.map (·.1)) as ∧ ReadsAll s.heap (es.map (·.val)) (ds.map (·.2)) bs ∧ (∀ a ∈ as, a ≠ sysModules) ∧ ∀ a ∈ bs, a ≠ sysModules
  | [], _, _, _, h, r, p => by
    simp only [RepD] at h; subst h; cases r; cases p
    exact ⟨_, _, ReadsAll.nil, ReadsAll.nil, by simp, by simp⟩
  | (k, d) :: ds, _, _, _, h, r, p => by
    simp only [RepD] at h
    obtain ⟨key, x, q, rfl, rfl, h1, h2⟩ := h
    cases r with
    | cons r1 r2 =>
      cases p with
      | cons p1 p2 p3 =>
        obtain ⟨e1, r1⟩ := r1
        obtain ⟨bs, q2, n2⟩ := Rep.reads I hs sub d _ _ h1 r1
        obtain ⟨as', bs', q3, q4, n3, n4⟩ := RepD.reads I hs sub ds _ _ _ h2 r2 p3
        rw [← e1] at p1
        rw [← p2] at q2
        refine ⟨_, _, ReadsAll.cons (key_reads (k := key) p1) q3, ReadsAll.cons q2 q4, fun a ha => ?_, fun a ha => (List.mem_append.mp ha).elim (n2 a) (n4 a)⟩
        exact n3 a (by simpa using ha)
end
theorem Vw.reads (I : Inv X pins σ H s) (hs : SysM s.heap) (sub : Same F H) {d : D} {v : V} {u : Value} (h : Vw X.K F H d v) (r : RelV v u) : ∃ as, Reads s.heap u d as ∧ ∀ a ∈ as, a ≠ sysModules := by
  rcases h with h | ⟨a, xs, ds, rfl, rfl, h1, h2⟩ | ⟨a, ys, kvs, rfl, rfl, h1, h2⟩
  · exact Rep.reads I hs sub d v u h r
  · cases r
    obtain ⟨its, rv, ⟨o, n, ho, hc, _, hd⟩, _⟩ := I.list (SqL.of h1)
    obtain ⟨as, hr, hn⟩ := RepL.reads I hs sub ds xs its h2 rv
    refine ⟨_, Reads.list ho hc hd hr, fun b hb => ?_⟩
    rcases List.mem_cons.mp hb with rfl | hb
    · exact not_sys I hs ho hd
    · exact hn b hb
  · cases r
    obtain ⟨_, hne, vs, kv, o, es, ep, ho, hex, hd, _, hp, _⟩ := dk_of I.hok h1
    obtain ⟨as, bs, hr1, hr2, hn1, hn2⟩ := RepD.reads I hs sub kvs ys vs es.toList h2 kv hp
    refine ⟨_, Reads.dict ho hex.1 hd hr1 hr2, fun b hb => ?_⟩
    rcases List.mem_append.mp hb with hb | hb
    · rcases List.mem_cons.mp hb with rfl | hb
      · exact fun e => by subst e; simp at hne
      · exact hn1 b hb
    · exact hn2 b hb
def fitsD (x : D) : Bool := x.showable && decide (x.depth ≤ 150) && decide (x.shown.length ≤ sizeLine)
def rReprD (K : PySem.W.Frag) : List V → Hp → VK → Prop := fun xs H Q => ∃ x d F, xs = [x] ∧ Same F H ∧ Vw K F H d x ∧ fitsD d = true ∧ Q (.str d.shown) H
theorem c_repr {k : Nat} (h : Here X k) : CallR X (.builtin "repr") (rReprD X.K) := by
  intro pins s σ H xs us Q I r q
  obtain ⟨x, d, F, rfl, sub, vw, hf, q⟩ := q
  obtain ⟨u, rfl, rx⟩ := vals1 r
  simp only [fitsD, Bool.and_eq_true, decide_eq_true_eq] at hf
  obtain ⟨⟨f1, f2⟩, f3⟩ := hf
  have hsy : SysM s.heap := by
    obtain ⟨mm, h1⟩ := h.sy
    exact ⟨mm, h1.keeps I.bk⟩
  have un := h.rm.un
  have far : ∀ (a : Addr) (as : List Addr), u = .ref a → Reads s.heap (.ref a) d as → (∀ b ∈ as, b ≠ sysModules) → wpAny (model X.prog X.w) X.A (call (.builtin "repr") [u]) (EP X pins σ Q) X.xe s := fun a as e hr hn => by
    subst e
    exact repr_of_reads' hr f1 (fun _ hm => hn _ hm rfl) h.gd (by omega) (fun _ _ e => e) (fun h' u' tk hk => ⟨.str d.shown, H, I.kept hk, ⟨_, rfl⟩, q⟩) f3
  obtain ⟨as, hr, hn⟩ := Vw.reads I hsy sub vw rx
  cases hr with
  | none => exact PySem.P.repr_of_none ⟨.str _, H, I.tok _, ⟨_, rfl⟩, q⟩
  | bool b => exact PySem.P.repr_of_bool ⟨.str _, H, I.tok _, ⟨_, rfl⟩, by simpa only [PyData.shown] using q⟩
  | int i t => exact PySem.P.repr_of_int (by simpa [PyData.showable] using f1) ⟨.str _, H, I.tok _, ⟨_, rfl⟩, by simpa only [PyData.shown] using q⟩
  | str y t => exact PySem.P.repr_of_str ⟨.str _, H, I.tok _, ⟨_, rfl⟩, by simpa only [PyData.shown] using q⟩ (by simpa only [PyData.shown] using f3)
  | list h1 h2 h3 h4 => exact far _ _ rfl (.list h1 h2 h3 h4) hn
  | tuple h1 h2 h3 h4 => exact far _ _ rfl (.tuple h1 h2 h3 h4) hn
  | dict h1 h2 h3 h4 h5 => exact far _ _ rfl (.dict h1 h2 h3 h4 h5) hn
end
def fRepr : List D → Option R
  | [d] => if fitsD d then some (.d (.str d.shown)) else none
  | _ => none
section
variable {X : Cx} {K : PySem.W.Frag} {e : Expr} {es : List Expr} {ms : MA} {p pos : Pos}
theorem s_repr : BltS K (rReprD K) fRepr := by
  intro w H σ s t us xs r Q ok vw e k
  unfold fRepr at e
  split at e
  · split at e
    · rename_i hf
      cases e
      obtain ⟨u, rfl, v⟩ := vw.one
      exact ⟨u, _, w.F, rfl, ok.sub, v, hf, s_d ok k (by simp only [Rep])⟩
    · cases e
  · cases e
theorem re_repr {k : Nat} (h : Here X k) (hm : X.mg "repr" = none) (ha : RA X [e] ms) (hg : Gl X "repr" := by rfl) (he : starEach [e] X.env = (false, eval e X.env) :: starEach [] X.env := by rfl) : RE X (.Call (.Name "repr" p) [e] [] pos) (mBlt fRepr ms) :=
  re_blt (c_repr h) s_repr hm (by decide +kernel) ha hg (by decide) (by decide) he rfl

/-! ## isinstance of a built-in class -/
def tyName : D → String
  | .none => "NoneType"
  | .bool _ => "bool"
  | .int _ => "int"
  | .str _ => "str"
  | .list _ => "list"
  | .tuple _ => "tuple"
  | .dict _ => "dict"
def isKind (c : String) (x : D) : Bool := match kitB (tyName x) c with
  | some b => b
  | none => false
theorem tyX {F H : Hp} (sub : Same F H) {x : D} {v : V} (h : Vw K F H x v) : TyX K H v (.type (tyName x)) := by
  rcases h with h | ⟨a, xs, ds, rfl, rfl, h1, h2⟩ | ⟨a, ys, kvs, rfl, rfl, h1, h2⟩
  · cases x with
    | none => simp only [Rep] at h; subst h; exact .base .non
    | bool b => simp only [Rep] at h; subst h; exact .base (.bl b)
    | int b => simp only [Rep] at h; subst h; exact .base (.int b)
    | str b => simp only [Rep] at h; subst h; exact .base (.str b)
    | list b =>
      simp only [Rep] at h
      obtain ⟨a, xs, rfl, h1, _⟩ := h
      rcases sub.seq h1 with (q | ⟨o, q⟩) | ⟨o, _, _, q, c, _⟩
      · exact .base (.lst q)
      · exact .base (.frz q)
      · exact .kList q c
    | tuple b =>
      simp only [Rep] at h
      obtain ⟨a, xs, rfl, h1, _⟩ := h
      exact .base (.tup (sub _ _ h1))
    | dict b =>
      simp only [Rep] at h
      obtain ⟨a, xs, rfl, h1, _⟩ := h
      exact .base (.dK (sub _ _ h1))
  · exact .base (.lst h1)
  · exact .base (.dK h1)
def fIsi (c : String) : D → Option R := fun x => match kitB (tyName x) c with
  | some b => some (.d (.bool b))
  | none => none
theorem re_isi {m : ME} {c : String} {cn : Str} {p2 : Pos} (hm : X.mg "isinstance" = none) (hmc : X.mg cn = none) (hv : bootBuiltins cn = some (.type c)) (ha : RE X e m) (hg : Gl X "isinstance" := by rfl) (hgc : Gl X cn := by rfl) (hn : cn ≠ "__name__" := by decide) (hdb : (cn == ("__debug__" : Str)) = false := by decide)
    (he : starEach [e, .Name cn p2] X.env = (false, eval e X.env) :: starEach [.Name cn p2] X.env := by rfl) (hs : starEach [.Name cn p2] X.env = (false, eval (.Name cn p2) X.env) :: starEach [] X.env := by rfl) (hpl : (backTo pos (starEach [.Name cn p2] X.env)).any (·.1) = false := by rfl) :
    RE X (.Call (.Name "isinstance" p) [e, .Name cn p2] [] pos) (mUn (fIsi c) m) := by
  obtain ⟨te, p1, s1⟩ := ha
  refine ⟨_, pe_callB call_isi hg hm (by decide +kernel) (pa_cons p1 (pa_cons (pe_bltn (v := .ty c) hgc hmc hv rfl hn hdb) pa_nil hs) he) (by decide) (by decide) he hpl, fun σ H w s t Q r s' ok e k => ?_⟩
  simp only [mUn] at e
  split at e
  · cases e
  · rename_i r1 sa e1
    split at e
    · cases e
    · rename_i x e2
      split at e
      · cases e
      · rename_i r' e3
        cases e
        refine s1 σ H w s t _ r1 _ ok e1 fun w1 H1 u t1 τ a1 a2 ok1 st1 sl1 rel1 => ?_
        have v := RelR.view ok1 rel1 e2
        unfold fIsi at e3
        split at e3
        · rename_i b hb
          cases e3
          exact ⟨u, .ty c, _, _, b, rfl, .ty c, tyX ok1.sub v, kit_ty hb, k w1 H1 _ t1 τ a1 a2 ok1 st1 sl1 (by simp only [RelR, Rep])⟩
        · cases e3
end

/-! ## the law's end -/
theorem law_end {P : Program} {w : World} {K : PySem.W.Frag} {mg mb : Str → Option Value} {k : Nat} {fa a : Addr} {fd : FuncData} {x : Str} {g : DF} {s₁ : Shared} {vs : List Value} {ns : List Int}
    (KX : K.In s₁.heap) (hns : s₁.heap.Ns mainGlobals mg) (hb : s₁.heap.Ns builtinsNs mb) (hbb : ∀ x : Str, x ≠ "__name__" → mb x = bootBuiltins x) (hlim : s₁.heap.NoLimit) (hg : s₁.gens = #[]) (hsy : SysM s₁.heap)
    (ha : s₁.heap.get? a = some { cls := .type "list", data := .seq vs.toArray }) (hi : IntsAre vs ns) (hl : ns.length ≤ 63) (hr : Room k callerA)
    (F : ∀ base : Heap, K.In base → base.Ns mainGlobals mg → FnG P w K mg base k fa fd [x] (spD K 1 g)) (hbind : ∀ (s : Shared) (u : Value), BindsTo s fd ⟨[u], []⟩ [(x, u)])
    (hT : ∃ b, g [.d (.list (ns.map .int))] ⟨[], 0, -1⟩ = .ok (.d (.bool true)) b) :
    codeAny (model P w) callerA (.call (.ref fa) ⟨[.ref a], []⟩) (fun r s' => r = .ok (.ret (.bool true)) ∧ OldK s₁.heap s'.heap ∧ s'.os = s₁.os ∧ AllBare s'.gens) s₁ := by
  have rv := vals_ints hi
  have lenV := hi.length
  have reps : ∀ F : Hp, RepL K F (ns.map .int) (ns.map V.int) := fun F => by
    clear hi hT rv hl lenV
    induction ns with
    | nil => exact .nil
    | cons n ns ih => exact .cons (by simp only [Rep]) ih
  have core : ∀ H : Hp, Only H → SqL K H a (ns.map V.int) → HOk P w H s₁.heap → (∀ b, H b ≠ none → b = a) → (H a ≠ none → K.lookup a = none) →
      codeAny (model P w) callerA (.call (.ref fa) ⟨[.ref a], []⟩) (fun r s' => r = .ok (.ret (.bool true)) ∧ OldK s₁.heap s'.heap ∧ s'.os = s₁.os ∧ AllBare s'.gens) s₁ := fun H hO hS hok hA hK => by
    have still : ∀ {b : Addr} {o : Obj} {es : Array DictEntry} {ep : Nat}, s₁.heap.get? b = some o → o.data = .dict es ep → H b = none := fun {b o es ep} e d => by
      cases q : H b with
      | none => rfl
      | some u =>
        obtain rfl : b = a := hA b (by rw [q]; simp)
        rw [ha] at e; cases e; cases d
    have names : ∀ {b : Addr} {m : Str → Option Value}, s₁.heap.Ns b m → (hidT s₁.heap H).Ns b m := fun {b m} ⟨o, es, ep, e, d, r⟩ => ⟨o, es, ep, hidT_get e (still e d), d, r⟩
    have inK : K.In (hidT s₁.heap H) := fun b o e => by
      refine hidT_get (KX b o e) ?_
      cases q : H b with
      | none => rfl
      | some u =>
        obtain rfl : b = a := hA b (by rw [q]; simp)
        rw [hK (by rw [q]; simp)] at e; cases e
    have e0 : Env0 P w K mg (hidT s₁.heap H) callerA [] s₁ H :=
      ⟨rfl, ⟨inK, names hns, ⟨mb, names hb, hbb⟩, let ⟨mc, h1, h2⟩ := hlim; ⟨mc, names h1, h2⟩⟩, fun b o e => of_hidT e, Nat.le_of_eq (hidT_size _ _), trivial, fun b z => absurd (show b ∈ ([] : List Addr) from z) (by simp), hok, .of_eq hg⟩
    obtain ⟨b', hT⟩ := hT
    have hsp : spD K 1 g [.ref a] H (fun v _ => v = .bl true) E0 := by
      refine ⟨H, none, [.d (.list (ns.map .int))], ⟨[], 0, -1⟩, _, b', rfl, Same.refl H, (fun p g e => nomatch e), (fun _ => rfl), ?_, hT, fun F' B' H' x A rel => ?_⟩
      · simp only [ArgsR]
        refine ⟨_, [], rfl, ?_, rfl⟩
        simp only [Rep]
        exact ⟨a, _, rfl, hS, reps H⟩
      · simpa only [RetR, Rep] using rel
    have sy : SysM (hidT s₁.heap H) := let ⟨mm, h⟩ := hsy; ⟨mm, names h⟩
    refine codeAny_mono ((F _ inK (names hns)).goes callerA [] s₁ H ⟨[.ref a], []⟩ [.ref a] [.ref a] _ _ rfl sy hr e0 (hbind s₁ (.ref a)) (.cons rfl .nil) hsp) fun r s' h => ?_
    cases r with
    | error e => exact h.elim
    | ok fl =>
      cases fl with
      | next => exact h.elim
      | brk => exact h.elim
      | cont => exact h.elim
      | ret u =>
        obtain ⟨v, H', os, bare, un, hok', r', q⟩ := h
        obtain rfl : v = .bl true := q
        obtain rfl : u = Value.bool true := r'
        refine ⟨rfl, OldK.of_keep fun b o e => ?_, os, bare⟩
        cases q : H b with
        | none => exact un.keep b o e q (fun z => by cases z) (fun z => by cases z)
        | some u =>
          rcases hO b with z | ⟨ob, xs, z⟩
          · rw [q] at z; cases z
          · obtain ⟨e1, _⟩ := hok b _ z
            obtain ⟨e2, _⟩ := hok' b _ (un.frzs b ob _ z)
            rw [e] at e1; cases e1
            exact e2
  have small : ns.length ≤ sizeLine := Nat.le_trans hl (by decide)
  cases hk : K.lookup a with
  | some o =>
    have e := KX a o hk
    rw [ha] at e
    cases e
    exact core (fun _ => none) (fun _ => .inl rfl) (.inr ⟨_, vs.toArray, _, hk, rfl, rfl, rfl, by rw [List.size_toArray, lenV]; exact small, by simpa using rv⟩) (fun b u z => nomatch z) (fun b z => absurd rfl z) fun z => absurd rfl z
  | none =>
    let so : Obj := { cls := .type "list", data := .seq vs.toArray }
    refine core (upd (fun _ => none) a (.frz so (.lst (ns.map V.int)))) (fun b => ?_) (.inl (.inr ⟨so, upd_same⟩)) (fun b u z => ?_) (fun b z => ?_) fun _ => hk
    · by_cases hb : b = a
      · subst hb; exact .inr ⟨_, _, upd_same⟩
      · exact .inl (upd_ne hb)
    · by_cases hb : b = a
      · subst hb
        rw [upd_same] at z; cases z
        exact ⟨ha, by rw [List.length_map]; exact small, vs, _, rv, ha⟩
      · rw [upd_ne hb] at z; cases z
    · by_cases hb : b = a
      · exact hb
      · exact absurd (upd_ne hb) z
theorem walk_end {l : PySem.W.OpenLaw} {k : Nat} {q : Program} {loose : List Str} {XP : (Str → Option Value) → Heap → Prop} {YP : World → Heap → Prop} {d : DefRec} {K : Params → PySem.W.Frag} {x : Str} {g : DF}
    (hn : l.most = some 63) (hdf : d.params.defaults = []) (hr : Room k callerA) (himp : importsNone q = true)
    (hY : ∀ (w : World) (h : Heap), YP w h → (K w.params).In h)
    (F : ∀ (w : World) (mg : Str → Option Value) (fa : Addr) (h : Heap), (K w.params).In h → h.Ns mainGlobals mg → mg d.name = some (.ref fa) →
      ∃ fd : FuncData, (∀ (s : Shared) (u : Value), BindsTo s fd ⟨[u], []⟩ [(x, u)]) ∧ ∀ base : Heap, (K w.params).In base → base.Ns mainGlobals mg → FnG l.prog w (K w.params) mg base k fa fd [x] (spD (K w.params) 1 g))
    (hT : ∀ ns : List Int, ns.length ≤ 63 → ∃ b, g [.d (.list (ns.map .int))] ⟨[], 0, -1⟩ = .ok (.d (.bool true)) b) :
    PySem.W.WalkO q loose XP YP l.row.toRowW d [] (fun f vs => PySem.call f vs) := by
  refine Att.attach_call hn hdf fun w s₀ s₁ mg mb fa o pm cd doc a vs ns G Y ho hd hcd hmg hobj hints hlen hg => ?_
  have KX := hY w _ Y
  obtain ⟨fd, hb, hF⟩ := F w mg fa _ KX G.T.g hmg
  exact law_end KX G.T.g G.T.b G.T.builtins G.T.nolimit hg (let ⟨mm, h, _⟩ := (G.T.seer himp).mods; ⟨mm, h⟩) hobj hints hlen hr hF hb (hT ns hlen)
end Qz
namespace Qz
open PySem PySem.Spec L2
open PyProof.Rows hiding St

/-! ## the same reading for every place where a text stands -/
section
variable (K : PySem.W.Frag)
def teC (m : ME) : TE := fun σ H Q => ∃ (w : Wd) (s : S) (t : Nat) (r : R) (s' : S), OKs K w H σ s t ∧ m s = .ok r s' ∧
  ∀ w' H' x t' τ, t ≤ τ → τ < t' → OKs K w' H' σ s' t' → Step s.a.length t w H w' H' → Slotted s s' → RelR K w' H' σ s' τ r x → Q x H'
def ttC (m : MT) : TT := fun σ H Q => ∃ (w : Wd) (s : S) (t : Nat) (b : Bool) (s' : S), OKs K w H σ s t ∧ m s = .ok b s' ∧
  ∀ w' H' t', t ≤ t' → OKs K w' H' σ s' t' → Step s.a.length t w H w' H' → Slotted s s' → Q b H'
def tgC (g : D → S → Option S) (ws : List Nat) : TG := fun x σ H Q => ∃ (d : D) (w : Wd) (s s' : S) (k n : Nat), OKs K w H σ s k ∧ s.a.length = n ∧ Rep K w.F d x ∧ g d s = some s' ∧
    ∀ σ', OKs K w H σ' s' k → s'.a.length = n → Slotted s s' → (∀ i, i ∉ ws → σ'[i]? = σ[i]?) → Q σ' H
end
structure RTs (X : Cx) (ifs : List Expr) (m : MT) : Prop where
  ex : ∃ tt, PTs X ifs tt ∧ SndT X.K tt m
def mYes : MT := fun s => .ok true s
section
variable {X : Cx} {e a b : Expr} {es ifs : List Expr} {m : ME} {c : MT} {g : D → S → Option S} {ws : List Nat}
theorem RE.pe (h : RE X e m) : PE X e (teC X.K m) := by
  obtain ⟨te, p, q⟩ := h
  exact ⟨fun pins s σ H Q I ⟨w, s1, t, r, s', ok, e1, k⟩ => p.run pins s σ H Q I (q σ H w s1 t Q r s' ok e1 k)⟩
theorem RTs.pts (h : RTs X ifs c) : PTs X ifs (ttC X.K c) := by
  obtain ⟨te, p, q⟩ := h
  exact ⟨fun pins s σ H Q I ⟨w, s1, t, r, s', ok, e1, k⟩ => p.run pins s σ H Q I (q σ H w s1 t Q r s' ok e1 k)⟩
theorem RG.pg (h : RG X e g ws) : PG X e (tgC X.K g ws) := by
  obtain ⟨te, p, q⟩ := h
  exact ⟨fun pins s σ H x u Q I r ⟨d, w, s1, s', k, n, ok, hn, rep, e1, kk⟩ => p.run pins s σ H x u Q I r (q d x σ H w s1 s' k n Q ok hn rep e1 kk)⟩
theorem rts_nil : RTs X [] mYes := ⟨_, pts_nil, fun σ H w s t Q b s' ok e k => by
  cases e
  exact k w H t (Nat.le_refl _) ok .refl .refl⟩
theorem rts_one (h : RT X e c) : RTs X [e] c := let ⟨t, p, q⟩ := h.ex; ⟨t, pts_one p, q⟩
end

/-! ## an owner's object changes -/
section
variable {K : PySem.W.Frag} {n t t0 j T : Nat} {w w1 : Wd} {H H1 : Hp} {σ : St} {s s' : S} {a : Addr} {o : HO}
theorem mut_ok (ok : OKs K w H σ s t) (ha : w.O a = some j) (nt : NT o) (hb : s'.b = s.b) (hl : s'.a.length = s.a.length)
    (hsl : ∀ i q v, s'.a[i]? = some q → σ[i]? = some v → (s.a[i]? = some q ∧ i ≠ j) ∨ SlR K w (upd H a o) i q v) : OKs K w (upd H a o) σ s' t := by
  have hF := (ok.own a j ha).1
  refine ⟨fun b u e => ?_, ok.len.trans hl.symm, fun i q v h1 h2 => ?_, fun b i e => ?_, by rw [hl]; exact ok.tN, fun p g e => ?_, by rw [hb]; exact ok.nob⟩
  · rw [upd_ne (ne_of_none e hF)]; exact ok.sub b u e
  · rcases hsl i q v h1 h2 with ⟨h3, hi⟩ | h3
    · exact SlR.mono (ok.sl i q v h3 h2) (Same.refl _) rfl fun b hb => ⟨hb, upd_ne (fun z => by subst z; rw [ha] at hb; cases hb; exact hi rfl)⟩
    · exact h3
  · obtain ⟨q1, ⟨u, q2, nu⟩, q3⟩ := ok.own b i e
    refine ⟨q1, ?_, q3⟩
    by_cases z : b = a
    · subst z; exact ⟨o, upd_same, nt⟩
    · exact ⟨u, by rw [upd_ne z]; exact q2, nu⟩
  · obtain ⟨bo, o1, o2⟩ := ok.box p g e
    have np : p ≠ a := fun z => by subst z; rw [ha] at o1; cases o1
    have ng : g ≠ a := fun z => by subst z; rw [ha] at o2; cases o2
    exact ⟨⟨bo.fp, bo.fg, bo.ne, by rw [upd_ne np, hb]; exact bo.hp, by rw [upd_ne ng, hb]; exact bo.hg⟩, o1, o2⟩
theorem mut_step (ok : OKs K w H σ s t) (ha : w.O a = some j) (hj : j < n ∨ t0 ≤ j) : Step n t0 w H w (upd H a o) where
  F := Same.refl _
  keep := fun b u h ho _ => by
    rw [upd_ne (fun z => by subst z; have := ho j ha; omega)]
    exact h
  there := fun b u h => by
    by_cases z : b = a
    · subst z; exact ⟨o, upd_same⟩
    · exact ⟨u, by rw [upd_ne z]; exact h⟩
  tmp := fun _ _ h _ _ => h
  newF := fun _ h => .inl h
  newO := fun b i h => .inr (by rw [h]; simp)
  newT := fun b i h _ => .inr h
  B := .inl rfl
/-- temporaries from T on given up -/
theorem dropT_ok (ok : OKs K w H σ s t) (hn : s.a.length ≤ T) : OKs K (w.drop T) H σ s T := by
  refine ⟨ok.sub, ok.len, fun i q v h1 h2 => SlR.mono (ok.sl i q v h1 h2) (Same.refl _) rfl (fun a ha => ⟨drop_at ha ?_, rfl⟩), fun a i e => ?_, hn, fun p g e => ?_, ok.nob⟩
  · have := (List.getElem?_eq_some_iff.mp h1).1
    omega
  · obtain ⟨e1, e2⟩ := drop_of e
    obtain ⟨h1, h2, h3⟩ := ok.own a i e1
    exact ⟨h1, h2, e2⟩
  · obtain ⟨b, o1, o2⟩ := ok.box p g e
    refine ⟨b, ?_, ?_⟩
    · cases q : (w.drop T).O p with
      | none => rfl
      | some i => obtain ⟨z, _⟩ := drop_of q; rw [o1] at z; cases z
    · cases q : (w.drop T).O g with
      | none => rfl
      | some i => obtain ⟨z, _⟩ := drop_of q; rw [o2] at z; cases z
theorem dropT_step : Step n T w H (w.drop T) H where
  F := Same.refl _
  keep := fun _ _ h _ _ => h
  there := fun a o h => ⟨o, h⟩
  tmp := fun a i h h1 h2 => drop_at h h2
  newF := fun a h => .inl h
  newO := fun a i h => .inr (by rw [(drop_of h).1]; simp)
  newT := fun a i h _ => .inr (drop_of h).1
  B := .inl rfl
end

/-! ## list comprehensions -/
def wipeA (a : List (Option R)) : List Nat → List (Option R)
  | [] => a
  | v :: vs => (wipeA a vs).set v none
def backA (a0 a : List (Option R)) : List Nat → List (Option R)
  | [] => a
  | v :: vs => (backA a0 a vs).set v (a0[v]?).join
def noOwn (a : List (Option R)) (vs : List Nat) : Bool := vs.all fun v => match a[v]? with
  | some (some (.o _)) => false
  | _ => true
def lcL (g : D → S → Option S) (c : MT) (m : ME) (vs : List Nat) : List D → List D → M (List D)
  | [], acc, s => .ok acc s
  | d :: r, acc, s => match g d { s with a := wipeA s.a vs } with
    | none => .no
    | some s1 => match c s1 with
      | .no => .no
      | .ok false s2 => lcL g c m vs r acc s2
      | .ok true s2 => match m s2 with
        | .no => .no
        | .ok y s3 => match take1 s3 y with
          | none => .no
          | some (z, s4) => if acc.length < sizeLine then lcL g c m vs r (acc ++ [z]) s4 else .no
def mLc (src : MI) (g : D → S → Option S) (c : MT) (m : ME) (vs : List Nat) : ME := fun s => match src s with
  | .no => .no
  | .ok ds s1 => if noOwn s1.a vs then match lcL g c m vs ds [] s1 with
    | .no => .no
    | .ok acc s2 => .ok (.o (.lst acc)) { s2 with a := backA s1.a s2.a vs } else .no
theorem wipeA_length (a : List (Option R)) : ∀ vs : List Nat, (wipeA a vs).length = a.length
  | [] => rfl
  | v :: vs => by simp [wipeA, wipeA_length a vs]
theorem backA_length (a0 a : List (Option R)) : ∀ vs : List Nat, (backA a0 a vs).length = a.length
  | [] => rfl
  | v :: vs => by simp [backA, backA_length a0 a vs]
theorem wipeA_get (a : List (Option R)) (i : Nat) : ∀ vs : List Nat, (wipeA a vs)[i]? = if i ∈ vs then (if i < a.length then some none else none) else a[i]?
  | [] => by simp [wipeA]
  | v :: vs => by
    simp only [wipeA]
    rw [List.getElem?_set]
    by_cases h : v = i
    · subst h; simp [wipeA_length]
    · rw [if_neg h, wipeA_get a i vs]; simp [Ne.symm h]
theorem wipe_get (a : St) (i : Nat) : ∀ vs : List Nat, (wipe a vs)[i]? = if i ∈ vs then (if i < a.length then some none else none) else a[i]?
  | [] => by simp [wipe]
  | v :: vs => by
    simp only [wipe]
    rw [List.getElem?_set]
    by_cases h : v = i
    · subst h; simp [wipe_length]
    · rw [if_neg h, wipe_get a i vs]; simp [Ne.symm h]
theorem backA_get (a0 a : List (Option R)) (i : Nat) (hl : a.length = a0.length) : ∀ vs : List Nat, (backA a0 a vs)[i]? = if i ∈ vs then a0[i]? else a[i]?
  | [] => by simp [backA]
  | v :: vs => by
    simp only [backA]
    rw [List.getElem?_set]
    by_cases h : v = i
    · subst h
      simp only [backA_length, List.mem_cons, true_or, if_true, hl]
      split
      · rename_i h; simp [h]
      · rename_i h; simp; omega
    · rw [if_neg h, backA_get a0 a i hl vs]; simp [Ne.symm h]
theorem wipe_eq {a b : St} {vs : List Nat} (hl : a.length = b.length) (h : ∀ i, i ∉ vs → a[i]? = b[i]?) : wipe a vs = wipe b vs := by
  refine List.ext_getElem? fun i => ?_
  rw [wipe_get, wipe_get, hl]
  split
  · rfl
  · exact h i (by assumption)
section
variable {K : PySem.W.Frag} {t : Nat} {w : Wd} {H : Hp} {σ : St} {s : S} {vs : List Nat}
theorem wipe_ok (ok : OKs K w H σ s t) : OKs K w H (wipe σ vs) { s with a := wipeA s.a vs } t := by
  refine ⟨ok.sub, by simp [wipe_length, wipeA_length, ok.len], fun i q v h1 h2 => ?_, ok.own, by simpa [wipeA_length] using ok.tN, ok.box, ok.nob⟩
  have h1 : (wipeA s.a vs)[i]? = some q := h1
  rw [wipeA_get] at h1
  rw [wipe_get] at h2
  by_cases hi : i ∈ vs
  · rw [if_pos hi] at h1
    split at h1
    · cases h1; trivial
    · cases h1
  · rw [if_neg hi] at h1 h2
    exact ok.sl i q v h1 h2
end
section
variable {X : Cx} {elt tg iter : Expr} {ifs : List Expr} {scope : Scope} {own : List (Str × Nat)} {pos : Pos} {src : MI} {g : D → S → Option S} {ws : List Nat} {c : MT} {m : ME}
theorem lc_snd {K : PySem.W.Frag} {vs : List Nat} {wi : TI} (hw : ∀ i ∈ ws, i ∈ vs)
    (hi : ∀ (σ : St) (H : Hp) (w : Wd) (s : S) (t : Nat) (Q : It → Hp → Prop) (ds : List D) (s' : S), OKs K w H σ s t → src s = .ok ds s' →
    (∀ w' H' t' J, t ≤ t' → OKs K w' H' σ s' t' → Step s.a.length t w H w' H' → Slotted s s' → WalkOk K J ds w'.F → Q J H') → wi σ H Q) :
    SndE K (tLc wi (tgC K g ws) (ttC K c) (teC K m) vs) (mLc src g c m vs) := by
  intro σ H w s t Q r s' ok e k
  simp only [mLc] at e
  split at e
  · cases e
  · rename_i ds sa e1
    split at e
    · rename_i hno
      split at e
      · cases e
      · rename_i acc0 sb e2
        cases e
        refine hi σ H w s t _ ds sa ok e1 fun w1 H1 t1 J a1 ok1 st1 sl1 wk => ?_
        have hl := ok.slen ok1
        have tN := ok1.tN
        generalize hn : s.a.length = n at *
        obtain ⟨G, Y, hW, hG, hY⟩ := wk
        intro A hA
        have okg := give_ok (o := .lst []) ok1 hA
        have stg := give_step (n := n) (t0 := t1) (o := .lst []) ok1 hA
        refine lc_it hW (fun i H2 => ∃ w2 s2 acc xs, OKs K w2 H2 (wipe σ vs) { s2 with a := wipeA s2.a vs } (t1 + 1) ∧ s2.a.length = n ∧ w2.O A = some t1 ∧ H2 A = some (.lst xs) ∧ RepL K w2.F acc xs ∧ Step n t1 w1 H1 w2 H2 ∧
          (∀ i, i ∉ vs → ∀ q, sa.a[i]? = some (some q) → ∃ q', s2.a[i]? = some (some q')) ∧ lcL g c m vs (ds.drop i) acc s2 = .ok acc0 sb) ?_ ?_ ?_ ?_
        · exact ⟨_, sa, [], [], wipe_ok okg, hl, if_pos rfl, upd_same, .nil, stg, fun i _ q h => ⟨q, h⟩, e2⟩
        · rintro i H2 _ ⟨w2, s2, acc, xs, ok2, _, _, _, _, st2, _⟩
          exact hG H2 (st2.F.trans ok2.sub)
        · rintro i x H2 H3 hlt ⟨w2, s2, acc, xs, ok2, l2, hO, hA2, rep, st2, sl2, e3⟩ y
          obtain ⟨d, hd, hx⟩ := hY i H2 x H3 hlt (st2.F.trans ok2.sub) y
          have ed : ds.drop i = d :: ds.drop (i + 1) := by
            have := List.drop_eq_getElem_cons hlt
            rw [this]
            have q := (List.getElem?_eq_some_iff.mp hd).2
            rw [q]
          rw [ed] at e3
          have nA : H3 A = some (.lst xs) ∧ ∃ w3, OKs K w3 H3 (wipe σ vs) { s2 with a := wipeA s2.a vs } (t1 + 1) ∧ Step n (t1 + 1) w2 H2 w3 H3 ∧ Rep K w3.F d x := by
            rcases hx with ⟨rfl, hr⟩ | ⟨T, us, es, rfl, hT, rfl, rfl, hr⟩
            · exact ⟨hA2, w2, ok2, .refl, Rep.mono st2.F d x hr⟩
            · refine ⟨by rw [upd_ne (ne_of_none hA2 hT)]; exact hA2, w2.lay T (.tup us), lay_ok ok2 hT, lay_step ok2 hT, ?_⟩
              simp only [Rep]
              exact ⟨T, us, rfl, upd_same, RepL.mono (st2.F.trans (lay_step (o := .tup us) (t0 := t) (n := n) ok2 hT).F) es us hr⟩
          obtain ⟨hA3, w3, ok3, st3, rep3⟩ := nA
          have hO3 : w3.O A = some t1 := st3.tmp A t1 hO (by omega) (Nat.lt_succ_self _)
          have rA3 := RepL.mono st3.F acc xs rep
          have st13 := st2.trans (st3.mono (Nat.le_succ _))
          simp only [lcL] at e3
          split at e3
          · cases e3
          · rename_i sc e4
            have lw : (wipeA s2.a vs).length = n := (wipeA_length _ _).trans l2
            refine ⟨d, w3, _, sc, t1 + 1, n, ok3, lw, rep3, e4, fun σ4 ok4 l4 sl4 wr4 => ?_⟩
            have hwp : wipe σ4 vs = wipe σ vs := by
              have z : (wipe σ vs).length = σ4.length := by rw [ok3.len, ok4.len, l4]; exact lw
              have : wipe σ4 vs = wipe (wipe σ vs) vs := wipe_eq z.symm fun i hi => wr4 i (fun h => hi (hw i h))
              rw [this]
              refine wipe_eq (wipe_length _ _) fun i hi => ?_
              rw [wipe_get, if_neg hi]
            have nb : ∀ {w : Wd} {H : Hp} {σ : St} {s : S} {t : Nat}, OKs K w H σ s t → w.O A = some t1 → ¬ isBox w.B A := fun ok h ⟨p, gg, e, z⟩ => by
              obtain ⟨_, z1, z2⟩ := ok.box p gg e
              rcases z with rfl | rfl
              · rw [h] at z1; cases z1
              · rw [h] at z2; cases z2
            have slA : ∀ {sx : S}, Slotted sc sx → ∀ i, i ∉ vs → ∀ q, sa.a[i]? = some (some q) → ∃ q', sx.a[i]? = some (some q') := fun hs i hi q h => by
              obtain ⟨q1, h1⟩ := sl2 i hi q h
              obtain ⟨q2, h2⟩ := sl4 i q1 (by show (wipeA s2.a vs)[i]? = _; rw [wipeA_get, if_neg hi]; exact h1)
              exact hs i q2 h2
            refine ⟨hwp, ?_⟩
            split at e3
            · cases e3
            · rename_i sd e5
              refine ⟨w3, sc, t1 + 1, false, sd, ok4, e5, fun w5 H5 t5 a5 ok5 st5 sl5 => ?_⟩
              refine iteF ?_
              rw [l4] at st5
              have l5 : sd.a.length = n := (ok4.slen ok5).trans l4
              have okD := dropT_ok ok5 (T := t1 + 1) (by omega)
              refine ⟨w5.drop (t1 + 1), sd, acc, xs, ?_, l5, drop_at (st5.tmp A t1 hO3 (by omega) (Nat.lt_succ_self _)) (Nat.lt_succ_self _), st5.keep A _ hA3 (fun i hi => by rw [hO3] at hi; cases hi; omega) (nb ok4 hO3), RepL.mono st5.F acc xs rA3,
                st13.trans ((st5.trans dropT_step).mono (Nat.le_succ _)), slA sl5, e3⟩
              rw [← hwp]; exact wipe_ok okD
            · rename_i sd e5
              refine ⟨w3, sc, t1 + 1, true, sd, ok4, e5, fun w5 H5 t5 a5 ok5 st5 sl5 => ?_⟩
              refine iteT ?_
              rw [l4] at st5
              have l5 : sd.a.length = n := (ok4.slen ok5).trans l4
              have hO5 := st5.tmp A t1 hO3 (by omega) (Nat.lt_succ_self _)
              have hA5 := st5.keep A _ hA3 (fun i hi => by rw [hO3] at hi; cases hi; omega) (nb ok4 hO3)
              split at e3
              · cases e3
              · rename_i y' se e6
                split at e3
                · cases e3
                · rename_i z sf e7
                  split at e3
                  · rename_i hz
                    refine ⟨w5, sd, t5, y', se, ok5, e6, fun w6 H6 u t6 τ b1 b2 ok6 st6 sl6 rel6 => ?_⟩
                    rw [l5] at st6
                    have l6 : se.a.length = n := (ok5.slen ok6).trans l5
                    have hO6 := st6.tmp A t1 hO5 (by omega) (by omega)
                    have hA6 := st6.keep A _ hA5 (fun i hi => by rw [hO5] at hi; cases hi; omega) (nb ok5 hO5)
                    obtain ⟨w7, ok7, st7, rep7, sl7, l7, _⟩ := take1_ok (t0 := t1 + 1) ok6 rel6 e7 (by omega) (by omega)
                    rw [l6] at st7 l7
                    have hO7 := st7.tmp A t1 hO6 (by omega) (Nat.lt_succ_self _)
                    have okM := mut_ok (o := .lst (xs ++ [u])) ok7 hO7 (fun _ h => nomatch h) rfl rfl fun i q v h1 h2 => .inl ⟨h1, fun z => by have := (List.getElem?_eq_some_iff.mp h1).1; omega⟩
                    have stM := mut_step (n := n) (t0 := t1) (o := .lst (xs ++ [u])) ok7 hO7 (.inr (Nat.le_refl _))
                    have okD := dropT_ok okM (T := t1 + 1) (by omega)
                    have lx := RepL.length _ _ rA3
                    have rA7 := RepL.mono (st5.F.trans (st6.F.trans st7.F)) acc xs rA3
                    refine ⟨xs, hA6, by omega, w7.drop (t1 + 1), sf, acc ++ [z], xs ++ [u], ?_, l7, drop_at hO7 (Nat.lt_succ_self _), upd_same, RepL.append _ _ rA7 (.cons rep7 .nil), ?_, slA ((sl5.trans sl6).trans sl7), e3⟩
                    · rw [← hwp]; exact wipe_ok okD
                    · exact st13.trans (((st5.mono (Nat.le_succ _)).trans ((st6.mono (by omega)).trans (st7.mono (Nat.le_succ _)))).trans (stM.trans (dropT_step.mono (Nat.le_succ _))))
                  · cases e3
        · rintro H2 ⟨w2, s2, acc, xs, ok2, l2, hO, hA2, rep, st2, sl2, e3⟩
          rw [List.drop_length] at e3
          cases e3
          refine k w2 H2 (.ref A) (t1 + 1) t1 a1 (Nat.lt_succ_self _) ?_ (st1.trans (st2.mono a1)) ?_ ⟨A, xs, rfl, hO, hA2, rep⟩
          · have lb : (backA sa.a sb.a vs).length = n := (backA_length _ _ _).trans l2
            refine ⟨ok2.sub, by show σ.length = _; rw [lb, ok1.len, hl], fun i q v h1 h2 => ?_, ok2.own, by show (backA sa.a sb.a vs).length ≤ _; omega, ok2.box, ok2.nob⟩
            have h1 : (backA sa.a sb.a vs)[i]? = some q := h1
            rw [backA_get _ _ _ (l2.trans hl.symm)] at h1
            by_cases hi : i ∈ vs
            · rw [if_pos hi] at h1
              have hs := ok1.sl i q v h1 h2
              cases q with
              | none => trivial
              | some q =>
                cases q with
                | d y => obtain ⟨u, eu, hr⟩ := hs; exact ⟨u, eu, Rep.mono st2.F y u hr⟩
                | o c =>
                  have := List.all_eq_true.mp hno i hi
                  rw [h1] at this
                  cases this
                | sl _ => exact hs
                | bx =>
                  obtain ⟨p, gg, eb, ev⟩ := hs
                  rcases st2.B with z | ⟨z, _⟩
                  · exact ⟨p, gg, z.trans eb, ev⟩
                  · rw [z] at eb; cases eb
            · rw [if_neg hi] at h1
              refine ok2.sl i q v ?_ ?_
              · show (wipeA sb.a vs)[i]? = _
                rw [wipeA_get, if_neg hi]; exact h1
              · rw [wipe_get, if_neg hi]; exact h2
          · refine sl1.trans fun i q h => ?_
            show ∃ q', (backA sa.a sb.a vs)[i]? = _
            rw [backA_get _ _ _ (l2.trans hl.symm)]
            by_cases hi : i ∈ vs
            · rw [if_pos hi]; exact ⟨q, h⟩
            · rw [if_neg hi]; exact sl2 i hi q h
    · cases e
theorem re_lc (hc : X.calm = true) (hN : X.N.Nodup) (hi : RI X tg iter src) (ok : BlkOk X.N X.env.scope scope own)
    (hg : ∀ (s : Shared) (H : Hp) (C : Addr) (cl : List (Str × Addr)) (fp : List Addr), RG (X.blk s H scope (compEnvC scope cl C X.env) fp) tg g ws) (ht : ∀ (s : Shared) (H : Hp) (C : Addr) (cl : List (Str × Addr)) (fp : List Addr), RTs (X.blk s H scope (compEnvC scope cl C X.env) fp) ifs c)
    (he : ∀ (s : Shared) (H : Hp) (C : Addr) (cl : List (Str × Addr)) (fp : List Addr), RE (X.blk s H scope (compEnvC scope cl C X.env) fp) elt m) (hw : ∀ i ∈ ws, i ∈ own.map (·.2)) (hs : ∀ x, foldedSetIterable iter X.env x = pure x := by intro _; rfl) :
    RE X (.ListComp elt [⟨tg, iter, ifs, 0⟩] scope pos) (mLc src g c m (own.map (·.2))) := by
  obtain ⟨wi, p1, s1⟩ := hi
  exact ⟨_, pe_lc hc hN p1 ok (fun s H C cl fp => (hg s H C cl fp).pg) (fun s H C cl fp => (ht s H C cl fp).pts) (fun s H C cl fp => (he s H C cl fp).pe) hs, lc_snd hw s1⟩
end
end Qz
namespace Qz
open PySem PySem.Spec L2
open PyProof.Rows hiding St

/-! ## enumerate of anything that begins -/
theorem meets_enum1 {v : Value} {o : Obj} {Ho : Heap → Prop} (B : Begins v o Ho) :
    Meets (Builtin.«enumerate.__new__» ⟨[.type "enumerate", v], []⟩) (fun _ R s => Ho s.heap ∧
      R (.ok (.ret (.ref (s.heap.push o).objs.size))) { s with heap := (s.heap.push o).push { cls := .type "enumerate", data := .fields #[.none, .bool false, .ref s.heap.objs.size, rawInt 0, .none, .none] } }) :=
  .of_wp fun prog w A R s h => by
    obtain ⟨hp, g, d, tk, os⟩ := s
    obtain ⟨h1, h⟩ := h
    have hsub := sub_enumerate
    have q1 : ∀ {A' : Around} {E : Value → Shared → Prop} {Q : Value → Shared → Prop}, Q (.ref hp.objs.size) ⟨hp.push o, g, d, tk, os⟩ → wpAny (model prog w) A' (pyIter v) Q E ⟨hp, g, d, tk, os⟩ :=
      fun q => B.iter prog w _ _ _ _ h1 q
    wp_walk using q1
    refine wpAny_stack_any fun st => wpAny_pure ?_
    split
    · rename_i c _ _ _ _ _
      cases (c == Value.type "enumerate") <;> (wp_walk using q1; exact ⟨_, rfl, h⟩)
    · (wp_walk using q1; exact ⟨_, rfl, h⟩)
theorem call_enum1 {prog : Program} {w : World} {A : Around} {E : Value → Shared → Prop} {s : Shared} {v : Value} {o : Obj} {Ho : Heap → Prop} {Q : Value → Shared → Prop} (B : Begins v o Ho) (h1 : Ho s.heap)
    (h : ∀ h', IsEnum h' (s.heap.objs.size + 1) s.heap.objs.size 0 .none → h'.get? s.heap.objs.size = some o → (∀ b o, s.heap.get? b = some o → h'.get? b = some o) → Q (.ref (s.heap.objs.size + 1)) { s with heap := h' }) :
    wpAny (model prog w) A (call (.type "enumerate") [v]) Q E s := by
  refine callType_new F.called_enumerate (by decide) (F.typeCall_enumerate_1 _) (F.newCall_enumerate_1 _) (fun obj => F.args_object_init_2 obj _) F.entry_enumerate_new (meets_enum1 B) ⟨h1, ?_⟩
  have hz : (s.heap.push o).objs.size = s.heap.objs.size + 1 := Heap.size_push ..
  show _ ∧ _
  rw [hz]
  have he := Heap.get?_push_size (s.heap.push o) (o := { cls := .type "enumerate", data := .fields #[.none, .bool false, .ref s.heap.objs.size, rawInt 0, .none, .none] }) rfl
  rw [hz] at he
  exact ⟨⟨_, he, rfl⟩, h _ he (Heap.get?_push_of_some _ (Heap.get?_push_size _ B.free)) fun b o x => Heap.get?_push_of_some _ (Heap.get?_push_of_some _ x)⟩
/-- the tuple at a, each item in a new pair -/
def Itet (K : PySem.W.Frag) (a : Addr) : It :=
  ⟨fun i H => ∃ (xs : List V) (x : V), SqT K H a xs ∧ xs[i]? = some x, fun i H v H' => ∃ T x, v = .ref T ∧ H T = none ∧ H' = upd H T (.tup [.int (i : Nat), x]) ∧ ∀ xs, SqT K H a xs → xs[i]? = some x, fun i H => ∃ xs : List V, SqT K H a xs ∧ xs.length = i⟩
theorem turn_enumT {P : Program} {w : World} {K : PySem.W.Frag} {elts : List Expr} {kk : Nat} {tpos : Pos} (a e it : Addr) (hai : a ≠ it) (hae : a ≠ e) (hei : e ≠ it) :
    Turn P w K (.Tuple elts kk tpos) (Itet K a) [e, it] e (fun i h => (∃ old, IsEnum h e it ((i : Nat) : Int) old) ∧ h.IsTupleIter it a i) where
  mem := by simp
  obj := fun i h ⟨⟨old, he⟩, ⟨o, ho, hc, hd⟩⟩ b hb => by
    rcases List.mem_cons.mp hb with z | z
    · subst z; exact ⟨_, he, fun v q => nomatch q⟩
    · obtain rfl : b = it := by simpa using z
      exact ⟨o, ho, fun v q => by rw [hd] at q; cases q⟩
  keep := fun i h h' ⟨⟨old, he⟩, hi⟩ k => ⟨⟨old, k e (by simp) _ he⟩, hi.at fun o q => k it (by simp) o q⟩
  item := by
    intro X hP hw hK hc i pins s σ H E I hf st hg
    subst hP hw hK
    obtain ⟨⟨old, he⟩, hit⟩ := st
    obtain ⟨xs, x, hq, hx⟩ := hg
    obtain ⟨its, rv, p, hz⟩ := I.tuple hq
    obtain ⟨u, hu, ru⟩ := rv.get hx
    have hil : i < its.length := by rw [List.getElem?_eq_some_iff] at hu; exact hu.1
    have hel : e < s.heap.objs.size := Heap.lt_size he
    have hD := Draws.tuple (prog := X.prog) (w := X.w) (A := X.A.in1) (I.ok.hd hc) it a hai its.toArray
    refine wpAny_pyNext_enum_itemD (i := i) hD he ⟨hit, show s.heap.IsTuple a its.toArray from p⟩ (by simpa using hil) hei (by simp [hei, Ne.symm hae]) fun y h' tk hy ho hst hT hsz hk => ?_
    have ey : y = u := by simpa [hu] using hy.symm
    subst ey
    refine ⟨_, rfl, wpAny_letOwnedTupleGo_enum (s := { s with heap := h', toks := tk + 1 }) ho fun h'' he' sb => ?_⟩
    have hT2 := (sb.2 _ (Nat.ne_of_gt hel)).trans hT
    have new : ObjOk X.prog X.w (upd H s.heap.objs.size (.tup [.int (i : Nat), x])) h'' s.heap.objs.size (.tup [.int (i : Nat), x]) :=
      ⟨(by decide : 2 ≤ sizeLine), [.int i tk, y], .cons ⟨_, rfl⟩ (.cons ru .nil), ⟨_, hT2, rfl, _, rfl⟩⟩
    have I1 : Inv X pins σ (upd H s.heap.objs.size (.tup [.int (i : Nat), x])) { s with heap := h'', toks := tk + 1 } :=
      I.turnedNew (ch := [e, it]) (fun b ob hb q => (sb.2 b (fun z => hb (by simp [z]))).trans (hk b ob (fun z => hb (by simp [z])) (fun z => hb (by simp [z])) q)) hf (Nat.le_refl _) new
    have hitl : it < s.heap.objs.size := by obtain ⟨_, q, _⟩ := hit; exact Heap.lt_size q
    refine ⟨.ref s.heap.objs.size, _, I1, rfl, ⟨_, x, rfl, I.hok.fresh (Nat.le_refl _), rfl, fun ys hy => by rw [I.tuple_inj hy hq]; exact hx⟩, ⟨⟨y, ?_⟩, hst.1.at fun o q => (sb.2 it (Ne.symm hei)).trans q⟩, fun b hb => ?_⟩
    · have e1 : ((i + 1 : Nat) : Int) = (i : Int) + 1 := by omega
      rw [e1]; exact he'
    · have hb' : b < s.heap.objs.size := by
        rcases List.mem_cons.mp hb with z | z
        · rw [z]; exact hel
        · rw [List.mem_singleton.mp z]; exact hitl
      rw [upd_ne (Nat.ne_of_lt hb')]
      exact (hf b hb).1
  done := by
    intro X hP hw hK hc i pins s σ H E I hf st hg
    subst hP hw hK
    obtain ⟨⟨old, he⟩, hit⟩ := st
    obtain ⟨xs, hq, hx⟩ := hg
    obtain ⟨its, rv, p, hz⟩ := I.tuple hq
    obtain ⟨f0, f1, f2, f3, f4, f5⟩ := hf it (by simp)
    have hl := rv.length
    have hD := Draws.tuple (prog := X.prog) (w := X.w) (A := X.A.in1) (I.ok.hd hc) it a hai its.toArray
    have hn : its.toArray.size = i := by simp; omega
    refine wpAny_pyNext_enum_endD hD he (hn ▸ ⟨hit, show s.heap.IsTuple a its.toArray from p⟩) fun h' eb => ⟨rfl, I.turned (t' := s.toks) (fun b o hb q => eb b o hb q) f0 f1 f3 f4 f5⟩
  self := fun A i s Q E ⟨⟨_, he⟩, _⟩ h => wpAny_pyIter_enum he h
def iEnumA (K : PySem.W.Frag) (ta : TA) : TI := fun σ H R => ta σ H fun vs H1 => ∃ a xs, vs = [.ref a] ∧ ((SqL K H1 a xs ∧ R (Ite K a) H1) ∨ (SqT K H1 a xs ∧ R (Itet K a) H1))
theorem pi_enumA {X : Cx} {e : Expr} {ta : TA} {p pos tpos : Pos} {elts : List Expr} {kk : Nat} (hg : Gl X "enumerate") (hm : X.mg "enumerate" = none) (ha : PA X [e] ta) (hs : starEach [e] X.env = [(false, eval e X.env)] := by rfl) :
    PI X (.Tuple elts kk tpos) (.Call (.Name "enumerate" p) [e] [] pos) (iEnumA X.K ta) := by
  refine ⟨fun pins s σ H R I h => ?_⟩
  refine Call_ (ld_blt I hg hm boot_enumerate (PyProof.Rows.callWith_type1 (thn (ha.run pos pins s σ H _ I h) fun us s1 ⟨vs, H1, I1, r1, a, xs, ex, q1⟩ => ?_) hs rfl))
  subst ex
  obtain ⟨u, rfl, r⟩ := vals1 r1
  cases r
  have fpk : ∀ b ∈ [s1.heap.objs.size + 1, s1.heap.objs.size], FpOk X pins H1 b := fun b hb => by
    have hle : s1.heap.objs.size ≤ b := by
      rcases List.mem_cons.mp hb with z | z
      · rw [z]; exact Nat.le_add_right _ _
      · rw [List.mem_singleton.mp z]; exact Nat.le_refl _
    exact I1.fpOk hle (I1.hok.fresh hle)
  rcases q1 with ⟨hq, q⟩ | ⟨hq, q⟩
  · obtain ⟨its, rv, p', hz⟩ := I1.list hq
    refine call_enumerate_list p'.isList fun h' he hit hsz hk => wpAny_pyIter_enum he ?_
    have I2 : Inv X pins σ H1 { s1 with heap := h' } := I1.kept (t' := s1.toks) hk
    exact ⟨_, _, _, _, H1, rfl, I2, turn_enum a (s1.heap.objs.size + 1) s1.heap.objs.size, ⟨⟨.none, he⟩, hit, Nat.succ_ne_self _⟩, fpk, q⟩
  · obtain ⟨its, rv, p', hz⟩ := I1.tuple hq
    have lt : a < s1.heap.objs.size := by obtain ⟨o, q, _⟩ := p'; exact Heap.lt_size q
    refine call_enum1 (begins_tuple a its.toArray) (show s1.heap.IsTuple a its.toArray from p') fun h' he hit hk => wpAny_pyIter_enum he ?_
    have I2 : Inv X pins σ H1 { s1 with heap := h' } := I1.kept (t' := s1.toks) hk
    exact ⟨_, _, _, _, H1, rfl, I2, turn_enumT a (s1.heap.objs.size + 1) s1.heap.objs.size (Nat.ne_of_lt lt) (Nat.ne_of_lt (Nat.lt_succ_of_lt lt)) (Nat.succ_ne_self _), ⟨⟨.none, he⟩, ⟨_, hit, rfl, rfl⟩⟩, fpk, q⟩
theorem walk_enumT {K : PySem.W.Frag} {a : Addr} {xs : List V} : Walk (Itet K a) xs.length (fun H => SqT K H a xs) (YPair (fun i => some (.int (i : Nat))) (fun i => xs[i]?)) :=
  ⟨fun i _ hi q => ⟨xs, xs[i], q, by simp [hi]⟩, fun _ q => ⟨xs, q, rfl⟩, fun i H v H' _ q ⟨T, x, h1, h2, h3, h4⟩ => ⟨T, .int (i : Nat), x, h1, h2, h3, rfl, h4 xs q⟩⟩

/-! ## as sources of loops -/
def pairsD : List D → List D → List D
  | x :: xs, y :: ys => .tuple [x, y] :: pairsD xs ys
  | _, _ => []
def iEnumD (m : MA) : MI := fun s => match m s with
  | .ok rs s1 => match takes s1 rs with
    | some ([.tuple ds], s2) => .ok (pairsD (intsD 0 ds.length) ds) s2
    | some ([.list ds], s2) => .ok (pairsD (intsD 0 ds.length) ds) s2
    | _ => .no
  | .no => .no
def iZipD (m : MA) : MI := fun s => match m s with
  | .ok rs s1 => match takes s1 rs with
    | some ([.tuple ds, .tuple es], s2) => .ok (pairsD ds es) s2
    | some ([.list ds, .list es], s2) => .ok (pairsD ds es) s2
    | _ => .no
  | .no => .no
theorem pairsD_length : ∀ xs ys : List D, (pairsD xs ys).length = min xs.length ys.length
  | [], _ => by simp [pairsD]
  | _ :: _, [] => by simp [pairsD]
  | x :: xs, y :: ys => by simp [pairsD, pairsD_length xs ys]
theorem pairsD_get : ∀ (xs ys : List D) (i : Nat) (x y : D), xs[i]? = some x → ys[i]? = some y → (pairsD xs ys)[i]? = some (.tuple [x, y])
  | [], _, _, _, _, h, _ => by simp at h
  | _ :: _, [], _, _, _, _, h => by simp at h
  | x :: xs, y :: ys, 0, _, _, h1, h2 => by simp at h1 h2; subst h1; subst h2; rfl
  | x :: xs, y :: ys, i + 1, _, _, h1, h2 => by simpa [pairsD] using pairsD_get xs ys i _ _ (by simpa using h1) (by simpa using h2)
theorem walk_pairs {K : PySem.W.Frag} {J : It} {ds es : List D} {fx fy : Nat → Option V} {F : Hp} {G : Hp → Prop} (hw : Walk J (min ds.length es.length) G (YPair fx fy)) (hG : ∀ H, Same F H → G H)
    (hx : ∀ i x, fx i = some x → i < ds.length → ∃ d, ds[i]? = some d ∧ Rep K F d x) (hy : ∀ i x, fy i = some x → i < es.length → ∃ d, es[i]? = some d ∧ Rep K F d x) : WalkOk K J (pairsD ds es) F := by
  refine ⟨G, _, by rw [pairsD_length]; exact hw, hG, fun i H x H' hi hs y => ?_⟩
  rw [pairsD_length] at hi
  obtain ⟨T, a, b, rfl, h2, rfl, h4, h5⟩ := y
  obtain ⟨d, d1, d2⟩ := hx i a h4 (by omega)
  obtain ⟨e, e1, e2⟩ := hy i b h5 (by omega)
  exact ⟨_, pairsD_get _ _ _ _ _ d1 e1, .inr ⟨T, _, _, rfl, h2, rfl, rfl, .cons d2 (.cons e2 .nil)⟩⟩
theorem rep_ints {K : PySem.W.Frag} {F : Hp} {n : Nat} (i : Nat) (x : V) (h : some (V.int (i : Nat)) = some x) (hi : i < (intsD 0 n).length) : ∃ d, (intsD 0 n)[i]? = some d ∧ Rep K F d x := by
  cases h
  have hi' : i < n := by simpa [intsD] using hi
  exact ⟨.int (i : Nat), by simp [intsD, hi'], by simp only [Rep]⟩
theorem rep_at {K : PySem.W.Frag} {F : Hp} {ds : List D} {xs : List V} (rep : RepL K F ds xs) (i : Nat) (x : V) (h : xs[i]? = some x) (_ : i < ds.length) : ∃ d, ds[i]? = some d ∧ Rep K F d x := RepL.getV _ _ i x rep h
section
variable {X : Cx} {e e2 : Expr} {ms : MA} {p pos tpos : Pos} {elts : List Expr} {kk : Nat}
theorem ri_enum (hg : Gl X "enumerate") (hm : X.mg "enumerate" = none) (h : RA X [e] ms) (hs : starEach [e] X.env = [(false, eval e X.env)] := by rfl) : RI X (.Tuple elts kk tpos) (.Call (.Name "enumerate" p) [e] [] pos) (iEnumD ms) := by
  obtain ⟨ta, p1, s1⟩ := h
  refine ⟨_, pi_enumA hg hm p1 hs, fun σ H w s t Q ds s' ok e k => ?_⟩
  simp only [iEnumD] at e
  split at e
  · rename_i rs sa e1
    refine s1 σ H w s t _ rs sa ok e1 fun w1 H1 us t1 a1 ok1 st1 sl1 rel1 => ?_
    have l := ok.slen ok1
    split at e
    · rename_i ds sb e2
      cases e
      obtain ⟨w2, ok2, st2, rep, sl2, l2⟩ := takes_ok (t0 := t) rs us _ _ _ _ _ ok1 rel1 e2 (Nat.le_refl _) (by rw [l]; exact ok.tN)
      rw [l] at st2
      simp only [RepL, Rep] at rep
      obtain ⟨_, _, rfl, ⟨a, xs, rfl, h1, h2⟩, rfl⟩ := rep
      refine ⟨a, xs, rfl, .inr ⟨SqT.of (ok2.sub _ _ h1), k w2 H1 t1 _ (by omega) ok2 (st1.trans st2) (sl1.trans sl2) ?_⟩⟩
      have l3 := RepL.length _ _ h2
      have e3 : min (intsD 0 ds.length).length ds.length = xs.length := by simp [intsD, l3]
      exact walk_pairs (by rw [e3]; exact walk_enumT) (fun H' sm => SqT.of (sm _ _ h1)) (fun i x hx => rep_ints i x hx) (rep_at h2)
    · rename_i ds sb e2
      cases e
      obtain ⟨w2, ok2, st2, rep, sl2, l2⟩ := takes_ok (t0 := t) rs us _ _ _ _ _ ok1 rel1 e2 (Nat.le_refl _) (by rw [l]; exact ok.tN)
      rw [l] at st2
      simp only [RepL, Rep] at rep
      obtain ⟨_, _, rfl, ⟨a, xs, rfl, h1, h2⟩, rfl⟩ := rep
      refine ⟨a, xs, rfl, .inl ⟨ok2.sub.seq h1, k w2 H1 t1 _ (by omega) ok2 (st1.trans st2) (sl1.trans sl2) ?_⟩⟩
      have l3 := RepL.length _ _ h2
      have e3 : min (intsD 0 ds.length).length ds.length = xs.length := by simp [intsD, l3]
      exact walk_pairs (by rw [e3]; exact walk_enum) (fun H' sm => sm.seq h1) (fun i x hx => rep_ints i x hx) (rep_at h2)
    · cases e
  · cases e
theorem ri_zip (hg : Gl X "zip") (hm : X.mg "zip" = none) (h : RA X [e, e2] ms) (hs : starEach [e, e2] X.env = (false, eval e X.env) :: starEach [e2] X.env := by rfl) (hpl : (backTo pos (starEach [e2] X.env)).any (·.1) = false := by rfl) :
    RI X (.Tuple elts kk tpos) (.Call (.Name "zip" p) [e, e2] [] pos) (iZipD ms) := by
  obtain ⟨ta, p1, s1⟩ := h
  refine ⟨_, RZ.pi_zipA hg hm p1 hs hpl, fun σ H w s t Q ds s' ok e k => ?_⟩
  simp only [iZipD] at e
  split at e
  · rename_i rs sa e1
    refine s1 σ H w s t _ rs sa ok e1 fun w1 H1 us t1 a1 ok1 st1 sl1 rel1 => ?_
    have l := ok.slen ok1
    split at e
    · rename_i ds es sb e2
      cases e
      obtain ⟨w2, ok2, st2, rep, sl2, l2⟩ := takes_ok (t0 := t) rs us _ _ _ _ _ ok1 rel1 e2 (Nat.le_refl _) (by rw [l]; exact ok.tN)
      rw [l] at st2
      simp only [RepL, Rep] at rep
      obtain ⟨_, _, rfl, ⟨a, xs, rfl, h1, h2⟩, _, _, rfl, ⟨b, ys, rfl, h3, h4⟩, rfl⟩ := rep
      refine ⟨a, b, xs, ys, rfl, .inr ⟨SqT.of (ok2.sub _ _ h1), SqT.of (ok2.sub _ _ h3), k w2 H1 t1 _ (by omega) ok2 (st1.trans st2) (sl1.trans sl2) ?_⟩⟩
      have e3 : min ds.length es.length = min xs.length ys.length := by rw [RepL.length _ _ h2, RepL.length _ _ h4]
      refine walk_pairs (fx := fun i => xs[i]?) (fy := fun i => ys[i]?) (G := fun H => SqT X.K H a xs ∧ SqT X.K H b ys) ?_ (fun H' sm => ⟨SqT.of (sm _ _ h1), SqT.of (sm _ _ h3)⟩) (rep_at h2) (rep_at h4)
      refine ⟨fun i H hi q => ?_, fun H q => ⟨xs, ys, q.1, q.2, by omega⟩, fun i H v H' _ q ⟨T, x, y, h1, h2, h3, h4, h5⟩ => ⟨T, x, y, h1, h2, h3, h4 xs q.1, h5 ys q.2⟩⟩
      have c1 : i < xs.length := by omega
      have c2 : i < ys.length := by omega
      exact ⟨xs, ys, xs[i], ys[i], q.1, q.2, by simp [c1], by simp [c2]⟩
    · rename_i ds es sb e2
      cases e
      obtain ⟨w2, ok2, st2, rep, sl2, l2⟩ := takes_ok (t0 := t) rs us _ _ _ _ _ ok1 rel1 e2 (Nat.le_refl _) (by rw [l]; exact ok.tN)
      rw [l] at st2
      simp only [RepL, Rep] at rep
      obtain ⟨_, _, rfl, ⟨a, xs, rfl, h1, h2⟩, _, _, rfl, ⟨b, ys, rfl, h3, h4⟩, rfl⟩ := rep
      refine ⟨a, b, xs, ys, rfl, .inl ⟨ok2.sub.seq h1, ok2.sub.seq h3, k w2 H1 t1 _ (by omega) ok2 (st1.trans st2) (sl1.trans sl2) ?_⟩⟩
      have e3 : min ds.length es.length = min xs.length ys.length := by rw [RepL.length _ _ h2, RepL.length _ _ h4]
      exact walk_pairs (walk_zip e3) (fun H' sm => ⟨sm.seq h1, sm.seq h3⟩) (rep_at h2) (rep_at h4)
    · cases e
  · cases e
end
end Qz
namespace Qz
open PySem PySem.Spec L2
open PyProof.Rows hiding St

/-! ## what a name alone holds changes -/
section
variable {K : PySem.W.Frag} {t i : Nat} {w : Wd} {H : Hp} {σ : St} {s : S} {a : Addr} {o : HO} {c c' : C}
theorem slot_mut (ok : OKs K w H σ s t) (h : s.a[i]? = some (some (.o c))) (hv : σ[i]? = some (some (.ref a))) (hO : w.O a = some i) (nt : NT o) (hc : Own K w (upd H a o) i c' (.ref a)) :
    OKs K w (upd H a o) σ { s with a := s.a.set i (some (.o c')) } t ∧ Step s.a.length t w H w (upd H a o) ∧ Slotted s { s with a := s.a.set i (some (.o c')) } := by
  have hi := (List.getElem?_eq_some_iff.mp h).1
  refine ⟨mut_ok ok hO nt rfl (by simp) fun j q v h1 h2 => ?_, mut_step ok hO (.inl hi), fun j q hj => ?_⟩
  · rcases set_get h1 with ⟨rfl, rfl⟩ | ⟨hj, h3⟩
    · rw [hv] at h2; cases h2
      exact .inr ⟨_, rfl, hc⟩
    · exact .inl ⟨h3, hj⟩
  · by_cases e : j = i
    · subst e; exact ⟨_, List.getElem?_set_self hi⟩
    · exact ⟨q, by show (s.a.set i _)[j]? = _; rw [List.getElem?_set_ne (Ne.symm e)]; exact hj⟩
theorem RepL.dropLast {F : Hp} {ds : List D} {xs : List V} (h : RepL K F ds xs) : RepL K F ds.dropLast xs.dropLast := by
  rw [List.dropLast_eq_take, List.dropLast_eq_take, ← RepL.length _ _ h]
  exact RepL.take _ _ _ h
theorem RepL.erase {F : Hp} (n : Nat) : ∀ (ds : List D) (xs : List V), RepL K F ds xs → RepL K F (ds.eraseIdx n) (xs.eraseIdx n) := fun ds xs h => by
  rw [List.eraseIdx_eq_take_drop_succ, List.eraseIdx_eq_take_drop_succ]
  exact RepL.append _ _ (RepL.take _ _ _ h) (RepL.drop _ _ _ h)
end
/-- a method of the list in slot i: what it gives and what the list becomes -/
def mMeth (i : Nat) (ms : MA) (f : List D → List D → Option (D × List D)) : ME := fun s => match s.a[i]? with
  | some (some (.o (.lst _))) => match ms s with
    | .no => .no
    | .ok rs s1 => match takes s1 rs with
      | none => .no
      | some (xs, s2) => match s2.a[i]? with
        | some (some (.o (.lst l))) => match f l xs with
          | some (y, l') => .ok (.d y) { s2 with a := s2.a.set i (some (.o (.lst l'))) }
          | none => .no
        | _ => .no
  | _ => .no
def MethS (K : PySem.W.Frag) (r : V → List V → Hp → VK → Prop) (f : List D → List D → Option (D × List D)) : Prop := ∀ (F H : Hp) (a : Addr) (us vs : List V) (l l' xs : List D) (y : D) (Q : VK), H a = some (.lst us) → RepL K F l us → RepL K F xs vs → f l xs = some (y, l') →
  (∀ z us', Rep K F y z → RepL K F l' us' → Q z (upd H a (.lst us'))) → r (.ref a) vs H Q
def fAppend (l : List D) : List D → Option (D × List D)
  | [x] => if l.length < sizeLine then some (.none, l ++ [x]) else none
  | _ => none
def fPop (l : List D) : List D → Option (D × List D)
  | [] => match l[l.length - 1]? with
    | some y => some (y, l.dropLast)
    | none => none
  | _ => none
def fPopAt (l : List D) : List D → Option (D × List D)
  | [.int i] => if -(2 ^ 63) ≤ i ∧ i < 2 ^ 63 then match seqIndex? i l.length with
    | some k => match l[k]? with
      | some y => some (y, l.eraseIdx k)
      | none => none
    | none => none else none
  | _ => none
def fInsert (l : List D) : List D → Option (D × List D)
  | [.int i, x] => if l.length < sizeLine ∧ 0 ≤ i ∧ i < 2 ^ 63 then some (.none, l.take i.toNat ++ [x] ++ l.drop i.toNat) else none
  | _ => none
def fReverse (l : List D) : List D → Option (D × List D)
  | [] => some (.none, l.reverse)
  | _ => none
section
variable {K : PySem.W.Frag}
theorem me_append : MethS K rAppend fAppend := by
  intro F H a us vs l l' xs y Q hH rl rx e k
  unfold fAppend at e
  split at e
  · split at e
    · rename_i hl
      cases e
      simp only [RepL] at rx
      obtain ⟨v, _, rfl, rv, rfl⟩ := rx
      exact ⟨a, us, v, rfl, rfl, hH, by rw [← RepL.length _ _ rl]; exact hl, k _ _ (by simp only [Rep]) (RepL.append _ _ rl (.cons rv .nil))⟩
    · cases e
  · cases e
theorem me_pop : MethS K rPop fPop := by
  intro F H a us vs l l' xs y Q hH rl rx e k
  unfold fPop at e
  split at e
  · split at e
    · rename_i y' hy
      cases e
      simp only [RepL] at rx
      subst rx
      obtain ⟨z, hz, rz⟩ := RepL.get _ _ _ _ rl hy
      exact ⟨a, us, z, rfl, rfl, hH, by rw [← RepL.length _ _ rl]; exact hz, k _ _ rz (RepL.dropLast rl)⟩
    · cases e
  · cases e
theorem me_popAt : MethS K rPopAt fPopAt := by
  intro F H a us vs l l' xs y Q hH rl rx e k
  unfold fPopAt at e
  split at e
  · split at e
    · rename_i i hb
      split at e
      · rename_i j hj
        split at e
        · rename_i y' hy
          cases e
          simp only [RepL, Rep] at rx
          obtain ⟨v, _, rfl, rfl, rfl⟩ := rx
          obtain ⟨z, hz, rz⟩ := RepL.get _ _ _ _ rl hy
          exact ⟨a, us, i, j, z, rfl, rfl, hH, hb.1, hb.2, by rw [← RepL.length _ _ rl]; exact hj, hz, k _ _ rz (RepL.erase j _ _ rl)⟩
        · cases e
      · cases e
    · cases e
  · cases e
theorem me_insert : MethS K (fun x vs H Q => ∃ (l : Addr) (xs : List V) (i : Int) (y : V), x = .ref l ∧ vs = [.int i, y] ∧ H l = some (.lst xs) ∧ xs.length < sizeLine ∧ 0 ≤ i ∧ i < 2 ^ 63 ∧
    Q .non (upd H l (.lst (xs.take i.toNat ++ [y] ++ xs.drop i.toNat)))) fInsert := by
  intro F H a us vs l l' xs y Q hH rl rx e k
  unfold fInsert at e
  split at e
  · split at e
    · rename_i i x hb
      cases e
      simp only [RepL, Rep] at rx
      obtain ⟨v, _, rfl, rfl, u, _, rfl, ru, rfl⟩ := rx
      exact ⟨a, us, i, u, rfl, rfl, hH, by rw [← RepL.length _ _ rl]; exact hb.1, hb.2.1, hb.2.2, k _ _ (by simp only [Rep]) (RepL.append _ _ (RepL.append _ _ (RepL.take _ _ _ rl) (.cons ru .nil)) (RepL.drop _ _ _ rl))⟩
    · cases e
  · cases e
end
section
variable {X : Cx} {e : Expr} {es : List Expr} {ms : MA} {m : ME} {i : Nat} {x name : Str} {p apos cpos : Pos} {id : String} {r : V → List V → Hp → VK → Prop} {f : List D → List D → Option (D × List D)}
theorem meth_snd {K : PySem.W.Frag} {ta : TA} (h : SndA K ta ms) (hf : MethS K r f) : SndE K (tBM K "list" r (tVar i) ta) (mMeth i ms f) := by
  intro σ H w s t Q res s' ok e k
  simp only [mMeth] at e
  split at e
  · rename_i l0 h0
    have hi := (List.getElem?_eq_some_iff.mp h0).1
    obtain ⟨v, hv⟩ : ∃ v, σ[i]? = some v := ⟨σ[i]'(by rw [ok.len]; exact hi), by simp [ok.len, hi]⟩
    obtain ⟨u, rfl, a0, us0, rfl, q1, q2, q3⟩ := ok.sl i _ _ h0 hv
    split at e
    · cases e
    · rename_i rs sa e1
      split at e
      · cases e
      · rename_i xs sb e2
        split at e
        · rename_i l h1
          split at e
          · rename_i y l' e3
            cases e
            refine ⟨.ref a0, hv, .inl ⟨rfl, us0, .inl (.inl q2)⟩, ?_⟩
            refine h σ H w s t _ rs sa ok e1 fun w1 H1 vs t1 a1 ok1 st1 sl1 rel1 => ?_
            have hl := ok.slen ok1
            obtain ⟨w2, ok2, st2, rep, sl2, l2⟩ := takes_ok (t0 := t) rs vs xs sa sb w1 t ok1 rel1 e2 (Nat.le_refl _) (by rw [hl]; exact ok.tN)
            rw [hl] at st2
            obtain ⟨u2, e4, a, us, e5, r1, r2, r3⟩ := ok2.sl i _ _ h1 hv
            cases e4
            cases e5
            refine hf w2.F H1 a0 us vs l l' xs y Q r2 r3 rep e3 fun z us' rz rl => ?_
            obtain ⟨ok3, st3, sl3⟩ := slot_mut (o := .lst us') (c' := .lst l') ok2 h1 hv r1 (fun _ h => nomatch h) ⟨a0, us', rfl, r1, upd_same, rl⟩
            rw [l2, hl] at st3
            exact k w2 _ z (t1 + 1) t1 a1 (Nat.lt_succ_self _) (ok3.up (Nat.le_succ _)) ((st1.trans st2).trans (st3.mono a1)) ((sl1.trans sl2).trans sl3) rz
          · cases e
        · cases e
  · cases e
theorem re_meth (slot : Slot "list" name id) (hty : typeOf (.builtin id) = pure (.type "method_descriptor")) (hm : MtR X id r) (hf : MethS X.K r f) (ha : RA X (e :: es) ms) (hN : X.N[i]? = some x) (hv : Vis X.env.scope x) (hd : (x == ("__debug__" : Str)) = false) (hcd : (x == ("__classdict__" : Str)) = false)
    (hbase : attributeBase (.Name x p) name X.env (eval (.Name x p) X.env) = eval (.Name x p) X.env)
    (hfew : ((backTo cpos (starEach (e :: es) X.env)).all (fun x => !x.1) && (backToKw cpos (keywordEach [] X.env)).all (fun x => x.1.isSome)
      && decide ((e :: es).length + ([] : List Keyword).length + (if ([] : List Keyword).isEmpty then 0 else 1) < 30)) = true)
    (hline : (apos.endLine == cpos.line) = true) (hs : starEach (e :: es) X.env = (false, eval e X.env) :: starEach es X.env) (hplain : (backTo cpos (starEach es X.env)).any (·.1) = false) :
    RE X (.Call (.Attribute (.Name x p) name apos) (e :: es) [] cpos) (mMeth i ms f) := by
  obtain ⟨ta, p1, s1⟩ := ha
  exact ⟨_, pe_bm PySem.F.plainAttrs_list slot hty hm (pe_var hN hv hd hcd) p1 hbase hfew hline hs hplain, meth_snd s1 hf⟩
theorem re_append (i : Nat) (ha : RA X [e] ms) (hN : X.N[i]? = some x := by rfl) (hv : Vis X.env.scope x := by first | exact Or.inl rfl | exact Or.inr (Or.inl rfl) | exact Or.inr (Or.inr rfl)) (hd : (x == ("__debug__" : Str)) = false := by decide) (hcd : (x == ("__classdict__" : Str)) = false := by decide)
    (hbase : attributeBase (.Name x p) "append" X.env (eval (.Name x p) X.env) = eval (.Name x p) X.env := by rfl)
    (hfew : ((backTo cpos (starEach [e] X.env)).all (fun x => !x.1) && (backToKw cpos (keywordEach [] X.env)).all (fun x => x.1.isSome)
      && decide (([e] : List Expr).length + ([] : List Keyword).length + (if ([] : List Keyword).isEmpty then 0 else 1) < 30)) = true := by rfl)
    (hline : (apos.endLine == cpos.line) = true := by rfl) (hs : starEach [e] X.env = (false, eval e X.env) :: starEach [] X.env := by rfl) (hplain : (backTo cpos (starEach [] X.env)).any (·.1) = false := by rfl) :
    RE X (.Call (.Attribute (.Name x p) "append" apos) [e] [] cpos) (mMeth i ms fAppend) :=
  re_meth PySem.F.slot_list_append PySem.F.type_list_append mt_append me_append ha hN hv hd hcd hbase hfew hline hs hplain
theorem re_popAt (i : Nat) (ha : RA X [e] ms) (hN : X.N[i]? = some x := by rfl) (hv : Vis X.env.scope x := by first | exact Or.inl rfl | exact Or.inr (Or.inl rfl) | exact Or.inr (Or.inr rfl)) (hd : (x == ("__debug__" : Str)) = false := by decide) (hcd : (x == ("__classdict__" : Str)) = false := by decide)
    (hbase : attributeBase (.Name x p) "pop" X.env (eval (.Name x p) X.env) = eval (.Name x p) X.env := by rfl)
    (hfew : ((backTo cpos (starEach [e] X.env)).all (fun x => !x.1) && (backToKw cpos (keywordEach [] X.env)).all (fun x => x.1.isSome)
      && decide (([e] : List Expr).length + ([] : List Keyword).length + (if ([] : List Keyword).isEmpty then 0 else 1) < 30)) = true := by rfl)
    (hline : (apos.endLine == cpos.line) = true := by rfl) (hs : starEach [e] X.env = (false, eval e X.env) :: starEach [] X.env := by rfl) (hplain : (backTo cpos (starEach [] X.env)).any (·.1) = false := by rfl) :
    RE X (.Call (.Attribute (.Name x p) "pop" apos) [e] [] cpos) (mMeth i ms fPopAt) :=
  re_meth PySem.F.slot_list_pop PySem.F.type_list_pop mt_popAt me_popAt ha hN hv hd hcd hbase hfew hline hs hplain
theorem re_insert {e2 : Expr} (i : Nat) (ha : RA X [e, e2] ms) (hN : X.N[i]? = some x := by rfl) (hv : Vis X.env.scope x := by first | exact Or.inl rfl | exact Or.inr (Or.inl rfl) | exact Or.inr (Or.inr rfl)) (hd : (x == ("__debug__" : Str)) = false := by decide) (hcd : (x == ("__classdict__" : Str)) = false := by decide)
    (hbase : attributeBase (.Name x p) "insert" X.env (eval (.Name x p) X.env) = eval (.Name x p) X.env := by rfl)
    (hfew : ((backTo cpos (starEach [e, e2] X.env)).all (fun x => !x.1) && (backToKw cpos (keywordEach [] X.env)).all (fun x => x.1.isSome)
      && decide (([e, e2] : List Expr).length + ([] : List Keyword).length + (if ([] : List Keyword).isEmpty then 0 else 1) < 30)) = true := by rfl)
    (hline : (apos.endLine == cpos.line) = true := by rfl) (hs : starEach [e, e2] X.env = (false, eval e X.env) :: starEach [e2] X.env := by rfl) (hplain : (backTo cpos (starEach [e2] X.env)).any (·.1) = false := by rfl) :
    RE X (.Call (.Attribute (.Name x p) "insert" apos) [e, e2] [] cpos) (mMeth i ms fInsert) :=
  re_meth PySem.F.slot_list_insert PySem.F.type_list_insert mt_insert me_insert ha hN hv hd hcd hbase hfew hline hs hplain
theorem re_pop (i : Nat) (hN : X.N[i]? = some x := by rfl) (hv : Vis X.env.scope x := by first | exact Or.inl rfl | exact Or.inr (Or.inl rfl) | exact Or.inr (Or.inr rfl)) (hd : (x == ("__debug__" : Str)) = false := by decide) (hcd : (x == ("__classdict__" : Str)) = false := by decide)
    (hbase : attributeBase (.Name x p) "pop" X.env (eval (.Name x p) X.env) = eval (.Name x p) X.env := by rfl) (hline : (apos.endLine == cpos.line) = true := by rfl) :
    RE X (.Call (.Attribute (.Name x p) "pop" apos) [] [] cpos) (mMeth i mNil fPop) :=
  ⟨_, pe_bm0 PySem.F.plainAttrs_list PySem.F.slot_list_pop PySem.F.type_list_pop mt_pop (pe_var hN hv hd hcd) hbase hline, fun σ H w s t Q res s' ok e k => meth_snd nil_snd me_pop σ H w s t Q res s' ok e k⟩
end

/-! ## dicts -/
def keyOf : D → Option Key
  | .int i => some (.inl i)
  | .str x => some (.inr x)
  | _ => none
def keysOf : List D → Option (List Key)
  | [] => some []
  | d :: ds => match keyOf d with
    | none => none
    | some k => match keysOf ds with
      | none => none
      | some ks => some (k :: ks)
def dPut {κ : Type} [DecidableEq κ] (kvs : List (κ × D)) (k : κ) (v : D) : List (κ × D) :=
  if (kvs.any fun kv => decide (kv.1 = k)) = true then kvs.map (fun kv => if kv.1 = k then (kv.1, v) else kv) else kvs ++ [(k, v)]
def dGetK {κ : Type} [DecidableEq κ] (kvs : List (κ × D)) (k : κ) : Option D := (kvs.find? fun kv => decide (kv.1 = k)).map (·.2)
section
variable {K : PySem.W.Frag} {F H : Hp}
theorem keyOf_d {d : D} {k : Key} (e : keyOf d = some k) : d = keyD k := by
  unfold keyOf at e
  split at e <;> cases e <;> rfl
theorem keyOf_rep {d : D} {k : Key} {u : V} (e : keyOf d = some k) (h : Rep K F d u) : u = kV k := by
  unfold keyOf at e
  split at e <;> cases e <;> (simp only [Rep] at h; rw [h]; rfl)
theorem keysOf_rep : ∀ (ds : List D) (ks : List Key) (us : List V), keysOf ds = some ks → RepL K F ds us → us = ks.map kV
  | [], _, _, e, h => by
    cases e
    simp only [RepL] at h
    rw [h]; rfl
  | d :: ds, _, _, e, h => by
    simp only [keysOf] at e
    split at e
    · cases e
    · rename_i k e1
      split at e
      · cases e
      · rename_i ks e2
        cases e
        simp only [RepL] at h
        obtain ⟨x, r, rfl, h1, h2⟩ := h
        rw [keyOf_rep e1 h1, keysOf_rep ds ks r e2 h2]; rfl
theorem key_rep (k : Key) : Rep K F (keyD k) (kV k) := by
  cases k <;> simp only [keyD, Rep] <;> rfl
theorem keys_rep : ∀ ks : List Key, RepL K F (ks.map keyD) (ks.map kV)
  | [] => .nil
  | k :: ks => .cons (key_rep k) (keys_rep ks)
variable {κ : Type} [DecidableEq κ]
theorem RepM.length : ∀ (ds : List (κ × D)) (ys : List (κ × V)), RepM K F ds ys → ds.length = ys.length
  | [], _, h => by simp only [RepM] at h; subst h; rfl
  | (k, d) :: ds, _, ⟨x, r, e1, h1, h2⟩ => by subst e1; simp [RepM.length ds r h2]
theorem RepM.any (k : κ) : ∀ (ds : List (κ × D)) (ys : List (κ × V)), RepM K F ds ys → (ds.any fun kv => decide (kv.1 = k)) = (ys.any fun kv => decide (kv.1 = k))
  | [], _, h => by simp only [RepM] at h; subst h; rfl
  | (k', d) :: ds, _, ⟨x, r, e1, h1, h2⟩ => by subst e1; simp [RepM.any k ds r h2]
theorem RepM.app : ∀ (ds : List (κ × D)) (ys : List (κ × V)) {k : κ} {d : D} {x : V}, RepM K F ds ys → Rep K F d x → RepM K F (ds ++ [(k, d)]) (ys ++ [(k, x)])
  | [], _, k, d, x, h, hx => by
    simp only [RepM] at h
    subst h
    exact ⟨x, [], rfl, hx, rfl⟩
  | (k', d') :: ds, _, _, _, _, ⟨y, r, e1, h1, h2⟩, hx => by
    subst e1
    exact ⟨y, _, rfl, h1, RepM.app ds r h2 hx⟩
theorem RepM.set : ∀ (ds : List (κ × D)) (ys : List (κ × V)) {k : κ} {d : D} {x : V}, RepM K F ds ys → Rep K F d x → RepM K F (ds.map fun kv => if kv.1 = k then (kv.1, d) else kv) (ys.map fun kv => if kv.1 = k then (kv.1, x) else kv)
  | [], _, k, d, x, h, hx => by
    simp only [RepM] at h
    subst h
    exact rfl
  | (k', d') :: ds, _, k, d, x, ⟨y, r, e1, h1, h2⟩, hx => by
    subst e1
    have ih := RepM.set ds r (k := k) h2 hx
    by_cases e : k' = k
    · simp only [List.map_cons, e, if_true]
      exact ⟨x, _, rfl, hx, ih⟩
    · simp only [List.map_cons, e, if_false]
      exact ⟨y, _, rfl, h1, ih⟩
theorem RepM.put {ds : List (κ × D)} {ys : List (κ × V)} {k : κ} {d : D} {x : V} (h : RepM K F ds ys) (hx : Rep K F d x) : RepM K F (dPut ds k d) (putK ys k x) := by
  unfold dPut putK
  rw [RepM.any k ds ys h]
  split
  · exact RepM.set ds ys h hx
  · exact RepM.app ds ys h hx
theorem RepM.get (k : κ) : ∀ (ds : List (κ × D)) (ys : List (κ × V)), RepM K F ds ys → (dGetK ds k = none ∧ valV ys k = none) ∨ ∃ d x, dGetK ds k = some d ∧ valV ys k = some x ∧ Rep K F d x
  | [], _, h => by
    simp only [RepM] at h
    subst h
    exact .inl ⟨rfl, rfl⟩
  | (k', d) :: ds, _, ⟨x, r, e1, h1, h2⟩ => by
    subst e1
    by_cases e : k' = k
    · exact .inr ⟨d, x, by simp [dGetK, List.find?_cons, e], valV_pos e, h1⟩
    · rcases RepM.get k ds r h2 with ⟨q1, q2⟩ | ⟨d', x', q1, q2, q3⟩
      · refine .inl ⟨?_, (valV_neg e).trans q2⟩
        rw [← q1]; simp [dGetK, List.find?_cons, e]
      · refine .inr ⟨d', x', ?_, (valV_neg e).trans q2, q3⟩
        rw [← q1]; simp [dGetK, List.find?_cons, e]
end
def mNewT : ME := fun s => .ok (.o (.dT [])) s
def mNewK : ME := fun s => .ok (.o (.dK [])) s
/-- d[k] = v, d in slot i -/
def putC (c : C) (k v : D) : Option C := match c with
  | .dK l => match keyOf k with
    | some q => if l.length < sizeLine then some (.dK (dPut l q v)) else none
    | none => none
  | .dT l => match k with
    | .tuple ks => match keysOf ks with
      | some q => if l.length < sizeLine then some (.dT (dPut l q v)) else none
      | none => none
    | _ => none
  | _ => none
def mPut (i : Nat) (mk mv : ME) : MS := fun s => match mv s with
  | .no => .no
  | .ok rv s1 => match s1.a[i]? with
    | some (some (.o _)) => match mk s1 with
      | .no => .no
      | .ok rk s2 => match takes s2 [rv, rk] with
        | some ([v, k], s3) => match s3.a[i]? with
          | some (some (.o c)) => match putC c k v with
            | some c' => .ok .nx { s3 with a := s3.a.set i (some (.o c')) }
            | none => .no
          | _ => .no
        | _ => .no
    | _ => .no
section
variable {K : PySem.W.Frag} {F H : Hp}
theorem put_own {w : Wd} {i : Nat} {c c' : C} {k v : D} {a : Addr} {x y : V} (sub : Same w.F H) (h : Own K w H i c (.ref a)) (e : putC c k v = some c') (hk : Rep K w.F k y) (hv : Rep K w.F v x) :
    ∃ o, NT o ∧ w.O a = some i ∧ DPut H a y x (upd H a o) ∧ Own K w (upd H a o) i c' (.ref a) := by
  unfold putC at e
  split at e
  · rename_i l
    split at e
    · rename_i q eq
      split at e
      · rename_i hl
        cases e
        obtain ⟨b, ys, e1, h1, h2, h3⟩ := h
        cases e1
        rw [keyOf_rep eq hk]
        exact ⟨_, (fun _ h => by cases h), h1, DPut.k h2 (by rw [← RepM.length _ _ h3]; exact hl), a, _, rfl, h1, upd_same, RepM.put h3 hv⟩
      · cases e
    · cases e
  · rename_i l
    split at e
    · rename_i ks
      split at e
      · rename_i q eq
        split at e
        · rename_i hl
          cases e
          obtain ⟨b, ys, e1, h1, h2, h3⟩ := h
          cases e1
          simp only [Rep] at hk
          obtain ⟨p, us, rfl, h4, h5⟩ := hk
          rw [keysOf_rep _ _ _ eq h5] at h4
          exact ⟨_, (fun _ h => by cases h), h1, DPut.t h2 (sub _ _ h4) (by rw [← RepM.length _ _ h3]; exact hl), a, _, rfl, h1, upd_same, RepM.put h3 hv⟩
        · cases e
      · cases e
    · cases e
  · cases e
end
section
variable {X : Cx} {e ek value : Expr} {mk mv : ME} {i : Nat} {x : Str} {p pos pos' : Pos}
theorem re_newT : RE X (.Dict [] [] pos) mNewT := ⟨_, pe_dnewT, fun σ H w s t Q r s' ok e k => by
  cases e
  intro a ha
  exact k (w.give a t) _ _ (t + 1) t (Nat.le_refl _) (Nat.lt_succ_self _) (give_ok ok ha) (give_step ok ha) .refl ⟨a, [], rfl, if_pos rfl, upd_same, rfl⟩⟩
theorem re_newK : RE X (.Dict [] [] pos) mNewK := ⟨_, pe_dnewK, fun σ H w s t Q r s' ok e k => by
  cases e
  intro a ha
  exact k (w.give a t) _ _ (t + 1) t (Nat.le_refl _) (Nat.lt_succ_self _) (give_ok ok ha) (give_step ok ha) .refl ⟨a, [], rfl, if_pos rfl, upd_same, rfl⟩⟩
theorem rs_put (i : Nat) {n : Nat} (hr : Here X n) (hk : RE X ek mk) (hv : RE X value mv) (hN : X.N[i]? = some x := by rfl) (hvis : Vis X.env.scope x := by first | exact Or.inl rfl | exact Or.inr (Or.inl rfl) | exact Or.inr (Or.inr rfl)) (hd : (x == ("__debug__" : Str)) = false := by decide) (hcd : (x == ("__classdict__" : Str)) = false := by decide)
    (hs : swapsWith value (some (.Subscript (.Name x p) ek pos')) pos.line X.env = pure false := by rfl) : RS X (.Assign [.Subscript (.Name x p) ek pos'] value pos) (mPut i mk mv) := by
  obtain ⟨t1, p1, s1⟩ := hk
  obtain ⟨t2, p2, s2⟩ := hv
  refine ⟨_, ps_dput (by have := hr.rm.un; omega) (pe_var hN hvis hd hcd) p1 p2 hs, fun σ H w s D f s' ok e k => ?_⟩
  simp only [mPut] at e
  split at e
  · cases e
  · rename_i rv sa e1
    split at e
    · rename_i c0 h0
      split at e
      · cases e
      · rename_i rk sb e2
        split at e
        · rename_i v kk sc e3
          split at e
          · rename_i c h1
            split at e
            · rename_i c' e4
              cases e
              refine s2 σ H w s _ _ rv sa ok e1 fun w1 H1 u t1 τ a1 a2 ok1 st1 sl1 rel1 => ?_
              have l1 := ok.slen ok1
              have tN := ok1.tN
              have hi := (List.getElem?_eq_some_iff.mp h0).1
              obtain ⟨z, hz⟩ : ∃ z, σ[i]? = some z := ⟨σ[i]'(by rw [ok1.len]; exact hi), by simp [ok1.len, hi]⟩
              obtain ⟨z', rfl, hown⟩ := ok1.sl i _ _ h0 hz
              refine ⟨z', hz, ?_⟩
              refine s1 σ H1 w1 sa t1 _ rk sb ok1 e2 fun w2 H2 y t2 τ2 b1 b2 ok2 st2 sl2 rel2 => ?_
              have l2 := ok1.slen ok2
              have relA := RelR.keep ok1 rel1 st2 (by omega) (by omega) sl2
              obtain ⟨w3, ok3, st3, rep, sl3, l3⟩ := takes_ok (hi := t2) (t0 := s.a.length) [rv, rk] [u, y] _ _ _ w2 s.a.length ok2 ⟨u, _, τ, rfl, a1, by omega, relA, y, _, τ2, rfl, by omega, b2, rel2, rfl⟩ e3 (Nat.le_refl _) (by omega)
              simp only [RepL] at rep
              obtain ⟨_, _, eu, rv', _, _, ey, rk', er⟩ := rep
              cases eu
              cases ey
              obtain ⟨z2, ez, hown2⟩ := ok3.sl i _ _ h1 hz
              cases ez
              obtain ⟨a, ea⟩ : ∃ a, z' = .ref a := by
                cases c with
                | lst _ => obtain ⟨a, _, e, _⟩ := hown2; exact ⟨a, e⟩
                | dK _ => obtain ⟨a, _, e, _⟩ := hown2; exact ⟨a, e⟩
                | dT _ => obtain ⟨a, _, e, _⟩ := hown2; exact ⟨a, e⟩
              subst ea
              obtain ⟨o, nt, hO, put, own'⟩ := put_own ok3.sub hown2 e4 rk' rv'
              obtain ⟨ok4, st4, sl4⟩ := slot_mut ok3 h1 hz hO nt own'
              rw [l1] at l2 st2
              rw [l2] at st3 l3
              rw [l3] at st4
              refine ⟨a, _, rfl, put, ?_⟩
              refine k.nx rfl σ _ _ (drop_ok ok4 (by simp [l3])) (by simp [l3]) ?_
              exact (((st1.trans (st2.mono (by omega))).trans st3).trans (st4.mono (by have := ok3.tN; omega))).trans drop_step
            · cases e
          · cases e
        · cases e
    · cases e
end
end Qz
/-! sorted(..) of tuples of ints, of any lengths but none; of ints -/
namespace SrtQ
open PySem PyProof.Rows HT
section
variable {prog : Program} {w : World} {A : Around} {E : Value → Shared → Prop} {s : Shared}
theorem lexI_kat {fin : Bool} {Q : Bool → Shared → Prop} : ∀ {vs us : List Value} {ns ms : List Int} (i : Nat), IntsAre vs ns → IntsAre us ms → fin = decide (ns.length < ms.length) → Q (lexLt ns ms) s → PySem.W.KatLex prog w A true fin Q (vs.zip us) i s
  | [], us, [], ms, i, .nil, h2, e, q => by
    rw [List.zip_nil_left]
    refine PySem.W.kat_nil ?_
    cases h2 with
    | nil => rw [lexLt_nil_nil] at q; rw [e]; exact q
    | cons m t h2 => rw [lexLt_nil_cons] at q; rw [e]; exact q
  | _ :: _, [], _ :: _, [], i, .cons n t h1, .nil, e, q => by
    rw [List.zip_nil_right]
    refine PySem.W.kat_nil ?_
    rw [lexLt_cons_nil] at q; rw [e]; exact q
  | _ :: vs, _ :: us, _ :: ns, _ :: ms, i, .cons n t h1, .cons m u h2, e, q => by
    rw [List.zip_cons_cons]
    rw [lexLt_cons] at q
    refine PySem.W.kat_cons (SeqAt.EqAt.int_int n t m u prog w _ _ ?_)
    refine PySem.W.kat_go (fun e1 => ?_) (fun e1 => ?_)
    · have ex : n = m := by simpa using e1
      rw [if_pos ex] at q
      exact PySem.W.kat_yes (lexI_kat (i + 1) h1 h2 (by rw [e]; simp) q)
    · have ex : ¬ n = m := by simpa using e1
      rw [if_neg ex] at q
      exact PySem.W.kat_no (TS.oneLt_ints _ q)
theorem tups_cmp {vs : List Value} {k : Value → List Int} (hp : ∀ v ∈ vs, TS.TupInts s.heap v (k v)) : SrtO.Cmp prog w A s (tuples' true) (fun p => p.1 ∈ vs) (SrtO.lt2 fun v u => lexLt (k v) (k u)) := by
  intro p q hm hm'
  obtain ⟨a, xs, e, ⟨o, ho, hc, n, hd⟩, i⟩ := hp _ hm
  obtain ⟨a', xs', e', ⟨o', ho', hc', n', hd'⟩, i'⟩ := hp _ hm'
  show wpAny (model prog w) A (keyLt' (tuples' true) p.1 q.1) (fun r s' => s' = s ∧ r = lexLt (k p.1) (k q.1)) (fun _ _ => False) s
  generalize k p.1 = ns at i ⊢
  generalize k q.1 = ms at i' ⊢
  rw [e, e']
  refine PySem.W.kat_lt ho hd ho' hd' (lexI_kat 0 i i' ?_ ⟨rfl, rfl⟩)
  rw [← i.length, ← i'.length]; simp
theorem firsts {h : Heap} {k : Value → List Int} : ∀ vs : List Value, (∀ v ∈ vs, TS.TupInts h v (k v) ∧ k v ≠ []) → ∃ fs, PySem.W.KatTups h vs fs ∧ fs.length = vs.length ∧ ∀ f, f ∈ fs → ∃ n t, f = Value.int n t
  | [], _ => ⟨[], .nil, rfl, fun f hf => by simp at hf⟩
  | v :: vs, x => by
    obtain ⟨fs, q1, hl, hi⟩ := firsts vs fun u hu => x u (List.mem_cons_of_mem _ hu)
    obtain ⟨⟨a, xs, rfl, ⟨o, ho, hc, n, hdt⟩, i⟩, hn⟩ := x v List.mem_cons_self
    revert i
    generalize k (.ref a) = ns at hn
    intro i
    cases ns with
    | nil => exact absurd rfl hn
    | cons m ms =>
      obtain ⟨y, ys, e⟩ : ∃ y ys, xs.toList = y :: ys := by
        cases q : xs.toList with
        | nil => rw [q] at i; cases i
        | cons y ys => exact ⟨y, ys, rfl⟩
      rw [e] at i
      cases i with
      | cons _ t _ =>
        have e2 : xs = (Value.int m t :: ys).toArray := by rw [← e]
        refine ⟨.int m t :: fs, PySem.W.KatTups.cons ho hc (e2 ▸ hdt) rfl q1, by simp [hl], fun f hf => ?_⟩
        rcases List.mem_cons.mp hf with rfl | hf
        · exact ⟨m, t, rfl⟩
        · exact hi f hf
theorem tups_sortable {a : Addr} {vs : List Value} {k : Value → List Int} (h0 : 0 < vs.length) (hp : ∀ v ∈ vs, TS.TupInts s.heap v (k v) ∧ k v ≠ []) (ha : ∀ o, s.heap.get? a = some o → o.cls ≠ .type "tuple") : SrtO.SortableO prog w A s a vs fun v u => lexLt (k v) (k u) := by
  intro h' keep
  have hp' : ∀ v ∈ vs, TS.TupInts h' v (k v) ∧ k v ≠ [] := fun v hm => ⟨(hp v hm).1.keeps fun b o e c => keep b o (fun z => by subst z; exact ha o e c) e, (hp v hm).2⟩
  obtain ⟨fs, h1, h2, h3⟩ := firsts vs hp'
  refine ⟨tuples' true, fun Q E hq => ?_, tups_cmp fun v hv => (hp' v hv).1⟩
  refine PySem.W.kat_kind (T := .type "int") h1 (by omega) (fun f hm => ?_) (by rfl) ?_
  · obtain ⟨x, t, rfl⟩ := h3 f hm
    exact PySem.W.Looks.now
  · have e : (Value.type "int" != Value.type "tuple") = true := by first | decide +kernel | rfl | decide
    rw [e]
    exact hq
theorem sorted_tupsL {l : Addr} {vs : List Value} {k : Value → List Int} {Q : Value → Shared → Prop} (hl : s.heap.IsList l vs.toArray) (hz : vs.length ≤ sizeLine) (hp : ∀ v ∈ vs, TS.TupInts s.heap v (k v) ∧ k v ≠ [])
    (h : ∀ (h' : Heap) (d : Addr) (out : List Value), SrtO.Srtd (fun v u => lexLt (k v) (k u)) out → SrtO.Stb (fun v u => lexLt (k v) (k u)) out vs → (∀ b o, s.heap.get? b = some o → h'.get? b = some o) → s.heap.objs.size ≤ d → (∃ n, h'.get? d = some (seqObj "list" out.toArray n)) → Q (.ref d) { s with heap := h' }) :
    wpAny (model prog w) A (call (.builtin "sorted") [.ref l]) Q E s := by
  refine SrtO.sorted_ord (NtL.swo_lexL k) hl hz (fun h2 h₁ a ha kk => ?_) fun out hs hb => ?_
  · refine tups_sortable (s := { s with heap := h₁ }) (by omega) (fun v hm => ⟨(hp v hm).1.keeps fun b o e _ => (kk b o e).2, (hp v hm).2⟩) fun o e => ?_
    have e' := e.symm.trans ha
    cases e'
    intro c
    exact absurd (Value.type.inj c) (by decide)
  · exact h _ _ out hs hb (fun b o e => sortedAll_old e) (Nat.le_succ _) (sortedAll_at s.heap vs out.toArray)
end
end SrtQ
namespace Qz
open PySem PySem.Spec L2
open PyProof.Rows hiding St
def rSortedTI (K : PySem.W.Frag) : List V → Hp → VK → Prop := fun vs H Q => ∃ (a : Addr) (xs : List V) (k : V → List Int), vs = [V.ref a] ∧ SqL K H a xs ∧ (∀ x ∈ xs, (∃ t, x = V.ref t ∧ H t = some (.tup ((k x).map V.int))) ∧ k x ≠ []) ∧
  ∀ ys p, SrtO.Srtd (fun x y => HT.lexLt (k x) (k y)) ys → SrtO.Stb (fun x y => HT.lexLt (k x) (k y)) ys xs → H p = none → Q (.ref p) (upd H p (.lst ys))
theorem cr_sortedTI {X : Cx} : CallR X (.builtin "sorted") (rSortedTI X.K) := by
  intro pins s σ H vs us Q I r h
  obtain ⟨a, xs, k, rfl, hs, hx, q⟩ := h
  obtain ⟨its, rv, hl, hz⟩ := I.list hs
  obtain ⟨u, rfl, ru⟩ := vals1 r
  obtain rfl : u = Value.ref a := ru
  obtain ⟨e1, e2⟩ := refs_back rv fun x m => by
    obtain ⟨⟨t, e, _⟩, _⟩ := hx x m
    exact ⟨t, e⟩
  refine SrtQ.sorted_tupsL (k := fun u => k (backV u)) hl.isList (by rw [← rv.length]; exact hz) (fun v hv => ?_) fun h' d out h1 h2 kp hd hn => ?_
  · obtain ⟨t, rfl⟩ := e2 v hv
    have hm : V.ref t ∈ xs := by rw [e1]; exact List.mem_map.mpr ⟨_, hv, rfl⟩
    obtain ⟨⟨t', e, ht⟩, hne⟩ := hx _ hm
    cases e
    obtain ⟨_, its2, r2, o, ho, hc, n, hd⟩ := I.hok _ _ ht
    exact ⟨⟨t, its2.toArray, rfl, ⟨o, ho, hc, n, hd⟩, show IntsAre its2.toArray.toList (k (V.ref t)) by simpa using ints_vals r2⟩, hne⟩
  · have h3 : ∀ u ∈ out, ∃ a, u = Value.ref a := fun u hu => e2 u (h2.perm.mem_iff.mp hu)
    obtain ⟨n, hn⟩ := hn
    have hb : SrtO.Stb (fun x y => HT.lexLt (k x) (k y)) (out.map backV) xs := by
      rw [e1]
      exact SrtO.Stb.map (NtL.swo_lexL k) backV h2
    refine ⟨.ref d, upd H d (.lst (out.map backV)), I.laid (t' := s.toks) kp hd ⟨?_, out, n, vals_back h3, hn⟩, rfl, q _ d (SrtO.srtd_map h1) hb (I.hok.fresh hd)⟩
    rw [hb.len]
    exact hz

/-! ## the sorted list of lists of ints -/
def insI (x : List Int) : List (List Int) → List (List Int)
  | [] => [x]
  | y :: r => if HT.lexLt y x then y :: insI x r else x :: y :: r
def sortI : List (List Int) → List (List Int)
  | [] => []
  | x :: r => insI x (sortI r)
theorem insI_perm (x : List Int) : ∀ l, (insI x l).Perm (x :: l)
  | [] => .refl _
  | y :: r => by
    simp only [insI]
    split
    · exact ((insI_perm x r).cons y).trans (.swap x y r)
    · exact .refl _
theorem sortI_perm : ∀ l, (sortI l).Perm l
  | [] => .refl _
  | x :: r => (insI_perm x _).trans ((sortI_perm r).cons x)
theorem insI_srtd (x : List Int) : ∀ l, SrtO.Srtd HT.lexLt l → SrtO.Srtd HT.lexLt (insI x l)
  | [], _ => List.pairwise_singleton _ _
  | y :: r, h => by
    simp only [insI]
    obtain ⟨h1, h2⟩ := List.pairwise_cons.mp h
    split
    · rename_i hy
      refine List.pairwise_cons.mpr ⟨fun z hz => ?_, insI_srtd x r h2⟩
      rcases List.mem_cons.mp ((insI_perm x r).mem_iff.mp hz) with rfl | hz
      · exact NtL.lex_asym _ _ hy
      · exact h1 z hz
    · rename_i hy
      have hy : HT.lexLt y x = false := by simpa using hy
      refine List.pairwise_cons.mpr ⟨fun z hz => ?_, h⟩
      rcases List.mem_cons.mp hz with rfl | hz
      · exact hy
      · exact NtL.lex_tr x y z hy (h1 z hz)
theorem sortI_srtd : ∀ l, SrtO.Srtd HT.lexLt (sortI l)
  | [] => List.Pairwise.nil
  | x :: r => insI_srtd x _ (sortI_srtd r)
theorem lex_anti : ∀ xs ys : List Int, HT.lexLt xs ys = false → HT.lexLt ys xs = false → xs = ys
  | [], [], _, _ => rfl
  | [], _ :: _, h, _ => by rw [HT.lexLt_nil_cons] at h; cases h
  | _ :: _, [], _, h => by rw [HT.lexLt_nil_cons] at h; cases h
  | x :: xs, y :: ys, h1, h2 => by
    rw [HT.lexLt_cons] at h1 h2
    by_cases e : x = y
    · rw [if_pos e] at h1
      rw [if_pos e.symm] at h2
      rw [e, lex_anti xs ys h1 h2]
    · rw [if_neg e] at h1
      rw [if_neg (Ne.symm e)] at h2
      have a := of_decide_eq_false h1
      have b := of_decide_eq_false h2
      omega
theorem sorted_one : ∀ {l m : List (List Int)}, SrtO.Srtd HT.lexLt l → SrtO.Srtd HT.lexLt m → l.Perm m → l = m
  | [], m, _, _, h => (List.Perm.eq_nil h.symm).symm
  | x :: l, [], _, _, h => absurd h.length_eq (by simp)
  | x :: l, y :: m, hl, hm, h => by
    have h1 : HT.lexLt x y = false := by
      rcases List.mem_cons.mp (h.mem_iff.mp (List.mem_cons_self (a := x) (l := l))) with e | hx
      · rw [e]; exact (NtL.swo_lexL fun z : List Int => z).refl y
      · exact SrtO.srtd_head hm x hx
    have h2 : HT.lexLt y x = false := by
      rcases List.mem_cons.mp (h.mem_iff.mpr (List.mem_cons_self (a := y) (l := m))) with e | hy
      · rw [e]; exact (NtL.swo_lexL fun z : List Int => z).refl x
      · exact SrtO.srtd_head hl y hy
    have e := lex_anti x y h1 h2
    subst e
    rw [sorted_one (List.pairwise_cons.mp hl).2 (List.pairwise_cons.mp hm).2 h.cons_inv]
/-- an int, or a tuple of ints that is not empty -/
def intsD? : List D → Option (List Int)
  | [] => some []
  | .int i :: r => (intsD? r).map (i :: ·)
  | _ => none
def tupI? : D → Option (List Int)
  | .tuple ds => match intsD? ds with
    | some (i :: r) => some (i :: r)
    | _ => none
  | _ => none
def tupsI? : List D → Option (List (List Int))
  | [] => some []
  | d :: r => match tupI? d with
    | none => none
    | some x => (tupsI? r).map (x :: ·)
def dTupI (ns : List Int) : D := .tuple (ns.map .int)
def fSorted : List D → Option R
  | [.list ds] => match tupsI? ds with
    | some ls => some (.o (.lst ((sortI ls).map dTupI)))
    | none => match intsD? ds with
      | some ns => some (.o (.lst ((sortI (ns.map fun i => [i])).map fun l => .int (l.headD 0))))
      | none => none
  | _ => none
section
variable {K : PySem.W.Frag} {F : Hp}
theorem intsD_eq : ∀ {ds : List D} {ns : List Int}, intsD? ds = some ns → ds = ns.map .int
  | [], _, e => by cases e; rfl
  | .int i :: r, _, e => by
    simp only [intsD?, Option.map_eq_some_iff] at e
    obtain ⟨ns, e1, rfl⟩ := e
    rw [intsD_eq e1]; rfl
theorem ints_rep : ∀ (ns : List Int) (xs : List V), RepL K F (ns.map .int) xs → xs = ns.map .int
  | [], _, h => by simpa only [List.map_nil, RepL] using h
  | i :: ns, _, h => by
    simp only [List.map_cons, RepL, Rep] at h
    obtain ⟨x, r, rfl, rfl, h2⟩ := h
    rw [ints_rep ns r h2]; rfl
theorem rep_ints' : ∀ ns : List Int, RepL K F (ns.map .int) (ns.map V.int)
  | [] => .nil
  | i :: ns => .cons (by simp only [Rep]) (rep_ints' ns)
theorem tupI_eq {d : D} {ns : List Int} (e : tupI? d = some ns) : d = dTupI ns ∧ ns ≠ [] := by
  unfold tupI? at e
  split at e
  · split at e
    · rename_i i r h
      cases e
      exact ⟨by unfold dTupI; rw [intsD_eq h], by simp⟩
    · cases e
  · cases e
theorem tupsI_eq : ∀ {ds : List D} {ls : List (List Int)}, tupsI? ds = some ls → ds = ls.map dTupI ∧ ∀ l ∈ ls, l ≠ []
  | [], _, e => by cases e; exact ⟨rfl, by simp⟩
  | d :: r, _, e => by
    simp only [tupsI?] at e
    split at e
    · cases e
    · rename_i x e1
      simp only [Option.map_eq_some_iff] at e
      obtain ⟨ls, e2, rfl⟩ := e
      obtain ⟨a1, a2⟩ := tupI_eq e1
      obtain ⟨b1, b2⟩ := tupsI_eq e2
      refine ⟨by rw [a1, b1]; rfl, fun l hl => ?_⟩
      rcases List.mem_cons.mp hl with rfl | hl
      · exact a2
      · exact b2 l hl
/-- the numbers at a place -/
def kAt (F : Hp) : V → List Int
  | .ref a => match F a with
    | some (.tup xs) => xs.map fun v => match v with
      | .int i => i
      | _ => 0
    | _ => []
  | _ => []
theorem kAt_of {a : Addr} {ns : List Int} (h : F a = some (.tup (ns.map V.int))) : kAt F (.ref a) = ns := by
  simp only [kAt, h, List.map_map]
  exact (List.map_congr_left fun _ _ => rfl).trans (List.map_id ns)
theorem rep_tupI {ns : List Int} {x : V} (h : Rep K F (dTupI ns) x) : ∃ a, x = .ref a ∧ F a = some (.tup (ns.map V.int)) := by
  simp only [dTupI, Rep] at h
  obtain ⟨a, xs, e, h1, h2⟩ := h
  rw [ints_rep ns xs h2] at h1
  exact ⟨a, e, h1⟩
theorem reps_tupI : ∀ (ls : List (List Int)) (xs : List V), RepL K F (ls.map dTupI) xs → xs.map (kAt F) = ls ∧ ∀ x ∈ xs, ∃ a, x = .ref a ∧ F a = some (.tup ((kAt F x).map V.int))
  | [], _, h => by simp only [List.map_nil, RepL] at h; subst h; exact ⟨rfl, by simp⟩
  | l :: ls, _, h => by
    simp only [List.map_cons, RepL] at h
    obtain ⟨x, r, rfl, h1, h2⟩ := h
    obtain ⟨a, rfl, h3⟩ := rep_tupI h1
    obtain ⟨q1, q2⟩ := reps_tupI ls r h2
    refine ⟨by rw [List.map_cons, q1, kAt_of h3], fun y hy => ?_⟩
    rcases List.mem_cons.mp hy with rfl | hy
    · exact ⟨a, rfl, by rw [kAt_of h3]; exact h3⟩
    · exact q2 y hy
theorem tupI_reps : ∀ xs : List V, (∀ x ∈ xs, ∃ a, x = .ref a ∧ F a = some (.tup ((kAt F x).map V.int))) → RepL K F ((xs.map (kAt F)).map dTupI) xs
  | [], _ => .nil
  | x :: xs, h => by
    refine .cons ?_ (tupI_reps xs fun y hy => h y (List.mem_cons_of_mem _ hy))
    obtain ⟨a, e, h1⟩ := h x List.mem_cons_self
    simp only [dTupI, Rep]
    exact ⟨a, _, e, h1, rep_ints' _⟩
theorem sortI_singles {ns ns' : List Int} (hp : ns'.Perm ns) (hs : ns'.Pairwise (· ≤ ·)) : (sortI (ns.map fun i => [i])).map (fun l => l.headD 0) = ns' := by
  have e : sortI (ns.map fun i => [i]) = ns'.map fun i => [i] := by
    refine sorted_one (sortI_srtd _) (List.pairwise_map.mpr (hs.imp fun {x y} h => ?_)) ((sortI_perm _).trans (hp.symm.map _))
    rw [HT.lexLt_cons]
    by_cases e : y = x
    · rw [if_pos e]; exact HT.lexLt_nil_nil
    · rw [if_neg e]; exact decide_eq_false (by omega)
  rw [e, List.map_map]
  exact (List.map_congr_left fun _ _ => rfl).trans (List.map_id ns')
theorem s_sorted : BltS K (fun us H Q => rSortedTI K us H Q ∨ rSortedI K us H Q) fSorted := by
  intro w H σ s t us xs r Q ok vw e k
  unfold fSorted at e
  split at e
  · rename_i ds
    obtain ⟨u, rfl, v⟩ := vw.one
    obtain ⟨a, ys, rfl, h1, h2⟩ := v.lst ok.sub
    have give : ∀ (zs : List V) (es : List D) (p : Addr), H p = none → RepL K w.F es zs → r = .o (.lst es) → Q (.ref p) (upd H p (.lst zs)) := fun zs es p hp rep er => by
      subst er
      refine k (w.give p t) _ _ (give_ok ok hp) (give_step ok hp) ?_
      exact ⟨p, zs, rfl, if_pos rfl, upd_same, rep⟩
    split at e
    · rename_i ls e1
      cases e
      obtain ⟨rfl, ne⟩ := tupsI_eq e1
      obtain ⟨q1, q2⟩ := reps_tupI ls ys h2
      refine .inl ⟨a, ys, kAt w.F, rfl, h1, fun x hx => ?_, fun zs p hs hb hp => give zs _ p hp ?_ rfl⟩
      · obtain ⟨b, e2, h3⟩ := q2 x hx
        exact ⟨⟨b, e2, ok.sub _ _ h3⟩, ne _ (by rw [← q1]; exact List.mem_map_of_mem hx)⟩
      · have e3 : sortI ls = zs.map (kAt w.F) := by
          refine sorted_one (sortI_srtd _) (List.pairwise_map.mpr hs) ((sortI_perm ls).trans ?_)
          rw [← q1]
          exact (hb.perm.map _).symm
        rw [e3]
        exact tupI_reps zs fun x hx => q2 x (hb.perm.mem_iff.mp hx)
    · split at e
      · rename_i ns e1
        cases e
        rw [intsD_eq e1] at h2
        rw [ints_rep ns ys h2] at h1
        refine .inr ⟨a, ns, rfl, h1, fun ns' p hp hs hq => give _ _ p hq (rep_ints' ns') ?_⟩
        have := sortI_singles hp hs
        rw [← this, List.map_map]; rfl
      · cases e
  · cases e
variable {X : Cx} {e : Expr} {ms : MA} {p pos : Pos}
theorem re_sorted (hm : X.mg "sorted" = none) (ha : RA X [e] ms) (hg : Gl X "sorted" := by rfl) (he : starEach [e] X.env = (false, eval e X.env) :: starEach [] X.env := by rfl) : RE X (.Call (.Name "sorted" p) [e] [] pos) (mBlt fSorted ms) :=
  re_blt (cr_sortedTI.or cr_sortedI) s_sorted hm (by decide +kernel) ha hg (by decide) (by decide) he rfl
theorem re_min (hc : X.calm = true) {e2 : Expr} (hm : X.mg "min" = none) (ha : RA X [e, e2] ms) (hg : Gl X "min" := by rfl) (he : starEach [e, e2] X.env = (false, eval e X.env) :: starEach [e2] X.env := by rfl) (hpl : (backTo pos (starEach [e2] X.env)).any (·.1) = false := by rfl) : RE X (.Call (.Name "min" p) [e, e2] [] pos) (mBlt fMin2 ms) :=
  re_blt (call_min2 hc) s_min2 hm (by decide +kernel) ha hg (by decide) (by decide) he hpl
theorem re_max (hc : X.calm = true) {e2 : Expr} (hm : X.mg "max" = none) (ha : RA X [e, e2] ms) (hg : Gl X "max" := by rfl) (he : starEach [e, e2] X.env = (false, eval e X.env) :: starEach [e2] X.env := by rfl) (hpl : (backTo pos (starEach [e2] X.env)).any (·.1) = false := by rfl) : RE X (.Call (.Name "max" p) [e, e2] [] pos) (mBlt fMax2 ms) :=
  re_blt (call_max2 hc) s_max2 hm (by decide +kernel) ha hg (by decide) (by decide) he hpl
end
end Qz
/-! t[::-1] of a tuple -/
namespace RevQ
open PySem PySem.Spec PyProof.Rows HT L2
section
variable {prog : Program} {w : World} {A : Around} {E : Value → Shared → Prop} {s : Shared}
theorem adjust_rev (n : Nat) : Builtin.Slice.sliceAdjust none none (-1) (n : Int) = ((n : Int) - 1, -1) := rfl
theorem places_rev (n : Nat) : Builtin.Slice.slicePlaces ((n : Int) - 1) (-1) (-1) = n := by
  unfold Builtin.Slice.slicePlaces
  rw [if_neg (by omega)]
  split
  · have : ((n : Int) - 1 - -1 - 1) / - -1 + 1 = n := by
      have e : (- -1 : Int) = 1 := by omega
      rw [e, Int.ediv_one]; omega
    rw [this]; simp
  · simp; omega
theorem applied_rev {sl : Addr} {vl vu vs : Value} {n : Nat} {Q : Int × Int × Nat → Shared → Prop} (hs : s.heap.IsSliceOf sl vl vu vs) (pl : IsPart vl none) (pu : IsPart vu none) (ps : IsPart vs (some (-1)))
    (h : Q ((n : Int) - 1, -1, n) s) : wpAny (model prog w) A (Builtin.Slice.sliceApplied (.ref sl) (pure (n : Int))) Q E s := by
  obtain ⟨os, hos, hcs, hds⟩ := id hs
  unfold Builtin.Slice.sliceApplied Builtin.Slice.sliceFields
  refine wpAny_bind (wpAny_bind (wpAny_field hos hds (x := vl) rfl (wpAny_bind (wpAny_field hos hds (x := vu) rfl (wpAny_bind (wpAny_field hos hds (x := vs) rfl (wpAny_pure ?_)))))))
  refine wpAny_bind (slicePart_ ps ?_)
  show wpAny _ _ (if ((-1 : Int) == 0) = true then _ else _) _ _ s
  rw [if_neg (by decide)]
  refine wpAny_bind (slicePart_ pl (wpAny_bind (slicePart_ pu (wpAny_bind (wpAny_pure ?_)))))
  show wpAny _ _ (match Builtin.Slice.sliceAdjust none none (-1) (n : Int) with | (lo, hi) => pure (lo, (-1 : Int), Builtin.Slice.slicePlaces lo hi (-1))) _ _ s
  rw [adjust_rev]
  show wpAny _ _ (pure (((n : Int) - 1), (-1 : Int), Builtin.Slice.slicePlaces ((n : Int) - 1) (-1) (-1))) _ _ s
  rw [places_rev]
  exact wpAny_pure h
theorem pick_rev (xs : Array Value) : ((List.range xs.size).filterMap fun (m : Nat) => xs[(((xs.size : Int) - 1) + (m : Int) * -1).toNat]?).toArray = xs.toList.reverse.toArray := by
  congr 1
  have e : ∀ l : List Nat, (∀ m ∈ l, m < xs.size) → l.filterMap (fun (m : Nat) => xs[(((xs.size : Int) - 1) + (m : Int) * -1).toNat]?) = l.filterMap fun m => xs.toList.reverse[m]? := fun l => by
    induction l with
    | nil => intro _; rfl
    | cons m l ih =>
      intro h
      have hm := h m List.mem_cons_self
      have e1 : (((xs.size : Int) - 1) + (m : Int) * -1).toNat = xs.size - 1 - m := by omega
      have e2 : xs[(((xs.size : Int) - 1) + (m : Int) * -1).toNat]? = xs.toList.reverse[m]? := by
        rw [e1, List.getElem?_reverse (by simpa using hm)]
        simp
      rw [List.filterMap_cons, List.filterMap_cons, ih fun z hz => h z (List.mem_cons_of_mem _ hz), e2]
  rw [e _ fun m hm => by simpa using hm]
  have : ∀ l : List Value, (List.range l.length).filterMap (fun m => l[m]?) = l := fun l => by
    induction l with
    | nil => rfl
    | cons x l ih =>
      rw [List.length_cons, List.range_succ_eq_map, List.filterMap_cons, List.filterMap_map]
      show x :: List.filterMap (fun m => (x :: l)[m + 1]?) _ = _
      simp only [List.getElem?_cons_succ]
      rw [ih]
  have z := this xs.toList.reverse
  rw [List.length_reverse, Array.length_toList] at z
  exact z
theorem getItem_rev {t sl : Addr} {items : Array Value} {vl vu vs : Value} {Q : Value → Shared → Prop} (ht : IsTup s.heap t items) (hs : s.heap.IsSliceOf sl vl vu vs) (pl : IsPart vl none) (pu : IsPart vu none) (ps : IsPart vs (some (-1)))
    (h : Q (.ref s.heap.objs.size) { s with heap := s.heap.push { cls := .type "tuple", data := .seq items.toList.reverse.toArray } }) (hsz : items.size ≤ sizeLine) : wpAny (model prog w) A (getItem (.ref t) (.ref sl)) Q E s := by
  have htake : sizeOk (.seq items.toList.reverse.toArray) := by
    show items.toList.reverse.toArray.size ≤ sizeLine
    rw [List.size_toArray, List.length_reverse, Array.length_toList]
    exact hsz
  obtain ⟨os, hos, hcs, hds⟩ := id hs
  have hTs : s.TypeIs (.ref sl) "slice" := ⟨os, hos, hcs⟩
  unfold getItem
  try with_reducible refine wpAny_holding ?_
  first | refine wpAny_bind (wpAny_pure ?_) | skip
  refine wpAny_bind (wpAny_sequenceKey ht.typeIs (by decide) ?_)
  refine wpAny_bind (wpAny_callSpecial?_slot (name := Str.ofString "__getitem__") ht.typeIs PyProof.Rows.slot_tuple_getitem
    (wpAny_call_entry PyProof.Rows.slot_tuple_getitem ht.typeIs entry_tuple_getitem ?_ (args_tuple_getitem _ _)))
  show wpAny _ _ (Builtin.Tuple.tupleItemsOf (.ref t) >>= _) _ _ s
  refine wpAny_bind (tupleItemsOf_ ht ?_)
  refine wpAny_bind (wpAny_typeOf hTs ?_)
  rw [if_pos (by decide)]
  refine wpAny_bind (applied_rev hs pl pu ps ?_)
  have hno : ¬ (((items.size : Int) - 1 == 0 && (-1 : Int) == 1 && items.size == items.size) = true) := by simp
  show wpAny _ _ (if ((items.size : Int) - 1 == 0 && (-1 : Int) == 1 && items.size == items.size) = true then _ else _) _ _ s
  rw [if_neg hno, pick_rev]
  first
    | exact wpAny_bind (m := Builtin.Tuple.tupleExact _) (wpAny_newObj_type (wpAny_pure ⟨_, rfl, wpAny_pure h⟩) htake)
    | exact wpAny_bind (m := Builtin.Tuple.tupleExact _) (wpAny_newObj_type (wpAny_bind (wpAny_pure (wpAny_pure ⟨_, rfl, wpAny_pure h⟩))) htake)
    | exact wpAny_bind (wpAny_bind (m := Builtin.Tuple.tupleExact _) (wpAny_newObj_type (wpAny_pure (wpAny_pure ⟨_, rfl, wpAny_pure h⟩)) htake))
    | exact wpAny_bind (wpAny_bind (m := Builtin.Tuple.tupleExact _) (wpAny_newObj_type (wpAny_pure ⟨_, rfl, wpAny_pure h⟩) htake))
end
def tRevA (K : PySem.W.Frag) (te : TE) : TE := fun σ H Q => te σ H fun x H1 => ∃ a xs, x = .ref a ∧ ((SqL K H1 a xs ∧ ∀ p, H1 p = none → Q (.ref p) (upd H1 p (.lst xs.reverse))) ∨ (SqT K H1 a xs ∧ ∀ p, H1 p = none → Q (.ref p) (upd H1 p (.tup xs.reverse))))
theorem pe_revA {X : Cx} {e : Expr} {te : TE} {k : Nat} {p1 p2 p3 pos : Pos} (he : PE X e te) : PE X (.Subscript e (.Slice none none (some (.UnaryOp .USub (.Constant (.int 1) k p1) p2)) p3) pos) (tRevA X.K te) := by
  refine ⟨fun pins s σ H Q I h => ?_⟩
  refine Subscript_ (thn (he.run pins s σ H _ I h) fun v s1 ⟨x, H1, I1, r1, a, xs, ex, q1⟩ => ?_)
  subst ex
  cases r1
  have hst : PO X (some (.UnaryOp .USub (.Constant (.int 1) k p1) p2)) (tPart (tUn (rU fun i => .int (-i)) (tC (.int 1)))) := po_some (pe_un un_neg pe_int)
  refine wpAny_Slice (thn (po_none.run pins s1 σ H1 (fun o H2 => o = none ∧ H2 = H1) I1 ⟨rfl, rfl⟩) fun vl s2 ⟨l, H2, I2, pl, el, e2⟩ => ?_)
  subst el e2
  refine thn (po_none.run pins s2 σ H2 (fun o H3 => o = none ∧ H3 = H2) I2 ⟨rfl, rfl⟩) fun vu s3 ⟨u, H3, I3, pu, eu, e3⟩ => ?_
  subst eu e3
  refine thn (hst.run pins s3 σ H3 (fun o H4 => o = some (-1) ∧ H4 = H3) I3 ⟨1, rfl, -1, rfl, rfl, rfl⟩) fun vs s4 ⟨o, H4, I4, ps, eo, e4⟩ => ?_
  subst eo e4
  have I5 : Inv X pins σ H4 { s4 with heap := s4.heap.push { cls := .type "slice", data := .fields #[vl, vu, vs] } } := I4.kept (t' := s4.toks) fun b ob q => Heap.get?_push_of_some _ q
  show wpAny (model X.prog X.w) X.A (subscriptTail e (.Slice none none (some (.UnaryOp .USub (.Constant (.int 1) k p1) p2)) p3) (.ref a) (.ref s4.heap.objs.size)) (EP X pins σ Q) X.xe { s4 with heap := s4.heap.push { cls := .type "slice", data := .fields #[vl, vu, vs] } }
  rcases q1 with ⟨hx, q⟩ | ⟨hx, q⟩
  · obtain ⟨its, r, ht, hz⟩ := I5.list hx
    have hlen := r.length
    refine tail_any (ops := [.ref a, .ref s4.heap.objs.size]) ht.isList.typeIs (PySem.slot_list_getitem.lookup) ?_ (by with_unfolding_all rfl)
    refine wpAny_getItem_list_slice ht.isList (Heap.IsSliceOf.new _ vl vu vs) pl pu ps (by decide) ?_ (by rw [List.size_toArray]; omega)
    rw [PySem.W.krv_pick]
    refine ⟨.ref _, _, I5.laid (t' := s4.toks) (o := .lst xs.reverse) (fun b ob q => Heap.get?_push_of_some _ q) (Nat.le_refl _) ?_, rfl, q _ (I5.hok.fresh (Nat.le_refl _))⟩
    exact ⟨by rw [List.length_reverse]; exact hz, _, 0, r.reverse, Heap.get?_push_size _ rfl⟩
  · obtain ⟨its, r, ht, hz⟩ := I5.tuple hx
    have hlen := r.length
    refine tail_any (ops := [.ref a, .ref s4.heap.objs.size]) ht.typeIs (PyProof.Rows.slot_tuple_getitem.lookup) ?_ (by with_unfolding_all rfl)
    refine getItem_rev ht (Heap.IsSliceOf.new _ vl vu vs) pl pu ps ?_ (by rw [List.size_toArray]; omega)
    refine ⟨.ref _, _, I5.laid (t' := s4.toks) (o := .tup xs.reverse) (fun b ob q => Heap.get?_push_of_some _ q) (Nat.le_refl _) ?_, rfl, q _ (I5.hok.fresh (Nat.le_refl _))⟩
    exact ⟨by rw [List.length_reverse]; exact hz, its.reverse, r.reverse, ⟨_, Heap.get?_push_size _ rfl, rfl, 0, rfl⟩⟩
end RevQ
namespace Qz
open PySem PySem.Spec L2
open PyProof.Rows hiding St
def dRev : D → Option R
  | .list l => some (.o (.lst l.reverse))
  | .tuple l => some (.d (.tuple l.reverse))
  | _ => none
theorem RepL.reverse {K : PySem.W.Frag} {F : Hp} : ∀ (ds : List D) (xs : List V), RepL K F ds xs → RepL K F ds.reverse xs.reverse
  | [], _, h => by simp only [RepL] at h; subst h; exact .nil
  | d :: ds, _, h => by
    simp only [RepL] at h
    obtain ⟨x, r, rfl, h1, h2⟩ := h
    rw [List.reverse_cons, List.reverse_cons]
    exact RepL.append _ _ (RepL.reverse ds r h2) (.cons h1 .nil)
theorem re_rev {X : Cx} {e : Expr} {m : ME} {k : Nat} {p1 p2 p3 pos : Pos} (h : RE X e m) : RE X (.Subscript e (.Slice none none (some (.UnaryOp .USub (.Constant (.int 1) k p1) p2)) p3) pos) (mUn dRev m) := by
  obtain ⟨t1, p1, h1⟩ := h
  refine ⟨_, RevQ.pe_revA p1, fun σ H w s t Q r s' ok e k => ?_⟩
  simp only [mUn] at e
  split at e
  · cases e
  · rename_i r1 s1 e1
    split at e
    · cases e
    · rename_i x e2
      split at e
      · cases e
      · rename_i r' e3
        cases e
        refine h1 σ H w s t _ r1 _ ok e1 fun w1 H1 u t1 τ a1 a2 ok1 st1 sl1 rel1 => ?_
        have v := RelR.view ok1 rel1 e2
        have l := ok.slen ok1
        unfold dRev at e3
        split at e3
        · cases e3
          obtain ⟨a, ys, rfl, q1, q2⟩ := v.lst ok1.sub
          refine ⟨a, ys, rfl, .inl ⟨q1, fun p hp => ?_⟩⟩
          have st2 := give_step (n := s.a.length) (t0 := t1) (o := .lst ys.reverse) ok1 hp
          exact k (w1.give p t1) _ _ (t1 + 1) t1 (by omega) (Nat.lt_succ_self _) (give_ok ok1 hp) (st1.trans (st2.mono (by omega))) sl1 ⟨p, _, rfl, if_pos rfl, upd_same, RepL.reverse _ _ q2⟩
        · cases e3
          obtain ⟨a, ys, rfl, q1, q2⟩ := v.tup
          refine ⟨a, ys, rfl, .inr ⟨SqT.of (ok1.sub _ _ q1), fun p hp => ?_⟩⟩
          have st2 := lay_step (n := s.a.length) (t0 := t) (o := .tup ys.reverse) ok1 hp
          refine k (w1.lay p (.tup ys.reverse)) _ _ (t1 + 1) t1 (by omega) (Nat.lt_succ_self _) ((lay_ok ok1 hp).up (Nat.le_succ _)) (st1.trans st2) sl1 ?_
          simp only [RelR, Rep]
          exact ⟨p, _, rfl, upd_same, RepL.mono st2.F _ _ (RepL.reverse _ _ q2)⟩
        · cases e3

/-! ## the order of data -/
def ordOk (x y : D) : Bool := !x.hasDict && !y.hasDict && PySem.W.alike x y && !(isNoneD x) && decide (x.depth ≤ 100)
def dOrd (p : D → D → Bool) (x y : D) : Option R := if ordOk x y then some (.d (.bool (p x y))) else none
def rOrd (K : PySem.W.Frag) (p : D → D → Bool) : R2 := fun x y H Q => ∃ d e, Dp K H x d ∧ Dp K H y e ∧ PySem.W.alike d e = true ∧ d ≠ .none ∧ d.depth ≤ 100 ∧ Q (.bl (p d e)) H
def pLt (x y : D) : Bool := PySem.W.dataLt x y
def pGt (x y : D) : Bool := PySem.W.dataLt y x
def pLe (x y : D) : Bool := !PySem.W.dataLt y x
def pGe (x y : D) : Bool := !PySem.W.dataLt x y
def dLt : D → D → Option R
  | .int i, .int j => some (.d (.bool (decide (i < j))))
  | x, y => dOrd pLt x y
def dGt : D → D → Option R
  | .int i, .int j => some (.d (.bool (decide (j < i))))
  | x, y => dOrd pGt x y
def dLe : D → D → Option R
  | .int i, .int j => some (.d (.bool (decide (i ≤ j))))
  | x, y => dOrd pLe x y
def dGe : D → D → Option R
  | .int i, .int j => some (.d (.bool (decide (j ≤ i))))
  | x, y => dOrd pGe x y
section
variable {X : Cx} {k : Nat}
theorem Here.un (h : Here X k) : X.A.units + 100 < cLine := by have := h.rm.un; omega
theorem o_ltD (h : Here X k) : OpR X (compareOp .Lt) (rOrd X.K pLt) := by
  intro pins s σ H x y v u Q I rx ry ⟨d, e, hd, he, ha, hn, hz, q⟩
  obtain ⟨as, r1⟩ := Dp.reads I d x v hd rx
  obtain ⟨bs, r2⟩ := Dp.reads I e y u he ry
  exact PySem.W.lt_data r1 r2 ha hn (by have := h.un; omega) ⟨.bl _, H, I, rfl, q⟩
theorem o_gtD (h : Here X k) : OpR X (compareOp .Gt) (rOrd X.K pGt) := by
  intro pins s σ H x y v u Q I rx ry ⟨d, e, hd, he, ha, hn, hz, q⟩
  obtain ⟨as, r1⟩ := Dp.reads I d x v hd rx
  obtain ⟨bs, r2⟩ := Dp.reads I e y u he ry
  exact PySem.W.gt_data r1 r2 ha hn (by have := h.un; omega) ⟨.bl _, H, I, rfl, q⟩
theorem o_leD (h : Here X k) : OpR X (compareOp .LtE) (rOrd X.K pLe) := by
  intro pins s σ H x y v u Q I rx ry ⟨d, e, hd, he, ha, hn, hz, q⟩
  obtain ⟨as, r1⟩ := Dp.reads I d x v hd rx
  obtain ⟨bs, r2⟩ := Dp.reads I e y u he ry
  exact PySem.W.le_data r1 r2 ha hn (by have := h.un; omega) ⟨.bl _, H, I, rfl, q⟩
theorem o_geD (h : Here X k) : OpR X (compareOp .GtE) (rOrd X.K pGe) := by
  intro pins s σ H x y v u Q I rx ry ⟨d, e, hd, he, ha, hn, hz, q⟩
  obtain ⟨as, r1⟩ := Dp.reads I d x v hd rx
  obtain ⟨bs, r2⟩ := Dp.reads I e y u he ry
  exact PySem.W.ge_data r1 r2 ha hn (by have := h.un; omega) ⟨.bl _, H, I, rfl, q⟩
theorem s_ord {K : PySem.W.Frag} {p : D → D → Bool} : OpS K (rOrd K p) (dOrd p) := by
  intro w H σ s t u v x y r Q ok hx hy e k
  unfold dOrd at e
  split at e
  · rename_i hc
    cases e
    simp only [ordOk, Bool.and_eq_true, Bool.not_eq_true', decide_eq_true_eq] at hc
    obtain ⟨⟨⟨⟨h1, h2⟩, h3⟩, h4⟩, h5⟩ := hc
    exact ⟨x, y, hx.dp ok.sub h1, hy.dp ok.sub h2, h3, (fun z => by subst z; cases h4), h5, s_d ok k (by simp only [Rep])⟩
  · cases e
def rOrdI (K : PySem.W.Frag) (p : Int → Int → Bool) (q : D → D → Bool) : R2 := fun x y H Q => rI0 (fun i j => .bl (p i j)) x y H Q ∨ rOrd K q x y H Q
theorem s_ordI {K : PySem.W.Frag} {p : Int → Int → Bool} {q : D → D → Bool} {f : D → D → Option R} (h1 : ∀ i j, f (.int i) (.int j) = some (.d (.bool (p i j)))) (h2 : ∀ x y, (∀ i j, ¬ (x = .int i ∧ y = .int j)) → f x y = dOrd q x y) : OpS K (rOrdI K p q) f := by
  intro w H σ s t u v x y r Q ok hx hy e k
  by_cases hc : ∃ i j, x = .int i ∧ y = .int j
  · obtain ⟨i, j, rfl, rfl⟩ := hc
    rw [h1] at e
    cases e
    rw [hx.int, hy.int]
    exact .inl ⟨_, _, rfl, rfl, s_d ok k (by simp only [Rep])⟩
  · rw [h2 x y fun i j z => hc ⟨i, j, z⟩] at e
    exact .inr (s_ord w H σ s t u v x y r Q ok hx hy e k)
theorem o_lt (h : Here X k) : OpR X (compareOp .Lt) (rOrdI X.K (fun i j => decide (i < j)) pLt) := op_lt.or (o_ltD h)
theorem o_gt (h : Here X k) : OpR X (compareOp .Gt) (rOrdI X.K (fun i j => decide (j < i)) pGt) := op_gt.or (o_gtD h)
theorem o_le (h : Here X k) : OpR X (compareOp .LtE) (rOrdI X.K (fun i j => decide (i ≤ j)) pLe) := op_le.or (o_leD h)
theorem o_ge (h : Here X k) : OpR X (compareOp .GtE) (rOrdI X.K (fun i j => decide (j ≤ i)) pGe) := op_ge.or (o_geD h)
theorem s_lt {K : PySem.W.Frag} : OpS K (rOrdI K (fun i j => decide (i < j)) pLt) dLt := s_ordI (fun _ _ => rfl) fun x y h => by
  unfold dLt; split
  · exact absurd ⟨rfl, rfl⟩ (h _ _)
  · rfl
theorem s_gt {K : PySem.W.Frag} : OpS K (rOrdI K (fun i j => decide (j < i)) pGt) dGt := s_ordI (fun _ _ => rfl) fun x y h => by
  unfold dGt; split
  · exact absurd ⟨rfl, rfl⟩ (h _ _)
  · rfl
theorem s_le {K : PySem.W.Frag} : OpS K (rOrdI K (fun i j => decide (i ≤ j)) pLe) dLe := s_ordI (fun _ _ => rfl) fun x y h => by
  unfold dLe; split
  · exact absurd ⟨rfl, rfl⟩ (h _ _)
  · rfl
theorem s_ge {K : PySem.W.Frag} : OpS K (rOrdI K (fun i j => decide (j ≤ i)) pGe) dGe := s_ordI (fun _ _ => rfl) fun x y h => by
  unfold dGe; split
  · exact absurd ⟨rfl, rfl⟩ (h _ _)
  · rfl

/-! ## a op b op c -/
def mChain (f g : D → D → Option R) (m1 m2 m3 : ME) : ME := fun s => match m1 s with
  | .no => .no
  | .ok r1 s1 => match m2 s1 with
    | .no => .no
    | .ok r2 s2 => match view s2 r1, view s2 r2 with
      | some x, some y => match f x y with
        | some (.d (.bool false)) => .ok (.d (.bool false)) s2
        | some (.d (.bool true)) => match m3 s2 with
          | .no => .no
          | .ok r3 s3 => match view s3 r2, view s3 r3 with
            | some y', some z => match g y' z with
              | some r => .ok r s3
              | none => .no
            | _, _ => .no
        | _ => .no
      | _, _ => .no
theorem chain_snd {K : PySem.W.Frag} {t1 t2 t3 : TE} {rd rd' : R2} {f g : D → D → Option R} {m1 m2 m3 : ME} (h1 : SndE K t1 m1) (h2 : SndE K t2 m2) (h3 : SndE K t3 m3) (hf : OpS K rd f) (hg : OpS K rd' g) : SndE K (tChain rd rd' t1 t2 t3) (mChain f g m1 m2 m3) := by
  intro σ H w s t Q r s' ok e k
  simp only [mChain] at e
  split at e
  · cases e
  · rename_i r1 sa e1
    split at e
    · cases e
    · rename_i r2 sb e2
      refine h1 σ H w s t _ r1 sa ok e1 fun w1 H1 u t1 τ1 a1 a2 ok1 st1 sl1 rel1 => ?_
      refine h2 σ H1 w1 sa t1 _ r2 sb ok1 e2 fun w2 H2 v t2 τ2 b1 b2 ok2 st2 sl2 rel2 => ?_
      have l := ok.slen ok1
      have l2 := ok.slen ok2
      have tN := ok.tN
      have rel1' := RelR.keep ok1 rel1 st2 (by omega) (by omega) sl2
      rw [l] at st2
      have st12 := st1.trans (st2.mono (by omega))
      split at e
      · rename_i x y e3 e4
        split at e
        · rename_i e5
          cases e
          refine hf w2 H2 σ _ t2 u v x y _ _ ok2 (RelR.view ok2 rel1' e3) (RelR.view ok2 rel2 e4) e5 fun w3 H3 z ok3 st3 rel3 => ?_
          have rel3' := rel3
          simp only [RelR, Rep] at rel3'
          rw [l2] at st3
          exact ⟨false, rel3', iteF (k w3 H3 _ (t2 + 1) t2 (by omega) (Nat.lt_succ_self _) ok3 (st12.trans (st3.mono (by omega))) (sl1.trans sl2) (by simp only [RelR, Rep]))⟩
        · rename_i e5
          split at e
          · cases e
          · rename_i r3 sc e6
            split at e
            · rename_i y' z e7 e8
              split at e
              · rename_i r' e9
                cases e
                refine hf w2 H2 σ _ t2 u v x y _ _ ok2 (RelR.view ok2 rel1' e3) (RelR.view ok2 rel2 e4) e5 fun w3 H3 z3 ok3 st3 rel3 => ?_
                simp only [RelR, Rep] at rel3
                refine ⟨true, rel3, iteT ?_⟩
                have rel2a := RelR.keep ok2 rel2 st3 (by omega) (by omega) .refl
                refine h3 σ H3 w3 sb (t2 + 1) _ r3 _ ok3 e6 fun w4 H4 v4 t4 τ4 c1 c2 ok4 st4 sl4 rel4 => ?_
                have rel2b := RelR.keep ok3 rel2a st4 (by omega) (by omega) sl4
                have l4 := ok.slen ok4
                refine hg w4 H4 σ _ t4 v v4 y' z r Q ok4 (RelR.view ok4 rel2b e7) (RelR.view ok4 rel4 e8) e9 fun w5 H5 z5 ok5 st5 rel5 => ?_
                rw [l2] at st3 st4
                rw [l4] at st5
                exact k w5 H5 z5 (t4 + 1) t4 (by omega) (Nat.lt_succ_self _) ok5 ((st12.trans (st3.mono (by omega))).trans ((st4.mono (by omega)).trans (st5.mono (by omega)))) ((sl1.trans sl2).trans sl4) rel5
              · cases e
            · cases e
        · cases e
      · cases e
variable {a b c : Expr} {op op' : CmpOp} {pos : Pos} {rd rd' : R2} {f g : D → D → Option R} {m1 m2 m3 : ME}
theorem re_chain (ho : OpR X (compareOp op) rd) (ho' : OpR X (compareOp op') rd') (hf : OpS X.K rd f) (hg : OpS X.K rd' g) (ha : RE X a m1) (hb : RE X b m2) (hc : RE X c m3) (hm : lastMarks [op, op'] [b, c] = false := by with_unfolding_all rfl) :
    RE X (.Compare a [op, op'] [b, c] pos) (mChain f g m1 m2 m3) := by
  obtain ⟨t1, p1, s1⟩ := ha
  obtain ⟨t2, p2, s2⟩ := hb
  obtain ⟨t3, p3, s3⟩ := hc
  exact ⟨_, pe_chain ho ho' p1 p2 p3 hm, chain_snd s1 s2 s3 hf hg⟩
theorem rt_chain (ho : OpR X (compareOp op) rd) (ho' : OpR X (compareOp op') rd') (hf : OpS X.K rd f) (hg : OpS X.K rd' g) (ha : RE X a m1) (hb : RE X b m2) (hc : RE X c m3) (hm : lastMarks [op, op'] [b, c] = false := by with_unfolding_all rfl) :
    RT X (.Compare a [op, op'] [b, c] pos) (mB (mChain f g m1 m2 m3)) := by
  obtain ⟨t1, p1, s1⟩ := ha
  obtain ⟨t2, p2, s2⟩ := hb
  obtain ⟨t3, p3, s3⟩ := hc
  exact ⟨_, pt_chain ho ho' p1 p2 p3 hm, b_ok (chain_snd s1 s2 s3 hf hg)⟩
end
end Qz
namespace Qz
open PySem PySem.Spec L2
open PyProof.Rows hiding St

/-! ## target = value -/
def mAsg (m : ME) (g : D → S → Option S) : MS := fun s => match m s with
  | .no => .no
  | .ok r s1 => match take1 s1 r with
    | none => .no
    | some (d, s2) => match g d s2 with
      | none => .no
      | some s3 => .ok .nx s3
theorem rs_asg {X : Cx} {tg e : Expr} {m : ME} {g : D → S → Option S} {ws : List Nat} {pos : Pos} (he : RE X e m) (hg : RG X tg g ws) (hs : swapsWithSole [tg] e pos.line X.env = pure false := by rfl) (hw : swappedStores [tg] e X.env = pure none := by rfl)
    (h1 : (assignEach [tg] X.env).map (·.2) = [assign tg X.env] := by rfl) : RS X (.Assign [tg] e pos) (mAsg m g) := by
  obtain ⟨t1, p1, s1⟩ := he
  obtain ⟨t2, p2, s2⟩ := hg
  refine ⟨_, ps_asg p1 p2 hs hw h1, fun σ H w s D f s' ok e k => ?_⟩
  simp only [mAsg] at e
  split at e
  · cases e
  · rename_i r sa e1
    split at e
    · cases e
    · rename_i d sb e2
      split at e
      · cases e
      · rename_i sc e3
        cases e
        refine s1 σ H w s _ _ r sa ok e1 fun w1 H1 x t' τ a1 a2 ok1 st1 sl1 rel1 => ?_
        have hl := ok.slen ok1
        obtain ⟨w2, ok2, st2, rep, sl2, l2, _⟩ := take1_ok (t0 := s.a.length) ok1 rel1 e2 a1 (by omega)
        rw [hl] at st2 l2
        refine s2 d x σ H1 w2 sb _ t' s.a.length _ ok2 l2 rep e3 fun σ3 ok3 l3 sl3 wr3 => ?_
        exact k.nx rfl σ3 _ H1 (drop_ok ok3 l3) l3 ((st1.trans st2).trans drop_step)

/-! ## a, b = x, y; a, b, c = x, y, z: what is new stays its name's own -/
def norms : S → List R → Option (List R × S)
  | s, [] => some ([], s)
  | s, r :: rs => match (match r with
      | .sl i => (take1 s (.sl i)).map fun p => (R.d p.1, p.2)
      | r => some (r, s)) with
    | none => none
    | some (q, s1) => match norms s1 rs with
      | none => none
      | some (qs, s2) => some (q :: qs, s2)
def NoSlot : R → Prop
  | .sl _ => False
  | _ => True
def Wd.retag (w : Wd) (τ i : Nat) : Wd := { w with O := fun b => if w.O b = some τ then some i else w.O b }
def put1 (i : Nat) (r : R) (s : S) : S := { s with a := s.a.set i (some r) }
def puts : List Nat → List R → S → Option S
  | [], [], s => some s
  | i :: is, r :: rs, s => if s.a.length ≤ i then none else puts is rs (put1 i r s)
  | _, _, _ => none
def setAll : St → List Nat → List V → St
  | σ, i :: is, v :: vs => setAll (σ.set i (some v)) is vs
  | σ, _, _ => σ
def mPar (is : List Nat) (ms : MA) : MS := fun s => match ms s with
  | .no => .no
  | .ok rs s1 => match norms s1 rs with
    | none => .no
    | some (qs, s2) => match puts is qs s2 with
      | none => .no
      | some s3 => .ok .nx s3
section
variable {K : PySem.W.Frag} {t t0 : Nat} {H : Hp} {σ : St}
theorem norms_ok {hi : Nat} : ∀ (rs : List R) (us : List V) (qs : List R) (s s' : S) (w : Wd) (τ : Nat), OKs K w H σ s t → RelRs K w H σ s hi τ rs us → norms s rs = some (qs, s') → t0 ≤ τ → s.a.length ≤ t0 →
    ∃ w', OKs K w' H σ s' t ∧ Step s.a.length t0 w H w' H ∧ RelRs K w' H σ s' hi τ qs us ∧ (∀ q ∈ qs, NoSlot q) ∧ Slotted s s' ∧ s'.a.length = s.a.length ∧ w'.B = w.B ∧ (∀ a i, s.a.length ≤ i → i < τ → w.O a = some i → w'.O a = some i)
  | [], _, _, s, _, w, _, ok, h, e, _, _ => by
    cases e
    exact ⟨w, ok, .refl, h, by simp, .refl, rfl, rfl, fun _ _ _ _ q => q⟩
  | r :: rs, _, _, s, s', w, τ, ok, ⟨x, q, τ2, rfl, a1, a2, h1, h2⟩, e, ht, hn => by
    have gen : ∀ (r1 : R) (s1 : S) (w1 : Wd), NoSlot r1 → OKs K w1 H σ s1 t → Step s.a.length t0 w H w1 H → RelR K w1 H σ s1 τ2 r1 x → Slotted s s1 → s1.a.length = s.a.length → w1.B = w.B → RelRs K w1 H σ s1 hi (τ2 + 1) rs q → (∀ a i, s.a.length ≤ i → i ≠ τ2 ∨ True → w.O a = some i → i < τ → w1.O a = some i) → (∀ a, w1.O a = some τ2 → True) →
        ∀ qs2, norms s1 rs = some (qs2, s') → ∃ w', OKs K w' H σ s' t ∧ Step s.a.length t0 w H w' H ∧ RelRs K w' H σ s' hi τ (r1 :: qs2) (x :: q) ∧ (∀ q ∈ r1 :: qs2, NoSlot q) ∧ Slotted s s' ∧ s'.a.length = s.a.length ∧ w'.B = w.B ∧ (∀ a i, s.a.length ≤ i → i < τ → w.O a = some i → w'.O a = some i) := by
      intro r1 s1 w1 ns ok1 st1 rel1 sl1 l1 hB1 h2' hO1 _ qs2 e2
      obtain ⟨w2, ok2, st2, rel2, ns2, sl2, l2, B2, hO2⟩ := norms_ok rs q qs2 s1 s' w1 (τ2 + 1) ok1 h2' e2 (by omega) (by omega)
      rw [l1] at st2
      refine ⟨w2, ok2, st1.trans st2, ⟨x, q, τ2, rfl, a1, a2, ?_, rel2⟩, fun z hz => ?_, sl1.trans sl2, l2.trans l1, B2.trans hB1, fun a i h3 h4 h5 => hO2 a i (by omega) (by omega) (hO1 a i h3 (.inr trivial) h5 h4)⟩
      · exact RelR.other ok1 rel1 st2.F B2 (fun a ha => hO2 a τ2 (by omega) (Nat.lt_succ_self _) ha) sl2
      · rcases List.mem_cons.mp hz with rfl | hz
        · exact ns
        · exact ns2 z hz
    cases r with
    | sl j =>
      simp only [norms] at e
      cases e1 : take1 s (.sl j) with
      | none => rw [e1] at e; cases e
      | some p =>
        obtain ⟨y, s1⟩ := p
        rw [e1] at e
        simp only [Option.map_some] at e
        split at e
        · cases e
        · rename_i qs2 s2 e2
          cases e
          obtain ⟨w1, ok1, st1, p1, sl1, l1, o1⟩ := take1_ok (t0 := t0) ok h1 e1 (by omega) hn
          have hB := take1_B (K := K) st1 fun p g z => ⟨_, (ok1.box p g z).1.hp⟩
          have h2' := RelRs.other ok st1.F hB sl1 rs q (τ2 + 1) h2 fun a i hi => o1 a i (by omega) (by omega)
          exact gen (.d y) s1 w1 trivial ok1 st1 p1 sl1 l1 hB h2' (fun a i h3 _ h5 h6 => o1 a i h3 (by omega) h5) (fun _ _ => trivial) _ e2
    | d y =>
      simp only [norms] at e
      split at e
      · cases e
      · rename_i qs2 s2 e2
        cases e
        exact gen (.d y) s w trivial ok .refl h1 .refl rfl rfl h2 (fun a i _ _ h5 _ => h5) (fun _ _ => trivial) _ e2
    | o c =>
      simp only [norms] at e
      split at e
      · cases e
      · rename_i qs2 s2 e2
        cases e
        exact gen (.o c) s w trivial ok .refl h1 .refl rfl rfl h2 (fun a i _ _ h5 _ => h5) (fun _ _ => trivial) _ e2
    | bx =>
      simp only [norms] at e
      split at e
      · cases e
      · rename_i qs2 s2 e2
        cases e
        exact gen .bx s w trivial ok .refl h1 .refl rfl rfl h2 (fun a i _ _ h5 _ => h5) (fun _ _ => trivial) _ e2
/-- one of them in its place -/
theorem put_ok {w : Wd} {s : S} {i τ n : Nat} {r : R} {x : V} (ok : OKs K w H σ s t) (hn : s.a.length = n) (hi : i < n) (hτ : n ≤ τ) (ns : NoSlot r) (h : RelR K w H σ s τ r x) :
    OKs K (w.retag τ i) H (σ.set i (some x)) (put1 i r s) t := by
  have tN := ok.tN
  refine ⟨ok.sub, by simp [ok.len, put1], fun k q v h1 h2 => ?_, fun a k e => ?_, by simpa [put1] using tN, fun p g e => ?_, ok.nob⟩
  · rcases set_get h1 with ⟨rfl, rfl⟩ | ⟨hk, h3⟩
    · have hv : v = some x := by
        rcases set_get h2 with ⟨_, e⟩ | ⟨e, _⟩
        · exact e
        · exact absurd rfl e
      subst hv
      have at' : ∀ a, w.O a = some τ → (w.retag τ k).O a = some k := fun a ha => if_pos ha
      cases r with
      | d y => exact ⟨x, rfl, h⟩
      | o c =>
        refine ⟨x, rfl, ?_⟩
        cases c with
        | lst ds => obtain ⟨a, xs, e, q1, q2, q3⟩ := h; exact ⟨a, xs, e, at' a q1, q2, q3⟩
        | dK ds => obtain ⟨a, xs, e, q1, q2, q3⟩ := h; exact ⟨a, xs, e, at' a q1, q2, q3⟩
        | dT ds => obtain ⟨a, xs, e, q1, q2, q3⟩ := h; exact ⟨a, xs, e, at' a q1, q2, q3⟩
      | sl j => exact ns.elim
      | bx => obtain ⟨p, g, e, rfl⟩ := h; exact ⟨p, g, e, rfl⟩
    · have h4 : σ[k]? = some v := by
        rcases set_get h2 with ⟨e, _⟩ | ⟨_, e⟩
        · exact absurd e hk
        · exact e
      have hkl := (List.getElem?_eq_some_iff.mp h3).1
      exact SlR.mono (ok.sl k q v h3 h4) (Same.refl _) rfl (fun a ha => ⟨by
        show (if w.O a = some τ then some i else w.O a) = some k
        rw [if_neg (by rw [ha]; simp; omega)]; exact ha, rfl⟩)
  · have e' : (if w.O a = some τ then some i else w.O a) = some k := e
    by_cases hb : w.O a = some τ
    · rw [if_pos hb] at e'; cases e'
      obtain ⟨h1, h2, h3⟩ := ok.own a τ hb
      exact ⟨h1, h2, by omega⟩
    · rw [if_neg hb] at e'
      exact ok.own a k e'
  · obtain ⟨b, o1, o2⟩ := ok.box p g e
    refine ⟨b, ?_, ?_⟩
    · show (if w.O p = some τ then some i else w.O p) = none
      rw [if_neg (by rw [o1]; simp)]; exact o1
    · show (if w.O g = some τ then some i else w.O g) = none
      rw [if_neg (by rw [o2]; simp)]; exact o2
theorem retag_step {w : Wd} {n τ i : Nat} (hi : i < n) : Step n n w H (w.retag τ i) H where
  F := Same.refl _
  keep := fun _ _ h _ _ => h
  there := fun a o h => ⟨o, h⟩
  tmp := fun a i h h1 h2 => by omega
  newF := fun a h => .inl h
  newO := fun a k h => .inr (fun z => by
    have h' : (if w.O a = some τ then some i else w.O a) = some k := h
    rw [z] at h'
    rw [if_neg (by simp)] at h'; cases h')
  newT := fun a k h hk => by
    have h' : (if w.O a = some τ then some i else w.O a) = some k := h
    by_cases z : w.O a = some τ
    · rw [if_pos z] at h'; cases h'; omega
    · rw [if_neg z] at h'; exact .inr h'
  B := .inl rfl
theorem puts_ok {hi n : Nat} : ∀ (is : List Nat) (qs : List R) (us : List V) (σ : St) (s s' : S) (w : Wd) (τ : Nat), OKs K w H σ s t → s.a.length = n → n ≤ τ → RelRs K w H σ s hi τ qs us → (∀ q ∈ qs, NoSlot q) → puts is qs s = some s' →
    ∃ w', OKs K w' H (setAll σ is us) s' t ∧ s'.a.length = n ∧ Step n n w H w' H ∧ us.length = is.length
  | [], [], us, σ, s, _, w, τ, ok, hn, _, rel, _, e => by
    cases e
    simp only [RelRs] at rel
    subst rel
    exact ⟨w, ok, hn, .refl, rfl⟩
  | [], _ :: _, _, _, _, _, _, _, _, _, _, _, _, e => by cases e
  | _ :: _, [], _, _, _, _, _, _, _, _, _, _, _, e => by cases e
  | i :: is, r :: qs, _, σ, s, s', w, τ, ok, hn, ht, ⟨x, q, τ2, rfl, a1, a2, h1, h2⟩, ns, e => by
    simp only [puts] at e
    split at e
    · cases e
    · rename_i hii
      have ok1 := put_ok (i := i) ok hn (by omega) (by omega) (ns r List.mem_cons_self) h1
      have rel2 : RelRs K (w.retag τ2 i) H (σ.set i (some x)) (put1 i r s) hi (τ2 + 1) qs q := by
        have go : ∀ (qs : List R) (us : List V) (τ : Nat), τ2 < τ → RelRs K w H σ s hi τ qs us → (∀ q ∈ qs, NoSlot q) → RelRs K (w.retag τ2 i) H (σ.set i (some x)) (put1 i r s) hi τ qs us := by
          intro qs
          induction qs with
          | nil => intro us τ _ h _; exact h
          | cons z zs ih =>
            rintro _ τ hτ ⟨y, q, τ3, rfl, b1, b2, g1, g2⟩ ns
            refine ⟨y, q, τ3, rfl, b1, b2, ?_, ih q (τ3 + 1) (by omega) g2 fun y hy => ns y (List.mem_cons_of_mem _ hy)⟩
            have keep : ∀ a, w.O a = some τ3 → (w.retag τ2 i).O a = some τ3 := fun a ha => by
              show (if w.O a = some τ2 then some i else w.O a) = some τ3
              rw [if_neg (by rw [ha]; simp; omega)]; exact ha
            cases z with
            | d y => exact g1
            | o c =>
              cases c with
              | lst ds => obtain ⟨a, xs, e, q1, q2, q3⟩ := g1; exact ⟨a, xs, e, keep a q1, q2, q3⟩
              | dK ds => obtain ⟨a, xs, e, q1, q2, q3⟩ := g1; exact ⟨a, xs, e, keep a q1, q2, q3⟩
              | dT ds => obtain ⟨a, xs, e, q1, q2, q3⟩ := g1; exact ⟨a, xs, e, keep a q1, q2, q3⟩
            | sl j => exact (ns _ List.mem_cons_self).elim
            | bx => exact g1
        exact go qs q (τ2 + 1) (Nat.lt_succ_self _) h2 fun y hy => ns y (List.mem_cons_of_mem _ hy)
      obtain ⟨w', ok2, l2, st2, lu⟩ := puts_ok (n := n) is qs q (σ.set i (some x)) (put1 i r s) s' (w.retag τ2 i) (τ2 + 1) ok1 (by simp [put1, hn]) (by omega) rel2 (fun y hy => ns y (List.mem_cons_of_mem _ hy)) e
      exact ⟨w', ok2, l2, (retag_step (by omega)).trans st2, by simp [lu]⟩
/-- the reading of a statement that stores at several places -/
theorem par_snd {ta : TA} {ts : TS} {is : List Nat} {ms : MA} (h : SndA K ta ms) (hts : ∀ (D : Ends) (σ : St) (H : Hp), (ta σ H fun vs H1 => vs.length = is.length ∧ D.nx (setAll σ is vs) H1) → ts D σ H) : SndS K ts (mPar is ms) := by
  intro σ H w s D f s' ok e k
  simp only [mPar] at e
  split at e
  · cases e
  · rename_i rs sa e1
    split at e
    · cases e
    · rename_i qs sb e2
      split at e
      · cases e
      · rename_i sc e3
        cases e
        refine hts D σ H (h σ H w s s.a.length _ rs sa ok e1 fun w1 H1 us t1 a1 ok1 st1 sl1 rel1 => ?_)
        have l1 := ok.slen ok1
        obtain ⟨w2, ok2, st2, rel2, ns, sl2, l2, _, _⟩ := norms_ok (t0 := s.a.length) rs us qs sa sb w1 s.a.length ok1 rel1 e2 (Nat.le_refl _) (by omega)
        rw [l1] at st2 l2
        obtain ⟨w3, ok3, l3, st3, lu⟩ := puts_ok is qs us σ sb _ w2 s.a.length ok2 l2 (Nat.le_refl _) rel2 ns e3
        exact ⟨lu, k.nx rfl _ _ H1 (drop_ok ok3 l3) l3 (((st1.trans st2).trans st3).trans drop_step)⟩
end
/-- the reading is monotone -/
def MonoA (ta : TA) : Prop := ∀ (σ : St) (H : Hp) (Q R : List V → Hp → Prop), (∀ vs H1, Q vs H1 → R vs H1) → ta σ H Q → ta σ H R
def taC (K : PySem.W.Frag) (m : MA) : TA := fun σ H Q => ∃ (w : Wd) (s : S) (t : Nat) (rs : List R) (s' : S), OKs K w H σ s t ∧ m s = .ok rs s' ∧
  ∀ w' H' xs t', t ≤ t' → OKs K w' H' σ s' t' → Step s.a.length t w H w' H' → Slotted s s' → RelRs K w' H' σ s' t' t rs xs → Q xs H'
theorem mono_taC {K : PySem.W.Frag} {m : MA} : MonoA (taC K m) := fun σ H Q R h ⟨w, s, t, rs, s', ok, e, k⟩ => ⟨w, s, t, rs, s', ok, e, fun w' H' xs t' a b c d e => h xs H' (k w' H' xs t' a b c d e)⟩
theorem RA.pa {X : Cx} {es : List Expr} {ms : MA} (h : RA X es ms) : PA X es (taC X.K ms) := by
  obtain ⟨ta, p, q⟩ := h
  exact ⟨fun pos pins s σ H Q I ⟨w, s1, t, r, s', ok, e1, k⟩ => p.run pos pins s σ H Q I (q σ H w s1 t Q r s' ok e1 k)⟩
theorem snd_taC {K : PySem.W.Frag} {m : MA} : SndA K (taC K m) m := fun σ H w s t Q rs s' ok e k => ⟨w, s, t, rs, s', ok, e, k⟩
section
variable {X : Cx} {a b c : Expr} {ms : MA} {x y z : Str} {px py pz pt pos pt2 : Pos} {kt k2 : Nat}
theorem rs_par (i j : Nat) (hc : X.calm = true) (hN : X.N.Nodup) (ha : RA X [a, b] ms) (hi : X.N[i]? = some x := by rfl) (hj : X.N[j]? = some y := by rfl) (hij : i ≠ j := by decide) (hx : X.env.scope.names.lookup x = some .local := by rfl) (hy : X.env.scope.names.lookup y = some .local := by rfl)
    (hw : swappedStores [.Tuple [.Name x px, .Name y py] kt pt] (.Tuple [a, b] k2 pt2) X.env = pure (some [x, y]) := by rfl) (hs : swapsWithSole [.Tuple [.Name x px, .Name y py] kt pt] (.Tuple [a, b] k2 pt2) pos.line X.env = pure false := by rfl) :
    RS X (.Assign [.Tuple [.Name x px, .Name y py] kt pt] (.Tuple [a, b] k2 pt2) pos) (mPar [i, j] ms) :=
  ⟨_, ps_par hc hN hi hj hij hx hy ha.pa hw hs, par_snd snd_taC fun D σ H h => mono_taC σ H _ _ (fun vs H1 ⟨hl, q⟩ => by
    match vs, hl with
    | [u, v], _ => exact ⟨u, v, rfl, q⟩) h⟩
theorem rs_par3 (i j l : Nat) (hc : X.calm = true) (hN : X.N.Nodup) (ha : RA X [a, b, c] ms) (hi : X.N[i]? = some x := by rfl) (hj : X.N[j]? = some y := by rfl) (hl : X.N[l]? = some z := by rfl) (hij : i ≠ j := by decide) (hil : i ≠ l := by decide) (hjl : j ≠ l := by decide)
    (hx : X.env.scope.names.lookup x = some .local := by rfl) (hy : X.env.scope.names.lookup y = some .local := by rfl) (hz : X.env.scope.names.lookup z = some .local := by rfl)
    (hw : swappedStores [.Tuple [.Name x px, .Name y py, .Name z pz] kt pt] (.Tuple [a, b, c] k2 pt2) X.env = pure (some [x, y, z]) := by rfl) (hs : swapsWithSole [.Tuple [.Name x px, .Name y py, .Name z pz] kt pt] (.Tuple [a, b, c] k2 pt2) pos.line X.env = pure false := by rfl) :
    RS X (.Assign [.Tuple [.Name x px, .Name y py, .Name z pz] kt pt] (.Tuple [a, b, c] k2 pt2) pos) (mPar [i, j, l] ms) :=
  ⟨_, ps_par3 hc hN hi hj hl hij hil hjl hx hy hz ha.pa hw hs, par_snd snd_taC fun D σ H h => mono_taC σ H _ _ (fun vs H1 ⟨hl, q⟩ => by
    match vs, hl with
    | [u, v, w], _ => exact ⟨u, v, w, rfl, q⟩) h⟩
end

/-! ## list(d), d a dict by tuples -/
section
variable {K : PySem.W.Frag} {t t0 n : Nat} {w : Wd} {H : Hp} {σ : St} {s : S}
theorem adopt {b : Addr} {xs : List V} (ok : OKs K w H σ s t) (hb : H b = some (.tup xs)) : OKs K (w.lay b (.tup xs)) H σ s t ∧ Step n t0 w H (w.lay b (.tup xs)) H := by
  have sm : Same w.F (w.lay b (.tup xs)).F := fun a u e => by
    show upd w.F b (.tup xs) a = some u
    by_cases h : a = b
    · subst h
      rw [upd_same]
      have := ok.sub a u e
      rw [hb] at this; exact this
    · rw [upd_ne h]; exact e
  refine ⟨⟨fun a u e => ?_, ok.len, fun i q v h1 h2 => SlR.mono (ok.sl i q v h1 h2) sm rfl (fun a ha => ⟨ha, rfl⟩), fun a i e => ?_, ok.tN, fun p g e => ?_, ok.nob⟩, ⟨sm, fun _ _ h _ _ => h, fun a o h => ⟨o, h⟩, fun _ _ h _ _ => h, fun a h => ?_, fun a i h => .inr (by rw [show w.O a = some i from h]; simp), fun _ _ h _ => .inr h, .inl rfl⟩⟩
  · have e' : upd w.F b (.tup xs) a = some u := e
    by_cases h : a = b
    · subst h; rw [upd_same] at e'; rw [hb]; exact e'
    · rw [upd_ne h] at e'; exact ok.sub a u e'
  · obtain ⟨h1, ⟨u, h2, nt⟩, h3⟩ := ok.own a i e
    refine ⟨?_, ⟨u, h2, nt⟩, h3⟩
    show upd w.F b (.tup xs) a = none
    rw [upd_ne (fun z => by subst z; rw [hb] at h2; cases h2; exact nt xs rfl)]
    exact h1
  · obtain ⟨bo, o1, o2⟩ := ok.box p g e
    refine ⟨⟨?_, ?_, bo.ne, bo.hp, bo.hg⟩, o1, o2⟩
    · show upd w.F b (.tup xs) p = none
      rw [upd_ne (fun z => by subst z; have := bo.hp; rw [hb] at this; cases this)]; exact bo.fp
    · show upd w.F b (.tup xs) g = none
      rw [upd_ne (fun z => by subst z; have := bo.hg; rw [hb] at this; cases this)]; exact bo.fg
  · by_cases h' : a = b
    · subst h'; exact .inr (.inr (.inr (.inl ⟨xs, hb⟩)))
    · have h2 : upd w.F b (.tup xs) a ≠ none := h
      rw [upd_ne h'] at h2; exact .inl h2
def keysD (kvs : List (List Key × D)) : List D := kvs.map fun p => .tuple (p.1.map keyD)
theorem adopts : ∀ (kvs : List (List Key × D)) (ys : List (List Key × V)) (bs : List Addr) (w : Wd), OKs K w H σ s t → RepM K w.F kvs ys → IsKeys H ys bs → ∃ w', OKs K w' H σ s t ∧ Step n t0 w H w' H ∧ w'.O = w.O ∧ RepL K w'.F (keysD kvs) (bs.map V.ref)
  | [], _, _, w, ok, h, hk => by
    simp only [RepM] at h
    subst h
    cases hk
    exact ⟨w, ok, .refl, rfl, .nil⟩
  | (k, d) :: kvs, _, _, w, ok, ⟨x, r, e, h1, h2⟩, hk => by
    subst e
    cases hk with
    | @cons _ b _ bs hb hr =>
      obtain ⟨ok1, st1⟩ := adopt (n := n) (t0 := t0) ok hb
      obtain ⟨w2, ok2, st2, hO, rep⟩ := adopts kvs r bs _ ok1 (RepM.mono st1.F kvs r h2) hr
      refine ⟨w2, ok2, st1.trans st2, hO, .cons ?_ rep⟩
      simp only [Rep]
      exact ⟨b, _, rfl, st2.F _ _ upd_same, keys_rep k⟩
end
def viewT (s : S) : R → Option (List (List Key × D))
  | .o (.dT l) => some l
  | .sl i => match s.a[i]? with
    | some (some (.o (.dT l))) => some l
    | _ => none
  | _ => none
def mList (ms : MA) : ME := fun s => match ms s with
  | .no => .no
  | .ok rs s1 => match rs with
    | [r] => match viewT s1 r with
      | some l => .ok (.o (.lst (keysD l))) s1
      | none => match view s1 r with
        | some x => match fLst [x] with
          | some q => .ok q s1
          | none => .no
        | none => .no
    | _ => .no
def rListA (K : PySem.W.Frag) : List V → Hp → VK → Prop := fun xs H Q => (∃ p ys, xs = [.ref p] ∧ (SqL K H p ys ∨ SqT K H p ys) ∧ ∀ l, H l = none → Q (.ref l) (upd H l (.lst ys))) ∨
  ∃ d kvs, xs = [V.ref d] ∧ Rd H d (.dT kvs) ∧ ∀ p bs, H p = none → IsKeys H kvs bs → Q (.ref p) (upd H p (.lst (bs.map V.ref)))
section
variable {X : Cx} {e : Expr} {ms : MA} {p pos : Pos}
theorem viewT_ok {K : PySem.W.Frag} {t τ : Nat} {w : Wd} {H : Hp} {σ : St} {s : S} {r : R} {u : V} {l : List (List Key × D)} (ok : OKs K w H σ s t) (h : RelR K w H σ s τ r u) (e : viewT s r = some l) : ∃ a ys, u = .ref a ∧ H a = some (.dT ys) ∧ RepM K w.F l ys := by
  cases r with
  | d x => cases e
  | bx => cases e
  | o c =>
    cases c with
    | lst _ => cases e
    | dK _ => cases e
    | dT kvs =>
      cases e
      obtain ⟨a, ys, e1, _, h2, h3⟩ := h
      exact ⟨a, ys, e1, h2, h3⟩
  | sl i =>
    obtain ⟨q, h1, h2⟩ := h
    simp only [viewT, h1] at e
    split at e
    · rename_i q' l' hq
      cases e
      cases hq
      obtain ⟨v, e1, a, ys, e2, _, h4, h5⟩ := ok.sl i _ _ h1 h2
      cases e1
      exact ⟨a, ys, e2, h4, h5⟩
    · cases e
theorem list_snd {K : PySem.W.Frag} {ta : TA} (h : SndA K ta ms) : SndE K (fun σ H Q => ta σ H fun us H1 => rListA K us H1 Q) (mList ms) := by
  intro σ H w s t Q r s' ok e k
  simp only [mList] at e
  split at e
  · cases e
  · rename_i rs sa e1
    split at e
    · rename_i r1
      refine h σ H w s t _ _ sa ok e1 fun w1 H1 us t1 a1 ok1 st1 sl1 rel1 => ?_
      obtain ⟨u, q, τ, rfl, b1, b2, rel, rfl⟩ := rel1
      have l := ok.slen ok1
      split at e
      · rename_i kvs e2
        cases e
        obtain ⟨a, ys, rfl, h1, h2⟩ := viewT_ok ok1 rel e2
        refine .inr ⟨a, ys, rfl, .inl h1, fun p bs hp hk => ?_⟩
        obtain ⟨w2, ok2, st2, hO, rep⟩ := adopts (n := s.a.length) (t0 := t1) kvs ys bs w1 ok1 h2 hk
        exact k (w2.give p t1) _ _ (t1 + 1) t1 a1 (Nat.lt_succ_self _) (give_ok ok2 hp) (st1.trans ((st2.trans (give_step ok2 hp)).mono a1)) sl1 ⟨p, _, rfl, if_pos rfl, upd_same, rep⟩
      · split at e
        · rename_i x e3
          split at e
          · rename_i q e4
            cases e
            refine .inl (s_lst w1 H1 σ _ t1 [u] [x] r Q ok1 ⟨u, [], rfl, RelR.view ok1 rel e3, rfl⟩ e4 fun w2 H2 z ok2 st2 rel2 => ?_)
            rw [l] at st2
            exact k w2 H2 z (t1 + 1) t1 a1 (Nat.lt_succ_self _) ok2 (st1.trans (st2.mono a1)) sl1 rel2
          · cases e
        · cases e
    · cases e
theorem c_listA (hc : X.calm = true) : CallR X (.type "list") (rListA X.K) := call_list_of.or (call_list_dT hc)
theorem re_listA (hc : X.calm = true) (hm : X.mg "list" = none) (ha : RA X [e] ms) (hg : Gl X "list" := by rfl) (he : starEach [e] X.env = (false, eval e X.env) :: starEach [] X.env := by rfl) : RE X (.Call (.Name "list" p) [e] [] pos) (mList ms) := by
  obtain ⟨ta, p1, s1⟩ := ha
  exact ⟨_, pe_callTy (c_listA hc) hg hm (by decide +kernel) p1 (by decide) (by decide) he rfl, list_snd s1⟩
end
end Qz
namespace Qz
open PySem PySem.Spec L2
open PyProof.Rows hiding St

/-! ## {k: v, ..} -/
def flatP (ps : List (V × V)) : List V := ps.flatMap fun p => [p.1, p.2]
def SndP (K : PySem.W.Frag) (trs : List (TE × TE)) (ms : MA) : Prop := ∀ (σ : St) (H : Hp) (w : Wd) (s : S) (t : Nat) (Q : List (V × V) → Hp → Prop) (rs : List R) (s' : S), OKs K w H σ s t → ms s = .ok rs s' →
  (∀ w' H' ps t', t ≤ t' → OKs K w' H' σ s' t' → Step s.a.length t w H w' H' → Slotted s s' → RelRs K w' H' σ s' t' t rs (flatP ps) → Q ps H') → tPairs trs σ H Q
structure RP (X : Cx) (pos : Pos) (keys : List (Option Expr)) (values : List Expr) (ms : MA) : Prop where
  ex : ∃ trs, PPs X pos keys values trs ∧ SndP X.K trs ms
section
variable {X : Cx} {pos : Pos} {k v : Expr} {ks : List (Option Expr)} {vs : List Expr} {mk mv : ME} {ms : MA}
theorem rp_nil : RP X pos [] [] mNil := ⟨_, pps_nil, fun σ H w s t Q rs s' ok e kk => by
  cases e
  exact kk w H [] t (Nat.le_refl _) ok .refl .refl rfl⟩
theorem rp_cons (hk : RE X k mk) (hv : RE X v mv) (hr : RP X pos ks vs ms) : RP X pos (some k :: ks) (v :: vs) (mCons mk (mCons mv ms)) := by
  obtain ⟨t1, p1, s1⟩ := hk
  obtain ⟨t2, p2, s2⟩ := hv
  obtain ⟨t3, p3, s3⟩ := hr
  refine ⟨_, pps_cons p1 p2 p3, fun σ H w s t Q rs s' ok e kk => ?_⟩
  simp only [mCons] at e
  split at e
  · cases e
  · rename_i r1 sa e1
    split at e
    · cases e
    · rename_i rs2 sb e2
      cases e
      split at e2
      · cases e2
      · rename_i r2 sc e3
        split at e2
        · cases e2
        · rename_i rs3 sd e4
          cases e2
          refine s1 σ H w s t _ r1 sa ok e1 fun w1 H1 x t1 τ1 a1 a2 ok1 st1 sl1 rel1 => ?_
          refine s2 σ H1 w1 sa t1 _ r2 sc ok1 e3 fun w2 H2 y t2 τ2 b1 b2 ok2 st2 sl2 rel2 => ?_
          refine s3 σ H2 w2 sc t2 _ rs3 _ ok2 e4 fun w3 H3 ps t3 c1 ok3 st3 sl3 rel3 => ?_
          have l1 := ok.slen ok1
          have l2 := ok.slen ok2
          have tN := ok.tN
          have q1 := RelR.keep ok1 rel1 st2 (by omega) (by omega) sl2
          have q1' := RelR.keep ok2 q1 st3 (by omega) (by omega) sl3
          have q2 := RelR.keep ok2 rel2 st3 (by omega) (by omega) sl3
          rw [l1] at st2
          rw [l2] at st3
          refine kk w3 H3 ((x, y) :: ps) t3 (by omega) ok3 ((st1.trans (st2.mono (by omega))).trans (st3.mono (by omega))) ((sl1.trans sl2).trans sl3) ⟨x, y :: flatP ps, τ1, rfl, a1, by omega, q1', y, flatP ps, τ2, rfl, by omega, by omega, q2, RelRs.lo _ _ rel3 (by omega)⟩
end
def pairsK : List D → Option (List (Key × D))
  | [] => some []
  | k :: v :: r => match keyOf k with
    | none => none
    | some q => (pairsK r).map ((q, v) :: ·)
  | [_] => none
def dMerge (kvs more : List (Key × D)) : List (Key × D) := more.foldl (fun acc kv => dPut acc kv.1 kv.2) kvs
def mDisp (ms : MA) : ME := fun s => match ms s with
  | .no => .no
  | .ok rs s1 => match takes s1 rs with
    | none => .no
    | some (xs, s2) => match pairsK xs with
      | none => .no
      | some kvs => if kvs.length ≤ 15 then .ok (.o (.dK (dMerge [] kvs))) s2 else .no
section
variable {K : PySem.W.Frag} {F : Hp}
theorem pairsK_rep : ∀ (xs : List D) (ps : List (V × V)) (kvs : List (Key × D)), RepL K F xs (flatP ps) → pairsK xs = some kvs → ∃ ys : List (Key × V), ps = ys.map (fun kv => (kV kv.1, kv.2)) ∧ RepM K F kvs ys
  | [], ps, _, h, e => by
    cases e
    cases ps with
    | nil => exact ⟨[], rfl, rfl⟩
    | cons p ps => simp [flatP, RepL] at h
  | [_], _, _, _, e => by cases e
  | k :: v :: r, ps, _, h, e => by
    simp only [pairsK] at e
    split at e
    · cases e
    · rename_i q eq
      simp only [Option.map_eq_some_iff] at e
      obtain ⟨kvs, e2, rfl⟩ := e
      cases ps with
      | nil => simp [flatP, RepL] at h
      | cons p ps =>
        have h' : RepL K F (k :: v :: r) (p.1 :: p.2 :: flatP ps) := h
        simp only [RepL] at h'
        obtain ⟨_, _, e1, h1, _, _, e3, h2, h3⟩ := h'
        cases e1
        cases e3
        obtain ⟨ys, rfl, h4⟩ := pairsK_rep r ps kvs h3 e2
        refine ⟨(q, p.2) :: ys, ?_, p.2, ys, rfl, h2, h4⟩
        rw [List.map_cons, ← keyOf_rep eq h1]
theorem RepM.merge : ∀ (more : List (Key × D)) (ys : List (Key × V)) (kvs : List (Key × D)) (zs : List (Key × V)), RepM K F more ys → RepM K F kvs zs → RepM K F (dMerge kvs more) (mergeK zs ys)
  | [], _, _, _, h, h2 => by simp only [RepM] at h; subst h; exact h2
  | (k, d) :: more, _, _, _, ⟨x, r, e, h1, h3⟩, h2 => by
    subst e
    exact RepM.merge more r _ _ h3 (RepM.put h2 h1)
end
theorem re_disp {X : Cx} {pos : Pos} {keys : List (Option Expr)} {values : List Expr} {ms : MA} (h : RP X pos keys values ms) (hall : keys.all (·.isSome) = true := by rfl) (hl : keys.length = values.length := by rfl) (h0 : keys ≠ [] := by exact (fun h => nomatch h))
    (h15 : keys.length ≤ 15 := by decide) : RE X (.Dict keys values pos) (mDisp ms) := by
  obtain ⟨trs, p1, s1⟩ := h
  refine ⟨_, pe_disp p1 hall hl h0 h15, fun σ H w s t Q r s' ok e k => ?_⟩
  simp only [mDisp] at e
  split at e
  · cases e
  · rename_i rs sa e1
    split at e
    · cases e
    · rename_i xs sb e2
      split at e
      · cases e
      · rename_i kvs e3
        split at e
        · rename_i h15
          cases e
          intro p hp
          have tN := ok.tN
          have okg := give_ok (o := .dK []) ok hp
          have stg := give_step (n := s.a.length) (t0 := t) (o := .dK []) ok hp
          have hO : (w.give p t).O p = some t := if_pos rfl
          refine s1 σ _ (w.give p t) s (t + 1) _ rs sa okg e1 fun w2 H2 ps t2 a2 ok2 st2 sl2 rel2 => ?_
          have l2 := ok.slen ok2
          have hO2 := st2.tmp p t hO (by omega) (Nat.lt_succ_self _)
          have nb : ¬ isBox (w.give p t).B p := fun ⟨q, g, e, z⟩ => by
            obtain ⟨_, z1, z2⟩ := okg.box q g e
            rcases z with rfl | rfl
            · rw [hO] at z1; cases z1
            · rw [hO] at z2; cases z2
          have hH2 := st2.keep p _ upd_same (fun i hi => by rw [hO] at hi; cases hi; omega) nb
          obtain ⟨w3, ok3, st3, rep, sl3, l3⟩ := takes_ok (t0 := t + 1) rs (flatP ps) xs sa _ w2 (t + 1) ok2 rel2 e2 (Nat.le_refl _) (by omega)
          rw [l2] at st3 l3
          have hO3 := st3.tmp p t hO2 (by omega) (Nat.lt_succ_self _)
          obtain ⟨ys, ep, rm⟩ := pairsK_rep xs ps kvs rep e3
          refine ⟨hH2, ys, ep, by rw [← RepM.length _ _ rm]; exact h15, ?_⟩
          have rm2 := RepM.merge kvs ys [] [] rm rfl
          have okM := mut_ok (o := .dK (mergeK [] ys)) ok3 hO3 (fun _ h => nomatch h) rfl rfl fun i q v h1 h2 => .inl ⟨h1, fun z => by have := (List.getElem?_eq_some_iff.mp h1).1; omega⟩
          have stM := mut_step (n := s.a.length) (t0 := t) (o := .dK (mergeK [] ys)) ok3 hO3 (.inr (Nat.le_refl _))
          exact k w3 _ (.ref p) t2 t (Nat.le_refl _) (by omega) okM (((stg.trans (st2.mono (by omega))).trans (st3.mono (by omega))).trans stM) (sl2.trans sl3) ⟨p, _, rfl, hO3, upd_same, rm2⟩
        · cases e

/-! ## the box -/
def mBox (ms : MA) : ME := fun s => if s.b.c < 0 then match ms s with
  | .ok [.d (.str a), .o (.lst l), .d (.str b), .d (.int i), .d (.str c), .d (.int j)] s1 => if a = "great" ∧ b = "stirred" ∧ c = "count" ∧ 0 ≤ j ∧ s1.b.c < 0 then match intsD? l with
      | some ns => .ok .bx { s1 with b := ⟨ns, i, j⟩ }
      | none => .no
    else .no
  | _ => .no else .no
theorem flat3 {a b c d e f : V} : ∀ ps : List (V × V), flatP ps = [a, b, c, d, e, f] → ps = [(a, b), (c, d), (e, f)]
  | [], h => by simp [flatP] at h
  | [_], h => by simp [flatP] at h
  | [_, _], h => by simp [flatP] at h
  | [(a1, a2), (a3, a4), (a5, a6)], h => by
    simp [flatP] at h
    obtain ⟨rfl, rfl, rfl, rfl, rfl, rfl⟩ := h
    rfl
  | _ :: _ :: _ :: _ :: _, h => by simp [flatP] at h
theorem merge3 {g : Addr} {i j : Int} : mergeK [] [((.inr "great" : Key), V.ref g), (.inr "stirred", .int i), (.inr "count", .int j)] = [(.inr "great", .ref g), (.inr "stirred", .int i), (.inr "count", .int j)] := by
  have h1 : ¬ (Sum.inr "great" : Key) = (Sum.inr "stirred" : Key) := by decide
  have h2 : ¬ (Sum.inr "great" : Key) = (Sum.inr "count" : Key) := by decide
  have h3 : ¬ (Sum.inr "stirred" : Key) = (Sum.inr "count" : Key) := by decide
  simp [mergeK, putK, h1, h2, h3]
theorem re_box {X : Cx} {pos : Pos} {k1 k2 k3 v1 v2 v3 : Expr} {ms : MA} (h : RP X pos [some k1, some k2, some k3] [v1, v2, v3] ms) : RE X (.Dict [some k1, some k2, some k3] [v1, v2, v3] pos) (mBox ms) := by
  obtain ⟨trs, p1, s1⟩ := h
  refine ⟨_, pe_disp p1 rfl rfl (fun h => nomatch h) (by show 3 ≤ 15; decide), fun σ H w s t Q r s' ok e k => ?_⟩
  simp only [mBox] at e
  split at e
  · rename_i hneg
    split at e
    · rename_i a l b i c j sa e1
      split at e
      · rename_i hc
        obtain ⟨rfl, rfl, rfl, hj, hneg2⟩ := hc
        split at e
        · rename_i ns e2
          cases e
          intro p hp
          have tN := ok.tN
          have okg := give_ok (o := .dK []) ok hp
          have stg := give_step (n := s.a.length) (t0 := t) (o := .dK []) ok hp
          have hO : (w.give p t).O p = some t := if_pos rfl
          refine s1 σ _ (w.give p t) s (t + 1) _ _ sa okg e1 fun w2 H2 ps t2 a2 ok2 st2 sl2 rel2 => ?_
          have l2 := ok.slen ok2
          have hO2 := st2.tmp p t hO (by omega) (Nat.lt_succ_self _)
          have wB : w.B = none := ok.nob hneg
          have wB2 : w2.B = none := ok2.nob hneg2
          have nb : ¬ isBox (w.give p t).B p := fun ⟨q, g, e, z⟩ => by
            have e' : w.B = some (q, g) := e
            rw [wB] at e'; cases e'
          have hH2 := st2.keep p _ upd_same (fun i hi => by rw [hO] at hi; cases hi; omega) nb
          -- the pairs
          obtain ⟨x1, _, τ1, q1, b1, b2, r1, x2, _, τ2, q2, c1, c2, r2, x3, _, τ3, q3, _, _, r3, x4, _, τ4, q4, _, _, r4, x5, _, τ5, q5, _, _, r5, x6, _, τ6, q6, _, _, r6, q7⟩ := rel2
          subst q7 q6 q5 q4 q3 q2
          simp only [RelR, Rep] at r1 r3 r4 r5 r6
          subst r1 r3 r4 r5 r6
          obtain ⟨g, xs, rfl, g1, g2, g3⟩ := r2
          have exs : xs = ns.map V.int := ints_rep ns xs (by rw [← intsD_eq e2]; exact g3)
          subst exs
          obtain rfl := flat3 ps q1
          · skip
            refine ⟨hH2, [(.inr "great", .ref g), (.inr "stirred", .int i), (.inr "count", .int j)], rfl, by show 3 ≤ 15; decide, ?_⟩
            rw [merge3]
            have st := stg.trans (st2.mono (Nat.le_succ t))
            have hg : H g = none := by
              rcases st.newT g τ2 g1 (by omega) with z | z
              · exact z
              · have := (ok.own g τ2 z).2.2; omega
            have hpg : p ≠ g := fun z => by subst z; rw [hO2] at g1; cases g1; omega
            have Fp := (ok2.own p t hO2).1
            have Fg := (ok2.own g τ2 g1).1
            refine k ⟨w2.F, fun b => if b = p ∨ b = g then none else w2.O b, some (p, g)⟩ _ (.ref p) t2 t (Nat.le_refl _) (by omega) ⟨fun b u e => ?_, ok2.len, fun i q v h1 h2 => ?_, fun b i e => ?_, ok2.tN, fun p' g' e => ?_, fun h => ?_⟩
              ⟨st.F, fun b o h ho hb => ?_, fun b o h => ?_, fun b i h h1 h2 => ?_, st.newF, fun b i h => ?_, fun b i h hi => ?_, .inr ⟨wB, fun p' g' e => ?_⟩⟩ sl2 ⟨p, g, rfl, rfl⟩
            · rw [upd_ne (ne_of_none e Fp)]; exact ok2.sub b u e
            · have hi : i < s.a.length := by
                have : i < sa.a.length := (List.getElem?_eq_some_iff.mp h1).1
                omega
              have hs := ok2.sl i q v h1 h2
              have hne : ∀ a, w2.O a = some i → a ≠ p ∧ a ≠ g := fun a ha => ⟨fun z => by subst z; rw [hO2] at ha; cases ha; omega, fun z => by subst z; rw [g1] at ha; cases ha; omega⟩
              cases q with
              | none => trivial
              | some q =>
                cases q with
                | d y => exact hs
                | sl _ => exact hs
                | bx => obtain ⟨p', g', e', _⟩ := hs; rw [wB2] at e'; cases e'
                | o c =>
                  obtain ⟨u, e, h4⟩ := hs
                  refine ⟨u, e, ?_⟩
                  cases c with
                  | lst ds => obtain ⟨a, xs, e, q1, q2, q3⟩ := h4; exact ⟨a, xs, e, (if_neg (by simp [hne a q1])).trans q1, by rw [upd_ne (hne a q1).1]; exact q2, q3⟩
                  | dK ds => obtain ⟨a, xs, e, q1, q2, q3⟩ := h4; exact ⟨a, xs, e, (if_neg (by simp [hne a q1])).trans q1, by rw [upd_ne (hne a q1).1]; exact q2, q3⟩
                  | dT ds => obtain ⟨a, xs, e, q1, q2, q3⟩ := h4; exact ⟨a, xs, e, (if_neg (by simp [hne a q1])).trans q1, by rw [upd_ne (hne a q1).1]; exact q2, q3⟩
            · have e' : (if b = p ∨ b = g then none else w2.O b) = some i := e
              by_cases hb : b = p ∨ b = g
              · rw [if_pos hb] at e'; cases e'
              · rw [if_neg hb] at e'
                obtain ⟨h1, ⟨u, h2, nt⟩, h3⟩ := ok2.own b i e'
                exact ⟨h1, ⟨u, by rw [upd_ne (fun z => hb (.inl z))]; exact h2, nt⟩, h3⟩
            · cases e
              exact ⟨⟨Fp, Fg, hpg, upd_same, by rw [upd_ne (Ne.symm hpg)]; exact g2⟩, if_pos (.inl rfl), if_pos (.inr rfl)⟩
            · have h' : j < 0 := h
              omega
            · rw [upd_ne (fun z => by subst z; rw [hp] at h; cases h)]
              exact st.keep b o h ho hb
            · obtain ⟨o', h'⟩ := st.there b o h
              by_cases z : b = p
              · subst z; exact ⟨_, upd_same⟩
              · exact ⟨o', by rw [upd_ne z]; exact h'⟩
            · have h' := st.tmp b i h h1 h2
              show (if b = p ∨ b = g then none else w2.O b) = some i
              rw [if_neg (fun z => by
                rcases z with rfl | rfl
                · rw [hO2] at h'; cases h'; omega
                · rw [g1] at h'; cases h'; omega)]
              exact h'
            · have h' : (if b = p ∨ b = g then none else w2.O b) = some i := h
              by_cases hb : b = p ∨ b = g
              · rw [if_pos hb] at h'; cases h'
              · rw [if_neg hb] at h'; exact st.newO b i h'
            · have h' : (if b = p ∨ b = g then none else w2.O b) = some i := h
              by_cases hb : b = p ∨ b = g
              · rw [if_pos hb] at h'; cases h'
              · rw [if_neg hb] at h'; exact st.newT b i h' hi
            · cases e; exact ⟨hp, hg⟩
        · cases e
      · cases e
    · cases e
  · cases e
end Qz
namespace Qz
open PySem PySem.Spec L2
open PyProof.Rows hiding St
/-! ## short names for the derivations -/
theorem bo_int : bootBuiltins "int" = some (.type "int") := by decide +kernel
theorem bo_bool : bootBuiltins "bool" = some (.type "bool") := by decide +kernel
theorem bo_str : bootBuiltins "str" = some (.type "str") := by decide +kernel
theorem bo_list : bootBuiltins "list" = some (.type "list") := by decide +kernel
theorem bo_tuple : bootBuiltins "tuple" = some (.type "tuple") := by decide +kernel
theorem bo_dict : bootBuiltins "dict" = some (.type "dict") := by decide +kernel
section
variable {X : Cx} {k : Nat}
theorem Here.un1 (h : Here X k) : X.A.units + 1 < cLine := by have := h.un; omega
theorem Here.un64 (h : Here X k) : X.A.units + 64 < cLine := by have := h.un; omega
theorem o_eqq (h : Here X k) : OpR X (compareOp .Eq) (rEqD X.K) := op_eqD (by have := h.un; omega)
theorem o_neq (h : Here X k) : OpR X (compareOp .NotEq) (rNeD X.K) := op_neD (by have := h.un; omega)
theorem Here.blk {s : Shared} {H : Hp} {scope : Scope} {env : Env} {fp : List Addr} (h : Here X k) : Here (X.blk s H scope env fp) k := ⟨h.gd, h.sy, h.rm⟩
theorem re_globE {x : Str} {i : Int} {pos : Pos} (hg : Gl X x) (h : ∃ u, X.mg x = some u ∧ RelV (.int i) u) (hd : (x == ("__debug__" : Str)) = false := by decide) : RE X (.Name x pos) (mC (.int i)) := by
  obtain ⟨u, h1, h2⟩ := h
  exact re_glob hg h1 h2 hd
end
section
variable {X : Cx} {e : Expr} {es : List Expr} {ms mk : MA} {k np : Nat} {f : Addr} {fd : FuncData} {ps : List Str} {x : Str} {p pos : Pos} {g : DF} {kws : List Keyword} {ks : List Str} {nu nk : Nat} {perm : List Nat}
theorem rc_call (F : FnG X.prog X.w X.K X.mg X.base k f fd ps (spD X.K np g)) (hr : Here X k) (hm : X.mg x = some (.ref f)) (hk : PySem.W.keepIn X.K (.ref f) = true) (hb : Binds X.K fd ps [])
    (ha : RA X (e :: es) ms) (hl : ps.length = np := by rfl) (hg : Gl X x := by rfl) (hdb : (x == ("__debug__" : Str)) = false := by decide) (he : starEach (e :: es) X.env = (false, eval e X.env) :: starEach es X.env := by rfl) (hpl : (backTo pos (starEach es X.env)).any (·.1) = false := by rfl) :
    RE X (.Call (.Name x p) (e :: es) [] pos) (mCall np g ms) := by
  subst hl
  exact re_call F hr hm hk hb ha hg hdb he hpl
theorem rc_call0 (F : FnG X.prog X.w X.K X.mg X.base k f fd ps (spD X.K np g)) (hr : Here X k) (hm : X.mg x = some (.ref f)) (hk : PySem.W.keepIn X.K (.ref f) = true) (hb : Binds X.K fd ps [])
    (hl : ps.length = np := by rfl) (hg : Gl X x := by rfl) (hdb : (x == ("__debug__" : Str)) = false := by decide) : RE X (.Call (.Name x p) [] [] pos) (mCall np g mNil) := by
  subst hl
  exact re_call0 F hr hm hk hb hg hdb
theorem rc_callK (F : FnG X.prog X.w X.K X.mg X.base k f fd ps (spD X.K np g)) (hr : Here X k) (hm : X.mg x = some (.ref f)) (hk : PySem.W.keepIn X.K (.ref f) = true) (hb : KBinds X.K fd ps ks (gP nu nk perm) (gP nu nk perm))
    (ha : RA X (e :: es) ms) (hkw : RK X kws mk) (hl : ps.length = np := by rfl) (hall : (backToKw pos (keywordEach kws X.env)).all (·.1.isSome) = true := by rfl) (hks : (backToKw pos (keywordEach kws X.env)).filterMap (·.1) = ks := by rfl) (hg : Gl X x := by rfl)
    (hdb : (x == ("__debug__" : Str)) = false := by decide) (he : starEach (e :: es) X.env = (false, eval e X.env) :: starEach es X.env := by rfl)
    (hpl : ((backTo pos (starEach (e :: es) X.env)).any (·.1) || (backToKw pos (keywordEach kws X.env)).any (·.1.isNone)) = false := by rfl) :
    RE X (.Call (.Name x p) (e :: es) kws pos) (mCallK np g nu nk perm ms mk) := by
  subst hl
  exact re_callK F hr hm hk hb ha hkw hall hks hg hdb he hpl
theorem rc_callK0 (F : FnG X.prog X.w X.K X.mg X.base k f fd ps (spD X.K np g)) (hr : Here X k) (hm : X.mg x = some (.ref f)) (hk : PySem.W.keepIn X.K (.ref f) = true) (hb : KBinds X.K fd ps ks (gP 0 nk perm) (gP 0 nk perm))
    (hkw : RK X kws mk) (hl : ps.length = np := by rfl) (hall : (backToKw pos (keywordEach kws X.env)).all (·.1.isSome) = true := by rfl) (hks : (backToKw pos (keywordEach kws X.env)).filterMap (·.1) = ks := by rfl) (hg : Gl X x := by rfl)
    (hdb : (x == ("__debug__" : Str)) = false := by decide) (hpl : ((backTo pos (starEach [] X.env)).any (·.1) || (backToKw pos (keywordEach kws X.env)).any (·.1.isNone)) = false := by rfl) :
    RE X (.Call (.Name x p) [] kws pos) (mCallK np g 0 nk perm mNil mk) := by
  subst hl
  exact re_callK0 F hr hm hk hb hkw hall hks hg hdb hpl
end
def drawB (b : Bx) (m : Int) : Int × Bx := match b.g with
  | a :: r => (a % m, { b with g := if a < m then r else a / m :: r })
  | [] =>
    let c := b.c + 1
    let x := (b.s + 2654435761 * c) % 4294967291
    let y := (x * x + 40503 * c + 7) % 4294967279
    let z := (y * y + b.s) % 4294967231
    ((z / 128) % m, { b with c := c })
def mDraw : MS := fun (s : S) => match (s.a[0]? : Option (Option R)), (s.a[1]? : Option (Option R)) with
  | some (some .bx), some (some (.d (.int m))) => if s.a.length = 6 ∧ 0 < m ∧ m < 1267650600228229401496703205376 then .ok (.rt (.d (.int (drawB s.b m).1))) { s with b := (drawB s.b m).2 } else .no
  | _, _ => .no
def f_law_draw : DF := runF 6 mDraw
end Qz
namespace Qz
open PySem PySem.Spec L2
open PyProof.Rows hiding St
/-! ## the draw -/
def tIntC (te : TE) : TE := tCB (fun xs H Q => (∃ i, xs = [V.int i] ∧ Q (V.int i) H) ∨ ∃ k, xs = [V.bl k] ∧ Q (V.int (if k = true then 1 else 0)) H) (tCons te tNil)
def tMod (a b : TE) : TE := tOp (rI (fun x j => 0 < j) fun i j => V.int (i % j)) a b
def tMulI (a b : TE) : TE := tOp (rI CMul fun i j => V.int (i * j)) a b
def tAddI (a b : TE) : TE := tOp (rI0 fun i j => V.int (i + j)) a b
def tDivI (a b : TE) : TE := tOp (rI CDivB fun i j => V.int (i / j)) a b
def tBx (x : Str) : TE := tDGet (tVar 0) (tC (V.str x))
def tsDraw1 (K : PySem.W.Frag) : TS := tIfS (tTest (tOp (rNeD K) (tVar 2) (tLst tNil)))
  (tSeq (tAsg (tOp (rIxL K) (tVar 2) (tC (.int 0))) (gName 3)) (tSeq (tAsg (tDivI (tVar 3) (tVar 1)) (gSub (tVar 2) (tC (.int 0)) rSetL))
    (tSeq (tIfS (tTest (tOp (rI0 fun i j => .bl (decide (i < j))) (tVar 3) (tVar 1))) (tSeq (tDrop (tBM K "list" rPopAt (tVar 2) (tCons (tC (.int 0)) tNil))) tNext) tNext)
      (tSeq (tRet (tMod (tIntC (tVar 3)) (tVar 1))) tNext)))) tNext
def tsDraw2 : TS := tSeq (tAsg (tAddI (tBx "count") (tC (.int 1))) (gName 4)) (tSeq (sDPut (tVar 0) (tC (V.str "count")) (tVar 4))
  (tSeq (tAsg (tMod (tIntC (tAddI (tBx "stirred") (tMulI (tC (.int 2654435761)) (tVar 4)))) (tC (.int 4294967291))) (gName 5))
  (tSeq (tAsg (tMod (tIntC (tAddI (tAddI (tMulI (tVar 5) (tVar 5)) (tMulI (tC (.int 40503)) (tVar 4))) (tC (.int 7)))) (tC (.int 4294967279))) (gName 5))
  (tSeq (tAsg (tMod (tIntC (tAddI (tMulI (tVar 5) (tVar 5)) (tBx "stirred"))) (tC (.int 4294967231))) (gName 5))
  (tSeq (tRet (tMod (tIntC (tDivI (tVar 5) (tC (.int 128)))) (tVar 1))) tNext)))))
def tsDraw (K : PySem.W.Frag) : TS := tSeq (tAsg (tBx "great") (gName 2)) (tSeq (tsDraw1 K) tsDraw2)
section
variable {K : PySem.W.Frag} {t t0 n : Nat} {w : Wd} {H H' : Hp} {σ : St} {s : S} {p g : Addr} {b' : Bx}
theorem box_mut (ok : OKs K w H σ s t) (hB : w.B = some (p, g)) (hc : 0 ≤ b'.c) (hk : ∀ a o, a ≠ p → a ≠ g → H a = some o → H' a = some o) (hp : H' p = some (bxF g b')) (hg : H' g = some (.lst (b'.g.map V.int))) :
    OKs K w H' σ { s with b := b' } t ∧ Step n t0 w H w H' := by
  obtain ⟨bo, op, og⟩ := ok.box p g hB
  have nO : ∀ a i, w.O a = some i → a ≠ p ∧ a ≠ g := fun a i h => ⟨(fun z => by subst z; rw [op] at h; cases h), (fun z => by subst z; rw [og] at h; cases h)⟩
  refine ⟨⟨fun b u e => ?_, ok.len, fun i q v h1 h2 => SlR.mono (ok.sl i q v h1 h2) (Same.refl _) rfl (fun a ha => ⟨ha, ?_⟩), fun a i e => ?_, ok.tN, fun p' g' e => ?_, fun h => ?_⟩,
    ⟨Same.refl _, fun a o h _ hb => ?_, fun a o h => ?_, fun _ _ h _ _ => h, fun _ h => .inl h, fun a i h => .inr (by rw [h]; simp), fun _ _ h _ => .inr h, .inl rfl⟩⟩
  · exact hk b u (ne_of_none e bo.fp) (ne_of_none e bo.fg) (ok.sub b u e)
  · obtain ⟨_, ⟨u, h2, _⟩, _⟩ := ok.own a i ha
    rw [h2]
    exact hk a u (nO a i ha).1 (nO a i ha).2 h2
  · obtain ⟨h1, ⟨u, h2, nt⟩, h3⟩ := ok.own a i e
    exact ⟨h1, ⟨u, hk a u (nO a i e).1 (nO a i e).2 h2, nt⟩, h3⟩
  · rw [hB] at e; cases e
    exact ⟨⟨bo.fp, bo.fg, bo.ne, hp, hg⟩, op, og⟩
  · have h' : b'.c < 0 := h
    omega
  · exact hk a o (fun z => hb ⟨p, g, hB, .inl z⟩) (fun z => hb ⟨p, g, hB, .inr z⟩) h
  · by_cases z : a = p
    · subst z; exact ⟨_, hp⟩
    · by_cases z2 : a = g
      · subst z2; exact ⟨_, hg⟩
      · exact ⟨o, hk a o z z2 h⟩
end
theorem kne1 : ¬ (Sum.inr "great" : Key) = (Sum.inr "stirred" : Key) := by decide
theorem kne2 : ¬ (Sum.inr "great" : Key) = (Sum.inr "count" : Key) := by decide
theorem kne3 : ¬ (Sum.inr "stirred" : Key) = (Sum.inr "count" : Key) := by decide
section
variable {g : Addr} {b : Bx} {x y z : V}
theorem bx_great : valV [((.inr "great" : Key), x), (.inr "stirred", y), (.inr "count", z)] (.inr "great") = some x := valV_pos rfl
theorem bx_stir : valV [((.inr "great" : Key), x), (.inr "stirred", y), (.inr "count", z)] (.inr "stirred") = some y := (valV_neg kne1).trans (valV_pos rfl)
theorem bx_count : valV [((.inr "great" : Key), x), (.inr "stirred", y), (.inr "count", z)] (.inr "count") = some z := (valV_neg kne2).trans ((valV_neg kne3).trans (valV_pos rfl))
theorem bx_put {u : V} : putK [((.inr "great" : Key), x), (.inr "stirred", y), (.inr "count", z)] (.inr "count") u = [(.inr "great", x), (.inr "stirred", y), (.inr "count", u)] := by
  have h1 : ¬ Str.ofString "great" = Str.ofString "count" := by decide
  have h2 : ¬ Str.ofString "stirred" = Str.ofString "count" := by decide
  simp [putK, h1, h2]
end
theorem ints_dp {K : PySem.W.Frag} {H : Hp} : ∀ ns : List Int, DpAll K H (ns.map V.int) (ns.map PyData.int)
  | [] => .nil
  | n :: ns => .cons (.int n) (ints_dp ns)
theorem ints_lay : ∀ ns : List Int, PyData.canLayAll0 (ns.map .int) = true ∧ PyData.depthAll (ns.map .int) = 0
  | [] => ⟨rfl, rfl⟩
  | n :: ns => by
    obtain ⟨h1, h2⟩ := ints_lay ns
    simp [PyData.canLayAll0, PyData.canLay0, PyData.depthAll, PyData.depth, h1, h2]
theorem ints_shaped (ns : List Int) : SeqAt.shaped (.list (ns.map .int)) = true := by
  obtain ⟨h1, h2⟩ := ints_lay ns
  simp [SeqAt.shaped, PyData.canLay0, PyData.depth, h1, h2]
theorem draw_snd {K : PySem.W.Frag} : SndS K (tsDraw K) mDraw := by
  intro σ H w s D fl s' ok e k
  unfold mDraw at e
  split at e
  · rename_i m h0 h1
    split at e
    · rename_i hm
      cases e
      have hlen := ok.len
      have i0 := (List.getElem?_eq_some_iff.mp h0).1
      have i1 := (List.getElem?_eq_some_iff.mp h1).1
      obtain ⟨v0, q0⟩ : ∃ v, σ[0]? = some v := ⟨σ[0]'(by omega), by simp [hlen, i0]⟩
      obtain ⟨v1, q1⟩ : ∃ v, σ[1]? = some v := ⟨σ[1]'(by omega), by simp [hlen, i1]⟩
      obtain ⟨p, g, hB, rfl⟩ := ok.sl 0 _ _ h0 q0
      obtain ⟨u1, rfl, r1⟩ := ok.sl 1 _ _ h1 q1
      simp only [Rep] at r1
      subst r1
      obtain ⟨bo, op, og⟩ := ok.box p g hB
      have hc : 0 ≤ s.b.c := by
        rcases Int.lt_or_le s.b.c 0 with z | z
        · have := ok.nob z
          rw [hB] at this; cases this
        · exact z
      obtain ⟨h6, hm0, hm1⟩ := hm
      have l6 : σ.length = 6 := by omega
      have qget : ∀ {σ : St} {i : Nat} {x : V}, σ.length = 6 → i < 6 → (σ.set i (some x))[i]? = some (some x) := fun h hi => List.getElem?_set_self (by omega)
      have hgl : ∀ {x : V}, (σ.set 2 (some x))[0]? = some (some (.ref p)) ∧ (σ.set 2 (some x))[1]? = some (some (.int m)) ∧ (σ.set 2 (some x)).length = 6 := ⟨by rw [List.getElem?_set_ne (by decide)]; exact q0, by rw [List.getElem?_set_ne (by decide)]; exact q1, by simp [l6]⟩
      -- great
      refine ⟨.ref p, q0, p, .ref g, rfl, .inl ⟨_, .inr "great", .inl bo.hp, rfl, bx_great.symm⟩, ?_⟩
      show tSeq (tsDraw1 K) tsDraw2 D (σ.set 2 (some (.ref g))) H
      obtain ⟨a0, a1, a2⟩ := hgl (x := .ref g)
      have a3 := qget (x := V.ref g) (i := 2) l6 (by decide)
      generalize σ.set 2 (some (.ref g)) = σ1 at a0 a1 a2 a3 ⊢
      -- great != []
      refine ⟨.ref g, a3, Nat.zero_le _, fun q hq => ⟨.list (s.b.g.map .int), .list [], .lst (SqL.of (by rw [upd_ne (ne_of_none bo.hg hq)]; exact bo.hg)) (ints_dp _), .lst (SqL.of upd_same) .nil, ints_shaped _, rfl, _, rfl, ?_⟩⟩
      have Hp1 : upd H q (.lst []) p = some (bxF g s.b) := by rw [upd_ne (ne_of_none bo.hp hq)]; exact bo.hp
      have Hg1 : upd H q (.lst []) g = some (.lst (s.b.g.map V.int)) := by rw [upd_ne (ne_of_none bo.hg hq)]; exact bo.hg
      have Hk1 : ∀ a o, H a = some o → upd H q (.lst []) a = some o := fun a o h => by rw [upd_ne (ne_of_none h hq)]; exact h
      generalize upd H q (.lst []) = H1 at Hp1 Hg1 Hk1 ⊢
      have fin : ∀ (H2 : Hp) (b' : Bx) (v : Int), drawB s.b m = (v, b') → 0 ≤ b'.c → (∀ a o, a ≠ p → a ≠ g → H1 a = some o → H2 a = some o) → H2 p = some (bxF g b') → H2 g = some (.lst (b'.g.map V.int)) → D.rt (.int v) H2 := by
        intro H2 b' v e1 e2 e3 e4 e5
        obtain ⟨ok2, st2⟩ := box_mut (n := s.a.length) (t0 := s.a.length) ok hB e2 (fun a o n1 n2 h => e3 a o n1 n2 (Hk1 a o h)) e4 e5
        have k' := k.rt _ rfl σ w H2 (.int v) (s.a.length + 1) s.a.length (Nat.le_refl _) (Nat.lt_succ_self _)
        rw [e1] at k'
        exact k' (ok2.up (Nat.le_succ _)) rfl st2 (by simp only [RelR, Rep])
      have npg := bo.ne
      clear k
      cases hb : s.b.g with
      | cons a r =>
        rw [hb] at Hg1
        refine iteT ?_
        have g3 : ∀ {x : V}, (σ1.set 3 (some x))[1]? = some (some (.int m)) ∧ (σ1.set 3 (some x))[2]? = some (some (.ref g)) := ⟨by rw [List.getElem?_set_ne (by decide)]; exact a1, by rw [List.getElem?_set_ne (by decide)]; exact a3⟩
        refine ⟨.ref g, a3, g, _, 0, .int a, rfl, rfl, SqL.of Hg1, by simp [atI, ixN], ?_⟩
        obtain ⟨b1, b2⟩ := g3 (x := .int a)
        have b3 := qget (x := V.int a) (i := 3) a2 (by decide)
        show tSeq _ _ _ (σ1.set 3 (some (.int a))) H1
        generalize σ1.set 3 (some (.int a)) = σ2 at b1 b2 b3 ⊢
        refine ⟨.int a, b3, .int m, b1, a, m, rfl, rfl, ⟨hm0, hm1⟩, .ref g, b2, g, _, 0, 0, rfl, rfl, Hg1, by simp [ixN], ?_⟩
        refine ⟨.int a, b3, .int m, b1, a, m, rfl, rfl, _, rfl, ?_⟩
        have hcb : 0 ≤ s.b.c := hc
        by_cases ham : a < m
        · rw [decide_eq_true ham]
          refine iteT ?_
          refine ⟨.ref g, b2, .inl ⟨rfl, _, SqL.of upd_same⟩, g, _, 0, 0, .int (a / m), rfl, rfl, upd_same, by decide, by decide, by simp [seqIndex?], by simp, ?_⟩
          refine ⟨.int a, b3, .inl ⟨a, rfl, .int m, b1, a, m, rfl, rfl, hm0, ?_⟩⟩
          refine fin _ { s.b with g := r } _ (by simp only [drawB, hb, if_pos ham]) hcb (fun c o n1 n2 h => by rw [upd_ne n2, upd_ne n2]; exact h) (by rw [upd_ne npg, upd_ne npg]; exact Hp1) (by rw [upd_same]; simp)
        · rw [decide_eq_false ham]
          refine iteF ?_
          refine ⟨.int a, b3, .inl ⟨a, rfl, .int m, b1, a, m, rfl, rfl, hm0, ?_⟩⟩
          refine fin _ { s.b with g := a / m :: r } _ (by simp only [drawB, hb, if_neg ham]) hcb (fun c o n1 n2 h => by rw [upd_ne n2]; exact h) (by rw [upd_ne npg]; exact Hp1) (by rw [upd_same]; simp)
      | nil =>
        rw [hb] at Hg1
        refine iteF ?_
        refine ⟨.ref p, a0, p, .int s.b.c, rfl, .inl ⟨_, .inr "count", .inl Hp1, rfl, bx_count.symm⟩, s.b.c, 1, rfl, rfl, ?_⟩
        have g4 : ∀ {x : V}, (σ1.set 4 (some x))[0]? = some (some (.ref p)) ∧ (σ1.set 4 (some x))[1]? = some (some (.int m)) ∧ (σ1.set 4 (some x)).length = 6 := ⟨by rw [List.getElem?_set_ne (by decide)]; exact a0, by rw [List.getElem?_set_ne (by decide)]; exact a1, by simp [a2]⟩
        obtain ⟨b0, b1, b2⟩ := g4 (x := .int (s.b.c + 1))
        have b4 := qget (x := V.int (s.b.c + 1)) (i := 4) a2 (by decide)
        show tSeq _ _ _ (σ1.set 4 (some (.int (s.b.c + 1)))) H1
        generalize σ1.set 4 (some (.int (s.b.c + 1))) = σ2 at b0 b1 b2 b4 ⊢
        refine ⟨.int (s.b.c + 1), b4, .ref p, b0, p, _, rfl, .inl ⟨_, .inr "count", Hp1, rfl, by show 3 < sizeLine; decide, rfl⟩, ?_⟩
        rw [show putK [((.inr "great" : Key), V.ref g), (.inr "stirred", .int s.b.s), (.inr "count", .int s.b.c)] (.inr "count") (.int (s.b.c + 1)) = _ from bx_put]
        have Hp2 : upd H1 p (.dK [(.inr "great", .ref g), (.inr "stirred", .int s.b.s), (.inr "count", .int (s.b.c + 1))]) p = some (.dK [(.inr "great", .ref g), (.inr "stirred", .int s.b.s), (.inr "count", .int (s.b.c + 1))]) := upd_same
        have Hg2 : upd H1 p (.dK [(.inr "great", .ref g), (.inr "stirred", .int s.b.s), (.inr "count", .int (s.b.c + 1))]) g = some (.lst []) := by rw [upd_ne (Ne.symm npg)]; exact Hg1
        have Hk2 : ∀ a o, a ≠ p → a ≠ g → H1 a = some o → upd H1 p (.dK [(.inr "great", .ref g), (.inr "stirred", .int s.b.s), (.inr "count", .int (s.b.c + 1))]) a = some o := fun a o n1 _ h => by rw [upd_ne n1]; exact h
        generalize upd H1 p (.dK [(.inr "great", .ref g), (.inr "stirred", .int s.b.s), (.inr "count", .int (s.b.c + 1))]) = H2 at Hp2 Hg2 Hk2 ⊢
        have g5 : ∀ {σ : St} {x : V}, σ.length = 6 → σ[0]? = some (some (.ref p)) → σ[1]? = some (some (.int m)) → σ[4]? = some (some (.int (s.b.c + 1))) → (σ.set 5 (some x))[0]? = some (some (.ref p)) ∧ (σ.set 5 (some x))[1]? = some (some (.int m)) ∧ (σ.set 5 (some x))[4]? = some (some (.int (s.b.c + 1))) ∧ (σ.set 5 (some x)).length = 6 ∧ (σ.set 5 (some x))[5]? = some (some x) :=
          fun h h0 h1 h4 => ⟨by rw [List.getElem?_set_ne (by decide)]; exact h0, by rw [List.getElem?_set_ne (by decide)]; exact h1, by rw [List.getElem?_set_ne (by decide)]; exact h4, by simp [h], qget h (by decide)⟩
        have hst : DGet H2 p (.str "stirred") (some (.int s.b.s)) := .inl ⟨_, .inr "stirred", .inl Hp2, rfl, bx_stir.symm⟩
        refine ⟨.ref p, b0, p, .int s.b.s, rfl, hst, .int (s.b.c + 1), b4, 2654435761, s.b.c + 1, rfl, rfl, .inl (by decide), s.b.s, _, rfl, rfl, .inl ⟨_, rfl, _, 4294967291, rfl, rfl, (show (0 : Int) < 4294967291 by decide), ?_⟩⟩
        show tSeq _ _ _ (σ2.set 5 (some (.int ((s.b.s + 2654435761 * (s.b.c + 1)) % 4294967291)))) H2
        have x0 := Int.emod_nonneg (s.b.s + 2654435761 * (s.b.c + 1)) (b := 4294967291) (by decide)
        have x1 := Int.emod_lt_of_pos (s.b.s + 2654435761 * (s.b.c + 1)) (b := 4294967291) (by decide)
        generalize hx : (s.b.s + 2654435761 * (s.b.c + 1)) % 4294967291 = x at x0 x1 ⊢
        obtain ⟨c0, c1, c4, cl, c5⟩ := g5 (x := .int x) b2 b0 b1 b4
        generalize σ2.set 5 (some (.int x)) = σ3 at c0 c1 c4 cl c5 ⊢
        refine ⟨.int x, c5, .int x, c5, x, x, rfl, rfl, .inl ⟨by omega, by omega⟩, .int (s.b.c + 1), c4, 40503, s.b.c + 1, rfl, rfl, .inl (by decide), x * x, _, rfl, rfl, _, 7, rfl, rfl, .inl ⟨_, rfl, _, 4294967279, rfl, rfl, (show (0 : Int) < 4294967279 by decide), ?_⟩⟩
        show tSeq _ _ _ (σ3.set 5 (some (.int ((x * x + 40503 * (s.b.c + 1) + 7) % 4294967279)))) H2
        have y0 := Int.emod_nonneg (x * x + 40503 * (s.b.c + 1) + 7) (b := 4294967279) (by decide)
        have y1 := Int.emod_lt_of_pos (x * x + 40503 * (s.b.c + 1) + 7) (b := 4294967279) (by decide)
        generalize hy : (x * x + 40503 * (s.b.c + 1) + 7) % 4294967279 = y at y0 y1 ⊢
        obtain ⟨d0, d1, d4, dl, d5⟩ := g5 (x := .int y) cl c0 c1 c4
        generalize σ3.set 5 (some (.int y)) = σ4 at d0 d1 d4 dl d5 ⊢
        refine ⟨.int y, d5, .int y, d5, y, y, rfl, rfl, .inl ⟨by omega, by omega⟩, .ref p, d0, p, .int s.b.s, rfl, hst, y * y, s.b.s, rfl, rfl, .inl ⟨_, rfl, _, 4294967231, rfl, rfl, (show (0 : Int) < 4294967231 by decide), ?_⟩⟩
        show tSeq _ _ _ (σ4.set 5 (some (.int ((y * y + s.b.s) % 4294967231)))) H2
        obtain ⟨f0, f1, f4, fl', f5⟩ := g5 (x := .int ((y * y + s.b.s) % 4294967231)) dl d0 d1 d4
        refine ⟨.int ((y * y + s.b.s) % 4294967231), f5, _, 128, rfl, rfl, ⟨by decide, by decide⟩, .inl ⟨_, rfl, .int m, f1, _, m, rfl, rfl, hm0, ?_⟩⟩
        refine fin _ { s.b with c := s.b.c + 1 } _ ?_ (by show 0 ≤ s.b.c + 1; omega) Hk2 ?_ ?_
        · simp only [drawB, hb, hx, hy]
        · rw [Hp2]; rfl
        · rw [Hg2]; show _ = some (HO.lst (s.b.g.map V.int)); rw [hb]; rfl
    · cases e
  · cases e
end Qz
namespace Qz
open PySem PySem.Spec L2
open PyProof.Rows hiding St
/-! ## what a dict holds at a key -/
def viewC (s : S) : R → Option C
  | .o c => some c
  | .sl i => match s.a[i]? with
    | some (some (.o c)) => some c
    | _ => none
  | _ => none
def getC (c : C) (k : D) : Option (Option D) := match c with
  | .dK l => (keyOf k).map fun q => dGetK l q
  | .dT l => match k with
    | .tuple ks => (keysOf ks).map fun q => dGetK l q
    | _ => none
  | .lst _ => none
def mGetD (md mk : ME) : ME := fun s => match md s with
  | .no => .no
  | .ok r1 s1 => match mk s1 with
    | .ok (.d k) s2 => match viewC s2 r1 with
      | some c => match getC c k with
        | some (some v) => .ok (.d v) s2
        | _ => .no
      | none => .no
    | _ => .no
def mInD (neg : Bool) (mk md : ME) : ME := fun s => match mk s with
  | .ok (.d k) s1 => match md s1 with
    | .ok r2 s2 => match viewC s2 r2 with
      | some c => match getC c k with
        | some o => .ok (.d (.bool (o.isSome != neg))) s2
        | none => .no
      | none => .no
    | .no => .no
  | _ => .no
section
variable {K : PySem.W.Frag} {t t0 τ : Nat} {H : Hp} {σ : St}
theorem viewC_ok {w : Wd} {s : S} {r : R} {u : V} {c : C} (ok : OKs K w H σ s t) (h : RelR K w H σ s τ r u) (e : viewC s r = some c) : ∃ i, Own K w H i c u := by
  cases r with
  | d x => cases e
  | bx => cases e
  | o c' => cases e; exact ⟨τ, h⟩
  | sl i =>
    obtain ⟨q, h1, h2⟩ := h
    simp only [viewC, h1] at e
    split at e
    · rename_i q' c' hq
      cases hq
      cases e
      obtain ⟨v, e1, own⟩ := ok.sl i _ _ h1 h2
      cases e1
      exact ⟨i, own⟩
    · cases e
def optRep (K : PySem.W.Frag) (F : Hp) : Option D → Option V → Prop
  | some d, some v => Rep K F d v
  | none, none => True
  | _, _ => False
theorem get_opt {F : Hp} {κ : Type} [DecidableEq κ] (k : κ) (ds : List (κ × D)) (ys : List (κ × V)) (h : RepM K F ds ys) : optRep K F (dGetK ds k) (valV ys k) := by
  rcases RepM.get k ds ys h with ⟨e1, e2⟩ | ⟨d, x, e1, e2, h3⟩ <;> rw [e1, e2]
  · trivial
  · exact h3
theorem get_own {w : Wd} {i : Nat} {c : C} {k : D} {o : Option D} {u y : V} (sub : Same w.F H) (h : Own K w H i c u) (e : getC c k = some o) (hk : Rep K w.F k y) : ∃ a ov, u = .ref a ∧ DGet H a y ov ∧ optRep K w.F o ov := by
  cases c with
  | lst _ => cases e
  | dK l =>
    obtain ⟨a, ys, rfl, _, h2, h3⟩ := h
    simp only [getC, Option.map_eq_some_iff] at e
    obtain ⟨q, eq, rfl⟩ := e
    rw [keyOf_rep eq hk]
    exact ⟨a, _, rfl, DGet.k h2, get_opt q l ys h3⟩
  | dT l =>
    obtain ⟨a, ys, rfl, _, h2, h3⟩ := h
    unfold getC at e
    simp only at e
    split at e
    · rename_i ks
      simp only [Option.map_eq_some_iff] at e
      obtain ⟨q, eq, rfl⟩ := e
      simp only [Rep] at hk
      obtain ⟨p, us, rfl, h4, h5⟩ := hk
      rw [keysOf_rep _ _ _ eq h5] at h4
      exact ⟨a, _, rfl, DGet.t h2 (sub _ _ h4), get_opt q l ys h3⟩
    · cases e
theorem getD_snd {td ty : TE} {md mk : ME} (h1 : SndE K td md) (h2 : SndE K ty mk) : SndE K (tDGet td ty) (mGetD md mk) := by
  intro σ H w s t Q r s' ok e k
  simp only [mGetD] at e
  split at e
  · cases e
  · rename_i r1 s1 e1
    split at e
    · rename_i kk s2 e2
      split at e
      · rename_i c e3
        split at e
        · rename_i v e4
          cases e
          refine h1 σ H w s t _ r1 s1 ok e1 fun w1 H1 u t1 τ1 a1 a2 ok1 st1 sl1 rel1 => ?_
          refine h2 σ H1 w1 s1 t1 _ _ _ ok1 e2 fun w2 H2 y t2 τ2 b1 b2 ok2 st2 sl2 rel2 => ?_
          have l := ok.slen ok1
          have tN := ok.tN
          have rel1' := RelR.keep ok1 rel1 st2 (by omega) (by omega) sl2
          rw [l] at st2
          obtain ⟨i, own⟩ := viewC_ok ok2 rel1' e3
          obtain ⟨a, ov, rfl, g, rep⟩ := get_own ok2.sub own e4 rel2
          cases ov with
          | none => exact rep.elim
          | some v' => exact ⟨a, v', rfl, g, k w2 H2 v' t2 τ2 (by omega) b2 ok2 (st1.trans (st2.mono (by omega))) (sl1.trans sl2) rep⟩
        · cases e
      · cases e
    · cases e
theorem inD_snd {td ty : TE} {md mk : ME} (h1 : SndE K ty mk) (h2 : SndE K td md) : SndE K (tDIn ty td) (mInD false mk md) := by
  intro σ H w s t Q r s' ok e k
  simp only [mInD] at e
  split at e
  · rename_i kk s1 e1
    split at e
    · rename_i r2 s2 e2
      split at e
      · rename_i c e3
        split at e
        · rename_i o e4
          cases e
          refine h1 σ H w s t _ _ s1 ok e1 fun w1 H1 y t1 τ1 a1 a2 ok1 st1 sl1 rel1 => ?_
          refine h2 σ H1 w1 s1 t1 _ r2 _ ok1 e2 fun w2 H2 u t2 τ2 b1 b2 ok2 st2 sl2 rel2 => ?_
          have l := ok.slen ok1
          have tN := ok.tN
          have rel1' := RelR.keep ok1 rel1 st2 (by omega) (by omega) sl2
          rw [l] at st2
          obtain ⟨i, own⟩ := viewC_ok ok2 rel2 e3
          obtain ⟨a, ov, rfl, g, rep⟩ := get_own ok2.sub own e4 rel1'
          refine ⟨a, ov, rfl, g, k w2 H2 _ t2 τ2 (by omega) b2 ok2 (st1.trans (st2.mono (by omega))) (sl1.trans sl2) ?_⟩
          cases o <;> cases ov <;> first | exact rep.elim | (simp only [RelR, Rep]; rfl)
        · cases e
      · cases e
    · cases e
  · cases e
theorem ninD_snd {td ty : TE} {md mk : ME} (h1 : SndE K ty mk) (h2 : SndE K td md) : SndE K (tDNotIn ty td) (mInD true mk md) := by
  intro σ H w s t Q r s' ok e k
  simp only [mInD] at e
  split at e
  · rename_i kk s1 e1
    split at e
    · rename_i r2 s2 e2
      split at e
      · rename_i c e3
        split at e
        · rename_i o e4
          cases e
          refine h1 σ H w s t _ _ s1 ok e1 fun w1 H1 y t1 τ1 a1 a2 ok1 st1 sl1 rel1 => ?_
          refine h2 σ H1 w1 s1 t1 _ r2 _ ok1 e2 fun w2 H2 u t2 τ2 b1 b2 ok2 st2 sl2 rel2 => ?_
          have l := ok.slen ok1
          have tN := ok.tN
          have rel1' := RelR.keep ok1 rel1 st2 (by omega) (by omega) sl2
          rw [l] at st2
          obtain ⟨i, own⟩ := viewC_ok ok2 rel2 e3
          obtain ⟨a, ov, rfl, g, rep⟩ := get_own ok2.sub own e4 rel1'
          refine ⟨a, ov, rfl, g, k w2 H2 _ t2 τ2 (by omega) b2 ok2 (st1.trans (st2.mono (by omega))) (sl1.trans sl2) ?_⟩
          cases o <;> cases ov <;> first | exact rep.elim | (simp only [RelR, Rep]; rfl)
        · cases e
      · cases e
    · cases e
  · cases e
end
section
variable {X : Cx} {o i : Expr} {pos : Pos} {md mk : ME} {n : Nat}
theorem re_getD (hr : Here X n) (ho : RE X o md) (hi : RE X i mk) (hs : NoSl i := by exact fun _ _ => rfl) : RE X (.Subscript o i pos) (mGetD md mk) := by
  obtain ⟨t1, p1, s1⟩ := ho
  obtain ⟨t2, p2, s2⟩ := hi
  exact ⟨_, pe_dget hr.un1 p1 p2 hs, getD_snd s1 s2⟩
theorem re_inD (hr : Here X n) (hi : RE X i mk) (ho : RE X o md) (h1 : behindInMarks .In o = false := by rfl) : RE X (.Compare i [.In] [o] pos) (mInD false mk md) := by
  obtain ⟨t1, p1, s1⟩ := ho
  obtain ⟨t2, p2, s2⟩ := hi
  exact ⟨_, pe_cmp (pc_din hr.un1 p2 p1) h1, inD_snd s2 s1⟩
theorem re_ninD (hr : Here X n) (hi : RE X i mk) (ho : RE X o md) (h1 : behindInMarks .NotIn o = false := by rfl) : RE X (.Compare i [.NotIn] [o] pos) (mInD true mk md) := by
  obtain ⟨t1, p1, s1⟩ := ho
  obtain ⟨t2, p2, s2⟩ := hi
  exact ⟨_, pe_cmp (pc_dnotin hr.un1 p2 p1) h1, ninD_snd s2 s1⟩
theorem rt_inD (hr : Here X n) (hi : RE X i mk) (ho : RE X o md) (h1 : behindInMarks .In o = false := by rfl) : RT X (.Compare i [.In] [o] pos) (mB (mInD false mk md)) := by
  obtain ⟨t1, p1, s1⟩ := ho
  obtain ⟨t2, p2, s2⟩ := hi
  exact ⟨_, pt_cmp (pc_din hr.un1 p2 p1) h1, b_ok (inD_snd s2 s1)⟩
theorem rt_ninD (hr : Here X n) (hi : RE X i mk) (ho : RE X o md) (h1 : behindInMarks .NotIn o = false := by rfl) : RT X (.Compare i [.NotIn] [o] pos) (mB (mInD true mk md)) := by
  obtain ⟨t1, p1, s1⟩ := ho
  obtain ⟨t2, p2, s2⟩ := hi
  exact ⟨_, pt_cmp (pc_dnotin hr.un1 p2 p1) h1, b_ok (ninD_snd s2 s1)⟩
end
/-! ## in lists and tuples of data -/
def anyEqv (d : D) (ds : List D) : Bool := ds.any fun z => PyData.eqv z d
def dInS (x y : D) : Option R := if eqOk x y then match y with
  | .list ds => some (.d (.bool (anyEqv x ds)))
  | .tuple ds => some (.d (.bool (anyEqv x ds)))
  | _ => none else none
def dNinS (x y : D) : Option R := if eqOk x y then match y with
  | .list ds => some (.d (.bool (!anyEqv x ds)))
  | .tuple ds => some (.d (.bool (!anyEqv x ds)))
  | _ => none else none
def rInS (K : PySem.W.Frag) : R2 := fun x y H Q => ∃ d e ds, Dp K H x d ∧ Dp K H y e ∧ (e = .list ds ∨ e = .tuple ds) ∧ SeqAt.shaped d = true ∧ SeqAt.shaped e = true ∧ Q (.bl (anyEqv d ds)) H
def rNinS (K : PySem.W.Frag) : R2 := fun x y H Q => ∃ d e ds, Dp K H x d ∧ Dp K H y e ∧ (e = .list ds ∨ e = .tuple ds) ∧ SeqAt.shaped d = true ∧ SeqAt.shaped e = true ∧ Q (.bl (!anyEqv d ds)) H
section
variable {X : Cx}
theorem op_inS (hu : X.A.units + 65 < cLine) : OpR X (compareOp .In) (rInS X.K) := by
  rintro pins s σ H x y v u Q I rx ry ⟨d, e, ds, hd, he, c, sd, se, q⟩
  obtain ⟨as, r1⟩ := Dp.reads I d x v hd rx
  rcases c with rfl | rfl
  · obtain ⟨bs, r2⟩ := Dp.reads I (.list ds) y u he ry
    exact SeqAt.in_list_reads r2 r1 (SeqAt.canLay_of_shaped se) (SeqAt.canLay_of_shaped sd) (room_in_shaped sd hu) ⟨.bl _, H, I, rfl, q⟩
  · obtain ⟨bs, r2⟩ := Dp.reads I (.tuple ds) y u he ry
    exact SeqAt.in_tuple_reads r2 r1 (SeqAt.canLay_of_shaped se) (SeqAt.canLay_of_shaped sd) (room_in_shaped sd hu) ⟨.bl _, H, I, rfl, q⟩
theorem op_ninS (hu : X.A.units + 65 < cLine) : OpR X (compareOp .NotIn) (rNinS X.K) := by
  rintro pins s σ H x y v u Q I rx ry ⟨d, e, ds, hd, he, c, sd, se, q⟩
  obtain ⟨as, r1⟩ := Dp.reads I d x v hd rx
  rcases c with rfl | rfl
  · obtain ⟨bs, r2⟩ := Dp.reads I (.list ds) y u he ry
    exact SeqAt.notIn_list_reads r2 r1 (SeqAt.canLay_of_shaped se) (SeqAt.canLay_of_shaped sd) (room_in_shaped sd hu) ⟨.bl _, H, I, rfl, q⟩
  · obtain ⟨bs, r2⟩ := Dp.reads I (.tuple ds) y u he ry
    exact SeqAt.notIn_tuple_reads r2 r1 (SeqAt.canLay_of_shaped se) (SeqAt.canLay_of_shaped sd) (room_in_shaped sd hu) ⟨.bl _, H, I, rfl, q⟩
end
theorem o_inS {X : Cx} {n : Nat} (h : Here X n) : OpR X (compareOp .In) (rInS X.K) := op_inS (by have := h.un; omega)
theorem o_ninS {X : Cx} {n : Nat} (h : Here X n) : OpR X (compareOp .NotIn) (rNinS X.K) := op_ninS (by have := h.un; omega)
theorem s_inS {K : PySem.W.Frag} : OpS K (rInS K) dInS := by
  intro w H σ s t u v x y r Q ok hx hy e k
  unfold dInS at e
  split at e
  · rename_i hc
    simp only [eqOk, Bool.and_eq_true, Bool.not_eq_true'] at hc
    obtain ⟨⟨⟨h1, h2⟩, h3⟩, h4⟩ := hc
    split at e
    · cases e
      exact ⟨x, _, _, hx.dp ok.sub h1, hy.dp ok.sub h2, .inl rfl, h3, h4, s_d ok k (by simp only [Rep])⟩
    · cases e
      exact ⟨x, _, _, hx.dp ok.sub h1, hy.dp ok.sub h2, .inr rfl, h3, h4, s_d ok k (by simp only [Rep])⟩
    · cases e
  · cases e
theorem s_ninS {K : PySem.W.Frag} : OpS K (rNinS K) dNinS := by
  intro w H σ s t u v x y r Q ok hx hy e k
  unfold dNinS at e
  split at e
  · rename_i hc
    simp only [eqOk, Bool.and_eq_true, Bool.not_eq_true'] at hc
    obtain ⟨⟨⟨h1, h2⟩, h3⟩, h4⟩ := hc
    split at e
    · cases e
      exact ⟨x, _, _, hx.dp ok.sub h1, hy.dp ok.sub h2, .inl rfl, h3, h4, s_d ok k (by simp only [Rep])⟩
    · cases e
      exact ⟨x, _, _, hx.dp ok.sub h1, hy.dp ok.sub h2, .inr rfl, h3, h4, s_d ok k (by simp only [Rep])⟩
    · cases e
  · cases e
/-! ## gcd -/
def fGcd : List D → Option R
  | [.int i, .int j] => some (.d (.int ((Nat.gcd i.natAbs j.natAbs : Nat) : Int)))
  | _ => none
theorem s_gcd {K : PySem.W.Frag} : BltS K rGcd fGcd := by
  intro w H σ s t us xs r Q ok vw e k
  unfold fGcd at e
  split at e
  · cases e
    obtain ⟨u, u2, rfl, v, v2⟩ := vw.two
    rw [v.int, v2.int]
    exact ⟨_, _, rfl, s_d ok k (by simp only [Rep])⟩
  · cases e
theorem re_gcd {X : Cx} {e e2 : Expr} {ms : MA} {p pos : Pos} (hm : X.mg "gcd" = some (.builtin "math.gcd")) (ha : RA X [e, e2] ms) (hg : Gl X "gcd" := by rfl) (he : starEach [e, e2] X.env = (false, eval e X.env) :: starEach [e2] X.env := by rfl) (hpl : (backTo pos (starEach [e2] X.env)).any (·.1) = false := by rfl) :
    RE X (.Call (.Name "gcd" p) [e, e2] [] pos) (mBlt fGcd ms) := by
  obtain ⟨ta, p1, s1⟩ := ha
  exact ⟨_, pe_callBfun cr_gcd hg hm p1 (by decide) he hpl, blt_snd s1 s_gcd⟩
/-! ## name = [..] -/
theorem rs_setLc (i : Nat) {X : Cx} {y : Str} {py : Pos} {elt tg iter : Expr} {ifs : List Expr} {scope : Scope} {own : List (Str × Nat)} {pos spos : Pos} {src : MI} {g : D → S → Option S} {ws : List Nat} {c : MT} {m : ME} (hc : X.calm = true) (hN : X.N.Nodup) (hi : RI X tg iter src) (ok : BlkOk X.N X.env.scope scope own)
    (hg : ∀ (s : Shared) (H : Hp) (C : Addr) (cl : List (Str × Addr)) (fp : List Addr), RG (X.blk s H scope (compEnvC scope cl C X.env) fp) tg g ws) (ht : ∀ (s : Shared) (H : Hp) (C : Addr) (cl : List (Str × Addr)) (fp : List Addr), RTs (X.blk s H scope (compEnvC scope cl C X.env) fp) ifs c)
    (he : ∀ (s : Shared) (H : Hp) (C : Addr) (cl : List (Str × Addr)) (fp : List Addr), RE (X.blk s H scope (compEnvC scope cl C X.env) fp) elt m) (hw : ∀ i ∈ ws, i ∈ own.map (·.2)) (hy : X.N[i]? = some y := by rfl) (hyl : X.env.scope.names.lookup y = some .local := by rfl)
    (hsw : swapsWith (.ListComp elt [⟨tg, iter, ifs, 0⟩] scope pos) (some (.Name y py)) spos.line X.env = pure true := by exact sw_true rfl rfl rfl rfl) (hs : ∀ x, foldedSetIterable iter X.env x = pure x := by intro _; rfl) :
    RS X (.Assign [.Name y py] (.ListComp elt [⟨tg, iter, ifs, 0⟩] scope pos) spos) (mSet i (mLc src g c m (own.map (·.2)))) := by
  obtain ⟨wi, p1, s1⟩ := hi
  refine ⟨_, ps_setLc (g := tgC X.K g ws) (tt := ttC X.K c) (te := teC X.K m) hc hN hy hyl hsw p1 ok (fun s H C cl fp => (hg s H C cl fp).pg) (fun s H C cl fp => (ht s H C cl fp).pts) (fun s H C cl fp => (he s H C cl fp).pe) hs, fun σ H w s D f s' ok e k => ?_⟩
  have s2 := lc_snd (g := g) hw s1 (c := c) (m := m)
  simp only [mSet] at e
  split at e
  · cases e
  · rename_i r sa e1
    split at e
    · cases e
    · rename_i sb e2
      cases e
      refine s2 σ H w s _ _ r sa ok e1 fun w1 H1 x t' τ a1 a2 ok1 st1 sl1 rel1 => ?_
      have hl := ok.slen ok1
      obtain ⟨w2, ok2, l2, st2⟩ := store_fin ok1 hl a1 rel1 e2
      exact k.nx rfl _ w2 H1 ok2 l2 (st1.trans st2)
/-! ## divmod -/
def fDivmod : List D → Option R
  | [.int i, .int j] => if 0 < j ∧ j < 1073741824 then some (.d (.tuple [.int (i / j), .int (i % j)])) else none
  | _ => none
theorem s_divmod {K : PySem.W.Frag} : BltS K (fun xs H Q => ∃ i j, xs = [.int i, .int j] ∧ CDiv i j ∧ ∀ p, H p = none → Q (.ref p) (upd H p (.tup [.int (i / j), .int (i % j)]))) fDivmod := by
  intro w H σ s t us xs r Q ok vw e k
  unfold fDivmod at e
  split at e
  · split at e
    · rename_i hc
      cases e
      obtain ⟨u, u2, rfl, v, v2⟩ := vw.two
      rw [v.int, v2.int]
      refine ⟨_, _, rfl, hc, fun p hp => ?_⟩
      refine k (w.lay p (.tup _)) _ _ ((lay_ok ok hp).up (Nat.le_succ _)) (lay_step ok hp) ?_
      simp only [RelR, Rep]
      exact ⟨p, _, rfl, upd_same, .cons (by simp only [Rep]) (.cons (by simp only [Rep]) .nil)⟩
    · cases e
  · cases e
theorem re_divmod {X : Cx} {e e2 : Expr} {ms : MA} {p pos : Pos} (hm : X.mg "divmod" = none) (ha : RA X [e, e2] ms) (hg : Gl X "divmod" := by rfl) (he : starEach [e, e2] X.env = (false, eval e X.env) :: starEach [e2] X.env := by rfl) (hpl : (backTo pos (starEach [e2] X.env)).any (·.1) = false := by rfl) : RE X (.Call (.Name "divmod" p) [e, e2] [] pos) (mBlt fDivmod ms) :=
  re_blt call_divmod s_divmod hm (by decide +kernel) ha hg (by decide) (by decide) he hpl
/-! ## parallel stores where a name is a cell: a tuple is made and thrown away -/
section
variable {K : PySem.W.Frag} {t t0 n : Nat} {H : Hp} {σ : St}
theorem junk_ok {w : Wd} {s : S} {p : Addr} {o : HO} (ok : OKs K w H σ s t) (hp : H p = none) : OKs K w (upd H p o) σ s t := by
  have on : ∀ a i, w.O a = some i → a ≠ p := fun a i h => by
    obtain ⟨_, ⟨u, h2, _⟩, _⟩ := ok.own a i h
    exact ne_of_none h2 hp
  refine ⟨fun b u e => ?_, ok.len, fun i q v h1 h2 => SlR.mono (ok.sl i q v h1 h2) (Same.refl _) rfl (fun a ha => ⟨ha, upd_ne (on a i ha)⟩), fun a i e => ?_, ok.tN, fun q g e => ?_, ok.nob⟩
  · rw [upd_ne (ne_of_none (ok.sub b u e) hp)]; exact ok.sub b u e
  · obtain ⟨h1, ⟨u, h2, nt⟩, h3⟩ := ok.own a i e
    exact ⟨h1, ⟨u, by rw [upd_ne (on a i e)]; exact h2, nt⟩, h3⟩
  · obtain ⟨b, o1, o2⟩ := ok.box q g e
    exact ⟨⟨b.fp, b.fg, b.ne, by rw [upd_ne (ne_of_none b.hp hp)]; exact b.hp, by rw [upd_ne (ne_of_none b.hg hp)]; exact b.hg⟩, o1, o2⟩
theorem junk_step {w : Wd} {p : Addr} {o : HO} (hp : H p = none) : Step n t0 w H w (upd H p o) where
  F := Same.refl _
  keep := fun a u h _ _ => by rw [upd_ne (ne_of_none h hp)]; exact h
  there := fun a u h => ⟨u, by rw [upd_ne (ne_of_none h hp)]; exact h⟩
  tmp := fun a i h _ _ => h
  newF := fun a h => .inl h
  newO := fun a i h => .inr (by rw [h]; simp)
  newT := fun a i h _ => .inr h
  B := .inl rfl
theorem parC_snd {ta : TA} {ts : TS} {is : List Nat} {ms : MA} (h : SndA K ta ms) (hts : ∀ (D : Ends) (σ : St) (H : Hp), (ta σ H fun vs H1 => vs.length = is.length ∧ ∀ p, H1 p = none → D.nx (setAll σ is vs) (upd H1 p (.tup vs))) → ts D σ H) : SndS K ts (mPar is ms) := by
  intro σ H w s D f s' ok e k
  simp only [mPar] at e
  split at e
  · cases e
  · rename_i rs sa e1
    split at e
    · cases e
    · rename_i qs sb e2
      split at e
      · cases e
      · rename_i sc e3
        cases e
        refine hts D σ H (h σ H w s s.a.length _ rs sa ok e1 fun w1 H1 us t1 a1 ok1 st1 sl1 rel1 => ?_)
        have l1 := ok.slen ok1
        obtain ⟨w2, ok2, st2, rel2, ns, sl2, l2, _, _⟩ := norms_ok (t0 := s.a.length) rs us qs sa sb w1 s.a.length ok1 rel1 e2 (Nat.le_refl _) (by omega)
        rw [l1] at st2 l2
        obtain ⟨w3, ok3, l3, st3, lu⟩ := puts_ok is qs us σ sb _ w2 s.a.length ok2 l2 (Nat.le_refl _) rel2 ns e3
        refine ⟨lu, fun p hp => k.nx rfl _ _ _ (drop_ok (junk_ok (o := .tup us) ok3 hp) l3) l3 ((((st1.trans st2).trans st3).trans (junk_step hp)).trans drop_step)⟩
end
section
variable {X : Cx} {a b c : Expr} {ms : MA} {x y z : Str} {px py pz pt pos pt2 : Pos} {kt k2 : Nat}
theorem rs_parC (i j : Nat) (hc : X.calm = true) (nd : X.N.Nodup) (ha : RA X [a, b] ms) (hi : X.N[i]? = some x := by rfl) (hj : X.N[j]? = some y := by rfl)
    (hx : Loc X.env.scope x) (hy : Loc X.env.scope y) (fx : X.fn x = true ∨ X.env.scope.names.lookup x = some .local) (fy : X.fn y = true ∨ X.env.scope.names.lookup y = some .local)
    (hs : swapsWithSole [.Tuple [.Name x px, .Name y py] kt pt] (.Tuple [a, b] k2 pt2) pos.line X.env = pure false := by rfl) (hw : swappedStores [.Tuple [.Name x px, .Name y py] kt pt] (.Tuple [a, b] k2 pt2) X.env = pure none := by rfl)
    (h1 : (assignEach [.Tuple [.Name x px, .Name y py] kt pt] X.env).map (·.2) = [assign (.Tuple [.Name x px, .Name y py] kt pt) X.env] := by rfl)
    (hn : (assignEach [.Name x px, .Name y py] X.env).length = 2 := by rfl) (hst : (assignEach [.Name x px, .Name y py] X.env).findIdx? (·.1) = none := by rfl)
    (e1 : (assignEach (.Name x px :: [.Name y py]) X.env).map (·.2) = assign (.Name x px) X.env :: (assignEach [.Name y py] X.env).map (·.2) := by rfl)
    (e2 : (assignEach (.Name y py :: []) X.env).map (·.2) = assign (.Name y py) X.env :: (assignEach [] X.env).map (·.2) := by rfl) :
    RS X (.Assign [.Tuple [.Name x px, .Name y py] kt pt] (.Tuple [a, b] k2 pt2) pos) (mPar [i, j] ms) :=
  ⟨_, ps_asg (pe_tup ha.pa) (pg_tup hc (pgs_cons (pg_name nd hi hx fx) (pgs_cons (pg_name nd hj hy fy) pgs_nil e2) e1) hn hst) hs hw h1, parC_snd snd_taC fun D σ H h => mono_taC σ H _ _ (fun vs H1 ⟨hl, q⟩ => by
    match vs, hl with
    | [u, v], _ =>
      exact ⟨(by decide : 2 ≤ sizeLine), fun p hp => ⟨p, [u, v], rfl, SqT.of upd_same, rfl, u, [v], rfl, v, [], rfl, rfl, q p hp⟩⟩) h⟩
theorem rs_parC3 (i j l : Nat) (hc : X.calm = true) (nd : X.N.Nodup) (ha : RA X [a, b, c] ms) (hi : X.N[i]? = some x := by rfl) (hj : X.N[j]? = some y := by rfl) (hl : X.N[l]? = some z := by rfl)
    (hx : Loc X.env.scope x) (hy : Loc X.env.scope y) (hz : Loc X.env.scope z) (fx : X.fn x = true ∨ X.env.scope.names.lookup x = some .local) (fy : X.fn y = true ∨ X.env.scope.names.lookup y = some .local) (fz : X.fn z = true ∨ X.env.scope.names.lookup z = some .local)
    (hs : swapsWithSole [.Tuple [.Name x px, .Name y py, .Name z pz] kt pt] (.Tuple [a, b, c] k2 pt2) pos.line X.env = pure false := by rfl) (hw : swappedStores [.Tuple [.Name x px, .Name y py, .Name z pz] kt pt] (.Tuple [a, b, c] k2 pt2) X.env = pure none := by rfl)
    (h1 : (assignEach [.Tuple [.Name x px, .Name y py, .Name z pz] kt pt] X.env).map (·.2) = [assign (.Tuple [.Name x px, .Name y py, .Name z pz] kt pt) X.env] := by rfl)
    (hn : (assignEach [.Name x px, .Name y py, .Name z pz] X.env).length = 3 := by rfl) (hst : (assignEach [.Name x px, .Name y py, .Name z pz] X.env).findIdx? (·.1) = none := by rfl)
    (e1 : (assignEach (.Name x px :: [.Name y py, .Name z pz]) X.env).map (·.2) = assign (.Name x px) X.env :: (assignEach [.Name y py, .Name z pz] X.env).map (·.2) := by rfl)
    (e2 : (assignEach (.Name y py :: [.Name z pz]) X.env).map (·.2) = assign (.Name y py) X.env :: (assignEach [.Name z pz] X.env).map (·.2) := by rfl)
    (e3 : (assignEach (.Name z pz :: []) X.env).map (·.2) = assign (.Name z pz) X.env :: (assignEach [] X.env).map (·.2) := by rfl) :
    RS X (.Assign [.Tuple [.Name x px, .Name y py, .Name z pz] kt pt] (.Tuple [a, b, c] k2 pt2) pos) (mPar [i, j, l] ms) :=
  ⟨_, ps_asg (pe_tup ha.pa) (pg_tup hc (pgs_cons (pg_name nd hi hx fx) (pgs_cons (pg_name nd hj hy fy) (pgs_cons (pg_name nd hl hz fz) pgs_nil e3) e2) e1) hn hst) hs hw h1, parC_snd snd_taC fun D σ H h => mono_taC σ H _ _ (fun vs H1 ⟨hl, q⟩ => by
    match vs, hl with
    | [u, v, w], _ =>
      exact ⟨(by decide : 3 ≤ sizeLine), fun p hp => ⟨p, [u, v, w], rfl, SqT.of upd_same, rfl, u, [v, w], rfl, v, [w], rfl, w, [], rfl, rfl, q p hp⟩⟩) h⟩
end
end Qz
namespace Qz
open PySem PySem.Spec L2
open PyProof.Rows hiding St
/-! ## what is never reached: nothing is said of it -/
def mNoS : MS := fun _ => .no
def mNoE : ME := fun _ => .no
section
variable {X : Cx} {st : Stmt} {e : Expr}
theorem rs_no : RS X st mNoS := ⟨fun _ _ _ => False, ⟨fun _ _ _ _ _ _ h => h.elim⟩, fun _ _ _ _ _ _ _ _ e _ => nomatch e⟩
theorem re_no : RE X e mNoE := ⟨fun _ _ _ => False, ⟨fun _ _ _ _ _ _ h => h.elim⟩, fun _ _ _ _ _ _ _ _ _ e _ => nomatch e⟩
end
/-! ## the greatest and the least of a list of numbers -/
def topI : Int → List Int → Int
  | i, [] => i
  | i, j :: r => topI (if i < j then j else i) r
def lowI : Int → List Int → Int
  | i, [] => i
  | i, j :: r => lowI (if j < i then j else i) r
theorem topI_mem : ∀ (r : List Int) (i : Int), topI i r ∈ i :: r
  | [], i => by simp [topI]
  | j :: r, i => by
    have h := topI_mem r (if i < j then j else i)
    simp only [topI]
    rcases List.mem_cons.mp h with h | h
    · rw [h]; split <;> simp
    · simp [h]
theorem topI_ge : ∀ (r : List Int) (i y : Int), y ∈ i :: r → y ≤ topI i r
  | [], i, y, h => by simp at h; simp only [topI]; omega
  | j :: r, i, y, h => by
    simp only [topI]
    have h1 := topI_ge r (if i < j then j else i) (if i < j then j else i) List.mem_cons_self
    rcases List.mem_cons.mp h with h | h
    · split at h1 <;> split <;> omega
    · rcases List.mem_cons.mp h with h | h
      · split at h1 <;> split <;> omega
      · exact topI_ge r _ y (List.mem_cons_of_mem _ h)
theorem lowI_mem : ∀ (r : List Int) (i : Int), lowI i r ∈ i :: r
  | [], i => by simp [lowI]
  | j :: r, i => by
    have h := lowI_mem r (if j < i then j else i)
    simp only [lowI]
    rcases List.mem_cons.mp h with h | h
    · rw [h]; split <;> simp
    · simp [h]
theorem lowI_le : ∀ (r : List Int) (i y : Int), y ∈ i :: r → lowI i r ≤ y
  | [], i, y, h => by simp at h; simp only [lowI]; omega
  | j :: r, i, y, h => by
    simp only [lowI]
    have h1 := lowI_le r (if j < i then j else i) (if j < i then j else i) List.mem_cons_self
    rcases List.mem_cons.mp h with h | h
    · split at h1 <;> split <;> omega
    · rcases List.mem_cons.mp h with h | h
      · split at h1 <;> split <;> omega
      · exact lowI_le r _ y (List.mem_cons_of_mem _ h)
def fMaxL : List D → Option R
  | [.list ds] => match intsD? ds with
    | some (i :: r) => some (.d (.int (topI i r)))
    | _ => none
  | _ => none
def fMinL : List D → Option R
  | [.list ds] => match intsD? ds with
    | some (i :: r) => some (.d (.int (lowI i r)))
    | _ => none
  | _ => none
section
variable {K : PySem.W.Frag}
theorem s_maxL : BltS K (rMax K) fMaxL := by
  intro w H σ s t us xs r Q ok vw e k
  unfold fMaxL at e
  split at e
  · rename_i ds
    obtain ⟨u, rfl, v⟩ := vw.one
    obtain ⟨a, ys, rfl, h1, h2⟩ := v.lst ok.sub
    split at e
    · rename_i i r e1
      cases e
      rw [intsD_eq e1] at h2
      rw [ints_rep (i :: r) ys h2] at h1
      refine ⟨a, i :: r, rfl, h1, Nat.succ_pos _, fun m hm hall => ?_⟩
      have e2 : m = topI i r := Int.le_antisymm (topI_ge r i m hm) (hall _ (topI_mem r i))
      rw [e2]
      exact s_d ok k (by simp only [Rep])
    · cases e
  · cases e
theorem s_minL : BltS K (rMin K) fMinL := by
  intro w H σ s t us xs r Q ok vw e k
  unfold fMinL at e
  split at e
  · rename_i ds
    obtain ⟨u, rfl, v⟩ := vw.one
    obtain ⟨a, ys, rfl, h1, h2⟩ := v.lst ok.sub
    split at e
    · rename_i i r e1
      cases e
      rw [intsD_eq e1] at h2
      rw [ints_rep (i :: r) ys h2] at h1
      refine ⟨a, i :: r, rfl, h1, Nat.succ_pos _, fun m hm hall => ?_⟩
      have e2 : m = lowI i r := Int.le_antisymm (hall _ (lowI_mem r i)) (lowI_le r i m hm)
      rw [e2]
      exact s_d ok k (by simp only [Rep])
    · cases e
  · cases e
end
section
variable {X : Cx} {e : Expr} {ms : MA} {p pos : Pos}
theorem re_maxL (hc : X.calm = true) (hm : X.mg "max" = none) (ha : RA X [e] ms) (hg : Gl X "max" := by rfl) (he : starEach [e] X.env = (false, eval e X.env) :: starEach [] X.env := by rfl) : RE X (.Call (.Name "max" p) [e] [] pos) (mBlt fMaxL ms) :=
  re_blt (cr_max hc) s_maxL hm (by decide +kernel) ha hg (by decide) (by decide) he rfl
theorem re_minL (hc : X.calm = true) (hm : X.mg "min" = none) (ha : RA X [e] ms) (hg : Gl X "min" := by rfl) (he : starEach [e] X.env = (false, eval e X.env) :: starEach [] X.env := by rfl) : RE X (.Call (.Name "min" p) [e] [] pos) (mBlt fMinL ms) :=
  re_blt (cr_min hc) s_minL hm (by decide +kernel) ha hg (by decide) (by decide) he rfl
end
/-! ## in a tuple of the module -/
/-- the name stands for a tuple of texts that the module made -/
def ModT (K : PySem.W.Frag) (mg : Str → Option Value) (x : Str) (ws : List Str) : Prop :=
  ∃ (a : Addr) (o : Obj) (its : Array Value) (n : Nat), mg x = some (.ref a) ∧ K.lookup a = some o ∧ o.cls = .type "tuple" ∧ o.data = .seq its n ∧ its.size ≤ sizeLine ∧ Vals (ws.map V.str) its.toList
theorem dpAll_strs {K : PySem.W.Frag} {H : Hp} : ∀ ws : List Str, DpAll K H (ws.map V.str) (ws.map .str)
  | [] => .nil
  | x :: ws => .cons (.str x) (dpAll_strs ws)
def dInK (ws : List Str) (x : D) : Option R := dInS x (.tuple (ws.map .str))
def dNinK (ws : List Str) (x : D) : Option R := dNinS x (.tuple (ws.map .str))
section
variable {K : PySem.W.Frag} {a : Addr} {ws : List Str} {t1 : TE} {m1 : ME}
theorem inK_snd (hq : ∀ H, SqT K H a (ws.map V.str)) (s1 : SndE K t1 m1) : SndE K (tOp (rInS K) t1 (tC (.ref a))) (mUn (dInK ws) m1) := by
  intro σ H w s t Q r s' ok e k
  simp only [mUn] at e
  split at e
  · cases e
  · rename_i r1 sa e1
    split at e
    · cases e
    · rename_i y e2
      split at e
      · cases e
      · rename_i r' e3
        cases e
        refine s1 σ H w s t _ r1 _ ok e1 fun w1 H1 u t1' τ1 a1 a2 ok1 st1 sl1 rel1 => ?_
        have hy := RelR.view ok1 rel1 e2
        unfold dInK dInS at e3
        split at e3
        · rename_i hc
          simp only [eqOk, Bool.and_eq_true, Bool.not_eq_true'] at hc
          obtain ⟨⟨⟨q1, q2⟩, q3⟩, q4⟩ := hc
          cases e3
          refine ⟨y, _, _, hy.dp ok1.sub q1, .tup (hq H1) (dpAll_strs ws), .inr rfl, q3, q4, ?_⟩
          exact k w1 H1 _ t1' τ1 a1 a2 ok1 st1 sl1 (by simp only [RelR, Rep])
        · cases e3
theorem ninK_snd (hq : ∀ H, SqT K H a (ws.map V.str)) (s1 : SndE K t1 m1) : SndE K (tOp (rNinS K) t1 (tC (.ref a))) (mUn (dNinK ws) m1) := by
  intro σ H w s t Q r s' ok e k
  simp only [mUn] at e
  split at e
  · cases e
  · rename_i r1 sa e1
    split at e
    · cases e
    · rename_i y e2
      split at e
      · cases e
      · rename_i r' e3
        cases e
        refine s1 σ H w s t _ r1 _ ok e1 fun w1 H1 u t1' τ1 a1 a2 ok1 st1 sl1 rel1 => ?_
        have hy := RelR.view ok1 rel1 e2
        unfold dNinK dNinS at e3
        split at e3
        · rename_i hc
          simp only [eqOk, Bool.and_eq_true, Bool.not_eq_true'] at hc
          obtain ⟨⟨⟨q1, q2⟩, q3⟩, q4⟩ := hc
          cases e3
          refine ⟨y, _, _, hy.dp ok1.sub q1, .tup (hq H1) (dpAll_strs ws), .inr rfl, q3, q4, ?_⟩
          exact k w1 H1 _ t1' τ1 a1 a2 ok1 st1 sl1 (by simp only [RelR, Rep])
        · cases e3
end
theorem ModT.at {K : PySem.W.Frag} {mg : Str → Option Value} {x : Str} {ws : List Str} (h : ModT K mg x ws) : ∃ a, mg x = some (.ref a) ∧ ∀ H, SqT K H a (ws.map V.str) := by
  obtain ⟨a, o, its, k0, h1, h2⟩ := h
  exact ⟨a, h1, fun H => .inr ⟨o, its, k0, h2⟩⟩
section
variable {X : Cx} {i : Expr} {m1 : ME} {x : Str} {ws : List Str} {p pos : Pos} {n : Nat}
theorem re_inK (hr : Here X n) (ht : ModT X.K X.mg x ws) (ha : RE X i m1) (hg : Gl X x := by rfl) (hd : (x == ("__debug__" : Str)) = false := by decide) (hb : behindInMarks .In (.Name x p) = false := by rfl) : RE X (.Compare i [.In] [.Name x p] pos) (mUn (dInK ws) m1) := by
  obtain ⟨a, h1, h2⟩ := ht.at
  obtain ⟨t1, p1, s1⟩ := ha
  exact ⟨_, pe_cmpR (o_inS hr) p1 (pe_glob (v := .ref a) hg h1 rfl hd) hb, inK_snd h2 s1⟩
theorem re_ninK (hr : Here X n) (ht : ModT X.K X.mg x ws) (ha : RE X i m1) (hg : Gl X x := by rfl) (hd : (x == ("__debug__" : Str)) = false := by decide) (hb : behindInMarks .NotIn (.Name x p) = false := by rfl) : RE X (.Compare i [.NotIn] [.Name x p] pos) (mUn (dNinK ws) m1) := by
  obtain ⟨a, h1, h2⟩ := ht.at
  obtain ⟨t1, p1, s1⟩ := ha
  exact ⟨_, pe_cmpR (o_ninS hr) p1 (pe_glob (v := .ref a) hg h1 rfl hd) hb, ninK_snd h2 s1⟩
theorem rt_inK (hr : Here X n) (ht : ModT X.K X.mg x ws) (ha : RE X i m1) (hg : Gl X x := by rfl) (hd : (x == ("__debug__" : Str)) = false := by decide) (hb : behindInMarks .In (.Name x p) = false := by rfl) : RT X (.Compare i [.In] [.Name x p] pos) (mB (mUn (dInK ws) m1)) := by
  obtain ⟨a, h1, h2⟩ := ht.at
  obtain ⟨t1, p1, s1⟩ := ha
  exact ⟨_, pt_cmpR (o_inS hr) p1 (pe_glob (v := .ref a) hg h1 rfl hd) hb, b_ok (inK_snd h2 s1)⟩
theorem rt_ninK (hr : Here X n) (ht : ModT X.K X.mg x ws) (ha : RE X i m1) (hg : Gl X x := by rfl) (hd : (x == ("__debug__" : Str)) = false := by decide) (hb : behindInMarks .NotIn (.Name x p) = false := by rfl) : RT X (.Compare i [.NotIn] [.Name x p] pos) (mB (mUn (dNinK ws) m1)) := by
  obtain ⟨a, h1, h2⟩ := ht.at
  obtain ⟨t1, p1, s1⟩ := ha
  exact ⟨_, pt_cmpR (o_ninS hr) p1 (pe_glob (v := .ref a) hg h1 rfl hd) hb, b_ok (ninK_snd h2 s1)⟩
end
end Qz
namespace Qz
open PySem PySem.Spec L2
open PyProof.Rows hiding St
/-! ## sorted(..) of tuples of any depth -/
noncomputable def sortD (ds : List D) : List D := ds.mergeSort (PySem.W.sortLe (listOrd itemOrd) false PySem.W.keyToks)
theorem sortD_perm (ds : List D) : (sortD ds).Perm ds := List.mergeSort_perm _ _
def tupNE : D → Bool
  | .tuple (_ :: _) => true
  | _ => false
theorem tupNE_eq {d : D} (h : tupNE d = true) : ∃ x r, d = .tuple (x :: r) := by
  unfold tupNE at h
  split at h
  · exact ⟨_, _, rfl⟩
  · cases h
def rSortedD (K : PySem.W.Frag) : List V → Hp → VK → Prop := fun vs H Q => ∃ (a : Addr) (xs : List V) (ds : List D), vs = [V.ref a] ∧ SqL K H a xs ∧ DpAll K H xs ds ∧ PySem.W.AllAlike ds ∧ (∀ d, d ∈ ds → ∃ x r, d = .tuple (x :: r)) ∧ (∀ d, d ∈ ds → d.depth ≤ 60) ∧
  ∀ ys p, PySem.W.EachIs (fun y d => (y, d) ∈ xs.zip ds) ys (sortD ds) → H p = none → Q (.ref p) (upd H p (.lst ys))
section
variable {X : Cx} {pins : List (Addr × Obj)} {σ : St} {H : Hp} {s : Shared}
theorem each_reads (I : Inv X pins σ H s) : ∀ {xs : List V} {us : List Value} {ds : List D}, DpAll X.K H xs ds → Vals xs us → PySem.W.EachIs (fun u d => ∃ as, Reads s.heap u d as) us ds
  | _, _, _, .nil, .nil => .nil
  | _, _, _, .cons h t, .cons r rs => .cons (Dp.reads I _ _ _ h r) (each_reads I t rs)
theorem dpAll_tup : ∀ {xs : List V} {ds : List D}, DpAll X.K H xs ds → (∀ d, d ∈ ds → ∃ x r, d = .tuple (x :: r)) → ∀ x ∈ xs, ∃ a, x = V.ref a
  | _, _, .nil, _, x, hx => by cases hx
  | _, _, .cons (v := v) (d := d) h t, ht, x, hx => by
    rcases List.mem_cons.mp hx with e | hx
    · obtain ⟨y, r, e2⟩ := ht _ List.mem_cons_self
      rw [e2] at h
      cases h with
      | tup h1 h2 => exact ⟨_, e⟩
    · exact dpAll_tup t (fun d hd => ht d (List.mem_cons_of_mem _ hd)) x hx
theorem each_keys {h : Heap} {ds0 : List D} (hal : PySem.W.AllAlike ds0) : ∀ {us : List Value} {ds : List D}, PySem.W.EachIs (fun u d => ∃ as, Reads h u d as) us ds → (∀ d ∈ ds, d ∈ ds0) → PySem.W.EachIs (fun v b => (PySem.W.dataKind h ds0).keyOf v = some (PySem.W.keyToks b)) us ds
  | _, _, .nil, _ => .nil
  | _, _, .cons h t, hm => .cons (by obtain ⟨as, r⟩ := h; exact PySem.W.dataKind_some hal (hm _ List.mem_cons_self) r) (each_keys hal t fun d hd => hm d (List.mem_cons_of_mem _ hd))
end
theorem cr_sortedD {X : Cx} {n : Nat} (hr : Here X n) : CallR X (.builtin "sorted") (rSortedD X.K) := by
  intro pins s σ H vs us Q I r h
  obtain ⟨a, xs, ds, rfl, hs, hd, hal, ht, hdep, q⟩ := h
  obtain ⟨its, rv, hl, hz⟩ := I.list hs
  obtain ⟨u, rfl, ru⟩ := vals1 r
  obtain rfl : u = Value.ref a := ru
  obtain ⟨e1, e2⟩ := refs_back rv (dpAll_tup hd ht)
  have e0 := each_reads I hd rv
  have e3 : PySem.W.EachIs (fun u d => ∃ as, Reads (PySem.W.sortingHeap (PySem.W.copyHeap s.heap its) (s.heap.objs.size + 1) its) u d as) its ds := e0.mono fun v d ⟨as, h⟩ => ⟨as, PyProof.Rows.Reads.keeps (fun b o e => PySem.W.sorting_copy_old e) h⟩
  have hun := hr.un
  refine PySem.W.sorted_vals hl.isList (PySem.W.SortsAt.data (s := { s with heap := PySem.W.sortingHeap (PySem.W.copyHeap s.heap its) (s.heap.objs.size + 1) its }) e3 hal (.inl ht) fun d hd => ?_) (by rw [← rv.length]; exact hz) ?_
  · have := hdep d hd
    have hu2 : X.A.in1.in1.units ≤ X.A.units + 2 := by simp [Around.in1]
    omega
  · have hk := each_keys hal e3 fun d hd => hd
    have hR : PySem.W.EachIs (fun (v : Value) d => (backV v, d) ∈ xs.zip ds) its ds := by
      refine PySem.W.EachIs.of_zip e3.length fun p hp => ?_
      rw [e1, List.zip_map_left]
      exact List.mem_map.mpr ⟨p, hp, rfl⟩
    have hS := PySem.W.sortVals_each (κ := PySem.W.dataKind (PySem.W.sortingHeap (PySem.W.copyHeap s.heap its) (s.heap.objs.size + 1) its) ds) (rev := false) PySem.W.keyToks hR hk
    generalize hout : PySem.W.sortVals (PySem.W.dataKind (PySem.W.sortingHeap (PySem.W.copyHeap s.heap its) (s.heap.objs.size + 1) its) ds) false its its = out at hS ⊢
    have hmem : ∀ u ∈ out, u ∈ its := fun u hu => PySem.W.sortVals_mem false (by rw [hout]; exact hu)
    have hlen : out.length = its.length := by rw [← hout]; exact PySem.W.sortVals_length false rfl
    have h3 : ∀ u ∈ out, ∃ a, u = Value.ref a := fun u hu => e2 u (hmem u hu)
    obtain ⟨n, hn⟩ := sortedAll_at s.heap its out.toArray
    have hY : PySem.W.EachIs (fun y d => (y, d) ∈ xs.zip ds) (out.map backV) (sortD ds) := by
      have key : ∀ {us : List Value} {es : List D}, PySem.W.EachIs (fun (v : Value) d => (backV v, d) ∈ xs.zip ds) us es → PySem.W.EachIs (fun y d => (y, d) ∈ xs.zip ds) (us.map backV) es := by
        intro us es h
        induction h with
        | nil => exact .nil
        | cons a _ ih => exact .cons a ih
      exact key hS
    have hn0 := I.hok.fresh (Nat.le_succ s.heap.objs.size)
    refine ⟨.ref (s.heap.objs.size + 1), upd H (s.heap.objs.size + 1) (.lst (out.map backV)), I.laid (t' := s.toks) (fun b o e => sortedAll_old e) (Nat.le_succ _) ⟨?_, out, n, vals_back h3, hn⟩, rfl, q _ _ hY hn0⟩
    rw [List.length_map, hlen, ← rv.length]
    exact hz
noncomputable def fSortedN : List D → Option R
  | [.list ds] => match fSorted [.list ds] with
    | some r => some r
    | none => if ds.all tupNE = true ∧ (ds.all fun d => ds.all fun e => PySem.W.alike d e) = true ∧ PyData.hasDictAll ds = false ∧ (ds.all fun d => decide (d.depth ≤ 60)) = true then some (.o (.lst (sortD ds))) else none
  | _ => none
section
variable {K : PySem.W.Frag}
theorem repL_zip {F : Hp} : ∀ (ds : List D) (xs : List V), RepL K F ds xs → ∀ p ∈ xs.zip ds, Rep K F p.2 p.1
  | [], _, h, p, hp => by simp at hp
  | d :: ds, _, h, p, hp => by
    simp only [RepL] at h
    obtain ⟨x, r, rfl, h1, h2⟩ := h
    rw [List.zip_cons_cons] at hp
    rcases List.mem_cons.mp hp with rfl | hp
    · exact h1
    · exact repL_zip ds r h2 p hp
theorem repL_each {F : Hp} {z : List (V × D)} (hz : ∀ p ∈ z, Rep K F p.2 p.1) : ∀ {ys : List V} {es : List D}, PySem.W.EachIs (fun y d => (y, d) ∈ z) ys es → RepL K F es ys
  | _, _, .nil => .nil
  | _, _, .cons h t => .cons (hz _ h) (repL_each hz t)
theorem s_sortedN : BltS K (fun us H Q => (rSortedTI K us H Q ∨ rSortedI K us H Q) ∨ rSortedD K us H Q) fSortedN := by
  intro w H σ s t us xs r Q ok vw e k
  unfold fSortedN at e
  split at e
  · rename_i ds
    split at e
    · rename_i r' e1
      cases e
      exact .inl (s_sorted w H σ s t us _ r Q ok vw e1 k)
    · split at e
      · rename_i hc
        obtain ⟨c1, c2, c3, c4⟩ := hc
        cases e
        obtain ⟨u, rfl, v⟩ := vw.one
        obtain ⟨a, ys, rfl, h1, h2⟩ := v.lst ok.sub
        refine .inr ⟨a, ys, ds, rfl, h1, RepL.dp ok.sub ds ys h2 c3, fun d hd d' hd' => ?_, fun d hd => tupNE_eq (List.all_eq_true.mp c1 d hd), fun d hd => of_decide_eq_true (List.all_eq_true.mp c4 d hd), fun zs p hz hp => ?_⟩
        · exact List.all_eq_true.mp (List.all_eq_true.mp c2 d hd) d' hd'
        · refine k (w.give p t) _ _ (give_ok ok hp) (give_step ok hp) ?_
          exact ⟨p, zs, rfl, if_pos rfl, upd_same, repL_each (repL_zip ds ys h2) hz⟩
      · cases e
  · cases e
variable {X : Cx} {e : Expr} {ms : MA} {p pos : Pos} {n : Nat}
theorem re_sortedN (hr : Here X n) (hm : X.mg "sorted" = none) (ha : RA X [e] ms) (hg : Gl X "sorted" := by rfl) (he : starEach [e] X.env = (false, eval e X.env) :: starEach [] X.env := by rfl) : RE X (.Call (.Name "sorted" p) [e] [] pos) (mBlt fSortedN ms) :=
  re_blt ((cr_sortedTI.or cr_sortedI).or (cr_sortedD hr)) s_sortedN hm (by decide +kernel) ha hg (by decide) (by decide) he rfl
end
end Qz
namespace Qz
open PySem PySem.Spec L2
open PyProof.Rows hiding St
/-! ## xs[k] = v, xs a list in slot i -/
def putL (c : C) (k v : D) : Option C := match c, k with
  | .lst l, .int j => if 0 ≤ j ∧ j.toNat < l.length then some (.lst (l.set j.toNat v)) else none
  | _, _ => none
def mPutL (i : Nat) (mk mv : ME) : MS := fun s => match mv s with
  | .no => .no
  | .ok rv s1 => match s1.a[i]? with
    | some (some (.o _)) => match mk s1 with
      | .no => .no
      | .ok rk s2 => match takes s2 [rv, rk] with
        | some ([v, k], s3) => match s3.a[i]? with
          | some (some (.o c)) => match putL c k v with
            | some c' => .ok .nx { s3 with a := s3.a.set i (some (.o c')) }
            | none => .no
          | _ => .no
        | _ => .no
    | _ => .no
section
variable {K : PySem.W.Frag} {F H : Hp}
theorem repL_set : ∀ (l : List D) (ys : List V) (n : Nat) (v : D) (x : V), RepL K F l ys → Rep K F v x → RepL K F (l.set n v) (ys.set n x)
  | [], _, n, v, x, h, _ => by simp only [RepL] at h; subst h; exact .nil
  | d :: l, _, n, v, x, h, hv => by
    simp only [RepL] at h
    obtain ⟨y, r, rfl, h1, h2⟩ := h
    cases n with
    | zero => exact .cons hv h2
    | succ n => exact .cons h1 (repL_set l r n v x h2 hv)
theorem putL_own {w : Wd} {i : Nat} {c c' : C} {k v : D} {a : Addr} {x y : V} (h : Own K w H i c (.ref a)) (e : putL c k v = some c') (hk : Rep K w.F k y) (hv : Rep K w.F v x) :
    ∃ (ys : List V) (j : Int), y = .int j ∧ H a = some (.lst ys) ∧ ixN ys.length j = some j.toNat ∧ w.O a = some i ∧ Own K w (upd H a (.lst (ys.set j.toNat x))) i c' (.ref a) := by
  unfold putL at e
  split at e
  · rename_i l j
    split at e
    · rename_i hc
      cases e
      obtain ⟨b, ys, e1, h1, h2, h3⟩ := h
      cases e1
      simp only [Rep] at hk
      refine ⟨ys, j, hk, h2, ?_, h1, a, _, rfl, h1, upd_same, repL_set _ _ _ _ _ h3 hv⟩
      have hl := RepL.length _ _ h3
      unfold ixN
      rw [if_pos hc.1, if_pos (by omega)]
    · cases e
  · cases e
end
section
variable {X : Cx} {e ek value : Expr} {mk mv : ME} {i : Nat} {x : Str} {p pos pos' : Pos}
theorem rs_putL (i : Nat) (hk : RE X ek mk) (hv : RE X value mv) (hN : X.N[i]? = some x := by rfl) (hvis : Vis X.env.scope x := by first | exact Or.inl rfl | exact Or.inr (Or.inl rfl) | exact Or.inr (Or.inr rfl)) (hd : (x == ("__debug__" : Str)) = false := by decide) (hcd : (x == ("__classdict__" : Str)) = false := by decide)
    (ha : ∀ v, assign (.Subscript (.Name x p) ek pos') X.env v = (do
      let ov ← holding [v] (eval (.Name x p) X.env)
      let iv ← holding [v, ov] (eval ek X.env)
      standAt pos'
      holding [v, ov, iv] (setItem ov iv v)
      release [v, ov, iv] []) := by intro _; rfl)
    (hs : swapsWithSole [.Subscript (.Name x p) ek pos'] value pos.line X.env = pure false := by rfl) (hw : swappedStores [.Subscript (.Name x p) ek pos'] value X.env = pure none := by rfl) (h1 : (assignEach [.Subscript (.Name x p) ek pos'] X.env).map (·.2) = [assign (.Subscript (.Name x p) ek pos') X.env] := by rfl) :
    RS X (.Assign [.Subscript (.Name x p) ek pos'] value pos) (mPutL i mk mv) := by
  obtain ⟨t1, p1, s1⟩ := hk
  obtain ⟨t2, p2, s2⟩ := hv
  refine ⟨_, ps_asg p2 (pg_sub (pe_var hN hvis hd hcd) p1 set_list ha) hs hw h1, fun σ H w s D f s' ok e k => ?_⟩
  simp only [mPutL] at e
  split at e
  · cases e
  · rename_i rv sa e1
    split at e
    · rename_i c0 h0
      split at e
      · cases e
      · rename_i rk sb e2
        split at e
        · rename_i v kk sc e3
          split at e
          · rename_i c h1
            split at e
            · rename_i c' e4
              cases e
              refine s2 σ H w s _ _ rv sa ok e1 fun w1 H1 u t1 τ a1 a2 ok1 st1 sl1 rel1 => ?_
              have l1 := ok.slen ok1
              have tN := ok1.tN
              have hi := (List.getElem?_eq_some_iff.mp h0).1
              obtain ⟨z, hz⟩ : ∃ z, σ[i]? = some z := ⟨σ[i]'(by rw [ok1.len]; exact hi), by simp [ok1.len, hi]⟩
              obtain ⟨z', rfl, hown⟩ := ok1.sl i _ _ h0 hz
              refine ⟨z', hz, ?_⟩
              refine s1 σ H1 w1 sa t1 _ rk sb ok1 e2 fun w2 H2 y t2 τ2 b1 b2 ok2 st2 sl2 rel2 => ?_
              have l2 := ok1.slen ok2
              have relA := RelR.keep ok1 rel1 st2 (by omega) (by omega) sl2
              obtain ⟨w3, ok3, st3, rep, sl3, l3⟩ := takes_ok (hi := t2) (t0 := s.a.length) [rv, rk] [u, y] _ _ _ w2 s.a.length ok2 ⟨u, _, τ, rfl, a1, by omega, relA, y, _, τ2, rfl, by omega, b2, rel2, rfl⟩ e3 (Nat.le_refl _) (by omega)
              simp only [RepL] at rep
              obtain ⟨_, _, eu, rv', _, _, ey, rk', er⟩ := rep
              cases eu
              cases ey
              obtain ⟨z2, ez, hown2⟩ := ok3.sl i _ _ h1 hz
              cases ez
              obtain ⟨a, ea⟩ : ∃ a, z' = .ref a := by
                cases c with
                | lst _ => obtain ⟨a, _, e, _⟩ := hown2; exact ⟨a, e⟩
                | dK _ => obtain ⟨a, _, e, _⟩ := hown2; exact ⟨a, e⟩
                | dT _ => obtain ⟨a, _, e, _⟩ := hown2; exact ⟨a, e⟩
              subst ea
              obtain ⟨ys, j, ej, hlst, hix, hO, own'⟩ := putL_own hown2 e4 rk' rv'
              obtain ⟨ok4, st4, sl4⟩ := slot_mut (o := .lst (ys.set j.toNat u)) ok3 h1 hz hO (fun _ h => by cases h) own'
              rw [l1] at l2 st2
              rw [l2] at st3 l3
              rw [l3] at st4
              refine ⟨a, ys, j, _, rfl, ej, hlst, hix, ?_⟩
              refine k.nx rfl σ _ _ (drop_ok ok4 (by simp [l3])) (by simp [l3]) ?_
              exact (((st1.trans (st2.mono (by omega))).trans st3).trans (st4.mono (by have := ok3.tN; omega))).trans drop_step
            · cases e
          · cases e
        · cases e
    · cases e
end
end Qz
namespace Qz
open PySem PySem.Spec L2
open PyProof.Rows hiding St

/-! ## lists that are only lent to a def -/
mutual
/-- data that no list and no dict is part of -/
def flat : D → Bool
  | .none => true
  | .bool _ => true
  | .int _ => true
  | .str _ => true
  | .tuple ds => flatL ds
  | .list _ => false
  | .dict _ => false
def flatL : List D → Bool
  | [] => true
  | d :: ds => flat d && flatL ds
end
def leanR : R → Bool
  | .d y => flat y
  | .o (.lst ds) => flatL ds
  | _ => false
/-- what stays: what stayed before, and tuples -/
def keepF (F F' : Hp) : Hp := fun a => match F a with
  | some u => some u
  | none => match F' a with
    | some (.tup xs) => some (.tup xs)
    | _ => none
section
variable {K : PySem.W.Frag} {F F' : Hp}
theorem keepF_same : Same F (keepF F F') := fun a u e => by unfold keepF; rw [e]
theorem keepF_inv (h : Same F F') {a : Addr} {u : HO} (e : keepF F F' a = some u) : F' a = some u ∧ (F a = some u ∨ ∃ xs, u = .tup xs) := by
  unfold keepF at e
  split at e
  · rename_i q; cases e; exact ⟨h _ _ q, .inl q⟩
  · split at e
    · rename_i q; cases e; exact ⟨q, .inr ⟨_, rfl⟩⟩
    · cases e
theorem keepF_sub (h : Same F F') : Same (keepF F F') F' := fun a u e => (keepF_inv h e).1
theorem keepF_none (h : Same F F') {a : Addr} (e : F' a = none) : keepF F F' a = none := by
  cases q : keepF F F' a with
  | none => rfl
  | some u => have := (keepF_inv h q).1; rw [e] at this; cases this
theorem keepF_tup (h : Same F F') {a : Addr} {xs : List V} (e : F' a = some (.tup xs)) : keepF F F' a = some (.tup xs) := by
  unfold keepF
  cases q : F a with
  | some u => have := h _ _ q; rw [e] at this; exact this.symm
  | none => simp only [e]
mutual
theorem flat_rep (h : Same F F') : ∀ (d : D) (v : V), flat d = true → Rep K F' d v → Rep K (keepF F F') d v
  | .none, _, _, r => by simpa only [Rep] using r
  | .bool _, _, _, r => by simpa only [Rep] using r
  | .int _, _, _, r => by simpa only [Rep] using r
  | .str _, _, _, r => by simpa only [Rep] using r
  | .tuple ds, _, f, r => by
    simp only [Rep] at r ⊢
    obtain ⟨a, xs, e, h1, h2⟩ := r
    exact ⟨a, xs, e, keepF_tup h h1, flatL_rep h ds xs (by simpa only [flat] using f) h2⟩
  | .list _, _, f, _ => by simp only [flat] at f; cases f
  | .dict _, _, f, _ => by simp only [flat] at f; cases f
theorem flatL_rep (h : Same F F') : ∀ (ds : List D) (xs : List V), flatL ds = true → RepL K F' ds xs → RepL K (keepF F F') ds xs
  | [], _, _, r => by simpa only [RepL] using r
  | d :: ds, _, f, r => by
    simp only [RepL] at r ⊢
    obtain ⟨x, q, e, h1, h2⟩ := r
    simp only [flatL, Bool.and_eq_true] at f
    exact ⟨x, q, e, flat_rep h d x f.1 h1, flatL_rep h ds q f.2 h2⟩
end
end
/-- behind a call, whatever it took -/
theorem call_back {K : PySem.W.Frag} {t : Nat} {H : Hp} {σ : St} {w : Wd} {s : S} {r : R} {b : Bx} {Q : VK} {F' H' : Hp} {B' : Option (Addr × Addr)} {x : V} (ok : OKs K w H σ s t) (A : After w.F H w.B F' H' B' b) (rel : RetR K F' H H' B' r x)
    (k : ∀ w' H' x, OKs K w' H' σ { s with b := b } (t + 1) → Step s.a.length t w H w' H' → RelR K w' H' σ { s with b := b } t r x → Q x H') : Q x H' := by
  -- who owns what behind it
  have ho : ∀ a i, w.O a = some i → H' a = H a ∧ F' a = none ∧ ¬ isBox B' a := fun a i h => by
    obtain ⟨h1, ⟨o, h2, nt⟩, h3⟩ := ok.own a i h
    have nb : ¬ isBox w.B a := fun ⟨p, g, e, z⟩ => by
      obtain ⟨_, z1, z2⟩ := ok.box p g e
      rcases z with rfl | rfl
      · rw [h] at z1; cases z1
      · rw [h] at z2; cases z2
    refine ⟨(A.keep a o h2 nb).trans h2.symm, ?_, fun ⟨p, g, e, z⟩ => ?_⟩
    · cases q : F' a with
      | none => rfl
      | some u =>
        rcases A.newF a (by rw [q]; simp) with z | z | ⟨xs, z⟩ | z
        · exact absurd h1 z
        · rw [h2] at z; cases z
        · rw [h2] at z; exact absurd (Option.some.inj z) (nt xs)
        · exact absurd z nb
    · rcases A.B with e1 | ⟨_, e1⟩
      · exact nb ⟨p, g, e1 ▸ e, z⟩
      · obtain ⟨z1, z2⟩ := e1 p g e
        rcases z with rfl | rfl
        · rw [h2] at z1; cases z1
        · rw [h2] at z2; cases z2
  have hB0 : ∀ p g, B' = some (p, g) → w.O p = none ∧ w.O g = none := fun p g e => by
    constructor
    · cases q : w.O p with
      | none => rfl
      | some i => exact absurd ⟨p, g, e, .inl rfl⟩ (ho p i q).2.2
    · cases q : w.O g with
      | none => rfl
      | some i => exact absurd ⟨p, g, e, .inr rfl⟩ (ho g i q).2.2
  have hsl : ∀ (O' : Addr → Option Nat), (∀ a i, w.O a = some i → O' a = some i) → ∀ (i : Nat) q v, s.a[i]? = some q → σ[i]? = some v → SlR K ⟨F', O', B'⟩ H' i q v := fun O' hO i q v h1 h2 => by
    have hs := ok.sl i q v h1 h2
    cases q with
    | none => trivial
    | some q =>
      cases q with
      | d y => obtain ⟨u, e, h1⟩ := hs; exact ⟨u, e, Rep.mono A.mono y u h1⟩
      | o c =>
        obtain ⟨u, e, h1⟩ := hs
        refine ⟨u, e, ?_⟩
        cases c with
        | lst ds => obtain ⟨a, xs, e, q1, q2, q3⟩ := h1; exact ⟨a, xs, e, hO a i q1, (ho a i q1).1.trans q2, RepL.mono A.mono ds xs q3⟩
        | dK ds => obtain ⟨a, xs, e, q1, q2, q3⟩ := h1; exact ⟨a, xs, e, hO a i q1, (ho a i q1).1.trans q2, RepK.mono A.mono ds xs q3⟩
        | dT ds => obtain ⟨a, xs, e, q1, q2, q3⟩ := h1; exact ⟨a, xs, e, hO a i q1, (ho a i q1).1.trans q2, RepT.mono A.mono ds xs q3⟩
      | sl _ => exact hs
      | bx =>
        obtain ⟨p, g, e, h1⟩ := hs
        rcases A.B with z | ⟨z, _⟩
        · exact ⟨p, g, z.trans e, h1⟩
        · rw [z] at e; cases e
  have keep : ∀ a o, H a = some o → (∀ i, w.O a = some i → s.a.length ≤ i ∧ i < t) → ¬ isBox w.B a → H' a = some o := fun a o h _ hb => A.keep a o h hb
  have newF : ∀ a, F' a ≠ none → w.F a ≠ none ∨ H a = none ∨ (∃ i, w.O a = some i ∧ (i < s.a.length ∨ t ≤ i)) ∨ (∃ xs, H a = some (.tup xs)) ∨ isBox w.B a := fun a h => (A.newF a h).imp id (fun z => z.imp id .inr)
  -- without a new owner
  have plain : RelR K ⟨F', w.O, B'⟩ H' σ { s with b := b } t r x → Q x H' := fun rel => by
    refine k ⟨F', w.O, B'⟩ H' x ⟨A.sub, ok.len, hsl w.O (fun _ _ h => h), fun a i h => ?_, Nat.le_succ_of_le ok.tN, fun p g e => ⟨A.box p g e, hB0 p g e⟩, A.nob⟩ ⟨A.mono, keep, A.there, fun _ _ h _ _ => h, newF, fun a i h => .inr (by rw [show w.O a = some i from h]; simp), fun _ _ h _ => .inr h, A.B⟩ rel
    obtain ⟨h1, ⟨o, h2, nt⟩, h3⟩ := ok.own a i h
    exact ⟨(ho a i h).2.1, ⟨o, (ho a i h).1.trans h2, nt⟩, Nat.lt_succ_of_lt h3⟩
  -- with one
  have owned : ∀ (a : Addr) (o : HO) (c : C), r = .o c → NT o → x = .ref a → F' a = none → H a = none → H' a = some o → ¬ isBox B' a → (∀ O' : Addr → Option Nat, O' a = some t → Own K ⟨F', O', B'⟩ H' t c x) → Q x H' := fun a o c er nt0 ex h1 h2 h3 h4 hc => by
    have hn : w.O a = none := by
      cases q : w.O a with
      | none => rfl
      | some i =>
        obtain ⟨_, ⟨u, h5, _⟩, _⟩ := ok.own a i q
        rw [h2] at h5; cases h5
    have hO : ∀ b i, w.O b = some i → (if b = a then some t else w.O b) = some i := fun b i h => by
      rw [if_neg (fun z => by subst z; rw [hn] at h; cases h)]; exact h
    refine k ⟨F', fun b => if b = a then some t else w.O b, B'⟩ H' x ⟨A.sub, ok.len, hsl _ hO, fun b i h => ?_, Nat.le_succ_of_le ok.tN, fun p g e => ⟨A.box p g e, ?_, ?_⟩, A.nob⟩
      ⟨A.mono, keep, A.there, fun b i h _ _ => hO b i h, newF, fun b i h => ?_, fun b i h _ => ?_, A.B⟩ (by subst er; exact hc _ (if_pos rfl))
    · have h' : (if b = a then some t else w.O b) = some i := h
      by_cases hb : b = a
      · rw [if_pos hb] at h'; cases h'
        subst hb
        exact ⟨h1, ⟨o, h3, nt0⟩, Nat.lt_succ_self _⟩
      · rw [if_neg hb] at h'
        obtain ⟨q1, ⟨u, q2, nt⟩, q3⟩ := ok.own b i h'
        exact ⟨(ho b i h').2.1, ⟨u, (ho b i h').1.trans q2, nt⟩, Nat.lt_succ_of_lt q3⟩
    · show (if p = a then some t else w.O p) = none
      rw [if_neg (fun z => by subst z; exact h4 ⟨p, g, e, .inl rfl⟩)]; exact (hB0 p g e).1
    · show (if g = a then some t else w.O g) = none
      rw [if_neg (fun z => by subst z; exact h4 ⟨p, g, e, .inr rfl⟩)]; exact (hB0 p g e).2
    · have h' : (if b = a then some t else w.O b) = some i := h
      by_cases hb : b = a
      · subst hb; exact .inl h2
      · rw [if_neg hb] at h'; exact .inr (by rw [h']; simp)
    · have h' : (if b = a then some t else w.O b) = some i := h
      by_cases hb : b = a
      · subst hb; exact .inl h2
      · rw [if_neg hb] at h'; exact .inr h'
  cases r with
  | d y => exact plain rel
  | o c =>
    obtain ⟨rel, nb⟩ := rel
    cases c with
    | lst ds =>
      obtain ⟨a, xs, ex, h1, h2, h3, h4⟩ := rel
      exact owned a _ _ rfl (fun _ h => by cases h) ex h1 h2 h3 (nb a ex) fun O' hO => ⟨a, xs, ex, hO, h3, h4⟩
    | dK ds =>
      obtain ⟨a, xs, ex, h1, h2, h3, h4⟩ := rel
      exact owned a _ _ rfl (fun _ h => by cases h) ex h1 h2 h3 (nb a ex) fun O' hO => ⟨a, xs, ex, hO, h3, h4⟩
    | dT ds =>
      obtain ⟨a, xs, ex, h1, h2, h3, h4⟩ := rel
      exact owned a _ _ rfl (fun _ h => by cases h) ex h1 h2 h3 (nb a ex) fun O' hO => ⟨a, xs, ex, hO, h3, h4⟩
  | sl _ => exact rel.elim
  | bx => exact plain rel
theorem call_lent {K : PySem.W.Frag} {t n t0 : Nat} {H : Hp} {σ : St} {np : Nat} {g : DF} {w w2 : Wd} {s s2 : S} {qs : List R} {us : List V} {r : R} {b : Bx} {Q : VK} {E : XK} (ok : OKs K w H σ s t) (ok2 : OKs K w2 H σ s2 t) (hF : Same w.F w2.F) (hB : w2.B = w.B)
    (ha : ArgsR K w2.F w2.B qs us) (hl : us.length = np) (e : g qs s2.b = .ok r b) (hr : leanR r = true)
    (k : ∀ w' H' x, OKs K w' H' σ { s with b := b } (t + 1) → Step s.a.length t w H w' H' → RelR K w' H' σ { s with b := b } t r x → Q x H') : spD K np g us H Q E := by
  refine ⟨w2.F, w2.B, qs, s2.b, r, b, hl, ok2.sub, fun p g e => (ok2.box p g e).1, ok2.nob, ha, e, fun F' B' H' x A rel => ?_⟩
  have sm : Same w.F F' := hF.trans A.mono
  have A' : After w.F H w.B (keepF w.F F') H' B' b := by
    rw [hB] at A
    refine ⟨keepF_same, (keepF_sub sm).trans A.sub, A.keep, A.there, fun a h => ?_, A.B, fun p g e => ?_, A.nob⟩
    · cases q : keepF w.F F' a with
      | none => exact absurd q h
      | some u =>
        obtain ⟨h1, h2 | ⟨xs, rfl⟩⟩ := keepF_inv sm q
        · exact .inl (by rw [h2]; simp)
        · rcases A.newF a (by rw [h1]; simp) with z | z | z | z
          · cases q2 : w2.F a with
            | none => exact absurd q2 z
            | some o =>
              have z2 := A.mono _ _ q2
              rw [h1] at z2
              cases z2
              exact .inr (.inr (.inl ⟨xs, ok2.sub _ _ q2⟩))
          · exact .inr (.inl z)
          · exact .inr (.inr (.inl z))
          · exact .inr (.inr (.inr z))
    · have bo := A.box p g e
      exact ⟨keepF_none sm bo.fp, keepF_none sm bo.fg, bo.ne, bo.hp, bo.hg⟩
  refine call_back ok A' ?_ k
  cases r with
  | d y => exact flat_rep sm y x hr rel
  | o c =>
    cases c with
    | lst ds =>
      obtain ⟨⟨a, xs, e1, h1, h2, h3, h4⟩, nb⟩ := rel
      exact ⟨⟨a, xs, e1, keepF_none sm h1, h2, h3, flatL_rep sm ds xs hr h4⟩, nb⟩
    | dK _ => cases hr
    | dT _ => cases hr
  | sl _ => cases hr
  | bx => cases hr
def mCallL (np : Nat) (g : DF) (ms : MA) : ME := fun s => match ms s with
  | .no => .no
  | .ok rs s1 => if rs.length = np then match argsT s1 rs with
    | none => .no
    | some (q, s2) => match g q s2.b with
      | .no => .no
      | .ok r b => if leanR r = true then .ok r { s1 with b := b } else .no
    else .no
section
variable {X : Cx} {e : Expr} {es : List Expr} {ms : MA} {k np : Nat} {f : Addr} {fd : FuncData} {ps : List Str} {x : Str} {p pos : Pos} {g : DF} {E : XK}
theorem callL_snd {K : PySem.W.Frag} {ta : TA} {np : Nat} (h : SndA K ta ms) : SndE K (fun σ H Q => ta σ H fun vs H1 => spD K np g vs H1 Q E) (mCallL np g ms) := by
  intro σ H w s t Q r s' ok e kk
  simp only [mCallL] at e
  split at e
  · cases e
  · rename_i rs sa e1
    split at e
    · rename_i hlen
      split at e
      · cases e
      · rename_i qs sb e2
        split at e
        · cases e
        · rename_i r' b e3
          split at e
          · rename_i hr
            cases e
            refine h σ H w s t _ rs sa ok e1 fun w1 H1 us t1 a1 ok1 st1 sl1 rel1 => ?_
            have l := ok.slen ok1
            have tN := ok.tN
            obtain ⟨w2, ok2, st2, ar, sl2, l2, hB⟩ := argsT_ok (t0 := t) rs us qs sa sb w1 t ok1 rel1 e2 (Nat.le_refl _) (by rw [l]; exact tN)
            refine call_lent (n := 0) (t0 := 0) ok1 ok2 st2.F hB ar ((RelRs.length rs us t rel1).symm.trans hlen) e3 hr fun w3 H3 y ok3 st3 rel3 => ?_
            rw [l] at st3
            exact kk w3 H3 y (t1 + 1) t1 a1 (Nat.lt_succ_self _) ok3 (st1.trans (st3.mono a1)) sl1 rel3
          · cases e
    · cases e
theorem rc_callL (F : FnG X.prog X.w X.K X.mg X.base k f fd ps (spD X.K np g)) (hr : Here X k) (hm : X.mg x = some (.ref f)) (hk : PySem.W.keepIn X.K (.ref f) = true) (hb : Binds X.K fd ps [])
    (ha : RA X (e :: es) ms) (hl : ps.length = np := by rfl) (hg : Gl X x := by rfl) (hdb : (x == ("__debug__" : Str)) = false := by decide) (he : starEach (e :: es) X.env = (false, eval e X.env) :: starEach es X.env := by rfl) (hpl : (backTo pos (starEach es X.env)).any (·.1) = false := by rfl) :
    RE X (.Call (.Name x p) (e :: es) [] pos) (mCallL np g ms) := by
  subst hl
  obtain ⟨ta, p1, s1⟩ := ha
  exact ⟨_, peg_call (E := E0) F hr hg hm hk hb p1 hdb he hpl, callL_snd s1⟩
end
/-! ## is True, is not True -/
def dIsB : D → D → Option R
  | .bool a, .bool b => some (.d (.bool (decide (a = b))))
  | _, _ => none
def dNotB : D → D → Option R
  | .bool a, .bool b => some (.d (.bool (!decide (a = b))))
  | _, _ => none
section
variable {K : PySem.W.Frag}
theorem s_isB : OpS K (fun x y H Q => ∃ a b, x = .bl a ∧ y = .bl b ∧ Q (.bl (decide (a = b))) H) dIsB := by
  intro w H σ s t u v x y r Q ok hx hy e k
  unfold dIsB at e
  split at e
  · cases e
    exact ⟨_, _, hx.bool, hy.bool, s_d ok k (by simp only [Rep])⟩
  · cases e
theorem s_notB : OpS K (fun x y H Q => ∃ a b, x = .bl a ∧ y = .bl b ∧ Q (.bl (!decide (a = b))) H) dNotB := by
  intro w H σ s t u v x y r Q ok hx hy e k
  unfold dNotB at e
  split at e
  · cases e
    exact ⟨_, _, hx.bool, hy.bool, s_d ok k (by simp only [Rep])⟩
  · cases e
end
end Qz
namespace Qz
open PySem PySem.Spec L2
open PyProof.Rows hiding St
/-! ## a list, some times over -/
theorem fold_app : ∀ (m : Nat) (a : List Value) (acc : Array Value), List.foldl (fun x y => x ++ y) acc (List.replicate m a.toArray) = acc ++ ((List.replicate m a).flatten).toArray
  | 0, a, acc => by simp
  | m + 1, a, acc => by
    rw [List.replicate_succ, List.foldl_cons, fold_app m a, List.replicate_succ, List.flatten_cons, Array.append_assoc]
    simp
theorem vals_rep {xs : List V} {us : List Value} (r : Vals xs us) : ∀ m : Nat, Vals (List.replicate m xs).flatten (List.replicate m us).flatten
  | 0 => .nil
  | m + 1 => by
    rw [List.replicate_succ, List.replicate_succ, List.flatten_cons, List.flatten_cons]
    exact r.append (vals_rep r m)
theorem rep_len {α : Type} (xs : List α) (m : Nat) : (List.replicate m xs).flatten.length = xs.length * m := by
  rw [List.length_flatten, List.map_replicate, List.sum_replicate_nat, Nat.mul_comm]
def rRepL (K : PySem.W.Frag) : R2 := fun x y H Q => ∃ l k xs, x = .ref l ∧ y = .int k ∧ SqL K H l xs ∧ 0 ≤ k ∧ k ≤ 1000 ∧ xs.length * k.toNat ≤ 100000 ∧ ∀ p, H p = none → Q (.ref p) (upd H p (.lst (List.replicate k.toNat xs).flatten))
theorem op_repL {X : Cx} : OpR X (binaryOp .Mult) (rRepL X.K) := by
  intro pins s σ H x y v u Q I rx ry h
  obtain ⟨l, k, xs, rfl, rfl, hH, k0, k1, hz, q⟩ := h
  cases rx
  obtain ⟨t, rfl⟩ := ry
  obtain ⟨its, r, ⟨⟨cls, dd, data, sl⟩, n, ho, hc, hdd, hd⟩, hz1⟩ := I.list hH
  simp only at hc hd
  subst hc hd
  have hs : its.toArray.size * k.toNat ≤ 100000 := by rw [List.size_toArray, ← r.length]; exact hz
  have h1 : ¬(!Builtin.List.listFitsIndex k) = true := by
    unfold Builtin.List.listFitsIndex
    simp
    omega
  have h2 : ¬its.toArray.size * k.toNat > (2 ^ 63 - 1) / 8 := by omega
  have hb : 100000 ≤ sizeLine := by decide
  have hs2 : its.length * k.toNat ≤ 100000 := by rw [← r.length]; exact hz
  have h3 : ¬Builtin.List.listTooLong (its.toArray.size * k.toNat) = true := by
    unfold Builtin.List.listTooLong
    simp
    omega
  refine wpAny_binaryOp_repeat_ref (T := "list") (U := "int") rfl ⟨_, ho, rfl⟩ (fun _ => rfl) noFill_list_mul F.fills_int_mul F.slot_int_rmul repeat_list F.slot_int_index.lookup
    (call_meets F.slot_int_rmul rfl F.entry_int_rmul (F.args_int_rmul_2 _ _) (lm_int_rmul_list_any k t l its.toArray n dd sl) ⟨ho, ⟨rfl, ⟨_, ho, rfl⟩, ?_⟩⟩)
  refine call_meets F.slot_list_mul ⟨_, ho, rfl⟩ F.entry_list_mul (F.args_list_mul_2 _ _) (lm_list_mul_any l its.toArray n dd sl k t h1 h2 h3) ⟨ho, ?_⟩
  have e : List.foldl (fun x1 x2 => x1 ++ x2) #[] (List.replicate (if its.toArray.isEmpty = true then 0 else k.toNat) its.toArray) = ((List.replicate k.toNat its).flatten).toArray := by
    rw [fold_app]
    cases its with
    | nil => simp
    | cons a b => simp
  rw [e]
  exact ⟨.ref _, _, I.lnew (t' := s.toks) (vals_rep r k.toNat) (by rw [rep_len]; exact Nat.le_trans hz (by decide)), rfl, q _ I.fresh⟩
def dRepL : D → D → Option R
  | .list l, .int k => if 0 ≤ k ∧ k ≤ 1000 ∧ l.length * k.toNat ≤ 100000 then some (.o (.lst (List.replicate k.toNat l).flatten)) else none
  | _, _ => none
theorem repL_rep {K : PySem.W.Frag} {F : Hp} {ds : List D} {xs : List V} (h : RepL K F ds xs) : ∀ m : Nat, RepL K F (List.replicate m ds).flatten (List.replicate m xs).flatten
  | 0 => .nil
  | m + 1 => by
    rw [List.replicate_succ, List.replicate_succ, List.flatten_cons, List.flatten_cons]
    exact RepL.append _ _ h (repL_rep h m)
theorem s_repL {K : PySem.W.Frag} : OpS K (rRepL K) dRepL := by
  intro w H σ s t u v x y r Q ok hx hy e k
  unfold dRepL at e
  split at e
  · split at e
    · rename_i hz
      cases e
      obtain ⟨p, xs, rfl, h1, h2⟩ := hx.lst ok.sub
      refine ⟨p, _, xs, rfl, hy.int, h1, hz.1, hz.2.1, by rw [← RepL.length _ _ h2]; exact hz.2.2, fun c hc => ?_⟩
      refine k (w.give c t) _ _ (give_ok ok hc) (give_step ok hc) ?_
      exact ⟨c, _, rfl, by show (if c = c then some t else w.O c) = some t; rw [if_pos rfl], upd_same, repL_rep h2 _⟩
    · cases e
  · cases e
end Qz
/-! sorted of a set of tuples of ints, of any ints and any lengths but none -/
namespace SetQ
open PySem PyProof.Rows HT
section
variable {P : Program} {w : World} {A : Around} {E : Value → Shared → Prop} {s : Shared}
theorem refs_back {L : List (Addr × List Int)} : ∀ out : List Value, (∀ v ∈ out, v ∈ L.map fun q => Value.ref q.1) → ∃ M : List (Addr × List Int), out = M.map (fun q => Value.ref q.1) ∧ ∀ q ∈ M, q ∈ L
  | [], _ => ⟨[], rfl, by simp⟩
  | v :: out, h => by
    obtain ⟨M, e, hm⟩ := refs_back out fun u hu => h u (List.mem_cons_of_mem _ hu)
    obtain ⟨q, hq, rfl⟩ := List.mem_map.mp (h v List.mem_cons_self)
    exact ⟨q :: M, by rw [e]; rfl, fun r hr => by
      rcases List.mem_cons.mp hr with rfl | hr
      · exact hq
      · exact hm r hr⟩
theorem perm_back {L M : List (Addr × List Int)} (hn : (L.map (·.1)).Nodup) (hs : ∀ q ∈ M, q ∈ L) (hp : (M.map (·.1)).Perm (L.map (·.1))) : M.Perm L := by
  have nL := L2.nodup_of_map hn
  have nM := L2.nodup_of_map (hp.nodup_iff.mpr hn)
  refine (List.perm_ext_iff_of_nodup nM nL).mpr fun q => ⟨hs q, fun hq => ?_⟩
  obtain ⟨r, hr, e⟩ := List.mem_map.mp (hp.mem_iff.mpr (List.mem_map.mpr ⟨q, hq, rfl⟩))
  have : r = q := by
    have hr' := hs r hr
    clear hp hs hr nL nM
    induction L with
    | nil => cases hq
    | cons z L ih =>
      rw [List.map_cons, List.nodup_cons] at hn
      rcases List.mem_cons.mp hq with h1 | h1 <;> rcases List.mem_cons.mp hr' with h2 | h2
      · rw [h1, h2]
      · exact absurd (List.mem_map.mpr ⟨r, h2, by rw [e, h1]⟩) hn.1
      · exact absurd (List.mem_map.mpr ⟨q, h1, by rw [← e, h2]⟩) hn.1
      · exact ih hn.2 h1 h2
  rw [← this]; exact hr
theorem sorted_setI {a : Addr} {L : List (Addr × List Int)} {es : Array (Int × Value)} {ep : Nat} {t : SetTable} {Q : Value → Shared → Prop} (R : L2.SetTR P w s.heap a L es ep t) (hh : A.handled = none) (hne : ∀ p ∈ L, p.2 ≠ [])
    (hQ : ∀ (s' : Shared) (p : Nat) (c : Nat) (M : List (Addr × List Int)), (∀ b o, s.heap.get? b = some o → s'.heap.get? b = some o) → s'.gens = s.gens → s'.os = s.os → s.heap.objs.size ≤ p →
      s'.heap.get? p = some (seqObj "list" (M.map fun q => Value.ref q.1).toArray c) → M.Perm L → SrtO.Srtd (fun (q r : Addr × List Int) => HT.lexLt q.2 r.2) M → Q (.ref p) s') :
    wpAny (model P w) A (call (.builtin "sorted") [.ref a]) Q E s := by
  obtain ⟨o, ho, hex, hd⟩ := R.ob
  have hsz := R.size
  have hfew := R.few
  have h64 : 64 ≤ scanBound := by decide
  have h64' : 64 ≤ sizeLine := by decide
  refine Calls.call_function_entry kind_sorted plain_sorted entry_sorted (args_sorted1 _) ?_
  refine wpAny_bind (wpAny_pure (wpAny_bind ?_))
  refine L2.collect_set hh ⟨o, ho, hex.1, hd⟩ R.fits (by omega) R.tab.ris R.led fun s1 vs k1 hz g1 o1 pm => ?_
  have hes : es.toList.map (fun x => x.2) = L.map fun q => Value.ref q.1 := by
    rw [R.rows]
    unfold L2.rowsOf
    rw [List.map_map]
    rfl
  rw [hes] at pm
  have hvl : vs.length < 64 := by rw [pm.length_eq, List.length_map]; exact hfew
  refine wpAny_bind (wpAny_newList ?_ (by omega))
  have hoL : (s1.heap.push (seqObj "list" vs.toArray 0)).get? s1.heap.objs.size = some (seqObj "list" vs.toArray 0) := Heap.get?_push_size s1.heap rfl
  have tk : ∀ q ∈ L, TS.TupInts (s1.heap.push (seqObj "list" vs.toArray 0)) (.ref q.1) q.2 := fun q hq => L2.tupInts_of (L2.isT_keep (R.tup q hq) fun b u e => Heap.get?_push_of_some _ (k1 b u e))
  have hk : ∀ q ∈ L, TS.intsOf (s1.heap.push (seqObj "list" vs.toArray 0)) (.ref q.1) = q.2 := fun q hq => (tk q hq).ints
  have hvs : ∀ v ∈ vs, ∃ q ∈ L, v = .ref q.1 := fun v hv => by
    obtain ⟨q, hq, rfl⟩ := List.mem_map.mp (pm.mem_iff.mp hv)
    exact ⟨q, hq, rfl⟩
  have hinj : (L.map (·.1)).Nodup := by
    have nd := R.nd
    have key : ∀ K : List (Addr × List Int), (∀ q ∈ K, q ∈ L) → (K.map (·.2)).Nodup → (K.map (·.1)).Nodup := by
      intro K
      induction K with
      | nil => intro _ _; simp
      | cons z K ih =>
        intro hs hn
        rw [List.map_cons, List.nodup_cons] at hn ⊢
        refine ⟨fun hm => ?_, ih (fun q hq => hs q (List.mem_cons_of_mem _ hq)) hn.2⟩
        obtain ⟨r, hr, e⟩ := List.mem_map.mp hm
        have e2 : r.2 = z.2 := by
          rw [← hk r (hs r (List.mem_cons_of_mem _ hr)), ← hk z (hs z List.mem_cons_self), e]
        exact hn.1 (List.mem_map.mpr ⟨r, hr, e2⟩)
    exact key L (fun _ h => h) nd
  refine wpAny_bind (wpAny_holding (wpAny_call_entry slot_list_sort ⟨_, hoL, rfl⟩ entry_list_sort (SrtO.list_sort_ord (NtL.swo_lexL (TS.intsOf (s1.heap.push (seqObj "list" vs.toArray 0)))) hoL (by omega) (fun h2 => ?_) fun out hs hb => ?_) (args_list_sort _)))
  · refine SrtQ.tups_sortable (by omega) (fun v hv => ?_) fun o e => ?_
    · obtain ⟨q, hq, rfl⟩ := hvs v hv
      rw [hk q hq]
      exact ⟨tk q hq, hne q hq⟩
    · have e' := e.symm.trans hoL
      cases e'
      intro c
      exact absurd (Value.type.inj c) (by decide)
  · obtain ⟨M, rfl, hM⟩ := refs_back (L := L) out fun v hv => pm.mem_iff.mp (hb.perm.mem_iff.mp hv)
    obtain ⟨c, hc⟩ := sortedHeap_at (out := (M.map fun q => Value.ref q.1).toArray) hoL
    have hpm : M.Perm L := by
      refine perm_back hinj hM ?_
      have h3 := hb.perm.trans pm
      have h4 := h3.map fun v => match v with
        | .ref b => b
        | _ => 0
      rw [List.map_map, List.map_map] at h4
      exact h4
    refine ⟨_, rfl, wpAny_pure ⟨_, rfl, hQ _ _ c M (fun b u e => ?_) g1 o1 hz hc hpm ?_⟩⟩
    · have q := k1 b u e
      have hlt := Heap.lt_size q
      show (sortedHeap _ _ _ _).get? b = _
      rw [sortedHeap_old (Nat.ne_of_lt hlt) (by rw [size_push']; exact Nat.lt_succ_of_lt hlt)]
      exact Heap.get?_push_of_some _ q
    · have := List.pairwise_map.mp hs
      refine this.imp_of_mem fun {q r} hq hr h => ?_
      have h' : HT.lexLt (TS.intsOf (s1.heap.push (seqObj "list" vs.toArray 0)) (.ref r.1)) (TS.intsOf (s1.heap.push (seqObj "list" vs.toArray 0)) (.ref q.1)) = false := h
      rw [hk q (hM q hq), hk r (hM r hr)] at h'
      exact h'
end
end SetQ
namespace Qz
open PySem PySem.Spec L2
open PyProof.Rows hiding St
def rSortedSI (K : PySem.W.Frag) (P : Program) (w : World) : List V → Hp → VK → Prop := fun vs H Q => ∃ (a : Addr) (L : List (Addr × List Int)), vs = [V.ref a] ∧ H a = some (SetTO P w a L) ∧ (∀ p ∈ L, SqT K H p.1 (p.2.map V.int)) ∧ (∀ p ∈ L, p.2 ≠ []) ∧
  ∀ (M : List (Addr × List Int)) (p : Addr), M.Perm L → (M.map (·.2)).Nodup → SrtO.Srtd (fun (q r : Addr × List Int) => HT.lexLt q.2 r.2) M → H p = none → Q (.ref p) (upd H p (.lst (M.map fun q => V.ref q.1)))
theorem cr_sortedSI {X : Cx} (hc : X.calm = true) : CallR X (.builtin "sorted") (rSortedSI X.K X.prog X.w) := by
  intro pins s σ H vs us Q I r h
  obtain ⟨a, L, rfl, ha, hk, hne, q⟩ := h
  have R0 := (I.hok a _ ha).1
  obtain ⟨es, ep, t, R⟩ := SetT0.full R0 fun p hp => I.isT (hk p hp)
  rw [r.ref1]
  refine SetQ.sorted_setI R (I.ok.hd hc) hne fun s' p c M k g o hp hg pm hs => ?_
  have hfew : M.length < 64 := by rw [pm.length_eq]; exact R.few
  have h64 : 64 ≤ sizeLine := by decide
  have hn := HOk.fresh I.hok hp
  have J : Inv X pins σ (upd H p (.lst (M.map fun q => V.ref q.1))) { heap := s'.heap, gens := s'.gens, drawn := s'.drawn, toks := s'.toks, os := s.os } :=
    I.call (ch := []) (Un.laid k hp hn) (HOk.laid I.hok k hp ⟨by rw [List.length_map]; omega, _, c, vals_of_refs M, hg⟩) (by rw [g]; exact I.bare) (fun x z => by cases z)
  rw [← o] at J
  exact ⟨.ref p, _, J, rfl, q M p pm ((pm.map _).nodup_iff.mpr R.nd) hs hn⟩
end Qz
namespace Qz
open PySem PySem.Spec L2
open PyProof.Rows hiding St
/-! ## comprehensions that make a set -/
abbrev AdT := Addr → V → Hp → (Hp → Prop) → Prop
/-- what a kind of sets has to tell: the new one, and what it is to add -/
structure SetKind (X : Cx) (O : Addr → HO) (ad : AdT) : Prop where
  new : ∀ (H : Hp) (h : Heap), ObjOk X.prog X.w (upd H h.objs.size (O h.objs.size)) (h.push { cls := .type "set", data := .set #[] 0 (SetTable.fresh 0 0 !X.w.params.followText "set-order") }) h.objs.size (O h.objs.size)
  add : ∀ (Y : Cx), Y.prog = X.prog → Y.w = X.w → Y.K = X.K → Y.A = X.A → (Y.xe = fun _ _ => False) → ∀ (pins : List (Addr × Obj)) (σ : St) (H : Hp) (s : Shared) (E : Value → Shared → Prop) (D : Addr) (y : V) (u : Value) (k : Hp → Prop) (Q : Value → Shared → Prop), Inv Y pins σ H s → RelV y u → ad D y H k →
    (∀ s' H', Inv Y pins σ H' s' → k H' → Q .none s') → wpAny (model Y.prog Y.w) Y.A (call (.builtin "set.add") [.ref D, u]) Q E s
def tScG (O : Addr → HO) (ad : AdT) (wi : TI) (g : TG) (tt : TT) (te : TE) (vs : List Nat) : TE := fun σ H Q => wi σ H fun J H1 => ∀ D, H1 D = none → ∃ W : Nat → Nat → Hp → Prop, (∃ m, W 0 m (upd H1 D (O D))) ∧ ∀ i m H, W i m H →
  (J.stop i H ∧ Q (.ref D) H) ∨ (J.go i H ∧ ∃ Nx : Hp → Prop, (∀ H', Nx H' → ∃ m', m' < m ∧ W (i + 1) m' H') ∧ ∀ x H', J.yld i H x H' → g x (wipe σ vs) H' fun σ2 H2 => wipe σ2 vs = wipe σ vs ∧ tt σ2 H2 fun b H3 => if b = true then te σ2 H3 fun y H4 => ad D y H4 Nx else Nx H3)
section
variable {X : Cx} {elt tg iter : Expr} {ifs : List Expr} {scope : Scope} {own : List (Str × Nat)} {pos pos' : Pos} {wi : TI} {g : TG} {tt : TT} {te : TE} {O : Addr → HO} {ad : AdT}
theorem scG_core {pins : List (Addr × Obj)} {s : Shared} {σ : St} {H : Hp} {Q : VK} {use : Option (Value → Sem Unit)} {Qf : Value → Shared → Prop} (SK : SetKind X O ad) (hc : X.calm = true) (hN : X.N.Nodup) (I : Inv X pins σ H s) (hi : PI X tg iter wi) (ok : BlkOk X.N X.env.scope scope own)
    (hg : ∀ (s : Shared) (H : Hp) (C : Addr) (cl : List (Str × Addr)) (fp : List Addr), PG (X.blk s H scope (compEnvC scope cl C X.env) fp) tg g)
    (ht : ∀ (s : Shared) (H : Hp) (C : Addr) (cl : List (Str × Addr)) (fp : List Addr), PTs (X.blk s H scope (compEnvC scope cl C X.env) fp) ifs tt)
    (he : ∀ (s : Shared) (H : Hp) (C : Addr) (cl : List (Str × Addr)) (fp : List Addr), PE (X.blk s H scope (compEnvC scope cl C X.env) fp) elt te)
    (hs : ∀ x : Value, foldedSetIterable iter X.env x = pure x) (h : tScG O ad wi g tt te (own.map (·.2)) σ H Q)
    (hRR : ∀ (D C : Addr) (s' : Shared) (m : Str → Option Value) (H' : Hp), Inv X pins σ H' s' → Q (.ref D) H' → s'.heap.Ns C m → FpOk X pins H' C → compPost (model X.prog X.w) X.A X.xe use Qf (.ref D) C (.ok .next) s') :
    wpAny (model X.prog X.w) X.A (comprehension (.SetComp elt [⟨tg, iter, ifs, 0⟩] scope pos) scope X.env pos' (newSet (.type "set")) false (eval iter X.env) use) Qf X.xe s := by
  have hfree : ∀ y ∈ scope.names, y.2 = .free → ∃ c, List.lookup y.1 X.env.cells = some c := fun y hy e => (ok.free y hy e).elim (fun k => I.ok.has y.1 (.inl k)) fun k => I.ok.has y.1 (.inr k)
  refine wpAny_comprehension_free rfl hs (closure_ok hfree) ok.kind (fun y hy e => by rw [ok.uniq y hy, e]) ?_
  refine thn (hi.run pins s σ H _ I h) fun xv s1 hx => thn hx fun itv s2 h2 => ?_
  obtain ⟨it, fp, tn, J, H2, rfl, I2, T, st2, f2, q⟩ := h2
  refine PpSet.newSet_ok (newEnv_comp ?_)
  have hDn : H2 s2.heap.objs.size = none := HOk.fresh I2.hok (Nat.le_refl _)
  obtain ⟨W, ⟨m0, w0⟩, turn⟩ := q s2.heap.objs.size hDn
  have sz : ∀ b ∈ fp, b < s2.heap.objs.size := fun b hb => by
    obtain ⟨o, e, _⟩ := T.obj 0 s2.heap st2 b hb
    exact Heap.lt_size e
  have I3 := I2.laid (t' := s2.toks) (fun b o e => Heap.get?_push_of_some _ e) (Nat.le_refl _) (SK.new H2 s2.heap)
  generalize hD : s2.heap.objs.size = D at *
  generalize hob : ({ cls := .type "set", data := .set #[] 0 (SetTable.fresh 0 0 !X.w.params.followText "set-order") } : Obj) = ob at *
  have st3 : tn 0 (s2.heap.push ob) := T.keep 0 s2.heap _ st2 fun b x o e => Heap.get?_push_of_some _ e
  have hsz : (s2.heap.push ob).objs.size = D + 1 := by rw [Heap.size_push, hD]
  have f3 : ∀ b ∈ fp, FpOk X pins (upd H2 D (O D)) b ∧ b < (s2.heap.push ob).objs.size := fun b hb => by
    have hlt := sz b hb
    refine ⟨⟨?_, (f2 b hb).2⟩, by rw [hsz]; exact Nat.lt_succ_of_lt hlt⟩
    rw [upd_ne (Nat.ne_of_lt hlt)]
    exact (f2 b hb).1
  generalize hS : ({ heap := s2.heap.push ob, gens := s2.gens, drawn := s2.drawn, toks := s2.toks, os := s2.os } : Shared) = S3 at *
  have hSh : S3.heap = s2.heap.push ob := by rw [← hS]
  rw [← hSh] at st3 hsz f3
  have I4 := block_start I3 ok hN f3
  have pg := hg S3 (upd H2 D (O D)) S3.heap.objs.size (cellsFrom (S3.heap.objs.size + 1) scope.names (cloFrom X.env.cells scope.names [])) fp
  have pt := ht S3 (upd H2 D (O D)) S3.heap.objs.size (cellsFrom (S3.heap.objs.size + 1) scope.names (cloFrom X.env.cells scope.names [])) fp
  have pe := he S3 (upd H2 D (O D)) S3.heap.objs.size (cellsFrom (S3.heap.objs.size + 1) scope.names (cloFrom X.env.cells scope.names [])) fp
  have nfp : ∀ b ∈ fp, upd H2 D (O D) b = none := fun b hb => (f3 b hb).1.1
  have st4 : tn 0 (pushCells (S3.heap.push { cls := .type "dict", data := .dict #[] }) scope.names) := T.keep 0 S3.heap _ st3 fun b x o e => pushCells_keeps scope.names _ b o (Heap.get?_push_of_some _ e)
  have stat : ∀ (σ' : St) (H' : Hp) (s' : Shared), Inv (X.blk S3 (upd H2 D (O D)) scope (compEnvC scope (cellsFrom (S3.heap.objs.size + 1) scope.names (cloFrom X.env.cells scope.names [])) S3.heap.objs.size X.env) fp) [] σ' H' s' → (∀ b ∈ fp, H' b = none) →
      ∀ b ∈ fp, FpOk (X.blk S3 (upd H2 D (O D)) scope (compEnvC scope (cellsFrom (S3.heap.objs.size + 1) scope.names (cloFrom X.env.cells scope.names [])) S3.heap.objs.size X.env) fp) [] H' b := fun σ' H' s' I' hn b hb =>
    ⟨hn b hb, (I'.ok.exf b hb).1, I'.ok.exfs b hb, .inl hb, fun x c e => (I'.ok.exf b hb).2 x c e, fun p hp => by cases hp⟩
  generalize hY : X.blk S3 (upd H2 D (O D)) scope (compEnvC scope (cellsFrom (S3.heap.objs.size + 1) scope.names (cloFrom X.env.cells scope.names [])) S3.heap.objs.size X.env) fp = Y at *
  have y1 : Y.prog = X.prog := by rw [← hY]
  have y2 : Y.w = X.w := by rw [← hY]
  have y3 : Y.K = X.K := by rw [← hY]
  have y4 : Y.A = X.A := by rw [← hY]
  have y5 : Y.calm = X.calm := by rw [← hY]
  have y6 : Y.xe = fun _ _ => False := by rw [← hY]
  have y7 : Y.env = compEnvC scope (cellsFrom (S3.heap.objs.size + 1) scope.names (cloFrom X.env.cells scope.names [])) S3.heap.objs.size X.env := by rw [← hY]
  suffices loop : codeAny (model X.prog X.w) X.A (Code.compLoop (.SetComp elt [⟨tg, iter, ifs, 0⟩] scope pos) 0 (.ref it) (.ref D) (compEnvC scope (cellsFrom (S3.heap.objs.size + 1) scope.names (cloFrom X.env.cells scope.names [])) S3.heap.objs.size X.env)) (compPost (model X.prog X.w) X.A X.xe use Qf (.ref D) S3.heap.objs.size) { heap := pushCells (S3.heap.push { cls := .type "dict", data := .dict #[] }) scope.names, gens := S3.gens, drawn := S3.drawn, toks := S3.toks, os := S3.os } from
    PpSet.codeAny_compStart_set loop (T.self X.A 0 _ _ _ st4 loop)
  refine PpSet.compLoopS_any (I := fun n s' => ∃ i H', Inv Y [] (wipe σ (own.map (·.2))) H' s' ∧ tn i s'.heap ∧ (∀ b ∈ fp, H' b = none) ∧ W i n H') ?_ m0 ⟨0, _, I4, st4, nfp, w0⟩
  rintro n s5 ⟨i, H5, I5, st5, n5, w5⟩
  rcases turn i n H5 w5 with ⟨stop, qq⟩ | ⟨go, Nx, hNx, step⟩
  · have td := T.done Y y1 y2 y3 (y5.trans hc) i [] s5 _ H5 (fun _ _ => False) I5 (stat _ _ _ I5 n5) st5 stop
    rw [y4] at td
    refine thnF td fun r s6 h => ?_
    obtain ⟨rfl, I6⟩ := h
    have I7 : Inv X pins σ H5 s6 := by
      subst hY
      exact I3.call' I6.os I6.base I6.hok I6.bare fun b hb => ⟨(f3 b hb).1.2.2.2.1, (f3 b hb).1.2.1, (f3 b hb).1.2.2.2.2.1, (f3 b hb).1.2.2.2.2.2⟩
    have nC : H5 S3.heap.objs.size = none := by
      subst hY
      exact I6.free
    have hns : ∃ m, s6.heap.Ns S3.heap.objs.size m := by
      subst hY
      obtain ⟨m, hn, _⟩ := I6.loc
      exact ⟨m, hn⟩
    obtain ⟨m, hn⟩ := hns
    exact hRR D S3.heap.objs.size s6 m H5 I7 qq hn (I3.fpOk (Nat.le_refl _) nC)
  · have ti := T.item Y y1 y2 y3 (y5.trans hc) i [] s5 _ H5 (fun _ _ => False) I5 (stat _ _ _ I5 n5) st5 go
    rw [y4] at ti
    refine thnF ti fun r s6 h => ?_
    obtain ⟨u, rfl, h6⟩ := h
    refine thnF h6 fun _ s7 h => ?_
    obtain ⟨x, H7, I7, r7, yl7, st7, n7⟩ := h
    have I7' := I7.pinned (stat _ _ _ I7 n7) (T.obj (i + 1) s7.heap st7)
    have rg := pg.run ([] ++ pinsAt fp s7.heap) s7 _ H7 x u _ I7' r7 (step x H7 yl7)
    rw [y1, y2, y4, y6, y7] at rg
    refine thnF rg fun _ s8 h => ?_
    obtain ⟨σ8, H8, I8, hw8, q8⟩ := h
    have rt := pt.run ([] ++ pinsAt fp s7.heap) s8 σ8 H8 _ I8 q8
    rw [y1, y2, y4, y6, y7] at rt
    refine thnF rt fun b s9 h => ?_
    obtain ⟨H9, I9, q9⟩ := h
    have hl : (wipe σ (own.map (·.2))).length = σ8.length := by rw [← hw8]; exact wipe_length σ8 _
    have fin : ∀ (s' : Shared) (H' : Hp), Inv Y ([] ++ pinsAt fp s7.heap) σ8 H' s' → Nx H' → ∃ m', m' < n ∧ ∃ i H', Inv Y [] (wipe σ (own.map (·.2))) H' s' ∧ tn i s'.heap ∧ (∀ b ∈ fp, H' b = none) ∧ W i m' H' := fun s' H' I' nx => by
      obtain ⟨m', hm, w'⟩ := hNx H' nx
      have pin' : ∀ b ∈ fp, ∀ o, s7.heap.get? b = some o → s'.heap.get? b = some o ∧ H' b = none := fun b hb o e => by
        have z := I'.pin (b, o) (List.mem_append_right _ (mem_pinsAt hb e))
        exact ⟨z.1, z.2.1⟩
      refine ⟨m', hm, i + 1, H', I'.unpinned.weak hl fun j v e => ?_, T.keep (i + 1) s7.heap s'.heap st7 fun b hb o e => (pin' b hb o e).1, fun b hb => ?_, w'⟩
      · rw [← hw8] at e
        exact (wipe_some e).1
      · obtain ⟨o, e, _⟩ := T.obj (i + 1) s7.heap st7 b hb
        exact (pin' b hb o e).2
    cases b with
    | false => exact fin s9 H9 I9 q9
    | true =>
      have re := pe.run ([] ++ pinsAt fp s7.heap) s9 σ8 H9 _ I9 q9
      rw [y1, y2, y4, y6, y7] at re
      refine thnF re fun z s10 h => ?_
      obtain ⟨yv, H10, I10, r10, hA⟩ := h
      have ra := fun (E : Value → Shared → Prop) => SK.add Y y1 y2 y3 y4 y6 _ σ8 H10 s10 E D yv z Nx (fun _ s' => ∃ m', m' < n ∧ ∃ i H', Inv Y [] (wipe σ (own.map (·.2))) H' s' ∧ tn i s'.heap ∧ (∀ b ∈ fp, H' b = none) ∧ W i m' H') I10 r10 hA fun s' H' J nx => fin s' H' J nx
      rw [y1, y2, y4] at ra
      exact ra _
theorem pe_scG (SK : SetKind X O ad) (hc : X.calm = true) (hN : X.N.Nodup) (hi : PI X tg iter wi) (ok : BlkOk X.N X.env.scope scope own)
    (hg : ∀ (s : Shared) (H : Hp) (C : Addr) (cl : List (Str × Addr)) (fp : List Addr), PG (X.blk s H scope (compEnvC scope cl C X.env) fp) tg g)
    (ht : ∀ (s : Shared) (H : Hp) (C : Addr) (cl : List (Str × Addr)) (fp : List Addr), PTs (X.blk s H scope (compEnvC scope cl C X.env) fp) ifs tt)
    (he : ∀ (s : Shared) (H : Hp) (C : Addr) (cl : List (Str × Addr)) (fp : List Addr), PE (X.blk s H scope (compEnvC scope cl C X.env) fp) elt te)
    (hs : ∀ x : Value, foldedSetIterable iter X.env x = pure x) : PE X (.SetComp elt [⟨tg, iter, ifs, 0⟩] scope pos) (tScG O ad wi g tt te (own.map (·.2))) := by
  refine ⟨fun pins s σ H Q I h => ?_⟩
  rw [PpSet.eval_SetComp]
  refine scG_core SK hc hN I hi ok hg ht he hs h fun D C s' m H' I' q hn hf => ?_
  obtain ⟨f0, f1, f2, f3, f4, f5⟩ := hf
  exact ⟨m, hn, fun h2 sb => ⟨.ref D, H', I'.turned (fun b o hb e => (sb.2 b hb).trans e) f0 f1 f3 f4 f5, rfl, q⟩⟩
end
/-! ## the two kinds: of tuples of ints, of ints -/
def adT (K : PySem.W.Frag) (P : Program) (w : World) : AdT := fun D y H k => ∃ (L : List (Addr × List Int)) (b : Addr) (ns : List Int), y = .ref b ∧ H D = some (SetTO P w D L) ∧ SqT K H b (ns.map .int) ∧ (∀ p ∈ L, SqT K H p.1 (p.2.map .int)) ∧ L.length + 1 < 64 ∧
  ∀ L', (ns ∈ L.map (·.2) → L' = L) → (ns ∉ L.map (·.2) → L'.Perm ((b, ns) :: L)) → k (upd H D (SetTO P w D L'))
def adI (w : World) : AdT := fun D y H k => ∃ (i : Int) (S : Int → Bool) (n : Nat), y = .int i ∧ H D = some (SetO w D S n) ∧ n + 1 < scanBound ∧ k (upd H D (SetO w D (fun j => S j || decide (j = i)) (if S i = true then n else n + 1)))
theorem setKindT {X : Cx} (hu : X.A.units + 64 < cLine) : SetKind X (fun D => SetTO X.prog X.w D []) (adT X.K X.prog X.w) := by
  refine ⟨fun H h => setTO_new (SetTR.t0 (setTR_fresh (Heap.get?_push_size _ rfl))), ?_⟩
  rintro Y y1 y2 y3 y4 y6 pins σ H s E D y u k Q I rv ⟨L, b, ns, rfl, hD, hb, hL, hl, hk⟩ hQ
  rw [← y1, ← y2] at hD
  rw [← y3] at hb hL
  rw [← y4] at hu
  have R0 := (I.hok D _ hD).1
  obtain ⟨es, ep, t, R⟩ := SetT0.full R0 fun p hp => I.isT (hL p hp)
  have hB := I.isT hb
  obtain ⟨o, ho, hex, hd⟩ := R.ob
  cases rv
  have u1 : Y.A.in1.units < cLine := by
    have : Y.A.in1.units = Y.A.units + 1 := rfl
    omega
  refine wpAny_call_entry F.slot_set_add ⟨o, ho, hex.1⟩ F.entry_set_add ?_ (F.args_set_add_2 _ _)
  show wpAny _ _ ((Builtin.Frozenset.addrOf (.ref D) >>= fun l => pure (l, Value.ref b)) >>= fun x => setAdd x.1 x.2 >>= fun _ => ret .none) _ _ _
  rw [bind_assoc]
  refine wpAny_bind (wpAny_pure (wpAny_bind (wpAny_pure (wpAny_bind (wpAny_holding (wpAny_bind (wpAny_pyHash_tuple u1 hB (add_at (s := { heap := s.heap, gens := s.gens, drawn := s.drawn, toks := s.toks + (ns.length + 1), os := s.os }) R hB u1 hl fun b2 h' L' es' ep' t' sb new n1 n2 => wpAny_pure ⟨.none, rfl, ?_⟩))))))))
  have he : ∃ u, h'.get? D = some u := by
    obtain ⟨o2, h2, _⟩ := new.ob
    exact ⟨o2, h2⟩
  have J := I.write (t' := s.toks + (ns.length + 1)) (o := SetTO Y.prog Y.w D L') (by rw [hD]; exact trivial) (.inl rfl) (fun b u hb hu => (sb.2 b hb).trans hu) he (setTO_new new.t0)
  refine hQ _ _ J ?_
  have := hk L' n1 n2
  rw [← y1, ← y2] at this
  exact this
theorem setKindI {X : Cx} : SetKind X (fun D => SetO X.w D (fun _ => false) 0) (adI X.w) := by
  refine ⟨fun H h => setO_new ⟨_, #[], 0, _, Heap.get?_push_size _ rfl, ⟨rfl, rfl, rfl⟩, rfl, ?_, ?_, ?_, by decide, ?_, rfl, ?_, ?_⟩, ?_⟩
  · intro e he; cases he
  · exact .nil
  · intro k
    constructor
    · intro h; cases h
    · intro h; cases h
  · rfl
  · exact List.Pairwise.nil
  · show _ ∨ (!X.w.params.followText "set-order") = true
    cases X.w.params.followText "set-order"
    · exact .inr rfl
    · exact .inl rfl
  rintro Y y1 y2 y3 y4 y6 pins σ H s E D y u k Q I rv ⟨i, S, n, rfl, hD, hn, hk⟩ hQ
  rw [← y2] at hD
  have r := @mt_sadd Y pins s σ H (.ref D) [.int i] (.ref D) [u] (fun v H' => v = .non ∧ k H') I rfl (.cons rv .nil) ⟨D, i, S, n, rfl, rfl, hD, hn, rfl, by rw [← y2] at hk; exact hk⟩
  rw [y6] at r
  refine thnF r fun v s' h => ?_
  obtain ⟨v', H', J, rv', rfl, hk'⟩ := h
  cases rv'
  exact hQ s' H' J hk'
end Qz
namespace Qz
open PySem PySem.Spec L2
open PyProof.Rows hiding St
/-! ## an object that nobody owns -/
structure Fr (w : Wd) (H : Hp) (D : Addr) (o : HO) : Prop where
  O : w.O D = none
  F : w.F D = none
  at' : H D = some o
  nt : NT o
  nb : ¬ isBox w.B D
section
variable {K : PySem.W.Frag} {n t t0 : Nat} {w w' : Wd} {H H' : Hp} {σ : St} {s : S} {D : Addr} {o o' : HO}
theorem Fr.step (h : Fr w H D o) (st : Step n t0 w H w' H') : Fr w' H' D o := by
  refine ⟨?_, ?_, st.keep D o h.at' (fun i hi => by rw [h.O] at hi; cases hi) h.nb, h.nt, ?_⟩
  · cases q : w'.O D with
    | none => rfl
    | some i =>
      rcases st.newO D i q with z | z
      · rw [h.at'] at z; cases z
      · exact absurd h.O z
  · cases q : w'.F D with
    | none => rfl
    | some u =>
      rcases st.newF D (by rw [q]; simp) with z | z | ⟨i, z, _⟩ | ⟨xs, z⟩ | z
      · exact absurd h.F z
      · rw [h.at'] at z; cases z
      · rw [h.O] at z; cases z
      · rw [h.at'] at z; exact absurd (Option.some.inj z) (h.nt xs)
      · exact absurd z h.nb
  · rintro ⟨p, g, e, z⟩
    rcases st.B with e1 | ⟨_, e1⟩
    · exact h.nb ⟨p, g, e1 ▸ e, z⟩
    · obtain ⟨z1, z2⟩ := e1 p g e
      rcases z with rfl | rfl
      · rw [h.at'] at z1; cases z1
      · rw [h.at'] at z2; cases z2
theorem out_ok (ok : OKs K w H σ s t) (hO : w.O D = none) (hF : w.F D = none) (hb : ¬ isBox w.B D) : OKs K w (upd H D o) σ s t := by
  have on : ∀ a i, w.O a = some i → a ≠ D := fun a i h z => by subst z; rw [hO] at h; cases h
  refine ⟨fun b u e => ?_, ok.len, fun i q v h1 h2 => SlR.mono (ok.sl i q v h1 h2) (Same.refl _) rfl fun a ha => ⟨ha, upd_ne (on a i ha)⟩, fun a i e => ?_, ok.tN, fun p g e => ?_, ok.nob⟩
  · rw [upd_ne (ne_of_none e hF)]; exact ok.sub b u e
  · obtain ⟨q1, ⟨u, q2, nu⟩, q3⟩ := ok.own a i e
    exact ⟨q1, ⟨u, by rw [upd_ne (on a i e)]; exact q2, nu⟩, q3⟩
  · obtain ⟨bo, o1, o2⟩ := ok.box p g e
    have np : p ≠ D := fun z => hb ⟨p, g, e, .inl z.symm⟩
    have ng : g ≠ D := fun z => hb ⟨p, g, e, .inr z.symm⟩
    exact ⟨⟨bo.fp, bo.fg, bo.ne, by rw [upd_ne np]; exact bo.hp, by rw [upd_ne ng]; exact bo.hg⟩, o1, o2⟩
theorem fresh_fr (ok : OKs K w H σ s t) (hD : H D = none) (nt : NT o) : Fr w (upd H D o) D o := by
  refine ⟨?_, ?_, upd_same, nt, ?_⟩
  · cases q : w.O D with
    | none => rfl
    | some i => obtain ⟨_, ⟨u, z, _⟩, _⟩ := ok.own D i q; rw [hD] at z; cases z
  · cases q : w.F D with
    | none => rfl
    | some u => have := ok.sub D u q; rw [hD] at this; cases this
  · rintro ⟨p, g, e, z⟩
    obtain ⟨bo, _, _⟩ := ok.box p g e
    rcases z with rfl | rfl
    · have := bo.hp; rw [hD] at this; cases this
    · have := bo.hg; rw [hD] at this; cases this
theorem Step.out (st : Step n t0 w H w' H') (hD : H D = none) : Step n t0 w H w' (upd H' D o) where
  F := st.F
  keep := fun a u h ho hb => by rw [upd_ne (ne_of_none h hD)]; exact st.keep a u h ho hb
  there := fun a u h => by
    obtain ⟨u', h'⟩ := st.there a u h
    exact ⟨u', by rw [upd_ne (ne_of_none h hD)]; exact h'⟩
  tmp := st.tmp
  newF := st.newF
  newO := st.newO
  newT := st.newT
  B := st.B
theorem Fr.put (h : Fr w H D o) (nt : NT o') : Fr w (upd H D o') D o' := ⟨h.O, h.F, upd_same, nt, h.nb⟩
end
/-! ## what stands in the set while it grows -/
structure KindOk (K : PySem.W.Frag) (O : Addr → HO) (ad : AdT) (good : D → Bool) (T : Hp → Addr → List D → HO → Prop) : Prop where
  nt : ∀ {F D acc o}, T F D acc o → NT o
  init : ∀ F D, T F D [] (O D)
  mono : ∀ {F G D acc o}, Same F G → T F D acc o → T G D acc o
  step : ∀ {F H D acc o y z k}, Same F H → T F D acc o → H D = some o → Rep K F z y → good z = true → acc.length ≤ 62 → (∀ o', T F D (acc ++ [z]) o' → k (upd H D o')) → ad D y H k
theorem sc_it {J : It} {n : Nat} {G : Hp → Prop} {Y : Nat → Hp → V → Hp → Prop} (hW : Walk J n G Y) {O : Addr → HO} {ad : AdT} {g : TG} {tt : TT} {te : TE} {vs : List Nat} {σ : St} {H1 : Hp} {D : Addr} {Qd : Hp → Prop} (Pv : Nat → Hp → Prop)
    (h0 : Pv 0 (upd H1 D (O D))) (hG : ∀ i H, i ≤ n → Pv i H → G H)
    (hs : ∀ i x H H', i < n → Pv i H → Y i H x H' → g x (wipe σ vs) H' fun σ2 H2 => wipe σ2 vs = wipe σ vs ∧ tt σ2 H2 fun b H3 => if b = true then te σ2 H3 fun y H4 => ad D y H4 (Pv (i + 1)) else Pv (i + 1) H3) (he : ∀ H, Pv n H → Qd H) :
    ∃ W : Nat → Nat → Hp → Prop, (∃ m, W 0 m (upd H1 D (O D))) ∧ ∀ i m H, W i m H → (J.stop i H ∧ Qd H) ∨ (J.go i H ∧ ∃ Nx : Hp → Prop, (∀ H', Nx H' → ∃ m', m' < m ∧ W (i + 1) m' H') ∧ ∀ x H', J.yld i H x H' → g x (wipe σ vs) H' fun σ2 H2 => wipe σ2 vs = wipe σ vs ∧ tt σ2 H2 fun b H3 => if b = true then te σ2 H3 fun y H4 => ad D y H4 Nx else Nx H3) := by
  refine ⟨fun i m H => i + m = n ∧ Pv i H, ⟨n, by omega, h0⟩, ?_⟩
  rintro i m H ⟨e, h⟩
  cases m with
  | zero =>
    have : i = n := by omega
    subst this
    exact .inl ⟨hW.stops H (hG i H (Nat.le_refl _) h), he H h⟩
  | succ m =>
    have hi : i < n := by omega
    have hg := hG i H (by omega) h
    exact .inr ⟨hW.goes i H hi hg, Pv (i + 1), fun H' h' => ⟨m, Nat.lt_succ_self _, by omega, h'⟩, fun x H' hy => hs i x H H' hi h (hW.yields i H x H' hi hg hy)⟩
def mAcc (src : MI) (g : D → S → Option S) (c : MT) (m : ME) (vs : List Nat) : M (List D) := fun s => match src s with
  | .no => .no
  | .ok ds s1 => if noOwn s1.a vs then match lcL g c m vs ds [] s1 with
    | .no => .no
    | .ok acc s2 => .ok acc { s2 with a := backA s1.a s2.a vs } else .no
theorem lcL_pre {g : D → S → Option S} {c : MT} {m : ME} {vs : List Nat} {acc0 : List D} {sb : S} : ∀ (ds acc : List D) (s : S), lcL g c m vs ds acc s = .ok acc0 sb → ∃ r, acc0 = acc ++ r
  | [], acc, s, e => by
    simp only [lcL] at e
    cases e
    exact ⟨[], by simp⟩
  | d :: ds, acc, s, e => by
    simp only [lcL] at e
    split at e
    · cases e
    · split at e
      · cases e
      · exact lcL_pre ds acc _ e
      · split at e
        · cases e
        · split at e
          · cases e
          · rename_i z _ _
            split at e
            · obtain ⟨r, h⟩ := lcL_pre ds _ _ e
              exact ⟨z :: r, by rw [h]; simp⟩
            · cases e
section
variable {K : PySem.W.Frag} {src : MI} {g : D → S → Option S} {ws vs : List Nat} {c : MT} {m : ME} {wi : TI} {O : Addr → HO} {ad : AdT} {good : D → Bool} {T : Hp → Addr → List D → HO → Prop}
theorem sc_snd (kd : KindOk K O ad good T) (hw : ∀ i ∈ ws, i ∈ vs)
    (hi : ∀ (σ : St) (H : Hp) (w : Wd) (s : S) (t : Nat) (Q : It → Hp → Prop) (ds : List D) (s' : S), OKs K w H σ s t → src s = .ok ds s' →
    (∀ w' H' t' J, t ≤ t' → OKs K w' H' σ s' t' → Step s.a.length t w H w' H' → Slotted s s' → WalkOk K J ds w'.F → Q J H') → wi σ H Q)
    {σ : St} {H : Hp} {w : Wd} {s : S} {t : Nat} {Q : VK} {acc0 : List D} {s' : S} (ok : OKs K w H σ s t) (e : mAcc src g c m vs s = .ok acc0 s') (hl0 : acc0.length ≤ 63) (hgood : ∀ d ∈ acc0, good d = true)
    (k : ∀ w' H' D o t', t ≤ t' → OKs K w' H' σ s' t' → Step s.a.length t w H w' H' → Slotted s s' → Fr w' H' D o → T w'.F D acc0 o → Q (.ref D) H') :
    tScG O ad wi (tgC K g ws) (ttC K c) (teC K m) vs σ H Q := by
  simp only [mAcc] at e
  split at e
  · cases e
  · rename_i ds sa e1
    split at e
    · rename_i hno
      split at e
      · cases e
      · rename_i acc1 sb e2
        cases e
        refine hi σ H w s t _ ds sa ok e1 fun w1 H1 t1 J a1 ok1 st1 sl1 wk => ?_
        have hl := ok.slen ok1
        have tN := ok1.tN
        generalize hn : s.a.length = n at *
        obtain ⟨G, Y, hW, hG, hY⟩ := wk
        intro A hA
        have hT0 := kd.init w1.F A
        have fr0 := fresh_fr (o := O A) ok1 hA (kd.nt hT0)
        have okg := out_ok (o := O A) ok1 fr0.O fr0.F fr0.nb
        have stg : Step n t1 w1 H1 w1 (upd H1 A (O A)) := Step.refl.out hA
        refine sc_it hW (fun i H2 => ∃ w2 s2 acc o, OKs K w2 H2 (wipe σ vs) { s2 with a := wipeA s2.a vs } t1 ∧ s2.a.length = n ∧ Fr w2 H2 A o ∧ T w2.F A acc o ∧ Step n t1 w1 H1 w2 H2 ∧
          (∀ i, i ∉ vs → ∀ q, sa.a[i]? = some (some q) → ∃ q', s2.a[i]? = some (some q')) ∧ lcL g c m vs (ds.drop i) acc s2 = .ok acc0 sb) ?_ ?_ ?_ ?_
        · exact ⟨_, sa, [], _, wipe_ok okg, hl, fr0, hT0, stg, fun i _ q h => ⟨q, h⟩, e2⟩
        · rintro i H2 _ ⟨w2, s2, acc, o, ok2, _, _, _, st2, _⟩
          exact hG H2 (st2.F.trans ok2.sub)
        · rintro i x H2 H3 hlt ⟨w2, s2, acc, o, ok2, l2, fr2, hT2, st2, sl2, e3⟩ y
          obtain ⟨d, hd, hx⟩ := hY i H2 x H3 hlt (st2.F.trans ok2.sub) y
          have ed : ds.drop i = d :: ds.drop (i + 1) := by
            have := List.drop_eq_getElem_cons hlt
            rw [this]
            have q := (List.getElem?_eq_some_iff.mp hd).2
            rw [q]
          rw [ed] at e3
          have nA : ∃ w3, OKs K w3 H3 (wipe σ vs) { s2 with a := wipeA s2.a vs } t1 ∧ Step n t1 w2 H2 w3 H3 ∧ Rep K w3.F d x := by
            rcases hx with ⟨rfl, hr⟩ | ⟨T', us, es, rfl, hT, rfl, rfl, hr⟩
            · exact ⟨w2, ok2, .refl, Rep.mono st2.F d x hr⟩
            · refine ⟨w2.lay T' (.tup us), lay_ok ok2 hT, lay_step ok2 hT, ?_⟩
              simp only [Rep]
              exact ⟨T', us, rfl, upd_same, RepL.mono (st2.F.trans (lay_step (o := .tup us) (t0 := t) (n := n) ok2 hT).F) es us hr⟩
          obtain ⟨w3, ok3, st3, rep3⟩ := nA
          have fr3 := fr2.step st3
          have hT3 := kd.mono st3.F hT2
          have st13 := st2.trans st3
          simp only [lcL] at e3
          split at e3
          · cases e3
          · rename_i sc e4
            have lw : (wipeA s2.a vs).length = n := (wipeA_length _ _).trans l2
            refine ⟨d, w3, _, sc, t1, n, ok3, lw, rep3, e4, fun σ4 ok4 l4 sl4 wr4 => ?_⟩
            have hwp : wipe σ4 vs = wipe σ vs := by
              have z : (wipe σ vs).length = σ4.length := by rw [ok3.len, ok4.len, l4]; exact lw
              have : wipe σ4 vs = wipe (wipe σ vs) vs := wipe_eq z.symm fun i hi => wr4 i (fun h => hi (hw i h))
              rw [this]
              refine wipe_eq (wipe_length _ _) fun i hi => ?_
              rw [wipe_get, if_neg hi]
            have slA : ∀ {sx : S}, Slotted sc sx → ∀ i, i ∉ vs → ∀ q, sa.a[i]? = some (some q) → ∃ q', sx.a[i]? = some (some q') := fun hs i hi q h => by
              obtain ⟨q1, h1⟩ := sl2 i hi q h
              obtain ⟨q2, h2⟩ := sl4 i q1 (by show (wipeA s2.a vs)[i]? = _; rw [wipeA_get, if_neg hi]; exact h1)
              exact hs i q2 h2
            refine ⟨hwp, ?_⟩
            split at e3
            · cases e3
            · rename_i sd e5
              refine ⟨w3, sc, t1, false, sd, ok4, e5, fun w5 H5 t5 a5 ok5 st5 sl5 => ?_⟩
              refine iteF ?_
              rw [l4] at st5
              have l5 : sd.a.length = n := (ok4.slen ok5).trans l4
              have okD := dropT_ok ok5 (T := t1) (by omega)
              have fr5 := (fr3.step st5).step (dropT_step (n := n) (T := t1) (H := H5))
              refine ⟨w5.drop t1, sd, acc, o, ?_, l5, fr5, kd.mono st5.F hT3, st13.trans (st5.trans dropT_step), slA sl5, e3⟩
              rw [← hwp]; exact wipe_ok okD
            · rename_i sd e5
              refine ⟨w3, sc, t1, true, sd, ok4, e5, fun w5 H5 t5 a5 ok5 st5 sl5 => ?_⟩
              refine iteT ?_
              rw [l4] at st5
              have l5 : sd.a.length = n := (ok4.slen ok5).trans l4
              split at e3
              · cases e3
              · rename_i y' se e6
                split at e3
                · cases e3
                · rename_i z sf e7
                  split at e3
                  · rename_i hz
                    refine ⟨w5, sd, t5, y', se, ok5, e6, fun w6 H6 u t6 τ b1 b2 ok6 st6 sl6 rel6 => ?_⟩
                    rw [l5] at st6
                    have l6 : se.a.length = n := (ok5.slen ok6).trans l5
                    obtain ⟨w7, ok7, st7, rep7, sl7, l7, _⟩ := take1_ok (t0 := t1) ok6 rel6 e7 (by omega) (by omega)
                    rw [l6] at st7 l7
                    have stA := (st5.trans (st6.mono (by omega))).trans st7
                    have fr7 := fr3.step stA
                    have hT7 := kd.mono stA.F hT3
                    obtain ⟨r, hr⟩ := lcL_pre _ _ _ e3
                    have hgz : good z = true := hgood z (by rw [hr]; simp)
                    have hal : acc.length ≤ 62 := by
                      have := congrArg List.length hr
                      simp at this
                      omega
                    refine kd.step ok7.sub hT7 fr7.at' rep7 hgz hal fun o' hT' => ?_
                    have frM := fr7.put (kd.nt hT')
                    have okM := out_ok (o := o') ok7 fr7.O fr7.F fr7.nb
                    have okD := dropT_ok okM (T := t1) (by omega)
                    refine ⟨w7.drop t1, sf, acc ++ [z], o', ?_, l7, frM.step (dropT_step (n := n) (T := t1)), hT', ?_, slA ((sl5.trans sl6).trans sl7), e3⟩
                    · rw [← hwp]; exact wipe_ok okD
                    · exact ((st13.trans stA).out hA).trans dropT_step
                  · cases e3
        · rintro H2 ⟨w2, s2, acc, o, ok2, l2, fr2, hT2, st2, sl2, e3⟩
          rw [List.drop_length] at e3
          cases e3
          refine k w2 H2 A o t1 a1 ?_ (st1.trans (st2.mono a1)) ?_ fr2 hT2
          · have lb : (backA sa.a sb.a vs).length = n := (backA_length _ _ _).trans l2
            refine ⟨ok2.sub, by show σ.length = _; rw [lb, ok1.len, hl], fun i q v h1 h2 => ?_, ok2.own, by show (backA sa.a sb.a vs).length ≤ _; omega, ok2.box, ok2.nob⟩
            have h1 : (backA sa.a sb.a vs)[i]? = some q := h1
            rw [backA_get _ _ _ (l2.trans hl.symm)] at h1
            by_cases hi : i ∈ vs
            · rw [if_pos hi] at h1
              have hs := ok1.sl i q v h1 h2
              cases q with
              | none => trivial
              | some q =>
                cases q with
                | d y => obtain ⟨u, eu, hr⟩ := hs; exact ⟨u, eu, Rep.mono st2.F y u hr⟩
                | o c =>
                  have := List.all_eq_true.mp hno i hi
                  rw [h1] at this
                  cases this
                | sl _ => exact hs
                | bx =>
                  obtain ⟨p, gg, eb, ev⟩ := hs
                  rcases st2.B with z | ⟨z, _⟩
                  · exact ⟨p, gg, z.trans eb, ev⟩
                  · rw [z] at eb; cases eb
            · rw [if_neg hi] at h1
              refine ok2.sl i q v ?_ ?_
              · show (wipeA sb.a vs)[i]? = _
                rw [wipeA_get, if_neg hi]; exact h1
              · rw [wipe_get, if_neg hi]; exact h2
          · refine sl1.trans fun i q h => ?_
            show ∃ q', (backA sa.a sb.a vs)[i]? = _
            rw [backA_get _ _ _ (l2.trans hl.symm)]
            by_cases hi : i ∈ vs
            · rw [if_pos hi]; exact ⟨q, h⟩
            · rw [if_neg hi]; exact sl2 i hi q h
    · cases e
end
end Qz
namespace Qz
open PySem PySem.Spec L2
open PyProof.Rows hiding St
/-! ## each once, in order -/
def nubL : List (List Int) → List (List Int)
  | [] => []
  | x :: r => if x ∈ r then nubL r else x :: nubL r
theorem mem_nub {y : List Int} : ∀ {l : List (List Int)}, y ∈ nubL l ↔ y ∈ l
  | [] => Iff.rfl
  | x :: r => by
    unfold nubL
    split
    · rename_i h
      rw [mem_nub, List.mem_cons]
      constructor
      · exact .inr
      · rintro (rfl | h2)
        · exact h
        · exact h2
    · rw [List.mem_cons, List.mem_cons, mem_nub]
theorem nub_nodup : ∀ l : List (List Int), (nubL l).Nodup
  | [] => .nil
  | x :: r => by
    unfold nubL
    split
    · exact nub_nodup r
    · rename_i h
      exact List.nodup_cons.mpr ⟨fun h2 => h (mem_nub.mp h2), nub_nodup r⟩
theorem nub_len : ∀ l : List (List Int), (nubL l).length ≤ l.length
  | [] => Nat.le_refl _
  | x :: r => by
    unfold nubL
    have := nub_len r
    split
    · rw [List.length_cons]; omega
    · rw [List.length_cons, List.length_cons]; omega
def sortU (l : List (List Int)) : List (List Int) := sortI (nubL l)
theorem mem_sortU {y : List Int} {l : List (List Int)} : y ∈ sortU l ↔ y ∈ l := (sortI_perm _).mem_iff.trans mem_nub
theorem sortU_nodup (l : List (List Int)) : (sortU l).Nodup := (sortI_perm _).nodup_iff.mpr (nub_nodup l)
theorem sortU_srtd (l : List (List Int)) : SrtO.Srtd HT.lexLt (sortU l) := sortI_srtd _
theorem sortU_len (l : List (List Int)) : (sortU l).length ≤ l.length := by unfold sortU; rw [(sortI_perm _).length_eq]; exact nub_len l
theorem sortU_one {l m : List (List Int)} (hn : m.Nodup) (hs : SrtO.Srtd HT.lexLt m) (hm : ∀ y, y ∈ m ↔ y ∈ l) : m = sortU l :=
  sorted_one hs (sortU_srtd l) ((List.perm_ext_iff_of_nodup hn (sortU_nodup l)).mpr fun y => (hm y).trans mem_sortU.symm)
theorem dTupI_inj {a b : List Int} (h : dTupI a = dTupI b) : a = b := by
  unfold dTupI at h
  have h2 : a.map PyData.int = b.map PyData.int := by injection h
  exact List.map_inj_right (fun a b e => by injection e) |>.mp h2
/-! ## sets of tuples of ints -/
def TT' (P : Program) (w : World) : Hp → Addr → List D → HO → Prop := fun F D acc o => ∃ L : List (Addr × List Int), o = SetTO P w D L ∧ (∀ p ∈ L, F p.1 = some (.tup (p.2.map V.int))) ∧ (∀ p ∈ L, p.2 ≠ []) ∧ (∀ p ∈ L, dTupI p.2 ∈ acc) ∧ (∀ d ∈ acc, ∃ p ∈ L, d = dTupI p.2) ∧ L.length ≤ acc.length
theorem kindT {K : PySem.W.Frag} {P : Program} {w : World} : KindOk K (fun D => SetTO P w D []) (adT K P w) (fun d => (tupI? d).isSome) (TT' P w) := by
  refine ⟨?_, fun F D => ⟨[], rfl, by simp, by simp, by simp, by simp, Nat.le_refl _⟩, ?_, ?_⟩
  · rintro F D acc _ ⟨L, rfl, _⟩ xs h
    cases h
  · rintro F G D acc o sm ⟨L, rfl, h1, h⟩
    exact ⟨L, rfl, fun p hp => sm _ _ (h1 p hp), h⟩
  · rintro F H D acc o y z k sm ⟨L, rfl, h1, h2, h3, h4, h5⟩ hD rep hg hl hk
    obtain ⟨ns, e⟩ := Option.isSome_iff_exists.mp hg
    obtain ⟨rfl, hne⟩ := tupI_eq e
    obtain ⟨b, rfl, hb⟩ := rep_tupI rep
    refine ⟨L, b, ns, rfl, hD, SqT.of (sm _ _ hb), fun p hp => SqT.of (sm _ _ (h1 p hp)), by omega, fun L' n1 n2 => hk _ ?_⟩
    by_cases hm : ns ∈ L.map (·.2)
    · rw [n1 hm]
      refine ⟨L, rfl, h1, h2, fun p hp => List.mem_append_left _ (h3 p hp), fun d hd => ?_, by rw [List.length_append]; simp; omega⟩
      rcases List.mem_append.mp hd with hd | hd
      · exact h4 d hd
      · rw [List.mem_singleton.mp hd]
        obtain ⟨p, hp, e⟩ := List.mem_map.mp hm
        exact ⟨p, hp, by rw [e]⟩
    · have pm := n2 hm
      have key : ∀ p ∈ L', p = (b, ns) ∨ p ∈ L := fun p hp => List.mem_cons.mp (pm.mem_iff.mp hp)
      refine ⟨L', rfl, fun p hp => ?_, fun p hp => ?_, fun p hp => ?_, fun d hd => ?_, by rw [pm.length_eq, List.length_append]; simp; omega⟩
      · rcases key p hp with rfl | hp
        · exact hb
        · exact h1 p hp
      · rcases key p hp with rfl | hp
        · exact hne
        · exact h2 p hp
      · rcases key p hp with rfl | hp
        · exact List.mem_append_right _ (List.mem_singleton.mpr rfl)
        · exact List.mem_append_left _ (h3 p hp)
      · rcases List.mem_append.mp hd with hd | hd
        · obtain ⟨p, hp, e⟩ := h4 d hd
          exact ⟨p, pm.mem_iff.mpr (List.mem_cons_of_mem _ hp), e⟩
        · rw [List.mem_singleton.mp hd]
          exact ⟨(b, ns), pm.mem_iff.mpr List.mem_cons_self, rfl⟩
def fST (acc : List D) : Option (List D) := if acc.length ≤ 63 then (tupsI? acc).map fun ls => (sortU ls).map dTupI else none
theorem tupsI_good : ∀ {ds : List D} {ls : List (List Int)}, tupsI? ds = some ls → ∀ d ∈ ds, (tupI? d).isSome = true
  | [], _, _, d, h => by cases h
  | x :: r, _, e, d, h => by
    simp only [tupsI?] at e
    split at e
    · cases e
    · rename_i y e1
      simp only [Option.map_eq_some_iff] at e
      obtain ⟨ls, e2, _⟩ := e
      rcases List.mem_cons.mp h with rfl | h
      · rw [e1]; rfl
      · exact tupsI_good e2 d h
/-- the tuples of a sorted set, as a new list -/
theorem reps_M {K : PySem.W.Frag} {F : Hp} : ∀ M : List (Addr × List Int), (∀ p ∈ M, F p.1 = some (.tup (p.2.map V.int))) → RepL K F ((M.map (·.2)).map dTupI) (M.map fun q => V.ref q.1)
  | [], _ => .nil
  | p :: M, h => by
    refine .cons ?_ (reps_M M fun q hq => h q (List.mem_cons_of_mem _ hq))
    simp only [dTupI, Rep]
    exact ⟨p.1, _, rfl, h p List.mem_cons_self, rep_ints' _⟩
theorem sortT_end {K : PySem.W.Frag} {P : Program} {wd : World} {t : Nat} {w : Wd} {H : Hp} {σ : St} {s : S} {B : Addr} {L : List (Addr × List Int)} {acc : List D} {ls : List (List Int)} {Q : VK} (ok : OKs K w H σ s t) (hD : H B = some (SetTO P wd B L)) (h1 : ∀ p ∈ L, w.F p.1 = some (.tup (p.2.map V.int))) (h2 : ∀ p ∈ L, p.2 ≠ [])
    (h3 : ∀ p ∈ L, p.2 ∈ ls) (h4 : ∀ x ∈ ls, ∃ p ∈ L, x = p.2)
    (k : ∀ w' H' z, OKs K w' H' σ s (t + 1) → Step s.a.length t w H w' H' → RelR K w' H' σ s t (.o (.lst ((sortU ls).map dTupI))) z → Q z H') : rSortedSI K P wd [V.ref B] H Q := by
  refine ⟨B, L, rfl, hD, fun p hp => SqT.of (ok.sub _ _ (h1 p hp)), h2, fun M p pm nd hs hp => ?_⟩
  refine k (w.give p t) _ _ (give_ok ok hp) (give_step ok hp) ?_
  have e : M.map (·.2) = sortU ls := by
    refine sortU_one nd (List.pairwise_map.mpr hs) fun y => ?_
    rw [List.mem_map]
    constructor
    · rintro ⟨q, hq, rfl⟩
      exact h3 q (pm.mem_iff.mp hq)
    · intro hy
      obtain ⟨q, hq, e⟩ := h4 y hy
      exact ⟨q, pm.mem_iff.mpr hq, e.symm⟩
  rw [← e]
  exact ⟨p, _, rfl, if_pos rfl, upd_same, reps_M M fun q hq => h1 q (pm.mem_iff.mp hq)⟩
def mSortSC (f : List D → Option (List D)) (src : MI) (g : D → S → Option S) (c : MT) (m : ME) (vs : List Nat) : ME := fun s => match mAcc src g c m vs s with
  | .no => .no
  | .ok acc s1 => match f acc with
    | none => .no
    | some l => .ok (.o (.lst l)) s1
section
variable {X : Cx} {elt tg iter : Expr} {ifs : List Expr} {scope : Scope} {own : List (Str × Nat)} {p pos pos' : Pos} {src : MI} {g : D → S → Option S} {ws : List Nat} {c : MT} {m : ME} {k : Nat}
theorem re_sortST (hr : Here X k) (hm : X.mg "sorted" = none) (hc : X.calm = true) (hN : X.N.Nodup) (hi : RI X tg iter src) (ok : BlkOk X.N X.env.scope scope own)
    (hg : ∀ (s : Shared) (H : Hp) (C : Addr) (cl : List (Str × Addr)) (fp : List Addr), RG (X.blk s H scope (compEnvC scope cl C X.env) fp) tg g ws) (ht : ∀ (s : Shared) (H : Hp) (C : Addr) (cl : List (Str × Addr)) (fp : List Addr), RTs (X.blk s H scope (compEnvC scope cl C X.env) fp) ifs c)
    (he : ∀ (s : Shared) (H : Hp) (C : Addr) (cl : List (Str × Addr)) (fp : List Addr), RE (X.blk s H scope (compEnvC scope cl C X.env) fp) elt m) (hw : ∀ i ∈ ws, i ∈ own.map (·.2)) (hs : ∀ x, foldedSetIterable iter X.env x = pure x := by intro _; rfl)
    (hgl : Gl X "sorted" := by rfl) (hst : starEach [.SetComp elt [⟨tg, iter, ifs, 0⟩] scope pos'] X.env = [(false, eval (.SetComp elt [⟨tg, iter, ifs, 0⟩] scope pos') X.env)] := by rfl) :
    RE X (.Call (.Name "sorted" p) [.SetComp elt [⟨tg, iter, ifs, 0⟩] scope pos'] [] pos) (mSortSC fST src g c m (own.map (·.2))) := by
  obtain ⟨wi, p1, s1⟩ := hi
  refine ⟨_, pe_callB (cr_sortedSI hc) hgl hm (by decide +kernel) (pa_cons (pe_scG (te := teC X.K m) (tt := ttC X.K c) (g := tgC X.K g ws) (setKindT hr.un64) hc hN p1 ok (fun s H C cl fp => (hg s H C cl fp).pg) (fun s H C cl fp => (ht s H C cl fp).pts) (fun s H C cl fp => (he s H C cl fp).pe) hs) pa_nil hst) (by decide) (by decide) hst rfl, ?_⟩
  intro σ H w s t Q r s' ok0 e kk
  simp only [mSortSC] at e
  split at e
  · cases e
  · rename_i acc sa e1
    split at e
    · cases e
    · rename_i l e2
      cases e
      unfold fST at e2
      split at e2
      · rename_i hl
        simp only [Option.map_eq_some_iff] at e2
        obtain ⟨ls, e3, rfl⟩ := e2
        show tScG (fun B => SetTO X.prog X.w B []) (adT X.K X.prog X.w) wi (tgC X.K g ws) (ttC X.K c) (teC X.K m) (own.map (·.2)) σ H fun x H1 => rSortedSI X.K X.prog X.w [x] H1 Q
        refine sc_snd (K := X.K) (kindT (K := X.K) (P := X.prog) (w := X.w)) hw s1 ok0 e1 hl (tupsI_good e3) fun w' H' D o t' a1 ok' st sl fr hT => ?_
        obtain ⟨L, rfl, h1, h2, h3, h4, _⟩ := hT
        obtain ⟨rfl, _⟩ := tupsI_eq e3
        refine sortT_end (ls := ls) (acc := ls.map dTupI) ok' fr.at' h1 h2 (fun p hp => ?_) (fun x hx => ?_) fun w2 H2 z ok2 st2 rel => ?_
        · obtain ⟨x, hx, e⟩ := List.mem_map.mp (h3 p hp)
          rw [← dTupI_inj e]; exact hx
        · obtain ⟨p, hp, e⟩ := h4 _ (List.mem_map.mpr ⟨x, hx, rfl⟩)
          exact ⟨p, hp, dTupI_inj e⟩
        · have l := ok0.slen ok'
          rw [l] at st2
          exact kk w2 H2 z (t' + 1) t' a1 (Nat.lt_succ_self _) ok2 (st.trans (st2.mono a1)) sl rel
      · cases e2
end
/-! ## sets of ints -/
def TI' (w : World) : Hp → Addr → List D → HO → Prop := fun F D acc o => ∃ (S : Int → Bool) (n : Nat), o = SetO w D S n ∧ (∀ i, S i = true ↔ PyData.int i ∈ acc) ∧ n ≤ acc.length
def isIntQ : D → Bool
  | .int _ => true
  | _ => false
theorem kindI {K : PySem.W.Frag} {w : World} : KindOk K (fun D => SetO w D (fun _ => false) 0) (adI w) isIntQ (TI' w) := by
  refine ⟨?_, fun F D => ⟨_, 0, rfl, by simp, Nat.le_refl _⟩, ?_, ?_⟩
  · rintro F D acc _ ⟨S, n, rfl, _⟩ xs h
    cases h
  · rintro F G D acc o sm h
    exact h
  · rintro F H D acc o y z k sm ⟨S, n, rfl, h1, h2⟩ hD rep hg hl hk
    cases z with
    | int i =>
      simp only [Rep] at rep
      have hs : 64 ≤ scanBound := by decide
      refine ⟨i, S, n, rep, hD, by omega, hk _ ⟨_, _, rfl, fun j => ?_, ?_⟩⟩
      · simp only [Bool.or_eq_true, decide_eq_true_eq, h1 j, List.mem_append, List.mem_singleton]
        constructor
        · rintro (h | h)
          · exact .inl h
          · exact .inr (by rw [h])
        · rintro (h | h)
          · exact .inl h
          · injection h with h; exact .inr h
      · rw [List.length_append]
        simp only [List.length_cons, List.length_nil]
        split <;> omega
    | none => cases hg
    | bool _ => cases hg
    | str _ => cases hg
    | list _ => cases hg
    | tuple _ => cases hg
    | dict _ => cases hg
def fSI (acc : List D) : Option (List D) := if acc.length ≤ 63 then (intsD? acc).map fun is => (sortU (is.map fun i => [i])).map fun l => .int (l.headD 0) else none
theorem intsD_good : ∀ {ds : List D} {ls : List Int}, intsD? ds = some ls → ∀ d ∈ ds, isIntQ d = true
  | [], _, _, d, h => by cases h
  | .int i :: r, _, e, d, h => by
    simp only [intsD?, Option.map_eq_some_iff] at e
    obtain ⟨ls, e2, _⟩ := e
    rcases List.mem_cons.mp h with rfl | h
    · rfl
    · exact intsD_good e2 d h
theorem sortU_singles {is ns : List Int} (hs : ns.Pairwise (· < ·)) (hm : ∀ k, k ∈ ns ↔ k ∈ is) : (sortU (is.map fun i => [i])) = ns.map fun i => [i] := by
  refine (sortU_one ?_ ?_ ?_).symm
  · refine List.Pairwise.map (R := fun a b : Int => a < b) _ (fun a b h e => ?_) hs
    injection e with e
    omega
  · refine List.pairwise_map.mpr (hs.imp fun {x y} h => ?_)
    rw [HT.lexLt_cons, if_neg (by omega)]
    exact decide_eq_false (by omega)
  · intro y
    rw [List.mem_map, List.mem_map]
    constructor
    · rintro ⟨k, hk, rfl⟩; exact ⟨k, (hm k).mp hk, rfl⟩
    · rintro ⟨k, hk, rfl⟩; exact ⟨k, (hm k).mpr hk, rfl⟩
section
variable {X : Cx} {elt tg iter : Expr} {ifs : List Expr} {scope : Scope} {own : List (Str × Nat)} {p pos pos' : Pos} {src : MI} {g : D → S → Option S} {ws : List Nat} {c : MT} {m : ME} {k : Nat}
theorem re_sortSI (hr : Here X k) (hm : X.mg "sorted" = none) (hc : X.calm = true) (hN : X.N.Nodup) (hi : RI X tg iter src) (ok : BlkOk X.N X.env.scope scope own)
    (hg : ∀ (s : Shared) (H : Hp) (C : Addr) (cl : List (Str × Addr)) (fp : List Addr), RG (X.blk s H scope (compEnvC scope cl C X.env) fp) tg g ws) (ht : ∀ (s : Shared) (H : Hp) (C : Addr) (cl : List (Str × Addr)) (fp : List Addr), RTs (X.blk s H scope (compEnvC scope cl C X.env) fp) ifs c)
    (he : ∀ (s : Shared) (H : Hp) (C : Addr) (cl : List (Str × Addr)) (fp : List Addr), RE (X.blk s H scope (compEnvC scope cl C X.env) fp) elt m) (hw : ∀ i ∈ ws, i ∈ own.map (·.2)) (hs : ∀ x, foldedSetIterable iter X.env x = pure x := by intro _; rfl)
    (hgl : Gl X "sorted" := by rfl) (hst : starEach [.SetComp elt [⟨tg, iter, ifs, 0⟩] scope pos'] X.env = [(false, eval (.SetComp elt [⟨tg, iter, ifs, 0⟩] scope pos') X.env)] := by rfl) :
    RE X (.Call (.Name "sorted" p) [.SetComp elt [⟨tg, iter, ifs, 0⟩] scope pos'] [] pos) (mSortSC fSI src g c m (own.map (·.2))) := by
  obtain ⟨wi, p1, s1⟩ := hi
  refine ⟨_, pe_callB (cr_sortedSet hc) hgl hm (by decide +kernel) (pa_cons (pe_scG (te := teC X.K m) (tt := ttC X.K c) (g := tgC X.K g ws) setKindI hc hN p1 ok (fun s H C cl fp => (hg s H C cl fp).pg) (fun s H C cl fp => (ht s H C cl fp).pts) (fun s H C cl fp => (he s H C cl fp).pe) hs) pa_nil hst) (by decide) (by decide) hst rfl, ?_⟩
  intro σ H w s t Q r s' ok0 e kk
  simp only [mSortSC] at e
  split at e
  · cases e
  · rename_i acc sa e1
    split at e
    · cases e
    · rename_i l e2
      cases e
      unfold fSI at e2
      split at e2
      · rename_i hl
        simp only [Option.map_eq_some_iff] at e2
        obtain ⟨is, e3, rfl⟩ := e2
        show tScG (fun B => SetO X.w B (fun _ => false) 0) (adI X.w) wi (tgC X.K g ws) (ttC X.K c) (teC X.K m) (own.map (·.2)) σ H fun x H1 => rSortedSet X.w [x] H1 Q
        refine sc_snd (K := X.K) (kindI (K := X.K) (w := X.w)) hw s1 ok0 e1 hl (intsD_good e3) fun w' H' B o t' a1 ok' st sl fr hT => ?_
        obtain ⟨S, n, rfl, h1, h2⟩ := hT
        have e4 := intsD_eq e3
        refine ⟨B, S, n, rfl, fr.at', by omega, fun ns p hs hm hn hp => ?_⟩
        have l := ok0.slen ok'
        have stg := give_step (n := s.a.length) (t0 := t) (o := .lst (ns.map V.int)) ok' hp
        refine kk (w'.give p t') _ _ (t' + 1) t' a1 (Nat.lt_succ_self _) (give_ok ok' hp) (st.trans stg) sl ?_
        have e5 := sortU_singles (is := is) hs fun k => (hm k).trans ((h1 k).trans (by rw [e4]; simp))
        rw [e5, List.map_map]
        have e6 : (ns.map ((fun l : List Int => PyData.int (l.headD 0)) ∘ fun i => [i])) = ns.map PyData.int := List.map_congr_left fun _ _ => rfl
        rw [e6]
        exact ⟨p, _, rfl, if_pos rfl, upd_same, rep_ints' ns⟩
      · cases e2
end
/-! ## sorted(set(..)) of a list of tuples of ints -/
def fSortSet : List D → Option R
  | [.list ds] => (fST ds).map fun l => .o (.lst l)
  | _ => none
theorem s_sortSet {K : PySem.W.Frag} {P : Program} {wd : World} : BltS K (fun us H Q => rSetOfT K P wd us H fun x H2 => rSortedSI K P wd [x] H2 Q) fSortSet := by
  intro w H σ s t us xs r Q ok vw e k
  unfold fSortSet at e
  split at e
  · rename_i ds
    obtain ⟨l, e0, rfl⟩ := Option.map_eq_some_iff.mp e
    unfold fST at e0
    split at e0
    · rename_i hl
      obtain ⟨ls, e1, rfl⟩ := Option.map_eq_some_iff.mp e0
      obtain ⟨u, rfl, v⟩ := vw.one
      obtain ⟨a, ys, rfl, h1, h2⟩ := v.lst ok.sub
      obtain ⟨rfl, ne⟩ := tupsI_eq e1
      obtain ⟨q1, q2⟩ := reps_tupI ls ys h2
      have key : ∀ zs : List V, (∀ x ∈ zs, ∃ a, x = .ref a ∧ w.F a = some (.tup ((kAt w.F x).map V.int))) → ∃ ks : List (Addr × List Int), zs = ks.map (fun p => V.ref p.1) ∧ ks.map (·.2) = zs.map (kAt w.F) ∧ ∀ p ∈ ks, w.F p.1 = some (.tup (p.2.map V.int)) := by
        intro zs
        induction zs with
        | nil => intro _; exact ⟨[], rfl, rfl, by simp⟩
        | cons x zs ih =>
          intro h
          obtain ⟨b, e, hb⟩ := h x List.mem_cons_self
          obtain ⟨ks, i1, i2, i3⟩ := ih fun y hy => h y (List.mem_cons_of_mem _ hy)
          subst e
          refine ⟨(b, kAt w.F (.ref b)) :: ks, by rw [i1]; rfl, by rw [List.map_cons, List.map_cons, i2], fun p hp => ?_⟩
          rcases List.mem_cons.mp hp with rfl | hp
          · exact hb
          · exact i3 p hp
      obtain ⟨ks, i1, i2, i3⟩ := key ys q2
      rw [q1] at i2
      have hkl : ks.length ≤ 63 := by
        have := congrArg List.length i2
        rw [List.length_map] at this
        rw [List.length_map] at hl
        omega
      refine ⟨a, ks, rfl, by rw [← i1]; exact h1, fun p hp => SqT.of (ok.sub _ _ (i3 p hp)), by omega, fun B L hB hs hm => ?_⟩
      have fr := fresh_fr (o := SetTO P wd B L) ok hB (fun xs h => by cases h)
      have okB := out_ok (o := SetTO P wd B L) ok fr.O fr.F fr.nb
      refine sortT_end (ls := ls) (acc := []) okB fr.at' (fun p hp => i3 p (hs p hp)) (fun p hp => ?_) (fun p hp => ?_) (fun x hx => ?_) fun w2 H2 z ok2 st2 rel => ?_
      · have : p.2 ∈ ls := by rw [← i2]; exact List.mem_map.mpr ⟨p, hs p hp, rfl⟩
        exact ne _ this
      · rw [← i2]; exact List.mem_map.mpr ⟨p, hs p hp, rfl⟩
      · rw [← i2] at hx
        obtain ⟨p, hp, rfl⟩ := List.mem_map.mp hx
        obtain ⟨q, hq, e⟩ := List.mem_map.mp (hm p hp)
        exact ⟨q, hq, e.symm⟩
      · exact k w2 H2 z ok2 ((Step.refl.out hB).trans st2) rel
    · cases e0
  · cases e
section
variable {X : Cx} {e : Expr} {ms : MA} {p p2 q pos : Pos} {k : Nat}
theorem re_sortSet (hr : Here X k) (hc : X.calm = true) (hm : X.mg "sorted" = none) (hm2 : X.mg "set" = none) (ha : RA X [e] ms) (hg : Gl X "sorted" := by rfl) (hg2 : Gl X "set" := by rfl) (he : starEach [e] X.env = [(false, eval e X.env)] := by rfl)
    (hst : starEach [.Call (.Name "set" p2) [e] [] q] X.env = [(false, eval (.Call (.Name "set" p2) [e] [] q) X.env)] := by rfl) :
    RE X (.Call (.Name "sorted" p) [.Call (.Name "set" p2) [e] [] q] [] pos) (mBlt fSortSet ms) := by
  obtain ⟨ta, p1, s1⟩ := ha
  refine ⟨_, pe_callB (cr_sortedSI hc) hg hm (by decide +kernel) (pa_cons (pe_callTy (cr_setOfT hc hr.un64) hg2 hm2 (by decide +kernel) p1 (by decide) (by decide) he rfl) pa_nil hst) (by decide) (by decide) hst rfl, ?_⟩
  show SndE X.K (fun σ H Q => ta σ H fun us H1 => rSetOfT X.K X.prog X.w us H1 fun x H2 => rSortedSI X.K X.prog X.w [x] H2 Q) _
  exact blt_snd s1 (s_sortSet (P := X.prog) (wd := X.w))
end
end Qz
namespace Qz
open PySem PySem.Spec L2
open PyProof.Rows hiding St
/-! ## comprehensions with two sources -/
def lc2L (g : D → S → Option S) (c : MT) (src1 : MI) (g1 : D → S → Option S) (c1 : MT) (m : ME) (vs vs1 : List Nat) : List D → List D → M (List D)
  | [], acc, s => .ok acc s
  | d :: r, acc, s => match g d { s with a := wipeA s.a vs } with
    | none => .no
    | some s1 => match c s1 with
      | .no => .no
      | .ok false s2 => lc2L g c src1 g1 c1 m vs vs1 r acc s2
      | .ok true s2 => match src1 s2 with
        | .no => .no
        | .ok es s3 => match lcL g1 c1 m vs1 es acc s3 with
          | .no => .no
          | .ok acc' s4 => lc2L g c src1 g1 c1 m vs vs1 r acc' s4
def mLc2 (src : MI) (g : D → S → Option S) (c : MT) (src1 : MI) (g1 : D → S → Option S) (c1 : MT) (m : ME) (vs vs1 : List Nat) : ME := fun s => match src s with
  | .no => .no
  | .ok ds s1 => if noOwn s1.a vs then match lc2L g c src1 g1 c1 m vs vs1 ds [] s1 with
    | .no => .no
    | .ok acc s2 => .ok (.o (.lst acc)) { s2 with a := backA s1.a s2.a vs } else .no
/-- the list that a comprehension makes -/
structure At (K : PySem.W.Frag) (w : Wd) (H : Hp) (A : Addr) (T : Nat) (acc : List D) (xs : List V) : Prop where
  O : w.O A = some T
  at' : H A = some (.lst xs)
  rep : RepL K w.F acc xs
section
variable {K : PySem.W.Frag} {n t T : Nat} {w w' : Wd} {H H' : Hp} {σ : St} {s : S} {A : Addr} {acc : List D} {xs : List V}
theorem At.step (h : At K w H A T acc xs) (ok : OKs K w H σ s t) (hn : n ≤ T) (st : Step n (T + 1) w H w' H') : At K w' H' A T acc xs := by
  refine ⟨st.tmp A T h.O hn (Nat.lt_succ_self _), st.keep A _ h.at' (fun i hi => by rw [h.O] at hi; cases hi; omega) ?_, RepL.mono st.F acc xs h.rep⟩
  rintro ⟨p, g, e, z⟩
  obtain ⟨_, z1, z2⟩ := ok.box p g e
  rcases z with rfl | rfl
  · rw [h.O] at z1; cases z1
  · rw [h.O] at z2; cases z2
end
/-- between two turns -/
structure LcI (K : PySem.W.Frag) (σ : St) (vs : List Nat) (n T : Nat) (A : Addr) (w0 : Wd) (H0 : Hp) (sa : S) (w : Wd) (H : Hp) (s : S) (acc : List D) (xs : List V) : Prop where
  ok : OKs K w H (wipe σ vs) { s with a := wipeA s.a vs } (T + 1)
  len : s.a.length = n
  at' : At K w H A T acc xs
  st : Step n T w0 H0 w H
  sl : ∀ i, i ∉ vs → ∀ q, sa.a[i]? = some (some q) → ∃ q', s.a[i]? = some (some q')
theorem in_it {J : It} {n : Nat} {G : Hp → Prop} {Y : Nat → Hp → V → Hp → Prop} (hW : Walk J n G Y) {g : TG} {tt : TT} {F : St → Hp → (Hp → Prop) → Prop} {vs : List Nat} {σ : St} {H1 : Hp} {Qd : Hp → Prop} (Pv : Nat → Hp → Prop)
    (h0 : Pv 0 H1) (hG : ∀ i H, i ≤ n → Pv i H → G H)
    (hs : ∀ i x H H', i < n → Pv i H → Y i H x H' → g x (wipe σ vs) H' fun σ2 H2 => wipe σ2 vs = wipe σ vs ∧ tt σ2 H2 fun b H3 => if b = true then F σ2 H3 (Pv (i + 1)) else Pv (i + 1) H3) (he : ∀ H, Pv n H → Qd H) :
    ∃ W : Nat → Nat → Hp → Prop, (∃ m, W 0 m H1) ∧ ∀ i m H, W i m H → (J.stop i H ∧ Qd H) ∨ (J.go i H ∧ ∃ Nx : Hp → Prop, (∀ H', Nx H' → ∃ m', m' < m ∧ W (i + 1) m' H') ∧ ∀ x H', J.yld i H x H' → g x (wipe σ vs) H' fun σ2 H2 => wipe σ2 vs = wipe σ vs ∧ tt σ2 H2 fun b H3 => if b = true then F σ2 H3 Nx else Nx H3) := by
  refine ⟨fun i m H => i + m = n ∧ Pv i H, ⟨n, by omega, h0⟩, ?_⟩
  rintro i m H ⟨e, h⟩
  cases m with
  | zero =>
    have : i = n := by omega
    subst this
    exact .inl ⟨hW.stops H (hG i H (Nat.le_refl _) h), he H h⟩
  | succ m =>
    have hi : i < n := by omega
    have hg := hG i H (by omega) h
    exact .inr ⟨hW.goes i H hi hg, Pv (i + 1), fun H' h' => ⟨m, Nat.lt_succ_self _, by omega, h'⟩, fun x H' hy => hs i x H H' hi h (hW.yields i H x H' hi hg hy)⟩
section
variable {K : PySem.W.Frag} {g : D → S → Option S} {ws vs : List Nat} {c : MT} {m : ME} {σ : St} {n T : Nat} {A : Addr} {w0 : Wd} {H0 : Hp} {sa : S}
/-- a turn: the item is stored, the test is asked -/
theorem turn_test (hw : ∀ i ∈ ws, i ∈ vs) {w2 : Wd} {H2 H3 : Hp} {s2 sc sd : S} {acc : List D} {xs : List V} {d : D} {x : V} {b : Bool} {F : Bool → St → Hp → Prop} (I : LcI K σ vs n T A w0 H0 sa w2 H2 s2 acc xs) (hnT : n ≤ T)
    (hx : (H3 = H2 ∧ Rep K w2.F d x) ∨ ∃ T' us es, x = .ref T' ∧ H2 T' = none ∧ H3 = upd H2 T' (.tup us) ∧ d = .tuple es ∧ RepL K w2.F es us)
    (e4 : g d { s2 with a := wipeA s2.a vs } = some sc) (e5 : c sc = .ok b sd)
    (k : ∀ w5 H5 σ4 t5, T + 1 ≤ t5 → OKs K w5 H5 σ4 sd t5 → wipe σ4 vs = wipe σ vs → sd.a.length = n → At K w5 H5 A T acc xs → Step n T w0 H0 w5 H5 → (∀ i, i ∉ vs → ∀ q, sa.a[i]? = some (some q) → ∃ q', sd.a[i]? = some (some q')) → F b σ4 H5) :
    tgC K g ws x (wipe σ vs) H3 fun σ2 H2 => wipe σ2 vs = wipe σ vs ∧ ttC K c σ2 H2 fun b H3 => F b σ2 H3 := by
  have nA : ∃ w3, OKs K w3 H3 (wipe σ vs) { s2 with a := wipeA s2.a vs } (T + 1) ∧ Step n (T + 1) w2 H2 w3 H3 ∧ Rep K w3.F d x := by
    rcases hx with ⟨rfl, hr⟩ | ⟨T', us, es, rfl, hT, rfl, rfl, hr⟩
    · exact ⟨w2, I.ok, .refl, hr⟩
    · refine ⟨w2.lay T' (.tup us), lay_ok I.ok hT, lay_step I.ok hT, ?_⟩
      simp only [Rep]
      exact ⟨T', us, rfl, upd_same, RepL.mono (lay_step (o := .tup us) (t0 := 0) (n := n) I.ok hT).F es us hr⟩
  obtain ⟨w3, ok3, st3, rep3⟩ := nA
  have at3 := I.at'.step I.ok hnT st3
  have st13 := I.st.trans (st3.mono (Nat.le_succ _))
  have lw : (wipeA s2.a vs).length = n := (wipeA_length _ _).trans I.len
  refine ⟨d, w3, _, sc, T + 1, n, ok3, lw, rep3, e4, fun σ4 ok4 l4 sl4 wr4 => ?_⟩
  have hwp : wipe σ4 vs = wipe σ vs := by
    have z : (wipe σ vs).length = σ4.length := by rw [ok3.len, ok4.len, l4]; exact lw
    have : wipe σ4 vs = wipe (wipe σ vs) vs := wipe_eq z.symm fun i hi => wr4 i (fun h => hi (hw i h))
    rw [this]
    refine wipe_eq (wipe_length _ _) fun i hi => ?_
    rw [wipe_get, if_neg hi]
  refine ⟨hwp, w3, sc, T + 1, b, sd, ok4, e5, fun w5 H5 t5 a5 ok5 st5 sl5 => ?_⟩
  rw [l4] at st5
  refine k w5 H5 σ4 t5 a5 ok5 hwp ((ok4.slen ok5).trans l4) (at3.step ok4 hnT st5) (st13.trans (st5.mono (Nat.le_succ _))) fun i hi q h => ?_
  obtain ⟨q1, h1⟩ := I.sl i hi q h
  obtain ⟨q2, h2⟩ := sl4 i q1 (by show (wipeA s2.a vs)[i]? = _; rw [wipeA_get, if_neg hi]; exact h1)
  exact sl5 i q2 h2
/-- back between two turns -/
theorem turn_back {w5 : Wd} {H5 : Hp} {σ4 : St} {t5 : Nat} {sd : S} {acc : List D} {xs : List V} (hnT : n ≤ T) (ht : T + 1 ≤ t5) (ok5 : OKs K w5 H5 σ4 sd t5) (hwp : wipe σ4 vs = wipe σ vs) (hl : sd.a.length = n) (at5 : At K w5 H5 A T acc xs) (st : Step n T w0 H0 w5 H5)
    (sl : ∀ i, i ∉ vs → ∀ q, sa.a[i]? = some (some q) → ∃ q', sd.a[i]? = some (some q')) : LcI K σ vs n T A w0 H0 sa (w5.drop (T + 1)) H5 sd acc xs := by
  have okD := dropT_ok ok5 (T := T + 1) (by omega)
  refine ⟨?_, hl, ⟨drop_at at5.O (Nat.lt_succ_self _), at5.at', at5.rep⟩, st.trans (dropT_step.mono (Nat.le_succ _)), sl⟩
  rw [← hwp]; exact wipe_ok okD
/-- a turn: the element is made -/
theorem turn_elt {w5 : Wd} {H5 : Hp} {σ4 : St} {t5 : Nat} {sd se sf : S} {acc : List D} {xs : List V} {y' : R} {z : D} {P : Hp → Prop} (hnT : n ≤ T) (ht : T + 1 ≤ t5) (ok5 : OKs K w5 H5 σ4 sd t5) (hwp : wipe σ4 vs = wipe σ vs) (hl : sd.a.length = n) (at5 : At K w5 H5 A T acc xs) (st : Step n T w0 H0 w5 H5)
    (sl : ∀ i, i ∉ vs → ∀ q, sa.a[i]? = some (some q) → ∃ q', sd.a[i]? = some (some q')) (e6 : m sd = .ok y' se) (e7 : take1 se y' = some (z, sf)) (hz : acc.length < sizeLine)
    (k : ∀ w' H' xs', LcI K σ vs n T A w0 H0 sa w' H' sf (acc ++ [z]) xs' → P H') :
    teC K m σ4 H5 fun y H4 => ∃ acc, H4 A = some (.lst acc) ∧ acc.length < sizeLine ∧ P (upd H4 A (.lst (acc ++ [y]))) := by
  refine ⟨w5, sd, t5, y', se, ok5, e6, fun w6 H6 u t6 τ b1 b2 ok6 st6 sl6 rel6 => ?_⟩
  rw [hl] at st6
  have l6 : se.a.length = n := (ok5.slen ok6).trans hl
  have at6 := at5.step ok5 hnT (st6.mono ht)
  obtain ⟨w7, ok7, st7, rep7, sl7, l7, _⟩ := take1_ok (t0 := T + 1) ok6 rel6 e7 (by omega) (by omega)
  rw [l6] at st7 l7
  have at7 := at6.step ok6 hnT st7
  have okM := mut_ok (o := .lst (xs ++ [u])) ok7 at7.O (fun _ h => nomatch h) rfl rfl fun i q v h1 h2 => .inl ⟨h1, fun z => by have := (List.getElem?_eq_some_iff.mp h1).1; omega⟩
  have stM := mut_step (n := n) (t0 := T) (o := .lst (xs ++ [u])) ok7 at7.O (.inr (Nat.le_refl _))
  have lx := RepL.length _ _ at7.rep
  refine ⟨xs, at6.at', by omega, k (w7.drop (T + 1)) _ (xs ++ [u]) ?_⟩
  have atM : At K w7 (upd H6 A (.lst (xs ++ [u]))) A T (acc ++ [z]) (xs ++ [u]) := ⟨at7.O, upd_same, RepL.append _ _ at7.rep (.cons rep7 .nil)⟩
  exact turn_back hnT (by omega) okM hwp l7 atM (((st.trans (st6.mono (by omega))).trans (st7.mono (Nat.le_succ _))).trans stM) fun i hi q h => by
    obtain ⟨q1, h1⟩ := sl i hi q h
    exact (sl6.trans sl7) i q1 h1
end
/-! the same reading for every place -/
def tiC (K : PySem.W.Frag) (src : MI) : TI := fun σ H Q => ∃ (w : Wd) (s : S) (t : Nat) (ds : List D) (s' : S), OKs K w H σ s t ∧ src s = .ok ds s' ∧
  ∀ w' H' t' J, t ≤ t' → OKs K w' H' σ s' t' → Step s.a.length t w H w' H' → Slotted s s' → WalkOk K J ds w'.F → Q J H'
theorem RI.pi {X : Cx} {tg e : Expr} {src : MI} (h : RI X tg e src) : PI X tg e (tiC X.K src) := by
  obtain ⟨wi, p, q⟩ := h
  exact ⟨fun pins s σ H R I ⟨w, s1, t, ds, s', ok, e1, k⟩ => p.run pins s σ H R I (q σ H w s1 t R ds s' ok e1 k)⟩
theorem wipe_wipe {σ : St} {vs1 vs : List Nat} (hv : ∀ i ∈ vs1, i ∈ vs) : wipe (wipe σ vs1) vs = wipe σ vs :=
  wipe_eq (wipe_length _ _) fun i hi => by rw [wipe_get, if_neg fun h => hi (hv i h)]
theorem wipeA_wipeA {a : List (Option R)} {vs1 vs : List Nat} (hv : ∀ i ∈ vs1, i ∈ vs) : wipeA (wipeA a vs1) vs = wipeA a vs := by
  refine List.ext_getElem? fun i => ?_
  rw [wipeA_get (wipeA a vs1) i vs, wipeA_get a i vs, wipeA_length]
  by_cases h : i ∈ vs
  · rw [if_pos h, if_pos h]
  · rw [if_neg h, if_neg h, wipeA_get a i vs1, if_neg fun h2 => h (hv i h2)]
section
variable {K : PySem.W.Frag} {src src1 : MI} {g g1 : D → S → Option S} {ws ws1 vs vs1 : List Nat} {c c1 : MT} {m : ME} {wi : TI}
theorem lc2_snd (hw : ∀ i ∈ ws, i ∈ vs) (hw1 : ∀ i ∈ ws1, i ∈ vs1) (hv : ∀ i ∈ vs1, i ∈ vs)
    (hi : ∀ (σ : St) (H : Hp) (w : Wd) (s : S) (t : Nat) (Q : It → Hp → Prop) (ds : List D) (s' : S), OKs K w H σ s t → src s = .ok ds s' →
    (∀ w' H' t' J, t ≤ t' → OKs K w' H' σ s' t' → Step s.a.length t w H w' H' → Slotted s s' → WalkOk K J ds w'.F → Q J H') → wi σ H Q) :
    SndE K (tLc2 wi (tgC K g ws) (ttC K c) (tiC K src1) (tgC K g1 ws1) (ttC K c1) (teC K m) vs vs1) (mLc2 src g c src1 g1 c1 m vs vs1) := by
  intro σ H w s t Q r s' ok e k
  simp only [mLc2] at e
  split at e
  · cases e
  · rename_i ds sa e1
    split at e
    · rename_i hno
      split at e
      · cases e
      · rename_i acc0 sb e2
        cases e
        refine hi σ H w s t _ ds sa ok e1 fun w1 H1 t1 J a1 ok1 st1 sl1 wk => ?_
        have hl := ok.slen ok1
        have tN := ok1.tN
        generalize hn : s.a.length = n at *
        have hnT : n ≤ t1 := by omega
        obtain ⟨G, Y, hW, hG, hY⟩ := wk
        intro A hA
        have okg := give_ok (o := .lst []) ok1 hA
        have stg := give_step (n := n) (t0 := t1) (o := .lst []) ok1 hA
        refine in_it hW (F := fun σ2 H3 Nx => tiC K src1 σ2 H3 fun J1 H4 => ∃ W1 : Nat → Nat → Hp → Prop, (∃ m, W1 0 m H4) ∧ ∀ j k H, W1 j k H → (J1.stop j H ∧ Nx H) ∨ (J1.go j H ∧ ∃ Nx1 : Hp → Prop, (∀ H', Nx1 H' → ∃ k', k' < k ∧ W1 (j + 1) k' H') ∧ ∀ x H', J1.yld j H x H' → tgC K g1 ws1 x (wipe σ2 vs1) H' fun σ3 H5 => wipe σ3 vs1 = wipe σ2 vs1 ∧ ttC K c1 σ3 H5 fun b H6 => if b = true then teC K m σ3 H6 fun y H7 => ∃ acc, H7 A = some (.lst acc) ∧ acc.length < sizeLine ∧ Nx1 (upd H7 A (.lst (acc ++ [y]))) else Nx1 H6))
          (fun i H2 => ∃ w2 s2 acc xs, LcI K σ vs n t1 A w1 H1 sa w2 H2 s2 acc xs ∧ lc2L g c src1 g1 c1 m vs vs1 (ds.drop i) acc s2 = .ok acc0 sb) ?_ ?_ ?_ ?_
        · exact ⟨_, sa, [], [], ⟨wipe_ok okg, hl, ⟨if_pos rfl, upd_same, .nil⟩, stg, fun i _ q h => ⟨q, h⟩⟩, e2⟩
        · rintro i H2 _ ⟨w2, s2, acc, xs, I, _⟩
          exact hG H2 (I.st.F.trans I.ok.sub)
        · rintro i x H2 H3 hlt ⟨w2, s2, acc, xs, I, e3⟩ y
          obtain ⟨d, hd, hx⟩ := hY i H2 x H3 hlt (I.st.F.trans I.ok.sub) y
          have hx' : (H3 = H2 ∧ Rep K w2.F d x) ∨ ∃ T' us es, x = .ref T' ∧ H2 T' = none ∧ H3 = upd H2 T' (.tup us) ∧ d = .tuple es ∧ RepL K w2.F es us := by
            rcases hx with ⟨z, hr⟩ | ⟨T', us, es, z1, z2, z3, z4, hr⟩
            · exact .inl ⟨z, Rep.mono I.st.F d x hr⟩
            · exact .inr ⟨T', us, es, z1, z2, z3, z4, RepL.mono I.st.F es us hr⟩
          have ed : ds.drop i = d :: ds.drop (i + 1) := by
            have := List.drop_eq_getElem_cons hlt
            rw [this]
            have q := (List.getElem?_eq_some_iff.mp hd).2
            rw [q]
          rw [ed] at e3
          simp only [lc2L] at e3
          split at e3
          · cases e3
          · rename_i sc e4
            split at e3
            · cases e3
            · rename_i sd e5
              refine turn_test hw (b := false) (F := fun b σ2 H3 => if b = true then _ else _) I hnT hx' e4 e5 fun w5 H5 σ4 t5 ht ok5 hwp l5 at5 st5 sl5 => ?_
              exact iteF ⟨_, sd, acc, xs, turn_back hnT ht ok5 hwp l5 at5 st5 sl5, e3⟩
            · rename_i sd e5
              split at e3
              · cases e3
              · rename_i es se e6
                split at e3
                · cases e3
                · rename_i acc' s4 e7
                  refine turn_test hw (b := true) (F := fun b σ2 H3 => if b = true then _ else _) I hnT hx' e4 e5 fun w5 H5 σ4 t5 ht ok5 hwp l5 at5 st5 sl5 => ?_
                  refine iteT ⟨w5, sd, t5, es, se, ok5, e6, fun w6 H6 t6 J1 a6 ok6 st6 sl6 wk1 => ?_⟩
                  rw [l5] at st6
                  have l6 : se.a.length = n := (ok5.slen ok6).trans l5
                  have at6 := at5.step ok5 hnT (st6.mono ht)
                  obtain ⟨G1, Y1, hW1, hG1, hY1⟩ := wk1
                  have st06 := st5.trans (st6.mono (by omega))
                  have I0 : LcI K σ4 vs1 n t1 A w1 H1 se (w6.drop (t1 + 1)) H6 se acc xs := turn_back hnT (by omega) ok6 rfl l6 at6 st06 fun i _ q h => ⟨q, h⟩
                  refine in_it hW1 (F := fun σ3 H6 Nx1 => teC K m σ3 H6 fun y H7 => ∃ acc, H7 A = some (.lst acc) ∧ acc.length < sizeLine ∧ Nx1 (upd H7 A (.lst (acc ++ [y]))))
                    (fun j H2 => ∃ w2 s2 accj xsj, LcI K σ4 vs1 n t1 A w1 H1 se w2 H2 s2 accj xsj ∧ Same w6.F w2.F ∧ lcL g1 c1 m vs1 (es.drop j) accj s2 = .ok acc' s4) ?_ ?_ ?_ ?_
                  · exact ⟨_, se, acc, xs, I0, Same.refl _, e7⟩
                  · rintro j Hj _ ⟨wj, sj, accj, xsj, Ij, sm, _⟩
                    exact hG1 Hj (sm.trans Ij.ok.sub)
                  · rintro j xj Hj Hj' hltj ⟨wj, sj, accj, xsj, Ij, sm, ej⟩ yj
                    obtain ⟨dj, hdj, hxj⟩ := hY1 j Hj xj Hj' hltj (sm.trans Ij.ok.sub) yj
                    have hxj' : (Hj' = Hj ∧ Rep K wj.F dj xj) ∨ ∃ T' us es, xj = .ref T' ∧ Hj T' = none ∧ Hj' = upd Hj T' (.tup us) ∧ dj = .tuple es ∧ RepL K wj.F es us := by
                      rcases hxj with ⟨z, hr⟩ | ⟨T', us, es, z1, z2, z3, z4, hr⟩
                      · exact .inl ⟨z, Rep.mono sm dj xj hr⟩
                      · exact .inr ⟨T', us, es, z1, z2, z3, z4, RepL.mono sm es us hr⟩
                    have edj : es.drop j = dj :: es.drop (j + 1) := by
                      have := List.drop_eq_getElem_cons hltj
                      rw [this]
                      have q := (List.getElem?_eq_some_iff.mp hdj).2
                      rw [q]
                    rw [edj] at ej
                    simp only [lcL] at ej
                    have smF : ∀ {w' : Wd} {H' : Hp}, Step n t1 wj Hj w' H' → Same w6.F w'.F := fun st => sm.trans st.F
                    split at ej
                    · cases ej
                    · rename_i sc1 f4
                      split at ej
                      · cases ej
                      · rename_i sd1 f5
                        have Ij2 : LcI K σ4 vs1 n t1 A wj Hj se wj Hj sj accj xsj := ⟨Ij.ok, Ij.len, Ij.at', .refl, Ij.sl⟩
                        refine turn_test hw1 (b := false) (F := fun b σ2 H3 => if b = true then _ else _) Ij2 hnT hxj' f4 f5 fun w7 H7 σ7 t7 ht7 ok7 hwp7 l7 at7 st7 sl7 => ?_
                        have B := turn_back hnT ht7 ok7 hwp7 l7 at7 (Ij.st.trans st7) sl7
                        exact iteF ⟨_, sd1, accj, xsj, B, sm.trans st7.F, ej⟩
                      · rename_i sd1 f5
                        split at ej
                        · cases ej
                        · rename_i y' se1 f6
                          split at ej
                          · cases ej
                          · rename_i z sf1 f7
                            split at ej
                            · rename_i hz
                              have Ij2 : LcI K σ4 vs1 n t1 A wj Hj se wj Hj sj accj xsj := ⟨Ij.ok, Ij.len, Ij.at', .refl, Ij.sl⟩
                              refine turn_test hw1 (b := true) (F := fun b σ2 H3 => if b = true then _ else _) Ij2 hnT hxj' f4 f5 fun w7 H7 σ7 t7 ht7 ok7 hwp7 l7 at7 st7 sl7 => ?_
                              refine iteT (turn_elt (P := fun Hq => ∃ w2 s2 accj xsj, LcI K σ4 vs1 n t1 A w1 H1 se w2 Hq s2 accj xsj ∧ Same w6.F w2.F ∧ lcL g1 c1 m vs1 (es.drop (j + 1)) accj s2 = .ok acc' s4) hnT ht7 ok7 hwp7 l7 at7 st7 sl7 f6 f7 hz fun w8 H8 xs8 I8 => ?_)
                              exact ⟨w8, sf1, _, xs8, ⟨I8.ok, I8.len, I8.at', Ij.st.trans I8.st, I8.sl⟩, smF I8.st, ej⟩
                            · cases ej
                  · rintro Hj ⟨wj, sj, accj, xsj, Ij, sm, ej⟩
                    rw [List.drop_length] at ej
                    cases ej
                    refine ⟨wj, s4, acc', xsj, ⟨?_, Ij.len, Ij.at', Ij.st, fun i hi q h => ?_⟩, e3⟩
                    · have := wipe_ok (vs := vs) Ij.ok
                      rw [wipe_wipe hv, hwp] at this
                      have e8 : ({ ({ s4 with a := wipeA s4.a vs1 } : S) with a := wipeA (wipeA s4.a vs1) vs } : S) = { s4 with a := wipeA s4.a vs } := by rw [wipeA_wipeA hv]
                      have e9 := e8 ▸ this
                      exact e9
                    · obtain ⟨q1, h1⟩ := sl5 i hi q h
                      obtain ⟨q2, h2⟩ := sl6 i q1 h1
                      exact Ij.sl i (fun h3 => hi (hv i h3)) q2 h2
        · rintro H2 ⟨w2, s2, acc, xs, I, e3⟩
          rw [List.drop_length] at e3
          cases e3
          obtain ⟨ok2, l2, ⟨hO, hA2, rep⟩, st2, sl2⟩ := I
          refine k w2 H2 (.ref A) (t1 + 1) t1 a1 (Nat.lt_succ_self _) ?_ (st1.trans (st2.mono a1)) ?_ ⟨A, xs, rfl, hO, hA2, rep⟩
          · have lb : (backA sa.a sb.a vs).length = n := (backA_length _ _ _).trans l2
            refine ⟨ok2.sub, by show σ.length = _; rw [lb, ok1.len, hl], fun i q v h1 h2 => ?_, ok2.own, by show (backA sa.a sb.a vs).length ≤ _; omega, ok2.box, ok2.nob⟩
            have h1 : (backA sa.a sb.a vs)[i]? = some q := h1
            rw [backA_get _ _ _ (l2.trans hl.symm)] at h1
            by_cases hi : i ∈ vs
            · rw [if_pos hi] at h1
              have hs := ok1.sl i q v h1 h2
              cases q with
              | none => trivial
              | some q =>
                cases q with
                | d y => obtain ⟨u, eu, hr⟩ := hs; exact ⟨u, eu, Rep.mono st2.F y u hr⟩
                | o c =>
                  have := List.all_eq_true.mp hno i hi
                  rw [h1] at this
                  cases this
                | sl _ => exact hs
                | bx =>
                  obtain ⟨p, gg, eb, ev⟩ := hs
                  rcases st2.B with z | ⟨z, _⟩
                  · exact ⟨p, gg, z.trans eb, ev⟩
                  · rw [z] at eb; cases eb
            · rw [if_neg hi] at h1
              refine ok2.sl i q v ?_ ?_
              · show (wipeA sb.a vs)[i]? = _
                rw [wipeA_get, if_neg hi]; exact h1
              · rw [wipe_get, if_neg hi]; exact h2
          · refine sl1.trans fun i q h => ?_
            show ∃ q', (backA sa.a sb.a vs)[i]? = _
            rw [backA_get _ _ _ (l2.trans hl.symm)]
            by_cases hi : i ∈ vs
            · rw [if_pos hi]; exact ⟨q, h⟩
            · rw [if_neg hi]; exact sl2 i hi q h
    · cases e
end
section
variable {X : Cx} {elt tg iter tg1 iter1 : Expr} {ifs ifs1 : List Expr} {scope : Scope} {own : List (Str × Nat)} {pos : Pos} {src src1 : MI} {g g1 : D → S → Option S} {ws ws1 vs1 : List Nat} {c c1 : MT} {m : ME}
theorem re_lc2 (hc : X.calm = true) (hN : X.N.Nodup) (hi : RI X tg iter src) (ok : BlkOk X.N X.env.scope scope own)
    (hg : ∀ (s : Shared) (H : Hp) (C : Addr) (cl : List (Str × Addr)) (fp : List Addr), RG (X.blk s H scope (compEnvC scope cl C X.env) fp) tg g ws) (ht : ∀ (s : Shared) (H : Hp) (C : Addr) (cl : List (Str × Addr)) (fp : List Addr), RTs (X.blk s H scope (compEnvC scope cl C X.env) fp) ifs c)
    (hi1 : ∀ (s : Shared) (H : Hp) (C : Addr) (cl : List (Str × Addr)) (fp : List Addr), RI (X.blk s H scope (compEnvC scope cl C X.env) fp) tg1 iter1 src1)
    (hg1 : ∀ (s : Shared) (H : Hp) (C : Addr) (cl : List (Str × Addr)) (fp : List Addr), RG (X.blk s H scope (compEnvC scope cl C X.env) fp) tg1 g1 ws1) (ht1 : ∀ (s : Shared) (H : Hp) (C : Addr) (cl : List (Str × Addr)) (fp : List Addr), RTs (X.blk s H scope (compEnvC scope cl C X.env) fp) ifs1 c1)
    (he : ∀ (s : Shared) (H : Hp) (C : Addr) (cl : List (Str × Addr)) (fp : List Addr), RE (X.blk s H scope (compEnvC scope cl C X.env) fp) elt m) (hw : ∀ i ∈ ws, i ∈ own.map (·.2)) (hw1 : ∀ i ∈ ws1, i ∈ vs1) (hv : ∀ i ∈ vs1, i ∈ own.map (·.2))
    (hs : ∀ x, foldedSetIterable iter X.env x = pure x := by intro _; rfl) (hs1 : ∀ (env : Env) (x : Value), foldedSetIterable iter1 env x = pure x := by intro _ _; rfl) :
    RE X (.ListComp elt [⟨tg, iter, ifs, 0⟩, ⟨tg1, iter1, ifs1, 0⟩] scope pos) (mLc2 src g c src1 g1 c1 m (own.map (·.2)) vs1) := by
  obtain ⟨wi, p1, s1⟩ := hi
  exact ⟨_, pe_lc2 hc hN p1 ok hv (fun s H C cl fp => (hg s H C cl fp).pg) (fun s H C cl fp => (ht s H C cl fp).pts) (fun s H C cl fp => (hi1 s H C cl fp).pi) (fun s H C cl fp => (hg1 s H C cl fp).pg) (fun s H C cl fp => (ht1 s H C cl fp).pts) (fun s H C cl fp => (he s H C cl fp).pe) hs hs1, lc2_snd hw hw1 hv s1⟩
theorem rs_setLc2 (i : Nat) {y : Str} {py spos : Pos} (hc : X.calm = true) (hN : X.N.Nodup) (hi : RI X tg iter src) (ok : BlkOk X.N X.env.scope scope own)
    (hg : ∀ (s : Shared) (H : Hp) (C : Addr) (cl : List (Str × Addr)) (fp : List Addr), RG (X.blk s H scope (compEnvC scope cl C X.env) fp) tg g ws) (ht : ∀ (s : Shared) (H : Hp) (C : Addr) (cl : List (Str × Addr)) (fp : List Addr), RTs (X.blk s H scope (compEnvC scope cl C X.env) fp) ifs c)
    (hi1 : ∀ (s : Shared) (H : Hp) (C : Addr) (cl : List (Str × Addr)) (fp : List Addr), RI (X.blk s H scope (compEnvC scope cl C X.env) fp) tg1 iter1 src1)
    (hg1 : ∀ (s : Shared) (H : Hp) (C : Addr) (cl : List (Str × Addr)) (fp : List Addr), RG (X.blk s H scope (compEnvC scope cl C X.env) fp) tg1 g1 ws1) (ht1 : ∀ (s : Shared) (H : Hp) (C : Addr) (cl : List (Str × Addr)) (fp : List Addr), RTs (X.blk s H scope (compEnvC scope cl C X.env) fp) ifs1 c1)
    (he : ∀ (s : Shared) (H : Hp) (C : Addr) (cl : List (Str × Addr)) (fp : List Addr), RE (X.blk s H scope (compEnvC scope cl C X.env) fp) elt m) (hw : ∀ i ∈ ws, i ∈ own.map (·.2)) (hw1 : ∀ i ∈ ws1, i ∈ vs1) (hv : ∀ i ∈ vs1, i ∈ own.map (·.2)) (hy : X.N[i]? = some y := by rfl) (hyl : X.env.scope.names.lookup y = some .local := by rfl)
    (hsw : swapsWith (.ListComp elt [⟨tg, iter, ifs, 0⟩, ⟨tg1, iter1, ifs1, 0⟩] scope pos) (some (.Name y py)) spos.line X.env = pure true := by exact sw_true rfl rfl rfl rfl) (hs : ∀ x, foldedSetIterable iter X.env x = pure x := by intro _; rfl) (hs1 : ∀ (env : Env) (x : Value), foldedSetIterable iter1 env x = pure x := by intro _ _; rfl) :
    RS X (.Assign [.Name y py] (.ListComp elt [⟨tg, iter, ifs, 0⟩, ⟨tg1, iter1, ifs1, 0⟩] scope pos) spos) (mSet i (mLc2 src g c src1 g1 c1 m (own.map (·.2)) vs1)) := by
  obtain ⟨wi, p1, s1⟩ := hi
  refine ⟨_, ps_setLc2 (g := tgC X.K g ws) (tt := ttC X.K c) (wi1 := tiC X.K src1) (g1 := tgC X.K g1 ws1) (tt1 := ttC X.K c1) (te := teC X.K m) hc hN hy hyl hsw p1 ok hv (fun s H C cl fp => (hg s H C cl fp).pg) (fun s H C cl fp => (ht s H C cl fp).pts) (fun s H C cl fp => (hi1 s H C cl fp).pi) (fun s H C cl fp => (hg1 s H C cl fp).pg) (fun s H C cl fp => (ht1 s H C cl fp).pts) (fun s H C cl fp => (he s H C cl fp).pe) hs hs1, fun σ H w s D f s' ok e k => ?_⟩
  have s2 := lc2_snd (g := g) hw hw1 hv s1 (c := c) (src1 := src1) (g1 := g1) (c1 := c1) (m := m)
  simp only [mSet] at e
  split at e
  · cases e
  · rename_i r sa e1
    split at e
    · cases e
    · rename_i sb e2
      cases e
      refine s2 σ H w s _ _ r sa ok e1 fun w1 H1 x t' τ a1 a2 ok1 st1 sl1 rel1 => ?_
      have hl := ok.slen ok1
      obtain ⟨w2, ok2, l2, st2⟩ := store_fin ok1 hl a1 rel1 e2
      exact k.nx rfl _ w2 H1 ok2 l2 (st1.trans st2)
end
end Qz
namespace Qz
open PySem PySem.Spec L2
open PyProof.Rows hiding St
/-! ## what is raised: a class, the name of its field, what it holds -/
structure Exc where
  cls : Str
  fld : Str
  v : D
/-- a class, named in the module -/
def clsOf (mg : Str → Option Value) (n : Str) : Value := (mg n).getD .none
theorem clsOf_of {mg : Str → Option Value} {n : Str} {v : Value} (h : mg n = some v) : clsOf mg n = v := by unfold clsOf; rw [h]; rfl
abbrev XM := S → Option (Exc × S)
abbrev DX := List R → Bx → Option (Exc × Bx)
def XAt (K : PySem.W.Frag) (F : Hp) (x : Exc) (dd : Addr) : Prop := ∃ vv, F dd = some (.xd [(x.fld, vv)]) ∧ Rep K F x.v vv
theorem XAt.mono {K : PySem.W.Frag} {F G : Hp} {x : Exc} {dd : Addr} (h : XAt K F x dd) (e : Same F G) : XAt K G x dd := by
  obtain ⟨vv, h1, h2⟩ := h
  exact ⟨vv, e _ _ h1, Rep.mono e _ _ h2⟩
section
variable (K : PySem.W.Frag) (mg : Str → Option Value) (W : WX)
def SndEX (te : TE) (mx : XM) : Prop := ∀ (σ : St) (H : Hp) (w : Wd) (s : S) (t : Nat) (Q : VK) (x : Exc) (s' : S), OKs K w H σ s t → mx s = some (x, s') →
  (∀ w' H' dd t', t ≤ t' → OKs K w' H' σ s' t' → Step s.a.length t w H w' H' → XAt K w'.F x dd → W (clsOf mg x.cls) (some dd) σ H') → te σ H Q
def SndAX (ta : TA) (mx : XM) : Prop := ∀ (σ : St) (H : Hp) (w : Wd) (s : S) (t : Nat) (Q : List V → Hp → Prop) (x : Exc) (s' : S), OKs K w H σ s t → mx s = some (x, s') →
  (∀ w' H' dd t', t ≤ t' → OKs K w' H' σ s' t' → Step s.a.length t w H w' H' → XAt K w'.F x dd → W (clsOf mg x.cls) (some dd) σ H') → ta σ H Q
def SndSX (ts : TS) (mx : XM) : Prop := ∀ (σ : St) (H : Hp) (w : Wd) (s : S) (D : Ends) (x : Exc) (s' : S), OKs K w H σ s s.a.length → mx s = some (x, s') →
  (∀ σ' w' H' dd, OKs K w' H' σ' s' s.a.length → s'.a.length = s.a.length → Step s.a.length s.a.length w H w' H' → XAt K w'.F x dd → W (clsOf mg x.cls) (some dd) σ' H') → ts D σ H
end
structure REX (X : Cx) (W : WX) (e : Expr) (m : ME) (mx : XM) : Prop where
  ex : ∃ te, PE X e te ∧ SndE X.K te m ∧ SndEX X.K X.mg W te mx
structure RAX (X : Cx) (W : WX) (es : List Expr) (m : MA) (mx : XM) : Prop where
  ex : ∃ ta, PA X es ta ∧ SndA X.K ta m ∧ SndAX X.K X.mg W ta mx
structure RSX (X : Cx) (W : WX) (st : Stmt) (m : MS) (mx : XM) : Prop where
  ex : ∃ ts, PS X st ts ∧ SndS X.K ts m ∧ SndSX X.K X.mg W ts mx
structure RSsX (X : Cx) (W : WX) (st : List Stmt) (m : MS) (mx : XM) : Prop where
  ex : ∃ ts, PSs X st ts ∧ SndS X.K ts m ∧ SndSX X.K X.mg W ts mx
def xNo : XM := fun _ => none
section
variable {X : Cx} {W : WX} {e : Expr} {es : List Expr} {st : Stmt} {sts : List Stmt} {m m1 m2 : ME} {ms : MA} {p q : MS} {mx mx1 mx2 : XM} {pos : Pos}
theorem REX.of (h : RE X e m) : REX X W e m xNo := let ⟨te, a, b⟩ := h.ex; ⟨te, a, b, fun _ _ _ _ _ _ _ _ _ e => nomatch e⟩
theorem RAX.of (h : RA X es ms) : RAX X W es ms xNo := let ⟨te, a, b⟩ := h.ex; ⟨te, a, b, fun _ _ _ _ _ _ _ _ _ e => nomatch e⟩
theorem RSX.of (h : RS X st p) : RSX X W st p xNo := let ⟨te, a, b⟩ := h.ex; ⟨te, a, b, fun _ _ _ _ _ _ _ _ e => nomatch e⟩
theorem RSsX.of (h : RSs X sts p) : RSsX X W sts p xNo := let ⟨te, a, b⟩ := h.ex; ⟨te, a, b, fun _ _ _ _ _ _ _ _ e => nomatch e⟩
/-- an item raises, or a later one -/
def xCons (m : ME) (mx mxs : XM) : XM := fun s => match mx s with
  | some r => some r
  | none => match m s with
    | .ok _ s1 => mxs s1
    | .no => none
theorem xa_cons (h : REX X W e m mx) (hr : RAX X W es ms mx2) (hs : starEach (e :: es) X.env = (false, eval e X.env) :: starEach es X.env := by rfl) : RAX X W (e :: es) (mCons m ms) (xCons m mx mx2) := by
  obtain ⟨te, p1, s1, x1⟩ := h
  obtain ⟨ta, p2, s2, x2⟩ := hr
  refine ⟨_, pa_cons p1 p2 hs, cons_snd s1 s2, ?_⟩
  intro σ H w s t Q x s' ok e k
  simp only [xCons] at e
  split at e
  · rename_i r er
    cases e
    exact x1 σ H w s t _ x s' ok er k
  · split at e
    · rename_i r sa e1
      refine s1 σ H w s t _ r sa ok e1 fun w1 H1 y t1 τ a1 a2 ok1 st1 sl1 rel1 => ?_
      refine x2 σ H1 w1 sa t1 _ x s' ok1 e fun w2 H2 dd t2 a3 ok2 st2 xa => ?_
      rw [ok.slen ok1] at st2
      exact k w2 H2 dd t2 (by omega) ok2 (st1.trans (st2.mono (by omega))) xa
    · cases e
theorem xe_data {rd : List V → Hp → VK → Prop} {f : List D → Option R} (hp : ∀ ta, PA X es ta → PE X e (fun σ H Q => ta σ H fun us H1 => rd us H1 Q)) (hr : RAX X W es ms mx) (hm : MkS X.K rd f) : REX X W e (mData ms f) mx := by
  obtain ⟨ta, h1, h2, h3⟩ := hr
  obtain ⟨te, q1, q2⟩ := (re_data (X := X) (e := e) (fun ta' h => hp ta' h) ⟨ta, h1, h2⟩ hm).ex
  refine ⟨_, hp ta h1, ?_, fun σ H w s t Q x s' ok e k => h3 σ H w s t _ x s' ok e k⟩
  intro σ H w s t Q r s' ok e k
  simp only [mData] at e
  split at e
  · cases e
  · rename_i rs s1 e1
    split at e
    · cases e
    · rename_i xs s2 e2
      split at e
      · cases e
      · rename_i r' e3
        cases e
        refine h2 σ H w s t _ rs s1 ok e1 fun w1 H1 us t1 a1 ok1 st1 sl1 rel1 => ?_
        have l := ok.slen ok1
        obtain ⟨w2, ok2, st2, rep, sl2, l2⟩ := takes_ok (t0 := t) rs us xs s1 s' w1 t ok1 rel1 e2 (Nat.le_refl _) (by rw [l]; exact ok.tN)
        refine hm w2 H1 σ s' t1 us xs r Q ok2 rep e3 fun w3 H3 z ok3 st3 rel3 => ?_
        rw [l] at st2
        rw [l2, l] at st3
        exact k w3 H3 z (t1 + 1) t1 a1 (Nat.lt_succ_self _) ok3 ((st1.trans st2).trans (st3.mono a1)) (sl1.trans sl2) rel3
theorem xe_lst (h : RAX X W es ms mx) : REX X W (.List es pos) (mLst ms) mx := xe_data (fun ta h => pe_lst h) h mk_lst
theorem xe_tup {x1} (h : RAX X W es ms mx) : REX X W (.Tuple es x1 pos) (mTup ms) mx := xe_data (fun ta h => pe_tup h) h mk_tup
def xIte {α : Type} (c : MT) (a b : S → Option α) : S → Option α := fun s => match c s with
  | .ok true s1 => a s1
  | .ok false s1 => b s1
  | .no => none
theorem xe_ite {c a b : Expr} {mc : MT} (hc : RT X c mc) (ha : REX X W a m1 mx1) (hb : REX X W b m2 mx2) : REX X W (.IfExp c a b pos) (mIte mc m1 m2) (xIte mc mx1 mx2) := by
  obtain ⟨t0, p0, h0⟩ := hc
  obtain ⟨t1, p1, h1, x1⟩ := ha
  obtain ⟨t2, p2, h2, x2⟩ := hb
  refine ⟨_, pe_ifExp p0 p1 p2, ?_, ?_⟩
  · intro σ H w s t Q r s' ok e k
    simp only [mIte] at e
    split at e
    · cases e
    · rename_i s1 e1
      refine h0 σ H w s t _ _ s1 ok e1 fun w1 H1 t1 a1 ok1 st1 sl1 => iteT ?_
      refine h1 σ H1 w1 s1 t1 _ r s' ok1 e fun w2 H2 y t2 τ2 b1 b2 ok2 st2 sl2 rel2 => ?_
      rw [ok.slen ok1] at st2
      exact k w2 H2 y t2 τ2 (by omega) b2 ok2 (st1.trans (st2.mono (by omega))) (sl1.trans sl2) rel2
    · rename_i s1 e1
      refine h0 σ H w s t _ _ s1 ok e1 fun w1 H1 t1 a1 ok1 st1 sl1 => iteF ?_
      refine h2 σ H1 w1 s1 t1 _ r s' ok1 e fun w2 H2 y t2 τ2 b1 b2 ok2 st2 sl2 rel2 => ?_
      rw [ok.slen ok1] at st2
      exact k w2 H2 y t2 τ2 (by omega) b2 ok2 (st1.trans (st2.mono (by omega))) (sl1.trans sl2) rel2
  · intro σ H w s t Q x s' ok e k
    simp only [xIte] at e
    split at e
    · rename_i s1 e1
      refine h0 σ H w s t _ _ s1 ok e1 fun w1 H1 t1 a1 ok1 st1 sl1 => iteT ?_
      refine x1 σ H1 w1 s1 t1 _ x s' ok1 e fun w2 H2 dd t2 a3 ok2 st2 xa => ?_
      rw [ok.slen ok1] at st2
      exact k w2 H2 dd t2 (by omega) ok2 (st1.trans (st2.mono (by omega))) xa
    · rename_i s1 e1
      refine h0 σ H w s t _ _ s1 ok e1 fun w1 H1 t1 a1 ok1 st1 sl1 => iteF ?_
      refine x2 σ H1 w1 s1 t1 _ x s' ok1 e fun w2 H2 dd t2 a3 ok2 st2 xa => ?_
      rw [ok.slen ok1] at st2
      exact k w2 H2 dd t2 (by omega) ok2 (st1.trans (st2.mono (by omega))) xa
    · cases e
/-! statements -/
theorem drop_exc {K : PySem.W.Frag} {mg : Str → Option Value} {te : TE} (h : SndEX K mg W te mx) {σ : St} {H : Hp} {w : Wd} {s s' : S} {Q : VK} {x : Exc} (ok : OKs K w H σ s s.a.length) (e : mx s = some (x, s'))
    (k : ∀ σ' w' H' dd, OKs K w' H' σ' s' s.a.length → s'.a.length = s.a.length → Step s.a.length s.a.length w H w' H' → XAt K w'.F x dd → W (clsOf mg x.cls) (some dd) σ' H') : te σ H Q :=
  h σ H w s _ Q x s' ok e fun w' H' dd t' _ ok' st xa => by
    have hl := ok.slen ok'
    exact k σ (w'.drop s.a.length) H' dd (drop_ok ok' hl) hl (st.trans drop_step) xa
theorem xs_ret (he : REX X W e m mx) : RSX X W (.Return (some e) pos) (mRet m) mx := by
  obtain ⟨t1, p1, s1, x1⟩ := he
  obtain ⟨ts, q1, q2⟩ := (rs_ret (X := X) (pos := pos) ⟨t1, p1, s1⟩).ex
  refine ⟨_, ps_ret p1, ?_, fun σ H w s D x s' ok e k => drop_exc x1 ok e k⟩
  intro σ H w s D f s' ok e k
  simp only [mRet] at e
  split at e
  · cases e
  · rename_i r sa e1
    cases e
    exact s1 σ H w s _ _ r _ ok e1 fun w1 H1 x t' τ a1 a2 ok1 st1 sl1 rel1 => k.rt r rfl σ w1 H1 x t' τ a1 a2 ok1 (ok.slen ok1) st1 rel1
theorem xs_expr (he : REX X W e m mx) (hs : swapsWith e none pos.line X.env = pure false := by rfl) : RSX X W (.Expr e pos) (mDrop m) mx := by
  obtain ⟨t1, p1, s1, x1⟩ := he
  refine ⟨_, ps_expr p1 hs, ?_, fun σ H w s D x s' ok e k => drop_exc x1 ok e k⟩
  intro σ H w s D f s' ok e k
  simp only [mDrop] at e
  split at e
  · cases e
  · rename_i r sa e1
    cases e
    refine s1 σ H w s _ _ r _ ok e1 fun w1 H1 x t' τ a1 a2 ok1 st1 sl1 rel1 => ?_
    have hl := ok.slen ok1
    exact k.nx rfl σ _ H1 (drop_ok ok1 hl) hl (st1.trans drop_step)
def xSeq (p : MS) (mx mx2 : XM) : XM := fun s => match mx s with
  | some r => some r
  | none => match p s with
    | .ok .nx s1 => mx2 s1
    | _ => none
theorem xss_cons (h1 : RSX X W st p mx) (h2 : RSsX X W sts q mx2) : RSsX X W (st :: sts) (mSeq p q) (xSeq p mx mx2) := by
  obtain ⟨t1, p1, s1, x1⟩ := h1
  obtain ⟨t2, p2, s2, x2⟩ := h2
  refine ⟨_, pss_cons p1 p2, ?_, ?_⟩
  · intro σ H w s D f s' ok e k
    simp only [mSeq] at e
    split at e
    · rename_i sa e1
      refine s1 σ H w s _ .nx sa ok e1 ⟨fun _ σ1 w1 H1 ok1 l1 st1 => ?_, (fun h => nomatch h), (fun h => nomatch h), (fun r h => nomatch h)⟩
      have k2 := k.after st1
      rw [← l1] at ok1 k2
      exact s2 σ1 H1 w1 sa D f s' ok1 e k2
    · rename_i f1 sa hne e1
      cases e
      refine s1 σ H w s _ _ _ ok e1 ⟨fun h => absurd h (by simpa using hne), k.bk, k.ct, k.rt⟩
    · cases e
  · intro σ H w s D x s' ok e k
    simp only [xSeq] at e
    split at e
    · rename_i r er
      cases e
      exact x1 σ H w s _ x s' ok er k
    · split at e
      · rename_i sa e1
        refine s1 σ H w s _ .nx sa ok e1 ⟨fun _ σ1 w1 H1 ok1 l1 st1 => ?_, (fun h => nomatch h), (fun h => nomatch h), (fun r h => nomatch h)⟩
        rw [← l1] at ok1
        refine x2 σ1 H1 w1 sa D x s' ok1 e fun σ2 w2 H2 dd ok2 l2 st2 xa => ?_
        rw [l1] at ok2 l2 st2
        exact k σ2 w2 H2 dd ok2 l2 (st1.trans st2) xa
      · cases e
theorem xs_if {c : Expr} {xs ys : List Stmt} {mc : MT} (hc : RT X c mc) (ha : RSsX X W xs p mx1) (hb : RSsX X W ys q mx2) : RSX X W (.If c xs ys pos) (mIf mc p q) (xIte mc mx1 mx2) := by
  obtain ⟨t0, p0, s0⟩ := hc
  obtain ⟨t1, p1, s1, x1⟩ := ha
  obtain ⟨t2, p2, s2, x2⟩ := hb
  refine ⟨_, ps_if p0 p1 p2, ?_, ?_⟩
  · intro σ H w s D f s' ok e k
    simp only [mIf] at e
    split at e
    · cases e
    · rename_i sa e1
      refine s0 σ H w s _ _ true sa ok e1 fun w1 H1 t' a1 ok1 st1 sl1 => iteT ?_
      have hl := ok.slen ok1
      have k2 := k.after (st1.trans drop_step)
      have ok2 := drop_ok ok1 hl
      rw [← hl] at ok2 k2
      exact s1 σ H1 _ sa D f s' ok2 e k2
    · rename_i sa e1
      refine s0 σ H w s _ _ false sa ok e1 fun w1 H1 t' a1 ok1 st1 sl1 => iteF ?_
      have hl := ok.slen ok1
      have k2 := k.after (st1.trans drop_step)
      have ok2 := drop_ok ok1 hl
      rw [← hl] at ok2 k2
      exact s2 σ H1 _ sa D f s' ok2 e k2
  · intro σ H w s D x s' ok e k
    simp only [xIte] at e
    split at e
    · rename_i sa e1
      refine s0 σ H w s _ _ true sa ok e1 fun w1 H1 t' a1 ok1 st1 sl1 => iteT ?_
      have hl := ok.slen ok1
      have ok2 := drop_ok ok1 hl
      rw [← hl] at ok2
      refine x1 σ H1 _ sa D x s' ok2 e fun σ2 w2 H2 dd ok3 l3 st3 xa => ?_
      rw [hl] at ok3 l3 st3
      exact k σ2 w2 H2 dd ok3 l3 ((st1.trans drop_step).trans st3) xa
    · rename_i sa e1
      refine s0 σ H w s _ _ false sa ok e1 fun w1 H1 t' a1 ok1 st1 sl1 => iteF ?_
      have hl := ok.slen ok1
      have ok2 := drop_ok ok1 hl
      rw [← hl] at ok2
      refine x2 σ H1 _ sa D x s' ok2 e fun σ2 w2 H2 dd ok3 l3 st3 xa => ?_
      rw [hl] at ok3 l3 st3
      exact k σ2 w2 H2 dd ok3 l3 ((st1.trans drop_step).trans st3) xa
    · cases e
end
/-! ## defs that may raise -/
theorem after_plain {K : PySem.W.Frag} {t : Nat} {H : Hp} {σ : St} {w : Wd} {s : S} {b : Bx} {F' H' : Hp} {B' : Option (Addr × Addr)} (ok : OKs K w H σ s t) (A : After w.F H w.B F' H' B' b) :
    OKs K ⟨F', w.O, B'⟩ H' σ { s with b := b } t ∧ Step s.a.length t w H ⟨F', w.O, B'⟩ H' := by
  -- who owns what behind it
  have ho : ∀ a i, w.O a = some i → H' a = H a ∧ F' a = none ∧ ¬ isBox B' a := fun a i h => by
    obtain ⟨h1, ⟨o, h2, nt⟩, h3⟩ := ok.own a i h
    have nb : ¬ isBox w.B a := fun ⟨p, g, e, z⟩ => by
      obtain ⟨_, z1, z2⟩ := ok.box p g e
      rcases z with rfl | rfl
      · rw [h] at z1; cases z1
      · rw [h] at z2; cases z2
    refine ⟨(A.keep a o h2 nb).trans h2.symm, ?_, fun ⟨p, g, e, z⟩ => ?_⟩
    · cases q : F' a with
      | none => rfl
      | some u =>
        rcases A.newF a (by rw [q]; simp) with z | z | ⟨xs, z⟩ | z
        · exact absurd h1 z
        · rw [h2] at z; cases z
        · rw [h2] at z; exact absurd (Option.some.inj z) (nt xs)
        · exact absurd z nb
    · rcases A.B with e1 | ⟨_, e1⟩
      · exact nb ⟨p, g, e1 ▸ e, z⟩
      · obtain ⟨z1, z2⟩ := e1 p g e
        rcases z with rfl | rfl
        · rw [h2] at z1; cases z1
        · rw [h2] at z2; cases z2
  have hB0 : ∀ p g, B' = some (p, g) → w.O p = none ∧ w.O g = none := fun p g e => by
    constructor
    · cases q : w.O p with
      | none => rfl
      | some i => exact absurd ⟨p, g, e, .inl rfl⟩ (ho p i q).2.2
    · cases q : w.O g with
      | none => rfl
      | some i => exact absurd ⟨p, g, e, .inr rfl⟩ (ho g i q).2.2
  have hsl : ∀ (O' : Addr → Option Nat), (∀ a i, w.O a = some i → O' a = some i) → ∀ (i : Nat) q v, s.a[i]? = some q → σ[i]? = some v → SlR K ⟨F', O', B'⟩ H' i q v := fun O' hO i q v h1 h2 => by
    have hs := ok.sl i q v h1 h2
    cases q with
    | none => trivial
    | some q =>
      cases q with
      | d y => obtain ⟨u, e, h1⟩ := hs; exact ⟨u, e, Rep.mono A.mono y u h1⟩
      | o c =>
        obtain ⟨u, e, h1⟩ := hs
        refine ⟨u, e, ?_⟩
        cases c with
        | lst ds => obtain ⟨a, xs, e, q1, q2, q3⟩ := h1; exact ⟨a, xs, e, hO a i q1, (ho a i q1).1.trans q2, RepL.mono A.mono ds xs q3⟩
        | dK ds => obtain ⟨a, xs, e, q1, q2, q3⟩ := h1; exact ⟨a, xs, e, hO a i q1, (ho a i q1).1.trans q2, RepK.mono A.mono ds xs q3⟩
        | dT ds => obtain ⟨a, xs, e, q1, q2, q3⟩ := h1; exact ⟨a, xs, e, hO a i q1, (ho a i q1).1.trans q2, RepT.mono A.mono ds xs q3⟩
      | sl _ => exact hs
      | bx =>
        obtain ⟨p, g, e, h1⟩ := hs
        rcases A.B with z | ⟨z, _⟩
        · exact ⟨p, g, z.trans e, h1⟩
        · rw [z] at e; cases e
  have keep : ∀ a o, H a = some o → (∀ i, w.O a = some i → s.a.length ≤ i ∧ i < t) → ¬ isBox w.B a → H' a = some o := fun a o h _ hb => A.keep a o h hb
  have newF : ∀ a, F' a ≠ none → w.F a ≠ none ∨ H a = none ∨ (∃ i, w.O a = some i ∧ (i < s.a.length ∨ t ≤ i)) ∨ (∃ xs, H a = some (.tup xs)) ∨ isBox w.B a := fun a h => (A.newF a h).imp id (fun z => z.imp id .inr)
  refine ⟨⟨A.sub, ok.len, hsl w.O (fun _ _ h => h), fun a i h => ?_, ok.tN, fun p g e => ⟨A.box p g e, hB0 p g e⟩, A.nob⟩, ⟨A.mono, keep, A.there, fun _ _ h _ _ => h, newF, fun a i h => .inr (by rw [show w.O a = some i from h]; simp), fun _ _ h _ => .inr h, A.B⟩⟩
  obtain ⟨h1, ⟨o, h2, nt⟩, h3⟩ := ok.own a i h
  exact ⟨(ho a i h).2.1, ⟨o, (ho a i h).1.trans h2, nt⟩, h3⟩
section
variable (K : PySem.W.Frag)
def spX (mg : Str → Option Value) (np : Nat) (g : DF) (gx : DX) : Sp := fun vs H Q E => ∃ (F : Hp) (B : Option (Addr × Addr)) (rs : List R) (b : Bx), vs.length = np ∧ Same F H ∧ (∀ p g, B = some (p, g) → BoxOk F H p g b) ∧ (b.c < 0 → B = none) ∧ ArgsR K F B rs vs ∧
  ((∃ r b', g rs b = .ok r b' ∧ ∀ F' B' H' x, After F H B F' H' B' b' → RetR K F' H H' B' r x → Q x H') ∨
   ∃ x b', gx rs b = some (x, b') ∧ ∀ F' B' H' dd, After F H B F' H' B' b' → XAt K F' x dd → E (clsOf mg x.cls) (some dd) H')
end
def runX (N : Nat) (mx : XM) : DX := fun rs b => (mx (.init N rs b)).map fun p => (p.1, p.2.b)
structure FnGX (P : Program) (w : World) (K : PySem.W.Frag) (mg : Str → Option Value) (base : Heap) (k : Nat) (f : Addr) (fd : FuncData) (ps : List Str) (sp : Sp) : Prop where
  many : ∀ vs H Q E, sp vs H Q E → vs.length = ps.length
  goes : ∀ (A : Around) (outer : List Env) (s : Shared) (H : Hp) (args : Args) (us : List Value) (vs : List V) (Q : VK) (E : XK), A.guards = some [] → SysM base → Room k A →
    Env0 P w K mg base A outer s H → BindsTo s fd args (ps.zip us) → Vals vs us → sp vs H Q E → codeAny (model P w) A (.call (.ref f) args) (CR (CX P w) outer P w H s Q E) s
theorem FnGX.up {P : Program} {w : World} {K : PySem.W.Frag} {mg : Str → Option Value} {base : Heap} {j k : Nat} {f : Addr} {fd : FuncData} {ps : List Str} {sp : Sp} (F : FnGX P w K mg base j f fd ps sp) (h : j ≤ k) : FnGX P w K mg base k f fd ps sp :=
  ⟨F.many, fun A o s H a us vs Q E g1 g2 hr => F.goes A o s H a us vs Q E g1 g2 (hr.mono h)⟩
section
variable {P : Program} {w : World} {K : PySem.W.Frag} {mg : Str → Option Value} {base : Heap}
theorem fngx_of {x qual : Str} {st : Stmt} {f : Addr} {fd : FuncData} {N ps : List Str} {k : Nat} {m : MS} {mx : XM} (F : Fun K x qual st f fd) (S : FnScope N ps (defScope st))
    (hb : ∀ (X : Cx) (W : WX), X.prog = P → X.w = w → X.K = K → X.mg = mg → X.base = base → X.N = N → X.env.scope = defScope st → X.calm = true → (∀ y, X.fn y = true) → X.stack = X.env :: X.outer → X.env.frame = some X.env.locals → Here X k → Takes X W → RSsX X W (defBody st) m mx) :
    FnGX P w K mg base (k + 1) f fd ps (spX K mg ps.length (runF N.length m) (runX N.length mx)) := by
  obtain ⟨oc, od, kV, doc, pm, an, cdv, ct, osl, rfl, lk, hcd⟩ := F.ex
  refine ⟨fun vs H Q E ⟨_, _, _, _, hl, _⟩ => hl, fun A outer s H args us vs Q E g1 g2 hr e0 hbd r hsp => ?_⟩
  have hl : vs.length = ps.length := by obtain ⟨_, _, _, _, hl, _⟩ := hsp; exact hl
  have grow := fun b o e => (e0.bs b o e).1
  have KX : K.In s.heap := e0.mod.kin.keeps grow
  have lim : s.heap.NoLimit := e0.mod.nolimit.keeps grow
  have hkind : ∀ y ∈ ps.zip us, (defScope st).names.lookup y.1 = some .local ∨ ((defScope st).names.lookup y.1 = some .cell ∧ ((cellsFrom (s.heap.objs.size + 1) (defScope st).names []).lookup y.1).isSome = true) := by
    rintro ⟨n, v⟩ hy
    rcases S.par n (List.of_mem_zip hy).1 with q | q
    · exact .inl q
    · exact .inr ⟨q, PySem.W.cellsFrom_some _ _ _ (.inl q)⟩
  refine codeAny_call_function hr.depth (KX _ _ lk) rfl S.co S.gen rfl (PySem.W.codeRec_of KX hcd) (hbd _ _ _ _ ?_)
  refine wpAny_newFunctionEnv_cells S.kind hkind fun env he s1 x => ?_
  subst he
  refine ⟨lim.keeps x.toInCall.keep, codeAny_func ?_⟩
  have tk : Takes (cxOf (CX P w) P w K mg base N qual (defScope st) f cdv A outer s H E) (fun cls d _ H => E cls d H) := takes_of rfl rfl rfl rfl
  obtain ⟨ts, p1, p2, p3⟩ := (hb (cxOf (CX P w) P w K mg base N qual (defScope st) f cdv A outer s H E) _ rfl rfl rfl rfl rfl rfl rfl rfl (fun _ => rfl) rfl rfl ⟨g1, g2, hr.deeper _⟩ tk).ex
  have I : Inv (cxOf (CX P w) P w K mg base N qual (defScope st) f cdv A outer s H E) [] (L2.start N vs) H s1 := inv_start S hr.hd e0 hl r x
  have rd : ts { nx := fun _ H' => Q .non H', rt := Q } (L2.start N vs) H := by
    obtain ⟨F, B, rs, b, hl, hF, hB, hnb, ha, hc⟩ := hsp
    rcases hc with ⟨r, b', e, k⟩ | ⟨x, b', e, k⟩
    · exact body_ok (E := E) p2 ⟨F, B, rs, b, r, b', hl, hF, hB, hnb, ha, e, k⟩
    · have ok := start_ok (N := N) (b := b) hF hB hnb ha
      simp only [runX, Option.map_eq_some_iff] at e
      obtain ⟨⟨x1, sa⟩, e1, e2⟩ := e
      cases e2
      exact p3 _ H _ _ _ _ sa ok e1 fun σ1 w1 H1 dd ok1 l1 st1 xa => k w1.F w1.B H1 dd (after_of st1 ok1) xa
  refine wpAny_mono (p1.run [] s1 _ H { nx := fun _ H' => Q .non H', rt := Q } I rd) (fun fl s' hs => ?_) fun e s' hs => hs
  cases fl with
  | ret u => obtain ⟨v, σ', H', J, rv, q⟩ := hs; exact ⟨v, H', J.os, J.bare, J.base, J.hok, rv, q⟩
  | next => obtain ⟨σ', H', J, q⟩ := hs; exact ⟨.non, H', J.os, J.bare, J.base, J.hok, rfl, q⟩
  | brk => obtain ⟨_, _, _, q⟩ := hs; exact q.elim
  | cont => obtain ⟨_, _, _, q⟩ := hs; exact q.elim
end
end Qz
namespace Qz
open PySem PySem.Spec L2
open PyProof.Rows hiding St
/-! ## calls of defs that may raise -/
section
variable {X : Cx} {W : WX} {k np : Nat} {f : Addr} {fd : FuncData} {ps : List Str} {sp : Sp} {x : Str} {p pos : Pos} {e : Expr} {es : List Expr} {t : TA} {g : DF} {gx : DX} {ms mk : MA}
theorem calleeX {E : XK} {pins : List (Addr × Obj)} {σ : St} {H : Hp} {s : Shared} {Q : VK} {args : Args} {us : List Value} {vs : List V} (F : FnGX X.prog X.w X.K X.mg X.base k f fd ps sp) (h : Here X k) (hb : BindsTo s fd args (ps.zip us))
    (I : Inv X pins σ H s) (r : Vals vs us) (hx : PassesAt (CX X.prog X.w) X σ E) (hs : sp vs H Q E) : wpAny (model X.prog X.w) X.A (call (.ref f) args.pos args.kw) (EP X pins σ Q) X.xe s := by
  refine wpAny_call (codeAny_mono (F.goes X.A X.stack s H args us vs Q E h.gd h.sy h.rm I.env0 hb r hs) fun r s' hq => ?_)
  cases r with
  | error e => exact hx pins H s e s' I hq
  | ok fl =>
    cases fl with
    | ret u => exact I.after hq
    | next => exact hq.elim
    | brk => exact hq.elim
    | cont => exact hq.elim
theorem peg_callX (F : FnGX X.prog X.w X.K X.mg X.base k f fd ps sp) (h : Here X k) (tk : Takes X W) (hg : Gl X x) (hm : X.mg x = some (.ref f)) (hk : PySem.W.keepIn X.K (.ref f) = true) (hb : Binds X.K fd ps [])
    (ha : PA X (e :: es) t) (hdb : (x == ("__debug__" : Str)) = false) (he : starEach (e :: es) X.env = (false, eval e X.env) :: starEach es X.env) (hpl : (backTo pos (starEach es X.env)).any (·.1) = false) :
    PE X (.Call (.Name x p) (e :: es) [] pos) (fun σ H Q => t σ H fun vs H1 => sp vs H1 Q (WE W σ)) := by
  refine ⟨fun pins s σ H Q I hw => wpAny_Call_Name_kw (ld_glob I hg hm ?_ hdb)⟩
  refine PySem.W.callWith_K (h₀ := X.base) I.ok.mod.kin hk (thn (ha.run pos pins s σ H _ I hw) fun us s1 ⟨vs, H1, I1, r, q⟩ => ⟨I1.kIn, ?_⟩) he hpl
  have hl := F.many vs H1 Q _ q
  have z := hb s1 us I1.kIn (by rw [List.append_nil, ← r.length]; exact hl)
  rw [List.append_nil] at z
  exact calleeX F h z I1 r (passAt tk σ) q
theorem peg_callKX0 {kws : List Keyword} {ks : List Str} {tk' : TA} {gg : List Value → List Value → List Value} {gV : List V → List V → List V} (F : FnGX X.prog X.w X.K X.mg X.base k f fd ps sp) (h : Here X k) (tk : Takes X W) (hg : Gl X x) (hm : X.mg x = some (.ref f)) (hk : PySem.W.keepIn X.K (.ref f) = true)
    (hb : KBinds X.K fd ps ks gg gV) (hkw : PK X kws tk') (hall : (backToKw pos (keywordEach kws X.env)).all (·.1.isSome) = true) (hks : (backToKw pos (keywordEach kws X.env)).filterMap (·.1) = ks)
    (hdb : (x == ("__debug__" : Str)) = false) (hpl : ((backTo pos (starEach [] X.env)).any (·.1) || (backToKw pos (keywordEach kws X.env)).any (·.1.isNone)) = false) :
    PE X (.Call (.Name x p) [] kws pos) (fun σ H Q => tk' σ H fun zs H1 => sp (gV [] zs) H1 Q (WE W σ)) := by
  refine ⟨fun pins s σ H Q I hw => wpAny_Call_Name_kw (ld_glob I hg hm ?_ hdb)⟩
  refine PySem.W.callWith_KW0 (h₀ := X.base) I.ok.mod.kin hk hall (thn (hkw.run pos pins s σ H _ I hw) fun ws s2 ⟨zs, H2, I2, rz, q2⟩ => ⟨I2.kIn, ?_⟩) hpl
  rw [hks]
  have r2 := hb.rel (.nil : Vals [] []) rz
  exact calleeX F h (hb.to s2 [] ws I2.kIn (by rw [← r2.length]; exact F.many _ _ _ _ q2)) I2 r2 (passAt tk σ) q2
def xCall (np : Nat) (gx : DX) (ms : MA) : XM := fun s => match ms s with
  | .no => none
  | .ok rs s1 => if rs.length = np then match argsT s1 rs with
    | none => none
    | some (q, s2) => match gx q s2.b with
      | none => none
      | some (x, b) => some (x, { s2 with b := b }) else none
theorem callX_snd {K : PySem.W.Frag} {mg : Str → Option Value} {ta : TA} (h : SndA K ta ms) : SndE K (fun σ H Q => ta σ H fun vs H1 => spX K mg np g gx vs H1 Q (WE W σ)) (mCall np g ms) ∧ SndEX K mg W (fun σ H Q => ta σ H fun vs H1 => spX K mg np g gx vs H1 Q (WE W σ)) (xCall np gx ms) := by
  refine ⟨?_, ?_⟩
  · intro σ H w s t Q r s' ok e kk
    simp only [mCall] at e
    split at e
    · cases e
    · rename_i rs sa e1
      split at e
      · rename_i hlen
        split at e
        · cases e
        · rename_i qs sb e2
          split at e
          · cases e
          · rename_i r' b e3
            cases e
            refine h σ H w s t _ rs sa ok e1 fun w1 H1 us t1 a1 ok1 st1 sl1 rel1 => ?_
            have l := ok.slen ok1
            have tN := ok.tN
            obtain ⟨w2, ok2, st2, ar, sl2, l2, _⟩ := argsT_ok (t0 := t) rs us qs sa sb w1 t ok1 rel1 e2 (Nat.le_refl _) (by rw [l]; exact tN)
            rw [l] at st2
            refine ⟨w2.F, w2.B, qs, sb.b, (RelRs.length rs us t rel1).symm.trans hlen, ok2.sub, fun p g e => (ok2.box p g e).1, ok2.nob, ar, .inl ⟨_, _, e3, fun F' B' H' y A rel => ?_⟩⟩
            refine call_back ok2 A rel fun w3 H3 y ok3 st3 rel3 => ?_
            rw [l2, l] at st3
            exact kk w3 H3 y (t1 + 1) t1 a1 (Nat.lt_succ_self _) ok3 ((st1.trans st2).trans (st3.mono a1)) (sl1.trans sl2) rel3
      · cases e
  · intro σ H w s t Q x s' ok e kk
    simp only [xCall] at e
    split at e
    · cases e
    · rename_i rs sa e1
      split at e
      · rename_i hlen
        split at e
        · cases e
        · rename_i qs sb e2
          split at e
          · cases e
          · rename_i x' b e3
            cases e
            refine h σ H w s t _ rs sa ok e1 fun w1 H1 us t1 a1 ok1 st1 sl1 rel1 => ?_
            have l := ok.slen ok1
            have tN := ok.tN
            obtain ⟨w2, ok2, st2, ar, sl2, l2, _⟩ := argsT_ok (t0 := t) rs us qs sa sb w1 t ok1 rel1 e2 (Nat.le_refl _) (by rw [l]; exact tN)
            rw [l] at st2
            refine ⟨w2.F, w2.B, qs, sb.b, (RelRs.length rs us t rel1).symm.trans hlen, ok2.sub, fun p g e => (ok2.box p g e).1, ok2.nob, ar, .inr ⟨_, _, e3, fun F' B' H' dd A xa => ?_⟩⟩
            obtain ⟨ok3, st3⟩ := after_plain ok2 A
            rw [l2, l] at st3
            exact kk _ H' dd t1 a1 ok3 ((st1.trans st2).trans (st3.mono a1)) xa
      · cases e
theorem xe_call (F : FnGX X.prog X.w X.K X.mg X.base k f fd ps (spX X.K X.mg np g gx)) (hr : Here X k) (tk : Takes X W) (hm : X.mg x = some (.ref f)) (hk : PySem.W.keepIn X.K (.ref f) = true) (hb : Binds X.K fd ps [])
    (ha : RA X (e :: es) ms) (hg : Gl X x := by rfl) (hdb : (x == ("__debug__" : Str)) = false := by decide) (he : starEach (e :: es) X.env = (false, eval e X.env) :: starEach es X.env := by rfl) (hpl : (backTo pos (starEach es X.env)).any (·.1) = false := by rfl) :
    REX X W (.Call (.Name x p) (e :: es) [] pos) (mCall np g ms) (xCall np gx ms) := by
  obtain ⟨ta, p1, s1⟩ := ha
  obtain ⟨c1, c2⟩ := callX_snd (np := np) (g := g) (gx := gx) (W := W) s1
  exact ⟨_, peg_callX F hr tk hg hm hk hb p1 hdb he hpl, c1, c2⟩
/-- by keywords alone -/
def xCallK0 (np : Nat) (gx : DX) (nk : Nat) (perm : List Nat) (mk : MA) : XM := fun s => match mk s with
  | .no => none
  | .ok zs s2 => if zs.length = nk then match argsT s2 zs with
    | none => none
    | some (q, s3) => if (perm.filterMap fun i => q[i]?).length = np then match gx (perm.filterMap fun i => q[i]?) s3.b with
      | none => none
      | some (x, b) => some (x, { s3 with b := b }) else none else none
theorem callKX_snd {K : PySem.W.Frag} {mg : Str → Option Value} {tk' : TA} {nk : Nat} {perm : List Nat} (hk : SndA K tk' mk) : SndE K (fun σ H Q => tk' σ H fun zs H1 => spX K mg np g gx (gP 0 nk perm [] zs) H1 Q (WE W σ)) (mCallK np g 0 nk perm mNil mk) ∧ SndEX K mg W (fun σ H Q => tk' σ H fun zs H1 => spX K mg np g gx (gP 0 nk perm [] zs) H1 Q (WE W σ)) (xCallK0 np gx nk perm mk) := by
  refine ⟨?_, ?_⟩
  · intro σ H w s t Q r s' ok e kk
    simp only [mCallK, mNil] at e
    split at e
    · cases e
    · rename_i zs sa2 e1k
      split at e
      · rename_i hc
        split at e
        · cases e
        · rename_i qs sb e2
          split at e
          · rename_i hlen
            split at e
            · cases e
            · rename_i r' b e3
              cases e
              rw [List.nil_append] at e2
              refine hk σ H w s t _ zs sa2 ok e1k fun w1 H1 vs t1 a1 ok1 st1 sl1 rel1 => ?_
              have l := ok.slen ok1
              have tN := ok.tN
              obtain ⟨w2, ok2, st2, ar, sl2, l2, _⟩ := argsT_ok (t0 := t) zs vs qs sa2 sb w1 t ok1 rel1 e2 (Nat.le_refl _) (by rw [l]; exact tN)
              rw [l] at st2
              have eg : gP 0 nk perm [] vs = perm.filterMap fun i => vs[i]? := by
                unfold gP
                rw [if_pos ⟨rfl, by rw [← RelRs.length zs vs t rel1]; exact hc.2⟩]
                rfl
              rw [eg]
              have ar2 := args_pick ar perm
              refine ⟨w2.F, w2.B, _, sb.b, (ArgsR.length _ _ ar2).symm.trans hlen, ok2.sub, fun p g e => (ok2.box p g e).1, ok2.nob, ar2, .inl ⟨_, _, e3, fun F' B' H' y A rel => ?_⟩⟩
              refine call_back ok2 A rel fun w3 H3 y ok3 st3 rel3 => ?_
              rw [l2, l] at st3
              exact kk w3 H3 y (t1 + 1) t1 a1 (Nat.lt_succ_self _) ok3 ((st1.trans st2).trans (st3.mono a1)) (sl1.trans sl2) rel3
          · cases e
      · cases e
  · intro σ H w s t Q x s' ok e kk
    simp only [xCallK0] at e
    split at e
    · cases e
    · rename_i zs sa2 e1k
      split at e
      · rename_i hc
        split at e
        · cases e
        · rename_i qs sb e2
          split at e
          · rename_i hlen
            split at e
            · cases e
            · rename_i x' b e3
              cases e
              refine hk σ H w s t _ zs sa2 ok e1k fun w1 H1 vs t1 a1 ok1 st1 sl1 rel1 => ?_
              have l := ok.slen ok1
              have tN := ok.tN
              obtain ⟨w2, ok2, st2, ar, sl2, l2, _⟩ := argsT_ok (t0 := t) zs vs qs sa2 sb w1 t ok1 rel1 e2 (Nat.le_refl _) (by rw [l]; exact tN)
              rw [l] at st2
              have eg : gP 0 nk perm [] vs = perm.filterMap fun i => vs[i]? := by
                unfold gP
                rw [if_pos ⟨rfl, by rw [← RelRs.length zs vs t rel1]; exact hc⟩]
                rfl
              rw [eg]
              have ar2 := args_pick ar perm
              refine ⟨w2.F, w2.B, _, sb.b, (ArgsR.length _ _ ar2).symm.trans hlen, ok2.sub, fun p g e => (ok2.box p g e).1, ok2.nob, ar2, .inr ⟨_, _, e3, fun F' B' H' dd A xa => ?_⟩⟩
              obtain ⟨ok3, st3⟩ := after_plain ok2 A
              rw [l2, l] at st3
              exact kk _ H' dd t1 a1 ok3 ((st1.trans st2).trans (st3.mono a1)) xa
          · cases e
      · cases e
theorem xe_callK0 {kws : List Keyword} {ks : List Str} {nk : Nat} {perm : List Nat} (F : FnGX X.prog X.w X.K X.mg X.base k f fd ps (spX X.K X.mg np g gx)) (hr : Here X k) (tk : Takes X W) (hm : X.mg x = some (.ref f)) (hk : PySem.W.keepIn X.K (.ref f) = true) (hb : KBinds X.K fd ps ks (gP 0 nk perm) (gP 0 nk perm))
    (hkw : RK X kws mk) (hall : (backToKw pos (keywordEach kws X.env)).all (·.1.isSome) = true := by rfl) (hks : (backToKw pos (keywordEach kws X.env)).filterMap (·.1) = ks := by rfl) (hg : Gl X x := by rfl)
    (hdb : (x == ("__debug__" : Str)) = false := by decide) (hpl : ((backTo pos (starEach [] X.env)).any (·.1) || (backToKw pos (keywordEach kws X.env)).any (·.1.isNone)) = false := by rfl) :
    REX X W (.Call (.Name x p) [] kws pos) (mCallK np g 0 nk perm mNil mk) (xCallK0 np gx nk perm mk) := by
  obtain ⟨tk', p2, s2⟩ := hkw
  obtain ⟨c1, c2⟩ := callKX_snd (np := np) (g := g) (gx := gx) (W := W) (nk := nk) (perm := perm) s2
  exact ⟨_, peg_callKX0 F hr tk hg hm hk hb p2 hall hks hdb hpl, c1, c2⟩
end
end Qz
namespace Qz
open PySem PySem.Spec L2
open PyProof.Rows hiding St
open PySem.W (fnOf findIn typeIn keepIn subIn hasDictIn exmOne codeIn clsIn)
/-! ## errors of the program: a class whose __init__ keeps the one thing that it is passed -/
/-- where the four names of __init__ stand -/
structure Spots where
  s1 : Pos
  s2 : Pos
  s3 : Pos
  s4 : Pos
  s5 : Pos
  s6 : Pos
def Spots.args (z : Spots) (fl : Str) : Arguments := { posonlyargs := [], args := [{ arg := "self", annotation := none, pos := z.s1 }, { arg := fl, annotation := none, pos := z.s2 }], vararg := none, kwonlyargs := [], kw_defaults := [], kwarg := none, defaults := [] }
def Spots.body (z : Spots) (fl : Str) : List Stmt := [.Assign [.Attribute (.Name "self" z.s3) fl z.s4] (.Name fl z.s5) z.s6]
def keepScope (fl : Str) : Scope := { kind := .function, names := [("self", .local), (fl, .local)], isGenerator := false, isCoroutine := false, more := [] }
/-- the class of the name cn at C, whose __init__ at f1 is written qn and keeps its one thing as fl -/
structure ErrTxt (K : PySem.W.Frag) (mg : Str → Option Value) (cn qn fl : Str) (C f1 : Addr) : Prop where
  one : fl = "given" ∨ fl = "error" ∨ fl = "limit"
  here : mg cn = some (.ref C)
  cls : ∃ nm q N bs bm sn sub ab col dd k0 k1 k2 k3 k5, K.lookup C = some (PySem.excClassObj nm q C N bs bm true sn sub ab col dd k0 k1 k2 k3 k5 "ValueError.__new__") ∧ PySem.HandSPX.refsVE bm = true
  sa : findIn K (.ref C) "__setattr__" = some (some (.builtin "object.__setattr__"))
  ga : findIn K (.ref C) "__getattribute__" = some (some (.builtin "BaseException.__getattribute__"))
  gg : findIn K (.ref C) "__getattr__" = some none
  noF : findIn K (.ref C) fl = some none
  ini : findIn K (.ref C) "__init__" = some (some (.ref f1))
  ityp : typeIn K (.ref f1) = some (.type "function")
  kept : keepIn K (.ref C) = true
  exc : subIn K (.ref C) (.type "BaseException") = some true
  typ : typeIn K (.ref C) = some (.type "type")
  dic : hasDictIn K C = true
  fn : ∃ (oc : Value) (od : Option Addr) (doc pm : Value) (an : Option Addr) (cdv ct : Value) (osl : Array (Option Value)) (z : Spots),
    K.lookup f1 = some ⟨oc, od, .func (fnOf "__init__" qn (z.args fl) (z.body fl) (keepScope fl) .none .none doc pm an cdv ct), osl⟩ ∧ codeIn K cdv qn = true
/-- what stands behind a call of the class: a new exception at e, its dict at d, all else as it was -/
structure Fresh (h h' : Heap) (e C d : Addr) (fl : Str) (v : Value) : Prop where
  keep : ∀ b o, h.get? b = some o → h'.get? b = some o
  new : h.objs.size ≤ e
  obj : ∃ oe vs, h'.get? e = some oe ∧ oe.cls = .ref C ∧ oe.dict = some d ∧ oe.data = .fields vs ∧ vs[1]? = some .none
  dnew : h.objs.size ≤ d
  dne : d ≠ e
  ns : h'.Ns1 d (fun y => if y = fl then some v else none)
section
variable {prog : Program} {w : World} {A : Around} {R : Result → Shared → Prop} {K : PySem.W.Frag} {mg : Str → Option Value} {C f1 : Addr} {cn qn fl : Str}
open PySem.W PySem.Calls PySem.HandSPX
theorem name_is {M : Model} {s : Shared} {name : Str} {scope : Scope} {L a : Addr} {cd : Value} {m : Str → Option Value} {x : Str} {pos : Pos} {v : Value} {Q : Value → Shared → Prop} {A : Around} {E : Value → Shared → Prop} (hn : s.heap.Ns L m) (hv : m x = some v)
    (hk : scope.kind = .function) (hl : (envOfC name scope L a cd).kindOf x = some .local) (hd : (x == ("__debug__" : Str)) = false) (h : Q v s) : wpAny M A (eval (.Name x pos) (envOfC name scope L a cd)) Q E s :=
  wpAny_Name (wpAny_loadName_local hk hl hn hv h) hd
/-- the body of __init__ run for a fresh exception at x -/
theorem ErrTxt.init (T : ErrTxt K mg cn qn fl C f1) {s : Shared} {x t0 : Addr} {v : Value} (X : K.In s.heap) (hlim : s.heap.NoLimit) (hx : s.heap.get? x = some (excO C t0)) (hnx : K.lookup x = none) (hroom : A.depth < recursionLimit)
    (hq : ∀ h' tk dx, (∀ b o, b ≠ x → s.heap.get? b = some o → h'.get? b = some o) → h'.get? x = some { cls := .ref C, dict := some dx, data := .fields #[.ref t0, .none, .none, .none, .bool false, .none] } → s.heap.objs.size ≤ dx → dx ≠ x →
      h'.Ns1 dx (fun y => if y = fl then some v else none) → R (.ok (.ret .none)) { s with heap := h', toks := tk }) :
    codeAny (model prog w) A (.call (.ref f1) ⟨[.ref x, v], []⟩) R s := by
  obtain ⟨oc, od, doc, pm, an, cdv, ct, osl, z, ho, hcd⟩ := T.fn
  obtain ⟨nm, q, N, bs, bm, sn, sub, ab, col, dd, k0, k1, k2, k3, k5, hC, hbm⟩ := T.cls
  have hcl : clsIn K C = some { name := nm, bases := bs, mro := .ref C :: bm, ns := N, qualname := q, hasDict := true, slotNames := sn, subclasses := sub, abstract := ab, collection := col, hasDel := false } := by
    unfold clsIn; rw [hC] <;> rfl
  have noF := T.noF
  have one := T.one
  have sa := T.sa
  clear T hC
  rcases one with rfl | rfl | rfl
  all_goals
    refine Att.call_fn (binds := [("self", .ref x), (_, v)]) X hlim ho hcd hroom (BindsTo.of_eq (by first | rfl | with_unfolding_all rfl)) (by first | rfl | decide | with_unfolding_all rfl) (fun s₁ IC => ?_) rfl rfl rfl
    obtain ⟨h₁, tk₁, rfl⟩ := IC.toInCall.same
    have k : ∀ b o, s.heap.get? b = some o → h₁.get? b = some o := IC.toInCall.keep
    have hn := IC.toInCall.ns
    have X₁ : K.In h₁ := X.keeps k
    have hx₁ := k _ _ hx
    show wpAny _ _ (execs _ _) _ _ _
    refine wpAny_execs_cons (plainObj_wpAny_Assign_Attribute ?_)
    refine name_is (v := v) hn (by first | rfl | with_unfolding_all rfl | kernel_rfl) (by rfl) (by rfl) (by decide) (name_is (v := .ref x) hn (by first | rfl | with_unfolding_all rfl | kernel_rfl) (by rfl) (by rfl) (by decide) ?_)
    refine set_plain X₁ (ox := excO C t0) (od := none) ⟨hx₁, rfl, rfl, trivial⟩ sa ?_
    refine exc_osa X₁ hx₁ hcl (show refsVE (.ref C :: bm) = true from hbm) rfl noF (fun h₃ tk₃ dx k₃ dn dne hx₃ hn₃ => ?_)
    show wpAny _ _ (execs _ _) _ _ _
    have lt : s.heap.objs.size < h₁.objs.size := hn.lt
    exact wpAny_execs_nil (hq h₃ tk₃ dx (fun b o hb e => k₃ b o hb (k b o e)) hx₃ (Nat.le_of_lt (Nat.lt_of_lt_of_le lt dn)) dne hn₃)
theorem ErrTxt.made (T : ErrTxt K mg cn qn fl C f1) {s : Shared} {v : Value} (X : K.In s.heap) (hlim : s.heap.NoLimit) (hroom : A.depth + 1 < recursionLimit)
    (hq : ∀ h' tk e d, Fresh s.heap h' e C d fl v → R (.ok (.ret (.ref e))) { s with heap := h', toks := tk }) :
    codeAny (model prog w) A (.call (.ref C) ⟨[v], []⟩) R s := by
  obtain ⟨nm, q, N, bs, bm, sn, sub, ab, col, dd, k0, k1, k2, k3, k5, hC, hbm⟩ := T.cls
  obtain ⟨hp, g, dr, tk, os⟩ := s
  have up : ∀ b o, hp.get? b = some o → ((hp.push (kdv_tup [v])).push (excO C hp.objs.size)).get? b = some o := fun b o e => Heap.get?_push_of_some _ (Heap.get?_push_of_some _ e)
  have old : ∀ b o, hp.get? b = some o → b < hp.objs.size := fun b o e => Heap.lt_size e
  have hnx : K.lookup (hp.objs.size + 1) = none := by
    cases e : K.lookup (hp.objs.size + 1) with
    | none => rfl
    | some o => exact absurd (Nat.lt_of_succ_lt (old _ o (X _ _ e))) (Nat.lt_irrefl _)
  refine call_own F.excBase_ValueError (fun X => refsVE_contains X bm hbm) (X _ _ hC) (looks_findIn X T.ini) (fun self => bind_fn X self T.ityp) (by rw [sizeLine_eq]; exact (by decide : 1 ≤ 16777216)) ?_
  refine T.init (s := ⟨(hp.push (kdv_tup [v])).push (excO C hp.objs.size), g, dr, tk, os⟩) (t0 := hp.objs.size) (X.keeps up) (hlim.keeps up) (by heap_get) hnx hroom fun h' tk' dx k' hx dn dne hns => ?_
  have dn' : hp.objs.size + 1 + 1 ≤ dx := by
    first
      | (simpa only [Heap.size_push] using dn)
      | exact dn
  exact ⟨rfl, hq h' tk' (hp.objs.size + 1) dx ⟨fun b o e => k' b o (Nat.ne_of_lt (Nat.lt_succ_of_lt (old b o e))) (up b o e), Nat.le_succ _, ⟨_, _, hx, rfl, rfl, rfl, rfl⟩, Nat.le_trans (Nat.le_add_right _ 2) dn', dne, hns⟩⟩
end
theorem lookup_one {fl : Str} {v : V} {v' : Value} (r : RelV v v') (y : Str) : RelO (List.lookup y [(fl, v)]) (if y = fl then some v' else none) := by
  by_cases h : y = fl
  · subst h
    rw [if_pos rfl, show List.lookup y [(y, v)] = some v by simp [List.lookup]]
    exact r
  · rw [if_neg h, show List.lookup y [(fl, v)] = none by simp [List.lookup, show (y == fl) = false by simpa using h]]
    trivial
section
variable {X : Cx} {C f1 : Addr} {cn qn fl : Str} {W : WX} {ms : MA}
/-- Cls(a), read -/
def tErr (C : Addr) (fl : Str) (ta : TA) : St → Hp → XK → Prop := fun σ H Q => ta σ H fun vs H1 => ∃ v, vs = [v] ∧ ∀ d, H1 d = none → Q (.ref C) (some d) (upd H1 d (.xd [(fl, v)]))
theorem pmk_err {a : Expr} {ta : TA} {p pos : Pos} {k : Nat} (T : ErrTxt X.K X.mg cn qn fl C f1) (hr : Room (k + 1) X.A) (ha : PA X [a] ta) (hg : Gl X cn) (hdb : (cn == ("__debug__" : Str)) = false)
    (he : starEach (a :: []) X.env = (false, eval a X.env) :: starEach [] X.env) (hpl : (backTo pos (starEach [] X.env)).any (·.1) = false) :
    PMk X (.Call (.Name cn p) [a] [] pos) (tErr C fl ta) := by
  intro pins s σ H Q I h
  refine wpAny_Call_Name_kw (ld_glob I hg T.here ?_ hdb)
  refine PySem.W.callWith_K (h₀ := X.base) I.ok.mod.kin T.kept (thn (ha.run pos pins s σ H _ I h) fun us s1 hh => ?_) he hpl
  obtain ⟨vs, H1, I1, r1, v, rfl, q1⟩ := hh
  refine ⟨I1.kIn, ?_⟩
  obtain ⟨v', rfl, rv⟩ : ∃ v', us = [v'] ∧ RelV v v' := by
    cases r1 with
    | cons rv rn => cases rn; exact ⟨_, rfl, rv⟩
  show wpAny _ _ (call (.ref C) [v']) _ _ _
  have hlim := I1.nolimit
  obtain ⟨hp, g, dr, tk, os⟩ := s1
  refine wpAny_call (T.made I1.kIn hlim (by have := hr.dp; omega) fun h' tk' e d M => ?_)
  show MkP X pins σ Q (.ref e) ⟨h', g, dr, tk', os⟩
  obtain ⟨oe, fv, hoe, hc, hd, hdat, h1⟩ := M.obj
  obtain ⟨G', g1, g2⟩ := restrict h' fun b => decide (b ≠ e)
  have gk : ∀ b, b ≠ e → G'.get? b = h'.get? b := fun b hb => g1 b (decide_eq_true hb)
  have ge : G'.get? e = none := g2 e (by simp)
  have lt : ∀ b o, hp.get? b = some o → b ≠ e := fun b o q => Nat.ne_of_lt (Nat.lt_of_lt_of_le (Heap.lt_size q) M.new)
  have ob : ObjOk X.prog X.w (upd H1 d (.xd [(fl, v)])) G' d (.xd [(fl, v)]) := ⟨_, M.ns.at (fun o q => (gk d M.dne).trans q), fun y => lookup_one rv y⟩
  have J : Inv X pins σ (upd H1 d (.xd [(fl, v)])) ⟨G', g, dr, tk', os⟩ := I1.laid (t' := tk') (fun b o q => (gk b (lt b o q)).trans (M.keep b o q)) M.dnew ob
  refine ⟨e, oe, fv, ⟨G', g, dr, tk', os⟩, _, .ref C, some d, rfl, J, fun b o q => ?_, ge, hoe, ⟨hc, hd⟩, hdat, h1, ?_, rfl, I1.bare, raises_own T.exc T.typ, q1 d (I1.hok.fresh M.dnew)⟩
  · have q' : G'.get? b = some o := q
    have hb : b ≠ e := fun hb => by rw [hb, ge] at q'; cases q'
    exact (gk b hb).symm.trans q'
  · rw [upd_ne (Ne.symm M.dne)]
    exact I1.hok.fresh M.new
def xRaise (cn fl : Str) (ms : MA) : XM := fun s => match ms s with
  | .no => none
  | .ok rs s1 => match takes s1 rs with
    | some ([x], s2) => some (⟨cn, fl, x⟩, s2)
    | _ => none
theorem xs_raise {a : Expr} {p pos pos2 : Pos} {k : Nat} (hc : X.calm = true) (T : ErrTxt X.K X.mg cn qn fl C f1) (hr : Here X (k + 1)) (tk : Takes X W) (ha : RA X [a] ms) (hg : Gl X cn := by rfl) (hdb : (cn == ("__debug__" : Str)) = false := by decide)
    (he : starEach (a :: []) X.env = (false, eval a X.env) :: starEach [] X.env := by rfl) (hpl : (backTo pos (starEach [] X.env)).any (·.1) = false := by rfl) :
    RSX X W (.Raise (some (.Call (.Name cn p) [a] [] pos)) none pos2) mNoS (xRaise cn fl ms) := by
  obtain ⟨ta, p1, s1⟩ := ha
  refine ⟨_, ps_raise hc tk (pmk_err T hr.rm p1 hg hdb he hpl), (fun _ _ _ _ _ _ _ _ e _ => nomatch e), ?_⟩
  intro σ H w s D x s' ok e kk
  simp only [xRaise] at e
  split at e
  · cases e
  · rename_i rs sa e1
    split at e
    · rename_i y sb e2
      cases e
      refine s1 σ H w s _ _ rs sa ok e1 fun w1 H1 us t1 a1 ok1 st1 sl1 rel1 => ?_
      have l := ok.slen ok1
      have tN := ok.tN
      obtain ⟨w2, ok2, st2, rep, sl2, l2⟩ := takes_ok (t0 := s.a.length) rs us _ sa s' w1 s.a.length ok1 rel1 e2 (Nat.le_refl _) (by rw [l]; exact tN)
      rw [l] at st2
      cases us with
      | nil => simp [RepL] at rep
      | cons v us =>
        cases us with
        | cons _ _ => simp [RepL] at rep
        | nil =>
          refine ⟨v, rfl, fun d hd => ?_⟩
          have ok3 := lay_ok (o := .xd [(fl, v)]) ok2 hd
          have st3 : Step s.a.length s.a.length w2 H1 (w2.lay d (.xd [(fl, v)])) (upd H1 d (.xd [(fl, v)])) := lay_step ok2 hd
          have hl : s'.a.length = s.a.length := l2.trans l
          have kk' := kk σ (((w2.lay d (.xd [(fl, v)])).drop s.a.length)) (upd H1 d (.xd [(fl, v)])) d
          rw [clsOf_of T.here] at kk'
          refine kk' (drop_ok ok3 hl) hl (((st1.trans st2).trans st3).trans drop_step) ⟨v, upd_same, ?_⟩
          simp only [RepL] at rep
          obtain ⟨_, _, ee, r0, _⟩ := rep
          cases ee
          exact Rep.mono st3.F _ _ r0
    · cases e
end
end Qz
namespace Qz
open PySem PySem.Spec L2
open PyProof.Rows hiding St
/-! ## try: .. except C as x: .. -/
section
variable (K : PySem.W.Frag) (i : Nat) (a dd : Addr) (x : Exc)
/-- the exception stands in slot i (which the state leaves out), its field at dd -/
def Caught (w : Wd) (σ : St) : Prop := σ[i]? = some (some (.ref a)) ∧ XAt K w.F x dd
def SndHE (te : TE) (m : ME) : Prop := ∀ (σ : St) (H : Hp) (w : Wd) (s : S) (t : Nat) (Q : VK) (r : R) (s' : S), OKs K w H σ s t → Caught K i a dd x w σ → m s = .ok r s' →
  (∀ w' H' y t' τ, t ≤ τ → τ < t' → OKs K w' H' σ s' t' → Step s.a.length t w H w' H' → Slotted s s' → RelR K w' H' σ s' τ r y → Q y H') → te σ H Q
def SndHA (ta : TA) (m : MA) : Prop := ∀ (σ : St) (H : Hp) (w : Wd) (s : S) (t : Nat) (Q : List V → Hp → Prop) (rs : List R) (s' : S), OKs K w H σ s t → Caught K i a dd x w σ → m s = .ok rs s' →
  (∀ w' H' xs t', t ≤ t' → OKs K w' H' σ s' t' → Step s.a.length t w H w' H' → Slotted s s' → RelRs K w' H' σ s' t' t rs xs → Q xs H') → ta σ H Q
def SndHS (ts : TS) (m : MS) : Prop := ∀ (σ : St) (H : Hp) (w : Wd) (s : S) (D : Ends) (f : Fl) (s' : S), OKs K w H σ s s.a.length → Caught K i a dd x w σ → m s = .ok f s' → EndsOk K D s.a.length w H f s' → ts D σ H
end
structure RHE (Y : Cx) (i : Nat) (a dd : Addr) (x : Exc) (e : Expr) (m : ME) : Prop where
  ex : ∃ te, PE Y e te ∧ SndHE Y.K i a dd x te m
structure RHA (Y : Cx) (i : Nat) (a dd : Addr) (x : Exc) (es : List Expr) (m : MA) : Prop where
  ex : ∃ ta, PA Y es ta ∧ SndHA Y.K i a dd x ta m
structure RHS (Y : Cx) (i : Nat) (a dd : Addr) (x : Exc) (st : Stmt) (m : MS) : Prop where
  ex : ∃ ts, PS Y st ts ∧ SndHS Y.K i a dd x ts m
structure RHSs (Y : Cx) (i : Nat) (a dd : Addr) (x : Exc) (st : List Stmt) (m : MS) : Prop where
  ex : ∃ ts, PSs Y st ts ∧ SndHS Y.K i a dd x ts m
/-- what the suite knows of the exception -/
structure Held (Y : Cx) (a dd C : Addr) : Prop where
  at_ : ∃ oe vs, (a, oe) ∈ Y.pn ∧ oe.cls = .ref C ∧ oe.dict = some dd ∧ oe.data = .fields vs
section
variable {Y : Cx} {i : Nat} {a dd C f1 : Addr} {x : Exc} {e : Expr} {es : List Expr} {st : Stmt} {sts : List Stmt} {m m1 m2 : ME} {ms : MA} {p q : MS} {pos : Pos} {cn qn fl : Str}
theorem Caught.on {K : PySem.W.Frag} {n t0 : Nat} {w w' : Wd} {H H' : Hp} {σ : St} (h : Caught K i a dd x w σ) (st : Step n t0 w H w' H') : Caught K i a dd x w' σ := ⟨h.1, h.2.mono st.F⟩
theorem RHE.of (h : RE Y e m) : RHE Y i a dd x e m := let ⟨te, p, s⟩ := h.ex; ⟨te, p, fun σ H w s0 t Q r s' ok _ e k => s σ H w s0 t Q r s' ok e k⟩
theorem RHA.of (h : RA Y es ms) : RHA Y i a dd x es ms := let ⟨te, p, s⟩ := h.ex; ⟨te, p, fun σ H w s0 t Q r s' ok _ e k => s σ H w s0 t Q r s' ok e k⟩
theorem RHS.of (h : RS Y st p) : RHS Y i a dd x st p := let ⟨te, p, s⟩ := h.ex; ⟨te, p, fun σ H w s0 D f s' ok _ e k => s σ H w s0 D f s' ok e k⟩
theorem RHSs.of (h : RSs Y sts p) : RHSs Y i a dd x sts p := let ⟨te, p, s⟩ := h.ex; ⟨te, p, fun σ H w s0 D f s' ok _ e k => s σ H w s0 D f s' ok e k⟩
theorem ha_nil : RHA Y i a dd x [] mNil := .of ra_nil
theorem ha_cons (h : RHE Y i a dd x e m) (hr : RHA Y i a dd x es ms) (hs : starEach (e :: es) Y.env = (false, eval e Y.env) :: starEach es Y.env := by rfl) : RHA Y i a dd x (e :: es) (mCons m ms) := by
  obtain ⟨te, h1, h2⟩ := h
  obtain ⟨ta, h3, h4⟩ := hr
  refine ⟨_, pa_cons h1 h3 hs, fun σ H w s t Q r s' ok ca e k => ?_⟩
  simp only [mCons] at e
  split at e
  · cases e
  · rename_i r1 s1 e1
    split at e
    · cases e
    · rename_i rs s2 e2
      cases e
      refine h2 σ H w s t _ r1 s1 ok ca e1 fun w1 H1 y t1 τ a1 a2 ok1 st1 sl1 rel1 => ?_
      refine h4 σ H1 w1 s1 t1 _ rs _ ok1 (ca.on st1) e2 fun w2 H2 xs t2 a3 ok2 st2 sl2 rel2 => ?_
      have l := ok.slen ok1
      have tN := ok.tN
      rw [l] at st2
      refine k w2 H2 (y :: xs) t2 (by omega) ok2 (st1.trans (st2.mono (by omega))) (sl1.trans sl2) ⟨y, xs, τ, rfl, a1, by omega, ?_, RelRs.lo rs xs rel2 (by omega)⟩
      exact RelR.keep ok1 rel1 (by rw [l]; exact st2) (by omega) (by omega) sl2
theorem he_data {rd : List V → Hp → VK → Prop} {f : List D → Option R} (hp : ∀ ta, PA Y es ta → PE Y e (fun σ H Q => ta σ H fun us H1 => rd us H1 Q)) (hr : RHA Y i a dd x es ms) (hm : MkS Y.K rd f) : RHE Y i a dd x e (mData ms f) := by
  obtain ⟨ta, h1, h2⟩ := hr
  refine ⟨_, hp ta h1, fun σ H w s t Q r s' ok ca e k => ?_⟩
  simp only [mData] at e
  split at e
  · cases e
  · rename_i rs s1 e1
    split at e
    · cases e
    · rename_i xs s2 e2
      split at e
      · cases e
      · rename_i r' e3
        cases e
        refine h2 σ H w s t _ rs s1 ok ca e1 fun w1 H1 us t1 a1 ok1 st1 sl1 rel1 => ?_
        have l := ok.slen ok1
        obtain ⟨w2, ok2, st2, rep, sl2, l2⟩ := takes_ok (t0 := t) rs us xs s1 s' w1 t ok1 rel1 e2 (Nat.le_refl _) (by rw [l]; exact ok.tN)
        refine hm w2 H1 σ s' t1 us xs r Q ok2 rep e3 fun w3 H3 z ok3 st3 rel3 => ?_
        rw [l] at st2
        rw [l2, l] at st3
        exact k w3 H3 z (t1 + 1) t1 a1 (Nat.lt_succ_self _) ok3 ((st1.trans st2).trans (st3.mono a1)) (sl1.trans sl2) rel3
theorem he_lst (h : RHA Y i a dd x es ms) : RHE Y i a dd x (.List es pos) (mLst ms) := he_data (fun ta h => pe_lst h) h mk_lst
theorem he_tup {x1} (h : RHA Y i a dd x es ms) : RHE Y i a dd x (.Tuple es x1 pos) (mTup ms) := he_data (fun ta h => pe_tup h) h mk_tup
theorem he_one {op} (h : RHE Y i a dd x e m) : RHE Y i a dd x (.BoolOp op [e] pos) m := let ⟨t, p, q⟩ := h.ex; ⟨t, pe_one p, q⟩
theorem he_and {a1 b : Expr} {rest : List Expr} (h : RHE Y i a dd x a1 m1) (hr : RHE Y i a dd x (.BoolOp .And (b :: rest) pos) m2) : RHE Y i a dd x (.BoolOp .And (a1 :: b :: rest) pos) (mAndV m1 m2) := by
  obtain ⟨t1, p1, h1⟩ := h
  obtain ⟨t2, p2, h2⟩ := hr
  refine ⟨_, pe_and p1 p2, fun σ H w s t Q r s' ok ca e k => ?_⟩
  simp only [mAndV] at e
  split at e
  · rename_i s1 e1
    refine h1 σ H w s t _ _ s1 ok ca e1 fun w1 H1 x t1 τ a1 a2 ok1 st1 sl1 rel1 => ?_
    simp only [RelR, Rep] at rel1
    refine ⟨true, rel1, iteT ?_⟩
    refine h2 σ H1 w1 s1 t1 _ r s' ok1 (ca.on st1) e fun w2 H2 y t2 τ2 b1 b2 ok2 st2 sl2 rel2 => ?_
    rw [ok.slen ok1] at st2
    exact k w2 H2 y t2 τ2 (by omega) b2 ok2 (st1.trans (st2.mono (by omega))) (sl1.trans sl2) rel2
  · rename_i s1 e1
    cases e
    refine h1 σ H w s t _ _ _ ok ca e1 fun w1 H1 x t1 τ a1 a2 ok1 st1 sl1 rel1 => ?_
    have rel2 := rel1
    simp only [RelR, Rep] at rel1
    subst rel1
    exact ⟨false, rfl, iteF (k w1 H1 _ t1 τ a1 a2 ok1 st1 sl1 rel2)⟩
  · cases e
/-- x.field -/
def mFld (fl : Str) (x : Exc) : ME := fun s => if x.fld = fl then .ok (.d x.v) s else .no
theorem he_fld {nx : Str} {p0 : Pos} (T : ErrTxt Y.K Y.mg cn qn fl C f1) (hh : Held Y a dd C) (hN : Y.N[i]? = some nx := by rfl) (hv : Vis Y.env.scope nx := by first | exact Or.inl rfl | exact Or.inr (Or.inl rfl) | exact Or.inr (Or.inr rfl)) (hd : (nx == ("__debug__" : Str)) = false := by decide)
    (hcd : (nx == ("__classdict__" : Str)) = false := by decide) (hb : attributeBase (.Name nx p0) fl Y.env (eval (.Name nx p0) Y.env) = eval (.Name nx p0) Y.env := by rfl) : RHE Y i a dd x (.Attribute (.Name nx p0) fl pos) (mFld fl x) := by
  refine ⟨fun σ H Q => tVar i σ H fun z H1 => z = .ref a ∧ ∃ v, H1 dd = some (.xd [(fl, v)]) ∧ Q v H1, ⟨fun pins s σ H Q I h => ?_⟩, fun σ H w s t Q r s' ok ca e k => ?_⟩
  · refine attr_of hb (thn ((pe_var hN hv hd hcd).run pins s σ H _ I h) fun u s1 hh1 => ?_)
    obtain ⟨z, H1, I1, rx, rfl, v, ea, q⟩ := hh1
    obtain rfl : u = Value.ref a := rx
    obtain ⟨oe, vs, hm, hc, hdict, hdat⟩ := hh.at_
    obtain ⟨ha, _⟩ := I1.pin (a, oe) (List.mem_append_left _ hm)
    have hx : ObjOk Y.prog Y.w H1 s1.heap dd (.xd [(fl, v)]) := I1.hok dd _ ea
    obtain ⟨mA, hns, hr⟩ := hx
    obtain ⟨od, ho, hl⟩ := lookIn_ns hns
    have l : List.lookup fl [(fl, v)] = some v := by simp [List.lookup]
    obtain ⟨u, hu, ru⟩ := RelO.some_of (v := v) (o := mA fl) (by rw [← l]; exact hr fl)
    have J : PySem.W.InstAt s1.heap a oe C (some od) := ⟨ha, hc, by unfold PySem.W.notCls; rw [hdat] <;> rfl, by rw [hdict]; exact ho⟩
    exact HandSPX.exc_get I1.kIn J T.ga T.gg T.exc (PySem.W.findObj_own T.dic T.noF rfl (by rw [hl, hu])) (handed_of ru) ⟨v, H1, I1.tok _, ru, q⟩
  · simp only [mFld] at e
    split at e
    · rename_i hf
      cases e
      obtain ⟨vv, hF, rep⟩ := ca.2
      refine ⟨.ref a, ca.1, rfl, vv, by rw [← hf]; exact ok.sub _ _ hF, ?_⟩
      exact k w H vv (t + 1) t (Nat.le_refl _) (Nat.lt_succ_self _) (ok.up (Nat.le_succ _)) .refl .refl (by simp only [RelR]; exact rep)
    · cases e
/-- isinstance(x, B), B a class of the program or a built-in one, that x's class lies under or not -/
structure IsI (K : PySem.W.Frag) (C : Addr) (c : Value) (b : Bool) : Prop where
  fd : PySem.W.findIn K (.ref C) "__class__" = some (some (.builtin "object.__class__"))
  sp : PySem.W.specialIn K (.builtin "object.__class__") "__get__" = some (some (.builtin "getset_descriptor.__get__"))
  tk : PySem.W.takesIn K (.builtin "object.__class__") = some true
  mo : PySem.W.mroIn K C (.type "object") = some true
  one : PySem.W.kitOne K (.ref C) c = some b
theorem he_isi {nx : Str} {p0 p1 : Pos} {ce : Expr} {cv : V} {c : Value} {b : Bool} (T : ErrTxt Y.K Y.mg cn qn fl C f1) (hh : Held Y a dd C) (hi : IsI Y.K C c b) (hce : PE Y ce (tC cv)) (hcv : ∀ u, RelV cv u → u = c) (hg : Gl Y "isinstance") (hm : Y.mg "isinstance" = none) (hN : Y.N[i]? = some nx := by rfl) (hv : Vis Y.env.scope nx := by first | exact Or.inl rfl | exact Or.inr (Or.inl rfl) | exact Or.inr (Or.inr rfl)) (hd : (nx == ("__debug__" : Str)) = false := by decide)
    (hcd : (nx == ("__classdict__" : Str)) = false := by decide) (he : starEach (.Name nx p0 :: ce :: []) Y.env = (false, eval (.Name nx p0) Y.env) :: starEach (ce :: []) Y.env := by rfl) (he2 : starEach (ce :: []) Y.env = (false, eval ce Y.env) :: starEach [] Y.env := by rfl) (hpl : (backTo pos (starEach (ce :: []) Y.env)).any (·.1) = false := by rfl) :
    RHE Y i a dd x (.Call (.Name "isinstance" p1) [.Name nx p0, ce] [] pos) (mC (.bool b)) := by
  have call : CallR Y (.builtin "isinstance") (fun vs H Q => vs = [.ref a, cv] ∧ (∃ v, H dd = some (.xd [(x.fld, v)])) ∧ Q (.bl b) H) := by
    intro pins s σ H xs us Q I rl ⟨e, ⟨v, ea⟩, q⟩
    subst e
    cases rl with
    | cons r1 rl =>
      cases rl with
      | cons r2 rl =>
        cases rl
        rename_i u1 u2
        obtain rfl : u1 = Value.ref a := r1
        obtain rfl := hcv _ r2
        obtain ⟨oe, vs, hmem, hc, hdict, hdat⟩ := hh.at_
        obtain ⟨ha, _⟩ := I.pin (a, oe) (List.mem_append_left _ hmem)
        have hx : ObjOk Y.prog Y.w H s.heap dd (.xd [(x.fld, v)]) := I.hok dd _ ea
        obtain ⟨mA, hns, hr⟩ := hx
        obtain ⟨od, ho, hl⟩ := lookIn_ns hns
        have J : PySem.W.InstAt s.heap a oe C (some od) := ⟨ha, hc, by unfold PySem.W.notCls; rw [hdat] <;> rfl, by rw [hdict]; exact ho⟩
        obtain ⟨nm, q', N, bs, bm, sn, sub, ab, col, dd', k0, k1, k2, k3, k5, hC, hbm⟩ := T.cls
        have hcl : (PySem.W.clsIn Y.K C).isSome = true := by unfold PySem.W.clsIn; rw [hC] <;> rfl
        refine PySem.W.kia_one (PySem.W.kitx_exc hcl T.ga T.gg T.exc hi.fd hi.sp hi.tk hi.mo) I.kIn J hi.one (by intro h; cases h) fun tk => ?_
        exact ⟨.bl b, H, I.tok _, rfl, q⟩
  refine ⟨_, pe_callB call hg hm (by decide +kernel) (pa_cons (pe_var hN hv hd hcd) (pa_cons hce pa_nil he2) he) (by decide) (by decide) he hpl, fun σ H w s t Q r s' ok ca e k => ?_⟩
  cases e
  obtain ⟨vv, hF, rep⟩ := ca.2
  refine ⟨.ref a, ca.1, rfl, ⟨vv, ok.sub _ _ hF⟩, ?_⟩
  exact k w H _ (t + 1) t (Nat.le_refl _) (Nat.lt_succ_self _) (ok.up (Nat.le_succ _)) .refl .refl (by simp only [RelR, Rep])
/-! statements of the suite -/
theorem hs_ret (h : RHE Y i a dd x e m) : RHS Y i a dd x (.Return (some e) pos) (mRet m) := by
  obtain ⟨t1, p1, s1⟩ := h
  refine ⟨_, ps_ret p1, ?_⟩
  intro σ H w s D f s' ok ca e k
  simp only [mRet] at e
  split at e
  · cases e
  · rename_i r sa e1
    cases e
    exact s1 σ H w s _ _ r _ ok ca e1 fun w1 H1 x t' τ a1 a2 ok1 st1 sl1 rel1 => k.rt r rfl σ w1 H1 x t' τ a1 a2 ok1 (ok.slen ok1) st1 rel1
theorem hss_one (h : RHS Y i a dd x st p) : RHSs Y i a dd x [st] p := by
  obtain ⟨ts, p1, s1⟩ := h
  exact ⟨_, pss_one p1, s1⟩
end
end Qz
namespace Qz
open PySem PySem.Spec L2
open PyProof.Rows hiding St
/-! ## the try itself -/
section
variable {K : PySem.W.Frag} {n t : Nat} {w : Wd} {H : Hp} {σ : St} {s : S} {i : Nat}
/-- a slot that the state leaves out may hold anything -/
theorem OKs.put (ok : OKs K w H σ s t) (h : s.a[i]? = some none) (z : Option V) : OKs K w H (σ.set i z) s t :=
  ⟨ok.sub, by rw [List.length_set]; exact ok.len, fun j q v h1 h2 => by
    by_cases e : i = j
    · subst e
      rw [h] at h1
      cases h1
      trivial
    · rw [List.getElem?_set_ne e] at h2
      exact ok.sl j q v h1 h2, ok.own, ok.tN, ok.box, ok.nob⟩
end
/-- what a suite that may raise is good for, told without its reading -/
def tAny (K : PySem.W.Frag) (mg : Str → Option Value) (m : MS) (mx : XM) (W : WX) : TS := fun D σ H => ∃ w s, OKs K w H σ s s.a.length ∧
  ((∃ f s', m s = .ok f s' ∧ EndsOk K D s.a.length w H f s') ∨
   (∃ x s', mx s = some (x, s') ∧ ∀ σ' w' H' dd, OKs K w' H' σ' s' s.a.length → s'.a.length = s.a.length → Step s.a.length s.a.length w H w' H' → XAt K w'.F x dd → W (clsOf mg x.cls) (some dd) σ' H'))
def tHand (K : PySem.W.Frag) (mg : Str → Option Value) (i : Nat) (cn : Str) (mh : Exc → MS) (a : Addr) (cls : Value) (d : Option Addr) : TS := fun D σ H => ∃ w s x dd f s', cls = clsOf mg x.cls ∧ d = some dd ∧ x.cls = cn ∧
  OKs K w H σ s s.a.length ∧ Caught K i a dd x w σ ∧ mh x s = .ok f s' ∧ EndsOk K D s.a.length w H f s'
def emptyAt (s : S) (i : Nat) : Bool := match s.a[i]? with
  | some none => true
  | _ => false
theorem of_empty {s : S} {i : Nat} (h : emptyAt s i = true) : s.a[i]? = some none := by
  unfold emptyAt at h
  split at h
  · assumption
  · cases h
/-- try: body except C as name: suite -/
def mTry (i : Nat) (cn : Str) (m : MS) (mx : XM) (mh : Exc → MS) : MS := fun s => match m s with
  | .ok f s1 => .ok f s1
  | .no => match mx s with
    | none => .no
    | some (x, s1) => if x.cls = cn ∧ emptyAt s1 i = true then match mh x s1 with
      | .ok f s2 => if emptyAt s2 i = true then .ok f s2 else .no
      | .no => .no else .no
section
variable {X : Cx} {i : Nat} {C f1 : Addr} {cn qn fl : Str} {body suite : List Stmt} {b0 : Stmt} {m : MS} {mx : XM} {mh : Exc → MS}
theorem rs_try {nx : Str} {np pos pos' : Pos} (T : ErrTxt X.K X.mg cn qn fl C f1) (hte : PySem.W.exmOne X.K (.ref C) (.ref C) = some true) (hst : X.stack = X.env :: X.outer) (hfr : X.env.frame = some X.env.locals) (nd : X.N.Nodup) (hN : X.N[i]? = some nx) (hk : X.env.kindOf nx = some .local) (hg : Gl X cn)
    (hb : ∀ (W : WX) (pn : List (Addr × Obj)) (xe : Value → Shared → Prop), Takes (X.tr pn xe) W → RSsX (X.tr pn xe) W body m mx)
    (hh : ∀ (a dd : Addr) (oe : Obj) (pn : List (Addr × Obj)) (x : Exc), Held (X.suite a ((a, oe) :: pn)) a dd C → x.cls = cn → RHSs (X.suite a ((a, oe) :: pn)) i a dd x (b0 :: suite) (mh x))
    (hdb : (cn == ("__debug__" : Str)) = false := by decide) : RS X (.Try body [.ExceptHandler (some (.Name cn np)) (some nx) (b0 :: suite) pos'] [] [] pos) (mTry i cn m mx mh) := by
  refine ⟨_, ps_try_as (i := i) (c := .ref C) (tb := tAny X.K X.mg m mx) (ts := tHand X.K X.mg i cn mh) (Wout := fun _ _ _ _ => False) hst hfr nd hN hk ⟨hg, hdb, .inl T.here⟩ takes0 (fun W pn xe tk _ => ?_) (fun a oe cls d pn hz hf => ?_), ?_⟩
  · obtain ⟨ts, p1, s1, x1⟩ := (hb W pn xe tk).ex
    refine ⟨fun pins s σ H D I h => p1.run pins s σ H D I ?_⟩
    obtain ⟨w, s0, ok, h⟩ := h
    rcases h with ⟨f, s', e, k⟩ | ⟨x, s', e, k⟩
    · exact s1 σ H w s0 D f s' ok e k
    · exact x1 σ H w s0 D x s' ok e k
  · refine ⟨fun pins s σ H D I h => ?_⟩
    obtain ⟨w, s0, x, dd, f, s', rfl, rfl, hc, ok, ca, e, k⟩ := h
    obtain ⟨vs, hv⟩ := hf
    obtain ⟨ts, p1, s1⟩ := (hh a dd oe pn x ⟨oe, vs, List.mem_cons_self, by rw [hz.1, hc, clsOf_of T.here], hz.2, hv⟩ hc).ex
    exact p1.run pins s σ H D I (s1 σ H w s0 D f s' ok ca e k)
  · intro σ H w s D f s' ok e k
    refine ⟨w, s, ok, ?_⟩
    simp only [mTry] at e
    split at e
    · rename_i f1 s1 e1
      cases e
      exact .inl ⟨_, _, e1, k⟩
    · rename_i e1
      split at e
      · cases e
      · rename_i x s1 e2
        split at e
        · rename_i hc0
          have hc : x.cls = cn ∧ s1.a[i]? = some none := ⟨hc0.1, of_empty hc0.2⟩
          split at e
          · rename_i f2 s2 e3
            split at e
            · rename_i hi0
              have hi := of_empty hi0
              cases e
              refine .inr ⟨x, s1, e2, fun σ' w' H' dd ok' l' st' xa => ?_⟩
              refine ⟨true, by rw [hc.1, clsOf_of T.here]; exact hte, fun _ a ha => ?_, fun q => Bool.noConfusion q⟩
              have len : i < σ'.length := by rw [ok'.len]; exact (List.getElem?_eq_some_iff.mp hc.2).1
              have ok2 : OKs X.K w' H' (σ'.set i (some (.ref a))) s1 s1.a.length := by rw [l']; exact ok'.put hc.2 _
              refine ⟨w', s1, x, dd, _, _, rfl, rfl, hc.1, ok2, ⟨by rw [List.getElem?_set_self len], xa⟩, e3, ?_⟩
              have k2 := k.after st'
              rw [← l'] at k2
              exact ⟨fun ef σ2 w2 H2 ok3 l3 st3 => k2.nx ef _ w2 H2 (ok3.put hi _) l3 st3, fun ef σ2 w2 H2 ok3 l3 st3 => k2.bk ef _ w2 H2 (ok3.put hi _) l3 st3, fun ef σ2 w2 H2 ok3 l3 st3 => k2.ct ef _ w2 H2 (ok3.put hi _) l3 st3, k2.rt⟩
            · cases e
          · cases e
        · cases e
end
end Qz
namespace Qz
open PySem PySem.Spec L2
open PyProof.Rows hiding St
/-! ## defs in which something is tried -/
theorem Here.tr {X : Cx} {k : Nat} (h : Here X k) (pn : List (Addr × Obj)) (xe : Value → Shared → Prop) : Here (X.tr pn xe) k := ⟨h.gd, h.sy, h.rm⟩
section
variable {P : Program} {w : World} {K : PySem.W.Frag} {mg : Str → Option Value} {base : Heap}
theorem fngt_of {x qual : Str} {st : Stmt} {f : Addr} {fd : FuncData} {N ps : List Str} {k : Nat} {m : MS} (F : Fun K x qual st f fd) (S : FnScope N ps (defScope st))
    (hb : ∀ (X : Cx), X.prog = P → X.w = w → X.K = K → X.mg = mg → X.base = base → X.N = N → X.env.scope = defScope st → X.calm = true → X.stack = X.env :: X.outer → X.env.frame = some X.env.locals → (∀ y, X.fn y = true) → (∀ e s, ¬ X.xe e s) → Here X k → RSs X (defBody st) m) :
    FnG P w K mg base (k + 1) f fd ps (spD K ps.length (runF N.length m)) := by
  obtain ⟨oc, od, kV, doc, pm, an, cdv, ct, osl, rfl, lk, hcd⟩ := F.ex
  refine ⟨fun vs H Q E ⟨_, _, _, _, _, _, hl, _⟩ => hl, fun A outer s H args us vs Q E g1 g2 hr e0 hbd r hsp => ?_⟩
  have hl : vs.length = ps.length := by obtain ⟨_, _, _, _, _, _, hl, _⟩ := hsp; exact hl
  have grow := fun b o e => (e0.bs b o e).1
  have KX : K.In s.heap := e0.mod.kin.keeps grow
  have lim : s.heap.NoLimit := e0.mod.nolimit.keeps grow
  have hkind : ∀ y ∈ ps.zip us, (defScope st).names.lookup y.1 = some .local ∨ ((defScope st).names.lookup y.1 = some .cell ∧ ((cellsFrom (s.heap.objs.size + 1) (defScope st).names []).lookup y.1).isSome = true) := by
    rintro ⟨n, v⟩ hy
    rcases S.par n (List.of_mem_zip hy).1 with q | q
    · exact .inl q
    · exact .inr ⟨q, PySem.W.cellsFrom_some _ _ _ (.inl q)⟩
  refine codeAny_call_function hr.depth (KX _ _ lk) rfl S.co S.gen rfl (PySem.W.codeRec_of KX hcd) (hbd _ _ _ _ ?_)
  refine wpAny_newFunctionEnv_cells S.kind hkind fun env he s1 x => ?_
  subst he
  refine ⟨lim.keeps x.toInCall.keep, codeAny_func ?_⟩
  obtain ⟨ts, p1, p2⟩ := (hb (cxOf CX0 P w K mg base N qual (defScope st) f cdv A outer s H E).nox rfl rfl rfl rfl rfl rfl rfl rfl rfl rfl (fun _ => rfl) (fun _ _ h => h) ⟨g1, g2, hr.deeper _⟩).ex
  have I : Inv (cxOf CX0 P w K mg base N qual (defScope st) f cdv A outer s H E) [] (L2.start N vs) H s1 := inv_start S hr.hd e0 hl r x
  refine wpAny_mono (p1.nox.run [] s1 _ H { nx := fun _ H' => Q .non H', rt := Q } I (body_ok (E := E) p2 hsp)) (fun fl s' hs => ?_) fun e s' hs => hs
  cases fl with
  | ret u => obtain ⟨v, σ', H', J, rv, q⟩ := hs; exact ⟨v, H', J.os, J.bare, J.base, J.hok, rv, q⟩
  | next => obtain ⟨σ', H', J, q⟩ := hs; exact ⟨.non, H', J.os, J.bare, J.base, J.hok, rfl, q⟩
  | brk => obtain ⟨_, _, _, q⟩ := hs; exact q.elim
  | cont => obtain ⟨_, _, _, q⟩ := hs; exact q.elim
theorem xss_nil {X : Cx} {W : WX} : RSsX X W [] mNext xNo := .of rss_nil
end
/-! ## what lies under what -/
section
variable {K : PySem.W.Frag} {C B : Addr}
theorem one_cls {t c : Value} (h : PySem.W.kitCls K t c = some true) : PySem.W.kitOne K t c = some true := by
  unfold PySem.W.kitOne
  split
  · rfl
  · exact h
theorem cls_ref {t : Value} (h2 : PySem.W.isClsIn K B = true) (h3 : PySem.W.typeIn K (.ref B) = some (.type "type")) (h4 : PySem.W.subIn K t (.ref B) = some true) : PySem.W.kitCls K t (.ref B) = some true := by
  have e2 : ((PySem.W.clsIn K B).isSome && PySem.W.typeIn K (.ref B) == some (.type "type")) = true := by
    rw [show (PySem.W.clsIn K B).isSome = true from h2, h3]
    rfl
  show (if ((PySem.W.clsIn K B).isSome && PySem.W.typeIn K (.ref B) == some (.type "type")) = true then PySem.W.subIn K t (.ref B) else none) = some true
  rw [if_pos e2, h4]
theorem cls_ty {t : Value} {T : String} (h : PySem.W.kitMeta T = true) (h4 : PySem.W.subIn K t (.type T) = some true) : PySem.W.kitCls K t (.type T) = some true := by
  show (if PySem.W.kitMeta T = true then PySem.W.subIn K t (.type T) else none) = some true
  rw [if_pos h, h4]
/-- except names its own class -/
theorem exm_own {cls : Value} (h1 : PySem.W.subIn K cls (.type "BaseException") = some true) (h0 : PySem.W.subIn K (.ref B) (.type "BaseException") = some true) (h2 : PySem.W.isClsIn K B = true) (h3 : PySem.W.typeIn K (.ref B) = some (.type "type")) (h4 : PySem.W.subIn K cls (.ref B) = some true) : PySem.W.exmOne K cls (.ref B) = some true := by
  have e1 : (PySem.W.subIn K (.ref B) (.type "BaseException") == some true) = true := by rw [h0]; rfl
  have e2 : ((PySem.W.clsIn K B).isSome && PySem.W.typeIn K (.ref B) == some (.type "type")) = true := by
    rw [show (PySem.W.clsIn K B).isSome = true from h2, h3]
    rfl
  show (if (PySem.W.subIn K (.ref B) (.type "BaseException") == some true) = true then (if ((PySem.W.clsIn K B).isSome && PySem.W.typeIn K (.ref B) == some (.type "type")) = true then PySem.W.subIn K cls (.ref B) else none) else none) = some true
  rw [if_pos e1, if_pos e2]
  exact h4
end
end Qz
namespace Qz
open PySem PySem.Spec L2
open PyProof.Rows hiding St
/-! ## a dict is no text -/
theorem str_no_dict (b : Str) (u : Tok) (l : Addr) (c : Value) (es : Array DictEntry) (n : Nat) (dd : Option Addr) (sl : Array (Option Value)) :
    Meets (Builtin.«str.__eq__» { pos := [Value.str b u, Value.ref l] }) fun _ R s => s.heap.get? l = some { cls := c, dict := dd, data := .dict es n, slots := sl } ∧ R (.ok (.ret .notImplemented)) s := by
  refine Meets.of_wp fun prog w A R s h => ?_
  obtain ⟨hp, g, d, tk, os⟩ := s
  obtain ⟨hl, h⟩ := h
  refine wpAny_bind ?_
  repeat first
    | refine wpAny_ite_false rfl ?_
    | refine wpAny_pure ?_
    | refine wpAny_bind ?_
    | refine wpAny_load hl ?_
  exact wpAny_rule (wpAny_pure ⟨_, rfl, h⟩)
theorem dict_no_str (b : Str) (u : Tok) (l : Addr) (es : Array DictEntry) (n : Nat) (dd : Option Addr) (sl : Array (Option Value)) :
    Meets (Builtin.«dict.__eq__» { pos := [Value.ref l, Value.str b u] }) fun _ R s => s.heap.get? l = some { cls := .type "dict", dict := dd, data := .dict es n, slots := sl } ∧ R (.ok (.ret .notImplemented)) s := by
  refine Meets.of_wp fun prog w A R s h => ?_
  obtain ⟨hp, g, d, tk, os⟩ := s
  obtain ⟨hl, h⟩ := h
  have f1 := F.sub_str_dict
  refine wpAny_bind ?_
  repeat first
    | refine wpAny_ite_false rfl ?_
    | refine wpAny_pure ?_
    | refine wpAny_bind ?_
    | refine wpAny_of_eq f1 ?_
  exact wpAny_rule (wpAny_pure ⟨_, rfl, h⟩)
theorem dict_str {A : Around} {s : Shared} {l : Addr} {es : Array DictEntry} {n : Nat} {dd : Option Addr} {sl : Array (Option Value)} (b : Str) (u : Tok) (ho : s.heap.get? l = some { cls := .type "dict", dict := dd, data := .dict es n, slots := sl }) (hu : A.units < cLine) : SeqAt.EqAt A s (.str b u) (.ref l) false := by
  have rc : SeqAt.RcAt A s (.str b u) (.ref l) false := fun prog w E Q h =>
    SeqAt.rc_eq_decline_or (typeIs_str s b u) ⟨_, ho, rfl⟩ (by decide) F.sub_dict_str F.slot_str_eq F.slot_dict_eq_refl
      (fun x hq => call_meets F.slot_str_eq (typeIs_str s b u) F.entry_str_eq (F.args_str_eq_2 (.str b u) (.ref l)) (str_no_dict b u l _ es n dd sl) ⟨ho, hq⟩)
      (fun x hq => call_meets F.slot_dict_eq_refl ⟨_, ho, rfl⟩ F.entry_dict_eq (F.args_dict_eq_2 (.ref l) (.str b u)) (dict_no_str b u l es n dd sl) ⟨ho, hq⟩)
      (fun x hq => wpAny_of_eq rfl hq) (.inr hu) h
  exact fun prog w E Q h => wpAny_holding (wpAny_ite_split (fun hab => absurd (eq_of_beq hab) fun a => nomatch a) fun x => wpAny_bind (rc prog w E (fun a s' => wpAny (model prog w) A (truthOfDropped a) Q E s') (wpAny_truthy_bool h)))
/-! ## in a tuple of texts of the module: a dict is not there -/
def dInX (ws : List Str) (x : D) : Option R := match x with
  | .dict _ => some (.d (.bool false))
  | x => dInK ws x
def dNinX (ws : List Str) (x : D) : Option R := match x with
  | .dict _ => some (.d (.bool true))
  | x => dNinK ws x
def isDk (H : Hp) (x : V) : Prop := ∃ a ys, x = .ref a ∧ H a = some (.dK ys)
def rInX (K : PySem.W.Frag) : R2 := fun x y H Q => rInS K x y H Q ∨ (isDk H x ∧ (∃ b, ∃ ws : List Str, y = .ref b ∧ SqT K H b (ws.map V.str)) ∧ Q (.bl false) H)
def rNinX (K : PySem.W.Frag) : R2 := fun x y H Q => rNinS K x y H Q ∨ (isDk H x ∧ (∃ b, ∃ ws : List Str, y = .ref b ∧ SqT K H b (ws.map V.str)) ∧ Q (.bl true) H)
section
variable {X : Cx}
theorem strs_of : ∀ {ws : List Str} {its : List Value}, Vals (ws.map V.str) its → ∀ y ∈ its, ∃ b u, y = .str b u
  | [], _, h, y, hy => by cases h; simp at hy
  | w :: ws, _, h, y, hy => by
    cases h with
    | cons h1 h2 =>
      rcases List.mem_cons.mp hy with rfl | hy
      · obtain ⟨t, e⟩ := h1
        exact ⟨w, t, e⟩
      · exact strs_of h2 y hy
theorem noDict {pins : List (Addr × Obj)} {s : Shared} {σ : St} {H : Hp} {A : Around} (I : L2.Inv X pins σ H s) {a b : Addr} {ys : List (Key × V)} {ws : List Str} (ha : H a = some (.dK ys)) (hb : SqT X.K H b (ws.map V.str)) (hu : A.units + 65 < cLine) :
    ∃ its : Array Value, s.heap.IsTuple b its ∧ ∀ y ∈ its, SeqAt.EqAt A s y (.ref a) false := by
  obtain ⟨its, rv, p, hz⟩ := I.tuple hb
  refine ⟨its.toArray, p, fun y hy => ?_⟩
  obtain ⟨t, u, rfl⟩ := strs_of rv y (by simpa using hy)
  obtain ⟨_, hne, vs, kv, o, es, ep, ho, hex, hd, _⟩ := dk_of I.hok ha
  obtain ⟨cls, dict, data, slots⟩ := o
  obtain rfl : cls = .type "dict" := hex.1
  obtain rfl : data = .dict es ep := hd
  exact dict_str t u ho (by omega)
theorem any_false {its : Array Value} : (its.any fun _ => false) = false := by simp
theorem op_inX (hu : X.A.units + 66 < cLine) (hu1 : X.A.in1.units + 65 < cLine) : OpR X (compareOp .In) (rInX X.K) := by
  rintro pins s σ H x y v u Q I rx ry (h | ⟨⟨a, ys, rfl, ha⟩, ⟨b, ws, rfl, hb⟩, q⟩)
  · exact op_inS (by omega) pins s σ H x y v u Q I rx ry h
  · obtain rfl : v = .ref a := rx
    obtain rfl : u = .ref b := ry
    obtain ⟨its, p, e⟩ := noDict (A := X.A.in1) I ha hb hu1
    refine SeqAt.in_tupleAt (fun _ => false) p e ?_
    rw [any_false]
    exact ⟨.bl _, H, I, rfl, q⟩
theorem op_ninX (hu : X.A.units + 66 < cLine) (hu1 : X.A.in1.units + 65 < cLine) : OpR X (compareOp .NotIn) (rNinX X.K) := by
  rintro pins s σ H x y v u Q I rx ry (h | ⟨⟨a, ys, rfl, ha⟩, ⟨b, ws, rfl, hb⟩, q⟩)
  · exact op_ninS (by omega) pins s σ H x y v u Q I rx ry h
  · obtain rfl : v = .ref a := rx
    obtain rfl : u = .ref b := ry
    obtain ⟨its, p, e⟩ := noDict (A := X.A.in1) I ha hb hu1
    refine SeqAt.notIn_tupleAt (fun _ => false) p e ?_
    rw [any_false]
    exact ⟨.bl _, H, I, rfl, q⟩
end
section
variable {K : PySem.W.Frag} {a : Addr} {ws : List Str} {t1 : TE} {m1 : ME}
theorem Vw.dk {F H : Hp} {x : D} {u : V} {kvs : List (D × D)} (sub : Same F H) (h : Vw K F H (.dict kvs) u) : isDk H u := by
  rcases h with h | ⟨a, xs, ds, e, _⟩ | ⟨a, ys, kvs', e, rfl, h1, _⟩
  · simp only [Rep] at h
    obtain ⟨a, xs, rfl, h1, _⟩ := h
    exact ⟨a, xs, rfl, sub _ _ h1⟩
  · cases e
  · exact ⟨a, ys, rfl, h1⟩
theorem inX_snd (hq : ∀ H, SqT K H a (ws.map V.str)) (s1 : SndE K t1 m1) : SndE K (tOp (rInX K) t1 (tC (.ref a))) (mUn (dInX ws) m1) := by
  intro σ H w s t Q r s' ok e k
  simp only [mUn] at e
  split at e
  · cases e
  · rename_i r1 sa e1
    split at e
    · cases e
    · rename_i y e2
      split at e
      · cases e
      · rename_i r' e3
        cases e
        refine s1 σ H w s t _ r1 _ ok e1 fun w1 H1 u t1' τ1 a1 a2 ok1 st1 sl1 rel1 => ?_
        have hy := RelR.view ok1 rel1 e2
        unfold dInX at e3
        split at e3
        · cases e3
          refine .inr ⟨Vw.dk (x := .none) ok1.sub hy, ⟨a, ws, rfl, hq H1⟩, ?_⟩
          exact k w1 H1 _ t1' τ1 a1 a2 ok1 st1 sl1 (by simp only [RelR, Rep])
        · unfold dInK dInS at e3
          split at e3
          · rename_i hc
            simp only [eqOk, Bool.and_eq_true, Bool.not_eq_true'] at hc
            obtain ⟨⟨⟨q1, q2⟩, q3⟩, q4⟩ := hc
            cases e3
            refine .inl ⟨_, _, _, hy.dp ok1.sub q1, .tup (hq H1) (dpAll_strs ws), .inr rfl, q3, q4, ?_⟩
            exact k w1 H1 _ t1' τ1 a1 a2 ok1 st1 sl1 (by simp only [RelR, Rep])
          · cases e3
theorem ninX_snd (hq : ∀ H, SqT K H a (ws.map V.str)) (s1 : SndE K t1 m1) : SndE K (tOp (rNinX K) t1 (tC (.ref a))) (mUn (dNinX ws) m1) := by
  intro σ H w s t Q r s' ok e k
  simp only [mUn] at e
  split at e
  · cases e
  · rename_i r1 sa e1
    split at e
    · cases e
    · rename_i y e2
      split at e
      · cases e
      · rename_i r' e3
        cases e
        refine s1 σ H w s t _ r1 _ ok e1 fun w1 H1 u t1' τ1 a1 a2 ok1 st1 sl1 rel1 => ?_
        have hy := RelR.view ok1 rel1 e2
        unfold dNinX at e3
        split at e3
        · cases e3
          refine .inr ⟨Vw.dk (x := .none) ok1.sub hy, ⟨a, ws, rfl, hq H1⟩, ?_⟩
          exact k w1 H1 _ t1' τ1 a1 a2 ok1 st1 sl1 (by simp only [RelR, Rep])
        · unfold dNinK dNinS at e3
          split at e3
          · rename_i hc
            simp only [eqOk, Bool.and_eq_true, Bool.not_eq_true'] at hc
            obtain ⟨⟨⟨q1, q2⟩, q3⟩, q4⟩ := hc
            cases e3
            refine .inl ⟨_, _, _, hy.dp ok1.sub q1, .tup (hq H1) (dpAll_strs ws), .inr rfl, q3, q4, ?_⟩
            exact k w1 H1 _ t1' τ1 a1 a2 ok1 st1 sl1 (by simp only [RelR, Rep])
          · cases e3
end
section
variable {X : Cx} {i : Expr} {m1 : ME} {x : Str} {ws : List Str} {p pos : Pos} {n : Nat}
theorem o_inX (h : Here X n) : OpR X (compareOp .In) (rInX X.K) := op_inX (by have := h.un; omega) (by have := h.un; show X.A.units + 1 + 65 < cLine; omega)
theorem o_ninX (h : Here X n) : OpR X (compareOp .NotIn) (rNinX X.K) := op_ninX (by have := h.un; omega) (by have := h.un; show X.A.units + 1 + 65 < cLine; omega)
theorem re_inX (hr : Here X n) (ht : ModT X.K X.mg x ws) (ha : RE X i m1) (hg : Gl X x := by rfl) (hd : (x == ("__debug__" : Str)) = false := by decide) (hb : behindInMarks .In (.Name x p) = false := by rfl) : RE X (.Compare i [.In] [.Name x p] pos) (mUn (dInX ws) m1) := by
  obtain ⟨a, h1, h2⟩ := ht.at
  obtain ⟨t1, p1, s1⟩ := ha
  exact ⟨_, pe_cmpR (o_inX hr) p1 (pe_glob (v := .ref a) hg h1 rfl hd) hb, inX_snd h2 s1⟩
theorem re_ninX (hr : Here X n) (ht : ModT X.K X.mg x ws) (ha : RE X i m1) (hg : Gl X x := by rfl) (hd : (x == ("__debug__" : Str)) = false := by decide) (hb : behindInMarks .NotIn (.Name x p) = false := by rfl) : RE X (.Compare i [.NotIn] [.Name x p] pos) (mUn (dNinX ws) m1) := by
  obtain ⟨a, h1, h2⟩ := ht.at
  obtain ⟨t1, p1, s1⟩ := ha
  exact ⟨_, pe_cmpR (o_ninX hr) p1 (pe_glob (v := .ref a) hg h1 rfl hd) hb, ninX_snd h2 s1⟩
theorem rt_inX (hr : Here X n) (ht : ModT X.K X.mg x ws) (ha : RE X i m1) (hg : Gl X x := by rfl) (hd : (x == ("__debug__" : Str)) = false := by decide) (hb : behindInMarks .In (.Name x p) = false := by rfl) : RT X (.Compare i [.In] [.Name x p] pos) (mB (mUn (dInX ws) m1)) := by
  obtain ⟨a, h1, h2⟩ := ht.at
  obtain ⟨t1, p1, s1⟩ := ha
  exact ⟨_, pt_cmpR (o_inX hr) p1 (pe_glob (v := .ref a) hg h1 rfl hd) hb, b_ok (inX_snd h2 s1)⟩
theorem rt_ninX (hr : Here X n) (ht : ModT X.K X.mg x ws) (ha : RE X i m1) (hg : Gl X x := by rfl) (hd : (x == ("__debug__" : Str)) = false := by decide) (hb : behindInMarks .NotIn (.Name x p) = false := by rfl) : RT X (.Compare i [.NotIn] [.Name x p] pos) (mB (mUn (dNinX ws) m1)) := by
  obtain ⟨a, h1, h2⟩ := ht.at
  obtain ⟨t1, p1, s1⟩ := ha
  exact ⟨_, pt_cmpR (o_ninX hr) p1 (pe_glob (v := .ref a) hg h1 rfl hd) hb, b_ok (ninX_snd h2 s1)⟩
end
end Qz
namespace Qz
open PySem PySem.Spec L2
open PyProof.Rows hiding St
/-! ## slices of texts -/
def dCutS (x : D) (lo hi : Option Int) : Option R := match x with
  | .str z => if z.length ≤ sizeLine then some (.d (.str (cutS z lo hi))) else none
  | _ => none
def mCutS (m : ME) (lo hi : Option ME) : ME := fun s => match m s with
  | .no => .no
  | .ok r s1 => match mPart lo s1 with
    | .no => .no
    | .ok l s2 => match mPart hi s2 with
      | .no => .no
      | .ok h s3 => match view s3 r with
        | none => .no
        | some x => match dCutS x l h with
          | none => .no
          | some r' => .ok r' s3
section
variable {X : Cx} {a : Expr} {m1 : ME} {pos : Pos}
theorem re_cutS {lo hi : Option Expr} {ml mh : Option ME} {p2 : Pos} (he : RE X a m1) (hl : RO X lo ml) (hh : RO X hi mh) : RE X (.Subscript a (.Slice lo hi none p2) pos) (mCutS m1 ml mh) := by
  obtain ⟨t1, p1, h1⟩ := he
  obtain ⟨tl, pl, h2⟩ := hl
  obtain ⟨th, ph, h3⟩ := hh
  refine ⟨_, pe_slice sl_str p1 pl ph, fun σ H w s t Q r s' ok e k => ?_⟩
  simp only [mCutS] at e
  split at e
  · cases e
  · rename_i r1 s1 e1
    split at e
    · cases e
    · rename_i l s2 e2
      split at e
      · cases e
      · rename_i hv s3 e3
        split at e
        · cases e
        · rename_i x e4
          split at e
          · cases e
          · rename_i r' e5
            cases e
            refine h1 σ H w s t _ r1 s1 ok e1 fun w1 H1 u t1 τ1 a1 a2 ok1 st1 sl1 rel1 => ?_
            refine h2 σ H1 w1 s1 t1 _ l s2 ok1 e2 fun w2 H2 t2 b1 ok2 st2 sl2 => ?_
            refine h3 σ H2 w2 s2 t2 _ hv _ ok2 e3 fun w3 H3 t3 c1 ok3 st3 sl3 => ?_
            have l1 := ok.slen ok1
            have l2 := ok1.slen ok2
            have l3 := ok.slen ok3
            have tN := ok.tN
            rw [l2] at st3
            have st23 := st2.trans (st3.mono b1)
            have rel1' := RelR.keep ok1 rel1 st23 (by omega) (by omega) (sl2.trans sl3)
            have vw := RelR.view ok3 rel1' e4
            rw [l1] at st23
            have st := st1.trans (st23.mono (by omega))
            have sl := sl1.trans (sl2.trans sl3)
            unfold dCutS at e5
            split at e5
            · rename_i z
              split at e5
              · rename_i hz
                cases e5
                exact ⟨z, vw.str, hz, k w3 H3 _ (t3 + 1) t3 (by omega) (Nat.lt_succ_self _) (ok3.up (Nat.le_succ _)) st sl (by simp only [RelR, Rep])⟩
              · cases e5
            · cases e5
end
end Qz
namespace Qz
open PySem PySem.Spec L2
open PyProof.Rows hiding St
/-! ## what is done with a call that may raise -/
section
variable {X : Cx} {W : WX} {e a b : Expr} {es : List Expr} {ms : MA} {m1 m2 : ME} {mx : XM} {x : Str} {p pos : Pos} {id : String} {rd : List V → Hp → VK → Prop} {f : List D → Option R}
theorem xe_blt (hc : CallR X (.builtin id) rd) (hf : BltS X.K rd f) (hm : X.mg x = none) (hv : bootBuiltins x = some (.builtin id)) (ha : RAX X W (e :: es) ms mx) (hg : Gl X x := by rfl) (hn : x ≠ "__name__" := by decide) (hdb : (x == ("__debug__" : Str)) = false := by decide)
    (he : starEach (e :: es) X.env = (false, eval e X.env) :: starEach es X.env := by rfl) (hpl : (backTo pos (starEach es X.env)).any (·.1) = false := by rfl) : REX X W (.Call (.Name x p) (e :: es) [] pos) (mBlt f ms) mx := by
  obtain ⟨ta, p1, s1, x1⟩ := ha
  exact ⟨_, pe_callB hc hg hm hv p1 hn hdb he hpl, blt_snd s1 hf, fun σ H w s t Q y s' ok e k => x1 σ H w s t _ y s' ok e k⟩
theorem xe_len (hm : X.mg "len" = none) (ha : RAX X W [e] ms mx) (hg : Gl X "len" := by rfl) (he : starEach [e] X.env = (false, eval e X.env) :: starEach [] X.env := by rfl) : REX X W (.Call (.Name "len" p) [e] [] pos) (mBlt fLen ms) mx := xe_blt c_len s_len hm PySem.boot_len ha hg (by decide) (by decide) he rfl
/-- a comparison whose first side may raise -/
theorem xe_cmp {op : CmpOp} {r2 : R2} {g : D → D → Option R} (ho : OpR X (compareOp op) r2) (hf : OpS X.K r2 g) (ha : REX X W a m1 mx) (hb : RE X b m2) (hm : behindInMarks op b = false) : REX X W (.Compare a [op] [b] pos) (mOp g m1 m2) mx := by
  obtain ⟨t1, p1, h1, x1⟩ := ha
  obtain ⟨t2, p2, h2⟩ := hb
  exact ⟨_, pe_cmpR ho p1 p2 hm, op2_ok h1 h2 hf, fun σ H w s t Q y s' ok e k => x1 σ H w s t _ y s' ok e k⟩
end
end Qz
namespace Qz
open PySem PySem.Spec L2
open PyProof.Rows hiding St
/-! ## a number is added to a name, or taken off it -/
def mAug (f : Int → Int → Int) (i : Nat) (m : ME) : MS := fun s => match s.a[i]? with
  | some (some (.d (.int x))) => match m s with
    | .ok (.d (.int y)) s1 => match s1.a[i]? with
      | some (some (.d (.int x'))) => if x' = x then match store i s1 (.d (.int (f x y))) with
        | some s2 => .ok .nx s2
        | none => .no else .no
      | _ => .no
    | _ => .no
  | _ => .no
section
variable {X : Cx} {e : Expr} {m : ME} {pos pos' : Pos}
theorem rs_augI {op : Operator} {f : Int → Int → Int} {i : Nat} {x : Str} (hp : PIp X op (ipI f)) (hN : X.N.Nodup) (hi : X.N[i]? = some x) (hx : Loc X.env.scope x) (he : RE X e m) (hf : X.fn x = true ∨ X.env.scope.names.lookup x = some .local) : RS X (.AugAssign (.Name x pos') op e pos) (mAug f i m) := by
  obtain ⟨t1, p1, s1⟩ := he
  refine ⟨_, ps_aug hN hi hx p1 hp hf, fun σ H w s D fl s' ok e k => ?_⟩
  simp only [mAug] at e
  split at e
  · rename_i a ea
    split at e
    · rename_i b sa e1
      split at e
      · rename_i a' ea'
        split at e
        · rename_i haa
          split at e
          · rename_i s2 e2
            cases e
            have il := (List.getElem?_eq_some_iff.mp ea).1
            obtain ⟨v, hv⟩ : ∃ v, σ[i]? = some v := ⟨σ[i]'(by rw [ok.len]; exact il), by simp [ok.len, il]⟩
            obtain ⟨u, rfl, r⟩ := ok.sl i _ _ ea hv
            simp only [Rep] at r
            subst r
            refine ⟨_, hv, s1 σ H w s _ _ _ sa ok e1 fun w1 H1 y t' τ a1 a2 ok1 st1 sl1 rel1 => ?_⟩
            simp only [RelR, Rep] at rel1
            subst rel1
            have hl := ok.slen ok1
            have rel2 : RelR X.K w1 H1 σ sa τ (.d (.int (f a b))) (.int (f a b)) := by simp only [RelR, Rep]
            obtain ⟨w2, ok2, l2, st2⟩ := store_fin ok1 hl a1 rel2 e2
            exact ⟨a, b, rfl, rfl, k.nx rfl _ w2 H1 ok2 l2 (st1.trans st2)⟩
          · cases e
        · cases e
      · cases e
    · cases e
  · cases e
theorem rs_addI {i : Nat} {x : Str} (hN : X.N.Nodup) (hi : X.N[i]? = some x) (hx : Loc X.env.scope x) (he : RE X e m) (hf : X.fn x = true ∨ X.env.scope.names.lookup x = some .local) : RS X (.AugAssign (.Name x pos') .Add e pos) (mAug (fun a b => a + b) i m) := rs_augI ip_add hN hi hx he hf
theorem rs_subI {i : Nat} {x : Str} (hN : X.N.Nodup) (hi : X.N[i]? = some x) (hx : Loc X.env.scope x) (he : RE X e m) (hf : X.fn x = true ∨ X.env.scope.names.lookup x = some .local) : RS X (.AugAssign (.Name x pos') .Sub e pos) (mAug (fun a b => a - b) i m) := rs_augI ip_sub hN hi hx he hf
end
end Qz
namespace Qz
open PySem PySem.Spec L2
open PyProof.Rows hiding St
/-! ## == with a constant of the module that is a tuple of data -/
/-- the name stands for data that the module made -/
def ModD (K : PySem.W.Frag) (mg : Str → Option Value) (x : Str) (d : D) : Prop := ∃ a : Addr, mg x = some (.ref a) ∧ ∀ H, Dp K H (.ref a) d
def dEqK (c : D) (x : D) : Option R := dEq x c
def dNeK (c : D) (x : D) : Option R := dNe x c
section
variable {K : PySem.W.Frag} {a : Addr} {c : D} {t1 : TE} {m1 : ME}
theorem eqK_snd (hq : ∀ H, Dp K H (.ref a) c) (s1 : SndE K t1 m1) : SndE K (tOp (rEqD K) t1 (tC (.ref a))) (mUn (dEqK c) m1) := by
  intro σ H w s t Q r s' ok e k
  simp only [mUn] at e
  split at e
  · cases e
  · rename_i r1 sa e1
    split at e
    · cases e
    · rename_i y e2
      split at e
      · cases e
      · rename_i r' e3
        cases e
        refine s1 σ H w s t _ r1 _ ok e1 fun w1 H1 u t1' τ1 a1 a2 ok1 st1 sl1 rel1 => ?_
        have hy := RelR.view ok1 rel1 e2
        unfold dEqK dEq at e3
        split at e3
        · rename_i hc
          simp only [eqOk, Bool.and_eq_true, Bool.not_eq_true'] at hc
          obtain ⟨⟨⟨q1, q2⟩, q3⟩, q4⟩ := hc
          cases e3
          exact ⟨y, c, hy.dp ok1.sub q1, hq H1, q3, q4, k w1 H1 _ t1' τ1 a1 a2 ok1 st1 sl1 (by simp only [RelR, Rep])⟩
        · cases e3
theorem neK_snd (hq : ∀ H, Dp K H (.ref a) c) (s1 : SndE K t1 m1) : SndE K (tOp (rNeD K) t1 (tC (.ref a))) (mUn (dNeK c) m1) := by
  intro σ H w s t Q r s' ok e k
  simp only [mUn] at e
  split at e
  · cases e
  · rename_i r1 sa e1
    split at e
    · cases e
    · rename_i y e2
      split at e
      · cases e
      · rename_i r' e3
        cases e
        refine s1 σ H w s t _ r1 _ ok e1 fun w1 H1 u t1' τ1 a1 a2 ok1 st1 sl1 rel1 => ?_
        have hy := RelR.view ok1 rel1 e2
        unfold dNeK dNe at e3
        split at e3
        · rename_i hc
          simp only [eqOk, Bool.and_eq_true, Bool.not_eq_true'] at hc
          obtain ⟨⟨⟨q1, q2⟩, q3⟩, q4⟩ := hc
          cases e3
          exact ⟨y, c, hy.dp ok1.sub q1, hq H1, q3, q4, k w1 H1 _ t1' τ1 a1 a2 ok1 st1 sl1 (by simp only [RelR, Rep])⟩
        · cases e3
end
section
variable {X : Cx} {i : Expr} {m1 : ME} {x : Str} {c : D} {p pos : Pos} {n : Nat}
theorem re_eqK (hr : Here X n) (ht : ModD X.K X.mg x c) (ha : RE X i m1) (hg : Gl X x := by rfl) (hd : (x == ("__debug__" : Str)) = false := by decide) (hb : behindInMarks .Eq (.Name x p) = false := by rfl) : RE X (.Compare i [.Eq] [.Name x p] pos) (mUn (dEqK c) m1) := by
  obtain ⟨a, h1, h2⟩ := ht
  obtain ⟨t1, p1, s1⟩ := ha
  exact ⟨_, pe_cmpR (o_eqq hr) p1 (pe_glob (v := .ref a) hg h1 rfl hd) hb, eqK_snd h2 s1⟩
theorem re_neK (hr : Here X n) (ht : ModD X.K X.mg x c) (ha : RE X i m1) (hg : Gl X x := by rfl) (hd : (x == ("__debug__" : Str)) = false := by decide) (hb : behindInMarks .NotEq (.Name x p) = false := by rfl) : RE X (.Compare i [.NotEq] [.Name x p] pos) (mUn (dNeK c) m1) := by
  obtain ⟨a, h1, h2⟩ := ht
  obtain ⟨t1, p1, s1⟩ := ha
  exact ⟨_, pe_cmpR (o_neq hr) p1 (pe_glob (v := .ref a) hg h1 rfl hd) hb, neK_snd h2 s1⟩
theorem rt_eqK (hr : Here X n) (ht : ModD X.K X.mg x c) (ha : RE X i m1) (hg : Gl X x := by rfl) (hd : (x == ("__debug__" : Str)) = false := by decide) (hb : behindInMarks .Eq (.Name x p) = false := by rfl) : RT X (.Compare i [.Eq] [.Name x p] pos) (mB (mUn (dEqK c) m1)) := by
  obtain ⟨a, h1, h2⟩ := ht
  obtain ⟨t1, p1, s1⟩ := ha
  exact ⟨_, pt_cmpR (o_eqq hr) p1 (pe_glob (v := .ref a) hg h1 rfl hd) hb, b_ok (eqK_snd h2 s1)⟩
theorem rt_neK (hr : Here X n) (ht : ModD X.K X.mg x c) (ha : RE X i m1) (hg : Gl X x := by rfl) (hd : (x == ("__debug__" : Str)) = false := by decide) (hb : behindInMarks .NotEq (.Name x p) = false := by rfl) : RT X (.Compare i [.NotEq] [.Name x p] pos) (mB (mUn (dNeK c) m1)) := by
  obtain ⟨a, h1, h2⟩ := ht
  obtain ⟨t1, p1, s1⟩ := ha
  exact ⟨_, pt_cmpR (o_neq hr) p1 (pe_glob (v := .ref a) hg h1 rfl hd) hb, b_ok (neK_snd h2 s1)⟩
end
/-- a tuple of the module, at a -/
theorem dp_mod {K : PySem.W.Frag} {a : Addr} {od : Option Addr} {its : Array Value} {n : Nat} {sl : Array (Option Value)} {xs : List V} {ds : List D} (h : K.lookup a = some ⟨.type "tuple", od, .seq its n, sl⟩) (hs : its.size ≤ sizeLine) (hv : Vals xs its.toList) (hd : ∀ H, DpAll K H xs ds) :
    ∀ H, Dp K H (.ref a) (.tuple ds) := fun H => .tup (.inr ⟨_, its, n, h, rfl, rfl, hs, hv⟩) (hd H)
end Qz
namespace Qz
open PySem PySem.Spec L2
open PyProof.Rows hiding St
/-! ## min(..) of a list of alike data -/
section
variable {prog : Program} {w : World} {A : Around} {E : Value → Shared → Prop} {s : Shared}
theorem min_at {l : Addr} {vs : Array Value} {d : D} {ds : List D} {as : List Addr} {Q : Value → Shared → Prop} (hh : A.handled = none) (hl : s.heap.IsList l vs) (rd : ReadsAll s.heap vs.toList (d :: ds) as)
    (al : PySem.W.AlikeAll (d :: ds)) (room : A.units + 1 + PyData.depthAll (d :: ds) < cLine)
    (q : ∀ (i : Nat) (v : Value) h' tk, vs[i]? = some v → (d :: ds)[i]? = some (PySem.W.minD d ds) → (∀ b o, s.heap.get? b = some o → h'.get? b = some o) → Q v { s with heap := h', toks := tk }) :
    wpAny (model prog w) A (call (.builtin "min") [.ref l]) Q E s := by
  have len : vs.size = ds.length + 1 := PySem.W.readsAll_len rd
  refine PySem.call_min_walkH (PySem.W.iter_listW (A := A.in1) hh hl fun s2 es W st0 fpb new old => ?_)
  refine ⟨_, _, _, _, _, _, _, s.heap, _, rfl, W, st0, fpb, by rw [len]; exact Nat.succ_pos _, new, old, PySem.W.cmpIn_lt (A := A.in1) rd al room, fun v s3 hv mv => ?_⟩
  obtain ⟨h', tk, rfl, keep⟩ := PySem.W.moved_old es rfl mv
  obtain ⟨b1, b2⟩ := PySem.W.argBest_fold PySem.W.dataLt PyData.none d ds ds.length (Nat.le_refl _)
  rw [List.take_length] at b2
  have e1 : vs.size - 1 = ds.length := by omega
  rw [e1] at hv
  refine q _ v h' tk hv ?_ keep
  unfold PySem.W.minD
  rw [← b2, List.getD_eq_getElem?_getD, List.getElem?_eq_getElem (by simp only [List.length_cons]; omega)]
  rfl
end
def rMinN (K : PySem.W.Frag) : List V → Hp → VK → Prop := fun vs H Q => ∃ (a : Addr) (xs : List V) (d : D) (ds : List D), vs = [V.ref a] ∧ SqL K H a xs ∧ DpAll K H xs (d :: ds) ∧ PySem.W.AlikeAll (d :: ds) ∧ (∀ e ∈ d :: ds, e.depth ≤ 60) ∧
  ∀ (i : Nat) (y : V), xs[i]? = some y → (d :: ds)[i]? = some (PySem.W.minD d ds) → Q y H
theorem depthAll_le {n : Nat} : ∀ ds : List D, (∀ e ∈ ds, e.depth ≤ n) → PyData.depthAll ds ≤ n
  | [], _ => by simp [PyData.depthAll]
  | d :: ds, h => by
    have := depthAll_le ds fun e he => h e (List.mem_cons_of_mem _ he)
    have := h d List.mem_cons_self
    simp only [PyData.depthAll]
    omega
theorem vals_at : ∀ {xs : List V} {us : List Value} {i : Nat} {u : Value}, Vals xs us → us[i]? = some u → ∃ x, xs[i]? = some x ∧ RelV x u
  | _, _, i, u, .nil, h => by simp at h
  | _, _, 0, u, .cons r rs, h => by
    obtain rfl := Option.some.inj h
    exact ⟨_, rfl, r⟩
  | _, _, i + 1, u, .cons r rs, h => by
    obtain ⟨x, h1, h2⟩ := vals_at rs (i := i) (by simpa using h)
    exact ⟨x, by simpa using h1, h2⟩
theorem cr_minN {X : Cx} {n : Nat} (hc : X.calm = true) (hr : Here X n) : CallR X (.builtin "min") (rMinN X.K) := by
  intro pins s σ H vs us Q I r h
  obtain ⟨a, xs, d, ds, rfl, hs, hd, hal, hdep, q⟩ := h
  obtain ⟨its, rv, hl, hz⟩ := I.list hs
  rw [Vals.ref1 r]
  obtain ⟨as, rd⟩ := Dp.readsAll I (d :: ds) xs its hd rv
  have hun := hr.un
  have hdd := depthAll_le (d :: ds) hdep
  refine min_at (vs := its.toArray) (I.ok.hd hc) hl.isList (by simpa using rd) hal (by omega) fun i v h' tk hv hm keep => ?_
  obtain ⟨y, hy, ry⟩ := vals_at (i := i) rv (by simpa using hv)
  exact ⟨y, H, I.kept keep, ry, q i y hy hm⟩
def fMinN : List D → Option R
  | [.list ds] => match fMinL [.list ds] with
    | some r => some r
    | none => match ds with
      | [] => none
      | d :: ds => if ((d :: ds).all fun x => (d :: ds).all fun y => PySem.W.alike x y) = true ∧ PyData.hasDictAll (d :: ds) = false ∧ ((d :: ds).all fun x => decide (x.depth ≤ 60)) = true ∧ ((d :: ds).all tupNE) = true then some (.d (PySem.W.minD d ds)) else none
  | _ => none
section
variable {K : PySem.W.Frag}
theorem s_minN : BltS K (fun us H Q => rMin K us H Q ∨ rMinN K us H Q) fMinN := by
  intro w H σ s t us xs r Q ok vw e k
  unfold fMinN at e
  split at e
  · rename_i ds
    split at e
    · rename_i r' e1
      cases e
      exact .inl (s_minL w H σ s t us _ r Q ok vw e1 k)
    · split at e
      · cases e
      · rename_i d ds _
        split at e
        · rename_i hc
          obtain ⟨c1, c2, c3, c4⟩ := hc
          cases e
          obtain ⟨u, rfl, v⟩ := vw.one
          obtain ⟨a, ys, rfl, h1, h2⟩ := v.lst ok.sub
          refine .inr ⟨a, ys, d, ds, rfl, h1, RepL.dp ok.sub _ ys h2 c2, ⟨fun x hx y hy => List.all_eq_true.mp (List.all_eq_true.mp c1 x hx) y hy, fun x hx => ?_⟩, fun x hx => of_decide_eq_true (List.all_eq_true.mp c3 x hx), fun i y hy hm => ?_⟩
          · obtain ⟨z, zs, rfl⟩ := tupNE_eq (List.all_eq_true.mp c4 x hx)
            simp
          · obtain ⟨x, hx, rx⟩ := RepL.getV _ _ i y h2 hy
            rw [hm] at hx
            cases hx
            exact s_d ok k rx
        · cases e
  · cases e
variable {X : Cx} {e : Expr} {ms : MA} {p pos : Pos} {n : Nat}
theorem re_minN (hr : Here X n) (hc : X.calm = true) (hm : X.mg "min" = none) (ha : RA X [e] ms) (hg : Gl X "min" := by rfl) (he : starEach [e] X.env = (false, eval e X.env) :: starEach [] X.env := by rfl) : RE X (.Call (.Name "min" p) [e] [] pos) (mBlt fMinN ms) :=
  re_blt ((cr_min hc).or (cr_minN hc hr)) s_minN hm (by decide +kernel) ha hg (by decide) (by decide) he rfl
end
/-! ## sorted(..) of a tuple of tuples -/
section
variable {prog : Program} {w : World} {A : Around} {E : Value → Shared → Prop} {s : Shared}
theorem collect_tup {l : Addr} {ob : Obj} {items : Array Value} {n : Nat} {Q : List Value → Shared → Prop} (ho : s.heap.get? l = some ob) (hc : ob.cls = .type "tuple") (hd : ob.data = .seq items n) (hz : items.size ≤ sizeLine)
    (q : ∀ h1 : Heap, (∀ b o, s.heap.get? b = some o → h1.get? b = some o) → s.heap.objs.size ≤ h1.objs.size → Q items.toList { s with heap := h1 }) : wpAny (model prog w) A (collect (.ref l)) Q E s := by
  obtain ⟨hp, ehp⟩ : ∃ hp : Heap, hp = s.heap.push { cls := .type "list", data := .seq ([] : List Value).toArray } := ⟨_, rfl⟩
  have e0 : hp.get? s.heap.objs.size = some { cls := .type "list", data := .seq #[] 0 } := by rw [ehp]; exact Heap.get?_push_size _ rfl
  have e1 : hp.get? l = some ob := by rw [ehp]; exact Heap.get?_push_of_some _ ho
  have e2 := Heap.get?_update_self (Obj.mapSeq (· ++ items)) e0 rfl
  have fin : ∀ v, v = Value.ref s.heap.objs.size → wpAny (model prog w) A (match v with
      | Value.ref a => do match (← load a).data with
          | Data.seq xs _ => pure xs.toList
          | _ => unsupported "internal:collect"
      | _ => unsupported "internal:collect") Q E { s with heap := hp.update s.heap.objs.size (Obj.mapSeq (· ++ items)) } := by
    rintro _ rfl
    refine wpAny_bind (wpAny_load e2 (wpAny_pure ?_))
    show Q ((#[] : Array Value) ++ items).toList _
    rw [show ((#[] : Array Value) ++ items).toList = items.toList by simp]
    refine q _ (fun b o hb => (Heap.get?_update_other _ _ (Nat.ne_of_gt (Heap.lt_size hb))).trans (by rw [ehp]; exact Heap.get?_push_of_some _ hb)) ?_
    rw [Heap.size_update, ehp, size_push']
    exact Nat.le_succ _
  unfold collect
  refine wpAny_bind (wpAny_runValue (codeAny_builtin PySem.F.entry_proto_collect ?_))
  rw [Around.under_plainId PySem.F.plain_proto_collect _]
  refine wpAny_bind (m := newList []) (wpAny_newObj_type ?_)
  refine wpAny_pure ⟨plainId_quiet PySem.F.plain_list_iadd _, codeAny_builtin PySem.F.entry_list_iadd ?_⟩
  rw [Around.under_plainId PySem.F.plain_list_iadd _]
  rw [← ehp]
  refine wpAny_mono (PySem.wpAny_extend_seq (s := { s with heap := hp }) (R := fun r s3 => r = .ok (.ret (.ref s.heap.objs.size)) ∧ s3 = { s with heap := hp.update s.heap.objs.size (Obj.mapSeq (· ++ items)) }) s.heap.objs.size l (.ref s.heap.objs.size) 0 (.inr rfl) e0 e1 hc hd ⟨rfl, rfl⟩ hz) (fun f s3 hf => ?_) fun x s3 hf => absurd hf.1 (by simp)
  cases f with
  | done f =>
    obtain ⟨q1, rfl⟩ := hf
    cases q1
    exact fin _ rfl
  | again c =>
    refine ⟨hf.1, codeAny_mono hf.2 fun r s4 hr => ?_⟩
    obtain ⟨rfl, rfl⟩ := hr
    exact fin _ rfl
theorem sortedT_vals {κ : Heap → PyProof.Rows.KeyKind} {l : Addr} {vs : List Value} {Q : Value → Shared → Prop} (hl : IsTup s.heap l vs.toArray) (hL : vs.length ≤ sizeLine)
    (S : ∀ h1 : Heap, (∀ b o, s.heap.get? b = some o → h1.get? b = some o) → PySem.W.SortsAt prog w A.in1.in1 { s with heap := h1 } (κ h1) vs)
    (q : ∀ (h1 h' : Heap) (p : Addr), (∀ b o, s.heap.get? b = some o → h1.get? b = some o) → (∀ b o, s.heap.get? b = some o → h'.get? b = some o) → s.heap.objs.size ≤ p → (∃ n, h'.get? p = some (seqObj "list" (PySem.W.sortVals (κ h1) false vs vs).toArray n)) → Q (.ref p) { s with heap := h' }) :
    wpAny (model prog w) A (call (.builtin "sorted") [.ref l]) Q E s := by
  obtain ⟨ob, ho, hc, n, hd⟩ := hl
  refine call_function_entry_kw kind_sorted plain_sorted entry_sorted (args_sorted1 _) ?_
  unfold Builtin.«sorted»
  refine wpAny_bind (m := checkCount "sorted" 1 1 _) (wpAny_pure ?_)
  refine wpAny_bind (collect_tup ho hc hd (by rw [List.size_toArray]; exact hL) fun h1 keep1 sz1 => ?_)
  refine wpAny_bind (wpAny_newList ?_ hL)
  have at2 : (h1.push (seqObj "list" vs.toArray 0)).get? h1.objs.size = some (seqObj "list" vs.toArray 0) := Heap.get?_push_size _ rfl
  have lt1 : ∀ b o, s.heap.get? b = some o → b < h1.objs.size := fun b o e => Heap.lt_size (keep1 b o e)
  have keep2 : ∀ b o, s.heap.get? b = some o → (h1.push (seqObj "list" vs.toArray 0)).get? b = some o := fun b o e => Heap.get?_push_of_some _ (keep1 b o e)
  refine wpAny_bind (wpAny_holding (wpAny_call_entry_kw slot_list_sort ⟨_, at2, rfl⟩ entry_list_sort ?body (args_list_sort _)))
  case body =>
    show wpAny (model prog w) A.in1.in1 (Builtin.«list.sort» ⟨[.ref h1.objs.size], []⟩) _ _ { s with heap := h1.push (seqObj "list" vs.toArray 0) }
    have keep3 : ∀ b o, s.heap.get? b = some o → (PySem.W.sortingHeap (h1.push (seqObj "list" vs.toArray 0)) h1.objs.size vs).get? b = some o := fun b o e => PySem.W.sortingHeap_old (Nat.ne_of_lt (lt1 b o e)) (keep2 b o e)
    refine PySem.W.list_sort_vals (s := { s with heap := h1.push (seqObj "list" vs.toArray 0) }) at2 (S _ keep3) hL ⟨_, rfl, wpAny_pure ⟨_, rfl, ?_⟩⟩
    refine q _ _ _ keep3 (fun b o e => ?_) ?_ (sortedHeap_at at2)
    · exact (sortedHeap_old (Nat.ne_of_lt (lt1 b o e)) (Nat.lt_trans (lt1 b o e) (Heap.lt_size at2))).trans (keep2 b o e)
    · exact sz1
end
def rSortedDT (K : PySem.W.Frag) : List V → Hp → VK → Prop := fun vs H Q => ∃ (a : Addr) (xs : List V) (ds : List D), vs = [V.ref a] ∧ SqT K H a xs ∧ DpAll K H xs ds ∧ PySem.W.AllAlike ds ∧ (∀ d, d ∈ ds → ∃ x r, d = .tuple (x :: r)) ∧ (∀ d, d ∈ ds → d.depth ≤ 60) ∧
  ∀ ys p, PySem.W.EachIs (fun y d => (y, d) ∈ xs.zip ds) ys (sortD ds) → H p = none → Q (.ref p) (upd H p (.lst ys))
theorem cr_sortedDT {X : Cx} {n : Nat} (hr : Here X n) : CallR X (.builtin "sorted") (rSortedDT X.K) := by
  intro pins s σ H vs us Q I r h
  obtain ⟨a, xs, ds, rfl, hs, hd, hal, ht, hdep, q⟩ := h
  obtain ⟨its, rv, hl, hz⟩ := I.tuple hs
  rw [Vals.ref1 r]
  obtain ⟨e1, e2⟩ := refs_back rv (dpAll_tup hd ht)
  have e0 := each_reads I hd rv
  have hun := hr.un
  have hlen : its.length ≤ sizeLine := by rw [← rv.length]; exact hz
  have hR : PySem.W.EachIs (fun (v : Value) d => (backV v, d) ∈ xs.zip ds) its ds := by
    refine PySem.W.EachIs.of_zip e0.length fun p hp => ?_
    rw [e1, List.zip_map_left]
    exact List.mem_map.mpr ⟨p, hp, rfl⟩
  have e3 : ∀ h1 : Heap, (∀ b o, s.heap.get? b = some o → h1.get? b = some o) → PySem.W.EachIs (fun u d => ∃ as, Reads h1 u d as) its ds := fun h1 keep => e0.mono fun v d ⟨as, h⟩ => ⟨as, PyProof.Rows.Reads.keeps keep h⟩
  refine sortedT_vals (κ := fun h1 => PySem.W.dataKind h1 ds) hl hlen (fun h1 keep => ?_) fun h1 h' p keep1 keep hp hn => ?_
  · refine PySem.W.SortsAt.data (s := { s with heap := h1 }) (e3 h1 keep) hal (.inl ht) fun d hd => ?_
    have := hdep d hd
    have hu2 : X.A.in1.in1.units ≤ X.A.units + 2 := by simp [Around.in1]
    omega
  · have hk := each_keys hal (e3 h1 keep1) fun d hd => hd
    have hS := PySem.W.sortVals_each (κ := PySem.W.dataKind h1 ds) (rev := false) PySem.W.keyToks hR hk
    generalize hout : PySem.W.sortVals (PySem.W.dataKind h1 ds) false its its = out at hS hn
    have hY : PySem.W.EachIs (fun y d => (y, d) ∈ xs.zip ds) (out.map backV) (sortD ds) := by
      have go : ∀ {us : List Value} {es : List D}, PySem.W.EachIs (fun (v : Value) d => (backV v, d) ∈ xs.zip ds) us es → PySem.W.EachIs (fun y d => (y, d) ∈ xs.zip ds) (us.map backV) es := fun h => by
        induction h with
        | nil => exact .nil
        | cons a _ ih => exact .cons a ih
      exact go hS
    have h3 : ∀ u ∈ out, ∃ a, u = Value.ref a := fun u hu => e2 u (PySem.W.sortVals_mem false (by rw [hout]; exact hu))
    have hlo : out.length = its.length := by rw [← hout]; exact PySem.W.sortVals_length false rfl
    obtain ⟨n, hn⟩ := hn
    refine ⟨.ref p, upd H p (.lst (out.map backV)), I.laid (t' := s.toks) keep hp ⟨?_, out, n, vals_back h3, hn⟩, rfl, q _ _ hY (I.hok.fresh hp)⟩
    rw [List.length_map, hlo]
    exact hlen
noncomputable def fSortedT : List D → Option R
  | [.tuple ds] => if ds.all tupNE = true ∧ (ds.all fun d => ds.all fun e => PySem.W.alike d e) = true ∧ PyData.hasDictAll ds = false ∧ (ds.all fun d => decide (d.depth ≤ 60)) = true then some (.o (.lst (sortD ds))) else none
  | xs => fSortedN xs
section
variable {K : PySem.W.Frag}
theorem s_sortedT : BltS K (fun us H Q => ((rSortedTI K us H Q ∨ rSortedI K us H Q) ∨ rSortedD K us H Q) ∨ rSortedDT K us H Q) fSortedT := by
  intro w H σ s t us xs r Q ok vw e k
  unfold fSortedT at e
  split at e
  · rename_i ds
    split at e
    · rename_i hc
      obtain ⟨c1, c2, c3, c4⟩ := hc
      cases e
      obtain ⟨u, rfl, v⟩ := vw.one
      have v' : ∃ a ys, u = .ref a ∧ SqT K H a ys ∧ RepL K w.F ds ys := by
        obtain ⟨a, ys, e, h1, h2⟩ := v.tup
        exact ⟨a, ys, e, SqT.of (ok.sub _ _ h1), h2⟩
      obtain ⟨a, ys, rfl, h1, h2⟩ := v'
      refine .inr ⟨a, ys, ds, rfl, h1, RepL.dp ok.sub ds ys h2 c3, fun d hd d' hd' => ?_, fun d hd => tupNE_eq (List.all_eq_true.mp c1 d hd), fun d hd => of_decide_eq_true (List.all_eq_true.mp c4 d hd), fun zs p hz hp => ?_⟩
      · exact List.all_eq_true.mp (List.all_eq_true.mp c2 d hd) d' hd'
      · refine k (w.give p t) _ _ (give_ok ok hp) (give_step ok hp) ?_
        exact ⟨p, zs, rfl, if_pos rfl, upd_same, repL_each (repL_zip ds ys h2) hz⟩
    · cases e
  · exact .inl (s_sortedN w H σ s t us _ r Q ok vw e k)
variable {X : Cx} {e : Expr} {ms : MA} {p pos : Pos} {n : Nat}
theorem re_sortedT (hr : Here X n) (hm : X.mg "sorted" = none) (ha : RA X [e] ms) (hg : Gl X "sorted" := by rfl) (he : starEach [e] X.env = (false, eval e X.env) :: starEach [] X.env := by rfl) : RE X (.Call (.Name "sorted" p) [e] [] pos) (mBlt fSortedT ms) :=
  re_blt (((cr_sortedTI.or cr_sortedI).or (cr_sortedD hr)).or (cr_sortedDT hr)) s_sortedT hm (by decide +kernel) ha hg (by decide) (by decide) he rfl
end
end Qz
namespace Qz
open PySem PySem.Spec L2
open PyProof.Rows hiding St
/-! ## what a run comes to: the first step of each kind -/
structure Ok {α : Type} (o : Out α) (Q : α → S → Prop) : Prop where
  ex : ∃ a s, o = .ok a s ∧ Q a s
structure OkF (o : OutF) (Q : R → Bx → Prop) : Prop where
  ex : ∃ a s, o = .ok a s ∧ Q a s
theorem Ok.of {α : Type} {o : Out α} {a : α} {s : S} {Q : α → S → Prop} (e : o = .ok a s) (q : Q a s) : Ok o Q := ⟨a, s, e, q⟩
theorem Ok.get {α : Type} {o : Out α} {Q : α → S → Prop} (h : Ok o Q) : ∃ a s, o = .ok a s ∧ Q a s := h.ex
theorem OkF.of {o : OutF} {a : R} {s : Bx} {Q : R → Bx → Prop} (e : o = .ok a s) (q : Q a s) : OkF o Q := ⟨a, s, e, q⟩
theorem OkF.get {o : OutF} {Q : R → Bx → Prop} (h : OkF o Q) : ∃ a s, o = .ok a s ∧ Q a s := h.ex
theorem Ok.mono {α : Type} {o : Out α} {Q Q' : α → S → Prop} (h : Ok o Q) (m : ∀ a s, Q a s → Q' a s) : Ok o Q' := let ⟨a, s, e, q⟩ := h.ex; ⟨a, s, e, m a s q⟩
theorem OkF.mono {o : OutF} {Q Q' : R → Bx → Prop} (h : OkF o Q) (m : ∀ a s, Q a s → Q' a s) : OkF o Q' := let ⟨a, s, e, q⟩ := h.ex; ⟨a, s, e, m a s q⟩
/-- whatever the box holds, the def answers so -/
structure Gv (f : DF) (args : List R) (P : R → Prop) : Prop where
  all : ∀ b, OkF (f args b) fun r _ => P r
theorem Gv.mono {f : DF} {args : List R} {P P' : R → Prop} (h : Gv f args P) (m : ∀ r, P r → P' r) : Gv f args P' := ⟨fun b => (h.all b).mono fun r _ => m r⟩
theorem Gv.of {f : DF} {args : List R} {P : R → Prop} (h : ∀ b, ∃ r b', f args b = .ok r b' ∧ P r) : Gv f args P := ⟨fun b => ⟨h b⟩⟩
theorem Gv.eqv {f : DF} {args : List R} {r : R} (h : ∀ b, f args b = .ok r b) : Gv f args (· = r) := .of fun b => ⟨r, b, h b, rfl⟩
section
variable {s s1 s2 : S} {r : R}
theorem k_C {x : D} {Q : R → S → Prop} (q : Q (.d x) s) : Ok (mC x s) Q := .of rfl q
theorem k_varD {i : Nat} {x : D} {Q : R → S → Prop} (h : s.a[i]? = some (some (.d x))) (q : Q (.d x) s) : Ok (mVar i s) Q := by
  refine .of ?_ q
  unfold mVar; rw [h]
theorem k_varO {i : Nat} {c : C} {Q : R → S → Prop} (h : s.a[i]? = some (some (.o c))) (q : Q (.sl i) s) : Ok (mVar i s) Q := by
  refine .of ?_ q
  unfold mVar; rw [h]
theorem k_varB {i : Nat} {Q : R → S → Prop} (h : s.a[i]? = some (some .bx)) (q : Q .bx s) : Ok (mVar i s) Q := by
  refine .of ?_ q
  unfold mVar; rw [h]
theorem k_nil {Q : List R → S → Prop} (q : Q [] s) : Ok (mNil s) Q := .of rfl q
theorem k_cons {m : ME} {ms : MA} {Q : List R → S → Prop} (h : Ok (m s) fun r s1 => Ok (ms s1) fun rs s2 => Q (r :: rs) s2) : Ok (mCons m ms s) Q := by
  obtain ⟨r, s1, e, h⟩ := h.get
  obtain ⟨rs, s2, e2, h⟩ := h.get
  unfold mCons
  simp only [e, e2]
  exact .of rfl (h)
def kData (f : List D → Option R) (Q : R → S → Prop) (rs : List R) (s : S) : Prop := ∃ xs s2 r, takes s rs = some (xs, s2) ∧ f xs = some r ∧ Q r s2
theorem kData.mk {f : List D → Option R} {Q : R → S → Prop} {rs : List R} {xs : List D} (h1 : takes s rs = some (xs, s2)) (h2 : f xs = some r) (q : Q r s2) : kData f Q rs s := ⟨xs, s2, r, h1, h2, q⟩
theorem k_data {ms : MA} {f : List D → Option R} {Q : R → S → Prop} (h : Ok (ms s) (kData f Q)) : Ok (mData ms f s) Q := by
  obtain ⟨rs, s1, e, xs, s2, r, h1, h2, q⟩ := h.get
  unfold mData
  simp only [e, h1, h2]
  exact .of rfl (q)
theorem k_tup {ms : MA} {Q : R → S → Prop} (h : Ok (ms s) (kData dTup Q)) : Ok (mTup ms s) Q := k_data h
theorem k_lst {ms : MA} {Q : R → S → Prop} (h : Ok (ms s) (kData dLst Q)) : Ok (mLst ms s) Q := k_data h
theorem big : 100000 ≤ sizeLine := by decide
theorem dTup_le {xs : List D} (h : xs.length ≤ 1000) : dTup xs = some (.d (.tuple xs)) := if_pos (Nat.le_trans h (Nat.le_trans (by decide) big))
theorem dLst_le {xs : List D} (h : xs.length ≤ 1000) : dLst xs = some (.o (.lst xs)) := if_pos (Nat.le_trans h (Nat.le_trans (by decide) big))
def kOp (f : D → D → Option R) (Q : R → S → Prop) (r1 r2 : R) (s : S) : Prop := ∃ x y r, view s r1 = some x ∧ view s r2 = some y ∧ f x y = some r ∧ Q r s
theorem kOp.mk {f : D → D → Option R} {Q : R → S → Prop} {r1 r2 : R} {x y : D} (h1 : view s r1 = some x) (h2 : view s r2 = some y) (h3 : f x y = some r) (q : Q r s) : kOp f Q r1 r2 s := ⟨x, y, r, h1, h2, h3, q⟩
theorem k_op {f : D → D → Option R} {m1 m2 : ME} {Q : R → S → Prop} (h : Ok (m1 s) fun r1 s1 => Ok (m2 s1) fun r2 s2 => kOp f Q r1 r2 s2) : Ok (mOp f m1 m2 s) Q := by
  obtain ⟨r1, s1, e, h⟩ := h.get
  obtain ⟨r2, s2, e2, x, y, r, h1, h2, h3, q⟩ := h.get
  unfold mOp
  simp only [e, e2, h1, h2, h3]
  exact .of rfl (q)
def kUn (f : D → Option R) (Q : R → S → Prop) (r1 : R) (s : S) : Prop := ∃ x r, view s r1 = some x ∧ f x = some r ∧ Q r s
theorem kUn.mk {f : D → Option R} {Q : R → S → Prop} {r1 : R} {x : D} (h1 : view s r1 = some x) (h3 : f x = some r) (q : Q r s) : kUn f Q r1 s := ⟨x, r, h1, h3, q⟩
theorem k_un {f : D → Option R} {m1 : ME} {Q : R → S → Prop} (h : Ok (m1 s) (kUn f Q)) : Ok (mUn f m1 s) Q := by
  obtain ⟨r1, s1, e, x, r, h1, h3, q⟩ := h.get
  unfold mUn
  simp only [e, h1, h3]
  exact .of rfl (q)
def kB (Q : Bool → S → Prop) (r : R) (s : S) : Prop := ∃ b, r = .d (.bool b) ∧ Q b s
theorem kB.mk {b : Bool} {Q : Bool → S → Prop} (q : Q b s) : kB Q (.d (.bool b)) s := ⟨b, rfl, q⟩
theorem k_B {m : ME} {Q : Bool → S → Prop} (h : Ok (m s) (kB Q)) : Ok (mB m s) Q := by
  obtain ⟨_, s1, e, b, rfl, q⟩ := h.get
  unfold mB
  simp only [e]
  exact .of rfl (q)
def kAnd (b : MT) (Q : Bool → S → Prop) (t : Bool) (s : S) : Prop := (t = true → Ok (b s) Q) ∧ (t = false → Q false s)
def kOr (b : MT) (Q : Bool → S → Prop) (t : Bool) (s : S) : Prop := (t = true → Q true s) ∧ (t = false → Ok (b s) Q)
theorem kAnd.t {b : MT} {Q : Bool → S → Prop} (q : Ok (b s) Q) : kAnd b Q true s := ⟨fun _ => q, fun e => nomatch e⟩
theorem kAnd.f {b : MT} {Q : Bool → S → Prop} (q : Q false s) : kAnd b Q false s := ⟨(fun e => nomatch e), fun _ => q⟩
theorem kAnd.of {b : MT} {Q : Bool → S → Prop} {t : Bool} (q : t = true → Ok (b s) Q) (q' : t = false → Q false s) : kAnd b Q t s := ⟨q, q'⟩
theorem kOr.t {b : MT} {Q : Bool → S → Prop} (q : Q true s) : kOr b Q true s := ⟨fun _ => q, fun e => nomatch e⟩
theorem kOr.f {b : MT} {Q : Bool → S → Prop} (q : Ok (b s) Q) : kOr b Q false s := ⟨(fun e => nomatch e), fun _ => q⟩
theorem kOr.of {b : MT} {Q : Bool → S → Prop} {t : Bool} (q : t = true → Q true s) (q' : t = false → Ok (b s) Q) : kOr b Q t s := ⟨q, q'⟩
theorem kOr.p {b : MT} {Q : Bool → S → Prop} {t : Bool} (h : Ok (b s) fun u s2 => s2 = s ∧ Q (t || u) s) : kOr b Q t s := by
  obtain ⟨u, s2, e, rfl, q⟩ := h.get
  cases t with
  | true => exact .t q
  | false => exact .f (.of e q)
theorem kAnd.p {b : MT} {Q : Bool → S → Prop} {t : Bool} (h : Ok (b s) fun u s2 => s2 = s ∧ Q (t && u) s) : kAnd b Q t s := by
  obtain ⟨u, s2, e, rfl, q⟩ := h.get
  cases t with
  | true => exact .t (.of e q)
  | false => exact .f q
theorem k_and {a b : MT} {Q : Bool → S → Prop} (h : Ok (a s) (kAnd b Q)) : Ok (mAnd a b s) Q := by
  obtain ⟨t, s1, e, h1, h2⟩ := h.get
  unfold mAnd
  cases t <;> simp only [e]
  · exact .of rfl (h2 rfl)
  · exact h1 rfl
theorem k_or {a b : MT} {Q : Bool → S → Prop} (h : Ok (a s) (kOr b Q)) : Ok (mOr a b s) Q := by
  obtain ⟨t, s1, e, h1, h2⟩ := h.get
  unfold mOr
  cases t <;> simp only [e]
  · exact h2 rfl
  · exact .of rfl (h1 rfl)
theorem k_not {a : MT} {Q : Bool → S → Prop} (h : Ok (a s) fun t s1 => Q (!t) s1) : Ok (mNot a s) Q := by
  obtain ⟨t, s1, e, q⟩ := h.get
  unfold mNot
  simp only [e]
  exact .of rfl (q)
def kAndV (b : ME) (Q : R → S → Prop) (r : R) (s : S) : Prop := ∃ t, r = .d (.bool t) ∧ (t = true → Ok (b s) Q) ∧ (t = false → Q (.d (.bool false)) s)
def kOrV (b : ME) (Q : R → S → Prop) (r : R) (s : S) : Prop := ∃ t, r = .d (.bool t) ∧ (t = true → Q (.d (.bool true)) s) ∧ (t = false → Ok (b s) Q)
theorem kAndV.t {b : ME} {Q : R → S → Prop} (q : Ok (b s) Q) : kAndV b Q (.d (.bool true)) s := ⟨_, rfl, fun _ => q, fun e => nomatch e⟩
theorem kAndV.f {b : ME} {Q : R → S → Prop} (q : Q (.d (.bool false)) s) : kAndV b Q (.d (.bool false)) s := ⟨_, rfl, (fun e => nomatch e), fun _ => q⟩
theorem kAndV.of {b : ME} {Q : R → S → Prop} {t : Bool} (q : t = true → Ok (b s) Q) (q' : t = false → Q (.d (.bool false)) s) : kAndV b Q (.d (.bool t)) s := ⟨t, rfl, q, q'⟩
theorem kOrV.t {b : ME} {Q : R → S → Prop} (q : Q (.d (.bool true)) s) : kOrV b Q (.d (.bool true)) s := ⟨_, rfl, fun _ => q, fun e => nomatch e⟩
theorem kOrV.f {b : ME} {Q : R → S → Prop} (q : Ok (b s) Q) : kOrV b Q (.d (.bool false)) s := ⟨_, rfl, (fun e => nomatch e), fun _ => q⟩
theorem kOrV.of {b : ME} {Q : R → S → Prop} {t : Bool} (q : t = true → Q (.d (.bool true)) s) (q' : t = false → Ok (b s) Q) : kOrV b Q (.d (.bool t)) s := ⟨t, rfl, q, q'⟩
theorem k_andV {a b : ME} {Q : R → S → Prop} (h : Ok (a s) (kAndV b Q)) : Ok (mAndV a b s) Q := by
  obtain ⟨_, s1, e, t, rfl, h1, h2⟩ := h.get
  unfold mAndV
  cases t <;> simp only [e]
  · exact .of rfl (h2 rfl)
  · exact h1 rfl
theorem k_orV {a b : ME} {Q : R → S → Prop} (h : Ok (a s) (kOrV b Q)) : Ok (mOrV a b s) Q := by
  obtain ⟨_, s1, e, t, rfl, h1, h2⟩ := h.get
  unfold mOrV
  cases t <;> simp only [e]
  · exact h2 rfl
  · exact .of rfl (h1 rfl)
def kNotV (Q : R → S → Prop) (r : R) (s : S) : Prop := ∃ t, r = .d (.bool t) ∧ Q (.d (.bool (!t))) s
theorem kNotV.mk {Q : R → S → Prop} {t : Bool} (q : Q (.d (.bool (!t))) s) : kNotV Q (.d (.bool t)) s := ⟨t, rfl, q⟩
theorem k_notV {a : ME} {Q : R → S → Prop} (h : Ok (a s) (kNotV Q)) : Ok (mNotV a s) Q := by
  obtain ⟨_, s1, e, t, rfl, q⟩ := h.get
  unfold mNotV
  simp only [e]
  exact .of rfl (q)
def kCond {α : Type} (a b : S → Out α) (Q : α → S → Prop) (t : Bool) (s : S) : Prop := (t = true → Ok (a s) Q) ∧ (t = false → Ok (b s) Q)
theorem kCond.t {α : Type} {a b : S → Out α} {Q : α → S → Prop} (q : Ok (a s) Q) : kCond a b Q true s := ⟨fun _ => q, fun e => nomatch e⟩
theorem kCond.f {α : Type} {a b : S → Out α} {Q : α → S → Prop} (q : Ok (b s) Q) : kCond a b Q false s := ⟨(fun e => nomatch e), fun _ => q⟩
theorem kCond.of {α : Type} {a b : S → Out α} {Q : α → S → Prop} {t : Bool} (q : t = true → Ok (a s) Q) (q' : t = false → Ok (b s) Q) : kCond a b Q t s := ⟨q, q'⟩
theorem k_ite {c : MT} {a b : ME} {Q : R → S → Prop} (h : Ok (c s) (kCond a b Q)) : Ok (mIte c a b s) Q := by
  obtain ⟨t, s1, e, h1, h2⟩ := h.get
  unfold mIte
  cases t <;> simp only [e]
  · exact h2 rfl
  · exact h1 rfl
theorem k_if {c : MT} {a b : MS} {Q : Fl → S → Prop} (h : Ok (c s) (kCond a b Q)) : Ok (mIf c a b s) Q := by
  obtain ⟨t, s1, e, h1, h2⟩ := h.get
  unfold mIf
  cases t <;> simp only [e]
  · exact h2 rfl
  · exact h1 rfl
/-! ## slices -/
def kPart (f : Option Int → S → Prop) (m : Option ME) (s : S) : Prop := ∃ o s', mPart m s = .ok o s' ∧ f o s'
theorem kPart.n {f : Option Int → S → Prop} (h : f none s) : kPart f none s := ⟨none, s, rfl, h⟩
def kInt (f : Int → S → Prop) (r : R) (s : S) : Prop := ∃ i, r = .d (.int i) ∧ f i s
theorem kInt.mk {f : Int → S → Prop} {i : Int} (q : f i s) : kInt f (.d (.int i)) s := ⟨i, rfl, q⟩
theorem kPart.sm {f : Option Int → S → Prop} {m : ME} (h : Ok (m s) (kInt fun i s => f (some i) s)) : kPart f (some m) s := by
  obtain ⟨_, s1, e, i, rfl, q⟩ := h.get
  exact ⟨some i, s1, by unfold mPart; simp only [e], q⟩
def kCut (lo hi : Option Int) (Q : R → S → Prop) (r : R) (s : S) : Prop := ∃ x r', view s r = some x ∧ dCut x lo hi = some r' ∧ Q r' s
theorem kCut.mk {lo hi : Option Int} {Q : R → S → Prop} {r r' : R} {x : D} (h1 : view s r = some x) (h2 : dCut x lo hi = some r') (q : Q r' s) : kCut lo hi Q r s := ⟨x, r', h1, h2, q⟩
theorem k_cut {m : ME} {lo hi : Option ME} {Q : R → S → Prop} (h : Ok (m s) fun r s1 => kPart (fun l s2 => kPart (fun h s3 => kCut l h Q r s3) hi s2) lo s1) : Ok (mCut m lo hi s) Q := by
  obtain ⟨r, s1, e, l, s2, e2, hh, s3, e3, x, r', h1, h2, q⟩ := h.get
  unfold mCut
  simp only [e, e2, e3, h1, h2]
  exact .of rfl (q)
/-! ## built-ins, methods, calls -/
def kBlt (f : List D → Option R) (Q : R → S → Prop) (rs : List R) (s : S) : Prop := ∃ xs r, views s rs = some xs ∧ f xs = some r ∧ Q r s
theorem kBlt.mk {f : List D → Option R} {Q : R → S → Prop} {rs : List R} {xs : List D} (h1 : views s rs = some xs) (h2 : f xs = some r) (q : Q r s) : kBlt f Q rs s := ⟨xs, r, h1, h2, q⟩
theorem k_blt {ms : MA} {f : List D → Option R} {Q : R → S → Prop} (h : Ok (ms s) (kBlt f Q)) : Ok (mBlt f ms s) Q := by
  obtain ⟨rs, s1, e, xs, r, h1, h2, q⟩ := h.get
  unfold mBlt
  simp only [e, h1, h2]
  exact .of rfl (q)
def kMeth (i : Nat) (f : List D → List D → Option (D × List D)) (Q : R → S → Prop) (rs : List R) (s : S) : Prop :=
  ∃ xs s2 l y l', takes s rs = some (xs, s2) ∧ s2.a[i]? = some (some (.o (.lst l))) ∧ f l xs = some (y, l') ∧ Q (.d y) ⟨s2.a.set i (some (.o (.lst l'))), s2.b⟩
theorem kMeth.mk {i : Nat} {f : List D → List D → Option (D × List D)} {Q : R → S → Prop} {rs : List R} {xs l l' : List D} {y : D} {a2 : List (Option R)} {b2 : Bx}
    (h1 : takes s rs = some (xs, ⟨a2, b2⟩)) (h2 : a2[i]? = some (some (.o (.lst l)))) (h3 : f l xs = some (y, l')) (q : Q (.d y) ⟨a2.set i (some (.o (.lst l'))), b2⟩) : kMeth i f Q rs s := ⟨xs, _, l, y, l', h1, h2, h3, q⟩
theorem k_meth {i : Nat} {ms : MA} {f : List D → List D → Option (D × List D)} {Q : R → S → Prop} {l : List D} (h0 : s.a[i]? = some (some (.o (.lst l)))) (h : Ok (ms s) (kMeth i f Q)) : Ok (mMeth i ms f s) Q := by
  obtain ⟨rs, s1, e, xs, s2, l, y, l', h1, h2, h3, q⟩ := h.get
  unfold mMeth
  simp only [h0, e, h1, h2, h3]
  exact .of rfl (q)
theorem fAppend_lt {l : List D} {x : D} (h : l.length ≤ 10000) : fAppend l [x] = some (.none, l ++ [x]) := if_pos (Nat.lt_of_le_of_lt h (Nat.lt_of_lt_of_le (by decide) big))
def kCall (np : Nat) (g : DF) (Q : R → S → Prop) (rs : List R) (s : S) : Prop := ∃ q s2, rs.length = np ∧ argsT s rs = some (q, s2) ∧ OkF (g q s2.b) fun r b => Q r ⟨s2.a, b⟩
theorem kCall.mk {np : Nat} {g : DF} {Q : R → S → Prop} {rs q : List R} {a2 : List (Option R)} {b2 : Bx} {P : R → Prop} (h1 : rs.length = np) (h2 : argsT s rs = some (q, ⟨a2, b2⟩)) (h3 : Gv g q P) (h4 : ∀ r b, P r → Q r ⟨a2, b⟩) : kCall np g Q rs s :=
  ⟨q, _, h1, h2, (h3.all b2).mono fun r b p => h4 r b p⟩
theorem kCall.at1 {np : Nat} {g : DF} {Q : R → S → Prop} {rs q : List R} {a2 : List (Option R)} {b2 : Bx} {P : R → Prop} (h1 : rs.length = np) (h2 : argsT s rs = some (q, ⟨a2, b2⟩)) (h3 : OkF (g q b2) fun r _ => P r) (h4 : ∀ r b, P r → Q r ⟨a2, b⟩) : kCall np g Q rs s :=
  ⟨q, _, h1, h2, h3.mono fun r b p => h4 r b p⟩
theorem k_call {np : Nat} {g : DF} {ms : MA} {Q : R → S → Prop} (h : Ok (ms s) (kCall np g Q)) : Ok (mCall np g ms s) Q := by
  obtain ⟨rs, s1, e, q, s2, h1, h2, h3⟩ := h.get
  obtain ⟨r, b, e2, k⟩ := h3.get
  unfold mCall
  simp only [e, if_pos h1, h2, e2]
  exact .of rfl (k)
def kCallK (np : Nat) (g : DF) (nu nk : Nat) (perm : List Nat) (Q : R → S → Prop) (rs zs : List R) (s : S) : Prop :=
  ∃ q s3, rs.length = nu ∧ zs.length = nk ∧ argsT s (rs ++ zs) = some (q, s3) ∧ (perm.filterMap fun i => q[i]?).length = np ∧ OkF (g (perm.filterMap fun i => q[i]?) s3.b) fun r b => Q r ⟨s3.a, b⟩
theorem kCallK.mk {np : Nat} {g : DF} {nu nk : Nat} {perm : List Nat} {Q : R → S → Prop} {rs zs q args : List R} {a2 : List (Option R)} {b2 : Bx} {P : R → Prop} (h1 : rs.length = nu) (h1' : zs.length = nk) (h2 : argsT s (rs ++ zs) = some (q, ⟨a2, b2⟩))
    (h5 : (perm.filterMap fun i => q[i]?) = args) (h6 : args.length = np) (h3 : Gv g args P) (h4 : ∀ r b, P r → Q r ⟨a2, b⟩) : kCallK np g nu nk perm Q rs zs s :=
  ⟨q, _, h1, h1', h2, h5 ▸ h6, by rw [h5]; exact (h3.all b2).mono fun r b p => h4 r b p⟩
theorem k_callK {np : Nat} {g : DF} {nu nk : Nat} {perm : List Nat} {ms mk : MA} {Q : R → S → Prop} (h : Ok (ms s) fun rs s1 => Ok (mk s1) fun zs s2 => kCallK np g nu nk perm Q rs zs s2) : Ok (mCallK np g nu nk perm ms mk s) Q := by
  obtain ⟨rs, s1, e, h⟩ := h.get
  obtain ⟨zs, s2, e2, q, s3, h1, h2, h3, h4, h5⟩ := h.get
  obtain ⟨r, b, e3, k⟩ := h5.get
  unfold mCallK
  have hc : rs.length = nu ∧ zs.length = nk := ⟨h1, h2⟩
  simp only [e, e2, if_pos hc, h3, if_pos h4, e3]
  exact .of rfl (k)
/-! ## statements -/
def seqQ (c : MS) (Q : Fl → S → Prop) : Fl → S → Prop
  | .nx, s => Ok (c s) Q
  | .rt r, s => Q (.rt r) s
  | .bk, s => Q .bk s
  | .ct, s => Q .ct s
theorem k_seq {a c : MS} {Q : Fl → S → Prop} (h : Ok (a s) (seqQ c Q)) : Ok (mSeq a c s) Q := by
  obtain ⟨f, s1, e, h⟩ := h.get
  unfold mSeq
  cases f with
  | nx => simp only [e]; exact h
  | rt r => simp only [e]; exact .of rfl h
  | bk => simp only [e]; exact .of rfl h
  | ct => simp only [e]; exact .of rfl h
theorem q_nx {c : MS} {Q : Fl → S → Prop} (h : Ok (c s) Q) : seqQ c Q .nx s := h
theorem q_rt {c : MS} {Q : Fl → S → Prop} (h : Q (.rt r) s) : seqQ c Q (.rt r) s := h
theorem q_bk {c : MS} {Q : Fl → S → Prop} (h : Q .bk s) : seqQ c Q .bk s := h
theorem q_ct {c : MS} {Q : Fl → S → Prop} (h : Q .ct s) : seqQ c Q .ct s := h
theorem k_next {Q : Fl → S → Prop} (h : Q .nx s) : Ok (mNext s) Q := .of rfl h
theorem k_brk {Q : Fl → S → Prop} (h : Q .bk s) : Ok (mBreak s) Q := .of rfl h
theorem k_cnt {Q : Fl → S → Prop} (h : Q .ct s) : Ok (mCont s) Q := .of rfl h
theorem k_ret {m : ME} {Q : Fl → S → Prop} (h : Ok (m s) fun r s1 => Q (.rt r) s1) : Ok (mRet m s) Q := by
  obtain ⟨r, s1, e, q⟩ := h.get
  unfold mRet
  simp only [e]
  exact .of rfl (q)
theorem k_retN {Q : Fl → S → Prop} (h : Q (.rt (.d .none)) s) : Ok (mRetN s) Q := .of rfl h
theorem k_drop {m : ME} {Q : Fl → S → Prop} (h : Ok (m s) fun _ s1 => Q .nx s1) : Ok (mDrop m s) Q := by
  obtain ⟨r, s1, e, q⟩ := h.get
  unfold mDrop
  simp only [e]
  exact .of rfl (q)
def kSet (i : Nat) (Q : Fl → S → Prop) (r : R) (s : S) : Prop := ∃ s', store i s r = some s' ∧ Q .nx s'
theorem kSet.d {i : Nat} {Q : Fl → S → Prop} {x : D} {a : List (Option R)} {b : Bx} (h : i < a.length) (q : Q .nx ⟨a.set i (some (.d x)), b⟩) : kSet i Q (.d x) ⟨a, b⟩ := by
  refine ⟨_, ?_, q⟩
  unfold store
  rw [if_neg (Nat.not_le.mpr h)]
  rfl
theorem kSet.o {i : Nat} {Q : Fl → S → Prop} {c : C} {a : List (Option R)} {b : Bx} (h : i < a.length) (q : Q .nx ⟨a.set i (some (.o c)), b⟩) : kSet i Q (.o c) ⟨a, b⟩ := by
  refine ⟨_, ?_, q⟩
  unfold store
  rw [if_neg (Nat.not_le.mpr h)]
theorem kSet.b {i : Nat} {Q : Fl → S → Prop} {a : List (Option R)} {b : Bx} (h : i < a.length) (q : Q .nx ⟨a.set i (some .bx), b⟩) : kSet i Q .bx ⟨a, b⟩ := by
  refine ⟨_, ?_, q⟩
  unfold store
  rw [if_neg (Nat.not_le.mpr h)]
theorem kSet.sl {i j : Nat} {Q : Fl → S → Prop} {a a2 : List (Option R)} {b b2 : Bx} {x : D} (h0 : take1 ⟨a, b⟩ (.sl j) = some (x, ⟨a2, b2⟩)) (h : i < a.length) (q : Q .nx ⟨a2.set i (some (.d x)), b2⟩) : kSet i Q (.sl j) ⟨a, b⟩ := by
  refine ⟨_, ?_, q⟩
  unfold store
  rw [if_neg (Nat.not_le.mpr h)]
  simp only [h0]
theorem k_set {i : Nat} {m : ME} {Q : Fl → S → Prop} (h : Ok (m s) (kSet i Q)) : Ok (mSet i m s) Q := by
  obtain ⟨r, s1, e, s', e2, q⟩ := h.get
  unfold mSet
  simp only [e, e2]
  exact .of rfl (q)
def kAsg (g : D → S → Option S) (Q : Fl → S → Prop) (r : R) (s : S) : Prop := ∃ d s2 s3, take1 s r = some (d, s2) ∧ g d s2 = some s3 ∧ Q .nx s3
theorem kAsg.mk {g : D → S → Option S} {Q : Fl → S → Prop} {d : D} {s3 : S} (h1 : take1 s r = some (d, s2)) (h2 : g d s2 = some s3) (q : Q .nx s3) : kAsg g Q r s := ⟨d, s2, s3, h1, h2, q⟩
theorem k_asg {m : ME} {g : D → S → Option S} {Q : Fl → S → Prop} (h : Ok (m s) (kAsg g Q)) : Ok (mAsg m g s) Q := by
  obtain ⟨r, s1, e, d, s2, s3, h1, h2, q⟩ := h.get
  unfold mAsg
  simp only [e, h1, h2]
  exact .of rfl (q)
def kPar (is : List Nat) (Q : Fl → S → Prop) (rs : List R) (s : S) : Prop := ∃ qs s2 s3, norms s rs = some (qs, s2) ∧ puts is qs s2 = some s3 ∧ Q .nx s3
theorem kPar.mk {is : List Nat} {Q : Fl → S → Prop} {rs qs : List R} {s3 : S} (h1 : norms s rs = some (qs, s2)) (h2 : puts is qs s2 = some s3) (q : Q .nx s3) : kPar is Q rs s := ⟨qs, s2, s3, h1, h2, q⟩
theorem k_par {is : List Nat} {ms : MA} {Q : Fl → S → Prop} (h : Ok (ms s) (kPar is Q)) : Ok (mPar is ms s) Q := by
  obtain ⟨rs, s1, e, qs, s2, s3, h1, h2, q⟩ := h.get
  unfold mPar
  simp only [e, h1, h2]
  exact .of rfl (q)
def kPut (i : Nat) (Q : Fl → S → Prop) (rv rk : R) (s : S) : Prop := ∃ v k s3 c c', takes s [rv, rk] = some ([v, k], s3) ∧ s3.a[i]? = some (some (.o c)) ∧ putC c k v = some c' ∧ Q .nx ⟨s3.a.set i (some (.o c')), s3.b⟩
theorem kPut.mk {i : Nat} {Q : Fl → S → Prop} {rv rk : R} {v k : D} {a3 : List (Option R)} {b3 : Bx} {c c' : C} (h1 : takes s [rv, rk] = some ([v, k], ⟨a3, b3⟩)) (h2 : a3[i]? = some (some (.o c))) (h3 : putC c k v = some c') (q : Q .nx ⟨a3.set i (some (.o c')), b3⟩) : kPut i Q rv rk s :=
  ⟨v, k, _, c, c', h1, h2, h3, q⟩
def kPutA (i : Nat) (mk : ME) (Q : Fl → S → Prop) (rv : R) (s : S) : Prop := (∃ c, s.a[i]? = some (some (.o c))) ∧ Ok (mk s) fun rk s2 => kPut i Q rv rk s2
theorem kPutA.mk {i : Nat} {mk : ME} {Q : Fl → S → Prop} {rv : R} {c : C} (h : s.a[i]? = some (some (.o c))) (q : Ok (mk s) fun rk s2 => kPut i Q rv rk s2) : kPutA i mk Q rv s := ⟨⟨c, h⟩, q⟩
theorem k_put {i : Nat} {mk mv : ME} {Q : Fl → S → Prop} (h : Ok (mv s) (kPutA i mk Q)) : Ok (mPut i mk mv s) Q := by
  obtain ⟨rv, s1, e, ⟨c0, h0⟩, h⟩ := h.get
  obtain ⟨rk, s2, e2, v, k, s3, c, c', h1, h2, h3, q⟩ := h.get
  unfold mPut
  simp only [e, h0, e2, h1, h2, h3]
  exact .of rfl (q)
/-! ## loops -/
def loopQ (I : List D → S → Prop) (r : List D) (Q : Fl → S → Prop) : Fl → S → Prop
  | .nx, s => I r s
  | .ct, s => I r s
  | .bk, s => Q .nx s
  | .rt x, s => Q (.rt x) s
theorem k_loop {g : D → S → Option S} {body : MS} {Q : Fl → S → Prop} (I : List D → S → Prop) (hs : ∀ d r s, I (d :: r) s → ∃ s1, g d s = some s1 ∧ Ok (body s1) (loopQ I r Q)) (he : ∀ s, I [] s → Q .nx s) :
    ∀ (ds : List D) (s : S), I ds s → Ok (loopL g body ds s) Q
  | [], s, h => .of rfl (he s h)
  | d :: r, s, h => by
    obtain ⟨s1, e1, h1⟩ := hs d r s h
    obtain ⟨f, s2, e2, h2⟩ := h1.get
    cases f with
    | nx => simp only [loopL, e1, e2]; exact k_loop I hs he r s2 h2
    | ct => simp only [loopL, e1, e2]; exact k_loop I hs he r s2 h2
    | bk => simp only [loopL, e1, e2]; exact .of rfl (h2)
    | rt x => simp only [loopL, e1, e2]; exact .of rfl (h2)
theorem k_for {src : MI} {g : D → S → Option S} {body : MS} {Q : Fl → S → Prop} (h : Ok (src s) fun ds s1 => Ok (loopL g body ds s1) Q) : Ok (mFor src g body s) Q := by
  obtain ⟨ds, s1, e, h⟩ := h.get
  unfold mFor
  simp only [e]
  exact h
def kIT (Q : List D → S → Prop) (r : R) (s : S) : Prop := ∃ ds s2, take1 s r = some (.tuple ds, s2) ∧ Q ds s2
theorem kIT.mk {Q : List D → S → Prop} {ds : List D} (h : take1 s r = some (.tuple ds, s2)) (q : Q ds s2) : kIT Q r s := ⟨ds, s2, h, q⟩
theorem k_iT {m : ME} {Q : List D → S → Prop} (h : Ok (m s) (kIT Q)) : Ok (iTupD m s) Q := by
  obtain ⟨r, s1, e, ds, s2, h1, q⟩ := h.get
  unfold iTupD
  simp only [e, h1]
  exact .of rfl (q)
def kIL (Q : List D → S → Prop) (r : R) (s : S) : Prop := ∃ ds s2, take1 s r = some (.list ds, s2) ∧ Q ds s2
theorem kIL.mk {Q : List D → S → Prop} {ds : List D} (h : take1 s r = some (.list ds, s2)) (q : Q ds s2) : kIL Q r s := ⟨ds, s2, h, q⟩
theorem k_iL {m : ME} {Q : List D → S → Prop} (h : Ok (m s) (kIL Q)) : Ok (iLstD m s) Q := by
  obtain ⟨r, s1, e, ds, s2, h1, q⟩ := h.get
  unfold iLstD
  simp only [e, h1]
  exact .of rfl (q)
theorem two62 : (2 : Int) ^ 62 = 4611686018427387904 := by decide
def kR1 (Q : List D → S → Prop) (rs : List R) (s : S) : Prop := ∃ j, rs = [.d (.int j)] ∧ -(2 ^ 62) ≤ j ∧ j < 2 ^ 62 ∧ Q (intsD 0 j.toNat) s
theorem kR1.mk {Q : List D → S → Prop} {j : Int} (h1 : -1000000000 ≤ j) (h2 : j ≤ 1000000000) (q : Q (intsD 0 j.toNat) s) : kR1 Q [.d (.int j)] s := ⟨j, rfl, by rw [two62]; omega, by rw [two62]; omega, q⟩
theorem k_R1 {m : MA} {Q : List D → S → Prop} (h : Ok (m s) (kR1 Q)) : Ok (iRange1 m s) Q := by
  obtain ⟨_, s1, e, j, rfl, h1, h2, q⟩ := h.get
  unfold iRange1
  have hc : -(2 ^ 62) ≤ j ∧ j < 2 ^ 62 := ⟨h1, h2⟩
  simp only [e, if_pos hc]
  exact .of rfl (q)
def kR2 (Q : List D → S → Prop) (rs : List R) (s : S) : Prop := ∃ i j, rs = [.d (.int i), .d (.int j)] ∧ (-(2 ^ 62) ≤ i ∧ i < 2 ^ 62 ∧ -(2 ^ 62) ≤ j ∧ j < 2 ^ 62) ∧ Q (intsD i (j - i).toNat) s
theorem kR2.mk {Q : List D → S → Prop} {i j : Int} (h1 : -1000000000 ≤ i) (h2 : i ≤ 1000000000) (h3 : -1000000000 ≤ j) (h4 : j ≤ 1000000000) (q : Q (intsD i (j - i).toNat) s) : kR2 Q [.d (.int i), .d (.int j)] s :=
  ⟨i, j, rfl, by rw [two62]; omega, q⟩
theorem k_R2 {m : MA} {Q : List D → S → Prop} (h : Ok (m s) (kR2 Q)) : Ok (iRange2 m s) Q := by
  obtain ⟨_, s1, e, i, j, rfl, hc, q⟩ := h.get
  unfold iRange2
  simp only [e, if_pos hc]
  exact .of rfl (q)
def kEn (Q : List D → S → Prop) (rs : List R) (s : S) : Prop := ∃ ds s2, (takes s rs = some ([.tuple ds], s2) ∨ takes s rs = some ([.list ds], s2)) ∧ Q (pairsD (intsD 0 ds.length) ds) s2
theorem kEn.t {Q : List D → S → Prop} {rs : List R} {ds : List D} (h : takes s rs = some ([.tuple ds], s2)) (q : Q (pairsD (intsD 0 ds.length) ds) s2) : kEn Q rs s := ⟨ds, s2, .inl h, q⟩
theorem kEn.l {Q : List D → S → Prop} {rs : List R} {ds : List D} (h : takes s rs = some ([.list ds], s2)) (q : Q (pairsD (intsD 0 ds.length) ds) s2) : kEn Q rs s := ⟨ds, s2, .inr h, q⟩
theorem k_en {m : MA} {Q : List D → S → Prop} (h : Ok (m s) (kEn Q)) : Ok (iEnumD m s) Q := by
  obtain ⟨rs, s1, e, ds, s2, h1, q⟩ := h.get
  unfold iEnumD
  rcases h1 with h1 | h1
  · simp only [e, h1]; exact .of rfl q
  · simp only [e, h1]; exact .of rfl q
def kZip (Q : List D → S → Prop) (rs : List R) (s : S) : Prop := ∃ ds es s2, (takes s rs = some ([.tuple ds, .tuple es], s2) ∨ takes s rs = some ([.list ds, .list es], s2)) ∧ Q (pairsD ds es) s2
theorem kZip.t {Q : List D → S → Prop} {rs : List R} {ds es : List D} (h : takes s rs = some ([.tuple ds, .tuple es], s2)) (q : Q (pairsD ds es) s2) : kZip Q rs s := ⟨ds, es, s2, .inl h, q⟩
theorem kZip.l {Q : List D → S → Prop} {rs : List R} {ds es : List D} (h : takes s rs = some ([.list ds, .list es], s2)) (q : Q (pairsD ds es) s2) : kZip Q rs s := ⟨ds, es, s2, .inr h, q⟩
theorem k_zip {m : MA} {Q : List D → S → Prop} (h : Ok (m s) (kZip Q)) : Ok (iZipD m s) Q := by
  obtain ⟨rs, s1, e, ds, es, s2, h1, q⟩ := h.get
  unfold iZipD
  rcases h1 with h1 | h1
  · simp only [e, h1]; exact .of rfl q
  · simp only [e, h1]; exact .of rfl q
/-! ## comprehensions -/
def lcQ (I : List D → List D → S → Prop) (m : ME) (r acc : List D) : Bool → S → Prop
  | true, s => Ok (m s) fun y s3 => ∃ z s4, take1 s3 y = some (z, s4) ∧ acc.length ≤ 10000 ∧ I r (acc ++ [z]) s4
  | false, s => I r acc s
theorem lcQ.t {I : List D → List D → S → Prop} {m : ME} {r acc : List D} (h : Ok (m s) fun y s3 => ∃ z s4, take1 s3 y = some (z, s4) ∧ acc.length ≤ 10000 ∧ I r (acc ++ [z]) s4) : lcQ I m r acc true s := h
theorem lcQ.f {I : List D → List D → S → Prop} {m : ME} {r acc : List D} (h : I r acc s) : lcQ I m r acc false s := h
theorem k_yes {Q : Bool → S → Prop} (q : Q true s) : Ok (mYes s) Q := .of rfl q
theorem k_lcL {g : D → S → Option S} {c : MT} {m : ME} {vs : List Nat} {Q : List D → S → Prop} (I : List D → List D → S → Prop)
    (hs : ∀ d r acc s, I (d :: r) acc s → ∃ s1, g d ⟨wipeA s.a vs, s.b⟩ = some s1 ∧ Ok (c s1) (lcQ I m r acc)) (he : ∀ acc s, I [] acc s → Q acc s) :
    ∀ (ds acc : List D) (s : S), I ds acc s → Ok (lcL g c m vs ds acc s) Q
  | [], acc, s, h => .of rfl (he acc s h)
  | d :: r, acc, s, h => by
    obtain ⟨s1, e1, h1⟩ := hs d r acc s h
    obtain ⟨t, s2, e2, h2⟩ := h1.get
    cases t with
    | false => simp only [lcL, e1, e2]; exact k_lcL I hs he r acc s2 h2
    | true =>
      obtain ⟨y, s3, e3, z, s4, e4, hz, h4⟩ := Ok.get h2
      have hz' : acc.length < sizeLine := Nat.lt_of_le_of_lt hz (Nat.lt_of_lt_of_le (by decide) big)
      simp only [lcL, e1, e2, e3, e4, if_pos hz']
      exact k_lcL I hs he r _ s4 h4
def kLc (g : D → S → Option S) (c : MT) (m : ME) (vs : List Nat) (Q : R → S → Prop) (ds : List D) (s : S) : Prop := noOwn s.a vs = true ∧ Ok (lcL g c m vs ds [] s) fun acc s2 => Q (.o (.lst acc)) ⟨backA s.a s2.a vs, s2.b⟩
theorem kLc.mk {g : D → S → Option S} {c : MT} {m : ME} {vs : List Nat} {Q : R → S → Prop} {ds : List D} (h1 : noOwn s.a vs = true) (h2 : Ok (lcL g c m vs ds [] s) fun acc s2 => Q (.o (.lst acc)) ⟨backA s.a s2.a vs, s2.b⟩) : kLc g c m vs Q ds s := ⟨h1, h2⟩
theorem k_lc {src : MI} {g : D → S → Option S} {c : MT} {m : ME} {vs : List Nat} {Q : R → S → Prop} (h : Ok (src s) (kLc g c m vs Q)) : Ok (mLc src g c m vs s) Q := by
  obtain ⟨ds, s1, e, h1, h2⟩ := h.get
  obtain ⟨acc, s2, e2, q⟩ := h2.get
  unfold mLc
  simp only [e, if_pos h1, e2]
  exact .of rfl (q)
theorem get_wipe (a : List (Option R)) : ∀ (vs : List Nat) (i : Nat), (wipeA a vs)[i]? = if i ∈ vs then (a[i]?).map fun _ => none else a[i]?
  | [], i => by simp [wipeA]
  | v :: vs, i => by
    simp only [wipeA, List.getElem?_set, List.mem_cons]
    have hl : (wipeA a vs).length = a.length := by
      clear i
      induction vs with
      | nil => rfl
      | cons v vs ih => simp only [wipeA, List.length_set, ih]
    by_cases e : v = i
    · subst e
      simp only [hl, true_or, if_true]
      by_cases h : v < a.length
      · simp [h]
      · simp [h]
    · have e' : ¬ i = v := fun h => e h.symm
      simp only [e, e', if_false, false_or, get_wipe a vs i]
theorem len_wipe (a : List (Option R)) : ∀ vs : List Nat, (wipeA a vs).length = a.length
  | [] => rfl
  | v :: vs => by simp only [wipeA, List.length_set, len_wipe a vs]
theorem get_back (a0 a : List (Option R)) (hl : a.length = a0.length) : ∀ (vs : List Nat) (i : Nat), (backA a0 a vs)[i]? = if i ∈ vs then a0[i]? else a[i]?
  | [], i => by simp [backA]
  | v :: vs, i => by
    have hb : (backA a0 a vs).length = a.length := by
      clear i
      induction vs with
      | nil => rfl
      | cons v vs ih => simp only [backA, List.length_set, ih]
    simp only [backA, List.getElem?_set, List.mem_cons, hb]
    by_cases e : v = i
    · subst e
      simp only [true_or, if_true]
      by_cases h : v < a.length
      · have h' : v < a0.length := hl ▸ h
        simp only [h, if_true]
        cases hh : a0[v]? with
        | none => simp at hh; omega
        | some x => rfl
      · have h' : ¬ v < a0.length := hl ▸ h
        simp [h, h', Nat.not_lt.mp h']
    · have e' : ¬ i = v := fun h => e h.symm
      simp only [e, e', if_false, false_or, get_back a0 a hl vs i]
theorem back_wipe {a0 a : List (Option R)} {vs : List Nat} (h : wipeA a vs = wipeA a0 vs) : backA a0 a vs = a0 := by
  have hl : a.length = a0.length := by rw [← len_wipe a vs, h, len_wipe a0 vs]
  refine List.ext_getElem? fun i => ?_
  rw [get_back a0 a hl vs i]
  split
  · rfl
  · rename_i hi
    have e1 := get_wipe a vs i
    have e2 := get_wipe a0 vs i
    rw [if_neg hi] at e1 e2
    rw [← e1, h, e2]
inductive All2 (P : D → D → Prop) : List D → List D → Prop
  | nil : All2 P [] []
  | cons {x y : D} {xs ys : List D} : P x y → All2 P xs ys → All2 P (x :: xs) (y :: ys)
theorem All2.length {P : D → D → Prop} {xs ys : List D} (h : All2 P xs ys) : ys.length = xs.length := by
  induction h with
  | nil => rfl
  | cons _ _ ih => simp [ih]
theorem All2.snoc {P : D → D → Prop} {xs ys : List D} {x y : D} (h : All2 P xs ys) (p : P x y) : All2 P (xs ++ [x]) (ys ++ [y]) := by
  induction h with
  | nil => exact .cons p .nil
  | cons q _ ih => exact .cons q ih
theorem All2.right {P : D → D → Prop} {T : D → Prop} {xs ys : List D} (h : All2 P xs ys) (t : ∀ x y, P x y → T y) : ∀ y ∈ ys, T y := by
  induction h with
  | nil => simp
  | cons p _ ih =>
    intro y hy
    rcases List.mem_cons.mp hy with rfl | hy
    · exact t _ _ p
    · exact ih y hy
/-- a comprehension without a test, whose element may draw -/
theorem kLc.map {g : D → S → Option S} {m : ME} {vs : List Nat} {Q : R → S → Prop} {ds : List D} {a : List (Option R)} {b : Bx} (P : D → D → Prop) (h1 : noOwn a vs = true) (hl : ds.length ≤ 10000)
    (hs : ∀ d ∈ ds, ∀ b, ∃ s1, g d ⟨wipeA a vs, b⟩ = some s1 ∧ Ok (m s1) fun y s3 => ∃ z, take1 s3 y = some (z, s3) ∧ wipeA s3.a vs = wipeA a vs ∧ P d z)
    (q : ∀ (zs : List D) (b : Bx), All2 P ds zs → Q (.o (.lst zs)) ⟨a, b⟩) : kLc g mYes m vs Q ds ⟨a, b⟩ := by
  refine ⟨h1, ?_⟩
  refine k_lcL (fun r acc s => wipeA s.a vs = wipeA a vs ∧ ∃ done, ds = done ++ r ∧ All2 P done acc) ?_ ?_ ds [] _ ⟨rfl, [], rfl, .nil⟩
  · rintro d r acc s ⟨hw, done, e, hd⟩
    have hm : d ∈ ds := by rw [e]; simp
    obtain ⟨s1, e1, h2⟩ := hs d hm s.b
    refine ⟨s1, by rw [hw]; exact e1, ?_⟩
    refine k_yes (lcQ.t (h2.mono ?_))
    rintro y s3 ⟨z, e3, hw3, p⟩
    refine ⟨z, s3, e3, ?_, hw3, done ++ [d], by rw [e]; simp, hd.snoc p⟩
    have := hd.length
    rw [this]
    have hh : ds.length = done.length + (r.length + 1) := by rw [e]; simp
    omega
  · rintro acc s ⟨hw, done, e, hd⟩
    rw [List.append_nil] at e
    show Q (.o (.lst acc)) ⟨backA a s.a vs, s.b⟩
    rw [back_wipe hw]
    exact q acc s.b (e ▸ hd)
/-- a comprehension that leaves the box alone -/
theorem kLc.pure {g : D → S → Option S} {c : MT} {m : ME} {vs : List Nat} {Q : R → S → Prop} {ds : List D} {a : List (Option R)} {b : Bx} (F : D → Option D) (h1 : noOwn a vs = true) (hl : ds.length ≤ 10000)
    (hs : ∀ d ∈ ds, ∃ s1, g d ⟨wipeA a vs, b⟩ = some s1 ∧ Ok (c s1) fun t s2 => (t = true → Ok (m s2) fun y s3 => ∃ z, take1 s3 y = some (z, s3) ∧ wipeA s3.a vs = wipeA a vs ∧ s3.b = b ∧ F d = some z) ∧ (t = false → wipeA s2.a vs = wipeA a vs ∧ s2.b = b ∧ F d = none))
    (q : Q (.o (.lst (ds.filterMap F))) ⟨a, b⟩) : kLc g c m vs Q ds ⟨a, b⟩ := by
  refine ⟨h1, ?_⟩
  refine k_lcL (fun r acc s => wipeA s.a vs = wipeA a vs ∧ s.b = b ∧ ∃ done, ds = done ++ r ∧ acc = done.filterMap F) ?_ ?_ ds [] _ ⟨rfl, rfl, [], rfl, rfl⟩
  · rintro d r acc s ⟨hw, hb, done, e, hd⟩
    have hm : d ∈ ds := by rw [e]; simp
    obtain ⟨s1, e1, h2⟩ := hs d hm
    refine ⟨s1, by rw [hw, hb]; exact e1, h2.mono ?_⟩
    rintro t s2 ⟨ht, hf⟩
    cases t with
    | false =>
      obtain ⟨k1, k2, k3⟩ := hf rfl
      exact ⟨k1, k2, done ++ [d], by rw [e]; simp, by rw [hd, List.filterMap_append]; simp [k3]⟩
    | true =>
      refine (ht rfl).mono ?_
      rintro y s3 ⟨z, e3, hw3, hb3, p⟩
      refine ⟨z, s3, e3, ?_, hw3, hb3, done ++ [d], by rw [e]; simp, by rw [hd, List.filterMap_append]; simp [p]⟩
      rw [hd]
      have hh : ds.length = done.length + (r.length + 1) := by rw [e]; simp
      have := List.length_filterMap_le F done
      omega
  · rintro acc s ⟨hw, hb, done, e, hd⟩
    rw [List.append_nil] at e
    show Q (.o (.lst acc)) ⟨backA a s.a vs, s.b⟩
    rw [back_wipe hw, hb, hd, ← e]
    exact q
/-! ## displays, dicts, lists of a dict, the box -/
theorem k_newT {Q : R → S → Prop} (q : Q (.o (.dT [])) s) : Ok (mNewT s) Q := .of rfl q
theorem k_newK {Q : R → S → Prop} (q : Q (.o (.dK [])) s) : Ok (mNewK s) Q := .of rfl q
def kDisp (Q : R → S → Prop) (rs : List R) (s : S) : Prop := ∃ xs s2 kvs, takes s rs = some (xs, s2) ∧ pairsK xs = some kvs ∧ kvs.length ≤ 15 ∧ Q (.o (.dK (dMerge [] kvs))) s2
theorem kDisp.mk {Q : R → S → Prop} {rs : List R} {xs : List D} {kvs : List (Key × D)} (h1 : takes s rs = some (xs, s2)) (h2 : pairsK xs = some kvs) (h3 : kvs.length ≤ 15) (q : Q (.o (.dK (dMerge [] kvs))) s2) : kDisp Q rs s := ⟨xs, s2, kvs, h1, h2, h3, q⟩
theorem k_disp {ms : MA} {Q : R → S → Prop} (h : Ok (ms s) (kDisp Q)) : Ok (mDisp ms s) Q := by
  obtain ⟨rs, s1, e, xs, s2, kvs, h1, h2, h3, q⟩ := h.get
  unfold mDisp
  simp only [e, h1, h2, if_pos h3]
  exact .of rfl (q)
def kList (Q : R → S → Prop) (rs : List R) (s : S) : Prop := ∃ r, rs = [r] ∧ ((∃ l, viewT s r = some l ∧ Q (.o (.lst (keysD l))) s) ∨ (viewT s r = none ∧ ∃ x q, view s r = some x ∧ fLst [x] = some q ∧ Q q s))
theorem kList.t {Q : R → S → Prop} {l : List (List Key × D)} (h : viewT s r = some l) (q : Q (.o (.lst (keysD l))) s) : kList Q [r] s := ⟨r, rfl, .inl ⟨l, h, q⟩⟩
theorem kList.d {Q : R → S → Prop} {x : D} {q : R} (h0 : viewT s r = none) (h : view s r = some x) (h2 : fLst [x] = some q) (k : Q q s) : kList Q [r] s := ⟨r, rfl, .inr ⟨h0, x, q, h, h2, k⟩⟩
theorem k_list {ms : MA} {Q : R → S → Prop} (h : Ok (ms s) (kList Q)) : Ok (mList ms s) Q := by
  obtain ⟨_, s1, e, r, rfl, h⟩ := h.get
  unfold mList
  rcases h with ⟨l, h1, q⟩ | ⟨h0, x, q, h1, h2, k⟩
  · simp only [e, h1]; exact .of rfl (q)
  · simp only [e, h0, h1, h2]; exact .of rfl (k)
def kBox (Q : R → S → Prop) (rs : List R) (s : S) : Prop := ∃ l i ns, rs = [.d (.str "great"), .o (.lst l), .d (.str "stirred"), .d (.int i), .d (.str "count"), .d (.int 0)] ∧ s.b.c < 0 ∧ intsD? l = some ns ∧ Q .bx ⟨s.a, ⟨ns, i, 0⟩⟩
theorem kBox.mk {Q : R → S → Prop} {l : List D} {i : Int} {ns : List Int} {a : List (Option R)} {b : Bx} (h1 : b.c < 0) (h2 : intsD? l = some ns) (q : ∀ b, Q .bx ⟨a, b⟩) : kBox Q [.d (.str "great"), .o (.lst l), .d (.str "stirred"), .d (.int i), .d (.str "count"), .d (.int 0)] ⟨a, b⟩ := ⟨l, i, ns, rfl, h1, h2, q _⟩
theorem k_box {ms : MA} {Q : R → S → Prop} (h0 : s.b.c < 0) (h : Ok (ms s) (kBox Q)) : Ok (mBox ms s) Q := by
  obtain ⟨_, s1, e, l, i, ns, rfl, h1, h2, q⟩ := h.get
  have hc : ("great" : Str) = "great" ∧ ("stirred" : Str) = "stirred" ∧ ("count" : Str) = "count" ∧ (0 : Int) ≤ 0 ∧ s1.b.c < 0 := ⟨rfl, rfl, rfl, Int.le_refl _, h1⟩
  refine Ok.of ?_ q
  unfold mBox
  rw [if_pos h0, e]
  exact (if_pos hc).trans (by rw [h2])
def kChain (f g : D → D → Option R) (m3 : ME) (Q : R → S → Prop) (r1 r2 : R) (s : S) : Prop := ∃ x y t, view s r1 = some x ∧ view s r2 = some y ∧ f x y = some (.d (.bool t)) ∧ (t = false → Q (.d (.bool false)) s) ∧ (t = true → Ok (m3 s) fun r3 s3 => kOp g Q r2 r3 s3)
theorem kChain.mk {f g : D → D → Option R} {m3 : ME} {Q : R → S → Prop} {r1 r2 : R} {x y : D} {t : Bool} (h1 : view s r1 = some x) (h2 : view s r2 = some y) (h3 : f x y = some (.d (.bool t))) (q : t = false → Q (.d (.bool false)) s) (q' : t = true → Ok (m3 s) fun r3 s3 => kOp g Q r2 r3 s3) : kChain f g m3 Q r1 r2 s := ⟨x, y, t, h1, h2, h3, q, q'⟩
theorem k_chain {f g : D → D → Option R} {m1 m2 m3 : ME} {Q : R → S → Prop} (h : Ok (m1 s) fun r1 s1 => Ok (m2 s1) fun r2 s2 => kChain f g m3 Q r1 r2 s2) : Ok (mChain f g m1 m2 m3 s) Q := by
  obtain ⟨r1, s1, e, h⟩ := h.get
  obtain ⟨r2, s2, e2, x, y, t, h1, h2, h3, hf, ht⟩ := h.get
  unfold mChain
  cases t with
  | false => simp only [e, e2, h1, h2, h3]; exact .of rfl (hf rfl)
  | true =>
    obtain ⟨r3, s3, e3, x', y', r, h4, h5, h6, q⟩ := (ht rfl).get
    simp only [e, e2, h1, h2, h3, e3, h4, h5, h6]
    exact .of rfl (q)
end
/-! ## defs -/
def finQ (Q : R → Bx → Prop) : Fl → S → Prop
  | .nx, s => Q (.d .none) s.b
  | .rt r, s => OkF (fin s r) Q
  | _, _ => False
theorem finQ.nx {Q : R → Bx → Prop} {a : List (Option R)} {b : Bx} (h : Q (.d .none) b) : finQ Q .nx ⟨a, b⟩ := h
theorem finQ.d {Q : R → Bx → Prop} {a : List (Option R)} {b : Bx} {x : D} (h : Q (.d x) b) : finQ Q (.rt (.d x)) ⟨a, b⟩ := .of rfl h
theorem finQ.o {Q : R → Bx → Prop} {a : List (Option R)} {b : Bx} {c : C} (h : Q (.o c) b) : finQ Q (.rt (.o c)) ⟨a, b⟩ := .of rfl h
theorem finQ.b {Q : R → Bx → Prop} {a : List (Option R)} {b : Bx} (h : Q .bx b) : finQ Q (.rt .bx) ⟨a, b⟩ := .of rfl h
theorem finQ.s {Q : R → Bx → Prop} {a : List (Option R)} {b : Bx} {i : Nat} {c : C} (h0 : a[i]? = some (some (.o c))) (h : Q (.o c) b) : finQ Q (.rt (.sl i)) ⟨a, b⟩ := by
  show OkF (fin ⟨a, b⟩ (.sl i)) Q
  unfold fin
  simp only [h0]
  exact .of rfl (h)
theorem k_run {N : Nat} {body : MS} {rs : List R} {b : Bx} {a0 : List (Option R)} {Q : R → Bx → Prop} (h0 : rs.map some ++ List.replicate (N - rs.length) none = a0) (h : Ok (body ⟨a0, b⟩) (finQ Q)) : OkF (runF N body rs b) Q := by
  obtain ⟨f, s, e, q⟩ := h.get
  unfold runF S.init
  rw [h0, e]
  cases f with
  | nx => exact .of rfl q
  | rt r => exact q
  | bk => exact q.elim
  | ct => exact q.elim
theorem Gv.run {N : Nat} {body : MS} {rs : List R} {a0 : List (Option R)} {P : R → Prop} (h0 : rs.map some ++ List.replicate (N - rs.length) none = a0) (h : ∀ b, Ok (body ⟨a0, b⟩) (finQ fun r _ => P r)) : Gv (runF N body) rs P := ⟨fun b => k_run h0 (h b)⟩
end Qz
namespace Qz
open PySem PySem.Spec L2
open PyProof.Rows hiding St
/-! ## what operators answer -/
section
variable {i j : Int} {x y : D} {l r : List D} {t : Bool}
theorem o_addI : dAdd (.int i) (.int j) = some (.d (.int (i + j))) := rfl
theorem o_subI : dSub (.int i) (.int j) = some (.d (.int (i - j))) := rfl
theorem o_ltI : dLt (.int i) (.int j) = some (.d (.bool (decide (i < j)))) := rfl
theorem o_gtI : dGt (.int i) (.int j) = some (.d (.bool (decide (j < i)))) := rfl
theorem o_leI : dLe (.int i) (.int j) = some (.d (.bool (decide (i ≤ j)))) := rfl
theorem o_geI : dGe (.int i) (.int j) = some (.d (.bool (decide (j ≤ i)))) := rfl
theorem o_negI : dNeg (.int i) = some (.d (.int (-i))) := rfl
theorem o_eqI : dEq (.int i) (.int j) = some (.d (.bool (i == j))) := by
  simp [dEq, eqOk, PyData.hasDict, SeqAt.shaped, PyData.canLay0, PyData.depth, PyData.eqv]
theorem o_neI : dNe (.int i) (.int j) = some (.d (.bool (!(i == j)))) := by
  simp [dNe, eqOk, PyData.hasDict, SeqAt.shaped, PyData.canLay0, PyData.depth, PyData.eqv]
theorem o_isN : dIsN x .none = some (.d (.bool (isNoneD x))) := rfl
theorem o_notN : dNotN x .none = some (.d (.bool (!(isNoneD x)))) := rfl
theorem two64 : (2 : Int) ^ 64 = 18446744073709551616 := by decide
theorem o_mulL (h1 : -1000000000000 ≤ i) (h2 : i ≤ 1000000000000) : dMul (.int i) (.int j) = some (.d (.int (i * j))) := by
  have : mulOk i j = true := by
    simp only [mulOk, Bool.or_eq_true, Bool.and_eq_true, decide_eq_true_eq, two64]
    left; left; omega
  simp [dMul, this]
theorem o_mulR (h1 : -1000000000000 ≤ j) (h2 : j ≤ 1000000000000) : dMul (.int i) (.int j) = some (.d (.int (i * j))) := by
  have : mulOk i j = true := by
    simp only [mulOk, Bool.or_eq_true, Bool.and_eq_true, decide_eq_true_eq, two64]
    left; right; omega
  simp [dMul, this]
theorem o_mod (h : 0 < j) : dMod (.int i) (.int j) = some (.d (.int (i % j))) := if_pos h
theorem o_fdiv (h : 0 < j) (h2 : j < 1267650600228229401496703205376) : dFdiv (.int i) (.int j) = some (.d (.int (i / j))) := by
  rw [← Int.fdiv_eq_ediv_of_nonneg i (show 0 ≤ j by omega)]
  exact if_pos ⟨by omega, by omega, h2⟩
theorem o_fdivN (h : j ≠ 0) (h1 : -1267650600228229401496703205376 < j) (h2 : j < 1267650600228229401496703205376) : dFdiv (.int i) (.int j) = some (.d (.int (i.fdiv j))) := if_pos ⟨h, h1, h2⟩
theorem o_addL (h : l.length + r.length ≤ 10000) : dAdd (.list l) (.list r) = some (.o (.lst (l ++ r))) := if_pos (Nat.le_trans h (Nat.le_trans (by decide) big))
theorem o_addT (h : l.length + r.length ≤ 10000) : dAdd (.tuple l) (.tuple r) = some (.d (.tuple (l ++ r))) := if_pos (Nat.le_trans h (Nat.le_trans (by decide) big))
theorem o_addT2 (h : l.length ≤ 5000) (h2 : r.length ≤ 5000) : dAdd (.tuple l) (.tuple r) = some (.d (.tuple (l ++ r))) := o_addT (by omega)
theorem o_addL2 (h : l.length ≤ 5000) (h2 : r.length ≤ 5000) : dAdd (.list l) (.list r) = some (.o (.lst (l ++ r))) := o_addL (by omega)
theorem app_le {m n : Nat} (h : l.length ≤ m) (h2 : r.length ≤ n) : (l ++ r).length ≤ m + n := by rw [List.length_append]; omega
theorem o_len_l : fLen [.list l] = some (.d (.int l.length)) := rfl
theorem o_len_t : fLen [.tuple l] = some (.d (.int l.length)) := rfl
theorem o_tup_l : fTup [.list l] = some (.d (.tuple l)) := rfl
theorem o_tup_t : fTup [.tuple l] = some (.d (.tuple l)) := rfl
theorem o_absI : fAbs [.int i] = some (.d (.int (if i < 0 then -i else i))) := rfl
theorem o_intI : fInt [.int i] = some (.d (.int i)) := rfl
theorem o_intB : fInt [.bool t] = some (.d (.int (if t then 1 else 0))) := rfl
theorem o_maxI : fMax2 [.int i, .int j] = some (.d (.int (if j > i then j else i))) := rfl
theorem o_minI : fMin2 [.int i, .int j] = some (.d (.int (if j < i then j else i))) := rfl
theorem o_revT : dRev (.tuple l) = some (.d (.tuple l.reverse)) := rfl
theorem o_revL : dRev (.list l) = some (.o (.lst l.reverse)) := rfl
theorem o_idxT {d : D} (h0 : 0 ≤ i) (h : l[i.toNat]? = some d) : dIdx (.tuple l) (.int i) = some (.d d) := by
  have hl : i < l.length := by
    have := (List.getElem?_eq_some_iff.mp h).1
    omega
  have hg := (List.getElem?_eq_some_iff.mp h).2
  simp [dIdx, atI, ixN, h0, hl, hg]
theorem o_idxL {d : D} (h0 : 0 ≤ i) (h : l[i.toNat]? = some d) : dIdx (.list l) (.int i) = some (.d d) := by
  have hl : i < l.length := by
    have := (List.getElem?_eq_some_iff.mp h).1
    omega
  have hg := (List.getElem?_eq_some_iff.mp h).2
  simp [dIdx, atI, ixN, h0, hl, hg]
theorem o_idx0 : dIdx (.tuple (x :: l)) (.int 0) = some (.d x) := o_idxT (Int.le_refl _) rfl
theorem o_idx1 : dIdx (.tuple (x :: y :: l)) (.int 1) = some (.d y) := o_idxT (by decide) rfl
theorem o_idx2 {z : D} : dIdx (.tuple (x :: y :: z :: l)) (.int 2) = some (.d z) := o_idxT (by decide) rfl
theorem o_idx3 {z u : D} : dIdx (.tuple (x :: y :: z :: u :: l)) (.int 3) = some (.d u) := o_idxT (by decide) rfl
theorem o_cutT {lo hi : Option Int} : dCut (.tuple l) lo hi = some (.d (.tuple (cutG l lo hi))) := rfl
theorem o_cutL {lo hi : Option Int} : dCut (.list l) lo hi = some (.o (.lst (cutG l lo hi))) := rfl
theorem o_repr (h : fitsD x = true) : fRepr [x] = some (.d (.str x.shown)) := if_pos h
theorem o_isT : fIsi "tuple" (.tuple l) = some (.d (.bool true)) := rfl
theorem o_lstL : fLst [.list l] = some (.o (.lst l)) := rfl
theorem o_lstT : fLst [.tuple l] = some (.o (.lst l)) := rfl
end
/-! ## slices -/
theorem cut_head {α : Type} (l : List α) (i : Int) (h : 0 ≤ i) : cutG l none (some i) = l.take i.toNat := by
  have e : HT.sIx l.length l.length (some i) = min i.toNat l.length := if_neg (Int.not_lt.mpr h)
  unfold cutG
  rw [e, HT.sIx_none, List.drop_zero, Nat.sub_zero, List.take_eq_take_iff]
  omega
theorem cut_tail {α : Type} (l : List α) (i : Int) (h : 0 ≤ i) : cutG l (some i) none = l.drop i.toNat := by
  have e : HT.sIx l.length 0 (some i) = min i.toNat l.length := if_neg (Int.not_lt.mpr h)
  unfold cutG
  rw [e, HT.sIx_none]
  by_cases c : i.toNat ≤ l.length
  · rw [Nat.min_eq_left c]
    exact List.take_of_length_le (by simp)
  · rw [Nat.min_eq_right (by omega), Nat.sub_self, List.take_zero, List.drop_of_length_le (by omega)]
end Qz
namespace Qz
open PySem PySem.Spec L2 PySem.Builtin PySem.StrLaws
open PyProof.Rows hiding St
/-! ## texts that repr makes -/
def Cp (x : Str) : Prop := ∀ c ∈ x.cps.toList, c < 1114112
theorem Cp.app {x y : Str} (hx : Cp x) (hy : Cp y) : Cp (x ++ y) := fun c hc => by
  rw [Str.cps_append, Array.toList_append] at hc
  rcases List.mem_append.mp hc with h | h
  · exact hx c h
  · exact hy c h
theorem Cp.lay {x : Str} (h : Cp x) : SeqAt.shaped (.str x) = true := by
  have h2 : PyData.strOk x = true := by
    unfold PyData.strOk
    rw [Array.all_eq_true_iff_forall_mem]
    intro c hc
    exact decide_eq_true (h c (Array.mem_toList_iff.mpr hc))
  simp [SeqAt.shaped, PyData.canLay0, PyData.depth, h2]
theorem Cp.join {g : Str} (hg : Cp g) : ∀ ts : List Str, (∀ t ∈ ts, Cp t) → Cp (Str.join g ts)
  | [], _ => by intro c hc; exact nomatch hc
  | [t], h => h t List.mem_cons_self
  | t :: u :: r, h => by
    have ih := Cp.join hg (u :: r) fun x hx => h x (List.mem_cons_of_mem _ hx)
    show Cp (t ++ g ++ Str.join g (u :: r))
    exact ((h t List.mem_cons_self).app hg).app ih
theorem cp_int (i : Int) : Cp (PyData.int i).shown := fun c hc => by
  by_cases h : c < 1114112
  · exact h
  · exact absurd hc (PyProof.Rows.shown_int_free' (k := c) ⟨by omega, by omega⟩ i)
theorem cp_hex (w c : Nat) : ∀ d ∈ List.replicate (w - ((Nat.toDigits 16 c).map Char.toNat).length) 48 ++ (Nat.toDigits 16 c).map Char.toNat, d < 1114112 := fun d hd => by
  rcases List.mem_append.mp hd with h | h
  · have := List.eq_of_mem_replicate h
    omega
  · obtain ⟨ch, _, rfl⟩ := List.mem_map.mp h
    have hv := ch.valid
    have hn : ch.toNat = ch.val.toNat := rfl
    rcases hv with h1 | ⟨_, h2⟩
    · omega
    · omega
theorem cp_reprChar {q c : Nat} (hq : q < 1114112) (hc : c < 1114112) : ∀ d ∈ Str.reprChar q c, d < 1114112 := by
  intro d hd
  unfold Str.reprChar at hd
  simp only at hd
  repeat' split at hd
  all_goals simp only [List.mem_cons, List.not_mem_nil, or_false, List.cons_append, List.nil_append] at hd
  · rcases hd with rfl | rfl <;> omega
  · rcases hd with rfl | rfl <;> omega
  · rcases hd with rfl | rfl <;> omega
  · rcases hd with rfl | rfl <;> omega
  · subst hd; omega
  · rcases hd with rfl | rfl | hd
    · omega
    · omega
    · exact cp_hex 2 c d hd
  · rcases hd with rfl | rfl | hd
    · omega
    · omega
    · exact cp_hex 4 c d hd
  · rcases hd with rfl | rfl | hd
    · omega
    · omega
    · exact cp_hex 8 c d hd
theorem cp_fold {q : Nat} (hq : q < 1114112) : ∀ (l : List Nat) (acc : Array Nat), (∀ c ∈ l, c < 1114112) → (∀ c ∈ acc.toList, c < 1114112) → ∀ c ∈ (l.foldl (fun out c => out ++ (Str.reprChar q c).toArray) acc).toList, c < 1114112
  | [], acc, _, h, c, hc => h c hc
  | x :: r, acc, hl, h, c, hc => by
    refine cp_fold hq r (acc ++ (Str.reprChar q x).toArray) (fun y hy => hl y (List.mem_cons_of_mem _ hy)) (fun y hy => ?_) c hc
    rw [Array.toList_append] at hy
    rcases List.mem_append.mp hy with hy | hy
    · exact h y hy
    · exact cp_reprChar hq (hl x List.mem_cons_self) y (by simpa using hy)
theorem Cp.repr {x : Str} (h : Cp x) : Cp (PySem.reprText x) := fun c hc => by
  have hq : PySem.reprQuote x < 1114112 := by
    unfold PySem.reprQuote
    split <;> decide
  unfold PySem.reprText at hc
  simp only [Array.toList_push, ← Array.foldl_toList] at hc
  rcases List.mem_append.mp hc with hc | hc
  · refine cp_fold hq _ _ h (fun y hy => ?_) c hc
    have : y = PySem.reprQuote x := by simpa using hy
    omega
  · have : c = PySem.reprQuote x := by simpa using hc
    omega
structure Fit (n k : Nat) (d : D) : Prop where
  sho : d.showable = true
  dep : d.depth ≤ k
  len : d.shown.length ≤ n
  cps : Cp d.shown
theorem Fit.mono {n k n' k' : Nat} {d : D} (h : Fit n k d) (h1 : n ≤ n') (h2 : k ≤ k') : Fit n' k' d := ⟨h.sho, Nat.le_trans h.dep h2, Nat.le_trans h.len h1, h.cps⟩
theorem Fit.ok {n k : Nat} {d : D} (h : Fit n k d) (h1 : n ≤ 10000000) (h2 : k ≤ 150) : fitsD d = true := by
  have e : 10000000 ≤ sizeLine := by decide
  simp only [fitsD, Bool.and_eq_true, decide_eq_true_eq]
  exact ⟨⟨h.sho, Nat.le_trans h.dep h2⟩, Nat.le_trans h.len (Nat.le_trans h1 e)⟩
theorem fit_none : Fit 4 0 .none := ⟨rfl, Nat.le_refl _, by decide, by rw [PyData.shown_none]; unfold Cp; decide⟩
theorem fit_bool (b : Bool) : Fit 5 0 (.bool b) := ⟨rfl, Nat.le_refl _, by cases b <;> decide, by rw [PyData.shown_bool]; unfold Cp; cases b <;> decide⟩
theorem fit_int {i : Int} (k : Nat) (hk : 0 < k) (hk2 : k ≤ 500) (h : i.natAbs < 10 ^ k) : Fit (k + 1) 0 (.int i) := by
  refine ⟨?_, Nat.le_refl _, ?_, cp_int i⟩
  · simp only [PyData.showable, decide_eq_true_eq]
    by_cases h0 : i.natAbs = 0
    · rw [h0]; decide
    · rw [Nat.log2_lt h0]
      refine Nat.lt_of_lt_of_le h ?_
      refine Nat.le_trans (Nat.pow_le_pow_right (by decide) hk2) ?_
      decide +kernel
  · rw [PyData.shown_int]
    show (Str.ofString (toString i)).length ≤ k + 1
    rw [PySem.ofString_length]
    exact int_text_length_le10 hk h
theorem fit_str {x : Str} (n : Nat) (h : Cp x) (hn : x.length ≤ n) : Fit (10 * n + 2) 0 (.str x) := by
  refine ⟨rfl, Nat.le_refl _, ?_, by rw [PyData.shown_str]; exact h.repr⟩
  rw [PyData.shown_str]
  have := StrLaws.reprText_len x fun c hc => Nat.lt_trans (h c hc) (by decide)
  omega
theorem showAll_mem : ∀ (ds : List D) (t : Str), t ∈ PyData.shownAll ds → ∃ d ∈ ds, t = d.shown
  | [], _, h => by simp [PyData.shownAll] at h
  | d :: r, t, h => by
    rw [PyData.shownAll_cons] at h
    rcases List.mem_cons.mp h with rfl | h
    · exact ⟨d, List.mem_cons_self, rfl⟩
    · obtain ⟨e, m, he⟩ := showAll_mem r t h
      exact ⟨e, List.mem_cons_of_mem _ m, he⟩
theorem sum_le {n : Nat} : ∀ ts : List Str, (∀ t ∈ ts, t.length ≤ n) → (ts.map (·.length)).sum ≤ ts.length * n
  | [], _ => by simp
  | t :: r, h => by
    have h1 := sum_le r fun x hx => h x (List.mem_cons_of_mem _ hx)
    have h2 := h t List.mem_cons_self
    simp only [List.map_cons, List.sum_cons, List.length_cons, Nat.succ_mul]
    omega
theorem depAll {k : Nat} : ∀ ds : List D, (∀ d ∈ ds, d.depth ≤ k) → PyData.depthAll ds ≤ k
  | [], _ => Nat.zero_le _
  | d :: r, h => Nat.max_le.mpr ⟨h d List.mem_cons_self, depAll r fun x hx => h x (List.mem_cons_of_mem _ hx)⟩
theorem shoAll : ∀ ds : List D, (∀ d ∈ ds, d.showable = true) → PyData.showableAll ds = true
  | [], _ => rfl
  | d :: r, h => by
    simp only [PyData.showableAll, Bool.and_eq_true]
    exact ⟨h d List.mem_cons_self, shoAll r fun x hx => h x (List.mem_cons_of_mem _ hx)⟩
theorem cp_comma : Cp ", " := by unfold Cp; decide
theorem fit_tup {n k : Nat} {l : List D} (m : Nat) (hm : l.length ≤ m) (h : ∀ d ∈ l, Fit n k d) : Fit (m * (n + 2) + 3) (k + 1) (.tuple l) := by
  have hn : ∀ t ∈ PyData.shownAll l, t.length ≤ n := fun t ht => by
    obtain ⟨d, hd, rfl⟩ := showAll_mem l t ht
    exact (h d hd).len
  have hc : ∀ t ∈ PyData.shownAll l, Cp t := fun t ht => by
    obtain ⟨d, hd, rfl⟩ := showAll_mem l t ht
    exact (h d hd).cps
  refine ⟨shoAll l fun d hd => (h d hd).sho, ?_, ?_, ?_⟩
  · show PyData.depthAll l + 1 ≤ k + 1
    exact Nat.succ_le_succ (depAll l fun d hd => (h d hd).dep)
  · have h1 := tupleText_len_le (PyData.shownAll l)
    have h2 := sum_le (PyData.shownAll l) hn
    have h3 := PyData.shownAll_length l
    rw [h3] at h1 h2
    have h4 : (PyData.tuple l).shown = tupleText (PyData.shownAll l) := by simp only [PyData.shown]
    rw [h4]
    have h5 : l.length * (n + 2) ≤ m * (n + 2) := Nat.mul_le_mul_right _ hm
    have h6 : l.length * (n + 2) = l.length * n + l.length * 2 := Nat.mul_add ..
    omega
  · rw [PyData.shown_tuple]
    refine ((?_ : Cp "(").app (cp_comma.join _ hc)).app ?_
    · unfold Cp; decide
    · split <;> (unfold Cp; decide)
theorem fit_lst {n k : Nat} {l : List D} (m : Nat) (hm : l.length ≤ m) (h : ∀ d ∈ l, Fit n k d) : Fit (m * (n + 2) + 3) (k + 1) (.list l) := by
  have hn : ∀ t ∈ PyData.shownAll l, t.length ≤ n := fun t ht => by
    obtain ⟨d, hd, rfl⟩ := showAll_mem l t ht
    exact (h d hd).len
  have hc : ∀ t ∈ PyData.shownAll l, Cp t := fun t ht => by
    obtain ⟨d, hd, rfl⟩ := showAll_mem l t ht
    exact (h d hd).cps
  refine ⟨shoAll l fun d hd => (h d hd).sho, ?_, ?_, ?_⟩
  · show PyData.depthAll l + 1 ≤ k + 1
    exact Nat.succ_le_succ (depAll l fun d hd => (h d hd).dep)
  · have h1 := listText_len_le (PyData.shownAll l)
    have h2 := sum_le (PyData.shownAll l) hn
    have h3 := PyData.shownAll_length l
    rw [h3] at h1 h2
    have h4 : (PyData.list l).shown = listText (PyData.shownAll l) := by simp only [PyData.shown]
    rw [h4]
    have h5 : l.length * (n + 2) ≤ m * (n + 2) := Nat.mul_le_mul_right _ hm
    have h6 : l.length * (n + 2) = l.length * n + l.length * 2 := Nat.mul_add ..
    omega
  · rw [PyData.shown_list]
    refine ((?_ : Cp "[").app (cp_comma.join _ hc)).app ?_
    · unfold Cp; decide
    · unfold Cp; decide
theorem fit_dict0 : Fit 2 1 (.dict []) := ⟨rfl, Nat.le_refl _, by decide, by rw [PyData.shown_dict]; unfold Cp; decide⟩
theorem fit_dict1 {n k : Nat} {a b : D} (ha : Fit n k a) (hb : Fit n k b) : Fit (2 * n + 10) (k + 1) (.dict [(a, b)]) := by
  have e : (PyData.dict [(a, b)]).shown = ("{" : Str) ++ (a.shown ++ ": " ++ b.shown) ++ "}" := by
    rw [PyData.shown_dict, PyData.shownKv_cons, PyData.shownKv_nil]
    rfl
  refine ⟨?_, ?_, ?_, ?_⟩
  · simp only [PyData.showable, PyData.showableKv, ha.sho, hb.sho, Bool.and_true]
  · show max (max a.depth b.depth) 0 + 1 ≤ k + 1
    have := ha.dep
    have := hb.dep
    omega
  · rw [e]
    have h1 := ha.len
    have h2 := hb.len
    simp only [Str.length_append]
    have e1 : (("{" : String) : Str).length = 1 := rfl
    have e2 : (("}" : String) : Str).length = 1 := rfl
    have e3 : ((": " : String) : Str).length = 2 := rfl
    omega
  · rw [e]
    refine (Cp.app ?_ ((ha.cps.app ?_).app hb.cps)).app ?_ <;> (unfold Cp; decide)
/-! ## data that may be compared -/
structure Pln (k : Nat) (d : D) : Prop where
  nod : d.hasDict = false
  lay : d.canLay0 = true
  dep : d.depth ≤ k
theorem Pln.mono {k k' : Nat} {d : D} (h : Pln k d) (h2 : k ≤ k') : Pln k' d := ⟨h.nod, h.lay, Nat.le_trans h.dep h2⟩
theorem pln_int (i : Int) (k : Nat) : Pln k (.int i) := ⟨rfl, rfl, Nat.zero_le _⟩
theorem pln_none (k : Nat) : Pln k .none := ⟨rfl, rfl, Nat.zero_le _⟩
theorem pln_bool (b : Bool) (k : Nat) : Pln k (.bool b) := ⟨rfl, rfl, Nat.zero_le _⟩
theorem pln_str {x : Str} (h : Cp x) (k : Nat) : Pln k (.str x) := ⟨rfl, (Bool.and_eq_true_iff.mp h.lay).1, Nat.zero_le _⟩
theorem nodAll : ∀ ds : List D, (∀ d ∈ ds, d.hasDict = false) → PyData.hasDictAll ds = false
  | [], _ => rfl
  | d :: r, h => by
    simp only [PyData.hasDictAll, Bool.or_eq_false_iff]
    exact ⟨h d List.mem_cons_self, nodAll r fun x hx => h x (List.mem_cons_of_mem _ hx)⟩
theorem layAll : ∀ ds : List D, (∀ d ∈ ds, d.canLay0 = true) → PyData.canLayAll0 ds = true
  | [], _ => rfl
  | d :: r, h => by
    simp only [PyData.canLayAll0, Bool.and_eq_true]
    exact ⟨h d List.mem_cons_self, layAll r fun x hx => h x (List.mem_cons_of_mem _ hx)⟩
theorem pln_tup {k : Nat} {l : List D} (h : ∀ d ∈ l, Pln k d) : Pln (k + 1) (.tuple l) := ⟨nodAll l fun d hd => (h d hd).nod, layAll l fun d hd => (h d hd).lay, Nat.succ_le_succ (depAll l fun d hd => (h d hd).dep)⟩
theorem pln_lst {k : Nat} {l : List D} (h : ∀ d ∈ l, Pln k d) : Pln (k + 1) (.list l) := ⟨nodAll l fun d hd => (h d hd).nod, layAll l fun d hd => (h d hd).lay, Nat.succ_le_succ (depAll l fun d hd => (h d hd).dep)⟩
theorem Pln.eqk {k k' : Nat} {x y : D} (hx : Pln k x) (hy : Pln k' y) (h1 : k ≤ 64) (h2 : k' ≤ 64) : eqOk x y = true := by
  have a := Nat.le_trans hx.dep h1
  have b := Nat.le_trans hy.dep h2
  simp [eqOk, SeqAt.shaped, hx.nod, hy.nod, hx.lay, hy.lay, a, b]
theorem o_eqP {x y : D} (hx : Pln 60 x) (hy : Pln 60 y) : dEq x y = some (.d (.bool (PyData.eqv x y))) := if_pos (hx.eqk hy (by decide) (by decide))
theorem o_neP {x y : D} (hx : Pln 60 x) (hy : Pln 60 y) : dNe x y = some (.d (.bool (!PyData.eqv x y))) := if_pos (hx.eqk hy (by decide) (by decide))
mutual
/-- neither bools nor dicts within -/
def nbD : D → Bool
  | .bool _ | .dict _ => false
  | .list xs | .tuple xs => nbAll xs
  | .none | .int _ | .str _ => true
def nbAll : List D → Bool
  | [] => true
  | x :: xs => nbD x && nbAll xs
end
mutual
theorem eqv_iff : ∀ x y : D, nbD x = true → nbD y = true → (PyData.eqv x y = true ↔ x = y)
  | .none, y, _, hy => by cases y <;> simp_all [PyData.eqv, nbD]
  | .bool _, y, h, _ => by simp [nbD] at h
  | .dict _, y, h, _ => by simp [nbD] at h
  | .int i, y, _, hy => by cases y <;> simp_all [PyData.eqv, nbD]
  | .str x, y, _, hy => by cases y <;> simp_all [PyData.eqv, nbD]
  | .list xs, y, hx, hy => by
    cases y with
    | list ys =>
      have := eqvAll_iff xs ys (by simpa [nbD] using hx) (by simpa [nbD] using hy)
      simp [PyData.eqv, this]
    | _ => simp [PyData.eqv]
  | .tuple xs, y, hx, hy => by
    cases y with
    | tuple ys =>
      have := eqvAll_iff xs ys (by simpa [nbD] using hx) (by simpa [nbD] using hy)
      simp [PyData.eqv, this]
    | _ => simp [PyData.eqv]
theorem eqvAll_iff : ∀ xs ys : List D, nbAll xs = true → nbAll ys = true → (PyData.eqvAll xs ys = true ↔ xs = ys)
  | [], [], _, _ => by simp [PyData.eqvAll]
  | [], _ :: _, _, _ => by simp [PyData.eqvAll]
  | _ :: _, [], _, _ => by simp [PyData.eqvAll]
  | x :: xs, y :: ys, hx, hy => by
    simp only [nbAll, Bool.and_eq_true] at hx hy
    have h1 := eqv_iff x y hx.1 hy.1
    have h2 := eqvAll_iff xs ys hx.2 hy.2
    simp [PyData.eqvAll, h1, h2]
end
theorem nbAll_of : ∀ ds : List D, (∀ d ∈ ds, nbD d = true) → nbAll ds = true
  | [], _ => rfl
  | d :: r, h => by
    simp only [nbAll, Bool.and_eq_true]
    exact ⟨h d List.mem_cons_self, nbAll_of r fun x hx => h x (List.mem_cons_of_mem _ hx)⟩
theorem ints_of_ints : ∀ ns : List Int, intsD? (ns.map .int) = some ns
  | [] => rfl
  | n :: r => by simp [intsD?, ints_of_ints r]
theorem mem_intsD {lo : Int} {n : Nat} {d : D} (h : d ∈ intsD lo n) : ∃ i : Int, d = .int i ∧ lo ≤ i ∧ i < lo + n := by
  obtain ⟨k, hk, rfl⟩ := List.mem_map.mp h
  have := List.mem_range.mp hk
  exact ⟨_, rfl, by omega, by omega⟩
theorem len_intsD (lo : Int) (n : Nat) : (intsD lo n).length = n := by simp [intsD]
theorem cut_mem {α : Type} {l : List α} {lo hi : Option Int} {x : α} (h : x ∈ cutG l lo hi) : x ∈ l := List.mem_of_mem_drop (List.mem_of_mem_take h)
theorem cut_len {α : Type} (l : List α) (lo hi : Option Int) : (cutG l lo hi).length ≤ l.length := by
  unfold cutG
  rw [List.length_take, List.length_drop]
  omega
theorem cut_len_head {α : Type} (l : List α) (i : Int) (h : 0 ≤ i) : (cutG l none (some i)).length ≤ i.toNat := by
  rw [cut_head l i h, List.length_take]
  omega
theorem cut_len_tail {α : Type} (l : List α) (i : Int) (h : 0 ≤ i) : (cutG l (some i) none).length = l.length - i.toNat := by
  rw [cut_tail l i h, List.length_drop]
end Qz
namespace Qz
open PySem PySem.Spec L2
open PyProof.Rows hiding St
/-! ## tuples of integers -/
def tI (ns : List Int) : D := .tuple (ns.map .int)
theorem alike_int (i j : Int) : PySem.W.alike (.int i) (.int j) = true := by simp [PySem.W.alike]
theorem lt_ints_all : ∀ xs ys : List Int, PyProof.Rows.lexLt PyProof.Rows.itemOrd (PySem.W.keyToksAll (xs.map .int)) (PySem.W.keyToksAll (ys.map .int)) = HT.lexLt xs ys
  | [], [] => rfl
  | [], y :: ys => rfl
  | x :: xs, [] => rfl
  | x :: xs, y :: ys => by
    rw [HT.lexLt_cons, List.map_cons, List.map_cons]
    by_cases h : x = y
    · rw [PySem.W.dataLt_all_yes (alike_int _ _) (by simp [PyData.eqv, h]), if_pos h]
      exact lt_ints_all xs ys
    · rw [PySem.W.dataLt_all_no (alike_int _ _) (by simp [PyData.eqv, h]), if_neg h, PySem.W.dataLt_int]
theorem lt_tI (xs ys : List Int) : PySem.W.dataLt (tI xs) (tI ys) = HT.lexLt xs ys := by
  unfold tI
  rw [PySem.W.dataLt_tuple]
  exact lt_ints_all xs ys
theorem alike_all : ∀ xs ys : List Int, PySem.W.alikeAll (xs.map .int) (ys.map .int) = true
  | [], _ => by simp [PySem.W.alikeAll]
  | _ :: _, [] => by simp [PySem.W.alikeAll]
  | x :: xs, y :: ys => by
    simp only [List.map_cons, PySem.W.alikeAll, alike_int, Bool.true_and]
    exact alike_all xs ys
theorem pln_tI (xs : List Int) : Pln 1 (tI xs) := pln_tup (k := 0) fun d hd => by
  obtain ⟨i, _, rfl⟩ := List.mem_map.mp hd
  exact pln_int _ _
theorem nb_tI (xs : List Int) : nbD (tI xs) = true := nbAll_of _ fun d hd => by
  obtain ⟨i, _, rfl⟩ := List.mem_map.mp hd
  rfl
theorem tI_inj {xs ys : List Int} (h : tI xs = tI ys) : xs = ys := by
  have h2 : xs.map PyData.int = ys.map PyData.int := by injection h
  exact List.map_inj_right (fun a b e => by injection e) |>.mp h2
theorem ord_tI (xs ys : List Int) : ordOk (tI xs) (tI ys) = true := by
  have h1 := (pln_tI xs).nod
  have h2 := (pln_tI ys).nod
  have h3 := (pln_tI xs).dep
  have h4 : PySem.W.alike (tI xs) (tI ys) = true := by
    unfold tI
    simp only [PySem.W.alike]
    exact alike_all xs ys
  have h5 : (tI xs).depth ≤ 100 := Nat.le_trans h3 (by decide)
  simp only [ordOk, h1, h2, h4, Bool.not_false, Bool.true_and, Bool.and_eq_true, decide_eq_true_eq]
  exact ⟨rfl, h5⟩
theorem o_leT (xs ys : List Int) : dLe (tI xs) (tI ys) = some (.d (.bool (!HT.lexLt ys xs))) := by
  have h : dLe (tI xs) (tI ys) = dOrd pLe (tI xs) (tI ys) := rfl
  rw [h, dOrd, if_pos (ord_tI _ _), pLe, lt_tI]
theorem o_ltT (xs ys : List Int) : dLt (tI xs) (tI ys) = some (.d (.bool (HT.lexLt xs ys))) := by
  have h : dLt (tI xs) (tI ys) = dOrd pLt (tI xs) (tI ys) := rfl
  rw [h, dOrd, if_pos (ord_tI _ _), pLt, lt_tI]
theorem o_gtT (xs ys : List Int) : dGt (tI xs) (tI ys) = some (.d (.bool (HT.lexLt ys xs))) := by
  have h : dGt (tI xs) (tI ys) = dOrd pGt (tI xs) (tI ys) := rfl
  rw [h, dOrd, if_pos (ord_tI _ _), pGt, lt_tI]
theorem eqv_tI (xs ys : List Int) : PyData.eqv (tI xs) (tI ys) = decide (xs = ys) := by
  rw [Bool.eq_iff_iff, eqv_iff _ _ (nb_tI xs) (nb_tI ys), decide_eq_true_eq]
  exact ⟨tI_inj, fun e => by rw [e]⟩
theorem o_eqT (xs ys : List Int) : dEq (tI xs) (tI ys) = some (.d (.bool (decide (xs = ys)))) := by
  rw [o_eqP ((pln_tI xs).mono (by decide)) ((pln_tI ys).mono (by decide)), eqv_tI]
theorem o_neT (xs ys : List Int) : dNe (tI xs) (tI ys) = some (.d (.bool (!decide (xs = ys)))) := by
  rw [o_neP ((pln_tI xs).mono (by decide)) ((pln_tI ys).mono (by decide)), eqv_tI]
/-! ## loops over numbered things, ranges, pairs -/
def enumD (k : Int) : List D → List D
  | [] => []
  | d :: r => .tuple [.int k, d] :: enumD (k + 1) r
theorem ints_cons (lo : Int) (n : Nat) : intsD lo (n + 1) = .int lo :: intsD (lo + 1) n := by
  simp only [intsD, List.range_succ_eq_map, List.map_cons, List.map_map]
  congr 1
  · simp
  · refine List.map_congr_left fun i _ => ?_
    simp only [Function.comp]
    congr 1
    omega
theorem pairs_enum : ∀ (ds : List D) (k : Int), pairsD (intsD k ds.length) ds = enumD k ds
  | [], k => by simp [pairsD, enumD]
  | d :: r, k => by
    rw [List.length_cons, ints_cons, pairsD, pairs_enum r (k + 1), enumD]
def enQ (I : List D → Int → S → Prop) (r : List D) (k : Int) (Q : Fl → S → Prop) : Fl → S → Prop
  | .nx, s => I r k s
  | .ct, s => I r k s
  | .bk, s => Q .nx s
  | .rt x, s => Q (.rt x) s
section
variable {g : D → S → Option S} {body : MS} {Q : Fl → S → Prop}
theorem k_enL (I : List D → Int → S → Prop) (hs : ∀ d r k s, I (d :: r) k s → ∃ s1, g (.tuple [.int k, d]) s = some s1 ∧ Ok (body s1) (enQ I r (k + 1) Q)) (he : ∀ k s, I [] k s → Q .nx s) :
    ∀ (ds : List D) (k : Int) (s : S), I ds k s → Ok (loopL g body (enumD k ds) s) Q
  | [], k, s, h => .of rfl (he k s h)
  | d :: r, k, s, h => by
    obtain ⟨s1, e1, h1⟩ := hs d r k s h
    obtain ⟨f, s2, e2, h2⟩ := h1.get
    cases f with
    | nx => simp only [enumD, loopL, e1, e2]; exact k_enL I hs he r (k + 1) s2 h2
    | ct => simp only [enumD, loopL, e1, e2]; exact k_enL I hs he r (k + 1) s2 h2
    | bk => simp only [enumD, loopL, e1, e2]; exact .of rfl h2
    | rt x => simp only [enumD, loopL, e1, e2]; exact .of rfl h2
theorem k_enum (I : List D → Int → S → Prop) (hs : ∀ d r k s, I (d :: r) k s → ∃ s1, g (.tuple [.int k, d]) s = some s1 ∧ Ok (body s1) (enQ I r (k + 1) Q)) (he : ∀ k s, I [] k s → Q .nx s)
    (ds : List D) (s : S) (h : I ds 0 s) : Ok (loopL g body (pairsD (intsD 0 ds.length) ds) s) Q := by
  rw [pairs_enum]
  exact k_enL I hs he ds 0 s h
def rgQ (I : Int → Nat → S → Prop) (k : Int) (n : Nat) (Q : Fl → S → Prop) : Fl → S → Prop
  | .nx, s => I k n s
  | .ct, s => I k n s
  | .bk, s => Q .nx s
  | .rt x, s => Q (.rt x) s
theorem k_rng (I : Int → Nat → S → Prop) (hs : ∀ k n s, I k (n + 1) s → ∃ s1, g (.int k) s = some s1 ∧ Ok (body s1) (rgQ I (k + 1) n Q)) (he : ∀ k s, I k 0 s → Q .nx s) :
    ∀ (n : Nat) (k : Int) (s : S), I k n s → Ok (loopL g body (intsD k n) s) Q
  | 0, k, s, h => .of rfl (he k s h)
  | n + 1, k, s, h => by
    obtain ⟨s1, e1, h1⟩ := hs k n s h
    obtain ⟨f, s2, e2, h2⟩ := h1.get
    cases f with
    | nx => simp only [ints_cons, loopL, e1, e2]; exact k_rng I hs he n (k + 1) s2 h2
    | ct => simp only [ints_cons, loopL, e1, e2]; exact k_rng I hs he n (k + 1) s2 h2
    | bk => simp only [ints_cons, loopL, e1, e2]; exact .of rfl h2
    | rt x => simp only [ints_cons, loopL, e1, e2]; exact .of rfl h2
def zpQ (I : List D → List D → S → Prop) (x y : List D) (Q : Fl → S → Prop) : Fl → S → Prop
  | .nx, s => I x y s
  | .ct, s => I x y s
  | .bk, s => Q .nx s
  | .rt v, s => Q (.rt v) s
theorem k_zipL (I : List D → List D → S → Prop) (hs : ∀ a x b y s, I (a :: x) (b :: y) s → ∃ s1, g (.tuple [a, b]) s = some s1 ∧ Ok (body s1) (zpQ I x y Q)) (he : ∀ x y s, I x y s → x = [] ∨ y = [] → Q .nx s) :
    ∀ (x y : List D) (s : S), I x y s → Ok (loopL g body (pairsD x y) s) Q
  | [], y, s, h => by rw [pairsD.eq_def]; exact .of rfl (he [] y s h (.inl rfl))
  | a :: x, [], s, h => by rw [pairsD.eq_def]; exact .of rfl (he (a :: x) [] s h (.inr rfl))
  | a :: x, b :: y, s, h => by
    obtain ⟨s1, e1, h1⟩ := hs a x b y s h
    obtain ⟨f, s2, e2, h2⟩ := h1.get
    cases f with
    | nx => simp only [pairsD, loopL, e1, e2]; exact k_zipL I hs he x y s2 h2
    | ct => simp only [pairsD, loopL, e1, e2]; exact k_zipL I hs he x y s2 h2
    | bk => simp only [pairsD, loopL, e1, e2]; exact .of rfl h2
    | rt x => simp only [pairsD, loopL, e1, e2]; exact .of rfl h2
end
/-! ## the first place for which something is so -/
def firstBad (p : D → Bool) (k : Int) : List D → Option Int
  | [] => none
  | d :: r => if p d then firstBad p (k + 1) r else some k
theorem firstBad_none {p : D → Bool} : ∀ (ds : List D) (k : Int), firstBad p k ds = none → ∀ d ∈ ds, p d = true
  | [], _, _, d, h => by simp at h
  | e :: r, k, h, d, hd => by
    by_cases c : p e = true
    · have h' : firstBad p (k + 1) r = none := by simpa [firstBad, c] using h
      rcases List.mem_cons.mp hd with rfl | hd
      · exact c
      · exact firstBad_none r (k + 1) h' d hd
    · simp [firstBad, c] at h
theorem firstBad_le {p : D → Bool} : ∀ (ds : List D) (k j : Int), firstBad p k ds = some j → k ≤ j ∧ j < k + ds.length
  | [], _, _, h => by simp [firstBad] at h
  | d :: r, k, j, h => by
    unfold firstBad at h
    split at h
    · have := firstBad_le r (k + 1) j h
      simp only [List.length_cons]
      omega
    · cases h
      simp only [List.length_cons]
      omega
def firstK (test : Int → Bool) : Nat → Int → Option Int
  | 0, _ => none
  | n + 1, k => if test k then some k else firstK test n (k + 1)
theorem firstK_le {test : Int → Bool} : ∀ (n : Nat) (k j : Int), firstK test n k = some j → k ≤ j ∧ j < k + n
  | 0, _, _, h => by simp [firstK] at h
  | n + 1, k, j, h => by
    unfold firstK at h
    split at h
    · cases h; omega
    · have := firstK_le n (k + 1) j h
      omega
theorem firstK_none {test : Int → Bool} : ∀ (n : Nat) (k : Int), firstK test n k = none → ∀ i, k ≤ i → i < k + n → test i = false
  | 0, k, _, i, h1, h2 => by omega
  | n + 1, k, h, i, h1, h2 => by
    by_cases c : test k = true
    · simp [firstK, c] at h
    · have h' : firstK test n (k + 1) = none := by simpa [firstK, c] using h
      by_cases e : i = k
      · subst e; simpa using c
      · exact firstK_none n (k + 1) h' i (by omega) (by omega)
theorem firstK_congr {t u : Int → Bool} : ∀ (n : Nat) (k : Int), (∀ i, k ≤ i → i < k + n → t i = u i) → firstK t n k = firstK u n k
  | 0, _, _ => rfl
  | n + 1, k, h => by
    unfold firstK
    rw [h k (Int.le_refl _) (by omega), firstK_congr n (k + 1) fun i h1 h2 => h i (by omega) (by omega)]
/-- the first place at which le holds of the item there and the one ahead -/
def fallT (le : D → D → Bool) (ds : List D) (k : Int) : Bool := match ds[(k - 1).toNat]?, ds[k.toNat]? with
  | some x, some y => le y x
  | _, _ => false
def fallG (le : D → D → Bool) (ds : List D) : Option Int := firstK (fallT le ds) (ds.length - 1) 1
def optI : Option Int → D
  | some k => .int k
  | none => .none
theorem at_two {ds : List D} {i : Int} (h1 : 1 ≤ i) (h2 : i < 1 + ((ds.length - 1 : Nat) : Int)) : ∃ x y, ds[(i - 1).toNat]? = some x ∧ ds[i.toNat]? = some y :=
  ⟨ds[(i - 1).toNat]'(by omega), ds[i.toNat]'(by omega), List.getElem?_eq_getElem _, List.getElem?_eq_getElem _⟩
/-! ## what values are -/
def isIntB : D → Bool
  | .int _ | .bool _ => true
  | _ => false
def isBoolB : D → Bool
  | .bool _ => true
  | _ => false
def isTupB : D → Bool
  | .tuple _ => true
  | _ => false
def isLstB : D → Bool
  | .list _ => true
  | _ => false
def isStrB : D → Bool
  | .str _ => true
  | _ => false
theorem o_isInt {v : D} : fIsi "int" v = some (.d (.bool (isIntB v))) := by cases v <;> rfl
theorem o_isBool {v : D} : fIsi "bool" v = some (.d (.bool (isBoolB v))) := by cases v <;> rfl
theorem o_isTup {v : D} : fIsi "tuple" v = some (.d (.bool (isTupB v))) := by cases v <;> rfl
theorem o_isLst {v : D} : fIsi "list" v = some (.d (.bool (isLstB v))) := by cases v <;> rfl
theorem o_isStr {v : D} : fIsi "str" v = some (.d (.bool (isStrB v))) := by cases v <;> rfl
def isIntD : D → Bool
  | .int _ => true
  | _ => false
def within (v : D) (lo hi : Int) : Bool := match v with
  | .int i => decide (lo ≤ i) && decide (i ≤ hi)
  | _ => false
def tupLen (v : D) (n : Nat) : Bool := match v with
  | .tuple l => l.length == n
  | _ => false
theorem within_int {v : D} {lo hi : Int} (h : within v lo hi = true) : ∃ i, v = .int i ∧ lo ≤ i ∧ i ≤ hi := by
  cases v <;> simp [within] at h
  exact ⟨_, rfl, h.1, h.2⟩
theorem tup_of {v : D} (h : isTupB v = true) : ∃ ds, v = .tuple ds := by
  cases v <;> simp [isTupB] at h
  exact ⟨_, rfl⟩
end Qz
namespace Qz
open PySem PySem.Spec L2
open PyProof.Rows hiding St
section
variable {s s1 s2 : S} {r : R}
def kGetD (Q : R → S → Prop) (r1 r2 : R) (s : S) : Prop := ∃ k c v, r2 = .d k ∧ viewC s r1 = some c ∧ getC c k = some (some v) ∧ Q (.d v) s
theorem kGetD.mk {Q : R → S → Prop} {r1 : R} {k v : D} {c : C} (h1 : viewC s r1 = some c) (h2 : getC c k = some (some v)) (q : Q (.d v) s) : kGetD Q r1 (.d k) s := ⟨k, c, v, rfl, h1, h2, q⟩
theorem k_getD {md mk : ME} {Q : R → S → Prop} (h : Ok (md s) fun r1 s1 => Ok (mk s1) fun r2 s2 => kGetD Q r1 r2 s2) : Ok (mGetD md mk s) Q := by
  obtain ⟨r1, s1, e, h⟩ := h.get
  obtain ⟨_, s2, e2, k, c, v, rfl, h1, h2, q⟩ := h.get
  unfold mGetD
  simp only [e, e2, h1, h2]
  exact .of rfl q
def kInD (neg : Bool) (Q : R → S → Prop) (r1 r2 : R) (s : S) : Prop := ∃ k c o, r1 = .d k ∧ viewC s r2 = some c ∧ getC c k = some o ∧ Q (.d (.bool (o.isSome != neg))) s
theorem kInD.mk {neg : Bool} {Q : R → S → Prop} {r2 : R} {k : D} {c : C} {o : Option D} (h1 : viewC s r2 = some c) (h2 : getC c k = some o) (q : Q (.d (.bool (o.isSome != neg))) s) : kInD neg Q (.d k) r2 s := ⟨k, c, o, rfl, h1, h2, q⟩
theorem k_inD {neg : Bool} {mk md : ME} {Q : R → S → Prop} (h : Ok (mk s) fun r1 s1 => Ok (md s1) fun r2 s2 => kInD neg Q r1 r2 s2) : Ok (mInD neg mk md s) Q := by
  obtain ⟨r1, s1, e, h⟩ := h.get
  obtain ⟨r2, s2, e2, k, c, o, rfl, h1, h2, q⟩ := h.get
  unfold mInD
  simp only [e, e2, h1, h2]
  exact .of rfl q
theorem while_up {c : MT} {body : MS} : ∀ (n : Nat) (s : S), whileN c body n s ≠ .no → ∀ m, n ≤ m → whileN c body m s = whileN c body n s
  | 0, s, h, _, _ => absurd rfl h
  | n + 1, s, h, 0, hm => absurd hm (by omega)
  | n + 1, s, h, m + 1, hm => by
    simp only [whileN] at h ⊢
    cases e : c s with
    | no => rfl
    | ok t s1 =>
      cases t with
      | false => rfl
      | true =>
        simp only [e] at h ⊢
        cases e2 : body s1 with
        | no => rfl
        | ok f s2 =>
          cases f with
          | nx => simp only [e2] at h ⊢; exact while_up n s2 h m (by omega)
          | ct => simp only [e2] at h ⊢; exact while_up n s2 h m (by omega)
          | bk => rfl
          | rt x => rfl
def whQ (I : Nat → S → Prop) (n : Nat) (Q : Fl → S → Prop) : Fl → S → Prop
  | .nx, s => ∃ m, m < n ∧ I m s
  | .ct, s => ∃ m, m < n ∧ I m s
  | .bk, s => Q .nx s
  | .rt x, s => Q (.rt x) s
theorem k_while {c : MT} {body : MS} {Q : Fl → S → Prop} (I : Nat → S → Prop) (n : Nat) (h0 : I n s) (hs : ∀ n s, I n s → Ok (c s) fun t s1 => (t = true → Ok (body s1) (whQ I n Q)) ∧ (t = false → Q .nx s1)) : Ok (mWhile c body s) Q := by
  have go : ∀ n s, I n s → ∃ N f s', whileN c body N s = .ok f s' ∧ Q f s' := by
    intro n
    induction n using Nat.strongRecOn with
    | _ n ih =>
      intro s h
      obtain ⟨t, s1, e, h1, h2⟩ := (hs n s h).get
      cases t with
      | false => exact ⟨1, .nx, s1, by simp only [whileN, e], h2 rfl⟩
      | true =>
        obtain ⟨f, s2, e2, h3⟩ := (h1 rfl).get
        cases f with
        | nx =>
          obtain ⟨m, hm, hI⟩ := h3
          obtain ⟨N, f, s', e3, q⟩ := ih m hm s2 hI
          exact ⟨N + 1, f, s', by simp only [whileN, e, e2, e3], q⟩
        | ct =>
          obtain ⟨m, hm, hI⟩ := h3
          obtain ⟨N, f, s', e3, q⟩ := ih m hm s2 hI
          exact ⟨N + 1, f, s', by simp only [whileN, e, e2, e3], q⟩
        | bk => exact ⟨1, .nx, s2, by simp only [whileN, e, e2], h3⟩
        | rt x => exact ⟨1, .rt x, s2, by simp only [whileN, e, e2], h3⟩
  obtain ⟨N, f, s', e, q⟩ := go n s h0
  have hne : ∃ n, whileN c body n s ≠ .no := ⟨N, by rw [e]; exact fun h => nomatch h⟩
  refine .of ?_ q
  unfold mWhile
  rw [dif_pos hne]
  have hc := hne.choose_spec
  rcases Nat.le_total N hne.choose with hle | hle
  · rw [while_up N s (by rw [e]; exact fun h => nomatch h) _ hle, e]
  · rw [← while_up _ s hc N hle, e]
theorem k_mid {a c : MS} {Q : Fl → S → Prop} (P : S → Prop) (h : Ok (a s) fun f s => f = .nx ∧ P s) (k : ∀ s, P s → Ok (c s) Q) : Ok (mSeq a c s) Q :=
  k_seq (h.mono fun f s1 ⟨e, q⟩ => by subst e; exact k s1 q)
theorem k_loop1 {g : D → S → Option S} {body : MS} {d : D} {ds : List D} {Q : Fl → S → Prop} (e : g d s = some s1) (h : Ok (body s1) fun f s2 => match f with
    | .nx => Ok (loopL g body ds s2) Q
    | .ct => Ok (loopL g body ds s2) Q
    | .bk => Q .nx s2
    | .rt x => Q (.rt x) s2) : Ok (loopL g body (d :: ds) s) Q := by
  obtain ⟨f, s2, e2, h2⟩ := h.get
  cases f with
  | nx => simp only [loopL, e, e2]; exact h2
  | ct => simp only [loopL, e, e2]; exact h2
  | bk => simp only [loopL, e, e2]; exact .of rfl h2
  | rt x => simp only [loopL, e, e2]; exact .of rfl h2
theorem k_loop0 {g : D → S → Option S} {body : MS} {Q : Fl → S → Prop} (h : Q .nx s) : Ok (loopL g body [] s) Q := .of rfl h
end
/-- at an int, a dict by tuples: what dPut leaves -/
theorem dPut_key {κ : Type} [DecidableEq κ] {l : List (κ × D)} {k : κ} {v : D} : ∀ q ∈ dPut l k v, q.1 = k ∧ q.2 = v ∨ q ∈ l := fun q hq => by
  unfold dPut at hq
  split at hq
  · obtain ⟨p, hp, rfl⟩ := List.mem_map.mp hq
    split
    · rename_i e; exact .inl ⟨e, rfl⟩
    · exact .inr hp
  · rcases List.mem_append.mp hq with hq | hq
    · exact .inr hq
    · rw [List.mem_singleton] at hq
      subst hq
      exact .inl ⟨rfl, rfl⟩
theorem dPut_len {κ : Type} [DecidableEq κ] (l : List (κ × D)) (k : κ) (v : D) : (dPut l k v).length ≤ l.length + 1 := by
  unfold dPut
  split
  · rw [List.length_map]; omega
  · rw [List.length_append]; exact Nat.le_refl _
theorem dPut_nodup {κ : Type} [DecidableEq κ] {l : List (κ × D)} {k : κ} {v : D} (h : (l.map (·.1)).Nodup) : ((dPut l k v).map (·.1)).Nodup := by
  unfold dPut
  split
  · have e : (l.map fun kv => if kv.1 = k then (kv.1, v) else kv).map (·.1) = l.map (·.1) := by
      rw [List.map_map]
      refine List.map_congr_left fun q _ => ?_
      simp only [Function.comp]
      split <;> rfl
    rw [e]; exact h
  · rename_i c
    rw [List.map_append, List.map_cons, List.map_nil, List.nodup_append]
    refine ⟨h, by simp, ?_⟩
    intro a ha b hb
    rw [List.mem_singleton] at hb
    subst hb
    obtain ⟨q, hq, rfl⟩ := List.mem_map.mp ha
    intro e
    apply c
    rw [List.any_eq_true]
    exact ⟨q, hq, decide_eq_true e⟩
theorem dGet_mem {κ : Type} [DecidableEq κ] : ∀ (l : List (κ × D)) (q : κ × D), q ∈ l → ∃ v, dGetK l q.1 = some v ∧ (q.1, v) ∈ l
  | [], _, h => by simp at h
  | p :: l, q, h => by
    by_cases e : p.1 = q.1
    · exact ⟨p.2, by simp [dGetK, List.find?_cons, e], by rw [← e]; exact List.mem_cons_self⟩
    · rcases List.mem_cons.mp h with rfl | h
      · exact absurd rfl e
      · obtain ⟨v, h1, h2⟩ := dGet_mem l q h
        refine ⟨v, ?_, List.mem_cons_of_mem _ h2⟩
        rw [← h1]; simp [dGetK, List.find?_cons, e]
theorem o_idxE {l : List D} {d : D} (h : l.getLast? = some d) : dIdx (.tuple l) (.int (-1)) = some (.d d) := by
  have hne : l ≠ [] := fun e => by rw [e] at h; cases h
  have hp : 0 < l.length := List.length_pos_iff.mpr hne
  rw [List.getLast?_eq_getElem?] at h
  have e1 : ixN l.length (-1) = some (l.length - 1) := by
    unfold ixN
    rw [if_neg (by decide), if_pos (by omega)]
    congr 1
    omega
  show (atI l (-1)).map R.d = _
  unfold atI
  rw [e1]
  simp only [Option.bind, h, Option.map]
theorem o_divmod {i j : Int} (h : 0 < j) (h2 : j < 1073741824) : fDivmod [.int i, .int j] = some (.d (.tuple [.int (i / j), .int (i % j)])) := if_pos ⟨h, h2⟩
theorem o_gcd {i j : Int} : fGcd [.int i, .int j] = some (.d (.int ((Nat.gcd i.natAbs j.natAbs : Nat) : Int))) := rfl
theorem o_mulX {i j : Int} (h1 : i.natAbs < 10 ^ 100) (h2 : j.natAbs < 10 ^ 100) : dMul (.int i) (.int j) = some (.d (.int (i * j))) := by
  have hb : (10 : Nat) ^ 100 ≤ 2 ^ 1000 := by decide +kernel
  have : mulOk i j = true := by
    simp only [mulOk, Bool.or_eq_true, Bool.and_eq_true, decide_eq_true_eq]
    exact .inr ⟨Nat.lt_of_lt_of_le h1 hb, Nat.lt_of_lt_of_le h2 hb⟩
  simp [dMul, this]
theorem o_eqS {x : Str} (h : Cp x) : dEq (.str x) (.str x) = some (.d (.bool true)) := by
  rw [o_eqP (pln_str h _) (pln_str h _)]
  simp [PyData.eqv]
theorem o_neS {x : Str} (h : Cp x) : dNe (.str x) (.str x) = some (.d (.bool false)) := by
  rw [o_neP (pln_str h _) (pln_str h _)]
  simp [PyData.eqv]
theorem Fit.rp {n k : Nat} {d : D} (h : Fit n k d) (h1 : n ≤ 10000000) (h2 : k ≤ 150) : fRepr [d] = some (.d (.str d.shown)) := o_repr (h.ok h1 h2)
end Qz
namespace Qz
open PySem PySem.Spec L2
open PyProof.Rows hiding St
section
variable {s : S}
def kCallL (np : Nat) (g : DF) (Q : R → S → Prop) (rs : List R) (s : S) : Prop := ∃ q s2, rs.length = np ∧ argsT s rs = some (q, s2) ∧ OkF (g q s2.b) fun r b => leanR r = true ∧ Q r ⟨s.a, b⟩
theorem kCallL.mk {np : Nat} {g : DF} {Q : R → S → Prop} {rs q : List R} {a2 : List (Option R)} {b2 : Bx} {P : R → Prop} (h1 : rs.length = np) (h2 : argsT s rs = some (q, ⟨a2, b2⟩)) (h3 : Gv g q P) (hl : ∀ r, P r → leanR r = true) (h4 : ∀ r b, P r → Q r ⟨s.a, b⟩) : kCallL np g Q rs s :=
  ⟨q, _, h1, h2, (h3.all b2).mono fun r b p => ⟨hl r p, h4 r b p⟩⟩
theorem k_callL {np : Nat} {g : DF} {ms : MA} {Q : R → S → Prop} (h : Ok (ms s) (kCallL np g Q)) : Ok (mCallL np g ms s) Q := by
  obtain ⟨rs, s1, e, q, s2, h1, h2, h3⟩ := h.get
  obtain ⟨r, b, e2, hl, k⟩ := h3.get
  unfold mCallL
  simp only [e, if_pos h1, h2, e2, if_pos hl]
  exact .of rfl k
theorem o_isB {a b : Bool} : dIsB (.bool a) (.bool b) = some (.d (.bool (decide (a = b)))) := rfl
theorem o_notB {a b : Bool} : dNotB (.bool a) (.bool b) = some (.d (.bool (!decide (a = b)))) := rfl
/-- what a set comprehension that is sorted comes to -/
def kSet' (f : List D → Option (List D)) (Q : R → S → Prop) (r : R) (s : S) : Prop := ∃ acc l, r = .o (.lst acc) ∧ f acc = some l ∧ Q (.o (.lst l)) s
theorem kSet'.mk {f : List D → Option (List D)} {Q : R → S → Prop} {acc l : List D} (h : f acc = some l) (q : Q (.o (.lst l)) s) : kSet' f Q (.o (.lst acc)) s := ⟨acc, l, rfl, h, q⟩
theorem k_sortSC {f : List D → Option (List D)} {src : MI} {g : D → S → Option S} {c : MT} {m : ME} {vs : List Nat} {Q : R → S → Prop} (h : Ok (src s) (kLc g c m vs (kSet' f Q))) : Ok (mSortSC f src g c m vs s) Q := by
  obtain ⟨ds, s1, e, h1, h2⟩ := h.get
  obtain ⟨acc, s2, e2, acc', l, er, hf, q⟩ := h2.get
  cases er
  unfold mSortSC mAcc
  simp only [e, if_pos h1, e2, hf]
  exact .of rfl q
theorem tupI_tI' {l : List Int} (h : l ≠ []) : tupI? (tI l) = some l := by
  cases l with
  | nil => exact absurd rfl h
  | cons i r =>
    show (match intsD? ((i :: r).map .int) with | some (i :: r) => some (i :: r) | _ => none) = _
    rw [ints_of_ints]
theorem tupsI_tI : ∀ L : List (List Int), (∀ x ∈ L, x ≠ []) → tupsI? (L.map tI) = some L
  | [], _ => rfl
  | x :: L, h => by
    rw [List.map_cons, tupsI?, tupI_tI' (h x List.mem_cons_self)]
    simp only
    rw [tupsI_tI L fun y hy => h y (List.mem_cons_of_mem _ hy)]
    rfl
theorem fST_tI {L : List (List Int)} (h : ∀ x ∈ L, x ≠ []) (hl : L.length ≤ 63) : fST (L.map tI) = some ((sortU L).map tI) := by
  unfold fST
  rw [if_pos (by rw [List.length_map]; exact hl), tupsI_tI L h]
  rfl
theorem fSI_int {is : List Int} (hl : is.length ≤ 63) : fSI (is.map .int) = some ((sortU (is.map fun i => [i])).map fun l => .int (l.headD 0)) := by
  unfold fSI
  rw [if_pos (by rw [List.length_map]; exact hl), ints_of_ints]
  rfl
theorem flatL_of : ∀ {ds : List D}, (∀ d ∈ ds, flat d = true) → flatL ds = true
  | [], _ => by simp only [flatL]
  | d :: ds, h => by
    simp only [flatL, Bool.and_eq_true]
    exact ⟨h d (List.mem_cons_self ..), flatL_of fun x hx => h x (List.mem_cons_of_mem _ hx)⟩
end
/-! ## comprehensions with two sources -/
def kLc2 (g : D → S → Option S) (c : MT) (src1 : MI) (g1 : D → S → Option S) (c1 : MT) (m : ME) (vs vs1 : List Nat) (Q : R → S → Prop) (ds : List D) (s : S) : Prop := noOwn s.a vs = true ∧ Ok (lc2L g c src1 g1 c1 m vs vs1 ds [] s) fun acc s2 => Q (.o (.lst acc)) ⟨backA s.a s2.a vs, s2.b⟩
theorem k_lc2 {s : S} {src : MI} {g : D → S → Option S} {c : MT} {src1 : MI} {g1 : D → S → Option S} {c1 : MT} {m : ME} {vs vs1 : List Nat} {Q : R → S → Prop} (h : Ok (src s) (kLc2 g c src1 g1 c1 m vs vs1 Q)) : Ok (mLc2 src g c src1 g1 c1 m vs vs1 s) Q := by
  obtain ⟨ds, s1, e, h1, h2⟩ := h.get
  obtain ⟨acc, s2, e2, q⟩ := h2.get
  unfold mLc2
  simp only [e, if_pos h1, e2]
  exact .of rfl q
theorem kLc2.pure {g : D → S → Option S} {c : MT} {src1 : MI} {g1 : D → S → Option S} {c1 : MT} {m : ME} {vs vs1 : List Nat} {Q : R → S → Prop} {ds : List D} {a : List (Option R)} {b : Bx} (F : D → List D) (hv : ∀ i ∈ vs1, i ∈ vs) (h1 : noOwn a vs = true) (hl : (ds.flatMap F).length ≤ 10000)
    (hs : ∀ d ∈ ds, ∃ s1, g d ⟨wipeA a vs, b⟩ = some s1 ∧ Ok (c s1) fun t s2 => (t = false → wipeA s2.a vs = wipeA a vs ∧ s2.b = b ∧ F d = []) ∧ (t = true → Ok (src1 s2) fun es s3 => wipeA s3.a vs = wipeA a vs ∧ s3.b = b ∧ ∃ F1 : D → Option D, F d = es.filterMap F1 ∧ ∀ e ∈ es, ∃ s4, g1 e ⟨wipeA s3.a vs1, b⟩ = some s4 ∧
      Ok (c1 s4) fun t s5 => (t = true → Ok (m s5) fun y s6 => ∃ z, take1 s6 y = some (z, s6) ∧ wipeA s6.a vs1 = wipeA s3.a vs1 ∧ s6.b = b ∧ F1 e = some z) ∧ (t = false → wipeA s5.a vs1 = wipeA s3.a vs1 ∧ s5.b = b ∧ F1 e = none)))
    (q : Q (.o (.lst (ds.flatMap F))) ⟨a, b⟩) : kLc2 g c src1 g1 c1 m vs vs1 Q ds ⟨a, b⟩ := by
  refine ⟨h1, ?_⟩
  have go : ∀ (r done : List D) (s : S), ds = done ++ r → wipeA s.a vs = wipeA a vs → s.b = b → Ok (lc2L g c src1 g1 c1 m vs vs1 r (done.flatMap F) s) fun acc s2 => Q (.o (.lst acc)) ⟨backA a s2.a vs, s2.b⟩ := by
    intro r
    induction r with
    | nil =>
      intro done s e hw hb
      rw [List.append_nil] at e
      refine .of rfl ?_
      show Q (.o (.lst (done.flatMap F))) ⟨backA a s.a vs, s.b⟩
      rw [back_wipe hw, hb, ← e]
      exact q
    | cons d r ih =>
      intro done s e hw hb
      have hm : d ∈ ds := by rw [e]; simp
      obtain ⟨s1, e1, h2⟩ := hs d hm
      obtain ⟨t, s2, e2, hf, ht⟩ := h2.get
      have e1' : g d { s with a := wipeA s.a vs } = some s1 := by rw [← e1, ← hw, ← hb]
      have eN : ds = (done ++ [d]) ++ r := by rw [e]; simp
      cases t with
      | false =>
        obtain ⟨k1, k2, k3⟩ := hf rfl
        simp only [lc2L, e1', e2]
        have := ih (done ++ [d]) s2 eN k1 k2
        rw [List.flatMap_append] at this
        simp only [List.flatMap_cons, List.flatMap_nil, k3, List.append_nil] at this
        exact this
      | true =>
        obtain ⟨es, s3, e3, k1, k2, F1, k3, h4⟩ := (ht rfl).get
        have hin := k_lcL (g := g1) (c := c1) (m := m) (vs := vs1) (Q := fun acc s' => acc = done.flatMap F ++ F d ∧ wipeA s'.a vs1 = wipeA s3.a vs1 ∧ s'.b = b)
          (fun r' acc s' => wipeA s'.a vs1 = wipeA s3.a vs1 ∧ s'.b = b ∧ ∃ dn, es = dn ++ r' ∧ acc = done.flatMap F ++ dn.filterMap F1) (by
            rintro d' r' acc s' ⟨hw', hb', dn, e', ha⟩
            have hm' : d' ∈ es := by rw [e']; simp
            obtain ⟨s4, e4, h5⟩ := h4 d' hm'
            refine ⟨s4, by rw [hw', hb']; exact e4, h5.mono ?_⟩
            rintro t s5 ⟨ht5, hf5⟩
            cases t with
            | false =>
              obtain ⟨j1, j2, j3⟩ := hf5 rfl
              exact ⟨j1, j2, dn ++ [d'], by rw [e']; simp, by rw [ha, List.filterMap_append]; simp [j3]⟩
            | true =>
              refine (ht5 rfl).mono ?_
              rintro y s6 ⟨z, e6, j1, j2, j3⟩
              refine ⟨z, s6, e6, ?_, j1, j2, dn ++ [d'], by rw [e']; simp, by rw [ha, List.filterMap_append]; simp [j3]⟩
              rw [ha]
              have hb1 : (done.flatMap F ++ F d).length ≤ (ds.flatMap F).length := by
                rw [eN, List.flatMap_append, List.flatMap_append, List.length_append, List.length_append, List.length_append]
                simp
              rw [List.length_append, k3, e', List.filterMap_append, List.length_append] at hb1
              rw [List.length_append]
              omega) (by
            rintro acc s' ⟨hw', hb', dn, e', ha⟩
            rw [List.append_nil] at e'
            exact ⟨by rw [ha, k3, e'], hw', hb'⟩) es (done.flatMap F) s3 ⟨rfl, k2, [], rfl, by simp⟩
        obtain ⟨acc', s4, e4, ha, hw4, hb4⟩ := hin.get
        simp only [lc2L, e1', e2, e3, e4]
        have hw5 : wipeA s4.a vs = wipeA a vs := by
          rw [← k1, ← wipeA_wipeA (a := s4.a) hv, ← wipeA_wipeA (a := s3.a) hv, hw4]
        have := ih (done ++ [d]) s4 eN hw5 hb4
        rw [List.flatMap_append] at this
        simp only [List.flatMap_cons, List.flatMap_nil, List.append_nil] at this
        rw [ha]
        exact this
  exact go ds [] ⟨a, b⟩ rfl rfl rfl
end Qz
namespace Qz
open PySem PySem.Spec L2
open PyProof.Rows hiding St
/-! ## where something is raised nothing is answered -/
structure Dis {α : Type} (m : S → Out α) (mx : XM) : Prop where
  no : ∀ s r, mx s = some r → m s = .no
structure DisF (g : DF) (gx : DX) : Prop where
  no : ∀ rs b r, gx rs b = some r → g rs b = .no
section
variable {m m1 m2 : ME} {ms mk : MA} {p q : MS} {mx mx1 mx2 : XM}
theorem dis_no {α : Type} {m : S → Out α} : Dis m xNo := ⟨fun _ _ e => nomatch e⟩
theorem dis_raise {mx : XM} : Dis mNoS mx := ⟨fun _ _ _ => rfl⟩
theorem dis_cons (h1 : Dis m mx) (h2 : Dis ms mx2) : Dis (mCons m ms) (xCons m mx mx2) := ⟨fun s r e => by
  unfold xCons at e
  unfold mCons
  split at e
  · rename_i r1 e1
    rw [h1.no s r1 e1]
  · split at e
    · rename_i r1 s1 e2
      rw [e2]
      simp only
      rw [h2.no s1 r e]
    · cases e⟩
theorem dis_data {f : List D → Option R} (h : Dis ms mx) : Dis (mData ms f) mx := ⟨fun s r e => by
  unfold mData
  rw [h.no s r e]⟩
theorem dis_lst (h : Dis ms mx) : Dis (mLst ms) mx := dis_data h
theorem dis_tup (h : Dis ms mx) : Dis (mTup ms) mx := dis_data h
theorem dis_ite {c : MT} (h1 : Dis m1 mx1) (h2 : Dis m2 mx2) : Dis (mIte c m1 m2) (xIte c mx1 mx2) := ⟨fun s r e => by
  unfold xIte at e
  unfold mIte
  split at e
  · rename_i s1 e1
    rw [e1]
    exact h1.no s1 r e
  · rename_i s1 e1
    rw [e1]
    exact h2.no s1 r e
  · cases e⟩
theorem dis_if {c : MT} (h1 : Dis p mx1) (h2 : Dis q mx2) : Dis (mIf c p q) (xIte c mx1 mx2) := ⟨fun s r e => by
  unfold xIte at e
  unfold mIf
  split at e
  · rename_i s1 e1
    rw [e1]
    exact h1.no s1 r e
  · rename_i s1 e1
    rw [e1]
    exact h2.no s1 r e
  · cases e⟩
theorem dis_blt {f : List D → Option R} (h : Dis ms mx) : Dis (mBlt f ms) mx := ⟨fun s r e => by
  unfold mBlt
  rw [h.no s r e]⟩
theorem dis_op {f : D → D → Option R} (h : Dis m mx) : Dis (mOp f m m2) mx := ⟨fun s r e => by
  unfold mOp
  rw [h.no s r e]⟩
theorem dis_ret (h : Dis m mx) : Dis (mRet m) mx := ⟨fun s r e => by
  unfold mRet
  rw [h.no s r e]⟩
theorem dis_drop (h : Dis m mx) : Dis (mDrop m) mx := ⟨fun s r e => by
  unfold mDrop
  rw [h.no s r e]⟩
theorem dis_seq (h1 : Dis p mx) (h2 : Dis q mx2) : Dis (mSeq p q) (xSeq p mx mx2) := ⟨fun s r e => by
  unfold xSeq at e
  unfold mSeq
  split at e
  · rename_i r1 e1
    rw [h1.no s r1 e1]
  · split at e
    · rename_i s1 e2
      rw [e2]
      exact h2.no s1 r e
    · cases e⟩
theorem dis_call {np : Nat} {g : DF} {gx : DX} (h : DisF g gx) : Dis (mCall np g ms) (xCall np gx ms) := ⟨fun s r e => by
  unfold xCall at e
  unfold mCall
  split at e
  · cases e
  · rename_i rs s1 e1
    try rw [e1]
    try simp only
    split at e
    · rename_i hl
      try rw [if_pos hl]
      split at e
      · cases e
      · rename_i q s2 e2
        try rw [e2]
        try simp only
        split at e
        · cases e
        · rename_i x b e3
          first | rw [h.no _ _ _ e3] | simp only [h.no _ _ _ e3]
    · cases e⟩
theorem dis_callK0 {np nk : Nat} {perm : List Nat} {g : DF} {gx : DX} (h : DisF g gx) : Dis (mCallK np g 0 nk perm mNil mk) (xCallK0 np gx nk perm mk) := ⟨fun s r e => by
  unfold xCallK0 at e
  unfold mCallK mNil
  split at e
  · cases e
  · rename_i zs s1 e1
    try simp only
    try rw [e1]
    try simp only
    split at e
    · rename_i hl
      try rw [if_pos ⟨rfl, hl⟩]
      try rw [List.nil_append]
      split at e
      · cases e
      · rename_i q s2 e2
        try rw [e2]
        try simp only
        split at e
        · rename_i hp
          try rw [if_pos hp]
          split at e
          · cases e
          · rename_i x b e3
            first | rw [h.no _ _ _ e3] | simp only [h.no _ _ _ e3]
        · cases e
    · cases e⟩
theorem disF_run {N : Nat} (h : Dis p mx) : DisF (runF N p) (runX N mx) := ⟨fun rs b r e => by
  unfold runX at e
  unfold runF
  simp only [Option.map_eq_some_iff] at e
  obtain ⟨a, e1, _⟩ := e
  rw [h.no _ _ e1]⟩
end
/-! ## what is raised -/
structure Xk (o : Option (Exc × S)) (P : Exc → S → Prop) : Prop where
  ex : ∃ x s, o = some (x, s) ∧ P x s
structure Gx (gx : DX) (args : List R) (P : Exc → Prop) : Prop where
  all : ∀ b, ∃ x b', gx args b = some (x, b') ∧ P x
theorem Xk.of {o : Option (Exc × S)} {P : Exc → S → Prop} {x : Exc} {s : S} (e : o = some (x, s)) (h : P x s) : Xk o P := ⟨x, s, e, h⟩
section
variable {s : S} {m : ME} {ms mk : MA} {p : MS} {mx mx1 mx2 : XM} {P : Exc → S → Prop}
theorem x_seq1 (h : Xk (mx s) P) : Xk (xSeq p mx mx2 s) P := by
  obtain ⟨x, s1, e, q⟩ := h
  unfold xSeq
  simp only [e]
  exact .of rfl q
theorem x_seq2 (h : Ok (p s) fun f s1 => f = .nx ∧ Xk (mx2 s1) P) : Xk (xSeq p xNo mx2 s) P := by
  obtain ⟨f, s1, e, rfl, q⟩ := h.get
  unfold xSeq xNo
  simp only [e]
  exact q
theorem x_cons1 (h : Xk (mx s) P) : Xk (xCons m mx mx2 s) P := by
  obtain ⟨x, s1, e, q⟩ := h
  unfold xCons
  simp only [e]
  exact .of rfl q
theorem x_cons2 (h : Ok (m s) fun _ s1 => Xk (mx2 s1) P) : Xk (xCons m xNo mx2 s) P := by
  obtain ⟨f, s1, e, q⟩ := h.get
  unfold xCons xNo
  simp only [e]
  exact q
theorem x_ite {c : MT} {a b : XM} (h : Ok (c s) fun t s1 => (t = true → Xk (a s1) P) ∧ (t = false → Xk (b s1) P)) : Xk (xIte c a b s) P := by
  obtain ⟨t, s1, e, h1, h2⟩ := h.get
  unfold xIte
  cases t <;> simp only [e]
  · exact h2 rfl
  · exact h1 rfl
theorem x_raise {cn fl : Str} (h : Ok (ms s) fun rs s1 => ∃ x s2, takes s1 rs = some ([x], s2) ∧ P ⟨cn, fl, x⟩ s2) : Xk (xRaise cn fl ms s) P := by
  obtain ⟨rs, s1, e, x, s2, e2, q⟩ := h.get
  unfold xRaise
  simp only [e, e2]
  exact .of rfl q
theorem x_call {np : Nat} {gx : DX} {Px : Exc → Prop} (h : Ok (ms s) fun rs s1 => ∃ q a2 b2, rs.length = np ∧ argsT s1 rs = some (q, ⟨a2, b2⟩) ∧ Gx gx q Px ∧ ∀ x b, Px x → P x ⟨a2, b⟩) : Xk (xCall np gx ms s) P := by
  obtain ⟨rs, s1, e, q, a2, b2, h1, h2, h3, h4⟩ := h.get
  obtain ⟨x, b, e3, px⟩ := h3.all b2
  unfold xCall
  simp only [e, if_pos h1, h2, e3]
  exact .of rfl (h4 x b px)
theorem x_callK0 {np nk : Nat} {perm : List Nat} {gx : DX} {Px : Exc → Prop} (h : Ok (mk s) fun zs s1 => ∃ q args a2 b2, zs.length = nk ∧ argsT s1 zs = some (q, ⟨a2, b2⟩) ∧ (perm.filterMap fun i => q[i]?) = args ∧ args.length = np ∧ Gx gx args Px ∧ ∀ x b, Px x → P x ⟨a2, b⟩) : Xk (xCallK0 np gx nk perm mk s) P := by
  obtain ⟨zs, s1, e, q, args, a2, b2, h1, h2, rfl, h3, h4, h5⟩ := h.get
  obtain ⟨x, b, e3, px⟩ := h4.all b2
  unfold xCallK0
  simp only [e, if_pos h1, h2, if_pos h3, e3]
  exact .of rfl (h5 x b px)
theorem Gx.run {N : Nat} {rs : List R} {a0 : List (Option R)} {Px : Exc → Prop} (h0 : rs.map some ++ List.replicate (N - rs.length) none = a0) (h : ∀ b, Xk (mx ⟨a0, b⟩) fun x _ => Px x) : Gx (runX N mx) rs Px := ⟨fun b => by
  obtain ⟨x, s1, e, q⟩ := h b
  refine ⟨x, s1.b, ?_, q⟩
  unfold runX S.init
  rw [h0, e]
  rfl⟩
/-! the try -/
theorem k_tryN {i : Nat} {cn : Str} {mh : Exc → MS} {Q : Fl → S → Prop} (h : Ok (p s) Q) : Ok (mTry i cn p mx mh s) Q := by
  obtain ⟨f, s1, e, q⟩ := h.get
  unfold mTry
  simp only [e]
  exact .of rfl q
theorem k_tryX {i : Nat} {cn : Str} {mh : Exc → MS} {Q : Fl → S → Prop} (d : Dis p mx) (h : Xk (mx s) fun x s1 => x.cls = cn ∧ emptyAt s1 i = true ∧ Ok (mh x s1) fun f s2 => emptyAt s2 i = true ∧ Q f s2) : Ok (mTry i cn p mx mh s) Q := by
  obtain ⟨x, s1, e, h1, h2, h3⟩ := h
  obtain ⟨f, s2, e3, h4, q⟩ := h3.get
  unfold mTry
  simp only [d.no s _ e, e, if_pos (show x.cls = cn ∧ emptyAt s1 i = true from ⟨h1, h2⟩), e3, if_pos h4]
  exact .of rfl q
theorem k_fld {fl : Str} {x : Exc} {Q : R → S → Prop} (h : x.fld = fl) (q : Q (.d x.v) s) : Ok (mFld fl x s) Q := .of (if_pos h) q
end
section
variable {s : S}
def kCutS (lo hi : Option Int) (Q : R → S → Prop) (r : R) (s : S) : Prop := ∃ x r', view s r = some x ∧ dCutS x lo hi = some r' ∧ Q r' s
theorem kCutS.mk {lo hi : Option Int} {Q : R → S → Prop} {r r' : R} {x : D} (h1 : view s r = some x) (h2 : dCutS x lo hi = some r') (q : Q r' s) : kCutS lo hi Q r s := ⟨x, r', h1, h2, q⟩
theorem k_cutS {m : ME} {lo hi : Option ME} {Q : R → S → Prop} (h : Ok (m s) fun r s1 => kPart (fun l s2 => kPart (fun h s3 => kCutS l h Q r s3) hi s2) lo s1) : Ok (mCutS m lo hi s) Q := by
  obtain ⟨r, s1, e, l, s2, e2, hh, s3, e3, x, r', h1, h2, q⟩ := h.get
  unfold mCutS
  simp only [e, e2, e3, h1, h2]
  exact .of rfl q
end
section
variable {s : S}
theorem k_aug {f : Int → Int → Int} {i : Nat} {m : ME} {x : Int} {Q : Fl → S → Prop} (h : s.a[i]? = some (some (.d (.int x)))) (hm : Ok (m s) fun r s1 => ∃ y, r = .d (.int y) ∧ s1.a[i]? = some (some (.d (.int x))) ∧ Q .nx ⟨s1.a.set i (some (.d (.int (f x y)))), s1.b⟩) : Ok (mAug f i m s) Q := by
  obtain ⟨_, s1, e, y, rfl, h1, q⟩ := hm.get
  have hi := (List.getElem?_eq_some_iff.mp h1).1
  refine Ok.of ?_ q
  unfold mAug
  have hs : store i s1 (.d (.int (f x y))) = some ⟨s1.a.set i (some (.d (.int (f x y)))), s1.b⟩ := by
    unfold store
    rw [if_neg (by omega)]
    rfl
  simp only [h, e, h1, if_true, hs]
end
end Qz
namespace Qz
open PySem PySem.Spec L2
open PyProof.Rows hiding St
/-! ## the order of data, the least of a list -/
theorem dl_neg {x z : D} (y : D) (h : PySem.W.dataLt x z = true) : PySem.W.dataLt x y = true ∨ PySem.W.dataLt y z = true := (listOrd itemOrd).negTrans _ _ _ h
theorem dl_trans {x y z : D} (h1 : PySem.W.dataLt x y = true) (h2 : PySem.W.dataLt y z = true) : PySem.W.dataLt x z = true := (listOrd itemOrd).trans _ _ _ h1 h2
theorem dl_irr (x : D) : PySem.W.dataLt x x = false := (listOrd itemOrd).irrefl _
theorem minD_spec : ∀ (ds : List D) (d : D), PySem.W.minD d ds ∈ d :: ds ∧ ∀ x ∈ d :: ds, PySem.W.dataLt x (PySem.W.minD d ds) = false
  | [], d => ⟨List.mem_cons_self, fun x hx => by rw [List.mem_singleton.mp hx]; exact dl_irr d⟩
  | y :: ds, d => by
    have e : PySem.W.minD d (y :: ds) = PySem.W.minD (if PySem.W.dataLt y d then y else d) ds := rfl
    rw [e]
    cases c : PySem.W.dataLt y d with
    | true =>
      simp only [if_true]
      obtain ⟨h1, h2⟩ := minD_spec ds y
      refine ⟨List.mem_cons_of_mem _ h1, fun x hx => ?_⟩
      rcases List.mem_cons.mp hx with rfl | hx
      · cases q : PySem.W.dataLt x (PySem.W.minD y ds) with
        | false => rfl
        | true =>
          have := h2 y List.mem_cons_self
          rw [dl_trans c q] at this
          cases this
      · exact h2 x hx
    | false =>
      simp only [Bool.false_eq_true, if_false]
      obtain ⟨h1, h2⟩ := minD_spec ds d
      refine ⟨?_, fun x hx => ?_⟩
      · rcases List.mem_cons.mp h1 with h | h
        · rw [h]; exact List.mem_cons_self
        · exact List.mem_cons_of_mem _ (List.mem_cons_of_mem _ h)
      rcases List.mem_cons.mp hx with rfl | hx
      · exact h2 x List.mem_cons_self
      rcases List.mem_cons.mp hx with rfl | hx
      · cases q : PySem.W.dataLt x (PySem.W.minD d ds) with
        | false => rfl
        | true =>
          rcases dl_neg d q with h | h
          · rw [c] at h; cases h
          · rw [h2 d List.mem_cons_self] at h; cases h
      · exact h2 x (List.mem_cons_of_mem _ hx)
theorem alike_tI (a b : List Int) : PySem.W.alike (tI a) (tI b) = true := by
  unfold tI
  simp only [PySem.W.alike]
  exact alike_all a b
/-- a row of tuples of numbers -/
def fgD (A : List (List Int)) : D := .tuple (A.map tI)
def ltF : List (List Int) → List (List Int) → Bool
  | [], [] => false
  | [], _ :: _ => true
  | _ :: _, [] => false
  | a :: A, b :: B => if a = b then ltF A B else HT.lexLt a b
theorem lt_fg_all : ∀ A B : List (List Int), PyProof.Rows.lexLt itemOrd (PySem.W.keyToksAll (A.map tI)) (PySem.W.keyToksAll (B.map tI)) = ltF A B
  | [], [] => rfl
  | [], _ :: _ => rfl
  | _ :: _, [] => rfl
  | a :: A, b :: B => by
    rw [List.map_cons, List.map_cons]
    by_cases h : a = b
    · rw [PySem.W.dataLt_all_yes (alike_tI _ _) (by rw [eqv_tI]; exact decide_eq_true h), ltF, if_pos h]
      exact lt_fg_all A B
    · rw [PySem.W.dataLt_all_no (alike_tI _ _) (by rw [eqv_tI]; exact decide_eq_false h), ltF, if_neg h, lt_tI]
theorem lt_fg (A B : List (List Int)) : PySem.W.dataLt (fgD A) (fgD B) = ltF A B := by
  unfold fgD
  rw [PySem.W.dataLt_tuple]
  exact lt_fg_all A B
theorem ltF_anti : ∀ A B : List (List Int), ltF A B = false → ltF B A = false → A = B
  | [], [], _, _ => rfl
  | [], _ :: _, h, _ => nomatch h
  | _ :: _, [], _, h => nomatch h
  | a :: A, b :: B, h1, h2 => by
    unfold ltF at h1 h2
    by_cases e : a = b
    · rw [if_pos e] at h1
      rw [if_pos e.symm] at h2
      rw [e, ltF_anti A B h1 h2]
    · rw [if_neg e] at h1
      rw [if_neg fun q => e q.symm] at h2
      exact absurd (lex_anti a b h1 h2) e
theorem tI_map_inj : ∀ {A B : List (List Int)}, A.map tI = B.map tI → A = B := fun {A B} h => List.map_inj_right (fun a b e => tI_inj e) |>.mp h
theorem fgD_inj {A B : List (List Int)} (h : fgD A = fgD B) : A = B := by
  unfold fgD at h
  injection h with h
  exact tI_map_inj h
theorem min_fg (A : List (List Int)) (L : List (List (List Int))) : ∃ M, PySem.W.minD (fgD A) (L.map fgD) = fgD M ∧ M ∈ A :: L ∧ ∀ X ∈ A :: L, ltF X M = false := by
  obtain ⟨h1, h2⟩ := minD_spec (L.map fgD) (fgD A)
  rw [← List.map_cons] at h1 h2
  obtain ⟨M, hM, e⟩ := List.mem_map.mp h1
  refine ⟨M, e.symm, hM, fun X hX => ?_⟩
  rw [← lt_fg, e]
  exact h2 _ (List.mem_map.mpr ⟨X, hX, rfl⟩)
theorem min_tI (a : List Int) (L : List (List Int)) : ∃ m, PySem.W.minD (tI a) (L.map tI) = tI m ∧ m ∈ a :: L ∧ ∀ x ∈ a :: L, HT.lexLt x m = false := by
  obtain ⟨h1, h2⟩ := minD_spec (L.map tI) (tI a)
  rw [← List.map_cons] at h1 h2
  obtain ⟨m, hm, e⟩ := List.mem_map.mp h1
  refine ⟨m, e.symm, hm, fun x hx => ?_⟩
  rw [← lt_tI, e]
  exact h2 _ (List.mem_map.mpr ⟨x, hx, rfl⟩)
theorem tupNE_tI {a : List Int} (h : a ≠ []) : tupNE (tI a) = true := by
  cases a with
  | nil => exact absurd rfl h
  | cons x r => rfl
theorem alike_fg_all : ∀ A B : List (List Int), PySem.W.alikeAll (A.map tI) (B.map tI) = true
  | [], _ => by simp [PySem.W.alikeAll]
  | _ :: _, [] => by simp [PySem.W.alikeAll]
  | a :: A, b :: B => by
    simp only [List.map_cons, PySem.W.alikeAll, alike_tI, Bool.true_and]
    exact alike_fg_all A B
theorem alike_fg (A B : List (List Int)) : PySem.W.alike (fgD A) (fgD B) = true := by
  unfold fgD
  simp only [PySem.W.alike]
  exact alike_fg_all A B
theorem pln_fg (A : List (List Int)) : Pln 2 (fgD A) := pln_tup (k := 1) fun d hd => by
  obtain ⟨a, _, rfl⟩ := List.mem_map.mp hd
  exact pln_tI a
theorem tupNE_fg {A : List (List Int)} (h : A ≠ []) : tupNE (fgD A) = true := by
  cases A with
  | nil => exact absurd rfl h
  | cons x r => rfl
/-- what fMinN asks, of things that all are of one form -/
theorem minN_of {α : Type} {e : α → D} (hal : ∀ a b, PySem.W.alike (e a) (e b) = true) (hp : ∀ a, Pln 2 (e a)) {a : α} {L : List α} (hn : ∀ x ∈ a :: L, tupNE (e x) = true) : fMinN [.list ((a :: L).map e)] = some (.d (PySem.W.minD (e a) (L.map e))) := by
  obtain ⟨z, zs, ez⟩ := tupNE_eq (hn a List.mem_cons_self)
  have h0 : fMinL [.list ((a :: L).map e)] = none := by
    rw [List.map_cons, ez]
    rfl
  simp only [fMinN, h0]
  rw [List.map_cons]
  refine if_pos ⟨?_, ?_, ?_, ?_⟩
  · refine List.all_eq_true.mpr fun x hx => List.all_eq_true.mpr fun y hy => ?_
    rw [← List.map_cons] at hx hy
    obtain ⟨x', _, rfl⟩ := List.mem_map.mp hx
    obtain ⟨y', _, rfl⟩ := List.mem_map.mp hy
    exact hal _ _
  · refine nodAll _ fun x hx => ?_
    rw [← List.map_cons] at hx
    obtain ⟨x', _, rfl⟩ := List.mem_map.mp hx
    exact (hp x').nod
  · refine List.all_eq_true.mpr fun x hx => ?_
    rw [← List.map_cons] at hx
    obtain ⟨x', _, rfl⟩ := List.mem_map.mp hx
    exact decide_eq_true (Nat.le_trans (hp x').dep (by decide))
  · refine List.all_eq_true.mpr fun x hx => ?_
    rw [← List.map_cons] at hx
    obtain ⟨x', hx', rfl⟩ := List.mem_map.mp hx
    exact hn x' hx'
/-! ## the two ways of sorting are one -/
def unI : D → List Int
  | .tuple ds => ds.filterMap fun d => match d with
    | .int i => some i
    | _ => none
  | _ => []
theorem unI_tI (l : List Int) : unI (tI l) = l := by
  show (l.map PyData.int).filterMap _ = l
  rw [List.filterMap_map]
  exact (List.filterMap_some (l := l))
theorem map_unI : ∀ ds : List D, (∀ d ∈ ds, ∃ l, d = tI l) → (ds.map unI).map tI = ds
  | [], _ => rfl
  | d :: ds, h => by
    obtain ⟨l, rfl⟩ := h d List.mem_cons_self
    rw [List.map_cons, List.map_cons, unI_tI, map_unI ds fun x hx => h x (List.mem_cons_of_mem _ hx)]
theorem sortD_tI (L : List (List Int)) : sortD (L.map tI) = (sortI L).map tI := by
  have hp := sortD_perm (L.map tI)
  have hm : ∀ d ∈ sortD (L.map tI), ∃ l, d = tI l := fun d hd => by
    obtain ⟨l, _, e⟩ := List.mem_map.mp (hp.mem_iff.mp hd)
    exact ⟨l, e.symm⟩
  have e := map_unI _ hm
  rw [← e]
  congr 1
  refine (sorted_one (sortI_srtd L) ?_ ?_).symm
  · have hw := PySem.W.sort_pairwise (PySem.W.sortLe_total (listOrd itemOrd) false PySem.W.keyToks) (L.map tI)
    refine List.pairwise_map.mpr ((List.Pairwise.and_mem.mp hw).imp fun {x y} h => ?_)
    obtain ⟨hx, hy, h⟩ := h
    obtain ⟨a, rfl⟩ := hm x hx
    obtain ⟨b, rfl⟩ := hm y hy
    have h2 : (!PySem.W.dataLt (tI b) (tI a)) = true := h
    rw [unI_tI, unI_tI, ← lt_tI]
    simpa using h2
  · have := hp.map unI
    rw [List.map_map] at this
    refine (sortI_perm L).trans (List.Perm.trans (List.Perm.of_eq ?_) this.symm)
    refine ((List.map_congr_left fun l _ => ?_).trans (List.map_id L)).symm
    exact unI_tI l
theorem sortedT_tI (L : List (List Int)) (h : ∀ x ∈ L, x ≠ []) : fSortedT [.tuple (L.map tI)] = some (.o (.lst ((sortI L).map tI))) := by
  rw [← sortD_tI]
  refine if_pos ⟨?_, ?_, ?_, ?_⟩
  · refine List.all_eq_true.mpr fun x hx => ?_
    obtain ⟨l, hl, rfl⟩ := List.mem_map.mp hx
    exact tupNE_tI (h l hl)
  · refine List.all_eq_true.mpr fun x hx => List.all_eq_true.mpr fun y hy => ?_
    obtain ⟨l, _, rfl⟩ := List.mem_map.mp hx
    obtain ⟨l', _, rfl⟩ := List.mem_map.mp hy
    exact alike_tI l l'
  · refine nodAll _ fun x hx => ?_
    obtain ⟨l, _, rfl⟩ := List.mem_map.mp hx
    exact (pln_tI l).nod
  · refine List.all_eq_true.mpr fun x hx => ?_
    obtain ⟨l, _, rfl⟩ := List.mem_map.mp hx
    exact decide_eq_true (Nat.le_trans (pln_tI l).dep (by decide))
theorem sorted_tI (L : List (List Int)) (h : ∀ x ∈ L, x ≠ []) : fSorted [.list (L.map tI)] = some (.o (.lst ((sortI L).map tI))) := by
  simp only [fSorted, tupsI_tI L h]
  rfl
theorem sortedTL_tI (L : List (List Int)) (h : ∀ x ∈ L, x ≠ []) : fSortedT [.list (L.map tI)] = some (.o (.lst ((sortI L).map tI))) := by
  simp only [fSortedT, fSortedN, sorted_tI L h]
/-! ## two sources, where the element calls -/
theorem kLc2.any {g : D → S → Option S} {c : MT} {src1 : MI} {g1 : D → S → Option S} {c1 : MT} {m : ME} {vs vs1 : List Nat} {Q : R → S → Prop} {ds : List D} {a : List (Option R)} {b : Bx} (F : D → List D) (hv : ∀ i ∈ vs1, i ∈ vs) (h1 : noOwn a vs = true) (hl : (ds.flatMap F).length ≤ 10000)
    (hs : ∀ d ∈ ds, ∀ b, ∃ s1, g d ⟨wipeA a vs, b⟩ = some s1 ∧ Ok (c s1) fun t s2 => (t = false → wipeA s2.a vs = wipeA a vs ∧ F d = []) ∧ (t = true → Ok (src1 s2) fun es s3 => wipeA s3.a vs = wipeA a vs ∧ ∃ F1 : D → Option D, F d = es.filterMap F1 ∧ ∀ e ∈ es, ∀ b, ∃ s4, g1 e ⟨wipeA s3.a vs1, b⟩ = some s4 ∧
      Ok (c1 s4) fun t s5 => (t = true → Ok (m s5) fun y s6 => ∃ z, take1 s6 y = some (z, s6) ∧ wipeA s6.a vs1 = wipeA s3.a vs1 ∧ F1 e = some z) ∧ (t = false → wipeA s5.a vs1 = wipeA s3.a vs1 ∧ F1 e = none)))
    (q : ∀ b, Q (.o (.lst (ds.flatMap F))) ⟨a, b⟩) : kLc2 g c src1 g1 c1 m vs vs1 Q ds ⟨a, b⟩ := by
  refine ⟨h1, ?_⟩
  have go : ∀ (r done : List D) (s : S), ds = done ++ r → wipeA s.a vs = wipeA a vs → Ok (lc2L g c src1 g1 c1 m vs vs1 r (done.flatMap F) s) fun acc s2 => Q (.o (.lst acc)) ⟨backA a s2.a vs, s2.b⟩ := by
    intro r
    induction r with
    | nil =>
      intro done s e hw
      rw [List.append_nil] at e
      refine .of rfl ?_
      show Q (.o (.lst (done.flatMap F))) ⟨backA a s.a vs, s.b⟩
      rw [back_wipe hw, ← e]
      exact q _
    | cons d r ih =>
      intro done s e hw
      have hm : d ∈ ds := by rw [e]; simp
      obtain ⟨s1, e1, h2⟩ := hs d hm s.b
      obtain ⟨t, s2, e2, hf, ht⟩ := h2.get
      have e1' : g d { s with a := wipeA s.a vs } = some s1 := by rw [← e1, ← hw]
      have eN : ds = (done ++ [d]) ++ r := by rw [e]; simp
      cases t with
      | false =>
        obtain ⟨k1, k3⟩ := hf rfl
        simp only [lc2L, e1', e2]
        have := ih (done ++ [d]) s2 eN k1
        rw [List.flatMap_append] at this
        simp only [List.flatMap_cons, List.flatMap_nil, k3, List.append_nil] at this
        exact this
      | true =>
        obtain ⟨es, s3, e3, k1, F1, k3, h4⟩ := (ht rfl).get
        have hin := k_lcL (g := g1) (c := c1) (m := m) (vs := vs1) (Q := fun acc s' => acc = done.flatMap F ++ F d ∧ wipeA s'.a vs1 = wipeA s3.a vs1)
          (fun r' acc s' => wipeA s'.a vs1 = wipeA s3.a vs1 ∧ ∃ dn, es = dn ++ r' ∧ acc = done.flatMap F ++ dn.filterMap F1) (by
            rintro d' r' acc s' ⟨hw', dn, e', ha⟩
            have hm' : d' ∈ es := by rw [e']; simp
            obtain ⟨s4, e4, h5⟩ := h4 d' hm' s'.b
            refine ⟨s4, by rw [hw']; exact e4, h5.mono ?_⟩
            rintro t s5 ⟨ht5, hf5⟩
            cases t with
            | false =>
              obtain ⟨j1, j3⟩ := hf5 rfl
              exact ⟨j1, dn ++ [d'], by rw [e']; simp, by rw [ha, List.filterMap_append]; simp [j3]⟩
            | true =>
              refine (ht5 rfl).mono ?_
              rintro y s6 ⟨z, e6, j1, j3⟩
              refine ⟨z, s6, e6, ?_, j1, dn ++ [d'], by rw [e']; simp, by rw [ha, List.filterMap_append]; simp [j3]⟩
              rw [ha]
              have hb1 : (done.flatMap F ++ F d).length ≤ (ds.flatMap F).length := by
                rw [eN, List.flatMap_append, List.flatMap_append, List.length_append, List.length_append, List.length_append]
                simp
              rw [List.length_append, k3, e', List.filterMap_append, List.length_append] at hb1
              rw [List.length_append]
              omega) (by
            rintro acc s' ⟨hw', dn, e', ha⟩
            rw [List.append_nil] at e'
            exact ⟨by rw [ha, k3, e'], hw'⟩) es (done.flatMap F) s3 ⟨rfl, [], rfl, by simp⟩
        obtain ⟨acc', s4, e4, ha, hw4⟩ := hin.get
        simp only [lc2L, e1', e2, e3, e4]
        have hw5 : wipeA s4.a vs = wipeA a vs := by
          rw [← k1, ← wipeA_wipeA (a := s4.a) hv, ← wipeA_wipeA (a := s3.a) hv, hw4]
        have := ih (done ++ [d]) s4 eN hw5
        rw [List.flatMap_append] at this
        simp only [List.flatMap_cons, List.flatMap_nil, List.append_nil] at this
        rw [ha]
        exact this
  exact go ds [] ⟨a, b⟩ rfl rfl
end Qz
namespace K14
open PySem PySem.Spec L2 Qz
open PyProof.Rows hiding St
def top (i : Nat) : Stmt := PySem.Challenge.pw_heardagain_k14_normal_forms.main.body.getD i (.Pass ⟨0, 0, 0, 0⟩)
structure Tx (K : PySem.W.Frag) (mg : Str → Option Value) (f : Nat → Addr) (fd : Nat → FuncData) : Prop where
  n_ValueError : mg "ValueError" = none
  n_abs : mg "abs" = none
  n_int : mg "int" = none
  n_isinstance : mg "isinstance" = none
  n_len : mg "len" = none
  n_list : mg "list" = none
  n_min : mg "min" = none
  n_range : mg "range" = none
  n_repr : mg "repr" = none
  n_sorted : mg "sorted" = none
  n_tuple : mg "tuple" = none
  n_gcd : mg "gcd" = some (.builtin "math.gcd")
  c_FLIPPING : ModT K mg "FLIPPING" ["flip", "both", "all"]
  c_KINDS : ModT K mg "KINDS" ["shift", "flip", "back", "both", "slow", "all"]
  c_STRETCHING : ModT K mg "STRETCHING" ["slow", "all"]
  c_TURNING : ModT K mg "TURNING" ["back", "both", "all"]
  d9 : Fun K "check_kind" "check_kind" (top 9) (f 9) (fd 9)
  m9 : mg "check_kind" = some (.ref (f 9))
  k9 : PySem.W.keepIn K (.ref (f 9)) = true
  b9 : Binds K (fd 9) ["kind"] []
  d10 : Fun K "turns" "turns" (top 10) (f 10) (fd 10)
  m10 : mg "turns" = some (.ref (f 10))
  k10 : PySem.W.keepIn K (.ref (f 10)) = true
  b10 : Binds K (fd 10) ["kind"] []
  d11 : Fun K "flips" "flips" (top 11) (f 11) (fd 11)
  m11 : mg "flips" = some (.ref (f 11))
  k11 : PySem.W.keepIn K (.ref (f 11)) = true
  b11 : Binds K (fd 11) ["kind"] []
  d13 : Fun K "normal" "normal" (top 13) (f 13) (fd 13)
  m13 : mg "normal" = some (.ref (f 13))
  k13 : PySem.W.keepIn K (.ref (f 13)) = true
  b13 : Binds K (fd 13) ["figure", "kind"] []
  d14 : Fun K "_beginning" "_beginning" (top 14) (f 14) (fd 14)
  m14 : mg "_beginning" = some (.ref (f 14))
  k14 : PySem.W.keepIn K (.ref (f 14)) = true
  b14 : Binds K (fd 14) ["pairs"] []
  d15 : Fun K "_shortened" "_shortened" (top 15) (f 15) (fd 15)
  m15 : mg "_shortened" = some (.ref (f 15))
  k15 : PySem.W.keepIn K (.ref (f 15)) = true
  b15 : Binds K (fd 15) ["pairs"] []
  d17 : Fun K "_law_box" "_law_box" (top 17) (f 17) (fd 17)
  m17 : mg "_law_box" = some (.ref (f 17))
  k17 : PySem.W.keepIn K (.ref (f 17)) = true
  b17 : Binds K (fd 17) ["script"] []
  d18 : Fun K "_law_draw" "_law_draw" (top 18) (f 18) (fd 18)
  m18 : mg "_law_draw" = some (.ref (f 18))
  k18 : PySem.W.keepIn K (.ref (f 18)) = true
  b18 : Binds K (fd 18) ["box", "many"] []
  d19 : Fun K "_law_pick" "_law_pick" (top 19) (f 19) (fd 19)
  m19 : mg "_law_pick" = some (.ref (f 19))
  k19 : PySem.W.keepIn K (.ref (f 19)) = true
  b19 : Binds K (fd 19) ["box", "items"] []
  d20 : Fun K "_law_figure" "_law_figure" (top 20) (f 20) (fd 20)
  m20 : mg "_law_figure" = some (.ref (f 20))
  k20 : PySem.W.keepIn K (.ref (f 20)) = true
  b20 : Binds K (fd 20) ["box", "most", "step"] []
  d21 : Fun K "_law_begun" "_law_begun" (top 21) (f 21) (fd 21)
  m21 : mg "_law_begun" = some (.ref (f 21))
  k21 : PySem.W.keepIn K (.ref (f 21)) = true
  b21 : Binds K (fd 21) ["pairs"] []
  d22 : Fun K "_law_normal" "_law_normal" (top 22) (f 22) (fd 22)
  m22 : mg "_law_normal" = some (.ref (f 22))
  k22 : PySem.W.keepIn K (.ref (f 22)) = true
  b22 : Binds K (fd 22) ["figure", "kind"] []
  d23 : Fun K "_law_told" "_law_told" (top 23) (f 23) (fd 23)
  m23 : mg "_law_told" = some (.ref (f 23))
  k23 : PySem.W.keepIn K (.ref (f 23)) = true
  b23 : Binds K (fd 23) ["figure", "kind", "is_named"] []
  d24 : Fun K "_law_drawn" "_law_drawn" (top 24) (f 24) (fd 24)
  m24 : mg "_law_drawn" = some (.ref (f 24))
  k24 : PySem.W.keepIn K (.ref (f 24)) = true
  b24 : Binds K (fd 24) ["box"] []
  d25 : Fun K "_law_turned" "_law_turned" (top 25) (f 25) (fd 25)
  m25 : mg "_law_turned" = some (.ref (f 25))
  k25 : PySem.W.keepIn K (.ref (f 25)) = true
  b25 : Binds K (fd 25) ["box", "figure", "kind"] []
  d26 : Fun K "_law_is_right" "_law_is_right" (top 26) (f 26) (fd 26)
  m26 : mg "_law_is_right" = some (.ref (f 26))
  k26 : PySem.W.keepIn K (.ref (f 26)) = true
  b26 : Binds K (fd 26) ["box", "figure"] []
  d27 : Fun K "law" "law" (top 27) (f 27) (fd 27)
  m27 : mg "law" = some (.ref (f 27))
  k27 : PySem.W.keepIn K (.ref (f 27)) = true
  b27 : Binds K (fd 27) ["script"] []
  kb13_0_kind_figure : KBinds K (fd 13) ["figure", "kind"] ["kind", "figure"] (gP 0 2 [1, 0]) (gP 0 2 [1, 0])
  e_NoKind : ∃ C I, ErrTxt K mg "NoKind" "NoKind.__init__" "given" C I ∧ PySem.W.exmOne K (.ref C) (.ref C) = some true ∧ ∃ B, mg "ScoreError" = some (.ref B) ∧ IsI K C (.ref B) true ∧ IsI K C (.type "ValueError") true
section
variable {P : Program} {w : World} {K : PySem.W.Frag} {mg : Str → Option Value} {base : Heap} {f : Nat → Addr} {fd : Nat → FuncData}
noncomputable def m_check_kind : MS := mSeq (mIf (mB (mUn (dNinX ["shift", "flip", "back", "both", "slow", "all"]) (mVar 0))) (mSeq (mNoS) (mNext)) (mNext)) (mNext)
noncomputable def f_check_kind : DF := runF 1 m_check_kind
theorem sc_check_kind : FnScope ["kind"] ["kind"] (defScope (top 9)) := ⟨rfl, rfl, rfl, by decide +kernel, rfl, by decide +kernel, by decide +kernel⟩
theorem ok_check_kind (T : Tx K mg f fd) : FnG P w K mg base 2 (f 9) (fd 9) ["kind"] (spD K 1 f_check_kind) :=
  fng_of (k := 1) (N := ["kind"]) (m := m_check_kind) T.d9 sc_check_kind fun X hP hw hK hm hb hN hE hc hfn hxe hr => by
    obtain ⟨_, _, _, _, _, _, _, _, _, ⟨_, _⟩, _⟩ := X
    cases hP; cases hw; cases hK; cases hm; cases hb; cases hN; cases hE; cases hc
    have nd := (sc_check_kind).nd
    exact rss_cons (rs_if (rt_ninX hr T.c_KINDS (re_var 0)) (rss_cons (rs_no) (rss_nil)) (rss_nil)) (rss_nil)
noncomputable def x_check_kind : XM := xSeq (mIf (mB (mUn (dNinX ["shift", "flip", "back", "both", "slow", "all"]) (mVar 0))) (mSeq (mNoS) (mNext)) (mNext)) (xIte (mB (mUn (dNinX ["shift", "flip", "back", "both", "slow", "all"]) (mVar 0))) (xSeq (mNoS) (xRaise "NoKind" "given" (mCons (mVar 0) (mNil))) (xNo)) (xNo)) (xNo)
noncomputable def g_check_kind : DX := runX 1 x_check_kind
theorem dis_check_kind : DisF f_check_kind g_check_kind := disF_run (dis_seq (dis_if (dis_seq (dis_raise) (dis_no)) (dis_no)) (dis_no))
theorem okx_check_kind (T : Tx K mg f fd) : FnGX P w K mg base 2 (f 9) (fd 9) ["kind"] (spX K mg 1 f_check_kind g_check_kind) :=
  fngx_of (k := 1) (N := ["kind"]) (m := m_check_kind) (mx := x_check_kind) T.d9 sc_check_kind fun X W hP hw hK hm hb hN hE hc hfn hst hfr hr tk => by
    obtain ⟨_, _, _, _, _, _, _, _, _, ⟨_, _⟩, _⟩ := X
    cases hP; cases hw; cases hK; cases hm; cases hb; cases hN; cases hE; cases hc
    have nd := (sc_check_kind).nd
    obtain ⟨_, _, e_NoKind, x_NoKind, _, m_ScoreError, i_NoKind_ScoreError, i_NoKind_ValueError⟩ := T.e_NoKind
    exact xss_cons (xs_if (rt_ninX hr T.c_KINDS (re_var 0)) (xss_cons (xs_raise rfl e_NoKind hr tk (ra_cons (re_var 0) (ra_nil))) (xss_nil)) (xss_nil)) (xss_nil)
noncomputable def m_turns : MS := mSeq (mRet (mIte (mB (mUn (dInX ["back", "both", "all"]) (mVar 0))) (mTup (mCons (mC (.int 1)) (mCons (mUn dNeg (mC (.int 1))) (mNil)))) (mTup (mCons (mC (.int 1)) (mNil))))) (mNext)
noncomputable def f_turns : DF := runF 1 m_turns
theorem sc_turns : FnScope ["kind"] ["kind"] (defScope (top 10)) := ⟨rfl, rfl, rfl, by decide +kernel, rfl, by decide +kernel, by decide +kernel⟩
theorem ok_turns (T : Tx K mg f fd) : FnG P w K mg base 1 (f 10) (fd 10) ["kind"] (spD K 1 f_turns) :=
  fng_of (k := 0) (N := ["kind"]) (m := m_turns) T.d10 sc_turns fun X hP hw hK hm hb hN hE hc hfn hxe hr => by
    obtain ⟨_, _, _, _, _, _, _, _, _, ⟨_, _⟩, _⟩ := X
    cases hP; cases hw; cases hK; cases hm; cases hb; cases hN; cases hE; cases hc
    have nd := (sc_turns).nd
    exact rss_cons (rs_ret (re_ite (rt_inX hr T.c_TURNING (re_var 0)) (re_tup (ra_cons (re_int) (ra_cons (re_neg (re_int)) (ra_nil)))) (re_tup (ra_cons (re_int) (ra_nil))))) (rss_nil)
noncomputable def m_flips : MS := mSeq (mRet (mIte (mB (mUn (dInX ["flip", "both", "all"]) (mVar 0))) (mTup (mCons (mC (.int 1)) (mCons (mUn dNeg (mC (.int 1))) (mNil)))) (mTup (mCons (mC (.int 1)) (mNil))))) (mNext)
noncomputable def f_flips : DF := runF 1 m_flips
theorem sc_flips : FnScope ["kind"] ["kind"] (defScope (top 11)) := ⟨rfl, rfl, rfl, by decide +kernel, rfl, by decide +kernel, by decide +kernel⟩
theorem ok_flips (T : Tx K mg f fd) : FnG P w K mg base 1 (f 11) (fd 11) ["kind"] (spD K 1 f_flips) :=
  fng_of (k := 0) (N := ["kind"]) (m := m_flips) T.d11 sc_flips fun X hP hw hK hm hb hN hE hc hfn hxe hr => by
    obtain ⟨_, _, _, _, _, _, _, _, _, ⟨_, _⟩, _⟩ := X
    cases hP; cases hw; cases hK; cases hm; cases hb; cases hN; cases hE; cases hc
    have nd := (sc_flips).nd
    exact rss_cons (rs_ret (re_ite (rt_inX hr T.c_FLIPPING (re_var 0)) (re_tup (ra_cons (re_int) (ra_cons (re_neg (re_int)) (ra_nil)))) (re_tup (ra_cons (re_int) (ra_nil))))) (rss_nil)
noncomputable def m_beginning : MS := mSeq (mAsg (mBlt fMinN (mCons (mVar 0) (mNil))) (gT 2 (gsC (gN 1) (gsC (gN 2) (gs0))))) (mSeq (mRet (mBlt fTup (mCons (mBlt fSorted (mCons (mLc (iLstD (mVar 0)) (gT 2 (gsC (gN 3) (gsC (gN 4) (gs0)))) (mYes) (mTup (mCons (mOp dSub (mVar 3) (mVar 1)) (mCons (mOp dSub (mVar 4) (mVar 2)) (mNil)))) [3, 4]) (mNil))) (mNil)))) (mNext))
noncomputable def f_beginning : DF := runF 5 m_beginning
theorem sc_beginning : FnScope ["pairs", "far", "high", "x", "y"] ["pairs"] (defScope (top 14)) := ⟨rfl, rfl, rfl, by decide +kernel, rfl, by decide +kernel, by decide +kernel⟩
theorem ok_beginning (T : Tx K mg f fd) : FnG P w K mg base 1 (f 14) (fd 14) ["pairs"] (spD K 1 f_beginning) :=
  fng_of (k := 0) (N := ["pairs", "far", "high", "x", "y"]) (m := m_beginning) T.d14 sc_beginning fun X hP hw hK hm hb hN hE hc hfn hxe hr => by
    obtain ⟨_, _, _, _, _, _, _, _, _, ⟨_, _⟩, _⟩ := X
    cases hP; cases hw; cases hK; cases hm; cases hb; cases hN; cases hE; cases hc
    have nd := (sc_beginning).nd
    exact rss_cons (rs_asg (re_minN hr rfl T.n_min (ra_cons (re_var 0) (ra_nil))) (rg_tup (rgs_cons (rg_name nd (i := 1) rfl (.inr rfl) (.inl (hfn _))) (rgs_cons (rg_name nd (i := 2) rfl (.inr rfl) (.inl (hfn _))) (rgs_nil))) rfl rfl rfl)) (rss_cons (rs_ret (re_tuple T.n_tuple (ra_cons (re_sorted T.n_sorted (ra_cons (re_lc (own := [("x", 3), ("y", 4)]) rfl nd (ri_lst (re_var 0)) (blkOk_by (by dsimp only; decide +kernel)) (fun _ _ _ _ _ => rg_tup (rgs_cons (rg_name nd (i := 3) rfl (.inl rfl) (.inr rfl)) (rgs_cons (rg_name nd (i := 4) rfl (.inl rfl) (.inr rfl)) (rgs_nil))) rfl rfl rfl) (fun _ _ _ _ _ => rts_nil) (fun _ _ _ _ _ => re_tup (ra_cons (re_op op_sub s_sub (re_var 3) (re_var 1)) (ra_cons (re_op op_sub s_sub (re_var 4) (re_var 2)) (ra_nil)))) (by decide)) (ra_nil))) (ra_nil)))) (rss_nil))
noncomputable def m_shortened : MS := mSeq (mSet 1 (mC (.int 0))) (mSeq (mFor (iTupD (mVar 0)) (gT 2 (gsC (gN 2) (gsC (gN 3) (gs0)))) (mSeq (mSet 1 (mBlt fGcd (mCons (mVar 1) (mCons (mVar 2) (mNil))))) (mNext))) (mSeq (mRet (mBlt fTup (mCons (mLc (iTupD (mVar 0)) (gT 2 (gsC (gN 2) (gsC (gN 4) (gs0)))) (mYes) (mTup (mCons (mOp dFdiv (mVar 2) (mVar 1)) (mCons (mVar 4) (mNil)))) [2, 4]) (mNil)))) (mNext)))
noncomputable def f_shortened : DF := runF 5 m_shortened
theorem sc_shortened : FnScope ["pairs", "divisor", "x", "_", "y"] ["pairs"] (defScope (top 15)) := ⟨rfl, rfl, rfl, by decide +kernel, rfl, by decide +kernel, by decide +kernel⟩
theorem ok_shortened (T : Tx K mg f fd) : FnG P w K mg base 1 (f 15) (fd 15) ["pairs"] (spD K 1 f_shortened) :=
  fng_of (k := 0) (N := ["pairs", "divisor", "x", "_", "y"]) (m := m_shortened) T.d15 sc_shortened fun X hP hw hK hm hb hN hE hc hfn hxe hr => by
    obtain ⟨_, _, _, _, _, _, _, _, _, ⟨_, _⟩, _⟩ := X
    cases hP; cases hw; cases hK; cases hm; cases hb; cases hN; cases hE; cases hc
    have nd := (sc_shortened).nd
    exact rss_cons (rs_set nd (i := 1) rfl (.inr rfl) (re_int) (hf := .inl (hfn _))) (rss_cons (rs_for (fun e s h => absurd h (hxe e s)) rfl (ri_tup (re_var 0)) (rg_tup (rgs_cons (rg_name nd (i := 2) rfl (.inl rfl) (.inl (hfn _))) (rgs_cons (rg_name nd (i := 3) rfl (.inl rfl) (.inl (hfn _))) (rgs_nil))) rfl rfl rfl) (rss_cons (rs_set nd (i := 1) rfl (.inr rfl) (re_gcd T.n_gcd (ra_cons (re_var 1) (ra_cons (re_var 2) (ra_nil)))) (hf := .inl (hfn _))) (rss_nil))) (rss_cons (rs_ret (re_tuple T.n_tuple (ra_cons (re_lc (own := [("x", 2), ("y", 4)]) rfl nd (ri_tup (re_var 0)) (blkOk_by (by dsimp only; decide +kernel)) (fun _ _ _ _ _ => rg_tup (rgs_cons (rg_name nd (i := 2) rfl (.inl rfl) (.inr rfl)) (rgs_cons (rg_name nd (i := 4) rfl (.inl rfl) (.inr rfl)) (rgs_nil))) rfl rfl rfl) (fun _ _ _ _ _ => rts_nil) (fun _ _ _ _ _ => re_tup (ra_cons (re_op op_fdivC s_fdiv (re_var 2) (re_var 1)) (ra_cons (re_var 4) (ra_nil)))) (by decide)) (ra_nil)))) (rss_nil)))
noncomputable def m_normal : MS := mSeq (mDrop (mCall 1 f_check_kind (mCons (mVar 1) (mNil)))) (mSeq (mSet 2 (mLc2 (iTupD (mCall 1 f_turns (mCons (mVar 1) (mNil)))) (gN 4) (mYes) (iTupD (mCall 1 f_flips (mCons (mVar 1) (mNil)))) (gN 5) (mYes) (mCall 1 f_beginning (mCons (mLc (iTupD (mVar 0)) (gT 2 (gsC (gN 6) (gsC (gN 7) (gs0)))) (mYes) (mTup (mCons (mOp dMul (mVar 4) (mVar 6)) (mCons (mOp dMul (mVar 5) (mVar 7)) (mNil)))) [6, 7]) (mNil))) [4, 5] [5])) (mSeq (mSet 3 (mBlt fMinN (mCons (mVar 2) (mNil)))) (mSeq (mRet (mIte (mB (mUn (dInX ["slow", "all"]) (mVar 1))) (mCall 1 f_shortened (mCons (mVar 3) (mNil))) (mVar 3))) (mNext))))
noncomputable def f_normal : DF := runF 8 m_normal
theorem sc_normal : FnScope ["figure", "kind", "forms", "least", "sign", "e", "x", "y"] ["figure", "kind"] (defScope (top 13)) := ⟨rfl, rfl, rfl, by decide +kernel, rfl, by decide +kernel, by decide +kernel⟩
theorem ok_normal (T : Tx K mg f fd) : FnG P w K mg base 3 (f 13) (fd 13) ["figure", "kind"] (spD K 2 f_normal) :=
  fng_of (k := 2) (N := ["figure", "kind", "forms", "least", "sign", "e", "x", "y"]) (m := m_normal) T.d13 sc_normal fun X hP hw hK hm hb hN hE hc hfn hxe hr => by
    obtain ⟨_, _, _, _, _, _, _, _, _, ⟨_, _⟩, _⟩ := X
    cases hP; cases hw; cases hK; cases hm; cases hb; cases hN; cases hE; cases hc
    have nd := (sc_normal).nd
    exact rss_cons (rs_expr (rc_call ((ok_check_kind T).up (by decide)) hr T.m9 T.k9 T.b9 (ra_cons (re_var 1) (ra_nil)))) (rss_cons (rs_setLc2 2 (own := [("sign", 4), ("e", 5)]) (vs1 := [5]) rfl nd (ri_tup (rc_call ((ok_turns T).up (by decide)) hr T.m10 T.k10 T.b10 (ra_cons (re_var 1) (ra_nil)))) (blkOk_by (by dsimp only; decide +kernel)) (fun _ _ _ _ _ => rg_name nd (i := 4) rfl (.inr rfl) (.inl rfl)) (fun _ _ _ _ _ => rts_nil) (fun _ _ _ _ _ => ri_tup (rc_call ((ok_flips T).up (by decide)) hr.blk T.m11 T.k11 T.b11 (ra_cons (re_var 1) (ra_nil)))) (fun _ _ _ _ _ => rg_name nd (i := 5) rfl (.inr rfl) (.inl rfl)) (fun _ _ _ _ _ => rts_nil) (fun _ _ _ _ _ => rc_call ((ok_beginning T).up (by decide)) hr.blk T.m14 T.k14 T.b14 (ra_cons (re_lc (own := [("x", 6), ("y", 7)]) rfl nd (ri_tup (re_var 0)) (blkOk_by (by rfl)) (fun _ _ _ _ _ => rg_tup (rgs_cons (rg_name nd (i := 6) rfl (.inl rfl) (.inr rfl)) (rgs_cons (rg_name nd (i := 7) rfl (.inl rfl) (.inr rfl)) (rgs_nil))) rfl rfl rfl) (fun _ _ _ _ _ => rts_nil) (fun _ _ _ _ _ => re_tup (ra_cons (re_op op_mulB s_mul (re_var 4) (re_var 6)) (ra_cons (re_op op_mulB s_mul (re_var 5) (re_var 7)) (ra_nil)))) (by decide)) (ra_nil))) (by decide) (by decide) (by decide)) (rss_cons (rs_set nd (i := 3) rfl (.inl rfl) (re_minN hr rfl T.n_min (ra_cons (re_var 2) (ra_nil))) (hf := .inl (hfn _))) (rss_cons (rs_ret (re_ite (rt_inX hr T.c_STRETCHING (re_var 1)) (rc_call ((ok_shortened T).up (by decide)) hr T.m15 T.k15 T.b15 (ra_cons (re_var 3) (ra_nil))) (re_var 3))) (rss_nil))))
noncomputable def x_normal : XM := xSeq (mDrop (mCall 1 f_check_kind (mCons (mVar 1) (mNil)))) (xCall 1 g_check_kind (mCons (mVar 1) (mNil))) (xSeq (mSet 2 (mLc2 (iTupD (mCall 1 f_turns (mCons (mVar 1) (mNil)))) (gN 4) (mYes) (iTupD (mCall 1 f_flips (mCons (mVar 1) (mNil)))) (gN 5) (mYes) (mCall 1 f_beginning (mCons (mLc (iTupD (mVar 0)) (gT 2 (gsC (gN 6) (gsC (gN 7) (gs0)))) (mYes) (mTup (mCons (mOp dMul (mVar 4) (mVar 6)) (mCons (mOp dMul (mVar 5) (mVar 7)) (mNil)))) [6, 7]) (mNil))) [4, 5] [5])) (xNo) (xSeq (mSet 3 (mBlt fMinN (mCons (mVar 2) (mNil)))) (xNo) (xSeq (mRet (mIte (mB (mUn (dInX ["slow", "all"]) (mVar 1))) (mCall 1 f_shortened (mCons (mVar 3) (mNil))) (mVar 3))) (xNo) (xNo))))
noncomputable def g_normal : DX := runX 8 x_normal
theorem dis_normal : DisF f_normal g_normal := disF_run (dis_seq (dis_drop (dis_call dis_check_kind)) (dis_seq (dis_no) (dis_seq (dis_no) (dis_seq (dis_no) (dis_no)))))
theorem okx_normal (T : Tx K mg f fd) : FnGX P w K mg base 3 (f 13) (fd 13) ["figure", "kind"] (spX K mg 2 f_normal g_normal) :=
  fngx_of (k := 2) (N := ["figure", "kind", "forms", "least", "sign", "e", "x", "y"]) (m := m_normal) (mx := x_normal) T.d13 sc_normal fun X W hP hw hK hm hb hN hE hc hfn hst hfr hr tk => by
    obtain ⟨_, _, _, _, _, _, _, _, _, ⟨_, _⟩, _⟩ := X
    cases hP; cases hw; cases hK; cases hm; cases hb; cases hN; cases hE; cases hc
    have nd := (sc_normal).nd
    exact xss_cons (xs_expr (xe_call ((okx_check_kind T).up (by decide)) hr tk T.m9 T.k9 T.b9 (ra_cons (re_var 1) (ra_nil)))) (xss_cons (.of (rs_setLc2 2 (own := [("sign", 4), ("e", 5)]) (vs1 := [5]) rfl nd (ri_tup (rc_call ((ok_turns T).up (by decide)) hr T.m10 T.k10 T.b10 (ra_cons (re_var 1) (ra_nil)))) (blkOk_by (by dsimp only; decide +kernel)) (fun _ _ _ _ _ => rg_name nd (i := 4) rfl (.inr rfl) (.inl rfl)) (fun _ _ _ _ _ => rts_nil) (fun _ _ _ _ _ => ri_tup (rc_call ((ok_flips T).up (by decide)) hr.blk T.m11 T.k11 T.b11 (ra_cons (re_var 1) (ra_nil)))) (fun _ _ _ _ _ => rg_name nd (i := 5) rfl (.inr rfl) (.inl rfl)) (fun _ _ _ _ _ => rts_nil) (fun _ _ _ _ _ => rc_call ((ok_beginning T).up (by decide)) hr.blk T.m14 T.k14 T.b14 (ra_cons (re_lc (own := [("x", 6), ("y", 7)]) rfl nd (ri_tup (re_var 0)) (blkOk_by (by rfl)) (fun _ _ _ _ _ => rg_tup (rgs_cons (rg_name nd (i := 6) rfl (.inl rfl) (.inr rfl)) (rgs_cons (rg_name nd (i := 7) rfl (.inl rfl) (.inr rfl)) (rgs_nil))) rfl rfl rfl) (fun _ _ _ _ _ => rts_nil) (fun _ _ _ _ _ => re_tup (ra_cons (re_op op_mulB s_mul (re_var 4) (re_var 6)) (ra_cons (re_op op_mulB s_mul (re_var 5) (re_var 7)) (ra_nil)))) (by decide)) (ra_nil))) (by decide) (by decide) (by decide))) (xss_cons (.of (rs_set nd (i := 3) rfl (.inl rfl) (re_minN hr rfl T.n_min (ra_cons (re_var 2) (ra_nil))) (hf := .inl (hfn _)))) (xss_cons (.of (rs_ret (re_ite (rt_inX hr T.c_STRETCHING (re_var 1)) (rc_call ((ok_shortened T).up (by decide)) hr T.m15 T.k15 T.b15 (ra_cons (re_var 3) (ra_nil))) (re_var 3)))) (xss_nil))))
noncomputable def m_law_box : MS := mSeq (mPar [1, 2] (mCons (mLc (iLstD (mCut (mVar 0) none (some (mC (.int 63))))) (gN 4) (mYes) (mOp dAdd (mOp dMul (mC (.int 2)) (mBlt fAbs (mCons (mVar 4) (mNil)))) (mBlt fInt (mCons (mOp dLt (mVar 4) (mC (.int 0))) (mNil)))) [4]) (mCons (mOp dAdd (mC (.int 40961)) (mBlt fLen (mCons (mVar 0) (mNil)))) (mNil)))) (mSeq (mFor (iLstD (mVar 1)) (gN 3) (mSeq (mSet 2 (mOp dMod (mBlt fInt (mCons (mOp dAdd (mOp dMul (mVar 2) (mC (.int 69069))) (mVar 3)) (mNil))) (mC (.int 4294967291)))) (mNext))) (mSeq (mRet (mBox (mCons (mC (.str "great")) (mCons (mLc (iLstD (mVar 1)) (gN 3) (mB (mOp dGt (mVar 3) (mOp dPow (mC (.int 10)) (mC (.int 15))))) (mVar 3) [3]) (mCons (mC (.str "stirred")) (mCons (mVar 2) (mCons (mC (.str "count")) (mCons (mC (.int 0)) (mNil))))))))) (mNext)))
noncomputable def f_law_box : DF := runF 5 m_law_box
theorem sc_law_box : FnScope ["script", "marks", "stirred", "mark", "cell"] ["script"] (defScope (top 17)) := ⟨rfl, rfl, rfl, by decide +kernel, rfl, by decide +kernel, by decide +kernel⟩
theorem ok_law_box (T : Tx K mg f fd) : FnG P w K mg base 1 (f 17) (fd 17) ["script"] (spD K 1 f_law_box) :=
  fng_of (k := 0) (N := ["script", "marks", "stirred", "mark", "cell"]) (m := m_law_box) T.d17 sc_law_box fun X hP hw hK hm hb hN hE hc hfn hxe hr => by
    obtain ⟨_, _, _, _, _, _, _, _, _, ⟨_, _⟩, _⟩ := X
    cases hP; cases hw; cases hK; cases hm; cases hb; cases hN; cases hE; cases hc
    have nd := (sc_law_box).nd
    exact rss_cons (rs_par 1 2 rfl nd (ra_cons (re_lc (own := [("cell", 4)]) rfl nd (ri_lst (re_cut (re_var 0) ro_none (ro_some (re_int)))) (blkOk_by (by dsimp only; decide +kernel)) (fun _ _ _ _ _ => rg_name nd (i := 4) rfl (.inl rfl) (.inr rfl)) (fun _ _ _ _ _ => rts_nil) (fun _ _ _ _ _ => re_op o_add s_add (re_op op_mulB s_mul (re_int) (re_abs T.n_abs (ra_cons (re_var 4) (ra_nil)))) (re_int1 T.n_int (ra_cons (re_cmp (o_lt hr.blk) s_lt (re_var 4) (re_int) (nomark _)) (ra_nil)))) (by decide)) (ra_cons (re_op o_add s_add (re_int) (re_len T.n_len (ra_cons (re_var 0) (ra_nil)))) (ra_nil)))) (rss_cons (rs_for (fun e s h => absurd h (hxe e s)) rfl (ri_lst (re_var 1)) (rg_name nd (i := 3) rfl (.inl rfl) (.inl (hfn _))) (rss_cons (rs_set nd (i := 2) rfl (.inl rfl) (re_op op_mod s_mod (re_int1 T.n_int (ra_cons (re_op o_add s_add (re_op op_mulB s_mul (re_var 2) (re_int)) (re_var 3)) (ra_nil))) (re_int)) (hf := .inl (hfn _))) (rss_nil))) (rss_cons (rs_ret (re_box (rp_cons (re_str) (re_lc (own := [("mark", 3)]) rfl nd (ri_lst (re_var 1)) (blkOk_by (by dsimp only; decide +kernel)) (fun _ _ _ _ _ => rg_name nd (i := 3) rfl (.inl rfl) (.inr rfl)) (fun _ _ _ _ _ => rts_one (rt_cmp (o_gt hr.blk) s_gt (re_var 3) (re_op op_pow s_pow (re_int) (re_int)) (nomark _))) (fun _ _ _ _ _ => re_var 3) (by decide)) (rp_cons (re_str) (re_var 2) (rp_cons (re_str) (re_int) (rp_nil)))))) (rss_nil)))
theorem sc_law_draw : FnScope ["box", "many", "great", "mark", "count", "found"] ["box", "many"] (defScope (top 18)) := ⟨rfl, rfl, rfl, by decide +kernel, rfl, by decide +kernel, by decide +kernel⟩
theorem ok_law_draw (T : Tx K mg f fd) : FnG P w K mg base 1 (f 18) (fd 18) ["box", "many"] (spD K 2 f_law_draw) :=
  fng_of (k := 0) (N := ["box", "many", "great", "mark", "count", "found"]) (m := mDraw) T.d18 sc_law_draw fun X hP hw hK hm hb hN hE hc hfn hxe hr => by
    obtain ⟨_, _, _, _, _, _, _, _, _, ⟨_, _⟩, _⟩ := X
    cases hP; cases hw; cases hK; cases hm; cases hb; cases hN; cases hE; cases hc
    have nd := (sc_law_draw).nd
    have hu := hr.un1
    exact ⟨_, pss_cons (ps_set nd (i := 2) rfl (.inl rfl) (pe_dget hu (pv 0) pe_str (fun _ _ => rfl)) (hf := .inl (hfn _)))
      (pss_cons (ps_if (pt_cmpR (op_neD hr.un64) (pv 2) (pe_lst pa_nil) (nomark _))
        (pss_cons (ps_set nd (i := 3) rfl (.inl rfl) (pe_ix ix_list (pv 2) pe_int (fun _ _ => rfl)) (hf := .inl (hfn _)))
        (pss_cons (ps_asg (pe_op op_fdivB (pv 3) (pv 1)) (pg_sub (pv 2) pe_int set_list))
        (pss_cons (ps_if (pt_cmpR op_lt (pv 3) (pv 1) (nomark _)) (pss_cons (ps_expr (pe_bm PySem.F.plainAttrs_list PySem.F.slot_list_pop PySem.F.type_list_pop mt_popAt (pv 2) (pa_cons pe_int pa_nil))) pss_nil) pss_nil)
        (pss_cons (ps_ret (pe_op op_mod (pe_callTy call_int1 rfl T.n_int bo_int (pa_cons (pv 3) pa_nil)) (pv 1))) pss_nil)))) pss_nil)
      (pss_cons (ps_set nd (i := 4) rfl (.inl rfl) (pe_op op_add (pe_dget hu (pv 0) pe_str (fun _ _ => rfl)) pe_int) (hf := .inl (hfn _)))
      (pss_cons (ps_dput hu (pv 0) pe_str (pv 4) rfl)
      (pss_cons (ps_set nd (i := 5) rfl (.inl rfl) (pe_op op_mod (pe_callTy call_int1 rfl T.n_int bo_int (pa_cons (pe_op op_add (pe_dget hu (pv 0) pe_str (fun _ _ => rfl)) (pe_op op_mul pe_int (pv 4))) pa_nil)) pe_int) (hf := .inl (hfn _)))
      (pss_cons (ps_set nd (i := 5) rfl (.inl rfl) (pe_op op_mod (pe_callTy call_int1 rfl T.n_int bo_int (pa_cons (pe_op op_add (pe_op op_add (pe_op op_mul (pv 5) (pv 5)) (pe_op op_mul pe_int (pv 4))) pe_int) pa_nil)) pe_int) (hf := .inl (hfn _)))
      (pss_cons (ps_set nd (i := 5) rfl (.inl rfl) (pe_op op_mod (pe_callTy call_int1 rfl T.n_int bo_int (pa_cons (pe_op op_add (pe_op op_mul (pv 5) (pv 5)) (pe_dget hu (pv 0) pe_str (fun _ _ => rfl))) pa_nil)) pe_int) (hf := .inl (hfn _)))
      (pss_cons (ps_ret (pe_op op_mod (pe_callTy call_int1 rfl T.n_int bo_int (pa_cons (pe_op op_fdivB (pv 5) pe_int) pa_nil)) (pv 1))) pss_nil))))))), draw_snd⟩
noncomputable def m_law_pick : MS := mSeq (mRet (mOp dIdx (mVar 1) (mCall 2 f_law_draw (mCons (mVar 0) (mCons (mBlt fLen (mCons (mVar 1) (mNil))) (mNil)))))) (mNext)
noncomputable def f_law_pick : DF := runF 2 m_law_pick
theorem sc_law_pick : FnScope ["box", "items"] ["box", "items"] (defScope (top 19)) := ⟨rfl, rfl, rfl, by decide +kernel, rfl, by decide +kernel, by decide +kernel⟩
theorem ok_law_pick (T : Tx K mg f fd) : FnG P w K mg base 2 (f 19) (fd 19) ["box", "items"] (spD K 2 f_law_pick) :=
  fng_of (k := 1) (N := ["box", "items"]) (m := m_law_pick) T.d19 sc_law_pick fun X hP hw hK hm hb hN hE hc hfn hxe hr => by
    obtain ⟨_, _, _, _, _, _, _, _, _, ⟨_, _⟩, _⟩ := X
    cases hP; cases hw; cases hK; cases hm; cases hb; cases hN; cases hE; cases hc
    have nd := (sc_law_pick).nd
    exact rss_cons (rs_ret (re_idx (re_var 1) (rc_call ((ok_law_draw T).up (by decide)) hr T.m18 T.k18 T.b18 (ra_cons (re_var 0) (ra_cons (re_len T.n_len (ra_cons (re_var 1) (ra_nil))) (ra_nil)))))) (rss_nil)
noncomputable def m_law_figure : MS := mSeq (mPar [3, 4] (mCons (mNewT) (mCons (mCall 2 f_law_pick (mCons (mVar 0) (mCons (mLst (mCons (mC (.int 3)) (mCons (mC (.int 9)) (mNil)))) (mNil)))) (mNil)))) (mSeq (mFor (iRange1 (mCons (mOp dAdd (mC (.int 2)) (mCall 2 f_law_draw (mCons (mVar 0) (mCons (mOp dSub (mVar 1) (mC (.int 1))) (mNil))))) (mNil))) (gN 5) (mSeq (mPut 3 (mTup (mCons (mOp dMul (mVar 2) (mOp dSub (mCall 2 f_law_draw (mCons (mVar 0) (mCons (mC (.int 9)) (mNil)))) (mC (.int 2)))) (mCons (mOp dSub (mCall 2 f_law_draw (mCons (mVar 0) (mCons (mVar 4) (mNil)))) (mC (.int 2))) (mNil)))) (mVar 5)) (mNext))) (mSeq (mSet 6 (mBlt fTup (mCons (mBlt fSorted (mCons (mList (mCons (mVar 3) (mNil))) (mNil))) (mNil)))) (mSeq (mIf (mB (mOp dEq (mOp dIdx (mOp dIdx (mVar 6) (mC (.int 0))) (mC (.int 0))) (mOp dIdx (mOp dIdx (mVar 6) (mUn dNeg (mC (.int 1)))) (mC (.int 0))))) (mSeq (mSet 6 (mOp dAdd (mCut (mVar 6) none (some (mOp dSub (mVar 1) (mC (.int 1))))) (mTup (mCons (mTup (mCons (mOp dAdd (mOp dIdx (mOp dIdx (mVar 6) (mC (.int 0))) (mC (.int 0))) (mVar 2)) (mCons (mCall 2 f_law_draw (mCons (mVar 0) (mCons (mVar 4) (mNil)))) (mNil)))) (mNil))))) (mNext)) (mNext)) (mSeq (mRet (mVar 6)) (mNext)))))
noncomputable def f_law_figure : DF := runF 7 m_law_figure
theorem sc_law_figure : FnScope ["box", "most", "step", "found", "wide", "turn", "points"] ["box", "most", "step"] (defScope (top 20)) := ⟨rfl, rfl, rfl, by decide +kernel, rfl, by decide +kernel, by decide +kernel⟩
theorem ok_law_figure (T : Tx K mg f fd) : FnG P w K mg base 3 (f 20) (fd 20) ["box", "most", "step"] (spD K 3 f_law_figure) :=
  fng_of (k := 2) (N := ["box", "most", "step", "found", "wide", "turn", "points"]) (m := m_law_figure) T.d20 sc_law_figure fun X hP hw hK hm hb hN hE hc hfn hxe hr => by
    obtain ⟨_, _, _, _, _, _, _, _, _, ⟨_, _⟩, _⟩ := X
    cases hP; cases hw; cases hK; cases hm; cases hb; cases hN; cases hE; cases hc
    have nd := (sc_law_figure).nd
    exact rss_cons (rs_par 3 4 rfl nd (ra_cons (re_newT) (ra_cons (rc_call ((ok_law_pick T).up (by decide)) hr T.m19 T.k19 T.b19 (ra_cons (re_var 0) (ra_cons (re_lst (ra_cons (re_int) (ra_cons (re_int) (ra_nil)))) (ra_nil)))) (ra_nil)))) (rss_cons (rs_for (fun e s h => absurd h (hxe e s)) rfl (ri_range1 rfl T.n_range (ra_cons (re_op o_add s_add (re_int) (rc_call ((ok_law_draw T).up (by decide)) hr T.m18 T.k18 T.b18 (ra_cons (re_var 0) (ra_cons (re_op op_sub s_sub (re_var 1) (re_int)) (ra_nil))))) (ra_nil))) (rg_name nd (i := 5) rfl (.inl rfl) (.inl (hfn _))) (rss_cons (rs_put 3 hr (re_tup (ra_cons (re_op op_mulB s_mul (re_var 2) (re_op op_sub s_sub (rc_call ((ok_law_draw T).up (by decide)) hr T.m18 T.k18 T.b18 (ra_cons (re_var 0) (ra_cons (re_int) (ra_nil)))) (re_int))) (ra_cons (re_op op_sub s_sub (rc_call ((ok_law_draw T).up (by decide)) hr T.m18 T.k18 T.b18 (ra_cons (re_var 0) (ra_cons (re_var 4) (ra_nil)))) (re_int)) (ra_nil)))) (re_var 5)) (rss_nil))) (rss_cons (rs_set nd (i := 6) rfl (.inl rfl) (re_tuple T.n_tuple (ra_cons (re_sorted T.n_sorted (ra_cons (re_listA rfl T.n_list (ra_cons (re_var 3) (ra_nil))) (ra_nil))) (ra_nil))) (hf := .inl (hfn _))) (rss_cons (rs_if (rt_cmp (o_eqq hr) s_eq (re_idx (re_idx (re_var 6) (re_int)) (re_int)) (re_idx (re_idx (re_var 6) (re_neg (re_int))) (re_int)) (nomark _)) (rss_cons (rs_set nd (i := 6) rfl (.inl rfl) (re_op o_add s_add (re_cut (re_var 6) ro_none (ro_some (re_op op_sub s_sub (re_var 1) (re_int)))) (re_tup (ra_cons (re_tup (ra_cons (re_op o_add s_add (re_idx (re_idx (re_var 6) (re_int)) (re_int)) (re_var 2)) (ra_cons (rc_call ((ok_law_draw T).up (by decide)) hr T.m18 T.k18 T.b18 (ra_cons (re_var 0) (ra_cons (re_var 4) (ra_nil)))) (ra_nil)))) (ra_nil)))) (hf := .inl (hfn _))) (rss_nil)) (rss_nil)) (rss_cons (rs_ret (re_var 6)) (rss_nil)))))
noncomputable def m_law_begun : MS := mSeq (mSet 1 (mBlt fSortedT (mCons (mVar 0) (mNil)))) (mSeq (mRet (mBlt fTup (mCons (mLc (iLstD (mVar 1)) (gT 2 (gsC (gN 2) (gsC (gN 3) (gs0)))) (mYes) (mTup (mCons (mOp dSub (mVar 2) (mOp dIdx (mOp dIdx (mVar 1) (mC (.int 0))) (mC (.int 0)))) (mCons (mOp dSub (mVar 3) (mOp dIdx (mOp dIdx (mVar 1) (mC (.int 0))) (mC (.int 1)))) (mNil)))) [2, 3]) (mNil)))) (mNext))
noncomputable def f_law_begun : DF := runF 4 m_law_begun
theorem sc_law_begun : FnScope ["pairs", "some", "x", "y"] ["pairs"] (defScope (top 21)) := ⟨rfl, rfl, rfl, by decide +kernel, rfl, by decide +kernel, by decide +kernel⟩
theorem ok_law_begun (T : Tx K mg f fd) : FnG P w K mg base 1 (f 21) (fd 21) ["pairs"] (spD K 1 f_law_begun) :=
  fng_of (k := 0) (N := ["pairs", "some", "x", "y"]) (m := m_law_begun) T.d21 sc_law_begun fun X hP hw hK hm hb hN hE hc hfn hxe hr => by
    obtain ⟨_, _, _, _, _, _, _, _, _, ⟨_, _⟩, _⟩ := X
    cases hP; cases hw; cases hK; cases hm; cases hb; cases hN; cases hE; cases hc
    have nd := (sc_law_begun).nd
    exact rss_cons (rs_set nd (i := 1) rfl (.inr rfl) (re_sortedT hr T.n_sorted (ra_cons (re_var 0) (ra_nil))) (hf := .inl (hfn _))) (rss_cons (rs_ret (re_tuple T.n_tuple (ra_cons (re_lc (own := [("x", 2), ("y", 3)]) rfl nd (ri_lst (re_var 1)) (blkOk_by (by dsimp only; decide +kernel)) (fun _ _ _ _ _ => rg_tup (rgs_cons (rg_name nd (i := 2) rfl (.inl rfl) (.inr rfl)) (rgs_cons (rg_name nd (i := 3) rfl (.inl rfl) (.inr rfl)) (rgs_nil))) rfl rfl rfl) (fun _ _ _ _ _ => rts_nil) (fun _ _ _ _ _ => re_tup (ra_cons (re_op op_sub s_sub (re_var 2) (re_idx (re_idx (re_var 1) (re_int)) (re_int))) (ra_cons (re_op op_sub s_sub (re_var 3) (re_idx (re_idx (re_var 1) (re_int)) (re_int))) (ra_nil)))) (by decide)) (ra_nil)))) (rss_nil))
noncomputable def m_law_normal : MS := mSeq (mSet 2 (mLst (mCons (mCall 1 f_law_begun (mCons (mVar 0) (mNil))) (mNil)))) (mSeq (mIf (mB (mOp dInS (mVar 1) (mTup (mCons (mC (.str "flip")) (mCons (mC (.str "both")) (mCons (mC (.str "all")) (mNil))))))) (mSeq (mDrop (mMeth 2 (mCons (mCall 1 f_law_begun (mCons (mLc (iTupD (mVar 0)) (gT 2 (gsC (gN 5) (gsC (gN 6) (gs0)))) (mYes) (mTup (mCons (mVar 5) (mCons (mUn dNeg (mVar 6)) (mNil)))) [5, 6]) (mNil))) (mNil)) fAppend)) (mNext)) (mNext)) (mSeq (mIf (mB (mOp dInS (mVar 1) (mTup (mCons (mC (.str "back")) (mCons (mC (.str "both")) (mCons (mC (.str "all")) (mNil))))))) (mSeq (mDrop (mMeth 2 (mCons (mCall 1 f_law_begun (mCons (mLc (iTupD (mVar 0)) (gT 2 (gsC (gN 5) (gsC (gN 6) (gs0)))) (mYes) (mTup (mCons (mUn dNeg (mVar 5)) (mCons (mVar 6) (mNil)))) [5, 6]) (mNil))) (mNil)) fAppend)) (mNext)) (mNext)) (mSeq (mIf (mB (mOp dInS (mVar 1) (mTup (mCons (mC (.str "both")) (mCons (mC (.str "all")) (mNil)))))) (mSeq (mDrop (mMeth 2 (mCons (mCall 1 f_law_begun (mCons (mLc (iTupD (mVar 0)) (gT 2 (gsC (gN 5) (gsC (gN 6) (gs0)))) (mYes) (mTup (mCons (mUn dNeg (mVar 5)) (mCons (mUn dNeg (mVar 6)) (mNil)))) [5, 6]) (mNil))) (mNil)) fAppend)) (mNext)) (mNext)) (mSeq (mPar [3, 4] (mCons (mBlt fMinN (mCons (mVar 2) (mNil))) (mCons (mC (.int 0)) (mNil)))) (mSeq (mFor (iTupD (mVar 3)) (gT 2 (gsC (gN 5) (gsC (gN 6) (gs0)))) (mSeq (mPar [7, 8] (mCons (mVar 5) (mCons (mVar 4) (mNil)))) (mSeq (mWhile (mB (mOp dNe (mVar 8) (mC (.int 0)))) (mSeq (mPar [7, 8] (mCons (mVar 8) (mCons (mOp dMod (mBlt fInt (mCons (mVar 7) (mNil))) (mVar 8)) (mNil)))) (mNext))) (mSeq (mSet 4 (mVar 7)) (mNext))))) (mSeq (mIf (mB (mOp dNinS (mVar 1) (mTup (mCons (mC (.str "slow")) (mCons (mC (.str "all")) (mNil)))))) (mSeq (mRet (mVar 3)) (mNext)) (mNext)) (mSeq (mRet (mBlt fTup (mCons (mLc (iTupD (mVar 3)) (gT 2 (gsC (gN 5) (gsC (gN 6) (gs0)))) (mYes) (mTup (mCons (mOp dFdiv (mVar 5) (mVar 4)) (mCons (mVar 6) (mNil)))) [5, 6]) (mNil)))) (mNext))))))))
noncomputable def f_law_normal : DF := runF 9 m_law_normal
theorem sc_law_normal : FnScope ["figure", "kind", "forms", "least", "common", "x", "y", "one", "two"] ["figure", "kind"] (defScope (top 22)) := ⟨rfl, rfl, rfl, by decide +kernel, rfl, by decide +kernel, by decide +kernel⟩
theorem ok_law_normal (T : Tx K mg f fd) : FnG P w K mg base 2 (f 22) (fd 22) ["figure", "kind"] (spD K 2 f_law_normal) :=
  fng_of (k := 1) (N := ["figure", "kind", "forms", "least", "common", "x", "y", "one", "two"]) (m := m_law_normal) T.d22 sc_law_normal fun X hP hw hK hm hb hN hE hc hfn hxe hr => by
    obtain ⟨_, _, _, _, _, _, _, _, _, ⟨_, _⟩, _⟩ := X
    cases hP; cases hw; cases hK; cases hm; cases hb; cases hN; cases hE; cases hc
    have nd := (sc_law_normal).nd
    exact rss_cons (rs_set nd (i := 2) rfl (.inl rfl) (re_lst (ra_cons (rc_call ((ok_law_begun T).up (by decide)) hr T.m21 T.k21 T.b21 (ra_cons (re_var 0) (ra_nil))) (ra_nil))) (hf := .inl (hfn _))) (rss_cons (rs_if (rt_cmp (o_inS hr) s_inS (re_var 1) (re_tup (ra_cons (re_str) (ra_cons (re_str) (ra_cons (re_str) (ra_nil))))) (by rfl)) (rss_cons (rs_expr (re_append 2 (ra_cons (rc_call ((ok_law_begun T).up (by decide)) hr T.m21 T.k21 T.b21 (ra_cons (re_lc (own := [("x", 5), ("y", 6)]) rfl nd (ri_tup (re_var 0)) (blkOk_by (by dsimp only; decide +kernel)) (fun _ _ _ _ _ => rg_tup (rgs_cons (rg_name nd (i := 5) rfl (.inl rfl) (.inr rfl)) (rgs_cons (rg_name nd (i := 6) rfl (.inl rfl) (.inr rfl)) (rgs_nil))) rfl rfl rfl) (fun _ _ _ _ _ => rts_nil) (fun _ _ _ _ _ => re_tup (ra_cons (re_var 5) (ra_cons (re_neg (re_var 6)) (ra_nil)))) (by decide)) (ra_nil))) (ra_nil)))) (rss_nil)) (rss_nil)) (rss_cons (rs_if (rt_cmp (o_inS hr) s_inS (re_var 1) (re_tup (ra_cons (re_str) (ra_cons (re_str) (ra_cons (re_str) (ra_nil))))) (by rfl)) (rss_cons (rs_expr (re_append 2 (ra_cons (rc_call ((ok_law_begun T).up (by decide)) hr T.m21 T.k21 T.b21 (ra_cons (re_lc (own := [("x", 5), ("y", 6)]) rfl nd (ri_tup (re_var 0)) (blkOk_by (by dsimp only; decide +kernel)) (fun _ _ _ _ _ => rg_tup (rgs_cons (rg_name nd (i := 5) rfl (.inl rfl) (.inr rfl)) (rgs_cons (rg_name nd (i := 6) rfl (.inl rfl) (.inr rfl)) (rgs_nil))) rfl rfl rfl) (fun _ _ _ _ _ => rts_nil) (fun _ _ _ _ _ => re_tup (ra_cons (re_neg (re_var 5)) (ra_cons (re_var 6) (ra_nil)))) (by decide)) (ra_nil))) (ra_nil)))) (rss_nil)) (rss_nil)) (rss_cons (rs_if (rt_cmp (o_inS hr) s_inS (re_var 1) (re_tup (ra_cons (re_str) (ra_cons (re_str) (ra_nil)))) (by rfl)) (rss_cons (rs_expr (re_append 2 (ra_cons (rc_call ((ok_law_begun T).up (by decide)) hr T.m21 T.k21 T.b21 (ra_cons (re_lc (own := [("x", 5), ("y", 6)]) rfl nd (ri_tup (re_var 0)) (blkOk_by (by dsimp only; decide +kernel)) (fun _ _ _ _ _ => rg_tup (rgs_cons (rg_name nd (i := 5) rfl (.inl rfl) (.inr rfl)) (rgs_cons (rg_name nd (i := 6) rfl (.inl rfl) (.inr rfl)) (rgs_nil))) rfl rfl rfl) (fun _ _ _ _ _ => rts_nil) (fun _ _ _ _ _ => re_tup (ra_cons (re_neg (re_var 5)) (ra_cons (re_neg (re_var 6)) (ra_nil)))) (by decide)) (ra_nil))) (ra_nil)))) (rss_nil)) (rss_nil)) (rss_cons (rs_parC 3 4 rfl nd (ra_cons (re_minN hr rfl T.n_min (ra_cons (re_var 2) (ra_nil))) (ra_cons (re_int) (ra_nil))) rfl rfl (.inl rfl) (.inr rfl) (.inl (hfn _)) (.inl (hfn _))) (rss_cons (rs_for (fun e s h => absurd h (hxe e s)) rfl (ri_tup (re_var 3)) (rg_tup (rgs_cons (rg_name nd (i := 5) rfl (.inl rfl) (.inl (hfn _))) (rgs_cons (rg_name nd (i := 6) rfl (.inl rfl) (.inl (hfn _))) (rgs_nil))) rfl rfl rfl) (rss_cons (rs_par 7 8 rfl nd (ra_cons (re_var 5) (ra_cons (re_var 4) (ra_nil)))) (rss_cons (rs_while (fun e s h => absurd h (hxe e s)) (rt_cmp (o_neq hr) s_ne (re_var 8) (re_int) (nomark _)) (rss_cons (rs_par 7 8 rfl nd (ra_cons (re_var 8) (ra_cons (re_op op_mod s_mod (re_int1 T.n_int (ra_cons (re_var 7) (ra_nil))) (re_var 8)) (ra_nil)))) (rss_nil))) (rss_cons (rs_set nd (i := 4) rfl (.inr rfl) (re_var 7) (hf := .inl (hfn _))) (rss_nil))))) (rss_cons (rs_if (rt_cmp (o_ninS hr) s_ninS (re_var 1) (re_tup (ra_cons (re_str) (ra_cons (re_str) (ra_nil)))) (by rfl)) (rss_cons (rs_ret (re_var 3)) (rss_nil)) (rss_nil)) (rss_cons (rs_ret (re_tuple T.n_tuple (ra_cons (re_lc (own := [("x", 5), ("y", 6)]) rfl nd (ri_tup (re_var 3)) (blkOk_by (by dsimp only; decide +kernel)) (fun _ _ _ _ _ => rg_tup (rgs_cons (rg_name nd (i := 5) rfl (.inl rfl) (.inr rfl)) (rgs_cons (rg_name nd (i := 6) rfl (.inl rfl) (.inr rfl)) (rgs_nil))) rfl rfl rfl) (fun _ _ _ _ _ => rts_nil) (fun _ _ _ _ _ => re_tup (ra_cons (re_op op_fdivC s_fdiv (re_var 5) (re_var 4)) (ra_cons (re_var 6) (ra_nil)))) (by decide)) (ra_nil)))) (rss_nil))))))))
noncomputable def m_law_told : MS := mSeq (mTry 3 "NoKind" (mSeq (mRet (mLst (mCons (mC (.str "told")) (mCons (mIte (mB (mVar 2)) (mCallK 2 f_normal 0 2 [1, 0] mNil (mCons (mVar 1) (mCons (mVar 0) (mNil)))) (mCall 2 f_normal (mCons (mVar 0) (mCons (mVar 1) (mNil))))) (mNil))))) (mNext)) (xSeq (mRet (mLst (mCons (mC (.str "told")) (mCons (mIte (mB (mVar 2)) (mCallK 2 f_normal 0 2 [1, 0] mNil (mCons (mVar 1) (mCons (mVar 0) (mNil)))) (mCall 2 f_normal (mCons (mVar 0) (mCons (mVar 1) (mNil))))) (mNil))))) (xCons (mC (.str "told")) (xNo) (xCons (mIte (mB (mVar 2)) (mCallK 2 f_normal 0 2 [1, 0] mNil (mCons (mVar 1) (mCons (mVar 0) (mNil)))) (mCall 2 f_normal (mCons (mVar 0) (mCons (mVar 1) (mNil))))) (xIte (mB (mVar 2)) (xCallK0 2 g_normal 2 [1, 0] (mCons (mVar 1) (mCons (mVar 0) (mNil)))) (xCall 2 g_normal (mCons (mVar 0) (mCons (mVar 1) (mNil))))) (xNo))) (xNo)) (fun x => mRet (mLst (mCons (mC (.str "NoKind")) (mCons (mFld "given" x) (mCons (mAndV (mC (.bool true)) (mC (.bool true))) (mNil))))))) (mNext)
noncomputable def f_law_told : DF := runF 4 m_law_told
theorem sc_law_told : FnScope ["figure", "kind", "is_named", "bad_kind"] ["figure", "kind", "is_named"] (defScope (top 23)) := ⟨rfl, rfl, rfl, by decide +kernel, rfl, by decide +kernel, by decide +kernel⟩
theorem ok_law_told (T : Tx K mg f fd) : FnG P w K mg base 4 (f 23) (fd 23) ["figure", "kind", "is_named"] (spD K 3 f_law_told) :=
  fngt_of (k := 3) (N := ["figure", "kind", "is_named", "bad_kind"]) (m := m_law_told) T.d23 sc_law_told fun X hP hw hK hm hb hN hE hc hst hfr hfn hxe hr => by
    obtain ⟨_, _, _, _, _, _, _, _, _, ⟨_, _⟩, _⟩ := X
    cases hP; cases hw; cases hK; cases hm; cases hb; cases hN; cases hE; cases hc
    have nd := (sc_law_told).nd
    obtain ⟨_, _, e_NoKind, x_NoKind, _, m_ScoreError, i_NoKind_ScoreError, i_NoKind_ValueError⟩ := T.e_NoKind
    exact rss_cons (rs_try e_NoKind x_NoKind hst hfr nd rfl rfl rfl (fun W pn xe tk => xss_cons (xs_ret (xe_lst (xa_cons (.of (re_str)) (xa_cons (xe_ite (rt_val (re_var 2)) (xe_callK0 ((okx_normal T).up (by decide)) (hr.tr pn xe) tk T.m13 T.k13 T.kb13_0_kind_figure (rk_cons (re_var 1) (rk_cons (re_var 0) (rk_nil)))) (xe_call ((okx_normal T).up (by decide)) (hr.tr pn xe) tk T.m13 T.k13 T.b13 (ra_cons (re_var 0) (ra_cons (re_var 1) (ra_nil))))) (.of ra_nil))))) (xss_nil)) (fun a dd oe pn x hh hc => hss_one (hs_ret (he_lst (ha_cons (.of (re_str)) (ha_cons (he_fld e_NoKind hh) (ha_cons (he_and (he_isi e_NoKind hh i_NoKind_ValueError (pe_bltn (v := .ty "ValueError") rfl T.n_ValueError (by decide +kernel) rfl (by decide) (by decide)) (fun u h => h) rfl T.n_isinstance) (he_one (he_isi e_NoKind hh i_NoKind_ScoreError (pe_glob (v := .ref _) rfl m_ScoreError rfl) (fun u h => h) rfl T.n_isinstance))) (ha_nil)))))))) (rss_nil)
theorem dt_law_told0 : Dis (mSeq (mRet (mLst (mCons (mC (.str "told")) (mCons (mIte (mB (mVar 2)) (mCallK 2 f_normal 0 2 [1, 0] mNil (mCons (mVar 1) (mCons (mVar 0) (mNil)))) (mCall 2 f_normal (mCons (mVar 0) (mCons (mVar 1) (mNil))))) (mNil))))) (mNext)) (xSeq (mRet (mLst (mCons (mC (.str "told")) (mCons (mIte (mB (mVar 2)) (mCallK 2 f_normal 0 2 [1, 0] mNil (mCons (mVar 1) (mCons (mVar 0) (mNil)))) (mCall 2 f_normal (mCons (mVar 0) (mCons (mVar 1) (mNil))))) (mNil))))) (xCons (mC (.str "told")) (xNo) (xCons (mIte (mB (mVar 2)) (mCallK 2 f_normal 0 2 [1, 0] mNil (mCons (mVar 1) (mCons (mVar 0) (mNil)))) (mCall 2 f_normal (mCons (mVar 0) (mCons (mVar 1) (mNil))))) (xIte (mB (mVar 2)) (xCallK0 2 g_normal 2 [1, 0] (mCons (mVar 1) (mCons (mVar 0) (mNil)))) (xCall 2 g_normal (mCons (mVar 0) (mCons (mVar 1) (mNil))))) (xNo))) (xNo)) := dis_seq (dis_ret (dis_lst (dis_cons (dis_no) (dis_cons (dis_ite (dis_callK0 dis_normal) (dis_call dis_normal)) (dis_no))))) (dis_no)
noncomputable def m_law_drawn : MS := mSeq (mPar [1, 2] (mCons (mCall 3 f_law_figure (mCons (mVar 0) (mCons (mC (.int 5)) (mCons (mCall 2 f_law_pick (mCons (mVar 0) (mCons (mLst (mCons (mC (.int 1)) (mCons (mC (.int 1)) (mCons (mC (.int 2)) (mCons (mC (.int 3)) (mCons (mC (.int 6)) (mNil))))))) (mNil)))) (mNil))))) (mCons (mCall 2 f_law_draw (mCons (mVar 0) (mCons (mC (.int 8)) (mNil)))) (mNil)))) (mSeq (mIf (mB (mOp dEq (mVar 2) (mC (.int 0)))) (mSeq (mSet 3 (mLc (iTupD (mVar 1)) (gT 2 (gsC (gN 4) (gsC (gN 5) (gs0)))) (mYes) (mTup (mCons (mVar 4) (mCons (mOp dSub (mC (.int 3)) (mVar 5)) (mNil)))) [4, 5])) (mSeq (mSet 1 (mBlt fTup (mCons (mBlt fSorted (mCons (mOp dAdd (mLc (iTupD (mVar 1)) (gN 6) (mB (mOp dNinS (mVar 6) (mVar 3))) (mVar 6) [6]) (mVar 3)) (mNil))) (mNil)))) (mNext))) (mNext)) (mSeq (mIf (mB (mOp dEq (mVar 2) (mC (.int 1)))) (mSeq (mSet 3 (mLc (iTupD (mVar 1)) (gT 2 (gsC (gN 4) (gsC (gN 5) (gs0)))) (mYes) (mTup (mCons (mOp dSub (mC (.int 9)) (mVar 4)) (mCons (mVar 5) (mNil)))) [4, 5])) (mSeq (mSet 1 (mBlt fTup (mCons (mBlt fSorted (mCons (mOp dAdd (mLc (iTupD (mVar 1)) (gN 6) (mB (mOp dNinS (mVar 6) (mVar 3))) (mVar 6) [6]) (mVar 3)) (mNil))) (mNil)))) (mNext))) (mNext)) (mSeq (mIf (mB (mOp dEq (mVar 2) (mC (.int 2)))) (mSeq (mSet 1 (mBlt fTup (mCons (mLc (iTupD (mVar 1)) (gT 2 (gsC (gN 4) (gsC (gN 5) (gs0)))) (mYes) (mTup (mCons (mOp dMul (mVar 4) (mC (.int 200))) (mCons (mOp dMul (mVar 5) (mC (.int 700))) (mNil)))) [4, 5]) (mNil)))) (mNext)) (mNext)) (mSeq (mIf (mB (mOp dEq (mVar 2) (mC (.int 3)))) (mSeq (mSet 1 (mCall 3 f_law_figure (mCons (mVar 0) (mCons (mC (.int 12)) (mCons (mC (.int 2)) (mNil)))))) (mNext)) (mNext)) (mSeq (mIf (mB (mOp dEq (mVar 2) (mC (.int 4)))) (mSeq (mSet 1 (mOp dAdd (mOp dAdd (mTup (mCons (mTup (mCons (mUn dNeg (mC (.int 9999))) (mCons (mOp dIdx (mOp dIdx (mVar 1) (mC (.int 0))) (mC (.int 1))) (mNil)))) (mNil))) (mCut (mVar 1) (some (mC (.int 1))) (some (mUn dNeg (mC (.int 1)))))) (mTup (mCons (mTup (mCons (mOp dSub (mC (.int 9999)) (mCall 2 f_law_draw (mCons (mVar 0) (mCons (mC (.int 3)) (mNil))))) (mCons (mOp dIdx (mOp dIdx (mVar 1) (mUn dNeg (mC (.int 1)))) (mC (.int 1))) (mNil)))) (mNil))))) (mNext)) (mNext)) (mSeq (mIf (mB (mOp dEq (mVar 2) (mC (.int 5)))) (mSeq (mSet 1 (mOp dAdd (mOp dAdd (mTup (mCons (mTup (mCons (mOp dIdx (mOp dIdx (mVar 1) (mC (.int 0))) (mC (.int 0))) (mCons (mUn dNeg (mC (.int 9999))) (mNil)))) (mNil))) (mCut (mVar 1) (some (mC (.int 1))) (some (mUn dNeg (mC (.int 1)))))) (mTup (mCons (mTup (mCons (mOp dIdx (mOp dIdx (mVar 1) (mUn dNeg (mC (.int 1)))) (mC (.int 0))) (mCons (mOp dSub (mC (.int 9999)) (mCall 2 f_law_draw (mCons (mVar 0) (mCons (mC (.int 3)) (mNil))))) (mNil)))) (mNil))))) (mNext)) (mNext)) (mSeq (mRet (mIte (mB (mOp dNe (mOp dIdx (mOp dIdx (mVar 1) (mC (.int 0))) (mC (.int 0))) (mOp dIdx (mOp dIdx (mVar 1) (mUn dNeg (mC (.int 1)))) (mC (.int 0))))) (mVar 1) (mTup (mCons (mTup (mCons (mC (.int 0)) (mCons (mC (.int 0)) (mNil)))) (mCons (mTup (mCons (mC (.int 3)) (mCons (mC (.int 1)) (mNil)))) (mNil)))))) (mNext))))))))
noncomputable def f_law_drawn : DF := runF 7 m_law_drawn
theorem sc_law_drawn : FnScope ["box", "figure", "way", "both", "x", "y", "point"] ["box"] (defScope (top 24)) := ⟨rfl, rfl, rfl, by decide +kernel, rfl, by decide +kernel, by decide +kernel⟩
theorem ok_law_drawn (T : Tx K mg f fd) : FnG P w K mg base 4 (f 24) (fd 24) ["box"] (spD K 1 f_law_drawn) :=
  fng_of (k := 3) (N := ["box", "figure", "way", "both", "x", "y", "point"]) (m := m_law_drawn) T.d24 sc_law_drawn fun X hP hw hK hm hb hN hE hc hfn hxe hr => by
    obtain ⟨_, _, _, _, _, _, _, _, _, ⟨_, _⟩, _⟩ := X
    cases hP; cases hw; cases hK; cases hm; cases hb; cases hN; cases hE; cases hc
    have nd := (sc_law_drawn).nd
    exact rss_cons (rs_par 1 2 rfl nd (ra_cons (rc_call ((ok_law_figure T).up (by decide)) hr T.m20 T.k20 T.b20 (ra_cons (re_var 0) (ra_cons (re_int) (ra_cons (rc_call ((ok_law_pick T).up (by decide)) hr T.m19 T.k19 T.b19 (ra_cons (re_var 0) (ra_cons (re_lst (ra_cons (re_int) (ra_cons (re_int) (ra_cons (re_int) (ra_cons (re_int) (ra_cons (re_int) (ra_nil))))))) (ra_nil)))) (ra_nil))))) (ra_cons (rc_call ((ok_law_draw T).up (by decide)) hr T.m18 T.k18 T.b18 (ra_cons (re_var 0) (ra_cons (re_int) (ra_nil)))) (ra_nil)))) (rss_cons (rs_if (rt_cmp (o_eqq hr) s_eq (re_var 2) (re_int) (nomark _)) (rss_cons (rs_set nd (i := 3) rfl (.inr rfl) (re_lc (own := [("x", 4), ("y", 5)]) rfl nd (ri_tup (re_var 1)) (blkOk_by (by dsimp only; decide +kernel)) (fun _ _ _ _ _ => rg_tup (rgs_cons (rg_name nd (i := 4) rfl (.inl rfl) (.inr rfl)) (rgs_cons (rg_name nd (i := 5) rfl (.inl rfl) (.inr rfl)) (rgs_nil))) rfl rfl rfl) (fun _ _ _ _ _ => rts_nil) (fun _ _ _ _ _ => re_tup (ra_cons (re_var 4) (ra_cons (re_op op_sub s_sub (re_int) (re_var 5)) (ra_nil)))) (by decide)) (hf := .inl (hfn _))) (rss_cons (rs_set nd (i := 1) rfl (.inl rfl) (re_tuple T.n_tuple (ra_cons (re_sorted T.n_sorted (ra_cons (re_op o_add s_add (re_lc (own := [("point", 6)]) rfl nd (ri_tup (re_var 1)) (blkOk_by (by dsimp only; decide +kernel)) (fun _ _ _ _ _ => rg_name nd (i := 6) rfl (.inl rfl) (.inr rfl)) (fun _ _ _ _ _ => rts_one (rt_cmp (o_ninS hr.blk) s_ninS (re_var 6) (re_var 3) (by rfl))) (fun _ _ _ _ _ => re_var 6) (by decide)) (re_var 3)) (ra_nil))) (ra_nil))) (hf := .inl (hfn _))) (rss_nil))) (rss_nil)) (rss_cons (rs_if (rt_cmp (o_eqq hr) s_eq (re_var 2) (re_int) (nomark _)) (rss_cons (rs_set nd (i := 3) rfl (.inr rfl) (re_lc (own := [("x", 4), ("y", 5)]) rfl nd (ri_tup (re_var 1)) (blkOk_by (by dsimp only; decide +kernel)) (fun _ _ _ _ _ => rg_tup (rgs_cons (rg_name nd (i := 4) rfl (.inl rfl) (.inr rfl)) (rgs_cons (rg_name nd (i := 5) rfl (.inl rfl) (.inr rfl)) (rgs_nil))) rfl rfl rfl) (fun _ _ _ _ _ => rts_nil) (fun _ _ _ _ _ => re_tup (ra_cons (re_op op_sub s_sub (re_int) (re_var 4)) (ra_cons (re_var 5) (ra_nil)))) (by decide)) (hf := .inl (hfn _))) (rss_cons (rs_set nd (i := 1) rfl (.inl rfl) (re_tuple T.n_tuple (ra_cons (re_sorted T.n_sorted (ra_cons (re_op o_add s_add (re_lc (own := [("point", 6)]) rfl nd (ri_tup (re_var 1)) (blkOk_by (by dsimp only; decide +kernel)) (fun _ _ _ _ _ => rg_name nd (i := 6) rfl (.inl rfl) (.inr rfl)) (fun _ _ _ _ _ => rts_one (rt_cmp (o_ninS hr.blk) s_ninS (re_var 6) (re_var 3) (by rfl))) (fun _ _ _ _ _ => re_var 6) (by decide)) (re_var 3)) (ra_nil))) (ra_nil))) (hf := .inl (hfn _))) (rss_nil))) (rss_nil)) (rss_cons (rs_if (rt_cmp (o_eqq hr) s_eq (re_var 2) (re_int) (nomark _)) (rss_cons (rs_set nd (i := 1) rfl (.inl rfl) (re_tuple T.n_tuple (ra_cons (re_lc (own := [("x", 4), ("y", 5)]) rfl nd (ri_tup (re_var 1)) (blkOk_by (by dsimp only; decide +kernel)) (fun _ _ _ _ _ => rg_tup (rgs_cons (rg_name nd (i := 4) rfl (.inl rfl) (.inr rfl)) (rgs_cons (rg_name nd (i := 5) rfl (.inl rfl) (.inr rfl)) (rgs_nil))) rfl rfl rfl) (fun _ _ _ _ _ => rts_nil) (fun _ _ _ _ _ => re_tup (ra_cons (re_op op_mulB s_mul (re_var 4) (re_int)) (ra_cons (re_op op_mulB s_mul (re_var 5) (re_int)) (ra_nil)))) (by decide)) (ra_nil))) (hf := .inl (hfn _))) (rss_nil)) (rss_nil)) (rss_cons (rs_if (rt_cmp (o_eqq hr) s_eq (re_var 2) (re_int) (nomark _)) (rss_cons (rs_set nd (i := 1) rfl (.inl rfl) (rc_call ((ok_law_figure T).up (by decide)) hr T.m20 T.k20 T.b20 (ra_cons (re_var 0) (ra_cons (re_int) (ra_cons (re_int) (ra_nil))))) (hf := .inl (hfn _))) (rss_nil)) (rss_nil)) (rss_cons (rs_if (rt_cmp (o_eqq hr) s_eq (re_var 2) (re_int) (nomark _)) (rss_cons (rs_set nd (i := 1) rfl (.inl rfl) (re_op o_add s_add (re_op o_add s_add (re_tup (ra_cons (re_tup (ra_cons (re_neg (re_int)) (ra_cons (re_idx (re_idx (re_var 1) (re_int)) (re_int)) (ra_nil)))) (ra_nil))) (re_cut (re_var 1) (ro_some (re_int)) (ro_some (re_neg (re_int))))) (re_tup (ra_cons (re_tup (ra_cons (re_op op_sub s_sub (re_int) (rc_call ((ok_law_draw T).up (by decide)) hr T.m18 T.k18 T.b18 (ra_cons (re_var 0) (ra_cons (re_int) (ra_nil))))) (ra_cons (re_idx (re_idx (re_var 1) (re_neg (re_int))) (re_int)) (ra_nil)))) (ra_nil)))) (hf := .inl (hfn _))) (rss_nil)) (rss_nil)) (rss_cons (rs_if (rt_cmp (o_eqq hr) s_eq (re_var 2) (re_int) (nomark _)) (rss_cons (rs_set nd (i := 1) rfl (.inl rfl) (re_op o_add s_add (re_op o_add s_add (re_tup (ra_cons (re_tup (ra_cons (re_idx (re_idx (re_var 1) (re_int)) (re_int)) (ra_cons (re_neg (re_int)) (ra_nil)))) (ra_nil))) (re_cut (re_var 1) (ro_some (re_int)) (ro_some (re_neg (re_int))))) (re_tup (ra_cons (re_tup (ra_cons (re_idx (re_idx (re_var 1) (re_neg (re_int))) (re_int)) (ra_cons (re_op op_sub s_sub (re_int) (rc_call ((ok_law_draw T).up (by decide)) hr T.m18 T.k18 T.b18 (ra_cons (re_var 0) (ra_cons (re_int) (ra_nil))))) (ra_nil)))) (ra_nil)))) (hf := .inl (hfn _))) (rss_nil)) (rss_nil)) (rss_cons (rs_ret (re_ite (rt_cmp (o_neq hr) s_ne (re_idx (re_idx (re_var 1) (re_int)) (re_int)) (re_idx (re_idx (re_var 1) (re_neg (re_int))) (re_int)) (nomark _)) (re_var 1) (re_tup (ra_cons (re_tup (ra_cons (re_int) (ra_cons (re_int) (ra_nil)))) (ra_cons (re_tup (ra_cons (re_int) (ra_cons (re_int) (ra_nil)))) (ra_nil)))))) (rss_nil))))))))
noncomputable def m_law_turned : MS := mSeq (mPar [3, 4] (mCons (mOp dSub (mCall 2 f_law_draw (mCons (mVar 0) (mCons (mC (.int 19)) (mNil)))) (mC (.int 9))) (mCons (mOp dSub (mCall 2 f_law_draw (mCons (mVar 0) (mCons (mC (.int 19)) (mNil)))) (mC (.int 9))) (mNil)))) (mSeq (mSet 5 (mIte (mAnd (mB (mOp dInS (mVar 2) (mTup (mCons (mC (.str "back")) (mCons (mC (.str "both")) (mCons (mC (.str "all")) (mNil))))))) (mB (mOp dEq (mCall 2 f_law_draw (mCons (mVar 0) (mCons (mC (.int 2)) (mNil)))) (mC (.int 0))))) (mUn dNeg (mC (.int 1))) (mC (.int 1)))) (mSeq (mSet 6 (mIte (mAnd (mB (mOp dInS (mVar 2) (mTup (mCons (mC (.str "flip")) (mCons (mC (.str "both")) (mCons (mC (.str "all")) (mNil))))))) (mB (mOp dEq (mCall 2 f_law_draw (mCons (mVar 0) (mCons (mC (.int 2)) (mNil)))) (mC (.int 0))))) (mUn dNeg (mC (.int 1))) (mC (.int 1)))) (mSeq (mSet 7 (mOp dMul (mVar 5) (mIte (mAnd (mB (mOp dInS (mVar 2) (mTup (mCons (mC (.str "slow")) (mCons (mC (.str "all")) (mNil)))))) (mB (mOp dEq (mCall 2 f_law_draw (mCons (mVar 0) (mCons (mC (.int 2)) (mNil)))) (mC (.int 0))))) (mC (.int 2)) (mC (.int 1))))) (mSeq (mSet 8 (mBlt fSorted (mCons (mLc (iTupD (mVar 1)) (gT 2 (gsC (gN 9) (gsC (gN 10) (gs0)))) (mYes) (mTup (mCons (mOp dAdd (mOp dMul (mVar 7) (mVar 9)) (mVar 3)) (mCons (mOp dAdd (mOp dMul (mVar 6) (mVar 10)) (mVar 4)) (mNil)))) [9, 10]) (mNil)))) (mSeq (mRet (mIte (mB (mOp dNe (mLc (iLstD (mVar 8)) (gT 2 (gsC (gN 9) (gsC (gN 10) (gs0)))) (mOr (mB (mOp dGt (mBlt fAbs (mCons (mVar 9) (mNil))) (mC (.int 9999)))) (mB (mOp dGt (mBlt fAbs (mCons (mVar 10) (mNil))) (mC (.int 9999))))) (mC (.int 1)) [9, 10]) (mLst (mNil)))) (mVar 1) (mBlt fTup (mCons (mVar 8) (mNil))))) (mNext))))))
noncomputable def f_law_turned : DF := runF 11 m_law_turned
theorem sc_law_turned : FnScope ["box", "figure", "kind", "left", "high", "side", "e", "by", "found", "x", "y"] ["box", "figure", "kind"] (defScope (top 25)) := ⟨rfl, rfl, rfl, by decide +kernel, rfl, by decide +kernel, by decide +kernel⟩
theorem ok_law_turned (T : Tx K mg f fd) : FnG P w K mg base 2 (f 25) (fd 25) ["box", "figure", "kind"] (spD K 3 f_law_turned) :=
  fng_of (k := 1) (N := ["box", "figure", "kind", "left", "high", "side", "e", "by", "found", "x", "y"]) (m := m_law_turned) T.d25 sc_law_turned fun X hP hw hK hm hb hN hE hc hfn hxe hr => by
    obtain ⟨_, _, _, _, _, _, _, _, _, ⟨_, _⟩, _⟩ := X
    cases hP; cases hw; cases hK; cases hm; cases hb; cases hN; cases hE; cases hc
    have nd := (sc_law_turned).nd
    exact rss_cons (rs_parC 3 4 rfl nd (ra_cons (re_op op_sub s_sub (rc_call ((ok_law_draw T).up (by decide)) hr T.m18 T.k18 T.b18 (ra_cons (re_var 0) (ra_cons (re_int) (ra_nil)))) (re_int)) (ra_cons (re_op op_sub s_sub (rc_call ((ok_law_draw T).up (by decide)) hr T.m18 T.k18 T.b18 (ra_cons (re_var 0) (ra_cons (re_int) (ra_nil)))) (re_int)) (ra_nil))) rfl rfl (.inr rfl) (.inr rfl) (.inl (hfn _)) (.inl (hfn _))) (rss_cons (rs_set nd (i := 5) rfl (.inl rfl) (re_ite (RW.rt (rw_and (rt_cmp (o_inS hr) s_inS (re_var 2) (re_tup (ra_cons (re_str) (ra_cons (re_str) (ra_cons (re_str) (ra_nil))))) (by rfl)) (rw_and1 (rt_cmp (o_eqq hr) s_eq (rc_call ((ok_law_draw T).up (by decide)) hr T.m18 T.k18 T.b18 (ra_cons (re_var 0) (ra_cons (re_int) (ra_nil)))) (re_int) (nomark _))))) (re_neg (re_int)) (re_int)) (hf := .inl (hfn _))) (rss_cons (rs_set nd (i := 6) rfl (.inr rfl) (re_ite (RW.rt (rw_and (rt_cmp (o_inS hr) s_inS (re_var 2) (re_tup (ra_cons (re_str) (ra_cons (re_str) (ra_cons (re_str) (ra_nil))))) (by rfl)) (rw_and1 (rt_cmp (o_eqq hr) s_eq (rc_call ((ok_law_draw T).up (by decide)) hr T.m18 T.k18 T.b18 (ra_cons (re_var 0) (ra_cons (re_int) (ra_nil)))) (re_int) (nomark _))))) (re_neg (re_int)) (re_int)) (hf := .inl (hfn _))) (rss_cons (rs_set nd (i := 7) rfl (.inr rfl) (re_op op_mulB s_mul (re_var 5) (re_ite (RW.rt (rw_and (rt_cmp (o_inS hr) s_inS (re_var 2) (re_tup (ra_cons (re_str) (ra_cons (re_str) (ra_nil)))) (by rfl)) (rw_and1 (rt_cmp (o_eqq hr) s_eq (rc_call ((ok_law_draw T).up (by decide)) hr T.m18 T.k18 T.b18 (ra_cons (re_var 0) (ra_cons (re_int) (ra_nil)))) (re_int) (nomark _))))) (re_int) (re_int))) (hf := .inl (hfn _))) (rss_cons (rs_set nd (i := 8) rfl (.inl rfl) (re_sorted T.n_sorted (ra_cons (re_lc (own := [("x", 9), ("y", 10)]) rfl nd (ri_tup (re_var 1)) (blkOk_by (by dsimp only; decide +kernel)) (fun _ _ _ _ _ => rg_tup (rgs_cons (rg_name nd (i := 9) rfl (.inl rfl) (.inr rfl)) (rgs_cons (rg_name nd (i := 10) rfl (.inl rfl) (.inr rfl)) (rgs_nil))) rfl rfl rfl) (fun _ _ _ _ _ => rts_nil) (fun _ _ _ _ _ => re_tup (ra_cons (re_op o_add s_add (re_op op_mulB s_mul (re_var 7) (re_var 9)) (re_var 3)) (ra_cons (re_op o_add s_add (re_op op_mulB s_mul (re_var 6) (re_var 10)) (re_var 4)) (ra_nil)))) (by decide)) (ra_nil))) (hf := .inl (hfn _))) (rss_cons (rs_ret (re_ite (rt_cmp (o_neq hr) s_ne (re_lc (own := [("x", 9), ("y", 10)]) rfl nd (ri_lst (re_var 8)) (blkOk_by (by dsimp only; decide +kernel)) (fun _ _ _ _ _ => rg_tup (rgs_cons (rg_name nd (i := 9) rfl (.inl rfl) (.inr rfl)) (rgs_cons (rg_name nd (i := 10) rfl (.inl rfl) (.inr rfl)) (rgs_nil))) rfl rfl rfl) (fun _ _ _ _ _ => rts_one (RW.rt (rw_or (rt_cmp (o_gt hr.blk) s_gt (re_abs T.n_abs (ra_cons (re_var 9) (ra_nil))) (re_int) (nomark _)) (rw_or1 (rt_cmp (o_gt hr.blk) s_gt (re_abs T.n_abs (ra_cons (re_var 10) (ra_nil))) (re_int) (nomark _)))))) (fun _ _ _ _ _ => re_int) (by decide)) (re_lst (ra_nil)) (nomark _)) (re_var 1) (re_tuple T.n_tuple (ra_cons (re_var 8) (ra_nil))))) (rss_nil))))))
noncomputable def m_law_is_right : MS := mSeq (mFor (iLstD (mLst (mCons (mC (.str "shift")) (mCons (mC (.str "flip")) (mCons (mC (.str "back")) (mCons (mC (.str "both")) (mCons (mC (.str "slow")) (mCons (mC (.str "all")) (mNil))))))))) (gN 2) (mSeq (mSet 3 (mCall 2 f_law_normal (mCons (mVar 1) (mCons (mVar 2) (mNil))))) (mSeq (mIf (mB (mOp dNe (mBlt fRepr (mCons (mCall 3 f_law_told (mCons (mVar 1) (mCons (mVar 2) (mCons (mOp dEq (mCall 2 f_law_draw (mCons (mVar 0) (mCons (mC (.int 3)) (mNil)))) (mC (.int 0))) (mNil))))) (mNil))) (mBlt fRepr (mCons (mLst (mCons (mC (.str "told")) (mCons (mVar 3) (mNil)))) (mNil))))) (mSeq (mRet (mC (.bool false))) (mNext)) (mNext)) (mSeq (mIf (mOr (mB (mOp dNe (mOp dIdx (mVar 3) (mC (.int 0))) (mTup (mCons (mC (.int 0)) (mCons (mC (.int 0)) (mNil)))))) (mB (mOp dNe (mBlt fRepr (mCons (mCall 3 f_law_told (mCons (mCall 3 f_law_turned (mCons (mVar 0) (mCons (mVar 1) (mCons (mVar 2) (mNil))))) (mCons (mVar 2) (mCons (mC (.bool false)) (mNil))))) (mNil))) (mBlt fRepr (mCons (mLst (mCons (mC (.str "told")) (mCons (mVar 3) (mNil)))) (mNil)))))) (mSeq (mRet (mC (.bool false))) (mNext)) (mNext)) (mNext))))) (mSeq (mRet (mC (.bool true))) (mNext))
noncomputable def f_law_is_right : DF := runF 4 m_law_is_right
theorem sc_law_is_right : FnScope ["box", "figure", "kind", "due"] ["box", "figure"] (defScope (top 26)) := ⟨rfl, rfl, rfl, by decide +kernel, rfl, by decide +kernel, by decide +kernel⟩
theorem ok_law_is_right (T : Tx K mg f fd) : FnG P w K mg base 5 (f 26) (fd 26) ["box", "figure"] (spD K 2 f_law_is_right) :=
  fng_of (k := 4) (N := ["box", "figure", "kind", "due"]) (m := m_law_is_right) T.d26 sc_law_is_right fun X hP hw hK hm hb hN hE hc hfn hxe hr => by
    obtain ⟨_, _, _, _, _, _, _, _, _, ⟨_, _⟩, _⟩ := X
    cases hP; cases hw; cases hK; cases hm; cases hb; cases hN; cases hE; cases hc
    have nd := (sc_law_is_right).nd
    exact rss_cons (rs_for (fun e s h => absurd h (hxe e s)) rfl (ri_lst (re_lst (ra_cons (re_str) (ra_cons (re_str) (ra_cons (re_str) (ra_cons (re_str) (ra_cons (re_str) (ra_cons (re_str) (ra_nil))))))))) (rg_name nd (i := 2) rfl (.inl rfl) (.inl (hfn _))) (rss_cons (rs_set nd (i := 3) rfl (.inl rfl) (rc_call ((ok_law_normal T).up (by decide)) hr T.m22 T.k22 T.b22 (ra_cons (re_var 1) (ra_cons (re_var 2) (ra_nil)))) (hf := .inl (hfn _))) (rss_cons (rs_if (rt_cmp (o_neq hr) s_ne (re_repr hr T.n_repr (ra_cons (rc_call ((ok_law_told T).up (by decide)) hr T.m23 T.k23 T.b23 (ra_cons (re_var 1) (ra_cons (re_var 2) (ra_cons (re_cmp (o_eqq hr) s_eq (rc_call ((ok_law_draw T).up (by decide)) hr T.m18 T.k18 T.b18 (ra_cons (re_var 0) (ra_cons (re_int) (ra_nil)))) (re_int) (nomark _)) (ra_nil))))) (ra_nil))) (re_repr hr T.n_repr (ra_cons (re_lst (ra_cons (re_str) (ra_cons (re_var 3) (ra_nil)))) (ra_nil))) (nomark _)) (rss_cons (rs_ret (re_bl)) (rss_nil)) (rss_nil)) (rss_cons (rs_if (RW.rt (rw_or (rt_cmp (o_neq hr) s_ne (re_idx (re_var 3) (re_int)) (re_tup (ra_cons (re_int) (ra_cons (re_int) (ra_nil)))) (nomark _)) (rw_or1 (rt_cmp (o_neq hr) s_ne (re_repr hr T.n_repr (ra_cons (rc_call ((ok_law_told T).up (by decide)) hr T.m23 T.k23 T.b23 (ra_cons (rc_call ((ok_law_turned T).up (by decide)) hr T.m25 T.k25 T.b25 (ra_cons (re_var 0) (ra_cons (re_var 1) (ra_cons (re_var 2) (ra_nil))))) (ra_cons (re_var 2) (ra_cons (re_bl) (ra_nil))))) (ra_nil))) (re_repr hr T.n_repr (ra_cons (re_lst (ra_cons (re_str) (ra_cons (re_var 3) (ra_nil)))) (ra_nil))) (nomark _))))) (rss_cons (rs_ret (re_bl)) (rss_nil)) (rss_nil)) (rss_nil))))) (rss_cons (rs_ret (re_bl)) (rss_nil))
noncomputable def m_law : MS := mSeq (mSet 1 (mCall 1 f_law_box (mCons (mVar 0) (mNil)))) (mSeq (mFor (iRange1 (mCons (mC (.int 5)) (mNil))) (gN 2) (mSeq (mSet 3 (mCall 1 f_law_drawn (mCons (mVar 1) (mNil)))) (mSeq (mIf (mNot (mB (mCall 2 f_law_is_right (mCons (mVar 1) (mCons (mVar 3) (mNil)))))) (mSeq (mRet (mC (.bool false))) (mNext)) (mNext)) (mSeq (mSet 4 (mCall 2 f_law_pick (mCons (mVar 1) (mCons (mLst (mCons (mC .none) (mCons (mC (.bool true)) (mCons (mC (.int 0)) (mCons (mC (.str "")) (mCons (mC (.str "fast")) (mCons (mC (.str "Both")) (mCons (mC (.str "all ")) (mCons (mTup (mNil)) (mCons (mLst (mNil)) (mCons (mNewK) (mCons (mTup (mCons (mC (.str "all")) (mNil))) (mCons (mLst (mCons (mC (.str "all")) (mNil))) (mCons (mC (.str "flips")) (mCons (mC (.int 7)) (mNil)))))))))))))))) (mNil))))) (mSeq (mIf (mB (mOp dNe (mBlt fRepr (mCons (mCall 3 f_law_told (mCons (mVar 3) (mCons (mVar 4) (mCons (mOp dEq (mVar 2) (mC (.int 2))) (mNil))))) (mNil))) (mBlt fRepr (mCons (mLst (mCons (mC (.str "NoKind")) (mCons (mVar 4) (mCons (mC (.bool true)) (mNil))))) (mNil))))) (mSeq (mRet (mC (.bool false))) (mNext)) (mNext)) (mNext)))))) (mSeq (mSet 5 (mTup (mCons (mTup (mCons (mC (.int 0)) (mCons (mC (.int 60)) (mNil)))) (mCons (mTup (mCons (mC (.int 2)) (mCons (mC (.int 64)) (mNil)))) (mCons (mTup (mCons (mC (.int 4)) (mCons (mC (.int 62)) (mNil)))) (mNil)))))) (mSeq (mSet 6 (mLc (iLstD (mLst (mCons (mC (.str "shift")) (mCons (mC (.str "flip")) (mCons (mC (.str "back")) (mCons (mC (.str "both")) (mCons (mC (.str "slow")) (mCons (mC (.str "all")) (mNil))))))))) (gN 8) (mYes) (mCall 2 f_normal (mCons (mVar 5) (mCons (mVar 8) (mNil)))) [8])) (mSeq (mSet 7 (mLst (mCons (mTup (mCons (mTup (mCons (mC (.int 0)) (mCons (mC (.int 0)) (mNil)))) (mCons (mTup (mCons (mC (.int 2)) (mCons (mC (.int 4)) (mNil)))) (mCons (mTup (mCons (mC (.int 4)) (mCons (mC (.int 2)) (mNil)))) (mNil))))) (mCons (mTup (mCons (mTup (mCons (mC (.int 0)) (mCons (mC (.int 0)) (mNil)))) (mCons (mTup (mCons (mC (.int 2)) (mCons (mUn dNeg (mC (.int 4))) (mNil)))) (mCons (mTup (mCons (mC (.int 4)) (mCons (mUn dNeg (mC (.int 2))) (mNil)))) (mNil))))) (mCons (mTup (mCons (mTup (mCons (mC (.int 0)) (mCons (mC (.int 0)) (mNil)))) (mCons (mTup (mCons (mC (.int 2)) (mCons (mC (.int 2)) (mNil)))) (mCons (mTup (mCons (mC (.int 4)) (mCons (mUn dNeg (mC (.int 2))) (mNil)))) (mNil))))) (mCons (mTup (mCons (mTup (mCons (mC (.int 0)) (mCons (mC (.int 0)) (mNil)))) (mCons (mTup (mCons (mC (.int 2)) (mCons (mUn dNeg (mC (.int 4))) (mNil)))) (mCons (mTup (mCons (mC (.int 4)) (mCons (mUn dNeg (mC (.int 2))) (mNil)))) (mNil))))) (mNil))))))) (mSeq (mRet (mOp dEq (mBlt fRepr (mCons (mVar 6) (mNil))) (mBlt fRepr (mCons (mOp dAdd (mVar 7) (mLst (mCons (mTup (mCons (mTup (mCons (mC (.int 0)) (mCons (mC (.int 0)) (mNil)))) (mCons (mTup (mCons (mC (.int 1)) (mCons (mC (.int 4)) (mNil)))) (mCons (mTup (mCons (mC (.int 2)) (mCons (mC (.int 2)) (mNil)))) (mNil))))) (mCons (mTup (mCons (mTup (mCons (mC (.int 0)) (mCons (mC (.int 0)) (mNil)))) (mCons (mTup (mCons (mC (.int 1)) (mCons (mUn dNeg (mC (.int 4))) (mNil)))) (mCons (mTup (mCons (mC (.int 2)) (mCons (mUn dNeg (mC (.int 2))) (mNil)))) (mNil))))) (mNil))))) (mNil))))) (mNext))))))
noncomputable def f_law : DF := runF 9 m_law
theorem sc_law : FnScope ["script", "box", "turn", "figure", "odd", "tune", "told", "due", "kind"] ["script"] (defScope (top 27)) := ⟨rfl, rfl, rfl, by decide +kernel, rfl, by decide +kernel, by decide +kernel⟩
theorem ok_law (T : Tx K mg f fd) : FnG P w K mg base 6 (f 27) (fd 27) ["script"] (spD K 1 f_law) :=
  fng_of (k := 5) (N := ["script", "box", "turn", "figure", "odd", "tune", "told", "due", "kind"]) (m := m_law) T.d27 sc_law fun X hP hw hK hm hb hN hE hc hfn hxe hr => by
    obtain ⟨_, _, _, _, _, _, _, _, _, ⟨_, _⟩, _⟩ := X
    cases hP; cases hw; cases hK; cases hm; cases hb; cases hN; cases hE; cases hc
    have nd := (sc_law).nd
    exact rss_cons (rs_set nd (i := 1) rfl (.inl rfl) (rc_call ((ok_law_box T).up (by decide)) hr T.m17 T.k17 T.b17 (ra_cons (re_var 0) (ra_nil))) (hf := .inl (hfn _))) (rss_cons (rs_for (fun e s h => absurd h (hxe e s)) rfl (ri_range1 rfl T.n_range (ra_cons (re_int) (ra_nil))) (rg_name nd (i := 2) rfl (.inl rfl) (.inl (hfn _))) (rss_cons (rs_set nd (i := 3) rfl (.inl rfl) (rc_call ((ok_law_drawn T).up (by decide)) hr T.m24 T.k24 T.b24 (ra_cons (re_var 1) (ra_nil))) (hf := .inl (hfn _))) (rss_cons (rs_if (rt_not (rt_val (rc_call ((ok_law_is_right T).up (by decide)) hr T.m26 T.k26 T.b26 (ra_cons (re_var 1) (ra_cons (re_var 3) (ra_nil)))))) (rss_cons (rs_ret (re_bl)) (rss_nil)) (rss_nil)) (rss_cons (rs_set nd (i := 4) rfl (.inl rfl) (rc_call ((ok_law_pick T).up (by decide)) hr T.m19 T.k19 T.b19 (ra_cons (re_var 1) (ra_cons (re_lst (ra_cons (re_non) (ra_cons (re_bl) (ra_cons (re_int) (ra_cons (re_str) (ra_cons (re_str) (ra_cons (re_str) (ra_cons (re_str) (ra_cons (re_tup (ra_nil)) (ra_cons (re_lst (ra_nil)) (ra_cons (re_newK) (ra_cons (re_tup (ra_cons (re_str) (ra_nil))) (ra_cons (re_lst (ra_cons (re_str) (ra_nil))) (ra_cons (re_str) (ra_cons (re_int) (ra_nil)))))))))))))))) (ra_nil)))) (hf := .inl (hfn _))) (rss_cons (rs_if (rt_cmp (o_neq hr) s_ne (re_repr hr T.n_repr (ra_cons (rc_call ((ok_law_told T).up (by decide)) hr T.m23 T.k23 T.b23 (ra_cons (re_var 3) (ra_cons (re_var 4) (ra_cons (re_cmp (o_eqq hr) s_eq (re_var 2) (re_int) (nomark _)) (ra_nil))))) (ra_nil))) (re_repr hr T.n_repr (ra_cons (re_lst (ra_cons (re_str) (ra_cons (re_var 4) (ra_cons (re_bl) (ra_nil))))) (ra_nil))) (nomark _)) (rss_cons (rs_ret (re_bl)) (rss_nil)) (rss_nil)) (rss_nil)))))) (rss_cons (rs_set nd (i := 5) rfl (.inr rfl) (re_tup (ra_cons (re_tup (ra_cons (re_int) (ra_cons (re_int) (ra_nil)))) (ra_cons (re_tup (ra_cons (re_int) (ra_cons (re_int) (ra_nil)))) (ra_cons (re_tup (ra_cons (re_int) (ra_cons (re_int) (ra_nil)))) (ra_nil))))) (hf := .inl (hfn _))) (rss_cons (rs_setLc 6 (own := [("kind", 8)]) rfl nd (ri_lst (re_lst (ra_cons (re_str) (ra_cons (re_str) (ra_cons (re_str) (ra_cons (re_str) (ra_cons (re_str) (ra_cons (re_str) (ra_nil))))))))) (blkOk_by (by dsimp only; decide +kernel)) (fun _ _ _ _ _ => rg_name nd (i := 8) rfl (.inl rfl) (.inr rfl)) (fun _ _ _ _ _ => rts_nil) (fun _ _ _ _ _ => rc_call ((ok_normal T).up (by decide)) hr.blk T.m13 T.k13 T.b13 (ra_cons (re_var 5) (ra_cons (re_var 8) (ra_nil)))) (by decide)) (rss_cons (rs_set nd (i := 7) rfl (.inl rfl) (re_lst (ra_cons (re_tup (ra_cons (re_tup (ra_cons (re_int) (ra_cons (re_int) (ra_nil)))) (ra_cons (re_tup (ra_cons (re_int) (ra_cons (re_int) (ra_nil)))) (ra_cons (re_tup (ra_cons (re_int) (ra_cons (re_int) (ra_nil)))) (ra_nil))))) (ra_cons (re_tup (ra_cons (re_tup (ra_cons (re_int) (ra_cons (re_int) (ra_nil)))) (ra_cons (re_tup (ra_cons (re_int) (ra_cons (re_neg (re_int)) (ra_nil)))) (ra_cons (re_tup (ra_cons (re_int) (ra_cons (re_neg (re_int)) (ra_nil)))) (ra_nil))))) (ra_cons (re_tup (ra_cons (re_tup (ra_cons (re_int) (ra_cons (re_int) (ra_nil)))) (ra_cons (re_tup (ra_cons (re_int) (ra_cons (re_int) (ra_nil)))) (ra_cons (re_tup (ra_cons (re_int) (ra_cons (re_neg (re_int)) (ra_nil)))) (ra_nil))))) (ra_cons (re_tup (ra_cons (re_tup (ra_cons (re_int) (ra_cons (re_int) (ra_nil)))) (ra_cons (re_tup (ra_cons (re_int) (ra_cons (re_neg (re_int)) (ra_nil)))) (ra_cons (re_tup (ra_cons (re_int) (ra_cons (re_neg (re_int)) (ra_nil)))) (ra_nil))))) (ra_nil)))))) (hf := .inl (hfn _))) (rss_cons (rs_ret (re_cmp (o_eqq hr) s_eq (re_repr hr T.n_repr (ra_cons (re_var 6) (ra_nil))) (re_repr hr T.n_repr (ra_cons (re_op o_add s_add (re_var 7) (re_lst (ra_cons (re_tup (ra_cons (re_tup (ra_cons (re_int) (ra_cons (re_int) (ra_nil)))) (ra_cons (re_tup (ra_cons (re_int) (ra_cons (re_int) (ra_nil)))) (ra_cons (re_tup (ra_cons (re_int) (ra_cons (re_int) (ra_nil)))) (ra_nil))))) (ra_cons (re_tup (ra_cons (re_tup (ra_cons (re_int) (ra_cons (re_int) (ra_nil)))) (ra_cons (re_tup (ra_cons (re_int) (ra_cons (re_neg (re_int)) (ra_nil)))) (ra_cons (re_tup (ra_cons (re_int) (ra_cons (re_neg (re_int)) (ra_nil)))) (ra_nil))))) (ra_nil))))) (ra_nil))) (nomark _))) (rss_nil))))))
end
theorem all_mk {P : Program} {w : World} {K : PySem.W.Frag} {h : Heap} {mg : Str → Option Value} {fa : Addr} (X : K.In h) (G : h.Ns mainGlobals mg) (hfa : mg "law" = some (.ref fa))
    {f9 f10 f11 f13 f14 f15 f17 f18 f19 f20 f21 f22 f23 f24 f25 f26 f27 : Addr} {od9 an9 od10 an10 od11 an11 od13 an13 od14 an14 od15 an15 od17 an17 od18 an18 od19 an19 od20 an20 od21 an21 od22 an22 od23 an23 od24 an24 od25 an25 od26 an26 od27 an27 : Option Addr} {sl9 sl10 sl11 sl13 sl14 sl15 sl17 sl18 sl19 sl20 sl21 sl22 sl23 sl24 sl25 sl26 sl27 : Array (Option Value)} {oc9 kV9 dc9 pm9 cd9 ct9 oc10 kV10 dc10 pm10 cd10 ct10 oc11 kV11 dc11 pm11 cd11 ct11 oc13 kV13 dc13 pm13 cd13 ct13 oc14 kV14 dc14 pm14 cd14 ct14 oc15 kV15 dc15 pm15 cd15 ct15 oc17 kV17 dc17 pm17 cd17 ct17 oc18 kV18 dc18 pm18 cd18 ct18 oc19 kV19 dc19 pm19 cd19 ct19 oc20 kV20 dc20 pm20 cd20 ct20 oc21 kV21 dc21 pm21 cd21 ct21 oc22 kV22 dc22 pm22 cd22 ct22 oc23 kV23 dc23 pm23 cd23 ct23 oc24 kV24 dc24 pm24 cd24 ct24 oc25 kV25 dc25 pm25 cd25 ct25 oc26 kV26 dc26 pm26 cd26 ct26 oc27 kV27 dc27 pm27 cd27 ct27 : Value}
    (a9 : PySem.W.nsIn K mainGlobals "check_kind" = some (some (.ref f9))) (l9 : K.lookup f9 = some ⟨oc9, od9, .func (PySem.W.fnOf "check_kind" "check_kind" (defArgs (top 9)) (defBody (top 9)) (defScope (top 9)) .none kV9 dc9 pm9 an9 cd9 ct9), sl9⟩) (c9 : PySem.W.codeIn K cd9 "check_kind" = true) (k9 : PySem.W.keepIn K (.ref f9) = true)
    (a10 : PySem.W.nsIn K mainGlobals "turns" = some (some (.ref f10))) (l10 : K.lookup f10 = some ⟨oc10, od10, .func (PySem.W.fnOf "turns" "turns" (defArgs (top 10)) (defBody (top 10)) (defScope (top 10)) .none kV10 dc10 pm10 an10 cd10 ct10), sl10⟩) (c10 : PySem.W.codeIn K cd10 "turns" = true) (k10 : PySem.W.keepIn K (.ref f10) = true)
    (a11 : PySem.W.nsIn K mainGlobals "flips" = some (some (.ref f11))) (l11 : K.lookup f11 = some ⟨oc11, od11, .func (PySem.W.fnOf "flips" "flips" (defArgs (top 11)) (defBody (top 11)) (defScope (top 11)) .none kV11 dc11 pm11 an11 cd11 ct11), sl11⟩) (c11 : PySem.W.codeIn K cd11 "flips" = true) (k11 : PySem.W.keepIn K (.ref f11) = true)
    (a13 : PySem.W.nsIn K mainGlobals "normal" = some (some (.ref f13))) (l13 : K.lookup f13 = some ⟨oc13, od13, .func (PySem.W.fnOf "normal" "normal" (defArgs (top 13)) (defBody (top 13)) (defScope (top 13)) .none kV13 dc13 pm13 an13 cd13 ct13), sl13⟩) (c13 : PySem.W.codeIn K cd13 "normal" = true) (k13 : PySem.W.keepIn K (.ref f13) = true)
    (a14 : PySem.W.nsIn K mainGlobals "_beginning" = some (some (.ref f14))) (l14 : K.lookup f14 = some ⟨oc14, od14, .func (PySem.W.fnOf "_beginning" "_beginning" (defArgs (top 14)) (defBody (top 14)) (defScope (top 14)) .none kV14 dc14 pm14 an14 cd14 ct14), sl14⟩) (c14 : PySem.W.codeIn K cd14 "_beginning" = true) (k14 : PySem.W.keepIn K (.ref f14) = true)
    (a15 : PySem.W.nsIn K mainGlobals "_shortened" = some (some (.ref f15))) (l15 : K.lookup f15 = some ⟨oc15, od15, .func (PySem.W.fnOf "_shortened" "_shortened" (defArgs (top 15)) (defBody (top 15)) (defScope (top 15)) .none kV15 dc15 pm15 an15 cd15 ct15), sl15⟩) (c15 : PySem.W.codeIn K cd15 "_shortened" = true) (k15 : PySem.W.keepIn K (.ref f15) = true)
    (a17 : PySem.W.nsIn K mainGlobals "_law_box" = some (some (.ref f17))) (l17 : K.lookup f17 = some ⟨oc17, od17, .func (PySem.W.fnOf "_law_box" "_law_box" (defArgs (top 17)) (defBody (top 17)) (defScope (top 17)) .none kV17 dc17 pm17 an17 cd17 ct17), sl17⟩) (c17 : PySem.W.codeIn K cd17 "_law_box" = true) (k17 : PySem.W.keepIn K (.ref f17) = true)
    (a18 : PySem.W.nsIn K mainGlobals "_law_draw" = some (some (.ref f18))) (l18 : K.lookup f18 = some ⟨oc18, od18, .func (PySem.W.fnOf "_law_draw" "_law_draw" (defArgs (top 18)) (defBody (top 18)) (defScope (top 18)) .none kV18 dc18 pm18 an18 cd18 ct18), sl18⟩) (c18 : PySem.W.codeIn K cd18 "_law_draw" = true) (k18 : PySem.W.keepIn K (.ref f18) = true)
    (a19 : PySem.W.nsIn K mainGlobals "_law_pick" = some (some (.ref f19))) (l19 : K.lookup f19 = some ⟨oc19, od19, .func (PySem.W.fnOf "_law_pick" "_law_pick" (defArgs (top 19)) (defBody (top 19)) (defScope (top 19)) .none kV19 dc19 pm19 an19 cd19 ct19), sl19⟩) (c19 : PySem.W.codeIn K cd19 "_law_pick" = true) (k19 : PySem.W.keepIn K (.ref f19) = true)
    (a20 : PySem.W.nsIn K mainGlobals "_law_figure" = some (some (.ref f20))) (l20 : K.lookup f20 = some ⟨oc20, od20, .func (PySem.W.fnOf "_law_figure" "_law_figure" (defArgs (top 20)) (defBody (top 20)) (defScope (top 20)) .none kV20 dc20 pm20 an20 cd20 ct20), sl20⟩) (c20 : PySem.W.codeIn K cd20 "_law_figure" = true) (k20 : PySem.W.keepIn K (.ref f20) = true)
    (a21 : PySem.W.nsIn K mainGlobals "_law_begun" = some (some (.ref f21))) (l21 : K.lookup f21 = some ⟨oc21, od21, .func (PySem.W.fnOf "_law_begun" "_law_begun" (defArgs (top 21)) (defBody (top 21)) (defScope (top 21)) .none kV21 dc21 pm21 an21 cd21 ct21), sl21⟩) (c21 : PySem.W.codeIn K cd21 "_law_begun" = true) (k21 : PySem.W.keepIn K (.ref f21) = true)
    (a22 : PySem.W.nsIn K mainGlobals "_law_normal" = some (some (.ref f22))) (l22 : K.lookup f22 = some ⟨oc22, od22, .func (PySem.W.fnOf "_law_normal" "_law_normal" (defArgs (top 22)) (defBody (top 22)) (defScope (top 22)) .none kV22 dc22 pm22 an22 cd22 ct22), sl22⟩) (c22 : PySem.W.codeIn K cd22 "_law_normal" = true) (k22 : PySem.W.keepIn K (.ref f22) = true)
    (a23 : PySem.W.nsIn K mainGlobals "_law_told" = some (some (.ref f23))) (l23 : K.lookup f23 = some ⟨oc23, od23, .func (PySem.W.fnOf "_law_told" "_law_told" (defArgs (top 23)) (defBody (top 23)) (defScope (top 23)) .none kV23 dc23 pm23 an23 cd23 ct23), sl23⟩) (c23 : PySem.W.codeIn K cd23 "_law_told" = true) (k23 : PySem.W.keepIn K (.ref f23) = true)
    (a24 : PySem.W.nsIn K mainGlobals "_law_drawn" = some (some (.ref f24))) (l24 : K.lookup f24 = some ⟨oc24, od24, .func (PySem.W.fnOf "_law_drawn" "_law_drawn" (defArgs (top 24)) (defBody (top 24)) (defScope (top 24)) .none kV24 dc24 pm24 an24 cd24 ct24), sl24⟩) (c24 : PySem.W.codeIn K cd24 "_law_drawn" = true) (k24 : PySem.W.keepIn K (.ref f24) = true)
    (a25 : PySem.W.nsIn K mainGlobals "_law_turned" = some (some (.ref f25))) (l25 : K.lookup f25 = some ⟨oc25, od25, .func (PySem.W.fnOf "_law_turned" "_law_turned" (defArgs (top 25)) (defBody (top 25)) (defScope (top 25)) .none kV25 dc25 pm25 an25 cd25 ct25), sl25⟩) (c25 : PySem.W.codeIn K cd25 "_law_turned" = true) (k25 : PySem.W.keepIn K (.ref f25) = true)
    (a26 : PySem.W.nsIn K mainGlobals "_law_is_right" = some (some (.ref f26))) (l26 : K.lookup f26 = some ⟨oc26, od26, .func (PySem.W.fnOf "_law_is_right" "_law_is_right" (defArgs (top 26)) (defBody (top 26)) (defScope (top 26)) .none kV26 dc26 pm26 an26 cd26 ct26), sl26⟩) (c26 : PySem.W.codeIn K cd26 "_law_is_right" = true) (k26 : PySem.W.keepIn K (.ref f26) = true)
    (a27 : PySem.W.nsIn K mainGlobals "law" = some (some (.ref f27))) (l27 : K.lookup f27 = some ⟨oc27, od27, .func (PySem.W.fnOf "law" "law" (defArgs (top 27)) (defBody (top 27)) (defScope (top 27)) .none kV27 dc27 pm27 an27 cd27 ct27), sl27⟩) (c27 : PySem.W.codeIn K cd27 "law" = true) (k27 : PySem.W.keepIn K (.ref f27) = true)
    (z_ValueError : PySem.W.nsIn K mainGlobals "ValueError" = some none)
    (z_abs : PySem.W.nsIn K mainGlobals "abs" = some none)
    (z_int : PySem.W.nsIn K mainGlobals "int" = some none)
    (z_isinstance : PySem.W.nsIn K mainGlobals "isinstance" = some none)
    (z_len : PySem.W.nsIn K mainGlobals "len" = some none)
    (z_list : PySem.W.nsIn K mainGlobals "list" = some none)
    (z_min : PySem.W.nsIn K mainGlobals "min" = some none)
    (z_range : PySem.W.nsIn K mainGlobals "range" = some none)
    (z_repr : PySem.W.nsIn K mainGlobals "repr" = some none)
    (z_sorted : PySem.W.nsIn K mainGlobals "sorted" = some none)
    (z_tuple : PySem.W.nsIn K mainGlobals "tuple" = some none)
    (z_gcd : PySem.W.nsIn K mainGlobals "gcd" = some (some (.builtin "math.gcd")))
    {v_FLIPPING : Addr} {n_FLIPPING : Nat} {od_FLIPPING : Option Addr} {sl_FLIPPING : Array (Option Value)} {t0_FLIPPING t1_FLIPPING t2_FLIPPING : Tok} (q_FLIPPING : PySem.W.nsIn K mainGlobals "FLIPPING" = some (some (.ref v_FLIPPING))) (l_FLIPPING : K.lookup v_FLIPPING = some ⟨.type "tuple", od_FLIPPING, .seq #[.str "flip" t0_FLIPPING, .str "both" t1_FLIPPING, .str "all" t2_FLIPPING] n_FLIPPING, sl_FLIPPING⟩)
    {v_KINDS : Addr} {n_KINDS : Nat} {od_KINDS : Option Addr} {sl_KINDS : Array (Option Value)} {t0_KINDS t1_KINDS t2_KINDS t3_KINDS t4_KINDS t5_KINDS : Tok} (q_KINDS : PySem.W.nsIn K mainGlobals "KINDS" = some (some (.ref v_KINDS))) (l_KINDS : K.lookup v_KINDS = some ⟨.type "tuple", od_KINDS, .seq #[.str "shift" t0_KINDS, .str "flip" t1_KINDS, .str "back" t2_KINDS, .str "both" t3_KINDS, .str "slow" t4_KINDS, .str "all" t5_KINDS] n_KINDS, sl_KINDS⟩)
    {v_STRETCHING : Addr} {n_STRETCHING : Nat} {od_STRETCHING : Option Addr} {sl_STRETCHING : Array (Option Value)} {t0_STRETCHING t1_STRETCHING : Tok} (q_STRETCHING : PySem.W.nsIn K mainGlobals "STRETCHING" = some (some (.ref v_STRETCHING))) (l_STRETCHING : K.lookup v_STRETCHING = some ⟨.type "tuple", od_STRETCHING, .seq #[.str "slow" t0_STRETCHING, .str "all" t1_STRETCHING] n_STRETCHING, sl_STRETCHING⟩)
    {v_TURNING : Addr} {n_TURNING : Nat} {od_TURNING : Option Addr} {sl_TURNING : Array (Option Value)} {t0_TURNING t1_TURNING t2_TURNING : Tok} (q_TURNING : PySem.W.nsIn K mainGlobals "TURNING" = some (some (.ref v_TURNING))) (l_TURNING : K.lookup v_TURNING = some ⟨.type "tuple", od_TURNING, .seq #[.str "back" t0_TURNING, .str "both" t1_TURNING, .str "all" t2_TURNING] n_TURNING, sl_TURNING⟩)
    {C_NoKind I_NoKind : Addr} {z1_NoKind z2_NoKind z3_NoKind z4_NoKind z5_NoKind z6_NoKind : Pos} {nm_NoKind qq_NoKind : Str} {N_NoKind : Addr} {bs_NoKind bm_NoKind : List Value} {sn_NoKind : List Str} {su_NoKind : List Value} {ab_NoKind : Bool} {co_NoKind : Option Bool} {dd_NoKind : Option Addr} {ma_NoKind mb_NoKind mc_NoKind md_NoKind me_NoKind : Option Value} {odI_NoKind anI_NoKind : Option Addr} {slI_NoKind : Array (Option Value)} {ocI_NoKind dcI_NoKind pmI_NoKind cdI_NoKind ctI_NoKind : Value}
    (aC_NoKind : PySem.W.nsIn K mainGlobals "NoKind" = some (some (.ref C_NoKind))) (xL_NoKind : K.lookup C_NoKind = some (PySem.excClassObj nm_NoKind qq_NoKind C_NoKind N_NoKind bs_NoKind bm_NoKind true sn_NoKind su_NoKind ab_NoKind co_NoKind dd_NoKind ma_NoKind mb_NoKind mc_NoKind md_NoKind me_NoKind "ValueError.__new__")) (rV_NoKind : PySem.HandSPX.refsVE bm_NoKind = true) (sa_NoKind : PySem.W.findIn K (.ref C_NoKind) "__setattr__" = some (some (.builtin "object.__setattr__"))) (ga_NoKind : PySem.W.findIn K (.ref C_NoKind) "__getattribute__" = some (some (.builtin "BaseException.__getattribute__"))) (gg_NoKind : PySem.W.findIn K (.ref C_NoKind) "__getattr__" = some none) (nf_NoKind : PySem.W.findIn K (.ref C_NoKind) "given" = some none) (ni_NoKind : PySem.W.findIn K (.ref C_NoKind) "__init__" = some (some (.ref I_NoKind))) (ti_NoKind : PySem.W.typeIn K (.ref I_NoKind) = some (.type "function")) (li_NoKind : K.lookup I_NoKind = some ⟨ocI_NoKind, odI_NoKind, .func (PySem.W.fnOf "__init__" "NoKind.__init__" { posonlyargs := [], args := [{ arg := "self", annotation := none, pos := z1_NoKind }, { arg := "given", annotation := none, pos := z2_NoKind }], vararg := none, kwonlyargs := [], kw_defaults := [], kwarg := none, defaults := [] } [.Assign [.Attribute (.Name "self" z3_NoKind) "given" z4_NoKind] (.Name "given" z5_NoKind) z6_NoKind] { kind := .function, names := [("self", .local), ("given", .local)], isGenerator := false, isCoroutine := false, more := [] } .none .none dcI_NoKind pmI_NoKind anI_NoKind cdI_NoKind ctI_NoKind), slI_NoKind⟩) (ci_NoKind : PySem.W.codeIn K cdI_NoKind "NoKind.__init__" = true) (kC_NoKind : PySem.W.keepIn K (.ref C_NoKind) = true) (eC_NoKind : PySem.W.subIn K (.ref C_NoKind) (.type "BaseException") = some true) (tC_NoKind : PySem.W.typeIn K (.ref C_NoKind) = some (.type "type")) (hC_NoKind : PySem.W.hasDictIn K C_NoKind = true) (iC_NoKind : PySem.W.isClsIn K C_NoKind = true) (sC_NoKind : PySem.W.subIn K (.ref C_NoKind) (.ref C_NoKind) = some true) (fd_NoKind : PySem.W.findIn K (.ref C_NoKind) "__class__" = some (some (.builtin "object.__class__"))) (mo_NoKind : PySem.W.mroIn K C_NoKind (.type "object") = some true)
    (sp_c : PySem.W.specialIn K (.builtin "object.__class__") "__get__" = some (some (.builtin "getset_descriptor.__get__"))) (tk_c : PySem.W.takesIn K (.builtin "object.__class__") = some true)
    {B_ScoreError : Addr} (aB_ScoreError : PySem.W.nsIn K mainGlobals "ScoreError" = some (some (.ref B_ScoreError))) (iB_ScoreError : PySem.W.isClsIn K B_ScoreError = true) (tB_ScoreError : PySem.W.typeIn K (.ref B_ScoreError) = some (.type "type"))
    (sB_NoKind_ScoreError : PySem.W.subIn K (.ref C_NoKind) (.ref B_ScoreError) = some true)
    (sB_NoKind_ValueError : PySem.W.subIn K (.ref C_NoKind) (.type "ValueError") = some true)
    : ∃ fd : FuncData, (∀ (s : Shared) (v : Value), BindsTo s fd ⟨[v], []⟩ [("script", v)]) ∧ ∀ base : Heap, K.In base → base.Ns mainGlobals mg → FnG P w K mg base 6 fa fd ["script"] (spD K 1 f_law) := by
  have e := hfa.symm.trans (PySem.W.mg_of X G a27)
  cases e
  have F9 := fun_mk (st := top 9) l9 c9 k9
  have B9 := F9.binds (ps := ["kind"]) fun _ _ _ _ _ _ us hl => match us, hl with | [_], _ => rfl
  have F10 := fun_mk (st := top 10) l10 c10 k10
  have B10 := F10.binds (ps := ["kind"]) fun _ _ _ _ _ _ us hl => match us, hl with | [_], _ => rfl
  have F11 := fun_mk (st := top 11) l11 c11 k11
  have B11 := F11.binds (ps := ["kind"]) fun _ _ _ _ _ _ us hl => match us, hl with | [_], _ => rfl
  have F13 := fun_mk (st := top 13) l13 c13 k13
  have B13 := F13.binds (ps := ["figure", "kind"]) fun _ _ _ _ _ _ us hl => match us, hl with | [_, _], _ => rfl
  have F14 := fun_mk (st := top 14) l14 c14 k14
  have B14 := F14.binds (ps := ["pairs"]) fun _ _ _ _ _ _ us hl => match us, hl with | [_], _ => rfl
  have F15 := fun_mk (st := top 15) l15 c15 k15
  have B15 := F15.binds (ps := ["pairs"]) fun _ _ _ _ _ _ us hl => match us, hl with | [_], _ => rfl
  have F17 := fun_mk (st := top 17) l17 c17 k17
  have B17 := F17.binds (ps := ["script"]) fun _ _ _ _ _ _ us hl => match us, hl with | [_], _ => rfl
  have F18 := fun_mk (st := top 18) l18 c18 k18
  have B18 := F18.binds (ps := ["box", "many"]) fun _ _ _ _ _ _ us hl => match us, hl with | [_, _], _ => rfl
  have F19 := fun_mk (st := top 19) l19 c19 k19
  have B19 := F19.binds (ps := ["box", "items"]) fun _ _ _ _ _ _ us hl => match us, hl with | [_, _], _ => rfl
  have F20 := fun_mk (st := top 20) l20 c20 k20
  have B20 := F20.binds (ps := ["box", "most", "step"]) fun _ _ _ _ _ _ us hl => match us, hl with | [_, _, _], _ => rfl
  have F21 := fun_mk (st := top 21) l21 c21 k21
  have B21 := F21.binds (ps := ["pairs"]) fun _ _ _ _ _ _ us hl => match us, hl with | [_], _ => rfl
  have F22 := fun_mk (st := top 22) l22 c22 k22
  have B22 := F22.binds (ps := ["figure", "kind"]) fun _ _ _ _ _ _ us hl => match us, hl with | [_, _], _ => rfl
  have F23 := fun_mk (st := top 23) l23 c23 k23
  have B23 := F23.binds (ps := ["figure", "kind", "is_named"]) fun _ _ _ _ _ _ us hl => match us, hl with | [_, _, _], _ => rfl
  have F24 := fun_mk (st := top 24) l24 c24 k24
  have B24 := F24.binds (ps := ["box"]) fun _ _ _ _ _ _ us hl => match us, hl with | [_], _ => rfl
  have F25 := fun_mk (st := top 25) l25 c25 k25
  have B25 := F25.binds (ps := ["box", "figure", "kind"]) fun _ _ _ _ _ _ us hl => match us, hl with | [_, _, _], _ => rfl
  have F26 := fun_mk (st := top 26) l26 c26 k26
  have B26 := F26.binds (ps := ["box", "figure"]) fun _ _ _ _ _ _ us hl => match us, hl with | [_, _], _ => rfl
  have F27 := fun_mk (st := top 27) l27 c27 k27
  have B27 := F27.binds (ps := ["script"]) fun _ _ _ _ _ _ us hl => match us, hl with | [_], _ => rfl
  have kb13_0_kind_figure : KBinds K (PySem.W.fnOf "normal" "normal" (defArgs (top 13)) (defBody (top 13)) (defScope (top 13)) .none kV13 dc13 pm13 an13 cd13 ct13) ["figure", "kind"] ["kind", "figure"] (gP 0 2 [1, 0]) (gP 0 2 [1, 0]) := kb_mk (by decide) fun us ws h1 h2 => match us, ws, h1, h2 with | [], [_, _], _, _ => rfl
  let f : Nat → Addr := fun i => match i with | 9 => f9 | 10 => f10 | 11 => f11 | 13 => f13 | 14 => f14 | 15 => f15 | 17 => f17 | 18 => f18 | 19 => f19 | 20 => f20 | 21 => f21 | 22 => f22 | 23 => f23 | 24 => f24 | 25 => f25 | 26 => f26 | 27 => fa | _ => fa
  let fd : Nat → FuncData := fun i => match i with | 9 => PySem.W.fnOf "check_kind" "check_kind" (defArgs (top 9)) (defBody (top 9)) (defScope (top 9)) .none kV9 dc9 pm9 an9 cd9 ct9 | 10 => PySem.W.fnOf "turns" "turns" (defArgs (top 10)) (defBody (top 10)) (defScope (top 10)) .none kV10 dc10 pm10 an10 cd10 ct10 | 11 => PySem.W.fnOf "flips" "flips" (defArgs (top 11)) (defBody (top 11)) (defScope (top 11)) .none kV11 dc11 pm11 an11 cd11 ct11 | 13 => PySem.W.fnOf "normal" "normal" (defArgs (top 13)) (defBody (top 13)) (defScope (top 13)) .none kV13 dc13 pm13 an13 cd13 ct13 | 14 => PySem.W.fnOf "_beginning" "_beginning" (defArgs (top 14)) (defBody (top 14)) (defScope (top 14)) .none kV14 dc14 pm14 an14 cd14 ct14 | 15 => PySem.W.fnOf "_shortened" "_shortened" (defArgs (top 15)) (defBody (top 15)) (defScope (top 15)) .none kV15 dc15 pm15 an15 cd15 ct15 | 17 => PySem.W.fnOf "_law_box" "_law_box" (defArgs (top 17)) (defBody (top 17)) (defScope (top 17)) .none kV17 dc17 pm17 an17 cd17 ct17 | 18 => PySem.W.fnOf "_law_draw" "_law_draw" (defArgs (top 18)) (defBody (top 18)) (defScope (top 18)) .none kV18 dc18 pm18 an18 cd18 ct18 | 19 => PySem.W.fnOf "_law_pick" "_law_pick" (defArgs (top 19)) (defBody (top 19)) (defScope (top 19)) .none kV19 dc19 pm19 an19 cd19 ct19 | 20 => PySem.W.fnOf "_law_figure" "_law_figure" (defArgs (top 20)) (defBody (top 20)) (defScope (top 20)) .none kV20 dc20 pm20 an20 cd20 ct20 | 21 => PySem.W.fnOf "_law_begun" "_law_begun" (defArgs (top 21)) (defBody (top 21)) (defScope (top 21)) .none kV21 dc21 pm21 an21 cd21 ct21 | 22 => PySem.W.fnOf "_law_normal" "_law_normal" (defArgs (top 22)) (defBody (top 22)) (defScope (top 22)) .none kV22 dc22 pm22 an22 cd22 ct22 | 23 => PySem.W.fnOf "_law_told" "_law_told" (defArgs (top 23)) (defBody (top 23)) (defScope (top 23)) .none kV23 dc23 pm23 an23 cd23 ct23 | 24 => PySem.W.fnOf "_law_drawn" "_law_drawn" (defArgs (top 24)) (defBody (top 24)) (defScope (top 24)) .none kV24 dc24 pm24 an24 cd24 ct24 | 25 => PySem.W.fnOf "_law_turned" "_law_turned" (defArgs (top 25)) (defBody (top 25)) (defScope (top 25)) .none kV25 dc25 pm25 an25 cd25 ct25 | 26 => PySem.W.fnOf "_law_is_right" "_law_is_right" (defArgs (top 26)) (defBody (top 26)) (defScope (top 26)) .none kV26 dc26 pm26 an26 cd26 ct26 | 27 => PySem.W.fnOf "law" "law" (defArgs (top 27)) (defBody (top 27)) (defScope (top 27)) .none kV27 dc27 pm27 an27 cd27 ct27 | _ => PySem.W.fnOf "law" "law" (defArgs (top 27)) (defBody (top 27)) (defScope (top 27)) .none kV27 dc27 pm27 an27 cd27 ct27
  have T : Tx K mg f fd := { n_ValueError := PySem.W.mg_none_of X G z_ValueError, n_abs := PySem.W.mg_none_of X G z_abs, n_int := PySem.W.mg_none_of X G z_int, n_isinstance := PySem.W.mg_none_of X G z_isinstance, n_len := PySem.W.mg_none_of X G z_len, n_list := PySem.W.mg_none_of X G z_list, n_min := PySem.W.mg_none_of X G z_min, n_range := PySem.W.mg_none_of X G z_range, n_repr := PySem.W.mg_none_of X G z_repr, n_sorted := PySem.W.mg_none_of X G z_sorted, n_tuple := PySem.W.mg_none_of X G z_tuple, n_gcd := PySem.W.mg_of X G z_gcd, c_FLIPPING := ⟨_, _, _, _, PySem.W.mg_of X G q_FLIPPING, l_FLIPPING, rfl, rfl, show (3 : Nat) ≤ sizeLine by decide +kernel, .cons ⟨_, rfl⟩ (.cons ⟨_, rfl⟩ (.cons ⟨_, rfl⟩ (.nil)))⟩, c_KINDS := ⟨_, _, _, _, PySem.W.mg_of X G q_KINDS, l_KINDS, rfl, rfl, show (6 : Nat) ≤ sizeLine by decide +kernel, .cons ⟨_, rfl⟩ (.cons ⟨_, rfl⟩ (.cons ⟨_, rfl⟩ (.cons ⟨_, rfl⟩ (.cons ⟨_, rfl⟩ (.cons ⟨_, rfl⟩ (.nil))))))⟩, c_STRETCHING := ⟨_, _, _, _, PySem.W.mg_of X G q_STRETCHING, l_STRETCHING, rfl, rfl, show (2 : Nat) ≤ sizeLine by decide +kernel, .cons ⟨_, rfl⟩ (.cons ⟨_, rfl⟩ (.nil))⟩, c_TURNING := ⟨_, _, _, _, PySem.W.mg_of X G q_TURNING, l_TURNING, rfl, rfl, show (3 : Nat) ≤ sizeLine by decide +kernel, .cons ⟨_, rfl⟩ (.cons ⟨_, rfl⟩ (.cons ⟨_, rfl⟩ (.nil)))⟩, e_NoKind := ⟨C_NoKind, I_NoKind, ⟨.inl rfl, PySem.W.mg_of X G aC_NoKind, ⟨nm_NoKind, qq_NoKind, N_NoKind, bs_NoKind, _, sn_NoKind, su_NoKind, ab_NoKind, co_NoKind, dd_NoKind, ma_NoKind, mb_NoKind, mc_NoKind, md_NoKind, me_NoKind, xL_NoKind, rV_NoKind⟩, sa_NoKind, ga_NoKind, gg_NoKind, nf_NoKind, ni_NoKind, ti_NoKind, kC_NoKind, eC_NoKind, tC_NoKind, hC_NoKind, ⟨_, _, _, _, _, _, _, _, ⟨z1_NoKind, z2_NoKind, z3_NoKind, z4_NoKind, z5_NoKind, z6_NoKind⟩, li_NoKind, ci_NoKind⟩⟩, exm_own eC_NoKind eC_NoKind iC_NoKind tC_NoKind sC_NoKind, B_ScoreError, PySem.W.mg_of X G aB_ScoreError, ⟨fd_NoKind, sp_c, tk_c, mo_NoKind, one_cls (cls_ref iB_ScoreError tB_ScoreError sB_NoKind_ScoreError)⟩, ⟨fd_NoKind, sp_c, tk_c, mo_NoKind, one_cls (cls_ty (by decide +kernel) sB_NoKind_ValueError)⟩⟩, d9 := F9, m9 := PySem.W.mg_of X G a9, k9 := k9, b9 := B9, d10 := F10, m10 := PySem.W.mg_of X G a10, k10 := k10, b10 := B10, d11 := F11, m11 := PySem.W.mg_of X G a11, k11 := k11, b11 := B11, d13 := F13, m13 := PySem.W.mg_of X G a13, k13 := k13, b13 := B13, d14 := F14, m14 := PySem.W.mg_of X G a14, k14 := k14, b14 := B14, d15 := F15, m15 := PySem.W.mg_of X G a15, k15 := k15, b15 := B15, d17 := F17, m17 := PySem.W.mg_of X G a17, k17 := k17, b17 := B17, d18 := F18, m18 := PySem.W.mg_of X G a18, k18 := k18, b18 := B18, d19 := F19, m19 := PySem.W.mg_of X G a19, k19 := k19, b19 := B19, d20 := F20, m20 := PySem.W.mg_of X G a20, k20 := k20, b20 := B20, d21 := F21, m21 := PySem.W.mg_of X G a21, k21 := k21, b21 := B21, d22 := F22, m22 := PySem.W.mg_of X G a22, k22 := k22, b22 := B22, d23 := F23, m23 := PySem.W.mg_of X G a23, k23 := k23, b23 := B23, d24 := F24, m24 := PySem.W.mg_of X G a24, k24 := k24, b24 := B24, d25 := F25, m25 := PySem.W.mg_of X G a25, k25 := k25, b25 := B25, d26 := F26, m26 := PySem.W.mg_of X G a26, k26 := k26, b26 := B26, d27 := F27, m27 := PySem.W.mg_of X G a27, k27 := k27, b27 := B27, kb13_0_kind_figure := kb13_0_kind_figure }
  exact ⟨PySem.W.fnOf "law" "law" (defArgs (top 27)) (defBody (top 27)) (defScope (top 27)) .none kV27 dc27 pm27 an27 cd27 ct27, fun s v => .of_eq rfl, fun base _ _ => ok_law T⟩
local macro_rules
  | `(tactic| array_get_dec) => `(tactic| first
    | with_reducible exact o_addI | with_reducible exact o_subI | with_reducible exact o_ltI | with_reducible exact o_gtI | with_reducible exact o_leI | with_reducible exact o_geI
    | with_reducible exact o_eqI | with_reducible exact o_neI | with_reducible exact o_negI | with_reducible exact o_isN | with_reducible exact o_notN | with_reducible exact o_isB | with_reducible exact o_notB
    | with_reducible exact o_len_l | with_reducible exact o_len_t | with_reducible exact o_tup_l | with_reducible exact o_tup_t | with_reducible exact o_absI | with_reducible exact o_intI | with_reducible exact o_intB
    | with_reducible exact o_gcd | with_reducible exact o_maxI | with_reducible exact o_minI | with_reducible exact o_revT | with_reducible exact o_revL | with_reducible exact o_cutT | with_reducible exact o_cutL
    | with_reducible exact o_idx0 | with_reducible exact o_idx1 | with_reducible exact o_idx2 | with_reducible exact o_idx3
    | with_reducible assumption
    | ((with_reducible apply o_mulL) <;> omega) | ((with_reducible apply o_mulR) <;> omega) | ((with_reducible apply o_mod) <;> omega) | ((with_reducible apply o_fdiv) <;> omega)
    | with_reducible exact o_isInt | with_reducible exact o_isBool | with_reducible exact o_isTup | with_reducible exact o_isLst | with_reducible exact o_isStr
    | ((with_reducible apply o_idxT); exact (by decide); exact rfl) | ((with_reducible apply o_idxL); exact (by decide); exact rfl)
    | with_reducible exact o_leT _ _ | with_reducible exact o_ltT _ _ | with_reducible exact o_eqT _ _ | with_reducible exact o_neT _ _
    | ((with_reducible apply o_addT2) <;> exact Nat.le_of_ble_eq_true rfl) | ((with_reducible apply o_addL2) <;> exact Nat.le_of_ble_eq_true rfl)
    | ((with_reducible apply dTup_le); exact Nat.le_of_ble_eq_true rfl) | ((with_reducible apply dLst_le); exact Nat.le_of_ble_eq_true rfl)
    | assumption)
local macro_rules
  | `(tactic| subst_eqs) => `(tactic| repeat first
    | with_reducible refine k_seq ?_ | with_reducible refine q_rt ?_ | with_reducible refine q_bk ?_ | with_reducible refine q_ct ?_
    | with_reducible refine k_if ?_ | with_reducible refine k_ret ?_ | with_reducible refine k_set ?_ | with_reducible refine k_next ?_ | with_reducible refine k_brk ?_ | with_reducible refine k_cnt ?_
    | with_reducible refine k_retN ?_ | with_reducible refine k_drop ?_ | with_reducible refine k_asg ?_ | with_reducible refine k_par ?_ | with_reducible refine k_for ?_ | with_reducible refine k_put ?_
    | with_reducible refine k_op ?_ | with_reducible refine k_un ?_ | with_reducible refine k_B ?_ | with_reducible refine k_and ?_ | with_reducible refine k_or ?_ | with_reducible refine k_not ?_
    | with_reducible refine k_andV ?_ | with_reducible refine k_orV ?_ | with_reducible refine k_notV ?_ | with_reducible refine k_ite ?_ | with_reducible refine k_cut ?_ | with_reducible refine k_cutS ?_ | with_reducible refine k_blt ?_
    | with_reducible refine k_call ?_ | with_reducible refine k_callK ?_ | with_reducible refine k_callL ?_ | with_reducible refine k_sortSC ?_ | with_reducible refine k_lc2 ?_ | with_reducible refine k_iT ?_ | with_reducible refine k_iL ?_ | with_reducible refine k_R1 ?_ | with_reducible refine k_R2 ?_
    | with_reducible refine k_getD ?_ | with_reducible refine k_inD ?_ | with_reducible refine k_en ?_ | with_reducible refine k_zip ?_ | with_reducible refine k_lc ?_ | with_reducible refine k_yes ?_ | with_reducible refine k_newT ?_ | with_reducible refine k_newK ?_
    | with_reducible refine k_disp ?_ | with_reducible refine k_list ?_ | with_reducible refine k_chain ?_ | with_reducible refine k_C ?_ | with_reducible refine k_nil ?_ | with_reducible refine k_cons ?_
    | with_reducible refine k_tup ?_ | with_reducible refine k_lst ?_ | with_reducible refine kPart.n ?_ | with_reducible refine kPart.sm ?_ | with_reducible refine kInt.mk ?_
    | ((with_reducible apply k_varD); exact rfl) | ((with_reducible apply k_varO); exact rfl) | ((with_reducible apply k_varB); exact rfl)
    | with_reducible refine kB.mk ?_ | with_reducible refine kNotV.mk ?_ | with_reducible refine kCond.t ?_ | with_reducible refine kCond.f ?_
    | with_reducible refine kAnd.t ?_ | with_reducible refine kAnd.f ?_ | with_reducible refine kOr.t ?_ | with_reducible refine kOr.f ?_
    | with_reducible refine kAndV.t ?_ | with_reducible refine kAndV.f ?_ | with_reducible refine kOrV.t ?_ | with_reducible refine kOrV.f ?_
    | ((with_reducible apply kOp.mk); exact rfl; exact rfl; array_get_dec) | ((with_reducible apply kUn.mk); exact rfl; array_get_dec) | ((with_reducible apply kBlt.mk); exact rfl; array_get_dec)
    | ((with_reducible apply kCut.mk); exact rfl; array_get_dec) | ((with_reducible apply kCutS.mk); exact rfl; array_get_dec) | ((with_reducible apply kData.mk); exact rfl; array_get_dec)
    | ((with_reducible apply kSet.d); exact Nat.le_of_ble_eq_true rfl; dsimp only [List.set]) | ((with_reducible apply kSet.o); exact Nat.le_of_ble_eq_true rfl; dsimp only [List.set]) | ((with_reducible apply kSet.b); exact Nat.le_of_ble_eq_true rfl; dsimp only [List.set])
    | ((with_reducible apply kSet.sl); exact rfl; exact Nat.le_of_ble_eq_true rfl; dsimp only [List.set])
    | ((with_reducible apply kAsg.mk); exact rfl; exact rfl; try dsimp only [put1, List.set]) | ((with_reducible apply kPar.mk); exact rfl; exact rfl; try dsimp only [put1, List.set])
    | ((with_reducible apply kPutA.mk); exact rfl) | ((with_reducible apply k_meth); exact rfl) | ((with_reducible apply kIT.mk); exact rfl) | ((with_reducible apply kIL.mk); exact rfl)
    | ((with_reducible apply kEn.t); exact rfl) | ((with_reducible apply kEn.l); exact rfl) | ((with_reducible apply kZip.t); exact rfl) | ((with_reducible apply kZip.l); exact rfl)
    | ((with_reducible apply kList.t); exact rfl) | ((with_reducible apply kList.d); exact rfl; exact rfl; exact rfl)
    | with_reducible refine k_disp ?_ | ((with_reducible apply kDisp.mk); exact rfl; exact rfl; exact Nat.le_of_ble_eq_true rfl)
    | ((with_reducible apply kR1.mk); omega; omega) | ((with_reducible apply kR2.mk); omega; omega; omega; omega)
    | with_reducible refine finQ.d ?_ | with_reducible refine finQ.o ?_ | with_reducible refine finQ.b ?_ | with_reducible refine finQ.nx ?_ | ((with_reducible apply finQ.s); exact rfl))
local macro_rules
  | `(tactic| and_intros) => `(tactic| repeat first
    | with_reducible refine k_seq ?_ | with_reducible refine q_nx ?_ | with_reducible refine q_rt ?_ | with_reducible refine q_bk ?_ | with_reducible refine q_ct ?_
    | with_reducible refine k_if ?_ | with_reducible refine k_ret ?_ | with_reducible refine k_set ?_ | with_reducible refine k_next ?_ | with_reducible refine k_brk ?_ | with_reducible refine k_cnt ?_
    | with_reducible refine k_retN ?_ | with_reducible refine k_drop ?_ | with_reducible refine k_asg ?_ | with_reducible refine k_par ?_ | with_reducible refine k_for ?_ | with_reducible refine k_put ?_
    | with_reducible refine k_op ?_ | with_reducible refine k_un ?_ | with_reducible refine k_B ?_ | with_reducible refine k_and ?_ | with_reducible refine k_or ?_ | with_reducible refine k_not ?_
    | with_reducible refine k_andV ?_ | with_reducible refine k_orV ?_ | with_reducible refine k_notV ?_ | with_reducible refine k_ite ?_ | with_reducible refine k_cut ?_ | with_reducible refine k_cutS ?_ | with_reducible refine k_blt ?_
    | with_reducible refine k_call ?_ | with_reducible refine k_callK ?_ | with_reducible refine k_callL ?_ | with_reducible refine k_sortSC ?_ | with_reducible refine k_lc2 ?_ | with_reducible refine k_iT ?_ | with_reducible refine k_iL ?_ | with_reducible refine k_R1 ?_ | with_reducible refine k_R2 ?_
    | with_reducible refine k_getD ?_ | with_reducible refine k_inD ?_ | with_reducible refine k_en ?_ | with_reducible refine k_zip ?_ | with_reducible refine k_lc ?_ | with_reducible refine k_yes ?_ | with_reducible refine k_newT ?_ | with_reducible refine k_newK ?_
    | with_reducible refine k_disp ?_ | with_reducible refine k_list ?_ | with_reducible refine k_chain ?_ | with_reducible refine k_C ?_ | with_reducible refine k_nil ?_ | with_reducible refine k_cons ?_
    | with_reducible refine k_tup ?_ | with_reducible refine k_lst ?_ | with_reducible refine kPart.n ?_ | with_reducible refine kPart.sm ?_ | with_reducible refine kInt.mk ?_
    | ((with_reducible apply k_varD); exact rfl) | ((with_reducible apply k_varO); exact rfl) | ((with_reducible apply k_varB); exact rfl)
    | with_reducible refine kB.mk ?_ | with_reducible refine kNotV.mk ?_ | with_reducible refine kCond.t ?_ | with_reducible refine kCond.f ?_
    | with_reducible refine kAnd.t ?_ | with_reducible refine kAnd.f ?_ | with_reducible refine kOr.t ?_ | with_reducible refine kOr.f ?_
    | with_reducible refine kAndV.t ?_ | with_reducible refine kAndV.f ?_ | with_reducible refine kOrV.t ?_ | with_reducible refine kOrV.f ?_
    | ((with_reducible apply kOp.mk); exact rfl; exact rfl; array_get_dec) | ((with_reducible apply kUn.mk); exact rfl; array_get_dec) | ((with_reducible apply kBlt.mk); exact rfl; array_get_dec)
    | ((with_reducible apply kCut.mk); exact rfl; array_get_dec) | ((with_reducible apply kCutS.mk); exact rfl; array_get_dec) | ((with_reducible apply kData.mk); exact rfl; array_get_dec)
    | ((with_reducible apply kSet.d); exact Nat.le_of_ble_eq_true rfl; dsimp only [List.set]) | ((with_reducible apply kSet.o); exact Nat.le_of_ble_eq_true rfl; dsimp only [List.set]) | ((with_reducible apply kSet.b); exact Nat.le_of_ble_eq_true rfl; dsimp only [List.set])
    | ((with_reducible apply kSet.sl); exact rfl; exact Nat.le_of_ble_eq_true rfl; dsimp only [List.set])
    | ((with_reducible apply kAsg.mk); exact rfl; exact rfl; try dsimp only [put1, List.set]) | ((with_reducible apply kPar.mk); exact rfl; exact rfl; try dsimp only [put1, List.set])
    | ((with_reducible apply kPutA.mk); exact rfl) | ((with_reducible apply k_meth); exact rfl) | ((with_reducible apply kIT.mk); exact rfl) | ((with_reducible apply kIL.mk); exact rfl)
    | ((with_reducible apply kEn.t); exact rfl) | ((with_reducible apply kEn.l); exact rfl) | ((with_reducible apply kZip.t); exact rfl) | ((with_reducible apply kZip.l); exact rfl)
    | ((with_reducible apply kList.t); exact rfl) | ((with_reducible apply kList.d); exact rfl; exact rfl; exact rfl)
    | with_reducible refine k_disp ?_ | ((with_reducible apply kDisp.mk); exact rfl; exact rfl; exact Nat.le_of_ble_eq_true rfl)
    | ((with_reducible apply kR1.mk); omega; omega) | ((with_reducible apply kR2.mk); omega; omega; omega; omega)
    | with_reducible refine finQ.d ?_ | with_reducible refine finQ.o ?_ | with_reducible refine finQ.b ?_ | with_reducible refine finQ.nx ?_ | ((with_reducible apply finQ.s); exact rfl))
/-! ## the law's own draws -/
theorem draw_gv (m : Int) (h0 : 0 < m) (h1 : m < 1267650600228229401496703205376) : Gv f_law_draw [.bx, .d (.int m)] fun r => ∃ v, r = .d (.int v) ∧ 0 ≤ v ∧ v < m := .of fun b => by
  refine ⟨_, (drawB b m).2, ?_, (drawB b m).1, rfl, ?_⟩
  · have e : mDraw (S.init 6 [.bx, .d (.int m)] b) = .ok (.rt (.d (.int (drawB b m).1))) { S.init 6 [.bx, .d (.int m)] b with b := (drawB b m).2 } := by
      have c : (6 : Nat) = 6 ∧ 0 < m ∧ m < 1267650600228229401496703205376 := ⟨rfl, h0, h1⟩
      exact if_pos c
    unfold f_law_draw runF
    rw [e]
    rfl
  · unfold drawB
    split
    · exact ⟨Int.emod_nonneg _ (by omega), Int.emod_lt_of_pos _ h0⟩
    · exact ⟨Int.emod_nonneg _ (by omega), Int.emod_lt_of_pos _ h0⟩
theorem pick_gv (ds : List D) (h0 : ds ≠ []) (h1 : ds.length ≤ 100000) : Gv f_law_pick [.bx, .d (.list ds)] fun r => ∃ d, r = .d d ∧ d ∈ ds := by
  have hp : 0 < ds.length := List.length_pos_iff.mpr h0
  unfold f_law_pick m_law_pick
  refine Gv.run (a0 := [some .bx, some (.d (.list ds))]) rfl fun b => ?_
  and_intros
  refine kCall.mk rfl rfl (draw_gv _ (by omega) (by omega)) ?_
  rintro _ b1 ⟨u, rfl, u0, u1⟩
  have hu : u.toNat < ds.length := by omega
  have hx : dIdx (.list ds) (.int u) = some (.d ds[u.toNat]) := o_idxL u0 (List.getElem?_eq_getElem hu)
  and_intros
  exact ⟨_, rfl, List.getElem_mem _⟩
theorem all_ints : ∀ l : List D, (∀ d ∈ l, ∃ i : Int, d = .int i) → ∃ ns, intsD? l = some ns
  | [], _ => ⟨[], rfl⟩
  | d :: r, h => by
    obtain ⟨i, rfl⟩ := h d List.mem_cons_self
    obtain ⟨ns, e⟩ := all_ints r fun x hx => h x (List.mem_cons_of_mem _ hx)
    exact ⟨i :: ns, by simp [intsD?, e]⟩
def markF : D → Option D
  | .int i => some (.int (2 * (if i < 0 then -i else i) + (if decide (i < 0) then 1 else 0)))
  | _ => none
def farF : D → Option D
  | .int i => if 1000000000000000 < i then some (.int i) else none
  | _ => none
theorem pow_of (i : Int) (n : Nat) (h : i.natAbs < 2 ^ 64) (hn : n ≤ 1000000) : dPow (.int i) (.int n) = some (.d (.int (i ^ n))) := by
  have c : (0 : Int) ≤ (n : Int) ∧ (n : Int) ≤ 1000000 ∧ i.natAbs < 2 ^ 64 := ⟨by omega, by omega, h⟩
  refine (if_pos c).trans ?_
  rw [Int.toNat_natCast]
theorem p15 : dPow (.int 10) (.int 15) = some (.d (.int 1000000000000000)) := pow_of 10 15 (by decide) (by decide)
theorem p30 : dPow (.int 10) (.int 30) = some (.d (.int 1000000000000000000000000000000)) := pow_of 10 30 (by decide) (by decide)
theorem box_ok (ns : List Int) (hl : ns.length ≤ 63) (b : Bx) (hb : b.c < 0) : OkF (f_law_box [.d (.list (ns.map .int))] b) fun r _ => r = .bx := by
  have p15 := p15
  unfold f_law_box m_law_box
  refine k_run (a0 := [some (.d (.list (ns.map .int))), none, none, none, none]) rfl ?_
  and_intros
  refine kLc.pure markF rfl (Nat.le_trans (cut_len _ _ _) (by rw [List.length_map]; omega)) ?_ ?_
  · intro d hd
    obtain ⟨i, _, rfl⟩ := List.mem_map.mp (cut_mem hd)
    refine ⟨_, rfl, ?_⟩
    dsimp only [wipeA, List.set]
    and_intros
    refine ⟨fun _ => ?_, fun h => nomatch h⟩
    and_intros
    exact ⟨_, rfl, rfl, rfl, rfl⟩
  generalize hL : List.filterMap markF (cutG (List.map PyData.int ns) none (some 63)) = L
  have hI : ∀ d ∈ L, ∃ i : Int, d = .int i := fun d hd => by
    rw [← hL] at hd
    obtain ⟨e, _, he⟩ := List.mem_filterMap.mp hd
    unfold markF at he
    split at he
    · cases he; exact ⟨_, rfl⟩
    · cases he
  have hLl : L.length ≤ 10000 := by
    rw [← hL]
    refine Nat.le_trans (List.length_filterMap_le _ _) (Nat.le_trans (cut_len _ _ _) ?_)
    rw [List.length_map]; omega
  clear hL
  and_intros
  refine k_loop (I := fun r s => (∀ d ∈ r, ∃ i : Int, d = .int i) ∧ ∃ (st : Int) (x3 : Option D), s = ⟨[some (.d (.list (ns.map .int))), some (.d (.list L)), some (.d (.int st)), x3.map .d, none], b⟩) ?_ ?_ _ _ ⟨hI, _, none, rfl⟩
  · rintro d r s ⟨hd, st, x3, rfl⟩
    obtain ⟨i, rfl⟩ := hd d List.mem_cons_self
    refine ⟨_, rfl, ?_⟩
    dsimp only [List.set]
    and_intros
    exact ⟨fun x hx => hd x (List.mem_cons_of_mem _ hx), _, some _, rfl⟩
  · rintro s ⟨_, st, x3, rfl⟩
    and_intros
    refine k_box hb ?_
    and_intros
    refine kLc.pure farF (by cases x3 <;> rfl) hLl ?_ ?_
    · intro d hd
      obtain ⟨i, rfl⟩ := hI d hd
      refine ⟨_, rfl, ?_⟩
      dsimp only [wipeA, List.set]
      and_intros
      refine ⟨fun h => ?_, fun h => ?_⟩
      · and_intros
        exact ⟨_, rfl, rfl, rfl, if_pos (of_decide_eq_true h)⟩
      · exact ⟨rfl, rfl, if_neg (of_decide_eq_false h)⟩
    · and_intros
      obtain ⟨ms, hms⟩ := all_ints (L.filterMap farF) fun d hd => by
        obtain ⟨e, he, h2⟩ := List.mem_filterMap.mp hd
        obtain ⟨i, rfl⟩ := hI e he
        simp only [farF] at h2
        split at h2
        · cases h2; exact ⟨_, rfl⟩
        · cases h2
      refine kBox.mk hb hms fun b => ?_
      and_intros
      rfl

theorem fit_els {W : List D} {n k m : Nat} (hm : W.length ≤ m) (h : ∀ d ∈ W, Fit n k d) : Fit (m * (n + 2) + 3) (k + 1) (.tuple W) := fit_tup m hm h
theorem fit_cons {n k : Nat} {x : D} {W : List D} (hx : Fit n k x) (hW : ∀ d ∈ W, Fit n k d) : ∀ d ∈ x :: W, Fit n k d := fun d hd => by
  rcases List.mem_cons.mp hd with rfl | hd
  · exact hx
  · exact hW d hd
theorem fit_nil {n k : Nat} : ∀ d ∈ ([] : List D), Fit n k d := fun d hd => by simp at hd
theorem fit_app {n k : Nat} {L M : List D} (hL : ∀ d ∈ L, Fit n k d) (hM : ∀ d ∈ M, Fit n k d) : ∀ d ∈ L ++ M, Fit n k d := fun d hd => by
  rcases List.mem_append.mp hd with hd | hd
  · exact hL d hd
  · exact hM d hd

/-! ## kinds -/
theorem pln_cons {k : Nat} {x : D} {W : List D} (hx : Pln k x) (hW : ∀ d ∈ W, Pln k d) : ∀ d ∈ x :: W, Pln k d := fun d hd => by
  rcases List.mem_cons.mp hd with rfl | hd
  · exact hx
  · exact hW d hd
theorem pln_nil {k : Nat} : ∀ d ∈ ([] : List D), Pln k d := fun d hd => by simp at hd
theorem in_words {s : Str} (hs : Cp s) (ws : List D) (h : ∀ d ∈ ws, Pln 1 d) : dInS (.str s) (.tuple ws) = some (.d (.bool (anyEqv (.str s) ws))) := by
  unfold dInS
  rw [if_pos]
  exact (pln_str hs 0).eqk (pln_tup h) (by decide) (by decide)
inductive Kind
  | shift | flip | back | both | slow | all
def Kind.w : Kind → Str
  | .shift => "shift"
  | .flip => "flip"
  | .back => "back"
  | .both => "both"
  | .slow => "slow"
  | .all => "all"
def Kind.t : Kind → Bool
  | .back | .both | .all => true
  | _ => false
def Kind.f : Kind → Bool
  | .flip | .both | .all => true
  | _ => false
def Kind.s : Kind → Bool
  | .slow | .all => true
  | _ => false
theorem Kind.cp (k : Kind) : Cp k.w := by
  cases k <;> (unfold Cp; decide)
theorem nin_words {s : Str} (hs : Cp s) (ws : List D) (h : ∀ d ∈ ws, Pln 1 d) : dNinS (.str s) (.tuple ws) = some (.d (.bool (!anyEqv (.str s) ws))) := by
  unfold dNinS
  rw [if_pos]
  exact (pln_str hs 0).eqk (pln_tup h) (by decide) (by decide)
theorem pw (x : Str) (h : Cp x) : Pln 1 (.str x) := pln_str h 1
theorem k_kinds (k : Kind) : dNinX ["shift", "flip", "back", "both", "slow", "all"] (.str k.w) = some (.d (.bool false)) := by
  have h := nin_words k.cp ((["shift", "flip", "back", "both", "slow", "all"] : List Str).map PyData.str) (pln_cons (pw "shift" (by unfold Cp; decide)) (pln_cons (pw "flip" (by unfold Cp; decide)) (pln_cons (pw "back" (by unfold Cp; decide)) (pln_cons (pw "both" (by unfold Cp; decide)) (pln_cons (pw "slow" (by unfold Cp; decide)) (pln_cons (pw "all" (by unfold Cp; decide)) pln_nil))))))
  refine h.trans ?_
  have : anyEqv (.str k.w) ((["shift", "flip", "back", "both", "slow", "all"] : List Str).map PyData.str) = true := by cases k <;> decide +kernel
  rw [this]; rfl
theorem k_turnI (k : Kind) : dInX ["back", "both", "all"] (.str k.w) = some (.d (.bool k.t)) := by
  have h := in_words k.cp ((["back", "both", "all"] : List Str).map PyData.str) (pln_cons (pw "back" (by unfold Cp; decide)) (pln_cons (pw "both" (by unfold Cp; decide)) (pln_cons (pw "all" (by unfold Cp; decide)) pln_nil)))
  refine h.trans ?_
  have : anyEqv (.str k.w) ((["back", "both", "all"] : List Str).map PyData.str) = k.t := by cases k <;> decide +kernel
  rw [this]
theorem k_flipI (k : Kind) : dInX ["flip", "both", "all"] (.str k.w) = some (.d (.bool k.f)) := by
  have h := in_words k.cp ((["flip", "both", "all"] : List Str).map PyData.str) (pln_cons (pw "flip" (by unfold Cp; decide)) (pln_cons (pw "both" (by unfold Cp; decide)) (pln_cons (pw "all" (by unfold Cp; decide)) pln_nil)))
  refine h.trans ?_
  have : anyEqv (.str k.w) ((["flip", "both", "all"] : List Str).map PyData.str) = k.f := by cases k <;> decide +kernel
  rw [this]
theorem k_str (k : Kind) : dInX ["slow", "all"] (.str k.w) = some (.d (.bool k.s)) := by
  have h := in_words k.cp ((["slow", "all"] : List Str).map PyData.str) (pln_cons (pw "slow" (by unfold Cp; decide)) (pln_cons (pw "all" (by unfold Cp; decide)) pln_nil))
  refine h.trans ?_
  have : anyEqv (.str k.w) ((["slow", "all"] : List Str).map PyData.str) = k.s := by cases k <;> decide +kernel
  rw [this]
theorem check_kind_gv (k : Kind) : Gv f_check_kind [.d (.str k.w)] (· = .d .none) := by
  have h1 := k_kinds k
  unfold f_check_kind m_check_kind
  refine Gv.run (a0 := [some (.d (.str k.w))]) rfl fun b => ?_
  and_intros
  rfl
theorem check_kind_gx (d : D) (h : dNinX ["shift", "flip", "back", "both", "slow", "all"] d = some (.d (.bool true))) : Gx g_check_kind [.d d] (· = ⟨"NoKind", "given", d⟩) := by
  unfold g_check_kind x_check_kind
  refine Gx.run (a0 := [some (.d d)]) rfl fun b => ?_
  refine x_seq1 (x_ite ?_)
  and_intros
  refine ⟨fun _ => x_seq1 (x_raise ?_), fun e => nomatch e⟩
  and_intros
  exact ⟨d, _, rfl, rfl⟩
theorem in_turn (k : Kind) : dInS (.str k.w) (.tuple [.str "back", .str "both", .str "all"]) = some (.d (.bool k.t)) := by
  refine (in_words k.cp _ (pln_cons (pln_str (x := "back") (by unfold Cp; decide) 1) (pln_cons (pln_str (x := "both") (by unfold Cp; decide) 1) (pln_cons (pln_str (x := "all") (by unfold Cp; decide) 1) pln_nil)))).trans ?_
  rw [show anyEqv (.str k.w) [.str "back", .str "both", .str "all"] = k.t by cases k <;> decide +kernel]
theorem in_flip (k : Kind) : dInS (.str k.w) (.tuple [.str "flip", .str "both", .str "all"]) = some (.d (.bool k.f)) := by
  refine (in_words k.cp _ (pln_cons (pln_str (x := "flip") (by unfold Cp; decide) 1) (pln_cons (pln_str (x := "both") (by unfold Cp; decide) 1) (pln_cons (pln_str (x := "all") (by unfold Cp; decide) 1) pln_nil)))).trans ?_
  rw [show anyEqv (.str k.w) [.str "flip", .str "both", .str "all"] = k.f by cases k <;> decide +kernel]
theorem in_str (k : Kind) : dInS (.str k.w) (.tuple [.str "slow", .str "all"]) = some (.d (.bool k.s)) := by
  refine (in_words k.cp _ (pln_cons (pln_str (x := "slow") (by unfold Cp; decide) 1) (pln_cons (pln_str (x := "all") (by unfold Cp; decide) 1) pln_nil))).trans ?_
  rw [show anyEqv (.str k.w) [.str "slow", .str "all"] = k.s by cases k <;> decide +kernel]
theorem in_both (k : Kind) : dInS (.str k.w) (.tuple [.str "both", .str "all"]) = some (.d (.bool (k.t && k.f))) := by
  refine (in_words k.cp _ (pln_cons (pln_str (x := "both") (by unfold Cp; decide) 1) (pln_cons (pln_str (x := "all") (by unfold Cp; decide) 1) pln_nil))).trans ?_
  rw [show anyEqv (.str k.w) [.str "both", .str "all"] = (k.t && k.f) by cases k <;> decide +kernel]
theorem nin_str (k : Kind) : dNinS (.str k.w) (.tuple [.str "slow", .str "all"]) = some (.d (.bool (!k.s))) := by
  refine (nin_words k.cp _ (pln_cons (pln_str (x := "slow") (by unfold Cp; decide) 1) (pln_cons (pln_str (x := "all") (by unfold Cp; decide) 1) pln_nil))).trans ?_
  rw [show anyEqv (.str k.w) [.str "slow", .str "all"] = k.s by cases k <;> decide +kernel]

/-! ## normal forms -/
def px (l : List Int) : Int := l.headD 0
def py : List Int → Int
  | [_, y] => y
  | _ => 0
def P2 (p : List Int) : Prop := ∃ x y, p = [x, y]
theorem lex2 (x y x' y' : Int) : HT.lexLt [x, y] [x', y'] = if x = x' then decide (y < y') else decide (x < x') := by
  rw [HT.lexLt_cons]
  split
  · rw [HT.lexLt_cons]
    split
    · rename_i h
      rw [HT.lexLt_nil_nil]
      symm
      exact decide_eq_false (by omega)
    · rfl
  · rfl
def flp (s e : Int) (p : List Int) : List Int := [s * px p, e * py p]
def subP (m p : List Int) : List Int := [px p - px m, py p - py m]
def tr (a b : Int) (p : List Int) : List Int := [px p + a, py p + b]
def scl (c : Int) (p : List Int) : List Int := [c * px p, py p]
theorem bd {p q : Prop} [Decidable p] [Decidable q] (h : p ↔ q) : decide p = decide q := by rw [Bool.eq_iff_iff, decide_eq_true_eq, decide_eq_true_eq]; exact h
theorem sub_lt {m p q : List Int} (hp : P2 p) (hq : P2 q) : HT.lexLt (subP m p) (subP m q) = HT.lexLt p q := by
  obtain ⟨x, y, rfl⟩ := hp
  obtain ⟨x', y', rfl⟩ := hq
  show HT.lexLt [x - px m, y - py m] [x' - px m, y' - py m] = _
  rw [lex2, lex2]
  by_cases h : x = x'
  · rw [if_pos h, if_pos (by omega)]; exact bd (by omega)
  · rw [if_neg h, if_neg (by omega)]; exact bd (by omega)
theorem tr_lt {a b : Int} {p q : List Int} (hp : P2 p) (hq : P2 q) : HT.lexLt (tr a b p) (tr a b q) = HT.lexLt p q := by
  obtain ⟨x, y, rfl⟩ := hp
  obtain ⟨x', y', rfl⟩ := hq
  show HT.lexLt [x + a, y + b] [x' + a, y' + b] = _
  rw [lex2, lex2]
  by_cases h : x = x'
  · rw [if_pos h, if_pos (by omega)]; exact bd (by omega)
  · rw [if_neg h, if_neg (by omega)]; exact bd (by omega)
theorem scl_inj {c : Int} (hc : 0 < c) {p q : List Int} (hp : P2 p) (hq : P2 q) : scl c p = scl c q ↔ p = q := by
  obtain ⟨x, y, rfl⟩ := hp
  obtain ⟨x', y', rfl⟩ := hq
  show [c * x, y] = [c * x', y'] ↔ _
  simp only [List.cons.injEq, and_true]
  rw [Int.mul_eq_mul_left_iff (by omega)]
theorem scl_lt {c : Int} (hc : 0 < c) {p q : List Int} (hp : P2 p) (hq : P2 q) : HT.lexLt (scl c p) (scl c q) = HT.lexLt p q := by
  obtain ⟨x, y, rfl⟩ := hp
  obtain ⟨x', y', rfl⟩ := hq
  show HT.lexLt [c * x, y] [c * x', y'] = _
  rw [lex2, lex2]
  have h1 : c * x = c * x' ↔ x = x' := Int.mul_eq_mul_left_iff (by omega)
  by_cases h : x = x'
  · rw [if_pos h, if_pos (h1.mpr h)]
  · rw [if_neg h, if_neg fun q => h (h1.mp q)]
    exact bd (Int.mul_lt_mul_left hc)
theorem sortI_eq {L M : List (List Int)} (h : L.Perm M) : sortI L = sortI M := sorted_one (sortI_srtd _) (sortI_srtd _) ((sortI_perm L).trans (h.trans (sortI_perm M).symm))
theorem sortI_map {f : List Int → List Int} {L : List (List Int)} (hf : ∀ p ∈ L, ∀ q ∈ L, HT.lexLt (f p) (f q) = HT.lexLt p q) : sortI (L.map f) = (sortI L).map f := by
  refine sorted_one (sortI_srtd _) ?_ ((sortI_perm _).trans ((sortI_perm L).symm.map f))
  refine List.pairwise_map.mpr ((List.Pairwise.and_mem.mp (sortI_srtd L)).imp fun {x y} h => ?_)
  obtain ⟨hx, hy, h⟩ := h
  rw [hf y ((sortI_perm L).mem_iff.mp hy) x ((sortI_perm L).mem_iff.mp hx)]
  exact h
def hdI (L : List (List Int)) : List Int := (sortI L).headD []
theorem hdI_mem {L : List (List Int)} (h : L ≠ []) : hdI L ∈ L := by
  unfold hdI
  have hp := sortI_perm L
  cases e : sortI L with
  | nil =>
    rw [e] at hp
    exact absurd hp.symm.eq_nil h
  | cons m r =>
    rw [e] at hp
    exact hp.mem_iff.mp List.mem_cons_self
theorem hdI_least {L : List (List Int)} {m : List Int} (hm : m ∈ L) (h : ∀ x ∈ L, HT.lexLt x m = false) : hdI L = m := by
  have h0 : L ≠ [] := List.ne_nil_of_mem hm
  have h1 := hdI_mem h0
  refine lex_anti _ _ (h _ h1) ?_
  have hp := sortI_perm L
  have hs := sortI_srtd L
  unfold hdI
  cases e : sortI L with
  | nil =>
    rw [e] at hp
    exact absurd hp.symm.eq_nil h0
  | cons a r =>
    rw [e] at hp hs
    show HT.lexLt m a = false
    rcases List.mem_cons.mp (hp.mem_iff.mpr hm) with rfl | hmr
    · exact (NtL.swo_lexL fun z : List Int => z).refl m
    · exact (List.pairwise_cons.mp hs).1 m hmr
def begF (L : List (List Int)) : List (List Int) := (sortI L).map (subP (hdI L))
theorem begF_perm {L M : List (List Int)} (h : L.Perm M) : begF L = begF M := by
  unfold begF hdI
  rw [sortI_eq h]
theorem p2_map {f : List Int → List Int} (hf : ∀ p, P2 (f p)) (L : List (List Int)) : ∀ p ∈ L.map f, P2 p := fun p hp => by
  obtain ⟨q, _, rfl⟩ := List.mem_map.mp hp
  exact hf q
theorem hdI_map {f : List Int → List Int} {L : List (List Int)} (h0 : L ≠ []) (hf : ∀ p ∈ L, ∀ q ∈ L, HT.lexLt (f p) (f q) = HT.lexLt p q) : hdI (L.map f) = f (hdI L) := by
  unfold hdI
  rw [sortI_map hf]
  cases e : sortI L with
  | nil =>
    have hp := sortI_perm L
    rw [e] at hp
    exact absurd hp.symm.eq_nil h0
  | cons a r => rfl
theorem begF_tr {a b : Int} {L : List (List Int)} (hL : ∀ p ∈ L, P2 p) (h0 : L ≠ []) : begF (L.map (tr a b)) = begF L := by
  have hf : ∀ p ∈ L, ∀ q ∈ L, HT.lexLt (tr a b p) (tr a b q) = HT.lexLt p q := fun p hp q hq => tr_lt (hL p hp) (hL q hq)
  unfold begF
  rw [hdI_map h0 hf, sortI_map hf, List.map_map]
  refine List.map_congr_left fun p _ => ?_
  show [px p + a - (px (hdI L) + a), py p + b - (py (hdI L) + b)] = [px p - px (hdI L), py p - py (hdI L)]
  rw [show px p + a - (px (hdI L) + a) = px p - px (hdI L) by omega, show py p + b - (py (hdI L) + b) = py p - py (hdI L) by omega]
theorem begF_scl {c : Int} (hc : 0 < c) {L : List (List Int)} (hL : ∀ p ∈ L, P2 p) (h0 : L ≠ []) : begF (L.map (scl c)) = (begF L).map (scl c) := by
  have hf : ∀ p ∈ L, ∀ q ∈ L, HT.lexLt (scl c p) (scl c q) = HT.lexLt p q := fun p hp q hq => scl_lt hc (hL p hp) (hL q hq)
  unfold begF
  rw [hdI_map h0 hf, sortI_map hf, List.map_map, List.map_map]
  refine List.map_congr_left fun p _ => ?_
  show [c * px p - c * px (hdI L), py p - py (hdI L)] = [c * (px p - px (hdI L)), py p - py (hdI L)]
  rw [Int.mul_sub]
theorem begF_p2 (L : List (List Int)) : ∀ p ∈ begF L, P2 p := p2_map (fun p => ⟨_, _, rfl⟩) _
theorem begF_ne {L : List (List Int)} (h : L ≠ []) : begF L ≠ [] := fun e => by
  have := List.map_eq_nil_iff.mp e
  have hp := sortI_perm L
  rw [this] at hp
  exact h hp.symm.eq_nil
theorem begF_len (L : List (List Int)) : (begF L).length = L.length := by
  unfold begF
  rw [List.length_map, (sortI_perm L).length_eq]
theorem begF_hd {L : List (List Int)} (h : L ≠ []) : ∃ r, begF L = [0, 0] :: r := by
  unfold begF hdI
  have hp := sortI_perm L
  cases e : sortI L with
  | nil =>
    rw [e] at hp
    exact absurd hp.symm.eq_nil h
  | cons a r =>
    refine ⟨r.map (subP a), ?_⟩
    show subP a a :: _ = _
    unfold subP
    rw [Int.sub_self, Int.sub_self]
    rfl
/-- the x of the points of a beginning are not below 0 -/
theorem begF_nn {L : List (List Int)} (hL : ∀ p ∈ L, P2 p) (h0 : L ≠ []) : ∀ p ∈ begF L, 0 ≤ px p := fun p hp => by
  unfold begF at hp
  obtain ⟨q, hq, rfl⟩ := List.mem_map.mp hp
  have hq' := (sortI_perm L).mem_iff.mp hq
  have hs := sortI_srtd L
  have hm := hdI_mem h0
  show 0 ≤ px q - px (hdI L)
  have hl : HT.lexLt q (hdI L) = false := by
    unfold hdI
    cases e : sortI L with
    | nil => rw [e] at hq; cases hq
    | cons a r =>
      rw [e] at hs hq
      show HT.lexLt q a = false
      rcases List.mem_cons.mp hq with rfl | hq
      · exact (NtL.swo_lexL fun z : List Int => z).refl q
      · exact (List.pairwise_cons.mp hs).1 q hq
  obtain ⟨x, y, rfl⟩ := hL q hq'
  obtain ⟨x', y', e⟩ := hL _ hm
  rw [e] at hl ⊢
  rw [lex2] at hl
  show 0 ≤ x - x'
  split at hl
  · omega
  · have := of_decide_eq_false hl
    omega
def tl (t : Bool) : List Int := if t then [1, -1] else [1]
theorem tl_sg {t : Bool} {s : Int} (h : s ∈ tl t) : s = 1 ∨ s = -1 := by
  unfold tl at h
  cases t <;> simp at h
  · exact .inl h
  · exact h
theorem tl_mul {t : Bool} {s u : Int} (h : s ∈ tl t) (h2 : u ∈ tl t) : s * u ∈ tl t := by
  unfold tl at h h2 ⊢
  cases t <;> simp at h h2 ⊢
  · rw [h, h2]; rfl
  · rcases h with rfl | rfl <;> rcases h2 with rfl | rfl <;> simp
theorem sg_sq {s : Int} (h : s = 1 ∨ s = -1) : s * s = 1 := by rcases h with rfl | rfl <;> rfl
def forms (t f : Bool) (L : List (List Int)) : List (List (List Int)) := (tl t).flatMap fun s => (tl f).map fun e => begF (L.map (flp s e))
theorem mem_forms {t f : Bool} {L X : List (List Int)} : X ∈ forms t f L ↔ ∃ s ∈ tl t, ∃ e ∈ tl f, X = begF (L.map (flp s e)) := by
  unfold forms
  rw [List.mem_flatMap]
  constructor
  · rintro ⟨s, hs, h⟩
    obtain ⟨e, he, rfl⟩ := List.mem_map.mp h
    exact ⟨s, hs, e, he, rfl⟩
  · rintro ⟨s, hs, e, he, rfl⟩
    exact ⟨s, hs, List.mem_map.mpr ⟨e, he, rfl⟩⟩
structure NF (t f : Bool) (L M : List (List Int)) : Prop where
  mem : M ∈ forms t f L
  le : ∀ X ∈ forms t f L, ltF X M = false
theorem NF.one {t f : Bool} {L M M' : List (List Int)} (h : NF t f L M) (h' : NF t f L M') : M = M' := ltF_anti _ _ (h'.le _ h.mem) (h.le _ h'.mem)
def gcdL : Int → List (List Int) → Int
  | c, [] => c
  | c, p :: L => gcdL ((Nat.gcd c.natAbs (px p).natAbs : Nat) : Int) L
def shorten (M : List (List Int)) : List (List Int) := M.map fun p => [px p / gcdL 0 M, py p]
def fin (s : Bool) (M : List (List Int)) : List (List Int) := if s then shorten M else M
theorem ltF_map {f : List Int → List Int} : ∀ {A B : List (List Int)}, (∀ a ∈ A, ∀ b ∈ B, (f a = f b ↔ a = b) ∧ HT.lexLt (f a) (f b) = HT.lexLt a b) → ltF (A.map f) (B.map f) = ltF A B
  | [], [], _ => rfl
  | [], _ :: _, _ => rfl
  | _ :: _, [], _ => rfl
  | a :: A, b :: B, h => by
    obtain ⟨h1, h2⟩ := h a List.mem_cons_self b List.mem_cons_self
    have ih := ltF_map (f := f) (A := A) (B := B) fun a ha b hb => h a (List.mem_cons_of_mem _ ha) b (List.mem_cons_of_mem _ hb)
    simp only [List.map_cons, ltF]
    by_cases e : a = b
    · rw [if_pos e, if_pos (h1.mpr e), ih]
    · rw [if_neg e, if_neg fun q => e (h1.mp q), h2]
/-- what a figure is turned to: mirrored, led away, made longer -/
def mvP (by' left e high : Int) (p : List Int) : List Int := [by' * px p + left, e * py p + high]
theorem forms_mv {L G : List (List Int)} {c side left e high s e' : Int} (hc : 0 < c) (h0 : L ≠ []) (hG : G.Perm (L.map (mvP (side * c) left e high))) : begF (G.map (flp s e')) = (begF (L.map (flp (s * side) (e' * e)))).map (scl c) := by
  rw [begF_perm (hG.map (flp s e')), List.map_map]
  have e1 : L.map (flp s e' ∘ mvP (side * c) left e high) = ((L.map (flp (s * side) (e' * e))).map (scl c)).map (tr (s * left) (e' * high)) := by
    rw [List.map_map, List.map_map]
    refine List.map_congr_left fun p _ => ?_
    show [s * (side * c * px p + left), e' * (e * py p + high)] = [c * (s * side * px p) + s * left, e' * e * py p + e' * high]
    rw [Int.mul_add, Int.mul_add, ← Int.mul_assoc e' e, ← Int.mul_assoc s (side * c), ← Int.mul_assoc s side c, Int.mul_comm (s * side) c, Int.mul_assoc c (s * side)]
  rw [e1, begF_tr (p2_map (f := scl c) (fun p => ⟨_, _, rfl⟩) _) (by simpa using h0), begF_scl hc (p2_map (f := flp (s * side) (e' * e)) (fun p => ⟨_, _, rfl⟩) _) (by simpa using h0)]
theorem NF.mv {t f : Bool} {L G M : List (List Int)} {c side left e high : Int} (h : NF t f L M) (hc : 0 < c) (h0 : L ≠ []) (hs : side ∈ tl t) (he : e ∈ tl f) (hG : G.Perm (L.map (mvP (side * c) left e high))) : NF t f G (M.map (scl c)) := by
  have m2 : ∀ s e', ∀ p ∈ begF (L.map (flp s e')), P2 p := fun s e' => begF_p2 _
  refine ⟨?_, fun X hX => ?_⟩
  · obtain ⟨s1, hs1, e1, he1, rfl⟩ := mem_forms.mp h.mem
    refine mem_forms.mpr ⟨s1 * side, tl_mul hs1 hs, e1 * e, tl_mul he1 he, ?_⟩
    rw [forms_mv hc h0 hG, Int.mul_assoc, sg_sq (tl_sg hs), Int.mul_assoc, sg_sq (tl_sg he), Int.mul_one, Int.mul_one]
  · obtain ⟨s1, hs1, e1, he1, rfl⟩ := mem_forms.mp hX
    obtain ⟨s2, hs2, e2, he2, rfl⟩ := mem_forms.mp h.mem
    rw [forms_mv hc h0 hG, ltF_map fun a ha b hb => ⟨scl_inj hc (begF_p2 _ a ha) (begF_p2 _ b hb), scl_lt hc (begF_p2 _ a ha) (begF_p2 _ b hb)⟩]
    exact h.le _ (mem_forms.mpr ⟨_, tl_mul hs1 hs, _, tl_mul he1 he, rfl⟩)
theorem gcdL_scl {c : Int} (hc : 0 < c) : ∀ (M : List (List Int)) (g : Int), 0 ≤ g → gcdL (c * g) (M.map (scl c)) = c * gcdL g M
  | [], g, _ => rfl
  | p :: M, g, hg => by
    rw [List.map_cons, gcdL, gcdL, ← gcdL_scl hc M _ (Int.natCast_nonneg _)]
    congr 1
    show ((Nat.gcd (c * g).natAbs (c * px p).natAbs : Nat) : Int) = c * _
    rw [Int.natAbs_mul, Int.natAbs_mul, Nat.gcd_mul_left, Int.natCast_mul]
    have : ((c.natAbs : Nat) : Int) = c := by omega
    rw [this]
theorem shorten_scl {c : Int} (hc : 0 < c) (M : List (List Int)) : shorten (M.map (scl c)) = shorten M := by
  have e := gcdL_scl hc M 0 (Int.le_refl _)
  rw [Int.mul_zero] at e
  unfold shorten
  rw [e, List.map_map]
  refine List.map_congr_left fun p _ => ?_
  show [c * px p / (c * gcdL 0 M), py p] = _
  rw [Int.mul_ediv_mul_of_pos _ _ hc]
theorem scl_one {M : List (List Int)} (h : ∀ p ∈ M, P2 p) : M.map (scl 1) = M := by
  refine (List.map_congr_left fun p hp => ?_).trans (List.map_id M)
  obtain ⟨x, y, rfl⟩ := h p hp
  show [1 * x, y] = [x, y]
  rw [Int.one_mul]
theorem NF.p2 {t f : Bool} {L M : List (List Int)} (h : NF t f L M) : ∀ p ∈ M, P2 p := by
  obtain ⟨s1, hs1, e1, he1, rfl⟩ := mem_forms.mp h.mem
  exact begF_p2 _

/-! ## what normal tells -/
theorem fm_pts {F : D → Option D} {g : List Int → D} : ∀ {A : List (List Int)}, (∀ p ∈ A, F (tI p) = some (g p)) → (A.map tI).filterMap F = A.map g
  | [], _ => rfl
  | p :: A, h => by
    rw [List.map_cons, List.filterMap_cons_some (h p List.mem_cons_self), fm_pts fun q hq => h q (List.mem_cons_of_mem _ hq), List.map_cons]
theorem P2.ne {p : List Int} (h : P2 p) : p ≠ [] := by
  obtain ⟨x, y, rfl⟩ := h
  simp
theorem min_pts {L : List (List Int)} (h : ∀ p ∈ L, P2 p) (h0 : L ≠ []) : fMinN [.list (L.map tI)] = some (.d (tI (hdI L))) := by
  cases L with
  | nil => exact absurd rfl h0
  | cons a L =>
    obtain ⟨m, e, hm, hl⟩ := min_tI a L
    rw [minN_of (e := tI) alike_tI (fun l => (pln_tI l).mono (by decide)) fun x hx => tupNE_tI (h x hx).ne, e, hdI_least hm hl]
theorem min_figs {fs : List (List (List Int))} (h : ∀ X ∈ fs, X ≠ []) (h0 : fs ≠ []) : ∃ M, fMinN [.list (fs.map fgD)] = some (.d (fgD M)) ∧ M ∈ fs ∧ ∀ X ∈ fs, ltF X M = false := by
  cases fs with
  | nil => exact absurd rfl h0
  | cons a L =>
    obtain ⟨m, e, hm, hl⟩ := min_fg a L
    refine ⟨m, ?_, hm, hl⟩
    rw [minN_of (e := fgD) alike_fg pln_fg fun x hx => tupNE_fg (h x hx), e]
def pairF (g : Int → Int → List Int) : D → Option D
  | .tuple [.int x, .int y] => some (tI (g x y))
  | _ => none
theorem pair_fm {g : Int → Int → List Int} {f : List Int → List Int} {L : List (List Int)} (h : ∀ p ∈ L, P2 p) (hg : ∀ x y, g x y = f [x, y]) : (L.map tI).filterMap (pairF g) = (L.map f).map tI := by
  rw [List.map_map]
  refine fm_pts fun p hp => ?_
  obtain ⟨x, y, rfl⟩ := h p hp
  show some (tI (g x y)) = some (tI (f [x, y]))
  rw [hg]
theorem beginning_gv {L : List (List Int)} (h : ∀ p ∈ L, P2 p) (h0 : L ≠ []) (hl : L.length ≤ 1000) : Gv f_beginning [.d (.list (L.map tI))] (· = .d (fgD (begF L))) := by
  have hmin := min_pts h h0
  have hsub : ∀ p ∈ L, ∀ q ∈ L, HT.lexLt (subP (hdI L) p) (subP (hdI L) q) = HT.lexLt p q := fun p hp q hq => sub_lt (h p hp) (h q hq)
  have hs := sorted_tI (L.map (subP (hdI L))) fun x hx => by obtain ⟨p, _, rfl⟩ := List.mem_map.mp hx; simp [subP]
  rw [sortI_map hsub] at hs
  have hg : ∀ x y, [x - px (hdI L), y - py (hdI L)] = subP (hdI L) [x, y] := fun _ _ => rfl
  have hb : begF L = (sortI L).map (subP (hdI L)) := rfl
  obtain ⟨a, c, e⟩ := h _ (hdI_mem h0)
  rw [hb]
  generalize hdI L = m at hmin hs hg e
  subst e
  have hg : ∀ x y, [x - a, y - c] = subP [a, c] [x, y] := fun _ _ => rfl
  unfold f_beginning m_beginning
  refine Gv.run (a0 := [some (.d (.list (L.map tI))), none, none, none, none]) rfl fun b => ?_
  and_intros
  refine kLc.pure (pairF fun x y => [x - a, y - c]) rfl (by rw [List.length_map]; omega) ?_ ?_
  · intro d hd
    obtain ⟨p, hp, rfl⟩ := List.mem_map.mp hd
    obtain ⟨x, y, rfl⟩ := h p hp
    refine ⟨_, rfl, ?_⟩
    and_intros
    refine ⟨fun _ => ?_, fun c => nomatch c⟩
    and_intros
    exact ⟨_, rfl, rfl, rfl, rfl⟩
  · rw [pair_fm h hg]
    and_intros
    rfl
theorem gcdL_pos : ∀ (M : List (List Int)) (c : Int), 0 ≤ c → (c ≠ 0 ∨ ∃ r ∈ M, px r ≠ 0) → 0 < gcdL c M
  | [], c, h0, h => by
    rcases h with h | ⟨r, hr, _⟩
    · show 0 < c; omega
    · cases hr
  | p :: M, c, h0, h => by
    refine gcdL_pos M _ (Int.natCast_nonneg _) ?_
    rcases h with h | ⟨r, hr, h⟩
    · left
      have := Nat.gcd_pos_of_pos_left (px p).natAbs (show 0 < c.natAbs by omega)
      omega
    · rcases List.mem_cons.mp hr with rfl | hr
      · left
        have := Nat.gcd_pos_of_pos_right c.natAbs (show 0 < (px r).natAbs by omega)
        omega
      · exact .inr ⟨r, hr, h⟩
theorem gcd_le {a c B : Nat} (ha : a ≤ B) (hc : c ≤ B) : Nat.gcd a c ≤ B := by
  rcases Nat.eq_zero_or_pos a with h | h
  · rw [h, Nat.gcd_zero_left]; exact hc
  · exact Nat.le_trans (Nat.gcd_le_left _ h) ha
theorem gcdL_le {B : Nat} : ∀ (M : List (List Int)) (c : Int), c.natAbs ≤ B → (∀ r ∈ M, (px r).natAbs ≤ B) → (gcdL c M).natAbs ≤ B
  | [], c, h, _ => h
  | p :: M, c, h, hm => by
    refine gcdL_le M _ ?_ fun r hr => hm r (List.mem_cons_of_mem _ hr)
    rw [Int.natAbs_natCast]
    exact gcd_le h (hm p List.mem_cons_self)
theorem shortened_gv {M : List (List Int)} (h : ∀ p ∈ M, P2 p) (hg0 : 0 < gcdL 0 M) (hg1 : (gcdL 0 M).natAbs ≤ 10 ^ 20) (hl : M.length ≤ 1000) : Gv f_shortened [.d (fgD M)] (· = .d (fgD (shorten M))) := by
  unfold f_shortened m_shortened
  refine Gv.run (a0 := [some (.d (fgD M)), none, none, none, none]) rfl fun b => ?_
  and_intros
  refine k_loop (I := fun r s => ∃ (rest : List (List Int)) (g : Int) (x2 : Option D) (x3 : Option R), r = rest.map tI ∧ (∀ p ∈ rest, P2 p) ∧ gcdL g rest = gcdL 0 M ∧ s = ⟨[some (.d (fgD M)), some (.d (.int g)), x2.map .d, x3, none], b⟩) ?_ ?_ _ _ ⟨M, 0, none, _, rfl, h, rfl, rfl⟩
  · rintro d r s ⟨rest, g, x2, x3, er, hp, hg, rfl⟩
    cases rest with
    | nil => cases er
    | cons p rest =>
      cases er
      obtain ⟨x, y, rfl⟩ := hp p List.mem_cons_self
      refine ⟨_, rfl, ?_⟩
      dsimp only [List.set, put1]
      and_intros
      exact ⟨rest, _, some _, _, rfl, fun q hq => hp q (List.mem_cons_of_mem _ hq), hg, rfl⟩
  · rintro s ⟨rest, g, x2, x3, er, hp, hg, rfl⟩
    have : rest = [] := List.map_eq_nil_iff.mp er.symm
    subst this
    have hg : g = gcdL 0 M := hg
    rw [← hg] at hg0 hg1
    have e20 : (10 : Nat) ^ 20 = 100000000000000000000 := by decide
    rw [e20] at hg1
    have he : ∀ x y, [x / g, y] = (fun p => [px p / gcdL 0 M, py p]) [x, y] := fun x y => by rw [hg]; rfl
    and_intros
    refine kLc.pure (pairF fun x y => [x / g, y]) (by cases x2 <;> rfl) (by rw [List.length_map]; omega) ?_ ?_
    · intro d hd
      obtain ⟨p, hp, rfl⟩ := List.mem_map.mp hd
      obtain ⟨x, y, rfl⟩ := h p hp
      refine ⟨_, rfl, ?_⟩
      and_intros
      refine ⟨fun _ => ?_, fun c => nomatch c⟩
      and_intros
      exact ⟨_, rfl, rfl, rfl, rfl⟩
    · rw [pair_fm (f := fun p => [px p / gcdL 0 M, py p]) h he]
      and_intros
      rfl
theorem turns_gv (k : Kind) : Gv f_turns [.d (.str k.w)] (· = .d (.tuple ((tl k.t).map .int))) := by
  have h := k_turnI k
  generalize k.w = kw at h
  generalize k.t = kt at h
  unfold f_turns m_turns
  refine Gv.run (a0 := [some (.d (.str kw))]) rfl fun b => ?_
  cases kt
  · and_intros
    rfl
  · and_intros
    rfl
theorem flips_gv (k : Kind) : Gv f_flips [.d (.str k.w)] (· = .d (.tuple ((tl k.f).map .int))) := by
  have h := k_flipI k
  generalize k.w = kw at h
  generalize k.f = kt at h
  unfold f_flips m_flips
  refine Gv.run (a0 := [some (.d (.str kw))]) rfl fun b => ?_
  cases kt
  · and_intros
    rfl
  · and_intros
    rfl
structure Fb (N : Nat) (L : List (List Int)) : Prop where
  pt : ∀ p ∈ L, ∃ x y, p = [x, y] ∧ x.natAbs ≤ N ∧ y.natAbs ≤ N
  len : L.length ≤ 1000
  two : ∃ p ∈ L, ∃ q ∈ L, px p ≠ px q
theorem Fb.p2 {N : Nat} {L : List (List Int)} (h : Fb N L) : ∀ p ∈ L, P2 p := fun p hp => by
  obtain ⟨x, y, e, _⟩ := h.pt p hp
  exact ⟨x, y, e⟩
theorem Fb.ne {N : Nat} {L : List (List Int)} (h : Fb N L) : L ≠ [] := by
  obtain ⟨p, hp, _⟩ := h.two
  exact List.ne_nil_of_mem hp
/-- a beginning's numbers -/
structure Ab (N : Nat) (M : List (List Int)) : Prop where
  pt : ∀ p ∈ M, ∃ x y, p = [x, y] ∧ 0 ≤ x ∧ x.natAbs ≤ N ∧ y.natAbs ≤ N
  len : M.length ≤ 1000
  pos : 0 < gcdL 0 M
  hd : ∃ r, M = [0, 0] :: r
theorem Ab.p2 {N : Nat} {L : List (List Int)} (h : Ab N L) : ∀ p ∈ L, P2 p := fun p hp => by
  obtain ⟨x, y, e, _⟩ := h.pt p hp
  exact ⟨x, y, e⟩
theorem Ab.gle {N : Nat} {M : List (List Int)} (h : Ab N M) : (gcdL 0 M).natAbs ≤ N := gcdL_le M 0 (Nat.zero_le _) fun r hr => by
  obtain ⟨x, y, rfl, _, h1, _⟩ := h.pt r hr
  exact h1
theorem flp_ab {N : Nat} {L : List (List Int)} {s e : Int} (h : Fb N L) (hs : s = 1 ∨ s = -1) (he : e = 1 ∨ e = -1) : Ab (2 * N) (begF (L.map (flp s e))) := by
  have hp2 : ∀ p ∈ L.map (flp s e), P2 p := p2_map (fun p => ⟨_, _, rfl⟩) _
  have h0 : L.map (flp s e) ≠ [] := fun q => h.ne (List.map_eq_nil_iff.mp q)
  have hb : ∀ p ∈ L.map (flp s e), (px p).natAbs ≤ N ∧ (py p).natAbs ≤ N := fun p hp => by
    obtain ⟨q, hq, rfl⟩ := List.mem_map.mp hp
    obtain ⟨x, y, rfl, h1, h2⟩ := h.pt q hq
    show (s * x).natAbs ≤ N ∧ (e * y).natAbs ≤ N
    rcases hs with rfl | rfl <;> rcases he with rfl | rfl <;> omega
  have hm := hb _ (hdI_mem h0)
  have hnn := begF_nn hp2 h0
  refine ⟨fun p hp => ?_, by rw [begF_len, List.length_map]; exact h.len, ?_, begF_hd h0⟩
  · have h1 := hnn p hp
    unfold begF at hp
    obtain ⟨q, hq, rfl⟩ := List.mem_map.mp hp
    have hq := hb q ((sortI_perm _).mem_iff.mp hq)
    exact ⟨_, _, rfl, h1, by show (px q - px _).natAbs ≤ _; omega, by show (py q - py _).natAbs ≤ _; omega⟩
  · refine gcdL_pos _ 0 (Int.le_refl _) (.inr ?_)
    obtain ⟨p, hp, q, hq, hne⟩ := h.two
    have m1 : ∀ p ∈ L, subP (hdI (L.map (flp s e))) (flp s e p) ∈ begF (L.map (flp s e)) := fun p hp => by
      unfold begF
      exact List.mem_map.mpr ⟨_, (sortI_perm _).mem_iff.mpr (List.mem_map.mpr ⟨p, hp, rfl⟩), rfl⟩
    by_cases c : px (subP (hdI (L.map (flp s e))) (flp s e p)) = 0
    · refine ⟨_, m1 q hq, fun c2 => hne ?_⟩
      have c : s * px p - px (hdI (L.map (flp s e))) = 0 := c
      have c2 : s * px q - px (hdI (L.map (flp s e))) = 0 := c2
      rcases hs with rfl | rfl <;> omega
    · exact ⟨_, m1 p hp, c⟩
theorem NF.ab {N : Nat} {t f : Bool} {L M : List (List Int)} (h : NF t f L M) (hL : Fb N L) : Ab (2 * N) M := by
  obtain ⟨s, hs, e, he, rfl⟩ := mem_forms.mp h.mem
  exact flp_ab hL (tl_sg hs) (tl_sg he)
def formF (f : Bool) (L : List (List Int)) : D → List D
  | .int s => (tl f).map fun e => fgD (begF (L.map (flp s e)))
  | _ => []
def formE (L : List (List Int)) (s : Int) : D → Option D
  | .int e => some (fgD (begF (L.map (flp s e))))
  | _ => none
theorem formF_all (t f : Bool) (L : List (List Int)) : ((tl t).map PyData.int).flatMap (formF f L) = (forms t f L).map fgD := by
  unfold forms
  cases t <;> cases f <;> rfl
theorem formE_all (f : Bool) (L : List (List Int)) (s : Int) : formF f L (.int s) = ((tl f).map PyData.int).filterMap (formE L s) := by
  cases f <;> rfl
theorem forms_len (t f : Bool) (L : List (List Int)) : (forms t f L).length ≤ 4 := by
  cases t <;> cases f <;> exact Nat.le_of_ble_eq_true rfl
theorem forms_ne (t f : Bool) (L : List (List Int)) : forms t f L ≠ [] := by
  cases t <;> cases f <;> exact List.cons_ne_nil _ _
theorem normal_gv {N : Nat} (k : Kind) {L : List (List Int)} (h : Fb N L) (hN : N ≤ 10 ^ 9) : Gv f_normal [.d (fgD L), .d (.str k.w)] fun r => ∃ M, NF k.t k.f L M ∧ r = .d (fgD (fin k.s M)) := by
  have hL0 : ∀ s e, L.map (flp s e) ≠ [] := fun s e q => h.ne (List.map_eq_nil_iff.mp q)
  obtain ⟨M, eM, hM1, hM2⟩ := min_figs (fs := forms k.t k.f L) (fun X hX => by
    obtain ⟨s, _, e, _, rfl⟩ := mem_forms.mp hX
    exact begF_ne (hL0 s e)) (forms_ne _ _ _)
  have hNF : NF k.t k.f L M := ⟨hM1, hM2⟩
  have hA := hNF.ab h
  have hgl := hA.gle
  have e20 : (10 : Nat) ^ 20 = 100000000000000000000 := by decide
  have e9 : (10 : Nat) ^ 9 = 1000000000 := by decide
  have hsh := shortened_gv hA.p2 hA.pos (by omega) hA.len
  have hc := check_kind_gv k
  have ht := turns_gv k
  have hf := flips_gv k
  have hk := k_str k
  have hfl := forms_len k.t k.f L
  rw [← formF_all] at eM
  have hfl' : (((tl k.t).map PyData.int).flatMap (formF k.f L)).length ≤ 10000 := by rw [formF_all, List.length_map]; omega
  have hsg : ∀ s ∈ tl k.t, s = 1 ∨ s = -1 := fun s hs => tl_sg hs
  have heg : ∀ s ∈ tl k.f, s = 1 ∨ s = -1 := fun s hs => tl_sg hs
  generalize k.w = kw at hc ht hf hk
  generalize k.t = kt at *
  generalize k.f = kf at *
  unfold f_normal m_normal
  refine Gv.run (a0 := [some (.d (fgD L)), some (.d (.str kw)), none, none, none, none, none, none]) rfl fun b => ?_
  and_intros
  refine kCall.mk rfl rfl hc ?_
  rintro _ b1 rfl
  and_intros
  refine kCall.mk rfl rfl ht ?_
  rintro _ b2 rfl
  and_intros
  refine kLc2.any (formF kf L) (by decide) rfl hfl' ?_ ?_
  · intro d hd b
    obtain ⟨s, hs, rfl⟩ := List.mem_map.mp hd
    have hs1 := hsg s hs
    refine ⟨_, rfl, ?_⟩
    and_intros
    refine ⟨fun c => (nomatch c), fun _ => ?_⟩
    and_intros
    refine kCall.mk rfl rfl hf ?_
    rintro _ b3 rfl
    and_intros
    refine ⟨rfl, formE L s, formE_all kf L s, ?_⟩
    intro d hd b
    obtain ⟨e, he, rfl⟩ := List.mem_map.mp hd
    have he1 := heg e he
    have hb := beginning_gv (L := L.map (flp s e)) (p2_map (fun p => ⟨_, _, rfl⟩) _) (hL0 s e) (by rw [List.length_map]; exact h.len)
    refine ⟨_, rfl, ?_⟩
    and_intros
    refine ⟨fun _ => ?_, fun c => nomatch c⟩
    and_intros
    refine kLc.pure (pairF fun x y => [s * x, e * y]) rfl (by rw [List.length_map]; have := h.len; omega) ?_ ?_
    · intro d hd
      obtain ⟨p, hp, rfl⟩ := List.mem_map.mp hd
      obtain ⟨x, y, rfl, hx, hy⟩ := h.pt p hp
      have m1 := o_mulX (i := s) (j := x) (by rcases hs1 with rfl | rfl <;> decide +kernel) (Nat.lt_of_le_of_lt hx (Nat.lt_of_le_of_lt hN (by decide +kernel)))
      have m2 := o_mulX (i := e) (j := y) (by rcases he1 with rfl | rfl <;> decide +kernel) (Nat.lt_of_le_of_lt hy (Nat.lt_of_le_of_lt hN (by decide +kernel)))
      refine ⟨_, rfl, ?_⟩
      and_intros
      refine ⟨fun _ => ?_, fun c => nomatch c⟩
      and_intros
      exact ⟨_, rfl, rfl, rfl, rfl⟩
    · rw [pair_fm (f := flp s e) (g := fun x y => [s * x, e * y]) h.p2 fun x y => rfl]
      and_intros
      refine kCall.mk rfl rfl hb ?_
      rintro _ b4 rfl
      exact ⟨_, rfl, rfl, rfl⟩
  · intro b3
    generalize ((tl kt).map PyData.int).flatMap (formF kf L) = W at eM
    and_intros
    cases hks : k.s with
    | false =>
      rw [hks] at hk
      and_intros
      exact ⟨M, hNF, rfl⟩
    | true =>
      rw [hks] at hk
      and_intros
      refine kCall.mk rfl rfl hsh ?_
      rintro _ b4 rfl
      and_intros
      exact ⟨M, hNF, rfl⟩
/-! ## the law's own normal form -/
theorem law_begun_gv {L : List (List Int)} {seq : D} (h : ∀ p ∈ L, P2 p) (h0 : L ≠ []) (hl : L.length ≤ 1000) (hs : fSortedT [seq] = some (.o (.lst ((sortI L).map tI)))) : Gv f_law_begun [.d seq] (· = .d (fgD (begF L))) := by
  obtain ⟨a, c, e⟩ := h _ (hdI_mem h0)
  have hp := sortI_perm L
  have hS : ∀ p ∈ sortI L, P2 p := fun p hp' => h p (hp.mem_iff.mp hp')
  have hSl : (sortI L).length ≤ 1000 := by rw [hp.length_eq]; exact hl
  have hb : begF L = (sortI L).map (subP (hdI L)) := rfl
  have hix : dIdx (.list ((sortI L).map tI)) (.int 0) = some (.d (tI (hdI L))) := by
    unfold hdI
    cases q : sortI L with
    | nil =>
      rw [q] at hp
      exact absurd hp.symm.eq_nil h0
    | cons m r => exact o_idxL (by decide) rfl
  rw [hb]
  generalize hdI L = m at hix e
  subst e
  generalize sortI L = S at hs hS hSl hix
  have hg : ∀ x y, [x - a, y - c] = subP [a, c] [x, y] := fun _ _ => rfl
  unfold f_law_begun m_law_begun
  refine Gv.run (a0 := [some (.d seq), none, none, none]) rfl fun b => ?_
  and_intros
  refine kLc.pure (pairF fun x y => [x - a, y - c]) rfl (by rw [List.length_map]; omega) ?_ ?_
  · intro d hd
    obtain ⟨p, hp, rfl⟩ := List.mem_map.mp hd
    obtain ⟨x, y, rfl⟩ := hS p hp
    have i1 : dIdx (tI [a, c]) (.int 0) = some (.d (.int a)) := o_idx0
    have i2 : dIdx (tI [a, c]) (.int 1) = some (.d (.int c)) := o_idx1
    refine ⟨_, rfl, ?_⟩
    dsimp only [wipeA, List.set]
    and_intros
    refine ⟨fun _ => ?_, fun c => nomatch c⟩
    and_intros
    exact ⟨_, rfl, rfl, rfl, rfl⟩
  · rw [pair_fm (f := subP [a, c]) (g := fun x y => [x - a, y - c]) hS hg]
    and_intros
    rfl
theorem law_begun_flp {N : Nat} {L : List (List Int)} (h : Fb N L) (s e : Int) : Gv f_law_begun [.d (.list ((L.map (flp s e)).map tI))] (· = .d (fgD (begF (L.map (flp s e))))) :=
  law_begun_gv (p2_map (fun p => ⟨_, _, rfl⟩) _) (fun q => h.ne (List.map_eq_nil_iff.mp q)) (by rw [List.length_map]; exact h.len) (sortedTL_tI _ fun x hx => by obtain ⟨p, _, rfl⟩ := List.mem_map.mp hx; simp [flp])
theorem flp_one {L : List (List Int)} (h : ∀ p ∈ L, P2 p) : L.map (flp 1 1) = L := by
  refine (List.map_congr_left fun p hp => ?_).trans (List.map_id L)
  obtain ⟨x, y, rfl⟩ := h p hp
  show [1 * x, 1 * y] = [x, y]
  rw [Int.one_mul, Int.one_mul]
/-- the forms in the law's order -/
def formsL (t f : Bool) (L : List (List Int)) : List (List (List Int)) := (([begF L] ++ if f then [begF (L.map (flp 1 (-1)))] else []) ++ if t then [begF (L.map (flp (-1) 1))] else []) ++ if t && f then [begF (L.map (flp (-1) (-1)))] else []
theorem mem_formsL {t f : Bool} {L X : List (List Int)} (h : ∀ p ∈ L, P2 p) : X ∈ formsL t f L ↔ X ∈ forms t f L := by
  have e := flp_one h
  have e0 : begF L = begF (L.map (flp 1 1)) := by rw [e]
  unfold formsL
  rw [e0]
  generalize hA : begF (L.map (flp 1 1)) = A
  generalize hB : begF (L.map (flp 1 (-1))) = B
  generalize hC : begF (L.map (flp (-1) 1)) = C
  generalize hD : begF (L.map (flp (-1) (-1))) = E
  cases t <;> cases f <;> simp [forms, tl, hA, hB, hC, hD] <;> constructor <;> (rintro (h | h | h | h) <;> simp [h])
theorem NF.of_law {t f : Bool} {L M : List (List Int)} (h : ∀ p ∈ L, P2 p) (h1 : M ∈ formsL t f L) (h2 : ∀ X ∈ formsL t f L, ltF X M = false) : NF t f L M := ⟨(mem_formsL h).mp h1, fun X hX => h2 X ((mem_formsL h).mpr hX)⟩
theorem negL {L : List (List Int)} (h : ∀ p ∈ L, P2 p) : (L.map tI).filterMap (pairF fun x y => [x, -y]) = (L.map (flp 1 (-1))).map tI := pair_fm h fun x y => by
  show [x, -y] = [1 * x, -1 * y]
  rw [Int.one_mul, Int.neg_mul, Int.one_mul]
theorem negB {L : List (List Int)} (h : ∀ p ∈ L, P2 p) : (L.map tI).filterMap (pairF fun x y => [-x, y]) = (L.map (flp (-1) 1)).map tI := pair_fm h fun x y => by
  show [-x, y] = [-1 * x, 1 * y]
  rw [Int.one_mul, Int.neg_mul, Int.one_mul]
theorem negN {L : List (List Int)} (h : ∀ p ∈ L, P2 p) : (L.map tI).filterMap (pairF fun x y => [-x, -y]) = (L.map (flp (-1) (-1))).map tI := pair_fm h fun x y => by
  show [-x, -y] = [-1 * x, -1 * y]
  rw [Int.neg_mul, Int.one_mul, Int.neg_mul, Int.one_mul]
theorem law_normal_gv {N : Nat} (k : Kind) {L : List (List Int)} (h : Fb N L) (hN : N ≤ 10 ^ 9) : Gv f_law_normal [.d (fgD L), .d (.str k.w)] fun r => ∃ M, NF k.t k.f L M ∧ r = .d (fgD (fin k.s M)) := by
  have hp2 := h.p2
  have b0 := law_begun_gv (seq := fgD L) h.p2 h.ne h.len (sortedT_tI L fun x hx => (h.p2 x hx).ne)
  have b1 := law_begun_flp h 1 (-1)
  have b2 := law_begun_flp h (-1) 1
  have b3 := law_begun_flp h (-1) (-1)
  have hne : ∀ X ∈ formsL k.t k.f L, X ≠ [] := fun X hX => by
    obtain ⟨s, _, e, _, rfl⟩ := mem_forms.mp ((mem_formsL hp2).mp hX)
    exact begF_ne fun q => h.ne (List.map_eq_nil_iff.mp q)
  obtain ⟨M, eM, hM1, hM2⟩ := min_figs hne (by unfold formsL; simp)
  have hNF : NF k.t k.f L M := NF.of_law hp2 hM1 hM2
  have hA := hNF.ab h
  have hgl := hA.gle
  have hgp := hA.pos
  have e9 : (10 : Nat) ^ 9 = 1000000000 := by decide
  rw [e9] at hN
  have n1 := negL hp2
  have n2 := negB hp2
  have n3 := negN hp2
  have i1 := in_flip k
  have i2 := in_turn k
  have i3 := in_both k
  have i4 := nin_str k
  unfold formsL at eM
  generalize begF L = A0 at b0 eM
  generalize begF (L.map (flp 1 (-1))) = A1 at b1 eM
  generalize begF (L.map (flp (-1) 1)) = A2 at b2 eM
  generalize begF (L.map (flp (-1) (-1))) = A3 at b3 eM
  have fin' : ∃ M', NF k.t k.f L M' ∧ R.d (fgD (fin k.s M)) = .d (fgD (fin k.s M')) := ⟨M, hNF, rfl⟩
  clear hne hM1 hM2
  generalize k.w = kw at i1 i2 i3 i4
  generalize hkt : k.t = kt at *
  generalize hkf : k.f = kf at *
  generalize hks : k.s = ks at *
  unfold f_law_normal m_law_normal
  refine Gv.run (a0 := [some (.d (fgD L)), some (.d (.str kw)), none, none, none, none, none, none, none]) rfl fun b => ?_
  refine k_mid (fun s => ∃ b, s = ⟨[some (.d (fgD L)), some (.d (.str kw)), some (.o (.lst ([A0].map fgD))), none, none, none, none, none, none], b⟩) ?_ ?_
  · and_intros
    refine kCall.mk rfl rfl b0 ?_
    rintro _ b4 rfl
    and_intros
    exact ⟨rfl, _, rfl⟩
  rintro s ⟨b4, rfl⟩
  refine k_mid (fun s => ∃ b, s = ⟨[some (.d (fgD L)), some (.d (.str kw)), some (.o (.lst (([A0] ++ if kf then [A1] else []).map fgD))), none, none, none, none, none, none], b⟩) ?_ ?_
  · cases kf
    · and_intros
      exact ⟨rfl, _, rfl⟩
    · and_intros
      refine kLc.pure (pairF fun x y => [x, -y]) rfl (by rw [List.length_map]; have := h.len; omega) ?_ ?_
      · intro d hd
        obtain ⟨p, hp, rfl⟩ := List.mem_map.mp hd
        obtain ⟨x, y, rfl⟩ := hp2 p hp
        refine ⟨_, rfl, ?_⟩
        and_intros
        refine ⟨fun _ => ?_, fun c => nomatch c⟩
        and_intros
        exact ⟨_, rfl, rfl, rfl, rfl⟩
      · rw [n1]
        and_intros
        refine kCall.mk rfl rfl b1 ?_
        rintro _ b5 rfl
        and_intros
        refine kMeth.mk rfl rfl (fAppend_lt (by simp)) ?_
        and_intros
        exact ⟨rfl, _, rfl⟩
  rintro s ⟨b5, rfl⟩
  have l1 : (([A0] ++ if kf then [A1] else []).map fgD).length ≤ 2 := by cases kf <;> simp
  generalize ([A0] ++ if kf then [A1] else []) = F1 at eM l1
  refine k_mid (fun s => ∃ b, s = ⟨[some (.d (fgD L)), some (.d (.str kw)), some (.o (.lst ((F1 ++ if kt then [A2] else []).map fgD))), none, none, none, none, none, none], b⟩) ?_ ?_
  · cases kt
    · and_intros
      exact ⟨rfl, b5, by simp⟩
    · and_intros
      refine kLc.pure (pairF fun x y => [-x, y]) rfl (by rw [List.length_map]; have := h.len; omega) ?_ ?_
      · intro d hd
        obtain ⟨p, hp, rfl⟩ := List.mem_map.mp hd
        obtain ⟨x, y, rfl⟩ := hp2 p hp
        refine ⟨_, rfl, ?_⟩
        and_intros
        refine ⟨fun _ => ?_, fun c => nomatch c⟩
        and_intros
        exact ⟨_, rfl, rfl, rfl, rfl⟩
      · rw [n2]
        and_intros
        refine kCall.mk rfl rfl b2 ?_
        rintro _ b5 rfl
        and_intros
        refine kMeth.mk rfl rfl (fAppend_lt (by omega)) ?_
        and_intros
        exact ⟨rfl, _, by rw [List.map_append]; rfl⟩
  rintro s ⟨b6, rfl⟩
  have l2 : ((F1 ++ if kt then [A2] else []).map fgD).length ≤ 3 := by
    rw [List.map_append, List.length_append]
    cases kt
    · exact Nat.le_succ_of_le l1
    · exact Nat.succ_le_succ l1
  generalize (F1 ++ if kt then [A2] else []) = F2 at eM l2
  generalize (kt && kf) = kb at i3 eM
  refine k_mid (fun s => ∃ b, s = ⟨[some (.d (fgD L)), some (.d (.str kw)), some (.o (.lst ((F2 ++ if kb then [A3] else []).map fgD))), none, none, none, none, none, none], b⟩) ?_ ?_
  · cases kb
    · and_intros
      exact ⟨rfl, b6, by simp⟩
    · and_intros
      refine kLc.pure (pairF fun x y => [-x, -y]) rfl (by rw [List.length_map]; have := h.len; omega) ?_ ?_
      · intro d hd
        obtain ⟨p, hp, rfl⟩ := List.mem_map.mp hd
        obtain ⟨x, y, rfl⟩ := hp2 p hp
        refine ⟨_, rfl, ?_⟩
        and_intros
        refine ⟨fun _ => ?_, fun c => nomatch c⟩
        and_intros
        exact ⟨_, rfl, rfl, rfl, rfl⟩
      · rw [n3]
        and_intros
        refine kCall.mk rfl rfl b3 ?_
        rintro _ b5 rfl
        and_intros
        refine kMeth.mk rfl rfl (fAppend_lt (by omega)) ?_
        and_intros
        exact ⟨rfl, _, by rw [List.map_append]; rfl⟩
  rintro s ⟨b7, rfl⟩
  generalize (F2 ++ if kb then [A3] else []) = F3 at eM
  generalize F3.map fgD = W at eM
  refine k_mid (fun s => ∃ x2, s = ⟨[some (.d (fgD L)), some (.d (.str kw)), x2, some (.d (fgD M)), some (.d (.int 0)), none, none, none, none], b7⟩) ?_ ?_
  · and_intros
    exact ⟨rfl, _, rfl⟩
  rintro s ⟨x2, rfl⟩
  refine k_mid (fun s => ∃ (x2 : Option R) (x5 x6 : Option D) (x7 x8 : Option R), s = ⟨[some (.d (fgD L)), some (.d (.str kw)), x2, some (.d (fgD M)), some (.d (.int (gcdL 0 M))), x5.map .d, x6.map .d, x7, x8], b7⟩) ?_ ?_
  · and_intros
    refine k_loop (I := fun r s => ∃ (rest : List (List Int)) (g : Int) (x5 x6 : Option D) (x7 x8 : Option R), r = rest.map tI ∧ (∀ p ∈ rest, ∃ x y, p = [x, y] ∧ 0 ≤ x ∧ x ≤ 4 * N) ∧ 0 ≤ g ∧ g ≤ 4 * N ∧ gcdL g rest = gcdL 0 M ∧ s = ⟨[some (.d (fgD L)), some (.d (.str kw)), x2, some (.d (fgD M)), some (.d (.int g)), x5.map .d, x6.map .d, x7, x8], b7⟩) ?_ ?_ _ _ ⟨M, 0, none, none, none, none, rfl, fun p hp => ?_, Int.le_refl _, by omega, rfl, rfl⟩
    · rintro d r s ⟨rest, g, y5, y6, y7, y8, er, hp, g0, g1, hg, rfl⟩
      cases rest with
      | nil => cases er
      | cons p rest =>
        cases er
        obtain ⟨x, y, rfl, x0, x1⟩ := hp p List.mem_cons_self
        refine ⟨_, rfl, ?_⟩
        dsimp only [List.set, put1]
        and_intros
        refine Ok.mono (Q := fun f s => f = .nx ∧ ∃ y8, s = ⟨[some (.d (fgD L)), some (.d (.str kw)), x2, some (.d (fgD M)), some (.d (.int g)), some (.d (.int x)), some (.d (.int y)), some (.d (.int ((Nat.gcd g.natAbs x.natAbs : Nat) : Int))), y8], b7⟩) ?_ ?_
        · clear hg
          refine k_while (I := fun n s => ∃ p q : Int, 0 ≤ p ∧ 0 ≤ q ∧ q ≤ 4 * N ∧ q.toNat = n ∧ Nat.gcd p.natAbs q.natAbs = Nat.gcd g.natAbs x.natAbs ∧ s = ⟨[some (.d (fgD L)), some (.d (.str kw)), x2, some (.d (fgD M)), some (.d (.int g)), some (.d (.int x)), some (.d (.int y)), some (.d (.int p)), some (.d (.int q))], b7⟩) g.toNat ⟨x, g, x0, g0, g1, rfl, Nat.gcd_comm .., rfl⟩ ?_
          rintro n s ⟨p, q, p0, q0, q4, hq, hg, rfl⟩
          and_intros
          refine ⟨fun c4 => ?_, fun c4 => ?_⟩
          · have hq1 : 0 < q := by simp at c4; omega
            and_intros
            have hm0 := Int.emod_nonneg p (show q ≠ 0 by omega)
            have hm1 := Int.emod_lt_of_pos p hq1
            refine ⟨(p % q).toNat, by omega, q, p % q, q0, hm0, by omega, rfl, ?_, rfl⟩
            rw [← hg, Nat.gcd_comm p.natAbs q.natAbs]
            have e1 : (p % q).natAbs = p.natAbs % q.natAbs := by
              have h1 : p = (p.natAbs : Int) := by omega
              have h2 : q = (q.natAbs : Int) := by omega
              rw [h1, h2]
              simp
              rw [← Int.natCast_emod, Int.natAbs_natCast]
            rw [e1, Nat.gcd_comm q.natAbs (p.natAbs % q.natAbs)]
            exact (Nat.gcd_rec q.natAbs p.natAbs).symm
          · have hq0 : q = 0 := by simpa using c4
            subst hq0
            have hp' : p = ((Nat.gcd g.natAbs x.natAbs : Nat) : Int) := by
              have : p.natAbs = Nat.gcd g.natAbs x.natAbs := by rw [← hg]; simp
              omega
            rw [hp']
            exact ⟨rfl, _, rfl⟩
        rintro _ s ⟨rfl, y8, rfl⟩
        and_intros
        refine ⟨rest, _, some _, some _, _, _, rfl, fun q hq => hp q (List.mem_cons_of_mem _ hq), Int.natCast_nonneg _, ?_, hg, rfl⟩
        have := gcd_le (a := g.natAbs) (c := x.natAbs) (B := 4 * N) (by omega) (by omega)
        show ((Nat.gcd g.natAbs x.natAbs : Nat) : Int) ≤ _
        omega
    · rintro s ⟨rest, g, y5, y6, y7, y8, er, hp, g0, g1, hg, rfl⟩
      have : rest = [] := List.map_eq_nil_iff.mp er.symm
      subst this
      have hg : g = gcdL 0 M := hg
      rw [← hg]
      exact ⟨rfl, _, y5, y6, _, _, rfl⟩
    · obtain ⟨x, y, rfl, x0, x1, _⟩ := hA.pt p hp
      exact ⟨x, y, rfl, x0, by omega⟩
  rintro s ⟨x2, x5, x6, x7, x8, rfl⟩
  generalize hg : gcdL 0 M = g at hgl hgp
  have he : ∀ x y, [x / g, y] = (fun p => [px p / gcdL 0 M, py p]) [x, y] := fun x y => by rw [hg]; rfl
  cases ks
  · rw [Bool.not_false] at i4
    and_intros
    exact fin'
  · rw [Bool.not_true] at i4
    and_intros
    refine kLc.pure (pairF fun x y => [x / g, y]) (by cases x5 <;> cases x6 <;> rfl) (by rw [List.length_map]; have := hA.len; omega) ?_ ?_
    · intro d hd
      obtain ⟨p, hp, rfl⟩ := List.mem_map.mp hd
      obtain ⟨x, y, rfl⟩ := hA.p2 p hp
      refine ⟨_, rfl, ?_⟩
      and_intros
      refine ⟨fun _ => ?_, fun c => nomatch c⟩
      and_intros
      exact ⟨_, rfl, rfl, rfl, rfl⟩
    · rw [pair_fm (f := fun p => [px p / gcdL 0 M, py p]) hA.p2 he]
      and_intros
      exact fin'
/-! ## what is told -/
def toldD (X : List (List Int)) : D := .list [.str "told", fgD X]
theorem law_told_gv {fd X : List (List Int)} (k : Kind) (c : Bool) (h : Gv f_normal [.d (fgD fd), .d (.str k.w)] (· = .d (fgD X))) : Gv f_law_told [.d (fgD fd), .d (.str k.w), .d (.bool c)] (· = .o (.lst [.str "told", fgD X])) := by
  generalize PyData.str k.w = kw at h ⊢
  generalize fgD fd = f at h ⊢
  unfold f_law_told m_law_told
  refine Gv.run (a0 := [some (.d f), some (.d kw), some (.d (.bool c)), none]) rfl fun b => ?_
  and_intros
  refine k_tryN ?_
  and_intros
  cases c
  · and_intros
    refine kCall.mk rfl rfl h ?_
    rintro _ b1 rfl
    and_intros
    rfl
  · and_intros
    refine kCallK.mk rfl rfl rfl rfl rfl h ?_
    rintro _ b1 rfl
    and_intros
    rfl
theorem normal_gx (x d : D) (h : dNinX ["shift", "flip", "back", "both", "slow", "all"] d = some (.d (.bool true))) : Gx g_normal [.d x, .d d] (· = ⟨"NoKind", "given", d⟩) := by
  unfold g_normal x_normal
  refine Gx.run (a0 := [some (.d x), some (.d d), none, none, none, none, none, none]) rfl fun b => ?_
  refine x_seq1 (x_call (Px := (· = ⟨"NoKind", "given", d⟩)) ?_)
  and_intros
  exact ⟨_, _, _, rfl, rfl, check_kind_gx d h, fun x b e => e⟩
theorem law_told_gx (x d : D) (c : Bool) (h : dNinX ["shift", "flip", "back", "both", "slow", "all"] d = some (.d (.bool true))) : Gv f_law_told [.d x, .d d, .d (.bool c)] (· = .o (.lst [.str "NoKind", d, .bool true])) := by
  have g := normal_gx x d h
  unfold f_law_told m_law_told
  refine Gv.run (a0 := [some (.d x), some (.d d), some (.d (.bool c)), none]) rfl fun b => ?_
  refine k_seq (k_tryX dt_law_told0 (x_seq1 (x_cons2 ?_)))
  and_intros
  refine x_cons1 (x_ite ?_)
  and_intros
  refine ⟨fun hc => x_callK0 (Px := (· = ⟨"NoKind", "given", d⟩)) ?_, fun hc => x_call (Px := (· = ⟨"NoKind", "given", d⟩)) ?_⟩
  · and_intros
    refine ⟨_, _, _, _, rfl, rfl, rfl, rfl, g, ?_⟩
    rintro _ b1 rfl
    refine ⟨rfl, rfl, ?_⟩
    and_intros
    refine k_fld rfl ?_
    and_intros
    refine ⟨rfl, ?_⟩
    and_intros
    rfl
  · and_intros
    refine ⟨_, _, _, rfl, rfl, g, ?_⟩
    rintro _ b1 rfl
    refine ⟨rfl, rfl, ?_⟩
    and_intros
    refine k_fld rfl ?_
    and_intros
    refine ⟨rfl, ?_⟩
    and_intros
    rfl
/-! ## a figure turned -/
structure Turned (k : Kind) (F G : List (List Int)) : Prop where
  ex : G = F ∨ ∃ c side left e high : Int, 0 < c ∧ (k.s = false → c = 1) ∧ side ∈ tl k.t ∧ e ∈ tl k.f ∧ G.Perm (F.map (mvP (side * c) left e high))
theorem Turned.nf {k : Kind} {F G M : List (List Int)} {N : Nat} (h : Turned k F G) (hF : Fb N F) (hM : NF k.t k.f F M) : ∃ M', NF k.t k.f G M' ∧ fin k.s M' = fin k.s M := by
  rcases h.ex with rfl | ⟨c, side, left, e, high, hc, hs, h1, h2, hp⟩
  · exact ⟨M, hM, rfl⟩
  · refine ⟨_, hM.mv hc hF.ne h1 h2 hp, ?_⟩
    unfold fin
    cases hks : k.s with
    | false =>
      rw [hs hks]
      exact scl_one hM.p2
    | true => exact shorten_scl hc M
def oneF : D → Option D
  | .tuple [.int x, .int y] => if 9999 < (if x < 0 then -x else x) ∨ 9999 < (if y < 0 then -y else y) then some (.int 1) else none
  | _ => none
theorem one_fm {L : List (List Int)} (h : ∀ p ∈ L, P2 p) : ∀ d ∈ (L.map tI).filterMap oneF, Pln 1 d := fun d hd => by
  obtain ⟨x, hx, e⟩ := List.mem_filterMap.mp hd
  obtain ⟨p, hp, rfl⟩ := List.mem_map.mp hx
  obtain ⟨x, y, rfl⟩ := h p hp
  have e : (if 9999 < (if x < 0 then -x else x) ∨ 9999 < (if y < 0 then -y else y) then some (PyData.int 1) else none) = some d := e
  by_cases c : 9999 < (if x < 0 then -x else x) ∨ 9999 < (if y < 0 then -y else y)
  · rw [if_pos c] at e
    cases e
    exact pln_int 1 1
  · rw [if_neg c] at e
    cases e
theorem law_turned_gv {N : Nat} (k : Kind) {F : List (List Int)} (h : Fb N F) (hN : N ≤ 10 ^ 6) : Gv f_law_turned [.bx, .d (fgD F), .d (.str k.w)] fun r => ∃ G, r = .d (fgD G) ∧ Fb (2 * N + 10) G ∧ Turned k F G := by
  have e6 : (10 : Nat) ^ 6 = 1000000 := by decide
  rw [e6] at hN
  have i1 := in_turn k
  have i2 := in_flip k
  have i3 := in_str k
  have hp2 := h.p2
  have hl := h.len
  have old : ∃ G, R.d (fgD F) = .d (fgD G) ∧ Fb (2 * N + 10) G ∧ Turned k F G := ⟨F, rfl, ⟨fun p hp => by
    obtain ⟨x, y, e, h1, h2⟩ := h.pt p hp
    exact ⟨x, y, e, by omega, by omega⟩, h.len, h.two⟩, ⟨.inl rfl⟩⟩
  have new : ∀ c side left e high : Int, (c = 1 ∨ c = 2) → (k.s = false → c = 1) → side ∈ tl k.t → e ∈ tl k.f → left.natAbs ≤ 9 → high.natAbs ≤ 9 → ∃ G, R.d (.tuple ((sortI (F.map (mvP (side * c) left e high))).map tI)) = .d (fgD G) ∧ Fb (2 * N + 10) G ∧ Turned k F G := fun c side left e high hc hcs hs he hl1 hh1 => by
    have hs1 := tl_sg hs
    have he1 := tl_sg he
    have hp := sortI_perm (F.map (mvP (side * c) left e high))
    refine ⟨_, rfl, ⟨fun p hp' => ?_, by rw [hp.length_eq, List.length_map]; exact h.len, ?_⟩, ⟨.inr ⟨c, side, left, e, high, by omega, hcs, hs, he, hp⟩⟩⟩
    · obtain ⟨q, hq, rfl⟩ := List.mem_map.mp (hp.mem_iff.mp hp')
      obtain ⟨x, y, rfl, h1, h2⟩ := h.pt q hq
      refine ⟨_, _, rfl, ?_, ?_⟩
      · show (side * c * x + left).natAbs ≤ _
        rcases hs1 with rfl | rfl <;> rcases hc with rfl | rfl <;> omega
      · show (e * y + high).natAbs ≤ _
        rcases he1 with rfl | rfl <;> omega
    · obtain ⟨p, hp1, q, hq1, hne⟩ := h.two
      refine ⟨_, hp.mem_iff.mpr (List.mem_map.mpr ⟨p, hp1, rfl⟩), _, hp.mem_iff.mpr (List.mem_map.mpr ⟨q, hq1, rfl⟩), ?_⟩
      show side * c * px p + left ≠ side * c * px q + left
      rcases hs1 with rfl | rfl <;> rcases hc with rfl | rfl <;> omega
  generalize k.w = kw at i1 i2 i3
  generalize hkt : k.t = kt at i1 new
  generalize hkf : k.f = kf at i2 new
  generalize hks : k.s = ks at i3 new
  unfold f_law_turned m_law_turned
  refine Gv.run (a0 := [some .bx, some (.d (fgD F)), some (.d (.str kw)), none, none, none, none, none, none, none, none]) rfl fun b => ?_
  refine k_mid (fun s => ∃ (left high : Int) (b : Bx), left.natAbs ≤ 9 ∧ high.natAbs ≤ 9 ∧ s = ⟨[some .bx, some (.d (fgD F)), some (.d (.str kw)), some (.d (.int left)), some (.d (.int high)), none, none, none, none, none, none], b⟩) ?_ ?_
  · and_intros
    refine kCall.mk rfl rfl (draw_gv 19 (by decide) (by decide)) ?_
    rintro _ b1 ⟨u, rfl, u0, u1⟩
    and_intros
    refine kCall.mk rfl rfl (draw_gv 19 (by decide) (by decide)) ?_
    rintro _ b2 ⟨v, rfl, v0, v1⟩
    and_intros
    exact ⟨rfl, _, _, _, by omega, by omega, rfl⟩
  rintro s ⟨left, high, b1, hleft, hhigh, rfl⟩
  refine k_mid (fun s => ∃ (side : Int) (b : Bx), side ∈ tl kt ∧ s = ⟨[some .bx, some (.d (fgD F)), some (.d (.str kw)), some (.d (.int left)), some (.d (.int high)), some (.d (.int side)), none, none, none, none, none], b⟩) ?_ ?_
  · have one : (1 : Int) ∈ tl kt := by cases kt <;> simp [tl]
    and_intros
    refine kAnd.of (fun c => ?_) (fun c => ?_)
    · and_intros
      refine kCall.mk rfl rfl (draw_gv 2 (by decide) (by decide)) ?_
      rintro _ b2 ⟨u, rfl, u0, u1⟩
      and_intros
      refine kCond.of (fun c2 => ?_) (fun c2 => ?_)
      · and_intros
        exact ⟨rfl, _, _, by rw [c]; simp [tl], rfl⟩
      · and_intros
        exact ⟨rfl, _, _, one, rfl⟩
    · and_intros
      exact ⟨rfl, _, _, one, rfl⟩
  rintro s ⟨side, b2, hside, rfl⟩
  refine k_mid (fun s => ∃ (e : Int) (b : Bx), e ∈ tl kf ∧ s = ⟨[some .bx, some (.d (fgD F)), some (.d (.str kw)), some (.d (.int left)), some (.d (.int high)), some (.d (.int side)), some (.d (.int e)), none, none, none, none], b⟩) ?_ ?_
  · have one : (1 : Int) ∈ tl kf := by cases kf <;> simp [tl]
    and_intros
    refine kAnd.of (fun c => ?_) (fun c => ?_)
    · and_intros
      refine kCall.mk rfl rfl (draw_gv 2 (by decide) (by decide)) ?_
      rintro _ b2 ⟨u, rfl, u0, u1⟩
      and_intros
      refine kCond.of (fun c2 => ?_) (fun c2 => ?_)
      · and_intros
        exact ⟨rfl, _, _, by rw [c]; simp [tl], rfl⟩
      · and_intros
        exact ⟨rfl, _, _, one, rfl⟩
    · and_intros
      exact ⟨rfl, _, _, one, rfl⟩
  rintro s ⟨e, b3, he, rfl⟩
  have hs1 := tl_sg hside
  have he1 := tl_sg he
  refine k_mid (fun s => ∃ (c : Int) (b : Bx), (c = 1 ∨ c = 2) ∧ (ks = false → c = 1) ∧ s = ⟨[some .bx, some (.d (fgD F)), some (.d (.str kw)), some (.d (.int left)), some (.d (.int high)), some (.d (.int side)), some (.d (.int e)), some (.d (.int (side * c))), none, none, none], b⟩) ?_ ?_
  · have m1 := o_mulX (i := side) (j := 1) (by rcases hs1 with rfl | rfl <;> decide +kernel) (by decide +kernel)
    have m2 := o_mulX (i := side) (j := 2) (by rcases hs1 with rfl | rfl <;> decide +kernel) (by decide +kernel)
    and_intros
    refine kAnd.of (fun c => ?_) (fun c => ?_)
    · and_intros
      refine kCall.mk rfl rfl (draw_gv 2 (by decide) (by decide)) ?_
      rintro _ b2 ⟨u, rfl, u0, u1⟩
      and_intros
      refine kCond.of (fun c2 => ?_) (fun c2 => ?_)
      · and_intros
        exact ⟨rfl, 2, _, .inr rfl, fun q => by (rw [q] at c; cases c), rfl⟩
      · and_intros
        exact ⟨rfl, 1, _, .inl rfl, fun _ => rfl, rfl⟩
    · and_intros
      exact ⟨rfl, 1, _, .inl rfl, fun _ => rfl, rfl⟩
  rintro s ⟨c, b4, hc, hcs, rfl⟩
  have hnew := new c side left e high hc hcs hside he hleft hhigh
  have hby : (side * c).natAbs ≤ 2 := by rcases hs1 with rfl | rfl <;> rcases hc with rfl | rfl <;> decide
  generalize side * c = by' at hnew hby
  have hQ2 : ∀ p ∈ sortI (F.map (mvP by' left e high)), P2 p := fun p hp => p2_map (f := mvP by' left e high) (fun p => ⟨_, _, rfl⟩) F p ((sortI_perm _).mem_iff.mp hp)
  have hQl : (sortI (F.map (mvP by' left e high))).length ≤ 1000 := by rw [(sortI_perm _).length_eq, List.length_map]; exact hl
  have hsrt := sorted_tI (F.map (mvP by' left e high)) fun x hx => by obtain ⟨p, _, rfl⟩ := List.mem_map.mp hx; simp [mvP]
  generalize sortI (F.map (mvP by' left e high)) = S at hnew hQ2 hQl hsrt
  and_intros
  refine kLc.pure (pairF fun x y => [by' * x + left, e * y + high]) rfl (by rw [List.length_map]; omega) ?_ ?_
  · intro d hd
    obtain ⟨p, hp, rfl⟩ := List.mem_map.mp hd
    obtain ⟨x, y, rfl, hx, hy⟩ := h.pt p hp
    have m1 := o_mulX (i := by') (j := x) (Nat.lt_of_le_of_lt hby (by decide +kernel)) (Nat.lt_of_le_of_lt (show x.natAbs ≤ 1000000 by omega) (by decide +kernel))
    have m2 := o_mulX (i := e) (j := y) (by rcases he1 with rfl | rfl <;> decide +kernel) (Nat.lt_of_le_of_lt (show y.natAbs ≤ 1000000 by omega) (by decide +kernel))
    refine ⟨_, rfl, ?_⟩
    and_intros
    refine ⟨fun _ => ?_, fun c => nomatch c⟩
    and_intros
    exact ⟨_, rfl, rfl, rfl, rfl⟩
  · rw [pair_fm (f := mvP by' left e high) (g := fun x y => [by' * x + left, e * y + high]) hp2 fun x y => rfl]
    and_intros
    refine kLc.pure oneF rfl (by rw [List.length_map]; omega) ?_ ?_
    · intro d hd
      obtain ⟨p, hp, rfl⟩ := List.mem_map.mp hd
      obtain ⟨x, y, rfl⟩ := hQ2 p hp
      refine ⟨_, rfl, ?_⟩
      dsimp only [wipeA, List.set]
      and_intros
      refine kOr.of (fun c1 => ?_) (fun c1 => ?_)
      · refine ⟨fun _ => ?_, fun c => nomatch c⟩
        and_intros
        exact ⟨_, rfl, rfl, rfl, if_pos (.inl (of_decide_eq_true c1))⟩
      · and_intros
        refine ⟨fun c2 => ?_, fun c2 => ⟨rfl, rfl, if_neg ?_⟩⟩
        · and_intros
          exact ⟨_, rfl, rfl, rfl, if_pos (.inr (of_decide_eq_true c2))⟩
        · have c1 := of_decide_eq_false c1
          have c2 := of_decide_eq_false c2
          rintro (q | q)
          · exact c1 q
          · exact c2 q
    · have hones := one_fm hQ2
      generalize (S.map tI).filterMap oneF = W at hones
      have ow := o_neP (x := .list W) (y := .list []) ((pln_lst hones).mono (by decide)) ((pln_lst (k := 1) pln_nil).mono (by decide))
      generalize (!PyData.eqv (.list W) (.list [])) = tv at ow
      and_intros
      refine kCond.of (fun c1 => ?_) (fun c1 => ?_)
      · and_intros
        exact old
      · and_intros
        exact hnew
/-! ## one figure, all kinds -/
theorem fin_ab {N : Nat} {s : Bool} {M : List (List Int)} (h : Ab N M) : (∀ p ∈ fin s M, ∃ x y, p = [x, y] ∧ x.natAbs ≤ N ∧ y.natAbs ≤ N) ∧ (fin s M).length ≤ 1000 ∧ ∃ r, fin s M = [0, 0] :: r := by
  cases s
  · exact ⟨fun p hp => by
      obtain ⟨x, y, e, _, h1, h2⟩ := h.pt p hp
      exact ⟨x, y, e, h1, h2⟩, h.len, h.hd⟩
  · refine ⟨fun p hp => ?_, by show (M.map _).length ≤ _; rw [List.length_map]; exact h.len, ?_⟩
    · obtain ⟨q, hq, rfl⟩ := List.mem_map.mp (show p ∈ M.map _ from hp)
      obtain ⟨x, y, rfl, h0, h1, h2⟩ := h.pt q hq
      refine ⟨_, _, rfl, ?_, h2⟩
      show (x / gcdL 0 M).natAbs ≤ N
      have a1 : x / gcdL 0 M ≤ x := Int.ediv_le_self _ h0
      have a2 : 0 ≤ x / gcdL 0 M := Int.ediv_nonneg h0 (Int.le_of_lt h.pos)
      omega
    · obtain ⟨r, hr⟩ := h.hd
      show ∃ r, shorten M = _
      unfold shorten
      generalize gcdL 0 M = g
      rw [hr]
      exact ⟨_, by show [0 / g, 0] :: _ = _; rw [Int.zero_ediv]⟩
theorem told_fit {X : List (List Int)} (h : ∀ p ∈ X, ∃ x y, p = [x, y] ∧ x.natAbs ≤ 10 ^ 10 ∧ y.natAbs ≤ 10 ^ 10) (hl : X.length ≤ 1000) : Fit 200000 3 (toldD X) := by
  have h1 : ∀ i : Int, i.natAbs ≤ 10 ^ 10 → Fit 22 0 (.int i) := fun i hi => (fit_int 11 (by decide) (by decide) (Nat.lt_of_le_of_lt hi (by decide))).mono (by decide) (by decide)
  have h2 : ∀ p ∈ X, Fit 51 1 (tI p) := fun p hp => by
    obtain ⟨x, y, rfl, hx, hy⟩ := h p hp
    exact fit_tup 2 (Nat.le_refl _) (fit_cons (h1 x hx) (fit_cons (h1 y hy) fit_nil))
  have h3 : Fit 60000 2 (fgD X) := (fit_tup (n := 51) (k := 1) (l := X.map tI) 1000 (by rw [List.length_map]; exact hl) fun d hd => by
    obtain ⟨p, hp, rfl⟩ := List.mem_map.mp hd
    exact h2 p hp).mono (by decide) (by decide)
  have h4 : Fit 60000 2 (.str "told") := (fit_str (x := "told") 4 (by unfold Cp; decide) (by decide)).mono (by decide) (by decide)
  exact (fit_lst 2 (Nat.le_refl _) (fit_cons h4 (fit_cons h3 fit_nil))).mono (by decide) (by decide)
/-! ## one figure, by all kinds -/
def six : List Kind := [.shift, .flip, .back, .both, .slow, .all]
theorem law_is_right_gv {N : Nat} {F : List (List Int)} (h : Fb N F) (hN : N ≤ 10 ^ 6) : Gv f_law_is_right [.bx, .d (fgD F)] (· = .d (.bool true)) := by
  have e6 : (10 : Nat) ^ 6 = 1000000 := by decide
  have e9 : (10 : Nat) ^ 9 = 1000000000 := by decide
  have e10 : (10 : Nat) ^ 10 = 10000000000 := by decide
  unfold f_law_is_right m_law_is_right
  refine Gv.run (a0 := [some .bx, some (.d (fgD F)), none, none]) rfl fun b => ?_
  and_intros
  refine k_loop (I := fun r s => ∃ (rest : List Kind) (x2 x3 : Option R) (b : Bx), r = rest.map (fun k => .str k.w) ∧ s = ⟨[some .bx, some (.d (fgD F)), x2, x3], b⟩) ?_ ?_ _ _ ⟨six, _, _, _, rfl, rfl⟩
  · rintro d r s ⟨rest, x2, x3, b, er, rfl⟩
    cases rest with
    | nil => cases er
    | cons k rest =>
      cases er
      refine ⟨_, rfl, ?_⟩
      dsimp only [List.set]
      and_intros
      refine kCall.mk rfl rfl (law_normal_gv k h (by omega)) ?_
      rintro _ b1 ⟨M, hM, rfl⟩
      have hn : Gv f_normal [.d (fgD F), .d (.str k.w)] (· = .d (fgD (fin k.s M))) := (normal_gv k h (by omega)).mono fun r ⟨M', hM', e⟩ => by rw [e, hM'.one hM]
      have hA := hM.ab h
      obtain ⟨f1, f2, z, f3⟩ := fin_ab (s := k.s) hA
      have ft := told_fit (X := fin k.s M) (fun p hp => by
        obtain ⟨x, y, e, h1, h2⟩ := f1 p hp
        exact ⟨x, y, e, by omega, by omega⟩) f2
      have r1 : fRepr [.list [.str "told", fgD (fin k.s M)]] = some (.d (.str (toldD (fin k.s M)).shown)) := ft.rp (by decide) (by decide)
      have r2 := o_neS ft.cps
      have i0 : dIdx (fgD (fin k.s M)) (.int 0) = some (.d (tI [0, 0])) := by rw [f3]; exact o_idx0
      have z0 : dNe (tI [0, 0]) (.tuple [.int 0, .int 0]) = some (.d (.bool false)) := o_neT [0, 0] [0, 0]
      have hg : ∀ G, Fb (2 * N + 10) G → Turned k F G → Gv f_normal [.d (fgD G), .d (.str k.w)] (· = .d (fgD (fin k.s M))) := fun G hG hT => by
        obtain ⟨M2, hM2, e2⟩ := hT.nf h hM
        exact (normal_gv k hG (by omega)).mono fun r ⟨M', hM', e⟩ => by rw [e, hM'.one hM2, e2]
      generalize (toldD (fin k.s M)).shown = tx at r1 r2
      have tg := fun G hG hT => law_told_gv (X := fin k.s M) k false (hg G hG hT)
      have t0 := fun c => law_told_gv (X := fin k.s M) k c hn
      generalize fin k.s M = X at r1 i0 tg t0
      and_intros
      refine kCall.mk rfl rfl (draw_gv 3 (by decide) (by decide)) ?_
      rintro _ b2 ⟨u, rfl, u0, u1⟩
      and_intros
      refine kCall.mk rfl rfl (t0 _) ?_
      rintro _ b3 rfl
      and_intros
      refine kCall.mk rfl rfl (law_turned_gv k h hN) ?_
      rintro _ b4 ⟨G, rfl, hG, hT⟩
      and_intros
      refine kCall.mk rfl rfl (tg G hG hT) ?_
      rintro _ b5 rfl
      and_intros
      exact ⟨rest, _, _, _, rfl, rfl⟩
  · rintro s ⟨rest, x2, x3, b, er, rfl⟩
    and_intros
    rfl
/-! ## figures that are drawn -/
structure DictP (l : List (List Key × D)) (m : Nat) : Prop where
  len : l.length ≤ m
  pos : 0 < m → l ≠ []
  ent : ∀ q ∈ l, ∃ x y : Int, x.natAbs ≤ 200 ∧ y.natAbs ≤ 200 ∧ q.1 = [.inl x, .inl y]
theorem dPut_some {l : List (List Key × D)} {k : List Key} {v : D} : dPut l k v ≠ [] := by
  unfold dPut
  split
  · rename_i h
    intro e
    have : l = [] := List.map_eq_nil_iff.mp e
    rw [this] at h
    cases h
  · simp
theorem dictP_put {l : List (List Key × D)} {m : Nat} {x y : Int} {v : D} (h : DictP l m) (hx : x.natAbs ≤ 200) (hy : y.natAbs ≤ 200) : DictP (dPut l [.inl x, .inl y] v) (m + 1) := by
  refine ⟨Nat.le_trans (dPut_len _ _ _) (Nat.succ_le_succ h.len), fun _ => dPut_some, fun q hq => ?_⟩
  rcases dPut_key q hq with ⟨e1, e2⟩ | hq
  · exact ⟨x, y, hx, hy, e1⟩
  · exact h.ent q hq
/-- points within bounds -/
structure Pb (n l : Nat) (L : List (List Int)) : Prop where
  pt : ∀ p ∈ L, ∃ x y, p = [x, y] ∧ x.natAbs ≤ n ∧ y.natAbs ≤ n
  len : L.length ≤ l
  ne : L ≠ []
theorem Pb.mono {n l n' l' : Nat} {L : List (List Int)} (h : Pb n l L) (h1 : n ≤ n') (h2 : l ≤ l') : Pb n' l' L := ⟨fun p hp => by
  obtain ⟨x, y, e, a, b⟩ := h.pt p hp
  exact ⟨x, y, e, by omega, by omega⟩, Nat.le_trans h.len h2, h.ne⟩
theorem Pb.p2 {n l : Nat} {L : List (List Int)} (h : Pb n l L) : ∀ p ∈ L, P2 p := fun p hp => by
  obtain ⟨x, y, e, _⟩ := h.pt p hp
  exact ⟨x, y, e⟩
theorem keys_pts : ∀ l : List (List Key × D), (∀ q ∈ l, ∃ x y : Int, x.natAbs ≤ 200 ∧ y.natAbs ≤ 200 ∧ q.1 = [.inl x, .inl y]) → ∃ L : List (List Int), keysD l = L.map tI ∧ L.length = l.length ∧ ∀ p ∈ L, ∃ x y, p = [x, y] ∧ x.natAbs ≤ 200 ∧ y.natAbs ≤ 200
  | [], _ => ⟨[], rfl, rfl, by simp⟩
  | q :: l, h => by
    obtain ⟨x, y, hx, hy, e⟩ := h q List.mem_cons_self
    obtain ⟨L, e1, e2, e3⟩ := keys_pts l fun r hr => h r (List.mem_cons_of_mem _ hr)
    refine ⟨[x, y] :: L, ?_, by rw [List.length_cons, List.length_cons, e2], fun p hp => ?_⟩
    · show PyData.tuple (q.1.map keyD) :: keysD l = _
      rw [e, e1]; rfl
    · rcases List.mem_cons.mp hp with rfl | hp
      · exact ⟨x, y, rfl, hx, hy⟩
      · exact e3 p hp
theorem putT {l : List (List Key × D)} {ks : List D} {q : List Key} {v : D} (h : l.length ≤ 10000) (hk : keysOf ks = some q) : putC (.dT l) (.tuple ks) v = some (.dT (dPut l q v)) := by
  unfold putC
  simp only [hk]
  exact if_pos (Nat.lt_of_le_of_lt h (Nat.lt_of_lt_of_le (by decide) big))
theorem fg_ends {n l : Nat} {L : List (List Int)} (h : Pb n l L) : ∃ a c a' c' r, L = [a, c] :: r ∧ [a', c'] ∈ L ∧ a.natAbs ≤ n ∧ c.natAbs ≤ n ∧ a'.natAbs ≤ n ∧ c'.natAbs ≤ n ∧ dIdx (fgD L) (.int 0) = some (.d (tI [a, c])) ∧ dIdx (fgD L) (.int (-1)) = some (.d (tI [a', c'])) := by
  obtain ⟨z, hz⟩ : ∃ z, L.getLast? = some z := ⟨_, List.getLast?_eq_some_getLast h.ne⟩
  have hzm := List.mem_of_getLast? hz
  obtain ⟨a', c', rfl, h1, h2⟩ := h.pt z hzm
  have hi : dIdx (fgD L) (.int (-1)) = some (.d (tI [a', c'])) := o_idxE (by rw [List.getLast?_map, hz]; rfl)
  cases L with
  | nil => exact absurd rfl h.ne
  | cons p r =>
    obtain ⟨a, c, rfl, h3, h4⟩ := h.pt p List.mem_cons_self
    exact ⟨a, c, a', c', r, rfl, hzm, h3, h4, h1, h2, o_idx0, hi⟩
theorem law_figure_gv (most step : Int) (h1 : 2 ≤ most) (h2 : most ≤ 12) (h3 : 1 ≤ step) (h4 : step ≤ 12) : Gv f_law_figure [.bx, .d (.int most), .d (.int step)] fun r => ∃ F, r = .d (fgD F) ∧ Pb 220 20 F := by
  unfold f_law_figure m_law_figure
  refine Gv.run (a0 := [some .bx, some (.d (.int most)), some (.d (.int step)), none, none, none, none]) rfl fun b => ?_
  and_intros
  refine kCall.mk rfl rfl (pick_gv _ (by simp) (by simp)) ?_
  rintro _ b1 ⟨d, rfl, hd⟩
  have hw : ∃ w : Int, d = .int w ∧ 3 ≤ w ∧ w ≤ 9 := by
    simp only [List.mem_cons, List.not_mem_nil, or_false] at hd
    rcases hd with rfl | rfl <;> exact ⟨_, rfl, by decide, by decide⟩
  obtain ⟨w, rfl, w1, w2⟩ := hw
  and_intros
  refine kCall.mk rfl rfl (draw_gv (most - 1) (by omega) (by omega)) ?_
  rintro _ b2 ⟨u, rfl, u0, u1⟩
  and_intros
  refine k_rng (I := fun k c s => ∃ (l : List (List Key × D)) (x5 : Option R) (t : Nat) (b : Bx), DictP l t ∧ t + c = (2 + u).toNat ∧ s = ⟨[some .bx, some (.d (.int most)), some (.d (.int step)), some (.o (.dT l)), some (.d (.int w)), x5, none], b⟩) ?_ ?_ _ _ _ ⟨[], _, 0, _, ⟨Nat.le_refl _, fun h => absurd h (by decide), by simp⟩, by omega, rfl⟩
  · rintro k c s ⟨l, x5, t, b, hd, ht, rfl⟩
    have hll : l.length ≤ 10000 := Nat.le_trans hd.len (by omega)
    refine ⟨_, rfl, ?_⟩
    dsimp only [List.set]
    and_intros
    refine kCall.mk rfl rfl (draw_gv 9 (by decide) (by decide)) ?_
    rintro _ b3 ⟨x, rfl, x0, x1⟩
    have mx := o_mulX (i := step) (j := x - 2) (Nat.lt_of_le_of_lt (show step.natAbs ≤ 12 by omega) (by decide +kernel)) (Nat.lt_of_le_of_lt (show (x - 2).natAbs ≤ 9 by omega) (by decide +kernel))
    and_intros
    refine kCall.mk rfl rfl (draw_gv w (by omega) (by omega)) ?_
    rintro _ b4 ⟨y, rfl, y0, y1⟩
    and_intros
    refine kPut.mk rfl rfl (putT hll rfl) ?_
    and_intros
    have hsx : (step * (x - 2)).natAbs ≤ 12 * 9 := by
      rw [Int.natAbs_mul]
      exact Nat.mul_le_mul (by omega) (by omega)
    exact ⟨_, _, t + 1, _, dictP_put hd (by omega) (by omega), by omega, rfl⟩
  · rintro k s ⟨l, x5, t, b, hd, ht, rfl⟩
    obtain ⟨L, e1, e2, e3⟩ := keys_pts l hd.ent
    have hs := sorted_tI L fun x hx => by obtain ⟨a, c, rfl, _⟩ := e3 x hx; simp
    rw [← e1] at hs
    have hL0 : sortI L ≠ [] := fun h => by
      have := (sortI_perm L).length_eq
      rw [h, e2] at this
      exact hd.pos (by omega) (List.length_eq_zero_iff.mp this.symm)
    have hlen : (sortI L).length ≤ 13 := by
      rw [(sortI_perm L).length_eq, e2]
      exact Nat.le_trans hd.len (by omega)
    have hS : Pb 200 13 (sortI L) := ⟨fun p hp => e3 p ((sortI_perm L).mem_iff.mp hp), hlen, hL0⟩
    generalize sortI L = S at hs hS
    obtain ⟨a, c, a', c', r, eS, hzm, ha, hc, ha', hc', i1, i3⟩ := fg_ends hS
    have i2 : dIdx (tI [a, c]) (.int 0) = some (.d (.int a)) := o_idx0
    have i4 : dIdx (tI [a', c']) (.int 0) = some (.d (.int a')) := o_idx0
    unfold fgD at i1 i3
    and_intros
    refine kCond.of (fun c => ?_) (fun c => ?_)
    · and_intros
      refine kCall.mk rfl rfl (draw_gv w (by omega) (by omega)) ?_
      rintro _ b4 ⟨y, rfl, y0, y1⟩
      and_intros
      rw [cut_head _ _ (by omega)]
      have ht : ((S.map tI).take (most - 1).toNat) = (S.take (most - 1).toNat).map tI := List.map_take.symm
      rw [ht]
      have htl : (S.take (most - 1).toNat).length ≤ 13 := Nat.le_trans (List.length_take_le' ..) hS.len
      refine kOp.mk rfl rfl (o_addT2 (by rw [List.length_map]; omega) (by simp)) ?_
      have hap : (S.take (most - 1).toNat).map tI ++ [PyData.tuple [.int (a + step), .int y]] = (S.take (most - 1).toNat ++ [[a + step, y]]).map tI := by
        rw [List.map_append]; rfl
      rw [hap]
      and_intros
      refine ⟨_, rfl, fun x hx => ?_, ?_, by simp⟩
      · rcases List.mem_append.mp hx with hx | hx
        · obtain ⟨x1, y1, e, h1, h2⟩ := hS.pt x (List.mem_of_mem_take hx)
          exact ⟨x1, y1, e, by omega, by omega⟩
        · simp at hx
          exact ⟨_, _, hx, by omega, by omega⟩
      · rw [List.length_append]
        simp only [List.length_cons, List.length_nil]
        omega
    · and_intros
      exact ⟨S, rfl, hS.mono (by decide) (by decide)⟩
theorem nin_list (p : List Int) (L : List (List Int)) : dNinS (tI p) (.list (L.map tI)) = some (.d (.bool (!anyEqv (tI p) (L.map tI)))) := by
  unfold dNinS
  rw [if_pos]
  exact (pln_tI p).eqk (pln_lst (k := 1) fun d hd => by
    obtain ⟨q, _, rfl⟩ := List.mem_map.mp hd
    exact pln_tI q) (by decide) (by decide)
def keepF (W : List D) (d : D) : Option D := if anyEqv d W then none else some d
theorem keep_fm (W : List D) : ∀ L : List (List Int), ∃ L' : List (List Int), (L.map tI).filterMap (keepF W) = L'.map tI ∧ (∀ p ∈ L', p ∈ L) ∧ L'.length ≤ L.length
  | [] => ⟨[], rfl, fun _ h => h, Nat.le_refl _⟩
  | p :: L => by
    obtain ⟨L', e, h1, h2⟩ := keep_fm W L
    by_cases c : anyEqv (tI p) W = true
    · refine ⟨L', ?_, fun q hq => List.mem_cons_of_mem _ (h1 q hq), Nat.le_succ_of_le h2⟩
      have k : keepF W (tI p) = none := if_pos c
      rw [List.map_cons, List.filterMap_cons_none k, e]
    · refine ⟨p :: L', ?_, fun q hq => ?_, Nat.succ_le_succ h2⟩
      · have k : keepF W (tI p) = some (tI p) := if_neg c
        rw [List.map_cons, List.filterMap_cons_some k, e, List.map_cons]
      · rcases List.mem_cons.mp hq with rfl | hq
        · exact List.mem_cons_self
        · exact List.mem_cons_of_mem _ (h1 q hq)
theorem Pb.srt {n l : Nat} {L : List (List Int)} (h : Pb n l L) : Pb n l (sortI L) := by
  have hp := sortI_perm L
  refine ⟨fun p hp' => h.pt p (hp.mem_iff.mp hp'), by rw [hp.length_eq]; exact h.len, fun e => ?_⟩
  rw [e] at hp
  exact h.ne hp.symm.eq_nil
theorem Pb.map {n l m : Nat} {L : List (List Int)} {g : Int → Int → List Int} {f : List Int → List Int} (h : Pb n l L) (hf : ∀ x y : Int, x.natAbs ≤ n → y.natAbs ≤ n → ∃ x' y', f [x, y] = [x', y'] ∧ x'.natAbs ≤ m ∧ y'.natAbs ≤ m) : Pb m l (L.map f) := by
  refine ⟨fun p hp => ?_, by rw [List.length_map]; exact h.len, fun e => h.ne (List.map_eq_nil_iff.mp e)⟩
  obtain ⟨q, hq, rfl⟩ := List.mem_map.mp hp
  obtain ⟨x, y, rfl, h1, h2⟩ := h.pt q hq
  exact hf x y h1 h2
theorem Pb.both {n m l : Nat} {L L' M : List (List Int)} (h : Pb n l L) (hM : Pb m l M) (hnm : n ≤ m) (h1 : ∀ p ∈ L', p ∈ L) (h2 : L'.length ≤ L.length) : Pb m (2 * l) (L' ++ M) := by
  refine ⟨fun p hp => ?_, ?_, by simp [hM.ne]⟩
  · rcases List.mem_append.mp hp with hp | hp
    · obtain ⟨x, y, e, a, b⟩ := h.pt p (h1 p hp)
      exact ⟨x, y, e, by omega, by omega⟩
    · exact hM.pt p hp
  · rw [List.length_append]
    have := h.len
    have := hM.len
    omega
abbrev drSt (F : List (List Int)) (w : Int) (x3 x4 x5 x6 : Option R) (b : Bx) : S := ⟨[some .bx, some (.d (fgD F)), some (.d (.int w)), x3, x4, x5, x6], b⟩
/-- a figure and what comes of it by a mirror, without what is there -/
theorem mir_ok {n l : Nat} {F : List (List Int)} {g : Int → Int → List Int} {f : List Int → List Int} (h : Pb n l F) (hg : ∀ x y, g x y = f [x, y]) : True := trivial
theorem law_drawn_gv : Gv f_law_drawn [.bx] fun r => ∃ F, r = .d (fgD F) ∧ Fb 200000 F := by
  unfold f_law_drawn m_law_drawn
  refine Gv.run (a0 := [some .bx, none, none, none, none, none, none]) rfl fun b => ?_
  refine k_mid (fun s => ∃ F w b, Pb 220 20 F ∧ s = drSt F w none none none none b) ?_ ?_
  · and_intros
    refine kCall.mk rfl rfl (pick_gv _ (by simp) (by simp)) ?_
    rintro _ b1 ⟨d, rfl, hd⟩
    have hw : ∃ w : Int, d = .int w ∧ 1 ≤ w ∧ w ≤ 12 := by
      simp only [List.mem_cons, List.not_mem_nil, or_false] at hd
      rcases hd with rfl | rfl | rfl | rfl | rfl <;> exact ⟨_, rfl, by decide, by decide⟩
    obtain ⟨w, rfl, w1, w2⟩ := hw
    and_intros
    refine kCall.mk rfl rfl (law_figure_gv 5 w (by decide) (by decide) w1 w2) ?_
    rintro _ b2 ⟨F, rfl, hF⟩
    and_intros
    refine kCall.mk rfl rfl (draw_gv 8 (by decide) (by decide)) ?_
    rintro _ b3 ⟨u, rfl, u0, u1⟩
    and_intros
    exact ⟨rfl, F, u, b3, hF, rfl⟩
  rintro s ⟨F, w, b1, hF, rfl⟩
  unfold drSt
  refine k_mid (fun s => ∃ F x3 b, Pb 230 40 F ∧ s = drSt F w x3 none none none b) ?_ ?_
  · and_intros
    refine kCond.of (fun c => ?_) (fun c => ?_)
    · have hM : Pb 230 20 (F.map fun p => [px p, 3 - py p]) := hF.map (g := fun _ _ => []) fun x y hx hy => ⟨x, 3 - y, rfl, by omega, by omega⟩
      have hfm := pair_fm (L := F) (f := fun p => [px p, 3 - py p]) (g := fun x y => [x, 3 - y]) hF.p2 fun _ _ => rfl
      generalize (F.map fun p => [px p, 3 - py p]) = M at hM hfm
      obtain ⟨L', e1, e2, e3⟩ := keep_fm (M.map tI) F
      have hB := hF.both hM (by decide) e2 e3
      have hs := sorted_tI (L' ++ M) fun x hx => (hB.p2 x hx).ne
      rw [List.map_append] at hs
      have hl := hF.len
      have hl2 := hM.len
      and_intros
      refine kLc.pure (pairF fun x y => [x, 3 - y]) rfl (by rw [List.length_map]; omega) ?_ ?_
      · intro d hd
        obtain ⟨p, hp, rfl⟩ := List.mem_map.mp hd
        obtain ⟨x, y, rfl⟩ := hF.p2 p hp
        refine ⟨_, rfl, ?_⟩
        and_intros
        refine ⟨fun _ => ?_, fun c => nomatch c⟩
        and_intros
        exact ⟨_, rfl, rfl, rfl, rfl⟩
      · rw [hfm]
        and_intros
        refine kLc.pure (keepF (M.map tI)) rfl (by rw [List.length_map]; omega) ?_ ?_
        · intro d hd
          obtain ⟨p, hp, rfl⟩ := List.mem_map.mp hd
          have hn := nin_list p M
          refine ⟨_, rfl, ?_⟩
          dsimp only [wipeA, List.set]
          and_intros
          refine ⟨fun c => ?_, fun c => ⟨rfl, rfl, ?_⟩⟩
          · and_intros
            exact ⟨_, rfl, rfl, rfl, if_neg (by simpa using c)⟩
          · exact if_pos (by simpa using c)
        · rw [e1]
          have ha : dAdd (.list (L'.map tI)) (.list (M.map tI)) = some (.o (.lst (L'.map tI ++ M.map tI))) := o_addL (by rw [List.length_map, List.length_map]; omega)
          and_intros
          exact ⟨rfl, _, _, _, hB.srt, rfl⟩
    · and_intros
      exact ⟨rfl, F, _, _, hF.mono (by decide) (by decide), rfl⟩
  rintro s ⟨F, x3, b1, hF, rfl⟩
  unfold drSt
  refine k_mid (fun s => ∃ F x3 b, Pb 240 80 F ∧ s = drSt F w x3 none none none b) ?_ ?_
  · and_intros
    refine kCond.of (fun c => ?_) (fun c => ?_)
    · have hM : Pb 240 40 (F.map fun p => [9 - px p, py p]) := hF.map (g := fun _ _ => []) fun x y hx hy => ⟨9 - x, y, rfl, by omega, by omega⟩
      have hfm := pair_fm (L := F) (f := fun p => [9 - px p, py p]) (g := fun x y => [9 - x, y]) hF.p2 fun _ _ => rfl
      generalize (F.map fun p => [9 - px p, py p]) = M at hM hfm
      obtain ⟨L', e1, e2, e3⟩ := keep_fm (M.map tI) F
      have hB := hF.both hM (by decide) e2 e3
      have hs := sorted_tI (L' ++ M) fun x hx => (hB.p2 x hx).ne
      rw [List.map_append] at hs
      have hl := hF.len
      have hl2 := hM.len
      and_intros
      refine kLc.pure (pairF fun x y => [9 - x, y]) rfl (by rw [List.length_map]; omega) ?_ ?_
      · intro d hd
        obtain ⟨p, hp, rfl⟩ := List.mem_map.mp hd
        obtain ⟨x, y, rfl⟩ := hF.p2 p hp
        refine ⟨_, rfl, ?_⟩
        and_intros
        refine ⟨fun _ => ?_, fun c => nomatch c⟩
        and_intros
        exact ⟨_, rfl, rfl, rfl, rfl⟩
      · rw [hfm]
        and_intros
        refine kLc.pure (keepF (M.map tI)) rfl (by rw [List.length_map]; omega) ?_ ?_
        · intro d hd
          obtain ⟨p, hp, rfl⟩ := List.mem_map.mp hd
          have hn := nin_list p M
          refine ⟨_, rfl, ?_⟩
          dsimp only [wipeA, List.set]
          and_intros
          refine ⟨fun c => ?_, fun c => ⟨rfl, rfl, ?_⟩⟩
          · and_intros
            exact ⟨_, rfl, rfl, rfl, if_neg (by simpa using c)⟩
          · exact if_pos (by simpa using c)
        · rw [e1]
          have ha : dAdd (.list (L'.map tI)) (.list (M.map tI)) = some (.o (.lst (L'.map tI ++ M.map tI))) := o_addL (by rw [List.length_map, List.length_map]; omega)
          and_intros
          exact ⟨rfl, _, _, _, hB.srt, rfl⟩
    · and_intros
      exact ⟨rfl, F, _, _, hF.mono (by decide) (by decide), rfl⟩
  rintro s ⟨F, x3, b1, hF, rfl⟩
  unfold drSt
  refine k_mid (fun s => ∃ F x3 b, Pb 170000 80 F ∧ s = drSt F w x3 none none none b) ?_ ?_
  · and_intros
    refine kCond.of (fun c => ?_) (fun c => ?_)
    · have hM : Pb 170000 80 (F.map fun p => [px p * 200, py p * 700]) := hF.map (g := fun _ _ => []) fun x y hx hy => ⟨x * 200, y * 700, rfl, by omega, by omega⟩
      have hfm := pair_fm (L := F) (f := fun p => [px p * 200, py p * 700]) (g := fun x y => [x * 200, y * 700]) hF.p2 fun _ _ => rfl
      generalize (F.map fun p => [px p * 200, py p * 700]) = M at hM hfm
      have hl := hF.len
      and_intros
      refine kLc.pure (pairF fun x y => [x * 200, y * 700]) rfl (by rw [List.length_map]; omega) ?_ ?_
      · intro d hd
        obtain ⟨p, hp, rfl⟩ := List.mem_map.mp hd
        obtain ⟨x, y, rfl⟩ := hF.p2 p hp
        refine ⟨_, rfl, ?_⟩
        and_intros
        refine ⟨fun _ => ?_, fun c => nomatch c⟩
        and_intros
        exact ⟨_, rfl, rfl, rfl, rfl⟩
      · rw [hfm]
        and_intros
        exact ⟨rfl, M, _, _, hM, rfl⟩
    · and_intros
      exact ⟨rfl, F, _, _, hF.mono (by decide) (by decide), rfl⟩
  rintro s ⟨F, x3, b1, hF, rfl⟩
  unfold drSt
  refine k_mid (fun s => ∃ F x3 b, Pb 170000 80 F ∧ s = drSt F w x3 none none none b) ?_ ?_
  · and_intros
    refine kCond.of (fun c => ?_) (fun c => ?_)
    · and_intros
      refine kCall.mk rfl rfl (law_figure_gv 12 2 (by decide) (by decide) (by decide) (by decide)) ?_
      rintro _ b2 ⟨F2, rfl, hF2⟩
      and_intros
      exact ⟨rfl, F2, _, _, hF2.mono (by decide) (by decide), rfl⟩
    · and_intros
      exact ⟨rfl, F, _, _, hF, rfl⟩
  rintro s ⟨F, x3, b1, hF, rfl⟩
  unfold drSt
  have swap : ∀ (n : Nat) (F : List (List Int)) (p q : List Int), Pb 170000 n F → (∃ x y, p = [x, y] ∧ x.natAbs ≤ 170000 ∧ y.natAbs ≤ 170000) → (∃ x y, q = [x, y] ∧ x.natAbs ≤ 170000 ∧ y.natAbs ≤ 170000) → ([tI p] ++ cutG (F.map tI) (some 1) (some (-1))) ++ [tI q] = ((p :: cutG F (some 1) (some (-1))) ++ [q]).map tI ∧ Pb 170000 (n + 2) ((p :: cutG F (some 1) (some (-1))) ++ [q]) := fun n F p q h hp hq => by
    refine ⟨?_, fun x hx => ?_, ?_, by simp⟩
    · rw [List.map_append, List.map_cons]
      congr 2
      unfold cutG
      rw [List.length_map, List.map_take, List.map_drop]
      rfl
    · simp only [List.cons_append, List.mem_cons, List.mem_append, List.not_mem_nil, or_false] at hx
      rcases hx with rfl | hx | rfl
      · exact hp
      · exact h.pt x (cut_mem hx)
      · exact hq
    · have := cut_len F (some 1) (some (-1))
      have := h.len
      simp only [List.length_append, List.length_cons, List.length_nil]
      omega
  refine k_mid (fun s => ∃ F x3 b, Pb 170000 82 F ∧ s = drSt F w x3 none none none b) ?_ ?_
  · and_intros
    refine kCond.of (fun c => ?_) (fun c => ?_)
    · obtain ⟨a, c, a', c', r, eF, hzm, ha, hc, ha', hc', i1, i3⟩ := fg_ends hF
      have i2 : dIdx (tI [a, c]) (.int 1) = some (.d (.int c)) := o_idx1
      have i4 : dIdx (tI [a', c']) (.int 1) = some (.d (.int c')) := o_idx1
      have l1 := cut_len (F.map tI) (some 1) (some (-1))
      rw [List.length_map] at l1
      have hl := hF.len
      have hcut : dCut (fgD F) (some 1) (some (-1)) = some (.d (.tuple (cutG (F.map tI) (some 1) (some (-1))))) := o_cutT
      and_intros
      refine kOp.mk rfl rfl (o_addT2 ?_ ?_) ?_
      · exact Nat.le_of_ble_eq_true rfl
      · omega
      and_intros
      refine kCall.mk rfl rfl (draw_gv 3 (by decide) (by decide)) ?_
      rintro _ b2 ⟨u, rfl, u0, u1⟩
      obtain ⟨e1, e2⟩ := swap _ F [-9999, c] [9999 - u, c'] hF ⟨_, _, rfl, by omega, hc⟩ ⟨_, _, rfl, by omega, hc'⟩
      and_intros
      refine kOp.mk rfl rfl (o_addT2 ?_ ?_) ?_
      · rw [List.length_append]
        show 1 + _ ≤ _
        omega
      · exact Nat.le_of_ble_eq_true rfl
      and_intros
      refine ⟨rfl, _, x3, b2, e2, ?_⟩
      unfold drSt fgD
      rw [← e1]
      rfl
    · and_intros
      exact ⟨rfl, F, _, _, hF.mono (by decide) (by decide), rfl⟩
  rintro s ⟨F, x3, b1, hF, rfl⟩
  unfold drSt
  refine k_mid (fun s => ∃ F x3 b, Pb 170000 84 F ∧ s = drSt F w x3 none none none b) ?_ ?_
  · and_intros
    refine kCond.of (fun c => ?_) (fun c => ?_)
    · obtain ⟨a, c, a', c', r, eF, hzm, ha, hc, ha', hc', i1, i3⟩ := fg_ends hF
      have i2 : dIdx (tI [a, c]) (.int 0) = some (.d (.int a)) := o_idx0
      have i4 : dIdx (tI [a', c']) (.int 0) = some (.d (.int a')) := o_idx0
      have l1 := cut_len (F.map tI) (some 1) (some (-1))
      rw [List.length_map] at l1
      have hl := hF.len
      have hcut : dCut (fgD F) (some 1) (some (-1)) = some (.d (.tuple (cutG (F.map tI) (some 1) (some (-1))))) := o_cutT
      and_intros
      refine kOp.mk rfl rfl (o_addT2 ?_ ?_) ?_
      · exact Nat.le_of_ble_eq_true rfl
      · omega
      and_intros
      refine kCall.mk rfl rfl (draw_gv 3 (by decide) (by decide)) ?_
      rintro _ b2 ⟨u, rfl, u0, u1⟩
      obtain ⟨e1, e2⟩ := swap _ F [a, -9999] [a', 9999 - u] hF ⟨_, _, rfl, ha, by omega⟩ ⟨_, _, rfl, ha', by omega⟩
      and_intros
      refine kOp.mk rfl rfl (o_addT2 ?_ ?_) ?_
      · rw [List.length_append]
        show 1 + _ ≤ _
        omega
      · exact Nat.le_of_ble_eq_true rfl
      and_intros
      refine ⟨rfl, _, x3, b2, e2, ?_⟩
      unfold drSt fgD
      rw [← e1]
      rfl
    · and_intros
      exact ⟨rfl, F, _, _, hF.mono (by decide) (by decide), rfl⟩
  rintro s ⟨F, x3, b1, hF, rfl⟩
  unfold drSt
  obtain ⟨a, c, a', c', r, eF, hzm, ha, hc, ha', hc', i1, i3⟩ := fg_ends hF
  have i2 : dIdx (tI [a, c]) (.int 0) = some (.d (.int a)) := o_idx0
  have i4 : dIdx (tI [a', c']) (.int 0) = some (.d (.int a')) := o_idx0
  and_intros
  refine kCond.of (fun c1 => ?_) (fun c1 => ?_)
  · have ce : a ≠ a' := by simpa using c1
    and_intros
    refine ⟨F, rfl, ⟨(hF.mono (n' := 200000) (l' := 1000) (by decide) (by decide)).pt, Nat.le_trans hF.len (by decide), [a, c], by rw [eF]; exact List.mem_cons_self, [a', c'], hzm, ce⟩⟩
  · and_intros
    refine ⟨[[0, 0], [3, 1]], rfl, ⟨fun p hp => ?_, by simp, [0, 0], by simp, [3, 1], by simp, by decide⟩⟩
    simp only [List.mem_cons, List.not_mem_nil, or_false] at hp
    rcases hp with rfl | rfl
    · exact ⟨0, 0, rfl, by decide, by decide⟩
    · exact ⟨3, 1, rfl, by decide, by decide⟩
/-! ## what is no kind -/
def outB : D → Bool
  | .dict _ => true
  | d => eqOk d (.tuple ((["shift", "flip", "back", "both", "slow", "all"] : List Str).map .str)) && !anyEqv d ((["shift", "flip", "back", "both", "slow", "all"] : List Str).map .str)
theorem outB_nin {d : D} (h : outB d = true) : dNinX ["shift", "flip", "back", "both", "slow", "all"] d = some (.d (.bool true)) := by
  have key : ∀ d : D, (eqOk d (.tuple ((["shift", "flip", "back", "both", "slow", "all"] : List Str).map .str)) && !anyEqv d ((["shift", "flip", "back", "both", "slow", "all"] : List Str).map .str)) = true → dNinK ["shift", "flip", "back", "both", "slow", "all"] d = some (.d (.bool true)) := fun d h => by
    rw [Bool.and_eq_true] at h
    unfold dNinK dNinS
    rw [if_pos h.1]
    simp only [h.2]
  cases d <;> first | rfl | exact key _ h
def noK (d : D) : D := .list [.str "NoKind", d, .bool true]
def okD (d : D) : Bool := outB d && (fitsD (noK d) && (noK d).shown.cps.toList.all fun c => decide (c < 1114112))
theorem okD_rep {d : D} (h : okD d = true) : fRepr [noK d] = some (.d (.str (noK d).shown)) ∧ Cp (noK d).shown := by
  unfold okD at h
  simp only [Bool.and_eq_true, List.all_eq_true, decide_eq_true_eq] at h
  exact ⟨o_repr h.2.1, h.2.2⟩
def oddL : List D := [.none, .bool true, .int 0, .str "", .str "fast", .str "Both", .str "all ", .tuple [], .list [], .dict [], .tuple [.str "all"], .list [.str "all"], .str "flips", .int 7]
theorem odd_ok : oddL.all okD = true := by decide +kernel
/-! ## one tune -/
def tune : List (List Int) := [[0, 60], [2, 64], [4, 62]]
def tuneN : Kind → List (List Int)
  | .shift => [[0, 0], [2, 4], [4, 2]]
  | .flip => [[0, 0], [2, -4], [4, -2]]
  | .back => [[0, 0], [2, 2], [4, -2]]
  | .both => [[0, 0], [2, -4], [4, -2]]
  | .slow => [[0, 0], [1, 4], [2, 2]]
  | .all => [[0, 0], [1, -4], [2, -2]]
def tuneM : Kind → List (List Int)
  | .shift => [[0, 0], [2, 4], [4, 2]]
  | .flip => [[0, 0], [2, -4], [4, -2]]
  | .back => [[0, 0], [2, 2], [4, -2]]
  | .both => [[0, 0], [2, -4], [4, -2]]
  | .slow => [[0, 0], [2, 4], [4, 2]]
  | .all => [[0, 0], [2, -4], [4, -2]]
theorem tune_nf (k : Kind) : NF k.t k.f tune (tuneM k) ∧ fin k.s (tuneM k) = tuneN k := by
  have h1 : ∀ X Y, decide (X ∈ forms k.t k.f tune) = Y → (X ∈ forms k.t k.f tune ↔ Y = true) := fun X Y h => by rw [← h, decide_eq_true_eq]
  refine ⟨⟨?_, ?_⟩, ?_⟩
  · cases k <;> decide +kernel
  · have : ((forms k.t k.f tune).all fun X => !ltF X (tuneM k)) = true := by cases k <;> decide +kernel
    intro X hX
    have := List.all_eq_true.mp this X hX
    simpa using this
  · cases k <;> decide +kernel
theorem tune_fb : Fb 200000 tune := ⟨fun p hp => by
  simp only [tune, List.mem_cons, List.not_mem_nil, or_false] at hp
  rcases hp with rfl | rfl | rfl
  · exact ⟨_, _, rfl, by decide, by decide⟩
  · exact ⟨_, _, rfl, by decide, by decide⟩
  · exact ⟨_, _, rfl, by decide, by decide⟩, by decide, [0, 60], by decide, [2, 64], by decide, by decide⟩
theorem tune_gv (k : Kind) : Gv f_normal [.d (fgD tune), .d (.str k.w)] (· = .d (fgD (tuneN k))) := (normal_gv k tune_fb (by decide)).mono fun r ⟨M', hM', e⟩ => by
  rw [e, hM'.one (tune_nf k).1, (tune_nf k).2]
def tuneD : D := .list (six.map fun k => fgD (tuneN k))
theorem tune_rep : fRepr [tuneD] = some (.d (.str tuneD.shown)) ∧ Cp tuneD.shown := by
  have h : (fitsD tuneD && tuneD.shown.cps.toList.all fun c => decide (c < 1114112)) = true := by decide +kernel
  simp only [Bool.and_eq_true, List.all_eq_true, decide_eq_true_eq] at h
  exact ⟨o_repr h.1, h.2⟩
theorem all2_six : ∀ (ks : List Kind) (zs : List D), All2 (fun d z => ∃ k : Kind, d = .str k.w ∧ z = fgD (tuneN k)) (ks.map fun k => .str k.w) zs → zs = ks.map fun k => fgD (tuneN k)
  | [], zs, h => by cases h; rfl
  | k :: ks, _, h => by
    rw [List.map_cons] at h
    cases h with
    | cons p r =>
      obtain ⟨k', e, rfl⟩ := p
      injection e with e
      have : k' = k := by
        revert e
        cases k <;> cases k' <;> first | (intro _; rfl) | (intro h; exact absurd h (by decide))
      rw [this, all2_six ks _ r]; rfl
theorem law_ok (ns : List Int) (hl : ns.length ≤ 63) : OkF (f_law [.d (.list (ns.map .int))] ⟨[], 0, -1⟩) fun r _ => r = .d (.bool true) := by
  unfold f_law m_law
  refine k_run (a0 := [some (.d (.list (ns.map .int))), none, none, none, none, none, none, none, none]) rfl ?_
  and_intros
  refine kCall.at1 rfl rfl (box_ok ns hl _ (by decide)) ?_
  rintro _ b1 rfl
  generalize PyData.list (ns.map .int) = sc
  and_intros
  refine k_rng (I := fun k c s => 0 ≤ k ∧ k + c = 5 ∧ ∃ x2 x3 x4 b, s = ⟨[some (.d sc), some .bx, x2, x3, x4, none, none, none, none], b⟩) ?_ ?_ _ _ _ ⟨Int.le_refl _, rfl, _, _, _, _, rfl⟩
  · rintro j c s ⟨j0, jc, x2, x3, x4, b, rfl⟩
    refine ⟨_, rfl, ?_⟩
    dsimp only [List.set]
    and_intros
    refine kCall.mk rfl rfl law_drawn_gv ?_
    rintro _ b2 ⟨F, rfl, hF⟩
    and_intros
    refine kCall.mk rfl rfl (law_is_right_gv hF (by decide)) ?_
    rintro _ b3 rfl
    and_intros
    refine kCond.of (fun c => nomatch c) (fun _ => ?_)
    and_intros
    refine kCall.mk (q := [.bx, .d (.list oddL)]) rfl rfl (pick_gv _ (by unfold oddL; simp) (show 14 ≤ 100000 by decide)) ?_
    rintro _ b4 ⟨d, rfl, hd⟩
    have hd := List.all_eq_true.mp odd_ok d hd
    have hd2 := hd
    obtain ⟨r1, rc⟩ := okD_rep hd
    have r2 := o_neS rc
    unfold okD at hd2
    rw [Bool.and_eq_true] at hd2
    have ht := law_told_gx (fgD F) d (j == 2) (outB_nin hd2.1)
    unfold noK at r1
    and_intros
    refine kCall.mk rfl rfl ht ?_
    rintro _ b14 rfl
    and_intros
    exact ⟨by omega, by omega, _, _, _, _, rfl⟩
  · rintro k s ⟨k0, kc, x2, x3, x4, b, rfl⟩
    obtain ⟨r1, rc⟩ := tune_rep
    have r2 := o_eqS rc
    and_intros
    refine kLc.map (P := fun d z => ∃ k : Kind, d = .str k.w ∧ z = fgD (tuneN k)) rfl (by decide) ?_ ?_
    · intro d hd b
      have hk : ∃ k : Kind, d = .str k.w := by
        simp only [List.mem_cons, List.not_mem_nil, or_false] at hd
        rcases hd with rfl | rfl | rfl | rfl | rfl | rfl
        · exact ⟨.shift, rfl⟩
        · exact ⟨.flip, rfl⟩
        · exact ⟨.back, rfl⟩
        · exact ⟨.both, rfl⟩
        · exact ⟨.slow, rfl⟩
        · exact ⟨.all, rfl⟩
      obtain ⟨k, rfl⟩ := hk
      refine ⟨_, rfl, ?_⟩
      dsimp only [wipeA, List.set]
      and_intros
      refine kCall.mk rfl rfl (tune_gv k) ?_
      rintro _ b3 rfl
      exact ⟨_, rfl, rfl, k, rfl, rfl⟩
    · intro zs b3 hz
      rw [all2_six six zs hz]
      generalize tuneD.shown = tx at r1 r2
      and_intros
      rfl
theorem law_true : ∀ ns : List Int, ns.length ≤ 63 → ∃ b, f_law [.d (.list (ns.map .int))] ⟨[], 0, -1⟩ = .ok (.d (.bool true)) b := fun ns hl => by
  obtain ⟨r, b, e, rfl⟩ := (law_ok ns hl).get
  exact ⟨b, e⟩

end K14
open PySem PySem.W PyProof.Rows
set_option maxRecDepth 100000 in
set_option maxHeartbeats 0 in
theorem PySem.Challenge.cw_heardagain_k14_normal_forms_holds : PySem.Challenge.rw_heardagain_k14_normal_forms.Holds := by
  w_on; o_law; k_head; (case hw => w_witness2)
  k_fill
  refine Qz.walk_end (l := PySem.Challenge.rw_heardagain_k14_normal_forms) (g := K14.f_law) (x := "script") (k := 6) rfl rfl ⟨rfl, by decide, by decide⟩ (by decide +kernel) (fun w h Y => PySem.W.kIn_of Y) ?F ?T
  case F =>
    intro w mg fa h KX G hmg
    refine' K14.all_mk KX G hmg ?a9 ?l9 ?c9 ?k9 ?a10 ?l10 ?c10 ?k10 ?a11 ?l11 ?c11 ?k11 ?a13 ?l13 ?c13 ?k13 ?a14 ?l14 ?c14 ?k14 ?a15 ?l15 ?c15 ?k15 ?a17 ?l17 ?c17 ?k17 ?a18 ?l18 ?c18 ?k18 ?a19 ?l19 ?c19 ?k19 ?a20 ?l20 ?c20 ?k20 ?a21 ?l21 ?c21 ?k21 ?a22 ?l22 ?c22 ?k22 ?a23 ?l23 ?c23 ?k23 ?a24 ?l24 ?c24 ?k24 ?a25 ?l25 ?c25 ?k25 ?a26 ?l26 ?c26 ?k26 ?a27 ?l27 ?c27 ?k27 ?z_ValueError ?z_abs ?z_int ?z_isinstance ?z_len ?z_list ?z_min ?z_range ?z_repr ?z_sorted ?z_tuple ?z_gcd ?q_FLIPPING ?l_FLIPPING ?q_KINDS ?l_KINDS ?q_STRETCHING ?l_STRETCHING ?q_TURNING ?l_TURNING ?aC_NoKind ?xL_NoKind ?rV_NoKind ?sa_NoKind ?ga_NoKind ?gg_NoKind ?nf_NoKind ?ni_NoKind ?ti_NoKind ?li_NoKind ?ci_NoKind ?kC_NoKind ?eC_NoKind ?tC_NoKind ?hC_NoKind ?iC_NoKind ?sC_NoKind ?fd_NoKind ?mo_NoKind ?sp_c ?tk_c ?aB_ScoreError ?iB_ScoreError ?tB_ScoreError ?sB_NoKind_ScoreError ?sB_NoKind_ValueError
    (case a9 => k_is); (case l9 => k_is); (case c9 => k_is); (case k9 => k_is); (case a10 => k_is); (case l10 => k_is); (case c10 => k_is); (case k10 => k_is); (case a11 => k_is); (case l11 => k_is); (case c11 => k_is); (case k11 => k_is); (case a13 => k_is); (case l13 => k_is); (case c13 => k_is); (case k13 => k_is); (case a14 => k_is); (case l14 => k_is); (case c14 => k_is); (case k14 => k_is); (case a15 => k_is); (case l15 => k_is); (case c15 => k_is); (case k15 => k_is); (case a17 => k_is); (case l17 => k_is); (case c17 => k_is); (case k17 => k_is); (case a18 => k_is); (case l18 => k_is); (case c18 => k_is); (case k18 => k_is); (case a19 => k_is); (case l19 => k_is); (case c19 => k_is); (case k19 => k_is); (case a20 => k_is); (case l20 => k_is); (case c20 => k_is); (case k20 => k_is); (case a21 => k_is); (case l21 => k_is); (case c21 => k_is); (case k21 => k_is); (case a22 => k_is); (case l22 => k_is); (case c22 => k_is); (case k22 => k_is); (case a23 => k_is); (case l23 => k_is); (case c23 => k_is); (case k23 => k_is); (case a24 => k_is); (case l24 => k_is); (case c24 => k_is); (case k24 => k_is); (case a25 => k_is); (case l25 => k_is); (case c25 => k_is); (case k25 => k_is); (case a26 => k_is); (case l26 => k_is); (case c26 => k_is); (case k26 => k_is); (case a27 => k_is); (case l27 => k_is); (case c27 => k_is); (case k27 => k_is); (case z_ValueError => k_is); (case z_abs => k_is); (case z_int => k_is); (case z_isinstance => k_is); (case z_len => k_is); (case z_list => k_is); (case z_min => k_is); (case z_range => k_is); (case z_repr => k_is); (case z_sorted => k_is); (case z_tuple => k_is); (case z_gcd => k_is); (case q_FLIPPING => k_is); (case l_FLIPPING => k_is); (case q_KINDS => k_is); (case l_KINDS => k_is); (case q_STRETCHING => k_is); (case l_STRETCHING => k_is); (case q_TURNING => k_is); (case l_TURNING => k_is); (case aC_NoKind => k_is); (case xL_NoKind => k_is); (case rV_NoKind => first | rfl | decide +kernel); (case sa_NoKind => k_is); (case ga_NoKind => k_is); (case gg_NoKind => k_is); (case nf_NoKind => k_is); (case ni_NoKind => k_is); (case ti_NoKind => k_is); (case li_NoKind => k_is); (case ci_NoKind => k_is); (case kC_NoKind => k_is); (case eC_NoKind => k_is); (case tC_NoKind => k_is); (case hC_NoKind => k_is); (case iC_NoKind => k_is); (case sC_NoKind => first | rfl | k_is); (case fd_NoKind => k_is); (case mo_NoKind => k_is); (case sp_c => k_is); (case tk_c => k_is); (case aB_ScoreError => k_is); (case iB_ScoreError => k_is); (case tB_ScoreError => k_is); (case sB_NoKind_ScoreError => first | rfl | k_is); (case sB_NoKind_ValueError => first | rfl | k_is)
  case T => exact K14.law_true

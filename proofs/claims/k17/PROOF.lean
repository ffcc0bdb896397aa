import PyProof.Rows.All
import Wide.All
import OpenK.AllK
import Wide.FinOn
import HandS.ForMost
import HandS.TupAny
import HandS.Flow
import HandS.IsInst
import HandS.TupSets
import HandS.Walk
import HandS.TupLe
import HandS.Zip
import KE.GoesEnum
import HandS.Conv
import HandS.SortInts
import HandS.NamedTupSort
import KE.DataCmp
import HandS.Style
import HandS.Deep
import HandS.Gcd
import KE.SortCalls
import HandS.Sort
import HandS.SetBool
import HandS.Strs
import HandS.Comp
import HandS.ForExc
import Open.SpecLaws
import KE.OsGo
import HandS.ForSpec
import KE.KExcIs
import KE.KIsAll
import PyProof.TupleCall
import PyProof.EqAt
import PyProof.EqKinds
import KE.DataMinMax
import PyProof.TupleOfSeq
import HandS.NoneIn
import KE.KeyNested
import HandS.SetFor
import PySem.Challenge.RW_heardagain_k17_hits_by_leading
set_option Elab.async false
set_option linter.all false
set_option maxRecDepth 100000
set_option maxHeartbeats 8000000
namespace Qz
open PySem PySem.Spec L2
open PyProof.Rows hiding St

abbrev D := PyData
def keyD : Key → D
  | .inl i => .int i
  | .inr x => .str x

/-! ## what a value stands for, in the part of the heap that stays -/
section
variable (K : PySem.W.Frag) (F : Hp)
mutual
def Rep : D → V → Prop
  | .none, v => v = .non
  | .bool b, v => v = .bl b
  | .int i, v => v = .int i
  | .str s, v => v = .str s
  | .list ds, v => ∃ a xs, v = .ref a ∧ SqL K F a xs ∧ RepL ds xs
  | .tuple ds, v => ∃ a xs, v = .ref a ∧ F a = some (.tup xs) ∧ RepL ds xs
  | .dict kvs, v => ∃ a ys, v = .ref a ∧ F a = some (.dK ys) ∧ RepD kvs ys
def RepL : List D → List V → Prop
  | [], xs => xs = []
  | d :: ds, xs => ∃ x r, xs = x :: r ∧ Rep d x ∧ RepL ds r
def RepD : List (D × D) → List (Key × V) → Prop
  | [], ys => ys = []
  | (k, d) :: r, ys => ∃ key x r', ys = (key, x) :: r' ∧ k = keyD key ∧ Rep d x ∧ RepD r r'
end
/-- a dict by its keys -/
def RepM {κ : Type} : List (κ × D) → List (κ × V) → Prop
  | [], ys => ys = []
  | (k, d) :: r, ys => ∃ x r', ys = (k, x) :: r' ∧ Rep K F d x ∧ RepM r r'
abbrev RepK (kvs : List (Key × D)) (ys : List (Key × V)) : Prop := RepM K F kvs ys
abbrev RepT (kvs : List (List Key × D)) (ys : List (List Key × V)) : Prop := RepM K F kvs ys
end
theorem same_seqT {K : PySem.W.Frag} {H H' : Hp} {a : Addr} {xs : List V} (e : Same H H') (h : SqT K H a xs) : SqT K H' a xs := by
  rcases h with (h | ⟨o, h⟩) | h
  · exact .inl (.inl (e _ _ h))
  · exact .inl (.inr ⟨o, e _ _ h⟩)
  · exact .inr h
section
variable {K : PySem.W.Frag} {F G : Hp}
mutual
theorem Rep.mono (e : Same F G) : ∀ (d : D) (v : V), Rep K F d v → Rep K G d v
  | .none, _, h => by simpa only [Rep] using h
  | .bool _, _, h => by simpa only [Rep] using h
  | .int _, _, h => by simpa only [Rep] using h
  | .str _, _, h => by simpa only [Rep] using h
  | .list ds, _, h => by
    simp only [Rep] at h ⊢
    obtain ⟨a, xs, e1, h1, h2⟩ := h
    exact ⟨a, xs, e1, e.seq h1, RepL.mono e ds xs h2⟩
  | .tuple ds, _, h => by
    simp only [Rep] at h ⊢
    obtain ⟨a, xs, e1, h1, h2⟩ := h
    exact ⟨a, xs, e1, e _ _ h1, RepL.mono e ds xs h2⟩
  | .dict kvs, _, h => by
    simp only [Rep] at h ⊢
    obtain ⟨a, ys, e1, h1, h2⟩ := h
    exact ⟨a, ys, e1, e _ _ h1, RepD.mono e kvs ys h2⟩
theorem RepL.mono (e : Same F G) : ∀ (ds : List D) (xs : List V), RepL K F ds xs → RepL K G ds xs
  | [], _, h => by simpa only [RepL] using h
  | d :: ds, _, h => by
    simp only [RepL] at h ⊢
    obtain ⟨x, r, e1, h1, h2⟩ := h
    exact ⟨x, r, e1, Rep.mono e d x h1, RepL.mono e ds r h2⟩
theorem RepD.mono (e : Same F G) : ∀ (ds : List (D × D)) (xs : List (Key × V)), RepD K F ds xs → RepD K G ds xs
  | [], _, h => by simpa only [RepD] using h
  | (k, d) :: ds, _, h => by
    simp only [RepD] at h ⊢
    obtain ⟨key, x, r, e1, ek, h1, h2⟩ := h
    exact ⟨key, x, r, e1, ek, Rep.mono e d x h1, RepD.mono e ds r h2⟩
end
theorem RepM.mono {κ : Type} (e : Same F G) : ∀ (ds : List (κ × D)) (xs : List (κ × V)), RepM K F ds xs → RepM K G ds xs
  | [], _, h => h
  | (k, d) :: ds, _, ⟨x, r, e1, h1, h2⟩ => ⟨x, r, e1, Rep.mono e d x h1, RepM.mono e ds r h2⟩
theorem RepK.mono (e : Same F G) (ds : List (Key × D)) (xs : List (Key × V)) (h : RepK K F ds xs) : RepK K G ds xs := RepM.mono e ds xs h
theorem RepT.mono (e : Same F G) (ds : List (List Key × D)) (xs : List (List Key × V)) (h : RepT K F ds xs) : RepT K G ds xs := RepM.mono e ds xs h
theorem RepK.dict : ∀ (ds : List (Key × D)) (xs : List (Key × V)), RepK K F ds xs → RepD K F (ds.map fun p => (keyD p.1, p.2)) xs
  | [], _, h => by simpa [RepD, RepM] using h
  | (k, d) :: ds, _, ⟨x, r, e1, h1, h2⟩ => by
    simp only [List.map_cons, RepD]
    exact ⟨k, x, r, e1, rfl, h1, RepK.dict ds r h2⟩
theorem RepL.length : ∀ (ds : List D) (xs : List V), RepL K F ds xs → ds.length = xs.length
  | [], _, h => by simp only [RepL] at h; subst h; rfl
  | d :: ds, _, h => by
    simp only [RepL] at h
    obtain ⟨x, r, rfl, _, h2⟩ := h
    simp [RepL.length ds r h2]
theorem RepL.nil : RepL K F [] [] := by simp only [RepL]
theorem RepL.cons {d : D} {x : V} {ds : List D} {xs : List V} (h : Rep K F d x) (r : RepL K F ds xs) : RepL K F (d :: ds) (x :: xs) := by
  simp only [RepL]
  exact ⟨x, xs, rfl, h, r⟩
theorem RepL.append : ∀ (ds : List D) (xs : List V) {es : List D} {ys : List V}, RepL K F ds xs → RepL K F es ys → RepL K F (ds ++ es) (xs ++ ys)
  | [], _, _, _, h, r => by simp only [RepL] at h; subst h; exact r
  | d :: ds, _, _, _, h, r => by
    simp only [RepL] at h
    obtain ⟨x, q, rfl, h1, h2⟩ := h
    exact .cons h1 (RepL.append ds q h2 r)
theorem RepL.take : ∀ (ds : List D) (xs : List V) (n : Nat), RepL K F ds xs → RepL K F (ds.take n) (xs.take n)
  | _, _, 0, _ => RepL.nil
  | [], _, _ + 1, h => by simp only [RepL] at h; subst h; exact RepL.nil
  | d :: ds, _, n + 1, h => by
    simp only [RepL] at h
    obtain ⟨x, q, rfl, h1, h2⟩ := h
    exact .cons h1 (RepL.take ds q n h2)
theorem RepL.drop : ∀ (ds : List D) (xs : List V) (n : Nat), RepL K F ds xs → RepL K F (ds.drop n) (xs.drop n)
  | _, _, 0, h => h
  | [], _, _ + 1, h => by simp only [RepL] at h; subst h; exact RepL.nil
  | d :: ds, _, n + 1, h => by
    simp only [RepL] at h
    obtain ⟨x, q, rfl, h1, h2⟩ := h
    exact RepL.drop ds q n h2
theorem RepL.get : ∀ (ds : List D) (xs : List V) (i : Nat) (d : D), RepL K F ds xs → ds[i]? = some d → ∃ x, xs[i]? = some x ∧ Rep K F d x
  | [], _, _, _, _, e => by simp at e
  | d :: ds, _, 0, _, h, e => by
    simp only [RepL] at h
    obtain ⟨x, q, rfl, h1, h2⟩ := h
    simp at e
    subst e
    exact ⟨x, rfl, h1⟩
  | d :: ds, _, i + 1, d', h, e => by
    simp only [RepL] at h
    obtain ⟨x, q, rfl, h1, h2⟩ := h
    obtain ⟨y, h3, h4⟩ := RepL.get ds q i d' h2 (by simpa using e)
    exact ⟨y, by simpa using h3, h4⟩
theorem RepL.getV : ∀ (ds : List D) (xs : List V) (i : Nat) (x : V), RepL K F ds xs → xs[i]? = some x → ∃ d, ds[i]? = some d ∧ Rep K F d x
  | [], _, _, _, h, e => by simp only [RepL] at h; subst h; simp at e
  | d :: ds, _, 0, _, h, e => by
    simp only [RepL] at h
    obtain ⟨x, q, rfl, h1, h2⟩ := h
    simp at e
    subst e
    exact ⟨d, rfl, h1⟩
  | d :: ds, _, i + 1, x', h, e => by
    simp only [RepL] at h
    obtain ⟨x, q, rfl, h1, h2⟩ := h
    obtain ⟨y, h3, h4⟩ := RepL.getV ds q i x' h2 (by simpa using e)
    exact ⟨y, by simpa using h3, h4⟩
mutual
theorem Rep.dp (e : Same F G) : ∀ (d : D) (v : V), Rep K F d v → d.hasDict = false → Dp K G v d
  | .none, _, h, _ => by simp only [Rep] at h; subst h; exact .non
  | .bool b, _, h, _ => by simp only [Rep] at h; subst h; exact .bl b
  | .int i, _, h, _ => by simp only [Rep] at h; subst h; exact .int i
  | .str x, _, h, _ => by simp only [Rep] at h; subst h; exact .str x
  | .list ds, _, h, n => by
    simp only [Rep] at h
    obtain ⟨a, xs, rfl, h1, h2⟩ := h
    exact .lst (e.seq h1) (RepL.dp e ds xs h2 (by simpa only [PyData.hasDict] using n))
  | .tuple ds, _, h, n => by
    simp only [Rep] at h
    obtain ⟨a, xs, rfl, h1, h2⟩ := h
    exact .tup (SqT.of (e _ _ h1)) (RepL.dp e ds xs h2 (by simpa only [PyData.hasDict] using n))
  | .dict _, _, _, n => by simp only [PyData.hasDict] at n; cases n
theorem RepL.dp (e : Same F G) : ∀ (ds : List D) (xs : List V), RepL K F ds xs → PyData.hasDictAll ds = false → DpAll K G xs ds
  | [], _, h, _ => by simp only [RepL] at h; subst h; exact .nil
  | d :: ds, _, h, n => by
    simp only [RepL] at h
    obtain ⟨x, r, rfl, h1, h2⟩ := h
    simp only [PyData.hasDictAll, Bool.or_eq_false_iff] at n
    exact .cons (Rep.dp e d x h1 n.1) (RepL.dp e ds r h2 n.2)
end
end
end Qz
namespace Qz
open PySem PySem.Spec L2
open PyProof.Rows hiding St

/-! ## containers that one name alone holds, results, states -/
inductive C where
  | lst (l : List D)
  | dK (l : List (Key × D))
  | dT (l : List (List Key × D))
/-- the box that numbers are drawn from -/
structure Bx where
  g : List Int
  s : Int
  c : Int
inductive R where
  | d (x : D) | o (c : C) | sl (i : Nat) | bx | st (ls : List (List Int))
structure S where
  a : List (Option R)
  b : Bx
inductive Out (α : Type) where
  | ok (a : α) (s : S) | no
abbrev M (α : Type) := S → Out α
inductive Fl where
  | nx | rt (r : R) | bk | ct
abbrev ME := M R
abbrev MA := M (List R)
abbrev MT := M Bool
abbrev MS := M Fl
inductive OutF where
  | ok (r : R) (b : Bx) | no
abbrev DF := List R → Bx → OutF

/-- the world that is told beside the heap: what stays, who owns what, where the box is -/
structure Wd where
  F : Hp
  O : Addr → Option Nat
  B : Option (Addr × Addr)

def bxF (g : Addr) (b : Bx) : HO := .lst [.ref g, .int b.s, .int b.c]
structure BoxOk (F H : Hp) (p g : Addr) (b : Bx) : Prop where
  fp : F p = none
  fg : F g = none
  ne : p ≠ g
  hp : H p = some (bxF g b)
  hg : H g = some (.lst (b.g.map V.int))
def isBox (B : Option (Addr × Addr)) (a : Addr) : Prop := ∃ p g, B = some (p, g) ∧ (a = p ∨ a = g)

section
variable (K : PySem.W.Frag)
def Own (w : Wd) (H : Hp) (t : Nat) : C → V → Prop
  | .lst ds, u => ∃ a xs, u = .ref a ∧ w.O a = some t ∧ H a = some (.lst xs) ∧ RepL K w.F ds xs
  | .dK kvs, u => ∃ a ys, u = .ref a ∧ w.O a = some t ∧ H a = some (.dK ys) ∧ RepK K w.F kvs ys
  | .dT kvs, u => ∃ a ys, u = .ref a ∧ w.O a = some t ∧ H a = some (.dT ys) ∧ RepT K w.F kvs ys
/-- a set of int tuples that stays as it is -/
def SetIn (F : Hp) (a : Addr) (ls : List (List Int)) : Prop := ∃ (P0 : Program) (w0 : World) (L : List (Addr × List Int)), F a = some (SetTO P0 w0 a L) ∧ (∀ p ∈ L, F p.1 = some (.tup (p.2.map V.int))) ∧ ∀ k, k ∈ L.map (·.2) ↔ k ∈ ls
theorem SetIn.mono {F G : Hp} {a : Addr} {ls : List (List Int)} (h : SetIn F a ls) (e : Same F G) : SetIn G a ls := by
  obtain ⟨P0, w0, L, h1, h2, h3⟩ := h
  exact ⟨P0, w0, L, e _ _ h1, fun p hp => e _ _ (h2 p hp), h3⟩
/-- what a slot holds -/
def SlR (w : Wd) (H : Hp) (i : Nat) : Option R → Option V → Prop
  | none, _ => True
  | some (.d x), v => ∃ u, v = some u ∧ Rep K w.F x u
  | some (.o c), v => ∃ u, v = some u ∧ Own K w H i c u
  | some .bx, v => ∃ p g, w.B = some (p, g) ∧ v = some (.ref p)
  | some (.sl _), _ => False
  | some (.st ls), v => ∃ a, v = some (.ref a) ∧ SetIn w.F a ls
/-- no tuple -/
def NT (o : HO) : Prop := ∀ xs, o ≠ .tup xs
structure OKs (w : Wd) (H : Hp) (σ : St) (s : S) (t : Nat) : Prop where
  sub : Same w.F H
  len : σ.length = s.a.length
  sl : ∀ i q v, s.a[i]? = some q → σ[i]? = some v → SlR K w H i q v
  own : ∀ a i, w.O a = some i → w.F a = none ∧ (∃ o, H a = some o ∧ NT o) ∧ i < t
  tN : s.a.length ≤ t
  box : ∀ p g, w.B = some (p, g) → BoxOk w.F H p g s.b ∧ w.O p = none ∧ w.O g = none
  nob : s.b.c < 0 → w.B = none
def RelR (w : Wd) (H : Hp) (σ : St) (s : S) (t : Nat) : R → V → Prop
  | .d x, u => Rep K w.F x u
  | .o c, u => Own K w H t c u
  | .sl i, u => ∃ q, s.a[i]? = some (some q) ∧ σ[i]? = some (some u)
  | .bx, u => ∃ p g, w.B = some (p, g) ∧ u = .ref p
  | .st _, _ => False
def RelRs (w : Wd) (H : Hp) (σ : St) (s : S) (hi : Nat) : Nat → List R → List V → Prop
  | _, [], xs => xs = []
  | t, r :: rs, xs => ∃ x q τ, xs = x :: q ∧ t ≤ τ ∧ τ < hi ∧ RelR K w H σ s τ r x ∧ RelRs w H σ s hi (τ + 1) rs q
end
/-- from one world to a later one; n: how many slots -/
structure Step (n t0 : Nat) (w : Wd) (H : Hp) (w' : Wd) (H' : Hp) : Prop where
  F : Same w.F w'.F
  keep : ∀ a o, H a = some o → (∀ i, w.O a = some i → n ≤ i ∧ i < t0) → ¬ isBox w.B a → H' a = some o
  there : ∀ a o, H a = some o → ∃ o', H' a = some o'
  tmp : ∀ a i, w.O a = some i → n ≤ i → i < t0 → w'.O a = some i
  newF : ∀ a, w'.F a ≠ none → w.F a ≠ none ∨ H a = none ∨ (∃ i, w.O a = some i ∧ (i < n ∨ t0 ≤ i)) ∨ (∃ xs, H a = some (.tup xs)) ∨ isBox w.B a
  newO : ∀ a i, w'.O a = some i → H a = none ∨ w.O a ≠ none
  newT : ∀ a i, w'.O a = some i → n ≤ i → H a = none ∨ w.O a = some i
  B : w'.B = w.B ∨ (w.B = none ∧ ∀ p g, w'.B = some (p, g) → H p = none ∧ H g = none)

section
variable {K : PySem.W.Frag} {n t t0 t1 : Nat} {w w1 w2 w' : Wd} {H H1 H2 H' : Hp} {σ : St} {s s' s1 s2 : S}
theorem Step.refl : Step n t0 w H w H := ⟨Same.refl _, fun _ _ h _ _ => h, fun a o h => ⟨o, h⟩, fun _ _ h _ _ => h, fun _ h => .inl h, fun a i h => .inr (by rw [h]; simp), fun a i h _ => .inr h, .inl rfl⟩
theorem Step.mono (a : Step n t1 w H w1 H1) (h : t0 ≤ t1) : Step n t0 w H w1 H1 where
  F := a.F
  keep := fun c o h1 h2 h3 => a.keep c o h1 (fun i hi => ⟨(h2 i hi).1, Nat.lt_of_lt_of_le (h2 i hi).2 h⟩) h3
  there := a.there
  tmp := fun c i h1 h2 h3 => a.tmp c i h1 h2 (Nat.lt_of_lt_of_le h3 h)
  newF := fun c q => by
    rcases a.newF c q with z | z | ⟨i, z, hi⟩ | z
    · exact .inl z
    · exact .inr (.inl z)
    · exact .inr (.inr (.inl ⟨i, z, hi.imp id (Nat.le_trans h)⟩))
    · exact .inr (.inr (.inr z))
  newO := a.newO
  newT := a.newT
  B := a.B
theorem Step.trans (a : Step n t0 w H w1 H1) (b : Step n t0 w1 H1 w2 H2) : Step n t0 w H w2 H2 where
  F := a.F.trans b.F
  keep := fun c o h ho hb => by
    have h1 := a.keep c o h ho hb
    refine b.keep c o h1 (fun i hi => ?_) (fun q => ?_)
    · rcases a.newO c i hi with z | z
      · rw [h] at z; cases z
      · cases e : w.O c with
        | none => exact absurd e z
        | some j =>
          have := a.tmp c j e (ho j e).1 (ho j e).2
          rw [hi] at this; cases this
          exact ho i e
    · obtain ⟨p, g, e, z⟩ := q
      rcases a.B with e1 | ⟨_, e1⟩
      · exact hb ⟨p, g, e1 ▸ e, z⟩
      · obtain ⟨z1, z2⟩ := e1 p g e
        rcases z with rfl | rfl
        · rw [h] at z1; cases z1
        · rw [h] at z2; cases z2
  there := fun c o h => by
    obtain ⟨o1, h1⟩ := a.there c o h
    exact b.there c o1 h1
  tmp := fun c i h hi hj => b.tmp c i (a.tmp c i h hi hj) hi hj
  newF := fun c h => by
    rcases b.newF c h with z | z | ⟨i, z, hi⟩ | ⟨xs, z⟩ | ⟨p, g, z, hz⟩
    · exact a.newF c z
    · cases e : H c with
      | none => exact .inr (.inl rfl)
      | some o =>
        obtain ⟨o1, h1⟩ := a.there c o e
        rw [h1] at z; cases z
    · rcases a.newO c i z with q | q
      · exact .inr (.inl q)
      · cases e : w.O c with
        | none => exact absurd e q
        | some j =>
          by_cases hj : j < n ∨ t0 ≤ j
          · exact .inr (.inr (.inl ⟨j, rfl, hj⟩))
          · have := a.tmp c j e (by omega) (by omega)
            rw [z] at this; cases this
            exact absurd hi hj
    · cases e : H c with
      | none => exact .inr (.inl rfl)
      | some o =>
        by_cases hb : isBox w.B c
        · exact .inr (.inr (.inr (.inr hb)))
        · by_cases ho : ∀ i, w.O c = some i → n ≤ i ∧ i < t0
          · have h1 := a.keep c o e ho hb
            rw [z] at h1; cases h1
            exact .inr (.inr (.inr (.inl ⟨xs, rfl⟩)))
          · obtain ⟨i, hi⟩ := Classical.not_forall.mp ho
            obtain ⟨h1, h2⟩ := Classical.not_imp.mp hi
            exact .inr (.inr (.inl ⟨i, h1, by omega⟩))
    · rcases a.B with e1 | ⟨_, e1⟩
      · exact .inr (.inr (.inr (.inr ⟨p, g, e1 ▸ z, hz⟩)))
      · obtain ⟨z1, z2⟩ := e1 p g z
        rcases hz with rfl | rfl
        · exact .inr (.inl z1)
        · exact .inr (.inl z2)
  newO := fun c i h => by
    rcases b.newO c i h with z | z
    · cases e : H c with
      | none => exact .inl rfl
      | some o =>
        obtain ⟨o1, h1⟩ := a.there c o e
        rw [h1] at z; cases z
    · cases e : w1.O c with
      | none => exact absurd e z
      | some j => exact a.newO c j e
  newT := fun c i h hi => by
    rcases b.newT c i h hi with z | z
    · cases e : H c with
      | none => exact .inl rfl
      | some o =>
        obtain ⟨o1, h1⟩ := a.there c o e
        rw [h1] at z; cases z
    · exact a.newT c i z hi
  B := by
    rcases b.B with e | ⟨e, f⟩
    · rcases a.B with e' | ⟨e', f'⟩
      · exact .inl (e.trans e')
      · exact .inr ⟨e', fun p g q => f' p g (e ▸ q)⟩
    · rcases a.B with e' | ⟨e', f'⟩
      · refine .inr ⟨e' ▸ e, fun p g q => ?_⟩
        obtain ⟨z1, z2⟩ := f p g q
        have back : ∀ c, H1 c = none → H c = none := fun c hc => by
          cases e : H c with
          | none => rfl
          | some o =>
            obtain ⟨o1, h1⟩ := a.there c o e
            rw [hc] at h1; cases h1
        exact ⟨back p z1, back g z2⟩
      · refine .inr ⟨e', fun p g q => ?_⟩
        obtain ⟨z1, z2⟩ := f p g q
        have back : ∀ c, H1 c = none → H c = none := fun c hc => by
          cases e : H c with
          | none => rfl
          | some o =>
            obtain ⟨o1, h1⟩ := a.there c o e
            rw [hc] at h1; cases h1
        exact ⟨back p z1, back g z2⟩
/-- fewer slots bind less: a step of a frame of n slots -/
theorem Own.keep {t : Nat} {c : C} {u : V} (ok : OKs K w H σ s t2) (h : Own K w H t c u) (st : Step s.a.length t0 w H w' H') (ht : s.a.length ≤ t) (ht0 : t < t0) : Own K w' H' t c u := by
  have nb : ∀ a, w.O a = some t → ¬ isBox w.B a := fun a ha ⟨p, g, e, z⟩ => by
    obtain ⟨_, z1, z2⟩ := ok.box p g e
    rcases z with rfl | rfl
    · rw [ha] at z1; cases z1
    · rw [ha] at z2; cases z2
  cases c with
  | lst ds =>
    obtain ⟨a, xs, e, h1, h2, h3⟩ := h
    exact ⟨a, xs, e, st.tmp a t h1 ht ht0, st.keep a _ h2 (fun i hi => by rw [h1] at hi; cases hi; exact ⟨ht, ht0⟩) (nb a h1), RepL.mono st.F ds xs h3⟩
  | dK ds =>
    obtain ⟨a, xs, e, h1, h2, h3⟩ := h
    exact ⟨a, xs, e, st.tmp a t h1 ht ht0, st.keep a _ h2 (fun i hi => by rw [h1] at hi; cases hi; exact ⟨ht, ht0⟩) (nb a h1), RepK.mono st.F ds xs h3⟩
  | dT ds =>
    obtain ⟨a, xs, e, h1, h2, h3⟩ := h
    exact ⟨a, xs, e, st.tmp a t h1 ht ht0, st.keep a _ h2 (fun i hi => by rw [h1] at hi; cases hi; exact ⟨ht, ht0⟩) (nb a h1), RepT.mono st.F ds xs h3⟩
/-- a state's slots stay known: some slot that holds something still does -/
def Slotted (s s' : S) : Prop := ∀ (i : Nat) (q : R), s.a[i]? = some (some q) → ∃ q', s'.a[i]? = some (some q')
theorem Slotted.refl : Slotted s s := fun _ q h => ⟨q, h⟩
theorem Slotted.trans (a : Slotted s s1) (b : Slotted s1 s2) : Slotted s s2 := fun i q h => by
  obtain ⟨q1, h1⟩ := a i q h
  exact b i q1 h1
theorem RelR.keep {r : R} {u : V} (ok : OKs K w H σ s t2) (h : RelR K w H σ s t r u) (st : Step s.a.length t0 w H w' H') (ht : s.a.length ≤ t) (ht0 : t < t0) (hs : Slotted s s') : RelR K w' H' σ s' t r u := by
  cases r with
  | d x => exact Rep.mono st.F x u h
  | o c => exact Own.keep ok h st ht ht0
  | sl i =>
    obtain ⟨q, h1, h2⟩ := h
    obtain ⟨q', h3⟩ := hs i q h1
    exact ⟨q', h3, h2⟩
  | bx =>
    obtain ⟨p, g, e, h1⟩ := h
    rcases st.B with z | ⟨z, _⟩
    · exact ⟨p, g, z.trans e, h1⟩
    · rw [z] at e; cases e
  | st _ => exact h.elim
theorem RelRs.keep {hi : Nat} (ok : OKs K w H σ s t2) (st : Step s.a.length t0 w H w' H') (hs : Slotted s s') (h0 : hi ≤ t0) : ∀ (rs : List R) (us : List V) (t : Nat), RelRs K w H σ s hi t rs us → s.a.length ≤ t → RelRs K w' H' σ s' hi t rs us
  | [], _, _, h, _ => h
  | r :: rs, _, t, ⟨x, q, τ, e, a1, a2, h1, h2⟩, ht =>
    ⟨x, q, τ, e, a1, a2, RelR.keep ok h1 st (by omega) (by omega) hs, RelRs.keep ok st hs h0 rs q (τ + 1) h2 (by omega)⟩
end

/-! ## what a result is worth as data -/
def C.data : C → Option D
  | .lst l => some (.list l)
  | .dK l => some (.dict (l.map fun p => (keyD p.1, p.2)))
  | .dT _ => none
/-- read, where it stands -/
def view (s : S) : R → Option D
  | .d x => some x
  | .o c => c.data
  | .sl i => match s.a[i]? with
    | some (some (.d x)) => some x
    | some (some (.o c)) => c.data
    | _ => none
  | .bx => none
  | .st _ => none
/-- taken as data, for good -/
def take1 (s : S) : R → Option (D × S)
  | .d x => some (x, s)
  | .o c => c.data.map fun x => (x, s)
  | .sl i => match s.a[i]? with
    | some (some (.d x)) => some (x, s)
    | some (some (.o c)) => c.data.map fun x => (x, { s with a := s.a.set i (some (.d x)) })
    | _ => none
  | .bx => none
  | .st _ => none
def takes : S → List R → Option (List D × S)
  | s, [] => some ([], s)
  | s, r :: rs => match take1 s r with
    | none => none
    | some (x, s1) => match takes s1 rs with
      | none => none
      | some (xs, s2) => some (x :: xs, s2)
/-- the view's meaning: what may be read of u in H -/
def Vw (K : PySem.W.Frag) (F H : Hp) (x : D) (u : V) : Prop :=
  Rep K F x u ∨ (∃ a xs ds, x = .list ds ∧ u = .ref a ∧ H a = some (.lst xs) ∧ RepL K F ds xs) ∨
    ∃ a ys kvs, x = .dict kvs ∧ u = .ref a ∧ H a = some (.dK ys) ∧ RepD K F kvs ys
section
variable {K : PySem.W.Frag} {n t t2 : Nat} {w w' : Wd} {H H' : Hp} {σ : St} {s s' : S}
theorem Own.view {c : C} {u : V} {x : D} (h : Own K w H t c u) (e : c.data = some x) : Vw K w.F H x u := by
  cases c with
  | lst ds =>
    obtain ⟨a, xs, e1, h1, h2, h3⟩ := h
    cases e
    exact .inr (.inl ⟨a, xs, ds, rfl, e1, h2, h3⟩)
  | dK ds =>
    obtain ⟨a, xs, e1, h1, h2, h3⟩ := h
    cases e
    exact .inr (.inr ⟨a, xs, _, rfl, e1, h2, RepK.dict ds xs h3⟩)
  | dT ds => cases e
theorem RelR.view {r : R} {u : V} {x : D} (ok : OKs K w H σ s t2) (h : RelR K w H σ s t r u) (e : view s r = some x) : Vw K w.F H x u := by
  cases r with
  | d y => cases e; exact .inl h
  | o c => exact Own.view h e
  | sl i =>
    obtain ⟨q, h1, h2⟩ := h
    have hs := ok.sl i _ _ h1 h2
    simp only [Qz.view, h1] at e
    cases q with
    | d y =>
      cases e
      obtain ⟨v, e1, h3⟩ := hs
      cases e1
      exact .inl h3
    | o c =>
      obtain ⟨v, e1, h3⟩ := hs
      cases e1
      exact Own.view h3 e
    | sl _ => exact hs.elim
    | bx => cases e
    | st _ => cases e
  | bx => cases e
  | st _ => cases e
/-- the owner gives an object up: from then on it stays as it is -/
def Wd.freeze (w : Wd) (a : Addr) (o : HO) : Wd := { w with F := upd w.F a o, O := fun b => if b = a then none else w.O b }
theorem freeze_same {a : Addr} {o : HO} (hF : w.F a = none) : Same w.F (w.freeze a o).F := fun b u e => by
  show upd w.F a o b = some u
  rw [upd_ne (ne_of_none e hF)]
  exact e
theorem freeze_ok {a : Addr} {o : HO} {j : Nat} (ok : OKs K w H σ s t) (ha : w.O a = some j) (hH : H a = some o) {s' : S}
    (hb : s'.b = s.b) (hl : s'.a.length = s.a.length) (hsl : ∀ i q v, s'.a[i]? = some q → σ[i]? = some v → (s.a[i]? = some q ∧ (∀ c, q = some (.o c) → i ≠ j)) ∨ (∃ y z, q = some (.d y) ∧ v = some z ∧ Rep K (w.freeze a o).F y z)) :
    OKs K (w.freeze a o) H σ s' t := by
  obtain ⟨hF, _, hj⟩ := ok.own a j ha
  have sm := freeze_same (o := o) hF
  refine ⟨fun b u e => ?_, ok.len.trans hl.symm, fun i q v h1 h2 => ?_, fun b i e => ?_, by rw [hl]; exact ok.tN, fun p g e => ?_, by rw [hb]; exact ok.nob⟩
  · by_cases hb : b = a
    · subst hb
      have e' : upd w.F b o b = some u := e
      rw [upd_same] at e'
      rw [hH]; exact e'
    · have e' : upd w.F a o b = some u := e
      rw [upd_ne hb] at e'
      exact ok.sub b u e'
  · rcases hsl i q v h1 h2 with ⟨h3, hne⟩ | ⟨y, z, rfl, rfl, h3⟩
    · have hs := ok.sl i q v h3 h2
      cases q with
      | none => trivial
      | some q =>
        cases q with
        | d y => obtain ⟨z, e1, h4⟩ := hs; exact ⟨z, e1, Rep.mono sm y z h4⟩
        | o c =>
          obtain ⟨z, e1, h4⟩ := hs
          refine ⟨z, e1, ?_⟩
          have hij := hne c rfl
          have na : ∀ b, w.O b = some i → b ≠ a := fun b hb e => by subst e; rw [ha] at hb; cases hb; exact hij rfl
          cases c with
          | lst ds =>
            obtain ⟨b, xs, e2, h5, h6, h7⟩ := h4
            exact ⟨b, xs, e2, by show (if b = a then none else w.O b) = _; rw [if_neg (na b h5)]; exact h5, h6, RepL.mono sm ds xs h7⟩
          | dK ds =>
            obtain ⟨b, xs, e2, h5, h6, h7⟩ := h4
            exact ⟨b, xs, e2, by show (if b = a then none else w.O b) = _; rw [if_neg (na b h5)]; exact h5, h6, RepK.mono sm ds xs h7⟩
          | dT ds =>
            obtain ⟨b, xs, e2, h5, h6, h7⟩ := h4
            exact ⟨b, xs, e2, by show (if b = a then none else w.O b) = _; rw [if_neg (na b h5)]; exact h5, h6, RepT.mono sm ds xs h7⟩
        | sl _ => exact hs.elim
        | bx => exact hs
        | st _ => obtain ⟨b, e1, h4⟩ := hs; exact ⟨b, e1, h4.mono sm⟩
    · exact ⟨z, rfl, h3⟩
  · have e' : (if b = a then none else w.O b) = some i := e
    by_cases hb : b = a
    · rw [if_pos hb] at e'; cases e'
    · rw [if_neg hb] at e'
      obtain ⟨q1, q2, q3⟩ := ok.own b i e'
      exact ⟨by show upd w.F a o b = none; rw [upd_ne hb]; exact q1, q2, q3⟩
  · obtain ⟨bo, o1, o2⟩ := ok.box p g e
    have np : p ≠ a := fun z => by subst z; rw [ha] at o1; cases o1
    have ng : g ≠ a := fun z => by subst z; rw [ha] at o2; cases o2
    refine ⟨⟨?_, ?_, bo.ne, by rw [hb]; exact bo.hp, by rw [hb]; exact bo.hg⟩, ?_, ?_⟩
    · show upd w.F a o p = none; rw [upd_ne np]; exact bo.fp
    · show upd w.F a o g = none; rw [upd_ne ng]; exact bo.fg
    · show (if p = a then none else w.O p) = none; rw [if_neg np]; exact o1
    · show (if g = a then none else w.O g) = none; rw [if_neg ng]; exact o2
end
/-- the step of giving up -/
theorem freeze_step {K : PySem.W.Frag} {t t0 n j : Nat} {w : Wd} {H : Hp} {σ : St} {s : S} {a : Addr} {o : HO} (ok : OKs K w H σ s t) (ha : w.O a = some j) (hH : H a = some o) (hj : j < n ∨ t0 ≤ j) : Step n t0 w H (w.freeze a o) H where
  F := freeze_same (ok.own a j ha).1
  keep := fun _ _ h _ _ => h
  there := fun b u h => ⟨u, h⟩
  tmp := fun b i h h1 h2 => by
    show (if b = a then none else w.O b) = some i
    have : b ≠ a := fun e => by subst e; rw [ha] at h; cases h; omega
    rw [if_neg this]; exact h
  newF := fun b h => by
    by_cases hb : b = a
    · subst hb; exact .inr (.inr (.inl ⟨j, ha, hj⟩))
    · have h' : upd w.F a o b ≠ none := h
      rw [upd_ne hb] at h'
      exact .inl h'
  newO := fun b i h => by
    have h' : (if b = a then none else w.O b) = some i := h
    by_cases hb : b = a
    · rw [if_pos hb] at h'; cases h'
    · rw [if_neg hb] at h'
      exact .inr (by rw [h']; simp)
  newT := fun b i h _ => by
    have h' : (if b = a then none else w.O b) = some i := h
    by_cases hb : b = a
    · rw [if_pos hb] at h'; cases h'
    · rw [if_neg hb] at h'; exact .inr h'
  B := .inl rfl
section
variable {K : PySem.W.Frag} {n t t0 τ : Nat} {w w' : Wd} {H H' : Hp} {σ : St} {s s' : S}
theorem set_get {α : Type} {l : List α} {i j : Nat} {x y : α} (h : (l.set i x)[j]? = some y) : (j = i ∧ y = x) ∨ (j ≠ i ∧ l[j]? = some y) := by
  by_cases e : i = j
  · subst e
    rw [List.getElem?_set] at h
    split at h
    · split at h
      · cases h; exact .inl ⟨rfl, rfl⟩
      · cases h
    · rename_i q; exact absurd rfl q
  · rw [List.getElem?_set_ne e] at h
    exact .inr ⟨Ne.symm e, h⟩
theorem take1_b {r : R} {x : D} (e : take1 s r = some (x, s')) : s'.b = s.b := by
  cases r with
  | d y => cases e; rfl
  | o c => simp only [take1, Option.map_eq_some_iff] at e; obtain ⟨y, _, e⟩ := e; cases e; rfl
  | sl i =>
    simp only [take1] at e
    split at e
    · cases e; rfl
    · simp only [Option.map_eq_some_iff] at e; obtain ⟨y, _, e⟩ := e; cases e; rfl
    · cases e
  | bx => cases e
  | st _ => cases e
/-- what an owner holds, taken as data -/
theorem own_take {c : C} {u : V} {x : D} {j : Nat} (ok : OKs K w H σ s t) (h : Own K w H j c u) (e : c.data = some x) :
    ∃ a o, u = .ref a ∧ w.O a = some j ∧ H a = some o ∧ Rep K (w.freeze a o).F x u := by
  cases c with
  | lst ds =>
    obtain ⟨a, xs, rfl, h1, h2, h3⟩ := h
    cases e
    refine ⟨a, _, rfl, h1, h2, ?_⟩
    simp only [Rep]
    exact ⟨a, xs, rfl, .inl (.inl upd_same), RepL.mono (freeze_same (ok.own a j h1).1) ds xs h3⟩
  | dK ds =>
    obtain ⟨a, xs, rfl, h1, h2, h3⟩ := h
    cases e
    refine ⟨a, _, rfl, h1, h2, ?_⟩
    simp only [Rep]
    exact ⟨a, xs, rfl, upd_same, RepD.mono (freeze_same (ok.own a j h1).1) _ xs (RepK.dict ds xs h3)⟩
  | dT ds => cases e
theorem take1_ok {r : R} {u : V} {x : D} (ok : OKs K w H σ s t) (h : RelR K w H σ s τ r u) (e : take1 s r = some (x, s')) (ht : t0 ≤ τ) (hn : s.a.length ≤ t0) :
    ∃ w', OKs K w' H σ s' t ∧ Step s.a.length t0 w H w' H ∧ Rep K w'.F x u ∧ Slotted s s' ∧ s'.a.length = s.a.length ∧ (∀ a i, s.a.length ≤ i → i ≠ τ → w.O a = some i → w'.O a = some i) := by
  cases r with
  | d y =>
    cases e
    exact ⟨w, ok, .refl, h, .refl, rfl, fun _ _ _ _ q => q⟩
  | o c =>
    simp only [take1, Option.map_eq_some_iff] at e
    obtain ⟨y, e1, e⟩ := e
    cases e
    obtain ⟨a, o, rfl, h1, h2, h3⟩ := own_take ok h e1
    refine ⟨w.freeze a o, freeze_ok ok h1 h2 rfl rfl fun i q v q1 q2 => .inl ⟨q1, fun c _ e => ?_⟩, freeze_step ok h1 h2 (.inr ht), h3, .refl, rfl, fun b i _ hi q => ?_⟩
    · have : i < s.a.length := (List.getElem?_eq_some_iff.mp q1).1
      omega
    · show (if b = a then none else w.O b) = some i
      rw [if_neg (fun z => by subst z; rw [h1] at q; cases q; exact hi rfl)]
      exact q
  | sl i =>
    obtain ⟨q, h1, h2⟩ := h
    simp only [take1, h1] at e
    have hs := ok.sl i _ _ h1 h2
    cases q with
    | d y =>
      cases e
      obtain ⟨v, e1, h3⟩ := hs
      cases e1
      exact ⟨w, ok, .refl, h3, .refl, rfl, fun _ _ _ _ q => q⟩
    | o c =>
      simp only [Option.map_eq_some_iff] at e
      obtain ⟨y, e1, e⟩ := e
      cases e
      obtain ⟨v, e2, h3⟩ := hs
      cases e2
      obtain ⟨a, o, rfl, h4, h5, h6⟩ := own_take ok h3 e1
      have hil : i < s.a.length := (List.getElem?_eq_some_iff.mp h1).1
      refine ⟨w.freeze a o, freeze_ok ok h4 h5 rfl (by simp) fun k q v q1 q2 => ?_, freeze_step ok h4 h5 (.inl hil), h6, fun k q hk => ?_, by simp, fun b k hk _ q => ?_⟩
      · rcases set_get q1 with ⟨rfl, rfl⟩ | ⟨hk, q3⟩
        · rw [h2] at q2; cases q2
          exact .inr ⟨x, _, rfl, rfl, h6⟩
        · exact .inl ⟨q3, fun _ _ => hk⟩
      · by_cases hki : k = i
        · subst hki
          exact ⟨.d x, by simp [hil]⟩
        · exact ⟨q, by rw [List.getElem?_set_ne (Ne.symm hki)]; exact hk⟩
      · show (if b = a then none else w.O b) = some k
        rw [if_neg (fun z => by subst z; rw [h4] at q; cases q; omega)]
        exact q
    | sl _ => cases e
    | bx => cases e
    | st _ => cases e
  | bx => cases e
  | st _ => cases e
theorem RelR.other {r : R} {u : V} {τ2 : Nat} (ok : OKs K w H σ s t) (h : RelR K w H σ s τ2 r u) (hF : Same w.F w'.F) (hB : w'.B = w.B) (hO : ∀ a, w.O a = some τ2 → w'.O a = some τ2) (hs : Slotted s s') : RelR K w' H σ s' τ2 r u := by
  cases r with
  | d y => exact Rep.mono hF y u h
  | o c =>
    cases c with
    | lst ds => obtain ⟨a, xs, e, h1, h2, h3⟩ := h; exact ⟨a, xs, e, hO a h1, h2, RepL.mono hF ds xs h3⟩
    | dK ds => obtain ⟨a, xs, e, h1, h2, h3⟩ := h; exact ⟨a, xs, e, hO a h1, h2, RepK.mono hF ds xs h3⟩
    | dT ds => obtain ⟨a, xs, e, h1, h2, h3⟩ := h; exact ⟨a, xs, e, hO a h1, h2, RepT.mono hF ds xs h3⟩
  | sl i =>
    obtain ⟨q, h1, h2⟩ := h
    obtain ⟨q', h3⟩ := hs i q h1
    exact ⟨q', h3, h2⟩
  | bx =>
    obtain ⟨p, g, e, h1⟩ := h
    exact ⟨p, g, hB.trans e, h1⟩
  | st _ => exact h.elim
theorem RelRs.other {hi : Nat} (ok : OKs K w H σ s t) (hF : Same w.F w'.F) (hB : w'.B = w.B) (hs : Slotted s s') : ∀ (rs : List R) (us : List V) (τ : Nat), RelRs K w H σ s hi τ rs us → (∀ a i, τ ≤ i → w.O a = some i → w'.O a = some i) → RelRs K w' H σ s' hi τ rs us
  | [], _, _, h, _ => h
  | r :: rs, _, τ, ⟨x, q, τ2, e, a1, a2, h1, h2⟩, hO => ⟨x, q, τ2, e, a1, a2, RelR.other ok h1 hF hB (fun a => hO a τ2 a1) hs, RelRs.other ok hF hB hs rs q (τ2 + 1) h2 fun a i hi => hO a i (by omega)⟩
end
theorem take1_B {K : PySem.W.Frag} {n t0 : Nat} {w w' : Wd} {H : Hp} (h : Step n t0 w H w' H) (hb : ∀ p g, w'.B = some (p, g) → ∃ o, H p = some o) : w'.B = w.B := by
  rcases h.B with e | ⟨e, f⟩
  · exact e
  · cases q : w'.B with
    | none => exact e.symm
    | some pg =>
      obtain ⟨p, g⟩ := pg
      obtain ⟨o, ho⟩ := hb p g q
      rw [(f p g q).1] at ho; cases ho
section
variable {K : PySem.W.Frag} {n t t0 τ : Nat} {w w' : Wd} {H H' : Hp} {σ : St}
theorem takes_ok {hi : Nat} : ∀ (rs : List R) (us : List V) (xs : List D) (s s' : S) (w : Wd) (τ : Nat), OKs K w H σ s t → RelRs K w H σ s hi τ rs us → takes s rs = some (xs, s') → t0 ≤ τ → s.a.length ≤ t0 →
    ∃ w', OKs K w' H σ s' t ∧ Step s.a.length t0 w H w' H ∧ RepL K w'.F xs us ∧ Slotted s s' ∧ s'.a.length = s.a.length
  | [], _, _, s, _, w, _, ok, h, e, _, _ => by
    cases e
    simp only [RelRs] at h
    subst h
    exact ⟨w, ok, .refl, .nil, .refl, rfl⟩
  | r :: rs, _, _, s, s', w, τ, ok, ⟨x, q, τ2, rfl, a1, a2, h1, h2⟩, e, ht, hn => by
    simp only [takes] at e
    split at e
    · cases e
    · rename_i y s1 e1
      split at e
      · cases e
      · rename_i ys s2 e2
        cases e
        obtain ⟨w1, ok1, st1, p1, sl1, l1, o1⟩ := take1_ok (t0 := t0) ok h1 e1 (by omega) hn
        have hB : w1.B = w.B := take1_B (K := K) st1 fun p g z => ⟨_, (ok1.box p g z).1.hp⟩
        have h2' := RelRs.other ok st1.F hB sl1 rs q (τ2 + 1) h2 fun a i hi => o1 a i (by omega) (by omega)
        obtain ⟨w2, ok2, st2, p2, sl2, l2⟩ := takes_ok rs q ys s1 _ w1 (τ2 + 1) ok1 h2' e2 (by omega) (by omega)
        rw [l1] at st2
        exact ⟨w2, ok2, st1.trans st2, .cons (Rep.mono st2.F y x p1) p2, sl1.trans sl2, l2.trans l1⟩
end
end Qz
namespace Qz
open PySem PySem.Spec L2
open PyProof.Rows hiding St

/-! ## small facts of states -/
section
variable {K : PySem.W.Frag} {n t t0 t1 : Nat} {w w' : Wd} {H H' : Hp} {σ : St} {s s' : S}
theorem OKs.up (ok : OKs K w H σ s t) (h : t ≤ t1) : OKs K w H σ s t1 :=
  ⟨ok.sub, ok.len, ok.sl, fun a i e => let ⟨a1, a2, a3⟩ := ok.own a i e; ⟨a1, a2, Nat.lt_of_lt_of_le a3 h⟩, Nat.le_trans ok.tN h, ok.box, ok.nob⟩
theorem OKs.slen (ok : OKs K w H σ s t) (ok' : OKs K w' H' σ s' t1) : s'.a.length = s.a.length := ok'.len.symm.trans ok.len
/-- a new object that stays -/
def Wd.lay (w : Wd) (p : Addr) (o : HO) : Wd := { w with F := upd w.F p o }
theorem Step.free (st : Step n t0 w H w' H') {p : Addr} (h : H' p = none) : H p = none := by
  cases e : H p with
  | none => rfl
  | some o =>
    obtain ⟨o', h'⟩ := st.there p o e
    rw [h] at h'; cases h'
theorem SlR.mono {i : Nat} {q : Option R} {v : Option V} (h : SlR K w H i q v) (hF : Same w.F w'.F) (hB : w'.B = w.B) (hO : ∀ a, w.O a = some i → w'.O a = some i ∧ H' a = H a) : SlR K w' H' i q v := by
  cases q with
  | none => trivial
  | some r =>
    cases r with
    | d y => obtain ⟨u, e, h1⟩ := h; exact ⟨u, e, Rep.mono hF y u h1⟩
    | o c =>
      obtain ⟨u, e, h1⟩ := h
      refine ⟨u, e, ?_⟩
      cases c with
      | lst ds => obtain ⟨a, xs, e, q1, q2, q3⟩ := h1; exact ⟨a, xs, e, (hO a q1).1, (hO a q1).2.trans q2, RepL.mono hF ds xs q3⟩
      | dK ds => obtain ⟨a, xs, e, q1, q2, q3⟩ := h1; exact ⟨a, xs, e, (hO a q1).1, (hO a q1).2.trans q2, RepK.mono hF ds xs q3⟩
      | dT ds => obtain ⟨a, xs, e, q1, q2, q3⟩ := h1; exact ⟨a, xs, e, (hO a q1).1, (hO a q1).2.trans q2, RepT.mono hF ds xs q3⟩
    | sl _ => exact h
    | bx => obtain ⟨p, g, e, h1⟩ := h; exact ⟨p, g, hB.trans e, h1⟩
    | st _ => obtain ⟨a, e, h1⟩ := h; exact ⟨a, e, h1.mono hF⟩
theorem lay_ok {p : Addr} {o : HO} (ok : OKs K w H σ s t) (hp : H p = none) : OKs K (w.lay p o) (upd H p o) σ s t := by
  have hF : w.F p = none := by
    cases e : w.F p with
    | none => rfl
    | some u => have := ok.sub p u e; rw [hp] at this; cases this
  have sm : Same w.F (w.lay p o).F := fun b u e => by show upd w.F p o b = _; rw [upd_ne (ne_of_none e hF)]; exact e
  have on : ∀ a i, w.O a = some i → a ≠ p := fun a i h => by
    obtain ⟨_, ⟨u, h2, _⟩, _⟩ := ok.own a i h
    exact ne_of_none h2 hp
  refine ⟨fun b u e => ?_, ok.len, fun i q v h1 h2 => SlR.mono (ok.sl i q v h1 h2) sm rfl (fun a ha => ⟨ha, upd_ne (on a i ha)⟩), fun a i e => ?_, ok.tN, fun q g e => ?_, ok.nob⟩
  · have e' : upd w.F p o b = some u := e
    by_cases hb : b = p
    · subst hb; rw [upd_same] at e' ⊢; exact e'
    · rw [upd_ne hb] at e' ⊢; exact ok.sub b u e'
  · obtain ⟨h1, ⟨u, h2, nt⟩, h3⟩ := ok.own a i e
    have := on a i e
    exact ⟨by show upd w.F p o a = none; rw [upd_ne this]; exact h1, ⟨u, by rw [upd_ne this]; exact h2, nt⟩, h3⟩
  · obtain ⟨b, o1, o2⟩ := ok.box q g e
    have n1 : q ≠ p := ne_of_none b.hp hp
    have n2 : g ≠ p := ne_of_none b.hg hp
    exact ⟨⟨by show upd w.F p o q = none; rw [upd_ne n1]; exact b.fp, by show upd w.F p o g = none; rw [upd_ne n2]; exact b.fg, b.ne, by rw [upd_ne n1]; exact b.hp, by rw [upd_ne n2]; exact b.hg⟩, o1, o2⟩
theorem lay_step {p : Addr} {o : HO} (ok : OKs K w H σ s t) (hp : H p = none) : Step n t0 w H (w.lay p o) (upd H p o) where
  F := fun b u e => by
    have hF : w.F p = none := by
      cases e : w.F p with
      | none => rfl
      | some u => have := ok.sub p u e; rw [hp] at this; cases this
    show upd w.F p o b = _
    rw [upd_ne (ne_of_none e hF)]; exact e
  keep := fun a u h _ _ => by rw [upd_ne (ne_of_none h hp)]; exact h
  there := fun a u h => ⟨u, by rw [upd_ne (ne_of_none h hp)]; exact h⟩
  tmp := fun _ _ h _ _ => h
  newF := fun a h => by
    by_cases ha : a = p
    · subst ha; exact .inr (.inl hp)
    · have h' : upd w.F p o a ≠ none := h
      rw [upd_ne ha] at h'; exact .inl h'
  newO := fun a i h => .inr (by rw [show w.O a = some i from h]; simp)
  newT := fun a i h _ => .inr h
  B := .inl rfl
/-- a new object with an owner -/
def Wd.give (w : Wd) (p : Addr) (t : Nat) : Wd := { w with O := fun b => if b = p then some t else w.O b }
theorem give_ok {p : Addr} {o : HO} (ok : OKs K w H σ s t) (hp : H p = none) (nt : NT o := by exact fun _ h => nomatch h) : OKs K (w.give p t) (upd H p o) σ s (t + 1) := by
  have hF : w.F p = none := by
    cases e : w.F p with
    | none => rfl
    | some u => have := ok.sub p u e; rw [hp] at this; cases this
  have on : ∀ a i, w.O a = some i → a ≠ p := fun a i h => by
    obtain ⟨_, ⟨u, h2, _⟩, _⟩ := ok.own a i h
    exact ne_of_none h2 hp
  refine ⟨fun b u e => ?_, ok.len, fun i q v h1 h2 => SlR.mono (ok.sl i q v h1 h2) (Same.refl _) rfl (fun a ha => ⟨?_, upd_ne (on a i ha)⟩), fun a i e => ?_, Nat.le_succ_of_le ok.tN, fun q g e => ?_, ok.nob⟩
  · have e' : w.F b = some u := e
    rw [upd_ne (ne_of_none e' hF)]; exact ok.sub b u e'
  · show (if a = p then some t else w.O a) = some i
    rw [if_neg (on a i ha)]; exact ha
  · have e' : (if a = p then some t else w.O a) = some i := e
    by_cases ha : a = p
    · rw [if_pos ha] at e'; cases e'
      subst ha
      exact ⟨hF, ⟨o, upd_same, nt⟩, Nat.lt_succ_self _⟩
    · rw [if_neg ha] at e'
      obtain ⟨h1, ⟨u, h2, nt⟩, h3⟩ := ok.own a i e'
      exact ⟨h1, ⟨u, by rw [upd_ne ha]; exact h2, nt⟩, Nat.lt_succ_of_lt h3⟩
  · obtain ⟨b, o1, o2⟩ := ok.box q g e
    have n1 : q ≠ p := ne_of_none b.hp hp
    have n2 : g ≠ p := ne_of_none b.hg hp
    refine ⟨⟨b.fp, b.fg, b.ne, by rw [upd_ne n1]; exact b.hp, by rw [upd_ne n2]; exact b.hg⟩, ?_, ?_⟩
    · show (if q = p then some t else w.O q) = none; rw [if_neg n1]; exact o1
    · show (if g = p then some t else w.O g) = none; rw [if_neg n2]; exact o2
theorem give_step {p : Addr} {o : HO} (ok : OKs K w H σ s t) (hp : H p = none) : Step n t0 w H (w.give p t) (upd H p o) where
  F := Same.refl _
  keep := fun a u h _ _ => by rw [upd_ne (ne_of_none h hp)]; exact h
  there := fun a u h => ⟨u, by rw [upd_ne (ne_of_none h hp)]; exact h⟩
  tmp := fun a i h _ _ => by
    show (if a = p then some t else w.O a) = some i
    obtain ⟨_, ⟨u, h2, _⟩, _⟩ := ok.own a i h
    rw [if_neg (ne_of_none h2 hp)]; exact h
  newF := fun a h => .inl h
  newO := fun a i h => by
    have h' : (if a = p then some t else w.O a) = some i := h
    by_cases ha : a = p
    · subst ha; exact .inl hp
    · rw [if_neg ha] at h'; exact .inr (by rw [h']; simp)
  newT := fun a i h _ => by
    have h' : (if a = p then some t else w.O a) = some i := h
    by_cases ha : a = p
    · subst ha; exact .inl hp
    · rw [if_neg ha] at h'; exact .inr h'
  B := .inl rfl
end

/-! ## the judgements -/
section
variable (K : PySem.W.Frag)
def SndE (te : TE) (m : ME) : Prop := ∀ (σ : St) (H : Hp) (w : Wd) (s : S) (t : Nat) (Q : VK) (r : R) (s' : S), OKs K w H σ s t → m s = .ok r s' →
  (∀ w' H' x t' τ, t ≤ τ → τ < t' → OKs K w' H' σ s' t' → Step s.a.length t w H w' H' → Slotted s s' → RelR K w' H' σ s' τ r x → Q x H') → te σ H Q
def SndA (ta : TA) (m : MA) : Prop := ∀ (σ : St) (H : Hp) (w : Wd) (s : S) (t : Nat) (Q : List V → Hp → Prop) (rs : List R) (s' : S), OKs K w H σ s t → m s = .ok rs s' →
  (∀ w' H' xs t', t ≤ t' → OKs K w' H' σ s' t' → Step s.a.length t w H w' H' → Slotted s s' → RelRs K w' H' σ s' t' t rs xs → Q xs H') → ta σ H Q
def SndT (tt : TT) (m : MT) : Prop := ∀ (σ : St) (H : Hp) (w : Wd) (s : S) (t : Nat) (Q : Bool → Hp → Prop) (b : Bool) (s' : S), OKs K w H σ s t → m s = .ok b s' →
  (∀ w' H' t', t ≤ t' → OKs K w' H' σ s' t' → Step s.a.length t w H w' H' → Slotted s s' → Q b H') → tt σ H Q
end
structure RE (X : Cx) (e : Expr) (m : ME) : Prop where
  ex : ∃ te, PE X e te ∧ SndE X.K te m
structure RA (X : Cx) (es : List Expr) (m : MA) : Prop where
  ex : ∃ ta, PA X es ta ∧ SndA X.K ta m
structure RT (X : Cx) (e : Expr) (m : MT) : Prop where
  ex : ∃ tt, PT X e tt ∧ SndT X.K tt m
structure RW (X : Cx) (e : Expr) (m : MT) : Prop where
  ex : ∃ tt, PW X e tt ∧ SndT X.K tt m

/-! ## what expressions are worth -/
def mVar (i : Nat) : ME := fun s => match s.a[i]? with
  | some (some (.d x)) => .ok (.d x) s
  | some (some (.o _)) => .ok (.sl i) s
  | some (some .bx) => .ok .bx s
  | _ => .no
def mC (x : D) : ME := fun s => .ok (.d x) s
def mNil : MA := fun s => .ok [] s
def mCons (m : ME) (ms : MA) : MA := fun s => match m s with
  | .no => .no
  | .ok r s1 => match ms s1 with
    | .no => .no
    | .ok rs s2 => .ok (r :: rs) s2
/-- a list of results taken as data -/
def mData (ms : MA) (f : List D → Option R) : ME := fun s => match ms s with
  | .no => .no
  | .ok rs s1 => match takes s1 rs with
    | none => .no
    | some (xs, s2) => match f xs with
      | none => .no
      | some r => .ok r s2
def dTup (xs : List D) : Option R := if xs.length ≤ sizeLine then some (.d (.tuple xs)) else none
def dLst (xs : List D) : Option R := if xs.length ≤ sizeLine then some (.o (.lst xs)) else none
def mTup (ms : MA) : ME := mData ms dTup
def mLst (ms : MA) : ME := mData ms dLst
/-- two results, read where they stand -/
def mOp (f : D → D → Option R) (m1 m2 : ME) : ME := fun s => match m1 s with
  | .no => .no
  | .ok r1 s1 => match m2 s1 with
    | .no => .no
    | .ok r2 s2 => match view s2 r1 with
      | none => .no
      | some x => match view s2 r2 with
        | none => .no
        | some y => match f x y with
          | none => .no
          | some r => .ok r s2
def mUn (f : D → Option R) (m1 : ME) : ME := fun s => match m1 s with
  | .no => .no
  | .ok r1 s1 => match view s1 r1 with
      | none => .no
      | some x => match f x with
          | none => .no
          | some r => .ok r s1

section
variable {X : Cx} {e a b : Expr} {es : List Expr} {m m1 m2 : ME} {ms : MA} {pos : Pos}
theorem re_var (i : Nat) {x : Str} (hN : X.N[i]? = some x := by rfl) (hv : Vis X.env.scope x := by first | exact Or.inl rfl | exact Or.inr (Or.inl rfl) | exact Or.inr (Or.inr rfl)) (hd : (x == ("__debug__" : Str)) = false := by decide)
    (hcd : (x == ("__classdict__" : Str)) = false := by decide) : RE X (.Name x pos) (mVar i) := by
  refine ⟨tVar i, pe_var hN hv hd hcd, fun σ H w s t Q r s' ok e k => ?_⟩
  simp only [mVar] at e
  have hi : i < s.a.length ∧ ∃ q, s.a[i]? = some q := by
    split at e
    all_goals first | (rename_i h; exact ⟨(List.getElem?_eq_some_iff.mp h).1, _, h⟩) | cases e
  have hv : ∃ v, σ[i]? = some v := ⟨σ[i]'(by rw [ok.len]; exact hi.1), by simp [ok.len, hi.1]⟩
  obtain ⟨v, hv⟩ := hv
  split at e
  · rename_i x h
    cases e
    obtain ⟨u, rfl, h1⟩ := ok.sl i _ _ h hv
    exact ⟨u, hv, k w H u (t + 1) t (Nat.le_refl _) (Nat.lt_succ_self _) (ok.up (Nat.le_succ _)) .refl .refl h1⟩
  · rename_i c h
    cases e
    obtain ⟨u, rfl, h1⟩ := ok.sl i _ _ h hv
    exact ⟨u, hv, k w H u (t + 1) t (Nat.le_refl _) (Nat.lt_succ_self _) (ok.up (Nat.le_succ _)) .refl .refl ⟨_, h, hv⟩⟩
  · rename_i h
    cases e
    obtain ⟨p, g, hB, rfl⟩ := ok.sl i _ _ h hv
    exact ⟨_, hv, k w H _ (t + 1) t (Nat.le_refl _) (Nat.lt_succ_self _) (ok.up (Nat.le_succ _)) .refl .refl ⟨p, g, hB, rfl⟩⟩
  · cases e
theorem re_c {x : V} {d : D} (h : PE X e (tC x)) (hr : ∀ (F : Hp), Rep X.K F d x) : RE X e (mC d) :=
  ⟨_, h, fun σ H w s t Q r s' ok e k => by cases e; exact k w H x (t + 1) t (Nat.le_refl _) (Nat.lt_succ_self _) (ok.up (Nat.le_succ _)) .refl .refl (hr _)⟩
theorem re_int {i j} : RE X (.Constant (.int i) j pos) (mC (.int i)) := re_c pe_int fun F => by simp only [Rep]
theorem re_bl {i j} : RE X (.Constant (.bool i) j pos) (mC (.bool i)) := re_c pe_bl fun F => by simp only [Rep]
theorem re_non {j} : RE X (.Constant .none j pos) (mC .none) := re_c pe_non fun F => by simp only [Rep]
theorem re_str {i j} : RE X (.Constant (.str i) j pos) (mC (.str i)) := re_c pe_str fun F => by simp only [Rep]
theorem re_glob {x : Str} {i : Int} {u : Value} (hg : Gl X x) (hm : X.mg x = some u) (r : RelV (.int i) u) (hd : (x == ("__debug__" : Str)) = false := by decide) : RE X (.Name x pos) (mC (.int i)) := re_c (pe_glob hg hm r hd) fun F => by simp only [Rep]
theorem RelRs.lo {K : PySem.W.Frag} {w : Wd} {H : Hp} {σ : St} {s : S} {hi t1 t2 : Nat} (rs : List R) (xs : List V) (h : RelRs K w H σ s hi t1 rs xs) (ht : t2 ≤ t1) : RelRs K w H σ s hi t2 rs xs := by
  cases rs with
  | nil => exact h
  | cons r rs =>
    obtain ⟨x, q, τ, e, a1, a2, h1, h2⟩ := h
    exact ⟨x, q, τ, e, by omega, a2, h1, h2⟩
theorem ra_nil : RA X [] mNil := ⟨_, pa_nil, fun σ H w s t Q r s' ok e k => by
  cases e
  exact k w H [] t (Nat.le_refl _) ok .refl .refl rfl⟩
theorem ra_cons (h : RE X e m) (hr : RA X es ms) (hs : starEach (e :: es) X.env = (false, eval e X.env) :: starEach es X.env := by rfl) : RA X (e :: es) (mCons m ms) := by
  obtain ⟨te, h1, h2⟩ := h
  obtain ⟨ta, h3, h4⟩ := hr
  refine ⟨_, pa_cons h1 h3 hs, fun σ H w s t Q r s' ok e k => ?_⟩
  simp only [mCons] at e
  split at e
  · cases e
  · rename_i r1 s1 e1
    split at e
    · cases e
    · rename_i rs s2 e2
      cases e
      refine h2 σ H w s t _ r1 s1 ok e1 fun w1 H1 x t1 τ a1 a2 ok1 st1 sl1 rel1 => ?_
      refine h4 σ H1 w1 s1 t1 _ rs _ ok1 e2 fun w2 H2 xs t2 a3 ok2 st2 sl2 rel2 => ?_
      have l := ok.slen ok1
      have tN := ok.tN
      rw [l] at st2
      refine k w2 H2 (x :: xs) t2 (by omega) ok2 (st1.trans (st2.mono (by omega))) (sl1.trans sl2) ⟨x, xs, τ, rfl, a1, by omega, ?_, RelRs.lo rs xs rel2 (by omega)⟩
      exact RelR.keep ok1 rel1 (by rw [l]; exact st2) (by omega) (by omega) sl2
/-- what is made of a list of data -/
def MkS (K : PySem.W.Frag) (rd : List V → Hp → VK → Prop) (f : List D → Option R) : Prop := ∀ (w : Wd) (H : Hp) (σ : St) (s : S) (t : Nat) (us : List V) (xs : List D) (r : R) (Q : VK), OKs K w H σ s t → RepL K w.F xs us → f xs = some r →
  (∀ w' H' z, OKs K w' H' σ s (t + 1) → Step s.a.length t w H w' H' → RelR K w' H' σ s t r z → Q z H') → rd us H Q
theorem re_data {rd : List V → Hp → VK → Prop} {f : List D → Option R} (hp : ∀ ta, PA X es ta → PE X e (fun σ H Q => ta σ H fun us H1 => rd us H1 Q)) (hr : RA X es ms) (hm : MkS X.K rd f) : RE X e (mData ms f) := by
  obtain ⟨ta, h1, h2⟩ := hr
  refine ⟨_, hp ta h1, fun σ H w s t Q r s' ok e k => ?_⟩
  simp only [mData] at e
  split at e
  · cases e
  · rename_i rs s1 e1
    split at e
    · cases e
    · rename_i xs s2 e2
      split at e
      · cases e
      · rename_i r' e3
        cases e
        refine h2 σ H w s t _ rs s1 ok e1 fun w1 H1 us t1 a1 ok1 st1 sl1 rel1 => ?_
        have l := ok.slen ok1
        obtain ⟨w2, ok2, st2, rep, sl2, l2⟩ := takes_ok (t0 := t) rs us xs s1 s' w1 t ok1 rel1 e2 (Nat.le_refl _) (by rw [l]; exact ok.tN)
        refine hm w2 H1 σ s' t1 us xs r Q ok2 rep e3 fun w3 H3 z ok3 st3 rel3 => ?_
        rw [l] at st2
        rw [l2, l] at st3
        exact k w3 H3 z (t1 + 1) t1 a1 (Nat.lt_succ_self _) ok3 ((st1.trans st2).trans (st3.mono a1)) (sl1.trans sl2) rel3
end
end Qz
namespace Qz
open PySem PySem.Spec L2
open PyProof.Rows hiding St

section
variable {K : PySem.W.Frag} {n t : Nat} {w w' : Wd} {H H' : Hp} {σ : St} {s s' : S}
theorem mk_tup : MkS K (fun us H Q => us.length ≤ sizeLine ∧ ∀ p, H p = none → Q (.ref p) (upd H p (.tup us))) dTup := by
  intro w H σ s t us xs r Q ok rep e k
  simp only [dTup] at e
  split at e
  · rename_i h
    cases e
    refine ⟨by rw [← RepL.length xs us rep]; exact h, fun p hp => ?_⟩
    refine k (w.lay p (.tup us)) _ _ ((lay_ok ok hp).up (Nat.le_succ _)) (lay_step ok hp) ?_
    simp only [RelR, Rep]
    exact ⟨p, us, rfl, upd_same, RepL.mono (lay_step (t0 := t) (n := 0) ok hp).F xs us rep⟩
  · cases e
theorem mk_lst : MkS K (fun us H Q => us.length ≤ sizeLine ∧ ∀ p, H p = none → Q (.ref p) (upd H p (.lst us))) dLst := by
  intro w H σ s t us xs r Q ok rep e k
  simp only [dLst] at e
  split at e
  · rename_i h
    cases e
    refine ⟨by rw [← RepL.length xs us rep]; exact h, fun p hp => ?_⟩
    refine k (w.give p t) _ _ (give_ok ok hp) (give_step ok hp) ?_
    exact ⟨p, us, rfl, by show (if p = p then some t else w.O p) = some t; rw [if_pos rfl], upd_same, rep⟩
  · cases e
end
section
variable {X : Cx} {e a b : Expr} {es : List Expr} {m m1 m2 : ME} {ms : MA} {pos : Pos}
theorem re_tup {x1} (h : RA X es ms) : RE X (.Tuple es x1 pos) (mTup ms) := re_data (fun ta h => pe_tup h) h mk_tup
theorem re_lst (h : RA X es ms) : RE X (.List es pos) (mLst ms) := re_data (fun ta h => pe_lst h) h mk_lst

/-! ## two values: operators and comparisons -/
def OpS (K : PySem.W.Frag) (rd : R2) (f : D → D → Option R) : Prop := ∀ (w : Wd) (H : Hp) (σ : St) (s : S) (t : Nat) (u v : V) (x y : D) (r : R) (Q : VK), OKs K w H σ s t → Vw K w.F H x u → Vw K w.F H y v → f x y = some r →
  (∀ w' H' z, OKs K w' H' σ s (t + 1) → Step s.a.length t w H w' H' → RelR K w' H' σ s t r z → Q z H') → rd u v H Q
theorem op2_ok {K : PySem.W.Frag} {te1 te2 : TE} {rd : R2} {f : D → D → Option R} (h1 : SndE K te1 m1) (h2 : SndE K te2 m2) (hf : OpS K rd f) : SndE K (tOp rd te1 te2) (mOp f m1 m2) := by
  intro σ H w s t Q r s' ok e k
  simp only [mOp] at e
  split at e
  · cases e
  · rename_i r1 s1 e1
    split at e
    · cases e
    · rename_i r2 s2 e2
      split at e
      · cases e
      · rename_i x e3
        split at e
        · cases e
        · rename_i y e4
          split at e
          · cases e
          · rename_i r' e5
            cases e
            refine h1 σ H w s t _ r1 s1 ok e1 fun w1 H1 u t1 τ1 a1 a2 ok1 st1 sl1 rel1 => ?_
            refine h2 σ H1 w1 s1 t1 _ r2 _ ok1 e2 fun w2 H2 v t2 τ2 b1 b2 ok2 st2 sl2 rel2 => ?_
            have l := ok.slen ok1
            have l2 := ok.slen ok2
            have tN := ok.tN
            have rel1' := RelR.keep ok1 rel1 st2 (by omega) (by omega) sl2
            rw [l] at st2
            refine hf w2 H2 σ _ t2 u v x y r Q ok2 (RelR.view ok2 rel1' e3) (RelR.view ok2 rel2 e4) e5 fun w3 H3 z ok3 st3 rel3 => ?_
            rw [l2] at st3
            exact k w3 H3 z (t2 + 1) t2 (by omega) (Nat.lt_succ_self _) ok3 ((st1.trans (st2.mono (by omega))).trans (st3.mono (by omega))) (sl1.trans sl2) rel3
theorem re_op {op : Operator} {rd : R2} {f : D → D → Option R} (ho : OpR X (binaryOp op) rd) (hf : OpS X.K rd f) (ha : RE X a m1) (hb : RE X b m2) : RE X (.BinOp a op b pos) (mOp f m1 m2) := by
  obtain ⟨t1, p1, h1⟩ := ha
  obtain ⟨t2, p2, h2⟩ := hb
  exact ⟨_, pe_op ho p1 p2, op2_ok h1 h2 hf⟩
theorem re_cmp {op : CmpOp} {rd : R2} {f : D → D → Option R} (ho : OpR X (compareOp op) rd) (hf : OpS X.K rd f) (ha : RE X a m1) (hb : RE X b m2) (hm : behindInMarks op b = false) : RE X (.Compare a [op] [b] pos) (mOp f m1 m2) := by
  obtain ⟨t1, p1, h1⟩ := ha
  obtain ⟨t2, p2, h2⟩ := hb
  exact ⟨_, pe_cmpR ho p1 p2 hm, op2_ok h1 h2 hf⟩
/-- a value that is a bool, as a test -/
def mB (m : ME) : MT := fun s => match m s with
  | .ok (.d (.bool b)) s1 => .ok b s1
  | _ => .no
theorem b_ok {K : PySem.W.Frag} {te : TE} (h : SndE K te m) : SndT K (fun σ H Q => te σ H fun x H' => ∃ k, x = .bl k ∧ Q k H') (mB m) := by
  intro σ H w s t Q b s' ok e k
  simp only [mB] at e
  split at e
  · rename_i b' s1 e1
    cases e
    refine h σ H w s t _ _ _ ok e1 fun w1 H1 x t1 τ a1 a2 ok1 st1 sl1 rel1 => ?_
    simp only [RelR, Rep] at rel1
    exact ⟨_, rel1, k w1 H1 t1 (by omega) ok1 st1 sl1⟩
  · cases e
theorem rt_cmp {op : CmpOp} {rd : R2} {f : D → D → Option R} (ho : OpR X (compareOp op) rd) (hf : OpS X.K rd f) (ha : RE X a m1) (hb : RE X b m2) (hm : behindInMarks op b = false) : RT X (.Compare a [op] [b] pos) (mB (mOp f m1 m2)) := by
  obtain ⟨t1, p1, h1⟩ := ha
  obtain ⟨t2, p2, h2⟩ := hb
  exact ⟨_, pt_cmpR ho p1 p2 hm, b_ok (op2_ok h1 h2 hf)⟩
theorem rt_val (h : RE X e m) (he : ∀ whole, isTrue e X.env whole = (do let v ← whole; standAt e.pos; holding [v] (truthy v)) := by intro _; rfl) : RT X e (mB m) := by
  obtain ⟨t1, p1, h1⟩ := h
  exact ⟨_, pt_val p1 he, b_ok h1⟩

/-! ## tests -/
def mAnd (a b : MT) : MT := fun s => match a s with
  | .no => .no
  | .ok true s1 => b s1
  | .ok false s1 => .ok false s1
def mOr (a b : MT) : MT := fun s => match a s with
  | .no => .no
  | .ok true s1 => .ok true s1
  | .ok false s1 => b s1
def mNot (a : MT) : MT := fun s => match a s with
  | .no => .no
  | .ok c s1 => .ok (!c) s1
variable {ta tb : MT} {rest : List Expr}
theorem and_ok {K : PySem.W.Frag} {t1 t2 : TT} (h1 : SndT K t1 ta) (h2 : SndT K t2 tb) : SndT K (tAnd t1 t2) (mAnd ta tb) := by
  intro σ H w s t Q b s' ok e k
  simp only [mAnd] at e
  split at e
  · cases e
  · rename_i s1 e1
    refine h1 σ H w s t _ true s1 ok e1 fun w1 H1 t1 a1 ok1 st1 sl1 => ?_
    rw [if_pos rfl]
    refine h2 σ H1 w1 s1 t1 _ b s' ok1 e fun w2 H2 t2 a2 ok2 st2 sl2 => ?_
    rw [ok.slen ok1] at st2
    exact k w2 H2 t2 (by omega) ok2 (st1.trans (st2.mono a1)) (sl1.trans sl2)
  · rename_i s1 e1
    cases e
    refine h1 σ H w s t _ false _ ok e1 fun w1 H1 t1 a1 ok1 st1 sl1 => ?_
    rw [if_neg Bool.false_ne_true]
    exact k w1 H1 t1 a1 ok1 st1 sl1
theorem or_ok {K : PySem.W.Frag} {t1 t2 : TT} (h1 : SndT K t1 ta) (h2 : SndT K t2 tb) : SndT K (tOr t1 t2) (mOr ta tb) := by
  intro σ H w s t Q b s' ok e k
  simp only [mOr] at e
  split at e
  · cases e
  · rename_i s1 e1
    cases e
    refine h1 σ H w s t _ true _ ok e1 fun w1 H1 t1 a1 ok1 st1 sl1 => ?_
    rw [if_pos rfl]
    exact k w1 H1 t1 a1 ok1 st1 sl1
  · rename_i s1 e1
    refine h1 σ H w s t _ false s1 ok e1 fun w1 H1 t1 a1 ok1 st1 sl1 => ?_
    rw [if_neg Bool.false_ne_true]
    refine h2 σ H1 w1 s1 t1 _ b s' ok1 e fun w2 H2 t2 a2 ok2 st2 sl2 => ?_
    rw [ok.slen ok1] at st2
    exact k w2 H2 t2 (by omega) ok2 (st1.trans (st2.mono a1)) (sl1.trans sl2)
theorem not_ok {K : PySem.W.Frag} {t1 : TT} (h1 : SndT K t1 ta) : SndT K (tNot t1) (mNot ta) := by
  intro σ H w s t Q b s' ok e k
  simp only [mNot] at e
  split at e
  · cases e
  · rename_i c s1 e1
    cases e
    exact h1 σ H w s t _ c _ ok e1 fun w1 H1 t1 a1 ok1 st1 sl1 => k w1 H1 t1 a1 ok1 st1 sl1
theorem rw_and1 (h : RT X a ta) : RW X (.BoolOp .And [a] pos) ta := let ⟨t, p, q⟩ := h.ex; ⟨t, pw_and1 p, q⟩
theorem rw_or1 (h : RT X a ta) : RW X (.BoolOp .Or [a] pos) ta := let ⟨t, p, q⟩ := h.ex; ⟨t, pw_or1 p, q⟩
theorem rw_and (h : RT X a ta) (hr : RW X (.BoolOp .And (b :: rest) pos) tb) : RW X (.BoolOp .And (a :: b :: rest) pos) (mAnd ta tb) :=
  let ⟨t, p, q⟩ := h.ex; let ⟨t2, p2, q2⟩ := hr.ex; ⟨_, pw_and p p2, and_ok q q2⟩
theorem rw_or (h : RT X a ta) (hr : RW X (.BoolOp .Or (b :: rest) pos) tb) : RW X (.BoolOp .Or (a :: b :: rest) pos) (mOr ta tb) :=
  let ⟨t, p, q⟩ := h.ex; let ⟨t2, p2, q2⟩ := hr.ex; ⟨_, pw_or p p2, or_ok q q2⟩
theorem RW.rt (h : RW X e ta) : RT X e ta := let ⟨t, p, q⟩ := h.ex; ⟨t, p.pt, q⟩
theorem rt_not (h : RT X a ta) : RT X (.UnaryOp .Not a pos) (mNot ta) := let ⟨t, p, q⟩ := h.ex; ⟨_, pt_not p, not_ok q⟩
/-- .. as values, all of them bools -/
def mAndV (a b : ME) : ME := fun s => match a s with
  | .ok (.d (.bool true)) s1 => b s1
  | .ok (.d (.bool false)) s1 => .ok (.d (.bool false)) s1
  | _ => .no
def mOrV (a b : ME) : ME := fun s => match a s with
  | .ok (.d (.bool true)) s1 => .ok (.d (.bool true)) s1
  | .ok (.d (.bool false)) s1 => b s1
  | _ => .no
def mNotV (a : ME) : ME := fun s => match a s with
  | .ok (.d (.bool c)) s1 => .ok (.d (.bool (!c))) s1
  | _ => .no
def mIte (c : MT) (a b : ME) : ME := fun s => match c s with
  | .no => .no
  | .ok true s1 => a s1
  | .ok false s1 => b s1
theorem re_one {op} (h : RE X a m) : RE X (.BoolOp op [a] pos) m := let ⟨t, p, q⟩ := h.ex; ⟨t, pe_one p, q⟩
theorem re_and (h : RE X a m1) (hr : RE X (.BoolOp .And (b :: rest) pos) m2) : RE X (.BoolOp .And (a :: b :: rest) pos) (mAndV m1 m2) := by
  obtain ⟨t1, p1, h1⟩ := h
  obtain ⟨t2, p2, h2⟩ := hr
  refine ⟨_, pe_and p1 p2, fun σ H w s t Q r s' ok e k => ?_⟩
  simp only [mAndV] at e
  split at e
  · rename_i s1 e1
    refine h1 σ H w s t _ _ s1 ok e1 fun w1 H1 x t1 τ a1 a2 ok1 st1 sl1 rel1 => ?_
    simp only [RelR, Rep] at rel1
    refine ⟨true, rel1, iteT ?_⟩
    refine h2 σ H1 w1 s1 t1 _ r s' ok1 e fun w2 H2 y t2 τ2 b1 b2 ok2 st2 sl2 rel2 => ?_
    rw [ok.slen ok1] at st2
    exact k w2 H2 y t2 τ2 (by omega) b2 ok2 (st1.trans (st2.mono (by omega))) (sl1.trans sl2) rel2
  · rename_i s1 e1
    cases e
    refine h1 σ H w s t _ _ _ ok e1 fun w1 H1 x t1 τ a1 a2 ok1 st1 sl1 rel1 => ?_
    have rel2 := rel1
    simp only [RelR, Rep] at rel1
    subst rel1
    exact ⟨false, rfl, iteF (k w1 H1 _ t1 τ a1 a2 ok1 st1 sl1 rel2)⟩
  · cases e
theorem re_or (h : RE X a m1) (hr : RE X (.BoolOp .Or (b :: rest) pos) m2) : RE X (.BoolOp .Or (a :: b :: rest) pos) (mOrV m1 m2) := by
  obtain ⟨t1, p1, h1⟩ := h
  obtain ⟨t2, p2, h2⟩ := hr
  refine ⟨_, pe_or p1 p2, fun σ H w s t Q r s' ok e k => ?_⟩
  simp only [mOrV] at e
  split at e
  · rename_i s1 e1
    cases e
    refine h1 σ H w s t _ _ _ ok e1 fun w1 H1 x t1 τ a1 a2 ok1 st1 sl1 rel1 => ?_
    have rel2 := rel1
    simp only [RelR, Rep] at rel1
    subst rel1
    exact ⟨true, rfl, iteT (k w1 H1 _ t1 τ a1 a2 ok1 st1 sl1 rel2)⟩
  · rename_i s1 e1
    refine h1 σ H w s t _ _ s1 ok e1 fun w1 H1 x t1 τ a1 a2 ok1 st1 sl1 rel1 => ?_
    simp only [RelR, Rep] at rel1
    refine ⟨false, rel1, iteF ?_⟩
    refine h2 σ H1 w1 s1 t1 _ r s' ok1 e fun w2 H2 y t2 τ2 b1 b2 ok2 st2 sl2 rel2 => ?_
    rw [ok.slen ok1] at st2
    exact k w2 H2 y t2 τ2 (by omega) b2 ok2 (st1.trans (st2.mono (by omega))) (sl1.trans sl2) rel2
  · cases e
theorem re_not (h : RE X a m1) : RE X (.UnaryOp .Not a pos) (mNotV m1) := by
  obtain ⟨t1, p1, h1⟩ := h
  refine ⟨_, pe_not p1, fun σ H w s t Q r s' ok e k => ?_⟩
  simp only [mNotV] at e
  split at e
  · rename_i c s1 e1
    cases e
    refine h1 σ H w s t _ _ _ ok e1 fun w1 H1 x t1 τ a1 a2 ok1 st1 sl1 rel1 => ?_
    simp only [RelR, Rep] at rel1
    exact ⟨c, rel1, k w1 H1 _ t1 τ a1 a2 ok1 st1 sl1 (by simp only [RelR, Rep])⟩
  · cases e
theorem re_ite {c : Expr} {mc : MT} (hc : RT X c mc) (ha : RE X a m1) (hb : RE X b m2) : RE X (.IfExp c a b pos) (mIte mc m1 m2) := by
  obtain ⟨t0, p0, h0⟩ := hc
  obtain ⟨t1, p1, h1⟩ := ha
  obtain ⟨t2, p2, h2⟩ := hb
  refine ⟨_, pe_ifExp p0 p1 p2, fun σ H w s t Q r s' ok e k => ?_⟩
  simp only [mIte] at e
  split at e
  · cases e
  · rename_i s1 e1
    refine h0 σ H w s t _ _ s1 ok e1 fun w1 H1 t1 a1 ok1 st1 sl1 => iteT ?_
    refine h1 σ H1 w1 s1 t1 _ r s' ok1 e fun w2 H2 y t2 τ2 b1 b2 ok2 st2 sl2 rel2 => ?_
    rw [ok.slen ok1] at st2
    exact k w2 H2 y t2 τ2 (by omega) b2 ok2 (st1.trans (st2.mono (by omega))) (sl1.trans sl2) rel2
  · rename_i s1 e1
    refine h0 σ H w s t _ _ s1 ok e1 fun w1 H1 t1 a1 ok1 st1 sl1 => iteF ?_
    refine h2 σ H1 w1 s1 t1 _ r s' ok1 e fun w2 H2 y t2 τ2 b1 b2 ok2 st2 sl2 rel2 => ?_
    rw [ok.slen ok1] at st2
    exact k w2 H2 y t2 τ2 (by omega) b2 ok2 (st1.trans (st2.mono (by omega))) (sl1.trans sl2) rel2
end
end Qz
namespace Qz
open PySem PySem.Spec L2
open PyProof.Rows hiding St

/-! ## reading views -/
section
variable {K : PySem.W.Frag} {F H : Hp} {u : V}
theorem Vw.int {i : Int} (h : Vw K F H (.int i) u) : u = .int i := by
  rcases h with h | ⟨_, _, _, e, _⟩ | ⟨_, _, _, e, _⟩
  · simpa only [Rep] using h
  · cases e
  · cases e
theorem Vw.bool {i : Bool} (h : Vw K F H (.bool i) u) : u = .bl i := by
  rcases h with h | ⟨_, _, _, e, _⟩ | ⟨_, _, _, e, _⟩
  · simpa only [Rep] using h
  · cases e
  · cases e
theorem Vw.str {i : Str} (h : Vw K F H (.str i) u) : u = .str i := by
  rcases h with h | ⟨_, _, _, e, _⟩ | ⟨_, _, _, e, _⟩
  · simpa only [Rep] using h
  · cases e
  · cases e
theorem Vw.non (h : Vw K F H .none u) : u = .non := by
  rcases h with h | ⟨_, _, _, e, _⟩ | ⟨_, _, _, e, _⟩
  · simpa only [Rep] using h
  · cases e
  · cases e
theorem Vw.tup {ds : List D} (h : Vw K F H (.tuple ds) u) : ∃ a xs, u = .ref a ∧ F a = some (.tup xs) ∧ RepL K F ds xs := by
  rcases h with h | ⟨_, _, _, e, _⟩ | ⟨_, _, _, e, _⟩
  · simpa only [Rep] using h
  · cases e
  · cases e
theorem Vw.lst {ds : List D} (h : Vw K F H (.list ds) u) (sub : Same F H) : ∃ a xs, u = .ref a ∧ SqL K H a xs ∧ RepL K F ds xs := by
  rcases h with h | ⟨a, xs, es, e, e2, h1, h2⟩ | ⟨_, _, _, e, _⟩
  · simp only [Rep] at h
    obtain ⟨a, xs, e, h1, h2⟩ := h
    exact ⟨a, xs, e, sub.seq h1, h2⟩
  · cases e
    exact ⟨a, xs, e2, .of h1, h2⟩
  · cases e
theorem Vw.dp {d : D} (h : Vw K F H d u) (sub : Same F H) (n : d.hasDict = false) : Dp K H u d := by
  rcases h with h | ⟨a, xs, es, rfl, rfl, h1, h2⟩ | ⟨_, _, _, rfl, _⟩
  · exact Rep.dp sub d u h n
  · exact .lst (.of h1) (RepL.dp sub es xs h2 (by simpa only [PyData.hasDict] using n))
  · simp only [PyData.hasDict] at n; cases n
end

/-! ## the operators over data -/
def dAdd : D → D → Option R
  | .int i, .int j => some (.d (.int (i + j)))
  | .tuple a, .tuple b => if a.length + b.length ≤ sizeLine then some (.d (.tuple (a ++ b))) else none
  | .list a, .list b => if a.length + b.length ≤ sizeLine then some (.o (.lst (a ++ b))) else none
  | .str a, .str b => if a.length + b.length ≤ sizeLine then some (.d (.str (a ++ b))) else none
  | _, _ => none
def dSub : D → D → Option R
  | .int i, .int j => some (.d (.int (i - j)))
  | _, _ => none
def mulOk (i j : Int) : Bool := (decide (-(2 ^ 64) < i) && decide (i < 2 ^ 64)) || (decide (-(2 ^ 64) < j) && decide (j < 2 ^ 64)) || (decide (i.natAbs < 2 ^ 1000) && decide (j.natAbs < 2 ^ 1000))
def CMulB (i j : Int) : Prop := CMul i j ∨ (i.natAbs < 2 ^ 1000 ∧ j.natAbs < 2 ^ 1000)
theorem op_mulB {X : Cx} : OpR X (binaryOp .Mult) (rI CMulB fun i j => .int (i * j)) := opI fun i j _ _ _ _ _ hc q => by
  refine mul_int q ?_
  rcases hc with h | ⟨h1, h2⟩
  · exact h.ok
  · exact mulOk_of_bits (intBits_le_iff.mpr h1) (intBits_le_iff.mpr h2) (by decide)
def CDivB (i j : Int) : Prop := 0 < j ∧ j < 1267650600228229401496703205376
theorem op_fdivB {X : Cx} : OpR X (binaryOp .FloorDiv) (rI CDivB fun i j => .int (i / j)) := opI fun i j _ _ _ _ _ hc q => by
  have h1 : (0 : Int) < j := hc.1
  have h2 : j < 1267650600228229401496703205376 := hc.2
  refine floordiv_int (by omega) (by rw [Int.fdiv_eq_ediv_of_nonneg i (by omega)]; exact q) (.inl (PyProof.noPylong_of_log2 ?_))
  refine (Nat.log2_lt (by omega)).mpr (Nat.lt_of_lt_of_le (show j.natAbs < 2 ^ 100 by omega) (Nat.pow_le_pow_right (by decide) (by decide)))
def dMul : D → D → Option R
  | .int i, .int j => if mulOk i j then some (.d (.int (i * j))) else none
  | _, _ => none
def CDivC (i j : Int) : Prop := j ≠ 0 ∧ -1267650600228229401496703205376 < j ∧ j < 1267650600228229401496703205376
theorem op_fdivC {X : Cx} : OpR X (binaryOp .FloorDiv) (rI CDivC fun i j => .int (i.fdiv j)) := opI fun i j _ _ _ _ _ hc q => by
  obtain ⟨h1, h2, h3⟩ := hc
  refine floordiv_int h1 q (.inl (PyProof.noPylong_of_log2 ?_))
  refine (Nat.log2_lt (by omega)).mpr (Nat.lt_of_lt_of_le (show j.natAbs < 2 ^ 100 by omega) (Nat.pow_le_pow_right (by decide) (by decide)))
def dFdiv : D → D → Option R
  | .int i, .int j => if j ≠ 0 ∧ -1267650600228229401496703205376 < j ∧ j < 1267650600228229401496703205376 then some (.d (.int (i.fdiv j))) else none
  | _, _ => none
def dMod : D → D → Option R
  | .int i, .int j => if 0 < j then some (.d (.int (i % j))) else none
  | _, _ => none
def dPow : D → D → Option R
  | .int i, .int j => if 0 ≤ j ∧ j ≤ 1000000 ∧ i.natAbs < 2 ^ 64 then some (.d (.int (i ^ j.toNat))) else none
  | _, _ => none
def dNeg : D → Option R
  | .int i => some (.d (.int (-i)))
  | _ => none
def eqOk (x y : D) : Bool := !x.hasDict && !y.hasDict && SeqAt.shaped x && SeqAt.shaped y
def dEq (x y : D) : Option R := if eqOk x y then some (.d (.bool (PyData.eqv x y))) else none
def dNe (x y : D) : Option R := if eqOk x y then some (.d (.bool (!PyData.eqv x y))) else none
def dCmp (p : Int → Int → Bool) : D → D → Option R
  | .int i, .int j => some (.d (.bool (p i j)))
  | _, _ => none
def isNoneD : D → Bool
  | .none => true
  | _ => false
def dIsN (x : D) (y : D) : Option R := match y with
  | .none => some (.d (.bool (isNoneD x)))
  | _ => none
def dNotN (x : D) (y : D) : Option R := match y with
  | .none => some (.d (.bool (!(isNoneD x))))
  | _ => none
def dIdx : D → D → Option R
  | .tuple a, .int i => (atI a i).map .d
  | .list a, .int i => (atI a i).map .d
  | _, _ => none
def cutG {α : Type} (xs : List α) (lo hi : Option Int) : List α := (xs.drop (HT.sIx xs.length 0 lo)).take (HT.sIx xs.length xs.length hi - HT.sIx xs.length 0 lo)

section
variable {X : Cx}
/-- scalars: the heap stays -/
theorem s_d {K : PySem.W.Frag} {w : Wd} {H : Hp} {σ : St} {s : S} {t : Nat} {x : D} {v : V} {Q : VK} (ok : OKs K w H σ s t)
    (k : ∀ w' H' z, OKs K w' H' σ s (t + 1) → Step s.a.length t w H w' H' → RelR K w' H' σ s t (.d x) z → Q z H') (h : Rep K w.F x v) : Q v H :=
  k w H v (ok.up (Nat.le_succ _)) .refl h
theorem op_catL : OpR X (binaryOp .Add) (fun x y H Q => ∃ l b xs zs, x = .ref l ∧ y = .ref b ∧ SqL X.K H l xs ∧ SqL X.K H b zs ∧ xs.length + zs.length ≤ sizeLine ∧ ∀ p, H p = none → Q (.ref p) (upd H p (.lst (xs ++ zs)))) := by
  intro pins s σ H x y v u Q I rx ry h
  obtain ⟨l, b, xs, zs, rfl, rfl, hH, hB, hz, q⟩ := h
  cases rx
  cases ry
  obtain ⟨its, r, ⟨⟨cls, dd, data, sl⟩, n, ho, hc, hdd, hd⟩, hz1⟩ := I.list hH
  obtain ⟨its2, r2, ⟨⟨cls2, dd2, data2, sl2⟩, n2, ho2, hc2, hdd2, hd2⟩, hz2⟩ := I.list hB
  simp only at hc hd hc2 hd2
  subst hc hd hc2 hd2
  have e : its.toArray ++ its2.toArray = (its ++ its2).toArray := by simp
  refine concat_meets ⟨_, ho, rfl⟩ ⟨_, ho2, rfl⟩ noFill_list_add seq_list_add PySem.F.slot_list_add PySem.F.entry_list_add (PySem.F.args_list_add_2 _ _)
    (list_addW l b its.toArray its2.toArray n n2 dd dd2 sl sl2 (by rw [List.size_toArray, List.size_toArray, ← r.length, ← r2.length]; exact hz)) ⟨ho, ho2, ?_⟩
  rw [e]
  exact ⟨.ref _, _, I.lnew (t' := s.toks) (r.append r2) (by rw [List.length_append]; omega), rfl, q _ I.fresh⟩
def rAdd4 (K : PySem.W.Frag) : R2 := fun x y H Q =>
  rI0 (fun i j => .int (i + j)) x y H Q ∨ (rCatA K x y H Q ∨ ((∃ l b xs zs, x = .ref l ∧ y = .ref b ∧ SqL K H l xs ∧ SqL K H b zs ∧ xs.length + zs.length ≤ sizeLine ∧ ∀ p, H p = none → Q (.ref p) (upd H p (.lst (xs ++ zs)))) ∨
    ∃ i j, x = .str i ∧ y = .str j ∧ i.length + j.length ≤ sizeLine ∧ Q (.str (i ++ j)) H))
theorem o_add : OpR X (binaryOp .Add) (rAdd4 X.K) := op_add.or (op_catA.or (op_catL.or op_add_str))
theorem s_add {K : PySem.W.Frag} : OpS K (rAdd4 K) dAdd := by
  intro w H σ s t u v x y r Q ok hx hy e k
  unfold dAdd at e
  split at e
  · cases e
    rw [hx.int, hy.int]
    exact .inl ⟨_, _, rfl, rfl, s_d ok k (by simp only [Rep])⟩
  · rename_i a b
    split at e
    · rename_i hz
      cases e
      obtain ⟨p, xs, rfl, h1, h2⟩ := hx.tup
      obtain ⟨q, ys, rfl, h3, h4⟩ := hy.tup
      have l1 := RepL.length _ _ h2
      have l2 := RepL.length _ _ h4
      refine .inr (.inl ⟨p, q, xs, ys, rfl, rfl, SqT.of (ok.sub _ _ h1), SqT.of (ok.sub _ _ h3), by omega, fun hn => ?_, fun _ hn => ?_, fun _ _ c hc => ?_⟩)
      · refine s_d ok k ?_
        have : a = [] := by cases a with | nil => rfl | cons _ _ => rw [hn] at l1; simp at l1
        subst this
        simp only [Rep]
        exact ⟨q, ys, rfl, h3, h4⟩
      · refine s_d ok k ?_
        have : b = [] := by cases b with | nil => rfl | cons _ _ => rw [hn] at l2; simp at l2
        subst this
        simp only [Rep, List.append_nil]
        exact ⟨p, xs, rfl, h1, h2⟩
      · refine k (w.lay c _) _ _ ((lay_ok ok hc).up (Nat.le_succ _)) (lay_step ok hc) ?_
        simp only [RelR, Rep]
        have m := (lay_step (o := .tup (xs ++ ys)) (t0 := t) (n := 0) ok hc).F
        exact ⟨c, _, rfl, upd_same, RepL.append _ _ (RepL.mono m _ _ h2) (RepL.mono m _ _ h4)⟩
    · cases e
  · rename_i a b
    split at e
    · rename_i hz
      cases e
      obtain ⟨p, xs, rfl, h1, h2⟩ := hx.lst ok.sub
      obtain ⟨q, ys, rfl, h3, h4⟩ := hy.lst ok.sub
      have l1 := RepL.length _ _ h2
      have l2 := RepL.length _ _ h4
      refine .inr (.inr (.inl ⟨p, q, xs, ys, rfl, rfl, h1, h3, by omega, fun c hc => ?_⟩))
      refine k (w.give c t) _ _ (give_ok ok hc) (give_step ok hc) ?_
      exact ⟨c, _, rfl, by show (if c = c then some t else w.O c) = some t; rw [if_pos rfl], upd_same, RepL.append _ _ h2 h4⟩
    · cases e
  · split at e
    · rename_i hz
      cases e
      rw [hx.str, hy.str]
      exact .inr (.inr (.inr ⟨_, _, rfl, rfl, hz, s_d ok k (by simp only [Rep])⟩))
    · cases e
  · cases e
theorem s_sub {K : PySem.W.Frag} : OpS K (rI0 fun i j => .int (i - j)) dSub := by
  intro w H σ s t u v x y r Q ok hx hy e k
  unfold dSub at e
  split at e
  · cases e
    rw [hx.int, hy.int]
    exact ⟨_, _, rfl, rfl, s_d ok k (by simp only [Rep])⟩
  · cases e
theorem s_mul {K : PySem.W.Frag} : OpS K (rI CMulB fun i j => .int (i * j)) dMul := by
  intro w H σ s t u v x y r Q ok hx hy e k
  unfold dMul at e
  split at e
  · split at e
    · rename_i hc
      cases e
      rw [hx.int, hy.int]
      refine ⟨_, _, rfl, rfl, ?_, s_d ok k (by simp only [Rep])⟩
      simp only [mulOk, Bool.or_eq_true, Bool.and_eq_true, decide_eq_true_eq] at hc
      exact hc
    · cases e
  · cases e
theorem s_fdiv {K : PySem.W.Frag} : OpS K (rI CDivC fun i j => .int (i.fdiv j)) dFdiv := by
  intro w H σ s t u v x y r Q ok hx hy e k
  unfold dFdiv at e
  split at e
  · split at e
    · rename_i hc
      cases e
      rw [hx.int, hy.int]
      exact ⟨_, _, rfl, rfl, hc, s_d ok k (by simp only [Rep])⟩
    · cases e
  · cases e
theorem s_mod {K : PySem.W.Frag} : OpS K (rI (fun _ j => 0 < j) fun i j => .int (i % j)) dMod := by
  intro w H σ s t u v x y r Q ok hx hy e k
  unfold dMod at e
  split at e
  · split at e
    · rename_i hc
      cases e
      rw [hx.int, hy.int]
      exact ⟨_, _, rfl, rfl, hc, s_d ok k (by simp only [Rep])⟩
    · cases e
  · cases e
theorem s_pow {K : PySem.W.Frag} : OpS K (rI CPow fun i j => .int (i ^ j.toNat)) dPow := by
  intro w H σ s t u v x y r Q ok hx hy e k
  unfold dPow at e
  split at e
  · split at e
    · rename_i hc
      cases e
      rw [hx.int, hy.int]
      exact ⟨_, _, rfl, rfl, hc, s_d ok k (by simp only [Rep])⟩
    · cases e
  · cases e
theorem s_cmp {K : PySem.W.Frag} {p : Int → Int → Bool} : OpS K (rI0 fun i j => .bl (p i j)) (dCmp p) := by
  intro w H σ s t u v x y r Q ok hx hy e k
  unfold dCmp at e
  split at e
  · cases e
    rw [hx.int, hy.int]
    exact ⟨_, _, rfl, rfl, s_d ok k (by simp only [Rep])⟩
  · cases e
theorem s_eq {K : PySem.W.Frag} : OpS K (rEqD K) dEq := by
  intro w H σ s t u v x y r Q ok hx hy e k
  unfold dEq at e
  split at e
  · rename_i hc
    cases e
    simp only [eqOk, Bool.and_eq_true, Bool.not_eq_true'] at hc
    obtain ⟨⟨⟨h1, h2⟩, h3⟩, h4⟩ := hc
    exact ⟨x, y, hx.dp ok.sub h1, hy.dp ok.sub h2, h3, h4, s_d ok k (by simp only [Rep])⟩
  · cases e
theorem s_ne {K : PySem.W.Frag} : OpS K (rNeD K) dNe := by
  intro w H σ s t u v x y r Q ok hx hy e k
  unfold dNe at e
  split at e
  · rename_i hc
    cases e
    simp only [eqOk, Bool.and_eq_true, Bool.not_eq_true'] at hc
    obtain ⟨⟨⟨h1, h2⟩, h3⟩, h4⟩ := hc
    exact ⟨x, y, hx.dp ok.sub h1, hy.dp ok.sub h2, h3, h4, s_d ok k (by simp only [Rep])⟩
  · cases e
theorem Vw.isNon {K : PySem.W.Frag} {F H : Hp} {u : V} {x : D} (h : Vw K F H x u) : decide (u = .non) = isNoneD x := by
  rcases h with h | ⟨_, _, _, rfl, rfl, _⟩ | ⟨_, _, _, rfl, rfl, _⟩
  · cases x with
    | none => simp only [Rep] at h; subst h; rfl
    | bool b => simp only [Rep] at h; subst h; rfl
    | int b => simp only [Rep] at h; subst h; rfl
    | str b => simp only [Rep] at h; subst h; rfl
    | list b => simp only [Rep] at h; obtain ⟨_, _, rfl, _⟩ := h; rfl
    | tuple b => simp only [Rep] at h; obtain ⟨_, _, rfl, _⟩ := h; rfl
    | dict b => simp only [Rep] at h; obtain ⟨_, _, rfl, _⟩ := h; rfl
  · rfl
  · rfl
theorem s_isN {K : PySem.W.Frag} : OpS K (fun x y H Q => y = .non ∧ Q (.bl (decide (x = .non))) H) dIsN := by
  intro w H σ s t u v x y r Q ok hx hy e k
  unfold dIsN at e
  split at e
  · cases e
    exact ⟨hy.non, s_d ok k (by simp only [Rep]; rw [hx.isNon])⟩
  · cases e
theorem s_notN {K : PySem.W.Frag} : OpS K (fun x y H Q => y = .non ∧ Q (.bl (!decide (x = .non))) H) dNotN := by
  intro w H σ s t u v x y r Q ok hx hy e k
  unfold dNotN at e
  split at e
  · cases e
    exact ⟨hy.non, s_d ok k (by simp only [Rep]; rw [hx.isNon])⟩
  · cases e
theorem atI_rep {K : PySem.W.Frag} {F : Hp} {ds : List D} {xs : List V} {i : Int} {d : D} (h : RepL K F ds xs) (e : atI ds i = some d) : ∃ x, atI xs i = some x ∧ Rep K F d x := by
  unfold atI at e ⊢
  rw [← RepL.length _ _ h]
  cases q : ixN ds.length i with
  | none => rw [q] at e; cases e
  | some j =>
    rw [q] at e
    exact RepL.get ds xs j d h e
theorem s_idx {K : PySem.W.Frag} : OpS K (fun x y H Q => rIxL K x y H Q ∨ rIxT K x y H Q) dIdx := by
  intro w H σ s t u v x y r Q ok hx hy e k
  unfold dIdx at e
  split at e
  · rename_i a i
    simp only [Option.map_eq_some_iff] at e
    obtain ⟨d, e1, rfl⟩ := e
    obtain ⟨p, xs, rfl, h1, h2⟩ := hx.tup
    obtain ⟨z, h3, h4⟩ := atI_rep h2 e1
    rw [hy.int]
    exact .inr ⟨p, xs, i, z, rfl, rfl, SqT.of (ok.sub _ _ h1), h3, s_d ok k h4⟩
  · rename_i a i
    simp only [Option.map_eq_some_iff] at e
    obtain ⟨d, e1, rfl⟩ := e
    obtain ⟨p, xs, rfl, h1, h2⟩ := hx.lst ok.sub
    obtain ⟨z, h3, h4⟩ := atI_rep h2 e1
    rw [hy.int]
    exact .inl ⟨p, xs, i, z, rfl, rfl, h1, h3, s_d ok k h4⟩
  · cases e
variable {a b : Expr} {m1 m2 : ME} {pos : Pos}
theorem re_idx (ha : RE X a m1) (hb : RE X b m2) (hs : PlainIx b := by exact fun _ _ => rfl) : RE X (.Subscript a b pos) (mOp dIdx m1 m2) := by
  obtain ⟨t1, p1, h1⟩ := ha
  obtain ⟨t2, p2, h2⟩ := hb
  exact ⟨_, pe_ix (ix_list.or ix_tup) p1 p2 hs, op2_ok h1 h2 s_idx⟩
theorem re_neg (ha : RE X a m1) : RE X (.UnaryOp .USub a pos) (mUn dNeg m1) := by
  obtain ⟨t1, p1, h1⟩ := ha
  refine ⟨_, pe_un un_neg p1, fun σ H w s t Q r s' ok e k => ?_⟩
  simp only [mUn] at e
  split at e
  · cases e
  · rename_i r1 s1 e1
    split at e
    · cases e
    · rename_i x e2
      split at e
      · cases e
      · rename_i r' e3
        cases e
        refine h1 σ H w s t _ r1 _ ok e1 fun w1 H1 u t1 τ a1 a2 ok1 st1 sl1 rel1 => ?_
        have v := RelR.view ok1 rel1 e2
        unfold dNeg at e3
        split at e3
        · cases e3
          exact ⟨_, v.int, k w1 H1 _ t1 τ a1 a2 ok1 st1 sl1 (by simp only [RelR, Rep])⟩
        · cases e3

/-! ## slices -/
def mPart : Option ME → S → Out (Option Int)
  | none, s => .ok none s
  | some m, s => match m s with
    | .ok (.d (.int i)) s1 => .ok (some i) s1
    | _ => .no
structure RO (X : Cx) (e : Option Expr) (m : Option ME) : Prop where
  ex : ∃ t, PO X e t ∧ ∀ (σ : St) (H : Hp) (w : Wd) (s : S) (t0 : Nat) (Q : Option Int → Hp → Prop) (o : Option Int) (s' : S), OKs X.K w H σ s t0 → mPart m s = .ok o s' →
    (∀ w' H' t', t0 ≤ t' → OKs X.K w' H' σ s' t' → Step s.a.length t0 w H w' H' → Slotted s s' → Q o H') → t σ H Q
theorem ro_none : RO X none none := ⟨_, po_none, fun σ H w s t0 Q o s' ok e k => by cases e; exact k w H t0 (Nat.le_refl _) ok .refl .refl⟩
theorem ro_some (h : RE X a m1) : RO X (some a) (some m1) := by
  obtain ⟨t1, p1, h1⟩ := h
  refine ⟨_, po_some p1, fun σ H w s t0 Q o s' ok e k => ?_⟩
  simp only [mPart] at e
  split at e
  · rename_i i s1 e1
    cases e
    refine h1 σ H w s t0 _ _ _ ok e1 fun w1 H1 u t1 τ a1 a2 ok1 st1 sl1 rel1 => ?_
    simp only [RelR, Rep] at rel1
    exact ⟨i, rel1, k w1 H1 t1 (by omega) ok1 st1 sl1⟩
  · cases e
def dCut (x : D) (lo hi : Option Int) : Option R := match x with
  | .tuple a => some (.d (.tuple (cutG a lo hi)))
  | .list a => some (.o (.lst (cutG a lo hi)))
  | _ => none
def mCut (m : ME) (lo hi : Option ME) : ME := fun s => match m s with
  | .no => .no
  | .ok r s1 => match mPart lo s1 with
    | .no => .no
    | .ok l s2 => match mPart hi s2 with
      | .no => .no
      | .ok h s3 => match view s3 r with
        | none => .no
        | some x => match dCut x l h with
          | none => .no
          | some r' => .ok r' s3
theorem cut_rep {K : PySem.W.Frag} {F : Hp} {ds : List D} {xs : List V} (h : RepL K F ds xs) (lo hi : Option Int) : RepL K F (cutG ds lo hi) (cutV xs lo hi) := by
  unfold cutG cutV
  rw [RepL.length _ _ h]
  exact RepL.take _ _ _ (RepL.drop _ _ _ h)
theorem re_cut {lo hi : Option Expr} {ml mh : Option ME} {p2 : Pos} (he : RE X a m1) (hl : RO X lo ml) (hh : RO X hi mh) : RE X (.Subscript a (.Slice lo hi none p2) pos) (mCut m1 ml mh) := by
  obtain ⟨t1, p1, h1⟩ := he
  obtain ⟨tl, pl, h2⟩ := hl
  obtain ⟨th, ph, h3⟩ := hh
  refine ⟨_, pe_slice (sl_tupA.or sl_list) p1 pl ph, fun σ H w s t Q r s' ok e k => ?_⟩
  simp only [mCut] at e
  split at e
  · cases e
  · rename_i r1 s1 e1
    split at e
    · cases e
    · rename_i l s2 e2
      split at e
      · cases e
      · rename_i hv s3 e3
        split at e
        · cases e
        · rename_i x e4
          split at e
          · cases e
          · rename_i r' e5
            cases e
            refine h1 σ H w s t _ r1 s1 ok e1 fun w1 H1 u t1 τ1 a1 a2 ok1 st1 sl1 rel1 => ?_
            refine h2 σ H1 w1 s1 t1 _ l s2 ok1 e2 fun w2 H2 t2 b1 ok2 st2 sl2 => ?_
            refine h3 σ H2 w2 s2 t2 _ hv _ ok2 e3 fun w3 H3 t3 c1 ok3 st3 sl3 => ?_
            have l1 := ok.slen ok1
            have l2 := ok1.slen ok2
            have l3 := ok.slen ok3
            have tN := ok.tN
            rw [l2] at st3
            have st23 := st2.trans (st3.mono b1)
            have rel1' := RelR.keep ok1 rel1 st23 (by omega) (by omega) (sl2.trans sl3)
            have vw := RelR.view ok3 rel1' e4
            rw [l1] at st23
            have st := st1.trans (st23.mono (by omega))
            have sl := sl1.trans (sl2.trans sl3)
            unfold dCut at e5
            split at e5
            · rename_i ds
              cases e5
              obtain ⟨p, xs, rfl, q1, q2⟩ := vw.tup
              refine .inl ⟨p, xs, rfl, SqT.of (ok3.sub _ _ q1), fun hw => ?_, fun hw c hc => ?_⟩
              · refine k w3 H3 _ (t3 + 1) t3 (by omega) (Nat.lt_succ_self _) (ok3.up (Nat.le_succ _)) st sl ?_
                simp only [RelR, Rep]
                refine ⟨p, xs, rfl, q1, ?_⟩
                have z := cut_rep q2 l hv
                have ez : cutV xs l hv = xs := by
                  unfold cutV
                  rw [hw.1, hw.2]
                  simp
                rw [ez] at z
                exact z
              · refine k (w3.lay c _) _ _ (t3 + 1) t3 (by omega) (Nat.lt_succ_self _) ((lay_ok ok3 hc).up (Nat.le_succ _)) (st.trans (lay_step ok3 hc)) sl ?_
                simp only [RelR, Rep]
                have m := (lay_step (o := .tup (cutV xs l hv)) (t0 := t) (n := 0) ok3 hc).F
                exact ⟨c, _, rfl, upd_same, RepL.mono m _ _ (cut_rep q2 l hv)⟩
            · rename_i ds
              cases e5
              obtain ⟨p, xs, rfl, q1, q2⟩ := vw.lst ok3.sub
              refine .inr ⟨p, xs, rfl, q1, fun c hc => ?_⟩
              refine k (w3.give c t3) _ _ (t3 + 1) t3 (by omega) (Nat.lt_succ_self _) (give_ok ok3 hc) (st.trans ((give_step (n := s.a.length) ok3 hc).mono (by omega))) sl ?_
              exact ⟨c, _, rfl, by show (if c = c then some t3 else w3.O c) = some t3; rw [if_pos rfl], upd_same, cut_rep q2 l hv⟩
            · cases e5
end
end Qz
namespace Qz
open PySem PySem.Spec L2
open PyProof.Rows hiding St

/-! ## statements -/
section
variable (K : PySem.W.Frag)
structure EndsOk (D : Ends) (n : Nat) (w : Wd) (H : Hp) (f : Fl) (s' : S) : Prop where
  nx : f = .nx → ∀ (σ' : St) w' H', OKs K w' H' σ' s' n → s'.a.length = n → Step n n w H w' H' → D.nx σ' H'
  bk : f = .bk → ∀ (σ' : St) w' H', OKs K w' H' σ' s' n → s'.a.length = n → Step n n w H w' H' → D.bk σ' H'
  ct : f = .ct → ∀ (σ' : St) w' H', OKs K w' H' σ' s' n → s'.a.length = n → Step n n w H w' H' → D.ct σ' H'
  rt : ∀ r, f = .rt r → ∀ (σ' : St) w' H' x t' τ, n ≤ τ → τ < t' → OKs K w' H' σ' s' t' → s'.a.length = n → Step n n w H w' H' → RelR K w' H' σ' s' τ r x → D.rt x H'
def SndS (ts : TS) (m : MS) : Prop := ∀ (σ : St) (H : Hp) (w : Wd) (s : S) (D : Ends) (f : Fl) (s' : S), OKs K w H σ s s.a.length → m s = .ok f s' → EndsOk K D s.a.length w H f s' → ts D σ H
end
structure RS (X : Cx) (st : Stmt) (m : MS) : Prop where
  ex : ∃ ts, PS X st ts ∧ SndS X.K ts m
structure RSs (X : Cx) (st : List Stmt) (m : MS) : Prop where
  ex : ∃ ts, PSs X st ts ∧ SndS X.K ts m

section
variable {K : PySem.W.Frag} {n t t0 : Nat} {w w' w1 : Wd} {H H' H1 : Hp} {σ : St} {s s' : S}
theorem EndsOk.after {D : Ends} {f : Fl} (h : EndsOk K D n w H f s') (st : Step n n w H w1 H1) : EndsOk K D n w1 H1 f s' :=
  ⟨fun e σ' w' H' ok l st' => h.nx e σ' w' H' ok l (st.trans st'), fun e σ' w' H' ok l st' => h.bk e σ' w' H' ok l (st.trans st'), fun e σ' w' H' ok l st' => h.ct e σ' w' H' ok l (st.trans st'),
   fun r e σ' w' H' x t' τ a1 a2 ok l st' rel => h.rt r e σ' w' H' x t' τ a1 a2 ok l (st.trans st') rel⟩
/-- temporaries given up -/
def Wd.drop (w : Wd) (n : Nat) : Wd := { w with O := fun b => match w.O b with | some i => if i < n then some i else none | none => none }
theorem drop_of {a : Addr} {i n : Nat} (h : (w.drop n).O a = some i) : w.O a = some i ∧ i < n := by
  have h' : (match w.O a with | some i => if i < n then some i else none | none => none) = some i := h
  split at h'
  · rename_i j e
    split at h'
    · cases h'; exact ⟨e, by assumption⟩
    · cases h'
  · cases h'
theorem drop_at {a : Addr} {i n : Nat} (h : w.O a = some i) (hi : i < n) : (w.drop n).O a = some i := by
  show (match w.O a with | some i => if i < n then some i else none | none => none) = some i
  rw [h]
  exact if_pos hi
theorem drop_ok (ok : OKs K w H σ s t) (hn : s.a.length = n) : OKs K (w.drop n) H σ s n := by
  refine ⟨ok.sub, ok.len, fun i q v h1 h2 => SlR.mono (ok.sl i q v h1 h2) (Same.refl _) rfl (fun a ha => ⟨drop_at ha ?_, rfl⟩), fun a i e => ?_, Nat.le_of_eq hn, fun p g e => ?_, ok.nob⟩
  · have := (List.getElem?_eq_some_iff.mp h1).1
    omega
  · obtain ⟨e1, e2⟩ := drop_of e
    obtain ⟨h1, h2, h3⟩ := ok.own a i e1
    exact ⟨h1, h2, e2⟩
  · obtain ⟨b, o1, o2⟩ := ok.box p g e
    refine ⟨b, ?_, ?_⟩
    · cases q : (w.drop n).O p with
      | none => rfl
      | some i => obtain ⟨z, _⟩ := drop_of q; rw [o1] at z; cases z
    · cases q : (w.drop n).O g with
      | none => rfl
      | some i => obtain ⟨z, _⟩ := drop_of q; rw [o2] at z; cases z
theorem drop_step : Step n n w H (w.drop n) H where
  F := Same.refl _
  keep := fun _ _ h _ _ => h
  there := fun a o h => ⟨o, h⟩
  tmp := fun a i h h1 h2 => by omega
  newF := fun a h => .inl h
  newO := fun a i h => .inr (by rw [(drop_of h).1]; simp)
  newT := fun a i h _ => .inr (drop_of h).1
  B := .inl rfl
/-- what a result becomes when it is stored -/
def store (i : Nat) (s : S) (r : R) : Option S := if s.a.length ≤ i then none else match r with
  | .o c => some { s with a := s.a.set i (some (.o c)) }
  | .bx => some { s with a := s.a.set i (some .bx) }
  | _ => match take1 s r with
    | some (x, s1) => some { s1 with a := s1.a.set i (some (.d x)) }
    | none => none
def Wd.move (w : Wd) (τ i n : Nat) : Wd := { w with O := fun b => match w.O b with | some k => if k = τ then some i else if k = i then none else if k < n then some k else none | none => none }
theorem move_of {a : Addr} {τ i n k : Nat} (h : (w.move τ i n).O a = some k) : (w.O a = some τ ∧ k = i) ∨ (w.O a = some k ∧ k ≠ i ∧ k ≠ τ ∧ k < n) := by
  have h' : (match w.O a with | some k => if k = τ then some i else if k = i then none else if k < n then some k else none | none => none) = some k := h
  split at h'
  · rename_i j e
    split at h'
    · rename_i e2; subst e2; cases h'; exact .inl ⟨e, rfl⟩
    · split at h'
      · cases h'
      · split at h'
        · cases h'; exact .inr ⟨e, by assumption, by assumption, by assumption⟩
        · cases h'
  · cases h'
theorem move_at {a : Addr} {τ i n : Nat} (h : w.O a = some τ) : (w.move τ i n).O a = some i := by
  show (match w.O a with | some k => if k = τ then some i else if k = i then none else if k < n then some k else none | none => none) = some i
  rw [h]; exact if_pos rfl
theorem move_old {a : Addr} {τ i n k : Nat} (h : w.O a = some k) (h1 : k ≠ τ) (h2 : k ≠ i) (h3 : k < n) : (w.move τ i n).O a = some k := by
  show (match w.O a with | some k => if k = τ then some i else if k = i then none else if k < n then some k else none | none => none) = some k
  rw [h]
  show (if k = τ then some i else if k = i then none else if k < n then some k else none) = some k
  rw [if_neg h1, if_neg h2, if_pos h3]
theorem move_step {τ i : Nat} (hi : i < n) : Step n n w H (w.move τ i n) H where
  F := Same.refl _
  keep := fun _ _ h _ _ => h
  there := fun a o h => ⟨o, h⟩
  tmp := fun a i h h1 h2 => by omega
  newF := fun a h => .inl h
  newO := fun a k h => .inr (by rcases move_of h with ⟨e, _⟩ | ⟨e, _⟩ <;> rw [e] <;> simp)
  newT := fun a k h hk => by
    rcases move_of h with ⟨e, e2⟩ | ⟨e, _⟩
    · omega
    · exact .inr e
  B := .inl rfl
/-- the stored thing is in its place -/
theorem move_ok {r : R} {x : V} {τ i : Nat} (ok : OKs K w H σ s t) (hn : s.a.length = n) (hi : i < n) (hτ : n ≤ τ) (h : RelR K w H σ s τ r x) (hr : ∀ j, r ≠ .sl j) :
    OKs K (w.move τ i n) H (σ.set i (some x)) { s with a := s.a.set i (some r) } n := by
  refine ⟨ok.sub, by simp [ok.len], fun k q v h1 h2 => ?_, fun a k e => ?_, by simp [hn], fun p g e => ?_, ok.nob⟩
  · rcases set_get h1 with ⟨rfl, rfl⟩ | ⟨hk, h3⟩
    · have hv : v = some x := by
        rcases set_get h2 with ⟨_, e⟩ | ⟨e, _⟩
        · exact e
        · exact absurd rfl e
      subst hv
      cases r with
      | d y => exact ⟨x, rfl, h⟩
      | o c =>
        refine ⟨x, rfl, ?_⟩
        cases c with
        | lst ds => obtain ⟨a, xs, e, q1, q2, q3⟩ := h; exact ⟨a, xs, e, move_at q1, q2, q3⟩
        | dK ds => obtain ⟨a, xs, e, q1, q2, q3⟩ := h; exact ⟨a, xs, e, move_at q1, q2, q3⟩
        | dT ds => obtain ⟨a, xs, e, q1, q2, q3⟩ := h; exact ⟨a, xs, e, move_at q1, q2, q3⟩
      | sl j => exact absurd rfl (hr j)
      | bx => obtain ⟨p, g, e, rfl⟩ := h; exact ⟨p, g, e, rfl⟩
      | st _ => exact h.elim
    · have h4 : σ[k]? = some v := by
        rcases set_get h2 with ⟨e, _⟩ | ⟨_, e⟩
        · exact absurd e hk
        · exact e
      have hkl := (List.getElem?_eq_some_iff.mp h3).1
      exact SlR.mono (ok.sl k q v h3 h4) (Same.refl _) rfl (fun a ha => ⟨move_old ha (by omega) hk (by omega), rfl⟩)
  · rcases move_of e with ⟨e1, e2⟩ | ⟨e1, _, _, e2⟩
    · obtain ⟨h1, h2, h3⟩ := ok.own a τ e1
      exact ⟨h1, h2, by omega⟩
    · obtain ⟨h1, h2, h3⟩ := ok.own a k e1
      exact ⟨h1, h2, e2⟩
  · obtain ⟨b, o1, o2⟩ := ok.box p g e
    refine ⟨b, ?_, ?_⟩
    · cases q : (w.move τ i n).O p with
      | none => rfl
      | some j => rcases move_of q with ⟨z, _⟩ | ⟨z, _⟩ <;> (rw [o1] at z; cases z)
    · cases q : (w.move τ i n).O g with
      | none => rfl
      | some j => rcases move_of q with ⟨z, _⟩ | ⟨z, _⟩ <;> (rw [o2] at z; cases z)
theorem store_fin {r : R} {x : V} {τ i : Nat} (ok : OKs K w H σ s t) (hn : s.a.length = n) (hτ : n ≤ τ) (h : RelR K w H σ s τ r x) (e : store i s r = some s') :
    ∃ w', OKs K w' H (σ.set i (some x)) s' n ∧ s'.a.length = n ∧ Step n n w H w' H := by
  have hi : i < n := by
    unfold store at e
    split at e
    · cases e
    · omega
  unfold store at e
  rw [if_neg (by omega)] at e
  have tk : ∀ y s1, take1 s r = some (y, s1) → s' = { s1 with a := s1.a.set i (some (.d y)) } → ∃ w', OKs K w' H (σ.set i (some x)) s' n ∧ s'.a.length = n ∧ Step n n w H w' H := fun y s1 e1 e2 => by
    obtain ⟨w1, ok1, st1, rep, sl, l, _⟩ := take1_ok (t0 := n) ok h e1 hτ (Nat.le_of_eq hn)
    have hl : s1.a.length = n := l.trans hn
    rw [hn] at st1
    refine ⟨w1.move t i n, ?_, ?_, st1.trans (move_step hi)⟩
    · rw [e2]
      exact move_ok (r := .d y) ok1 hl hi (by have := ok.tN; omega) rep fun j => by simp
    · rw [e2]; simp [hl]
  cases r with
  | d y => exact tk y s rfl (by simp only [take1] at e; cases e; rfl)
  | o c =>
    cases e
    exact ⟨w.move τ i n, move_ok ok hn hi hτ h fun j => by simp, by simp [hn], move_step hi⟩
  | sl j =>
    simp only at e
    split at e
    · rename_i y s1 e1
      cases e
      exact tk y s1 e1 rfl
    · cases e
  | bx =>
    cases e
    exact ⟨w.move τ i n, move_ok ok hn hi hτ h fun j => by simp, by simp [hn], move_step hi⟩
  | st _ => exact h.elim
end

def mSet (i : Nat) (m : ME) : MS := fun s => match m s with
  | .no => .no
  | .ok r s1 => match store i s1 r with
    | none => .no
    | some s2 => .ok .nx s2
def mNext : MS := fun s => .ok .nx s
def mSeq (a b : MS) : MS := fun s => match a s with
  | .ok .nx s1 => b s1
  | .ok f s1 => .ok f s1
  | .no => .no
def mRet (m : ME) : MS := fun s => match m s with
  | .no => .no
  | .ok r s1 => .ok (.rt r) s1
def mRetN : MS := fun s => .ok (.rt (.d .none)) s
def mIf (c : MT) (a b : MS) : MS := fun s => match c s with
  | .no => .no
  | .ok true s1 => a s1
  | .ok false s1 => b s1
def mDrop (m : ME) : MS := fun s => match m s with
  | .no => .no
  | .ok _ s1 => .ok .nx s1
def mBreak : MS := fun s => .ok .bk s
def mCont : MS := fun s => .ok .ct s
section
variable {X : Cx} {e a b : Expr} {st : Stmt} {sts : List Stmt} {m m1 m2 : ME} {p q : MS} {pos : Pos}
theorem rss_nil : RSs X [] mNext := ⟨_, pss_nil, fun σ H w s D f s' ok e k => by
  cases e
  exact k.nx rfl σ w H ok rfl .refl⟩
theorem rss_cons (h1 : RS X st p) (h2 : RSs X sts q) : RSs X (st :: sts) (mSeq p q) := by
  obtain ⟨t1, p1, s1⟩ := h1
  obtain ⟨t2, p2, s2⟩ := h2
  refine ⟨_, pss_cons p1 p2, fun σ H w s D f s' ok e k => ?_⟩
  simp only [mSeq] at e
  split at e
  · rename_i sa e1
    refine s1 σ H w s _ .nx sa ok e1 ⟨fun _ σ1 w1 H1 ok1 l1 st1 => ?_, (fun h => nomatch h), (fun h => nomatch h), (fun r h => nomatch h)⟩
    have k2 := k.after st1
    rw [← l1] at ok1 k2
    exact s2 σ1 H1 w1 sa D f s' ok1 e k2
  · rename_i f1 sa hne e1
    cases e
    refine s1 σ H w s _ _ _ ok e1 ⟨fun h => absurd h (by simpa using hne), k.bk, k.ct, k.rt⟩
  · cases e
theorem rs_set {i : Nat} {x : Str} {pos' : Pos} (hN : X.N.Nodup) (hi : X.N[i]? = some x) (hx : Loc X.env.scope x) (he : RE X e m) (hs : swapsWith e (some (.Name x pos')) pos.line X.env = pure false := by rfl)
    (hf : X.fn x = true ∨ X.env.scope.names.lookup x = some .local := by first | exact .inl rfl | exact .inr rfl | assumption) : RS X (.Assign [.Name x pos'] e pos) (mSet i m) := by
  obtain ⟨t1, p1, s1⟩ := he
  refine ⟨_, ps_set hN hi hx p1 hs hf, fun σ H w s D f s' ok e k => ?_⟩
  simp only [mSet] at e
  split at e
  · cases e
  · rename_i r sa e1
    split at e
    · cases e
    · rename_i s2 e2
      cases e
      refine s1 σ H w s _ _ r sa ok e1 fun w1 H1 x t' τ a1 a2 ok1 st1 sl1 rel1 => ?_
      have hl := ok.slen ok1
      obtain ⟨w2, ok2, l2, st2⟩ := store_fin ok1 hl a1 rel1 e2
      exact k.nx rfl _ w2 H1 ok2 l2 (st1.trans st2)
theorem rs_ret (he : RE X e m) : RS X (.Return (some e) pos) (mRet m) := by
  obtain ⟨t1, p1, s1⟩ := he
  refine ⟨_, ps_ret p1, fun σ H w s D f s' ok e k => ?_⟩
  simp only [mRet] at e
  split at e
  · cases e
  · rename_i r sa e1
    cases e
    exact s1 σ H w s _ _ r _ ok e1 fun w1 H1 x t' τ a1 a2 ok1 st1 sl1 rel1 => k.rt r rfl σ w1 H1 x t' τ a1 a2 ok1 (ok.slen ok1) st1 rel1
theorem rs_retN : RS X (.Return none pos) mRetN := ⟨_, ps_retN, fun σ H w s D f s' ok e k => by
  cases e
  exact k.rt _ rfl σ w H .non (s.a.length + 1) s.a.length (Nat.le_refl _) (Nat.lt_succ_self _) (ok.up (Nat.le_succ _)) rfl .refl (by simp only [RelR, Rep])⟩
theorem rs_expr (he : RE X e m) (hs : swapsWith e none pos.line X.env = pure false := by rfl) : RS X (.Expr e pos) (mDrop m) := by
  obtain ⟨t1, p1, s1⟩ := he
  refine ⟨_, ps_expr p1 hs, fun σ H w s D f s' ok e k => ?_⟩
  simp only [mDrop] at e
  split at e
  · cases e
  · rename_i r sa e1
    cases e
    refine s1 σ H w s _ _ r _ ok e1 fun w1 H1 x t' τ a1 a2 ok1 st1 sl1 rel1 => ?_
    have hl := ok.slen ok1
    exact k.nx rfl σ _ H1 (drop_ok ok1 hl) hl (st1.trans drop_step)
theorem rs_if {c : Expr} {xs ys : List Stmt} {mc : MT} (hc : RT X c mc) (ha : RSs X xs p) (hb : RSs X ys q) : RS X (.If c xs ys pos) (mIf mc p q) := by
  obtain ⟨t0, p0, s0⟩ := hc
  obtain ⟨t1, p1, s1⟩ := ha
  obtain ⟨t2, p2, s2⟩ := hb
  refine ⟨_, ps_if p0 p1 p2, fun σ H w s D f s' ok e k => ?_⟩
  simp only [mIf] at e
  split at e
  · cases e
  · rename_i sa e1
    refine s0 σ H w s _ _ true sa ok e1 fun w1 H1 t' a1 ok1 st1 sl1 => iteT ?_
    have hl := ok.slen ok1
    have k2 := k.after (st1.trans drop_step)
    have ok2 := drop_ok ok1 hl
    rw [← hl] at ok2 k2
    exact s1 σ H1 _ sa D f s' ok2 e k2
  · rename_i sa e1
    refine s0 σ H w s _ _ false sa ok e1 fun w1 H1 t' a1 ok1 st1 sl1 => iteF ?_
    have hl := ok.slen ok1
    have k2 := k.after (st1.trans drop_step)
    have ok2 := drop_ok ok1 hl
    rw [← hl] at ok2 k2
    exact s2 σ H1 _ sa D f s' ok2 e k2
theorem rs_break : RS X (.Break pos) mBreak := ⟨_, ps_break, fun σ H w s D f s' ok e k => by cases e; exact k.bk rfl σ w H ok rfl .refl⟩
theorem rs_continue : RS X (.Continue pos) mCont := ⟨_, ps_continue, fun σ H w s D f s' ok e k => by cases e; exact k.ct rfl σ w H ok rfl .refl⟩
theorem rs_doc {x j pos'} : RS X (.Expr (.Constant (.str x) j pos) pos') mNext := ⟨_, ps_doc, fun σ H w s D f s' ok e k => by cases e; exact k.nx rfl σ w H ok rfl .refl⟩
end
end Qz
namespace Qz
open PySem PySem.Spec L2
open PyProof.Rows hiding St

/-! ## targets -/
def SndG (K : PySem.W.Frag) (t : TG) (g : D → S → Option S) (ws : List Nat) : Prop := ∀ (d : D) (x : V) (σ : St) (H : Hp) (w : Wd) (s s' : S) (k n : Nat) (Q : St → Hp → Prop), OKs K w H σ s k → s.a.length = n → Rep K w.F d x → g d s = some s' →
    (∀ σ', OKs K w H σ' s' k → s'.a.length = n → Slotted s s' → (∀ i, i ∉ ws → σ'[i]? = σ[i]?) → Q σ' H) → t x σ H Q
def SndGs (K : PySem.W.Frag) (t : List V → St → Hp → (St → Hp → Prop) → Prop) (g : List D → S → Option S) (ws : List Nat) : Prop := ∀ (ds : List D) (xs : List V) (σ : St) (H : Hp) (w : Wd) (s s' : S) (k n : Nat) (Q : St → Hp → Prop), OKs K w H σ s k → s.a.length = n → RepL K w.F ds xs → g ds s = some s' →
    (∀ σ', OKs K w H σ' s' k → s'.a.length = n → Slotted s s' → (∀ i, i ∉ ws → σ'[i]? = σ[i]?) → Q σ' H) → t xs σ H Q
structure RG (X : Cx) (tg : Expr) (g : D → S → Option S) (ws : List Nat) : Prop where
  ex : ∃ t, PG X tg t ∧ SndG X.K t g ws
structure RGs (X : Cx) (tg : List Expr) (g : List D → S → Option S) (ws : List Nat) : Prop where
  ex : ∃ t, PGs X tg t ∧ SndGs X.K t g ws
/-- data into a slot -/
def putD (i : Nat) (s : S) (d : D) : Option S := if s.a.length ≤ i then none else some { s with a := s.a.set i (some (.d d)) }
def gN (i : Nat) (d : D) (s : S) : Option S := putD i s d
def gs0 (ds : List D) (s : S) : Option S := match ds with
  | [] => some s
  | _ => none
def gsC (g : D → S → Option S) (gs : List D → S → Option S) (ds : List D) (s : S) : Option S := match ds with
  | [] => none
  | d :: r => match g d s with
    | none => none
    | some s1 => gs r s1
def gT (k : Nat) (gs : List D → S → Option S) (d : D) (s : S) : Option S := match d with
  | .tuple ds => if ds.length = k then gs ds s else none
  | _ => none
theorem putD_ok {K : PySem.W.Frag} {w : Wd} {H : Hp} {σ : St} {s s' : S} {k i : Nat} {d : D} {x : V} (ok : OKs K w H σ s k) (rep : Rep K w.F d x) (e : putD i s d = some s') :
    OKs K w H (σ.set i (some x)) s' k ∧ s'.a.length = s.a.length ∧ Slotted s s' ∧ ∀ j, j ∉ [i] → (σ.set i (some x))[j]? = σ[j]? := by
  unfold putD at e
  split at e
  · cases e
  · rename_i hi
    cases e
    refine ⟨⟨ok.sub, by simp [ok.len], fun j q v h1 h2 => ?_, ok.own, by simpa using ok.tN, ok.box, ok.nob⟩, by simp, fun j q h => ?_, fun j hj => List.getElem?_set_ne (by simpa using Ne.symm (by simpa using hj))⟩
    · rcases set_get h1 with ⟨rfl, rfl⟩ | ⟨hj, h3⟩
      · rcases set_get h2 with ⟨_, rfl⟩ | ⟨hj, _⟩
        · exact ⟨x, rfl, rep⟩
        · exact absurd rfl hj
      · rcases set_get h2 with ⟨rfl, _⟩ | ⟨_, h4⟩
        · exact absurd rfl hj
        · exact ok.sl j q v h3 h4
    · by_cases hj : j = i
      · subst hj; exact ⟨.d d, List.getElem?_set_self (Nat.lt_of_not_le hi)⟩
      · exact ⟨q, by rw [List.getElem?_set_ne (Ne.symm hj)]; exact h⟩
section
variable {X : Cx} {e : Expr} {es : List Expr} {pos : Pos} {g : D → S → Option S} {gs : List D → S → Option S} {ws us : List Nat}
theorem rg_name {i : Nat} {x : Str} (hN : X.N.Nodup) (hi : X.N[i]? = some x) (hx : Loc X.env.scope x) (hf : X.fn x = true ∨ X.env.scope.names.lookup x = some .local := by first | exact .inl rfl | exact .inr rfl | assumption) : RG X (.Name x pos) (gN i) [i] :=
  ⟨_, pg_name hN hi hx hf, fun d x σ H w s s' m n Q ok hn rep e k => by
    obtain ⟨ok', l', sl, ws⟩ := putD_ok ok rep e
    exact k _ ok' (l'.trans hn) sl ws⟩
theorem rgs_nil : RGs X [] gs0 [] := ⟨_, pgs_nil, fun ds xs σ H w s s' m n Q ok hn rep e k => by
  cases ds with
  | cons _ _ => cases e
  | nil =>
    cases e
    simp only [RepL] at rep
    exact ⟨rep, k σ ok hn .refl fun _ _ => rfl⟩⟩
theorem rgs_cons (h1 : RG X e g ws) (h2 : RGs X es gs us) (hs : (assignEach (e :: es) X.env).map (·.2) = assign e X.env :: (assignEach es X.env).map (·.2) := by rfl) : RGs X (e :: es) (gsC g gs) (ws ++ us) := by
  obtain ⟨t1, p1, s1⟩ := h1
  obtain ⟨t2, p2, s2⟩ := h2
  refine ⟨_, pgs_cons p1 p2 hs, fun ds xs σ H w s s' m n Q ok hn rep e k => ?_⟩
  cases ds with
  | nil => cases e
  | cons d r =>
    simp only [gsC] at e
    simp only [RepL] at rep
    obtain ⟨x, q, rfl, h1, h2⟩ := rep
    split at e
    · cases e
    · rename_i sa e1
      refine ⟨x, q, rfl, s1 d x σ H w s sa m n _ ok hn h1 e1 fun σ1 ok1 l1 sl1 w1 => ?_⟩
      exact s2 r q σ1 H w sa s' m n Q ok1 l1 h2 e fun σ2 ok2 l2 sl2 w2 => k σ2 ok2 l2 (sl1.trans sl2) fun i hi => by
        simp only [List.mem_append, not_or] at hi
        rw [w2 i hi.2, w1 i hi.1]
theorem rg_tup {k n : Nat} (h : RGs X es gs ws) (hc : X.calm = true := by rfl) (hn : (assignEach es X.env).length = n := by rfl) (hst : (assignEach es X.env).findIdx? (·.1) = none := by rfl) : RG X (.Tuple es k pos) (gT n gs) ws := by
  obtain ⟨t1, p1, s1⟩ := h
  refine ⟨_, pg_tup hc p1 hn hst, fun d x σ H w s s' m n Q ok hm rep e kk => ?_⟩
  unfold gT at e
  split at e
  · rename_i ds
    split at e
    · rename_i hl
      simp only [Rep] at rep
      obtain ⟨a, xs, rfl, h1, h2⟩ := rep
      exact ⟨a, xs, rfl, SqT.of (ok.sub _ _ h1), by rw [← RepL.length _ _ h2]; exact hl, s1 ds xs σ H w s s' m n Q ok hm h2 e kk⟩
    · cases e
  · cases e
end

/-! ## loops -/
abbrev MI := M (List D)
def WalkOk (K : PySem.W.Frag) (J : It) (ds : List D) (F : Hp) : Prop := ∃ (G : Hp → Prop) (Y : Nat → Hp → V → Hp → Prop), Walk J ds.length G Y ∧ (∀ H, Same F H → G H) ∧
  ∀ i H x H', i < ds.length → Same F H → Y i H x H' → ∃ d, ds[i]? = some d ∧ ((H' = H ∧ Rep K F d x) ∨ ∃ T vs es, x = .ref T ∧ H T = none ∧ H' = upd H T (.tup vs) ∧ d = .tuple es ∧ RepL K F es vs)
structure RI (X : Cx) (tg iter : Expr) (src : MI) : Prop where
  ex : ∃ wi, PI X tg iter wi ∧ ∀ (σ : St) (H : Hp) (w : Wd) (s : S) (t : Nat) (Q : It → Hp → Prop) (ds : List D) (s' : S), OKs X.K w H σ s t → src s = .ok ds s' →
    (∀ w' H' t' J, t ≤ t' → OKs X.K w' H' σ s' t' → Step s.a.length t w H w' H' → Slotted s s' → WalkOk X.K J ds w'.F → Q J H') → wi σ H Q
def iTupD (m : ME) : MI := fun s => match m s with
  | .no => .no
  | .ok r s1 => match take1 s1 r with
    | some (.tuple ds, s2) => .ok ds s2
    | _ => .no
def iLstD (m : ME) : MI := fun s => match m s with
  | .no => .no
  | .ok r s1 => match take1 s1 r with
    | some (.list ds, s2) => .ok ds s2
    | _ => .no
def intsD (lo : Int) (n : Nat) : List D := (List.range n).map fun i => .int (lo + (i : Nat))
def iRange1 (m : MA) : MI := fun s => match m s with
  | .ok [.d (.int j)] s1 => if -(2 ^ 62) ≤ j ∧ j < 2 ^ 62 then .ok (intsD 0 j.toNat) s1 else .no
  | _ => .no
def iRange2 (m : MA) : MI := fun s => match m s with
  | .ok [.d (.int i), .d (.int j)] s1 => if -(2 ^ 62) ≤ i ∧ i < 2 ^ 62 ∧ -(2 ^ 62) ≤ j ∧ j < 2 ^ 62 then .ok (intsD i (j - i).toNat) s1 else .no
  | _ => .no
section
variable {X : Cx} {e a b tg : Expr} {es : List Expr} {pos : Pos} {m : ME} {ms : MA}
theorem walk_seq {K : PySem.W.Frag} {J : It} {ds : List D} {xs : List V} {F : Hp} {G : Hp → Prop} (hw : Walk J xs.length G (YAt xs)) (hG : ∀ H, Same F H → G H) (rep : RepL K F ds xs) : WalkOk K J ds F := by
  have l := RepL.length _ _ rep
  refine ⟨G, YAt xs, by rw [l]; exact hw, hG, fun i H x H' hi hs y => ?_⟩
  obtain ⟨rfl, hx⟩ := y
  obtain ⟨d, h1, h2⟩ := RepL.getV _ _ i x rep hx
  exact ⟨d, h1, .inl ⟨rfl, h2⟩⟩
theorem ri_tup (h : RE X e m) : RI X tg e (iTupD m) := by
  obtain ⟨te, p1, s1⟩ := h
  refine ⟨_, pi_tup p1, fun σ H w s t Q ds s' ok e k => ?_⟩
  simp only [iTupD] at e
  split at e
  · cases e
  · rename_i r sa e1
    split at e
    · rename_i es sb e2
      cases e
      refine s1 σ H w s t _ r sa ok e1 fun w1 H1 x t1 τ a1 a2 ok1 st1 sl1 rel1 => ?_
      have l := ok.slen ok1
      obtain ⟨w2, ok2, st2, rep, sl2, l2, _⟩ := take1_ok (t0 := t) ok1 rel1 e2 a1 (by rw [l]; exact ok.tN)
      simp only [Rep] at rep
      obtain ⟨a, xs, rfl, h1, h2⟩ := rep
      rw [l] at st2
      exact ⟨a, rfl, ⟨xs, SqT.of (ok2.sub _ _ h1)⟩, k w2 H1 t1 _ (by omega) ok2 (st1.trans st2) (sl1.trans sl2) (walk_seq walk_tup (fun H' sm => SqT.of (sm _ _ h1)) h2)⟩
    · cases e
theorem ri_lst (h : RE X e m) : RI X tg e (iLstD m) := by
  obtain ⟨te, p1, s1⟩ := h
  refine ⟨_, pi_list p1, fun σ H w s t Q ds s' ok e k => ?_⟩
  simp only [iLstD] at e
  split at e
  · cases e
  · rename_i r sa e1
    split at e
    · rename_i es sb e2
      cases e
      refine s1 σ H w s t _ r sa ok e1 fun w1 H1 x t1 τ a1 a2 ok1 st1 sl1 rel1 => ?_
      have l := ok.slen ok1
      obtain ⟨w2, ok2, st2, rep, sl2, l2, _⟩ := take1_ok (t0 := t) ok1 rel1 e2 a1 (by rw [l]; exact ok.tN)
      simp only [Rep] at rep
      obtain ⟨a, xs, rfl, h1, h2⟩ := rep
      rw [l] at st2
      exact ⟨a, rfl, ⟨xs, ok2.sub.seq h1⟩, k w2 H1 t1 _ (by omega) ok2 (st1.trans st2) (sl1.trans sl2) (walk_seq walk_list (fun H' sm => sm.seq h1) h2)⟩
    · cases e
theorem walk_ints {K : PySem.W.Frag} {lo : Int} {n : Nat} {F : Hp} : WalkOk K (Itr lo n) (intsD lo n) F := by
  have l : (intsD lo n).length = n := by simp [intsD]
  refine ⟨fun _ => True, _, by rw [l]; exact walk_range, fun _ _ => trivial, fun i H x H' hi hs y => ?_⟩
  obtain ⟨rfl, rfl⟩ := y
  rw [l] at hi
  refine ⟨.int (lo + (i : Nat)), by simp [intsD, hi], .inl ⟨rfl, by simp only [Rep]⟩⟩
theorem ri_range1 {p : Pos} (hg : Gl X "range") (hm : X.mg "range" = none) (h : RA X [a] ms) (hs : starEach [a] X.env = [(false, eval a X.env)] := by rfl) : RI X tg (.Call (.Name "range" p) [a] [] pos) (iRange1 ms) := by
  obtain ⟨ta, p1, s1⟩ := h
  refine ⟨_, pi_range1 hg hm p1 hs, fun σ H w s t Q ds s' ok e k => ?_⟩
  simp only [iRange1] at e
  split at e
  · rename_i j sa e1
    split at e
    · rename_i hb
      cases e
      refine s1 σ H w s t _ _ _ ok e1 fun w1 H1 xs t1 a1 ok1 st1 sl1 rel1 => ?_
      obtain ⟨x, q, τ, rfl, _, _, h1, rfl⟩ := rel1
      simp only [RelR, Rep] at h1
      subst h1
      exact ⟨j, rfl, hb.1, hb.2, k w1 H1 t1 _ a1 ok1 st1 sl1 walk_ints⟩
    · cases e
  · cases e
theorem ri_range2 {p : Pos} (hg : Gl X "range") (hm : X.mg "range" = none) (h : RA X [a, b] ms) (hs : starEach [a, b] X.env = [(false, eval a X.env), (false, eval b X.env)] := by rfl) (hs2 : starEach [b] X.env = [(false, eval b X.env)] := by rfl) :
    RI X tg (.Call (.Name "range" p) [a, b] [] pos) (iRange2 ms) := by
  obtain ⟨ta, p1, s1⟩ := h
  refine ⟨_, pi_range2 hg hm p1 hs hs2, fun σ H w s t Q ds s' ok e k => ?_⟩
  simp only [iRange2] at e
  split at e
  · rename_i i j sa e1
    split at e
    · rename_i hb
      cases e
      refine s1 σ H w s t _ _ _ ok e1 fun w1 H1 xs t1 a1 ok1 st1 sl1 rel1 => ?_
      obtain ⟨x, q, τ, rfl, _, _, h1, y, q2, τ2, rfl, _, _, h2, rfl⟩ := rel1
      simp only [RelR, Rep] at h1 h2
      subst h1
      subst h2
      exact ⟨i, j, rfl, hb, k w1 H1 t1 _ a1 ok1 st1 sl1 walk_ints⟩
    · cases e
  · cases e
end
def loopL (g : D → S → Option S) (body : MS) : List D → MS
  | [], s => .ok .nx s
  | d :: r, s => match g d s with
    | none => .no
    | some s1 => match body s1 with
      | .ok .nx s2 => loopL g body r s2
      | .ok .ct s2 => loopL g body r s2
      | .ok .bk s2 => .ok .nx s2
      | .ok (.rt x) s2 => .ok (.rt x) s2
      | .no => .no
def mFor (src : MI) (g : D → S → Option S) (body : MS) : MS := fun s => match src s with
  | .no => .no
  | .ok ds s1 => loopL g body ds s1
def whileN (c : MT) (body : MS) : Nat → MS
  | 0, _ => .no
  | n + 1, s => match c s with
    | .no => .no
    | .ok false s1 => .ok .nx s1
    | .ok true s1 => match body s1 with
      | .ok .nx s2 => whileN c body n s2
      | .ok .ct s2 => whileN c body n s2
      | .ok .bk s2 => .ok .nx s2
      | .ok (.rt x) s2 => .ok (.rt x) s2
      | .no => .no
open Classical in
noncomputable def mWhile (c : MT) (body : MS) : MS := fun s => if h : ∃ n, whileN c body n s ≠ .no then whileN c body h.choose s else .no
section
variable {X : Cx} {e c iter tg : Expr} {body : List Stmt} {pos : Pos} {src : MI} {g : D → S → Option S} {ws : List Nat} {mc : MT} {mb : MS}
theorem rs_for (hp : PassesOwn (model X.prog X.w) X.A X.env X.xe) (hc : X.calm = true) (hi : RI X tg iter src) (hg : RG X tg g ws) (hb : RSs X body mb) (hs : ∀ x, foldedSetIterable iter X.env x = pure x := by intro _; rfl) : RS X (.For tg iter body [] pos) (mFor src g mb) := by
  obtain ⟨ti, p1, s1⟩ := hi
  obtain ⟨tt, p2, s2⟩ := hg
  obtain ⟨tb, p3, s3⟩ := hb
  refine ⟨_, ps_for hp hc p1 p2 p3 hs, fun σ H w s D f s' ok e k => ?_⟩
  simp only [mFor] at e
  split at e
  · cases e
  · rename_i ds sa e1
    refine s1 σ H w s _ _ ds sa ok e1 fun w1 H1 t1 J a1 ok1 st1 sl1 wk => ?_
    have hl := ok.slen ok1
    generalize hn : s.a.length = n at *
    obtain ⟨G, Y, hw, hG, hY⟩ := wk
    have k1 := k.after (st1.trans drop_step)
    refine for_it hw (fun i σ2 H2 => ∃ w2 s2, OKs X.K w2 H2 σ2 s2 n ∧ s2.a.length = n ∧ Step n n (w1.drop n) H1 w2 H2 ∧ loopL g mb (ds.drop i) s2 = .ok f s') ⟨_, sa, drop_ok ok1 hl, hl, .refl, e⟩
      (fun i σ2 H2 _ ⟨w2, s2, ok2, _, st2, _⟩ => hG H2 (st2.F.trans ok2.sub)) ?_ ?_
    · rintro i x σ2 H2 H3 hi ⟨w2, sb, ok2, l2, st2, e2⟩ y
      obtain ⟨d, hd, hx⟩ := hY i H2 x H3 hi (st2.F.trans ok2.sub) y
      have ed : ds.drop i = d :: ds.drop (i + 1) := by
        have := List.drop_eq_getElem_cons hi
        rw [this]
        have q := (List.getElem?_eq_some_iff.mp hd).2
        rw [q]
      rw [ed] at e2
      -- the item, the world in which it stands
      obtain ⟨w3, ok3, st3, rep3⟩ : ∃ w3, OKs X.K w3 H3 σ2 sb n ∧ Step n n w2 H2 w3 H3 ∧ Rep X.K w3.F d x := by
        rcases hx with ⟨rfl, hr⟩ | ⟨T, vs, es, rfl, hT, rfl, rfl, hr⟩
        · exact ⟨w2, ok2, .refl, Rep.mono st2.F d x hr⟩
        · refine ⟨w2.lay T (.tup vs), lay_ok ok2 hT, lay_step ok2 hT, ?_⟩
          simp only [Rep]
          exact ⟨T, vs, rfl, upd_same, RepL.mono (st2.F.trans (lay_step (o := .tup vs) (t0 := n) (n := n) ok2 hT).F) es vs hr⟩
      simp only [loopL] at e2
      split at e2
      · cases e2
      · rename_i sc e3
        refine s2 d x σ2 H3 w3 sb sc n n _ ok3 l2 rep3 e3 fun σ4 ok4 l4 sl4 wr4 => ?_
        have st14 := st2.trans st3
        rw [← l4] at ok4
        split at e2
        · rename_i sd e4
          refine s3 σ4 H3 w3 sc _ .nx sd ok4 e4 ⟨fun _ σ5 w5 H5 ok5 l5 st5 => ?_, (fun h => nomatch h), (fun h => nomatch h), (fun r h => nomatch h)⟩
          rw [l4] at ok5 l5 st5
          exact ⟨w5, sd, ok5, l5, st14.trans st5, e2⟩
        · rename_i sd e4
          refine s3 σ4 H3 w3 sc _ .ct sd ok4 e4 ⟨(fun h => nomatch h), (fun h => nomatch h), fun _ σ5 w5 H5 ok5 l5 st5 => ?_, (fun r h => nomatch h)⟩
          rw [l4] at ok5 l5 st5
          exact ⟨w5, sd, ok5, l5, st14.trans st5, e2⟩
        · rename_i sd e4
          cases e2
          refine s3 σ4 H3 w3 sc _ .bk _ ok4 e4 ⟨(fun h => nomatch h), fun _ σ5 w5 H5 ok5 l5 st5 => ?_, (fun h => nomatch h), (fun r h => nomatch h)⟩
          rw [l4] at ok5 l5 st5
          exact k1.nx rfl σ5 w5 H5 ok5 l5 (st14.trans st5)
        · rename_i r sd e4
          cases e2
          refine s3 σ4 H3 w3 sc _ (.rt r) _ ok4 e4 ⟨(fun h => nomatch h), (fun h => nomatch h), (fun h => nomatch h), fun r' h σ5 w5 H5 x5 t5 τ5 b1 b2 ok5 l5 st5 rel5 => ?_⟩
          cases h
          rw [l4] at b1 l5 st5
          exact k1.rt r rfl σ5 w5 H5 x5 t5 τ5 b1 b2 ok5 l5 (st14.trans st5) rel5
        · cases e2
    · rintro σ2 H2 ⟨w2, sb, ok2, l2, st2, e2⟩
      rw [List.drop_length] at e2
      cases e2
      exact k1.nx rfl σ2 w2 H2 ok2 l2 st2
theorem rs_while (hp : PassesOwn (model X.prog X.w) X.A X.env X.xe) (hc : RT X c mc) (hb : RSs X body mb) : RS X (.While c body [] pos) (mWhile mc mb) := by
  obtain ⟨tc, p1, s1⟩ := hc
  obtain ⟨tb, p2, s2⟩ := hb
  refine ⟨_, ps_while hp p1 p2, fun σ H w s D f s' ok e k => ?_⟩
  simp only [mWhile] at e
  split at e
  · rename_i hx
    generalize hx.choose = N at e
    generalize hn : s.a.length = n at *
    refine ⟨fun m σ2 H2 => ∃ w2 s2, OKs X.K w2 H2 σ2 s2 n ∧ s2.a.length = n ∧ Step n n w H w2 H2 ∧ whileN mc mb m s2 = .ok f s', ⟨N, w, s, ok, hn, .refl, e⟩, ?_⟩
    rintro m σ2 H2 ⟨w2, sb, ok2, l2, st2, e2⟩
    cases m with
    | zero => cases e2
    | succ m =>
      simp only [whileN] at e2
      have ok2' := ok2
      rw [← l2] at ok2'
      split at e2
      · cases e2
      · rename_i sc e3
        cases e2
        refine s1 σ2 H2 w2 sb _ _ false _ ok2' e3 fun w3 H3 t3 a3 ok3 st3 sl3 => iteF ?_
        have l3 := ok2.slen ok3
        rw [l2] at st3 l3
        exact k.nx rfl σ2 _ H3 (drop_ok ok3 l3) l3 ((st2.trans st3).trans drop_step)
      · rename_i sc e3
        refine s1 σ2 H2 w2 sb _ _ true sc ok2' e3 fun w3 H3 t3 a3 ok3 st3 sl3 => iteT ?_
        have l3 := ok2.slen ok3
        rw [l2] at st3 l3
        refine ⟨fun σ' H' => ∃ w2 s2, OKs X.K w2 H' σ' s2 n ∧ s2.a.length = n ∧ Step n n w H w2 H' ∧ whileN mc mb m s2 = .ok f s', fun σ' H' h => ⟨m, Nat.lt_succ_self m, h⟩, ?_⟩
        have ok4 := drop_ok ok3 l3
        have st14 := (st2.trans st3).trans (drop_step (n := n))
        rw [← l3] at ok4
        split at e2
        · rename_i sd e4
          refine s2 σ2 H3 _ sc _ .nx sd ok4 e4 ⟨fun _ σ5 w5 H5 ok5 l5 st5 => ?_, (fun h => nomatch h), (fun h => nomatch h), (fun r h => nomatch h)⟩
          rw [l3] at ok5 l5 st5
          exact ⟨w5, sd, ok5, l5, st14.trans st5, e2⟩
        · rename_i sd e4
          refine s2 σ2 H3 _ sc _ .ct sd ok4 e4 ⟨(fun h => nomatch h), (fun h => nomatch h), fun _ σ5 w5 H5 ok5 l5 st5 => ?_, (fun r h => nomatch h)⟩
          rw [l3] at ok5 l5 st5
          exact ⟨w5, sd, ok5, l5, st14.trans st5, e2⟩
        · rename_i sd e4
          cases e2
          refine s2 σ2 H3 _ sc _ .bk _ ok4 e4 ⟨(fun h => nomatch h), fun _ σ5 w5 H5 ok5 l5 st5 => ?_, (fun h => nomatch h), (fun r h => nomatch h)⟩
          rw [l3] at ok5 l5 st5
          exact k.nx rfl σ5 w5 H5 ok5 l5 (st14.trans st5)
        · rename_i r sd e4
          cases e2
          refine s2 σ2 H3 _ sc _ (.rt r) _ ok4 e4 ⟨(fun h => nomatch h), (fun h => nomatch h), (fun h => nomatch h), fun r' h σ5 w5 H5 x5 t5 τ5 b1 b2 ok5 l5 st5 rel5 => ?_⟩
          cases h
          rw [l3] at b1 l5 st5
          exact k.rt r rfl σ5 w5 H5 x5 t5 τ5 b1 b2 ok5 l5 (st14.trans st5) rel5
        · cases e2
  · cases e
end
end Qz
namespace Qz
open PySem PySem.Spec L2
open PyProof.Rows hiding St

/-! ## defs -/
def S.init (N : Nat) (rs : List R) (b : Bx) : S := ⟨rs.map some ++ List.replicate (N - rs.length) none, b⟩
def fin (s : S) : R → OutF
  | .sl i => match s.a[i]? with
    | some (some (.o c)) => .ok (.o c) s.b
    | some (some (.d x)) => .ok (.d x) s.b
    | _ => .no
  | r => .ok r s.b
def runF (N : Nat) (body : MS) : DF := fun rs b => match body (.init N rs b) with
  | .ok .nx s => .ok (.d .none) s.b
  | .ok (.rt r) s => fin s r
  | _ => .no
section
variable (K : PySem.W.Frag)
def ArgsR (F : Hp) (B : Option (Addr × Addr)) : List R → List V → Prop
  | [], vs => vs = []
  | .d d :: rs, vs => ∃ v q, vs = v :: q ∧ Rep K F d v ∧ ArgsR F B rs q
  | .bx :: rs, vs => ∃ p g q, B = some (p, g) ∧ vs = .ref p :: q ∧ ArgsR F B rs q
  | _ :: _, _ => False
/-- an owner without a tag: new in H' -/
def OwnN (F H H' : Hp) : C → V → Prop
  | .lst ds, u => ∃ a xs, u = .ref a ∧ F a = none ∧ H a = none ∧ H' a = some (.lst xs) ∧ RepL K F ds xs
  | .dK kvs, u => ∃ a ys, u = .ref a ∧ F a = none ∧ H a = none ∧ H' a = some (.dK ys) ∧ RepK K F kvs ys
  | .dT kvs, u => ∃ a ys, u = .ref a ∧ F a = none ∧ H a = none ∧ H' a = some (.dT ys) ∧ RepT K F kvs ys
def RetR (F H H' : Hp) (B : Option (Addr × Addr)) : R → V → Prop
  | .d d, u => Rep K F d u
  | .o c, u => OwnN K F H H' c u ∧ ∀ a, u = .ref a → ¬ isBox B a
  | .bx, u => ∃ p g, B = some (p, g) ∧ u = .ref p
  | _, _ => False
structure After (F H : Hp) (B : Option (Addr × Addr)) (F' H' : Hp) (B' : Option (Addr × Addr)) (b' : Bx) : Prop where
  mono : Same F F'
  sub : Same F' H'
  keep : ∀ a o, H a = some o → ¬ isBox B a → H' a = some o
  there : ∀ a o, H a = some o → ∃ o', H' a = some o'
  newF : ∀ a, F' a ≠ none → F a ≠ none ∨ H a = none ∨ (∃ xs, H a = some (.tup xs)) ∨ isBox B a
  B : B' = B ∨ (B = none ∧ ∀ p g, B' = some (p, g) → H p = none ∧ H g = none)
  box : ∀ p g, B' = some (p, g) → BoxOk F' H' p g b'
  nob : b'.c < 0 → B' = none
def spD (np : Nat) (g : DF) : Sp := fun vs H Q _ => ∃ (F : Hp) (B : Option (Addr × Addr)) (rs : List R) (b : Bx) (r : R) (b' : Bx), vs.length = np ∧ Same F H ∧ (∀ p g, B = some (p, g) → BoxOk F H p g b) ∧ (b.c < 0 → B = none) ∧ ArgsR K F B rs vs ∧ g rs b = .ok r b' ∧
  ∀ F' B' H' x, After F H B F' H' B' b' → RetR K F' H H' B' r x → Q x H'
end
section
variable {K : PySem.W.Frag}
theorem ArgsR.length {F : Hp} {B : Option (Addr × Addr)} : ∀ (rs : List R) (vs : List V), ArgsR K F B rs vs → rs.length = vs.length
  | [], _, h => by simp only [ArgsR] at h; subst h; rfl
  | .d d :: rs, _, h => by
    simp only [ArgsR] at h
    obtain ⟨v, q, rfl, _, h2⟩ := h
    simp [ArgsR.length rs q h2]
  | .bx :: rs, _, h => by
    simp only [ArgsR] at h
    obtain ⟨p, g, q, _, rfl, h2⟩ := h
    simp [ArgsR.length rs q h2]
  | .o _ :: _, _, h => h.elim
  | .sl _ :: _, _, h => h.elim
  | .st _ :: _, _, h => h.elim
theorem ArgsR.slot {F H : Hp} {B : Option (Addr × Addr)} : ∀ (rs : List R) (vs : List V) (j i : Nat) (r : R) (v : V), ArgsR K F B rs vs → rs[i]? = some r → vs[i]? = some v → SlR K ⟨F, fun _ => none, B⟩ H j (some r) (some v)
  | [], _, _, _, _, _, _, e, _ => by simp at e
  | .d d :: rs, _, j, 0, _, _, h, e, e2 => by
    simp only [ArgsR] at h
    obtain ⟨v, q, rfl, h1, h2⟩ := h
    simp at e e2
    subst e
    subst e2
    exact ⟨v, rfl, h1⟩
  | .bx :: rs, _, j, 0, _, _, h, e, e2 => by
    simp only [ArgsR] at h
    obtain ⟨p, g, q, h1, rfl, h2⟩ := h
    simp at e e2
    subst e
    subst e2
    exact ⟨p, g, h1, rfl⟩
  | .d d :: rs, _, j, i + 1, r, v, h, e, e2 => by
    simp only [ArgsR] at h
    obtain ⟨v', q, rfl, h1, h2⟩ := h
    exact ArgsR.slot rs q j i r v h2 (by simpa using e) (by simpa using e2)
  | .bx :: rs, _, j, i + 1, r, v, h, e, e2 => by
    simp only [ArgsR] at h
    obtain ⟨p, g, q, h1, rfl, h2⟩ := h
    exact ArgsR.slot rs q j i r v h2 (by simpa using e) (by simpa using e2)
  | .o _ :: _, _, _, _, _, _, h, _, _ => h.elim
  | .sl _ :: _, _, _, _, _, _, h, _, _ => h.elim
  | .st _ :: _, _, _, _, _, _, h, _, _ => h.elim
theorem start_ok {F H : Hp} {B : Option (Addr × Addr)} {rs : List R} {vs : List V} {b : Bx} {N : List Str} (hF : Same F H) (hB : ∀ p g, B = some (p, g) → BoxOk F H p g b) (hnb : b.c < 0 → B = none) (ha : ArgsR K F B rs vs) :
    OKs K ⟨F, fun _ => none, B⟩ H (L2.start N vs) (.init N.length rs b) (S.init N.length rs b).a.length := by
  have hl := ArgsR.length rs vs ha
  refine ⟨hF, by simp [L2.start, S.init, hl], fun i q v h1 h2 => ?_, (fun a i e => nomatch e), Nat.le_refl _, fun p g e => ⟨hB p g e, rfl, rfl⟩, hnb⟩
  unfold S.init at h1
  unfold L2.start at h2
  by_cases hi : i < rs.length
  · rw [List.getElem?_append_left (by simpa using hi)] at h1
    rw [List.getElem?_append_left (by simpa [← hl] using hi)] at h2
    simp only [List.getElem?_map, Option.map_eq_some_iff] at h1 h2
    obtain ⟨r, h3, rfl⟩ := h1
    obtain ⟨u, h4, rfl⟩ := h2
    exact ArgsR.slot rs vs i i r u ha h3 h4
  · rw [List.getElem?_append_right (by simpa using hi)] at h1
    have : q = none := by
      have := List.mem_of_getElem? h1
      exact (List.mem_replicate.mp this).2
    subst this
    trivial
theorem after_of {n : Nat} {F H : Hp} {B : Option (Addr × Addr)} {w' : Wd} {H' : Hp} {σ : St} {s : S} {t : Nat} (st : Step n n ⟨F, fun _ => none, B⟩ H w' H') (ok : OKs K w' H' σ s t) : After F H B w'.F H' w'.B s.b :=
  ⟨st.F, ok.sub, fun a o h hb => st.keep a o h (fun i hi => nomatch hi) hb, st.there, (fun a h => by
    rcases st.newF a h with z | z | ⟨i, z, _⟩ | z
    · exact .inl z
    · exact .inr (.inl z)
    · cases z
    · exact .inr (.inr z)), st.B, fun p g e => (ok.box p g e).1, ok.nob⟩
theorem own_new {n τ : Nat} {F H : Hp} {B : Option (Addr × Addr)} {w' : Wd} {H' : Hp} {σ : St} {s : S} {t : Nat} {c : C} {u : V} (st : Step n n ⟨F, fun _ => none, B⟩ H w' H') (ok : OKs K w' H' σ s t) (h : Own K w' H' τ c u) : RetR K w'.F H H' w'.B (.o c) u := by
  have key : ∀ a, w'.O a = some τ → w'.F a = none ∧ H a = none ∧ ¬ isBox w'.B a := fun a ha => by
    refine ⟨(ok.own a τ ha).1, ?_, ?_⟩
    · rcases st.newO a τ ha with z | z
      · exact z
      · exact absurd rfl z
    · rintro ⟨p, g, e, z⟩
      obtain ⟨_, z1, z2⟩ := ok.box p g e
      rcases z with rfl | rfl
      · rw [ha] at z1; cases z1
      · rw [ha] at z2; cases z2
  cases c with
  | lst ds =>
    obtain ⟨a, xs, rfl, h1, h2, h3⟩ := h
    exact ⟨⟨a, xs, rfl, (key a h1).1, (key a h1).2.1, h2, h3⟩, fun b e => by cases e; exact (key a h1).2.2⟩
  | dK ds =>
    obtain ⟨a, xs, rfl, h1, h2, h3⟩ := h
    exact ⟨⟨a, xs, rfl, (key a h1).1, (key a h1).2.1, h2, h3⟩, fun b e => by cases e; exact (key a h1).2.2⟩
  | dT ds =>
    obtain ⟨a, xs, rfl, h1, h2, h3⟩ := h
    exact ⟨⟨a, xs, rfl, (key a h1).1, (key a h1).2.1, h2, h3⟩, fun b e => by cases e; exact (key a h1).2.2⟩
/-- a body keeps its def's promise -/
theorem body_ok {N : List Str} {ts : TS} {m : MS} {np : Nat} {vs : List V} {H : Hp} {Q : VK} {E : XK} (hm : SndS K ts m) (hs : spD K np (runF N.length m) vs H Q E) : ts { nx := fun _ H' => Q .non H', rt := Q } (L2.start N vs) H := by
  obtain ⟨F, B, rs, b, r, b', hl, hF, hB, hnb, ha, e, k⟩ := hs
  have ok := start_ok (N := N) (b := b) hF hB hnb ha
  simp only [runF] at e
  split at e
  · rename_i sa e1
    cases e
    refine hm _ H _ _ _ .nx sa ok e1 ⟨fun _ σ1 w1 H1 ok1 l1 st1 => ?_, (fun h => nomatch h), (fun h => nomatch h), (fun r h => nomatch h)⟩
    exact k w1.F w1.B H1 .non (after_of st1 ok1) (by simp only [RetR, Rep])
  · rename_i r1 sa e1
    refine hm _ H _ _ _ (.rt r1) sa ok e1 ⟨(fun h => nomatch h), (fun h => nomatch h), (fun h => nomatch h), fun r2 h σ1 w1 H1 x t1 τ a1 a2 ok1 l1 st1 rel => ?_⟩
    cases h
    cases r1 with
    | d y => cases e; exact k w1.F w1.B H1 x (after_of st1 ok1) rel
    | o c => cases e; exact k w1.F w1.B H1 x (after_of st1 ok1) (own_new st1 ok1 rel)
    | sl i =>
      obtain ⟨q, h1, h2⟩ := rel
      have hs := ok1.sl i _ _ h1 h2
      simp only [fin, h1] at e
      cases q with
      | d y =>
        cases e
        obtain ⟨v, e1, h3⟩ := hs
        cases e1
        exact k w1.F w1.B H1 _ (after_of st1 ok1) h3
      | o c =>
        cases e
        obtain ⟨v, e1, h3⟩ := hs
        cases e1
        exact k w1.F w1.B H1 _ (after_of st1 ok1) (own_new st1 ok1 h3)
      | sl _ => cases e
      | bx => cases e
      | st _ => cases e
    | bx => cases e; exact k w1.F w1.B H1 x (after_of st1 ok1) rel
    | st _ => exact rel.elim
  · cases e
end

/-! ## a def's promise where no repr is under way -/
def SysM (g : Heap) : Prop := ∃ mm, g.Ns sysModules mm
structure FnG (P : Program) (w : World) (K : PySem.W.Frag) (mg : Str → Option Value) (base : Heap) (k : Nat) (f : Addr) (fd : FuncData) (ps : List Str) (sp : Sp) : Prop where
  many : ∀ vs H Q E, sp vs H Q E → vs.length = ps.length
  goes : ∀ (A : Around) (outer : List Env) (s : Shared) (H : Hp) (args : Args) (us : List Value) (vs : List V) (Q : VK) (E : XK), A.guards = some [] → SysM base → Room k A →
    Env0 P w K mg base A outer s H → BindsTo s fd args (ps.zip us) → Vals vs us → sp vs H Q E → codeAny (model P w) A (.call (.ref f) args) (CR CX0 outer P w H s Q E) s
theorem FnG.up {P : Program} {w : World} {K : PySem.W.Frag} {mg : Str → Option Value} {base : Heap} {j k : Nat} {f : Addr} {fd : FuncData} {ps : List Str} {sp : Sp} (F : FnG P w K mg base j f fd ps sp) (h : j ≤ k) : FnG P w K mg base k f fd ps sp :=
  ⟨F.many, fun A o s H a us vs Q E g1 g2 hr => F.goes A o s H a us vs Q E g1 g2 (hr.mono h)⟩
/-- what the rules ask of the place where code stands -/
structure Here (X : Cx) (k : Nat) : Prop where
  gd : X.A.guards = some []
  sy : SysM X.base
  rm : Room k X.A
theorem Here.up {X : Cx} {j k : Nat} (h : Here X k) (hj : j ≤ k) : Here X j := ⟨h.gd, h.sy, h.rm.mono hj⟩
section
variable {P : Program} {w : World} {K : PySem.W.Frag} {mg : Str → Option Value} {base : Heap}
/-- a def of the text, by its body -/
theorem fng_of {x qual : Str} {st : Stmt} {f : Addr} {fd : FuncData} {N ps : List Str} {k : Nat} {m : MS} (F : Fun K x qual st f fd) (S : FnScope N ps (defScope st))
    (hb : ∀ (X : Cx), X.prog = P → X.w = w → X.K = K → X.mg = mg → X.base = base → X.N = N → X.env.scope = defScope st → X.calm = true → (∀ y, X.fn y = true) → (∀ e s, ¬ X.xe e s) → Here X k → RSs X (defBody st) m) :
    FnG P w K mg base (k + 1) f fd ps (spD K ps.length (runF N.length m)) := by
  obtain ⟨oc, od, kV, doc, pm, an, cdv, ct, osl, rfl, lk, hcd⟩ := F.ex
  refine ⟨fun vs H Q E ⟨_, _, _, _, _, _, hl, _⟩ => hl, fun A outer s H args us vs Q E g1 g2 hr e0 hbd r hsp => ?_⟩
  have hl : vs.length = ps.length := by obtain ⟨_, _, _, _, _, _, hl, _⟩ := hsp; exact hl
  have grow := fun b o e => (e0.bs b o e).1
  have KX : K.In s.heap := e0.mod.kin.keeps grow
  have lim : s.heap.NoLimit := e0.mod.nolimit.keeps grow
  have hkind : ∀ y ∈ ps.zip us, (defScope st).names.lookup y.1 = some .local ∨ ((defScope st).names.lookup y.1 = some .cell ∧ ((cellsFrom (s.heap.objs.size + 1) (defScope st).names []).lookup y.1).isSome = true) := by
    rintro ⟨n, v⟩ hy
    rcases S.par n (List.of_mem_zip hy).1 with q | q
    · exact .inl q
    · exact .inr ⟨q, PySem.W.cellsFrom_some _ _ _ (.inl q)⟩
  refine codeAny_call_function hr.depth (KX _ _ lk) rfl S.co S.gen rfl (PySem.W.codeRec_of KX hcd) (hbd _ _ _ _ ?_)
  refine wpAny_newFunctionEnv_cells S.kind hkind fun env he s1 x => ?_
  subst he
  refine ⟨lim.keeps x.toInCall.keep, codeAny_func ?_⟩
  obtain ⟨ts, p1, p2⟩ := (hb (cxOf CX0 P w K mg base N qual (defScope st) f cdv A outer s H E).nox rfl rfl rfl rfl rfl rfl rfl rfl (fun _ => rfl) (fun _ _ h => h) ⟨g1, g2, hr.deeper _⟩).ex
  have I : Inv (cxOf CX0 P w K mg base N qual (defScope st) f cdv A outer s H E) [] (L2.start N vs) H s1 := inv_start S hr.hd e0 hl r x
  refine wpAny_mono (p1.nox.run [] s1 _ H { nx := fun _ H' => Q .non H', rt := Q } I (body_ok (E := E) p2 hsp)) (fun fl s' hs => ?_) fun e s' hs => hs
  cases fl with
  | ret u => obtain ⟨v, σ', H', J, rv, q⟩ := hs; exact ⟨v, H', J.os, J.bare, J.base, J.hok, rv, q⟩
  | next => obtain ⟨σ', H', J, q⟩ := hs; exact ⟨.non, H', J.os, J.bare, J.base, J.hok, rfl, q⟩
  | brk => obtain ⟨_, _, _, q⟩ := hs; exact q.elim
  | cont => obtain ⟨_, _, _, q⟩ := hs; exact q.elim
end
section
variable {X : Cx} {k : Nat} {f : Addr} {fd : FuncData} {ps : List Str} {sp : Sp} {E : XK} {x : Str} {p pos : Pos} {e : Expr} {es : List Expr} {t : TA}
theorem callee {pins : List (Addr × Obj)} {σ : St} {H : Hp} {s : Shared} {Q : VK} {args : Args} {us : List Value} {vs : List V} (F : FnG X.prog X.w X.K X.mg X.base k f fd ps sp) (h : Here X k) (hb : BindsTo s fd args (ps.zip us))
    (I : Inv X pins σ H s) (r : Vals vs us) (hs : sp vs H Q E) : wpAny (model X.prog X.w) X.A (call (.ref f) args.pos args.kw) (EP X pins σ Q) X.xe s := by
  refine wpAny_call (codeAny_mono (F.goes X.A X.stack s H args us vs Q E h.gd h.sy h.rm I.env0 hb r hs) fun r s' hq => ?_)
  cases r with
  | error e => exact hq.elim
  | ok fl =>
    cases fl with
    | ret u => exact I.after hq
    | next => exact hq.elim
    | brk => exact hq.elim
    | cont => exact hq.elim
theorem peg_call (F : FnG X.prog X.w X.K X.mg X.base k f fd ps sp) (h : Here X k) (hg : Gl X x) (hm : X.mg x = some (.ref f)) (hk : PySem.W.keepIn X.K (.ref f) = true) (hb : Binds X.K fd ps [])
    (ha : PA X (e :: es) t) (hdb : (x == ("__debug__" : Str)) = false) (he : starEach (e :: es) X.env = (false, eval e X.env) :: starEach es X.env) (hpl : (backTo pos (starEach es X.env)).any (·.1) = false) :
    PE X (.Call (.Name x p) (e :: es) [] pos) (fun σ H Q => t σ H fun vs H1 => sp vs H1 Q E) := by
  refine ⟨fun pins s σ H Q I hw => wpAny_Call_Name_kw (ld_glob I hg hm ?_ hdb)⟩
  refine PySem.W.callWith_K (h₀ := X.base) I.ok.mod.kin hk (thn (ha.run pos pins s σ H _ I hw) fun us s1 ⟨vs, H1, I1, r, q⟩ => ⟨I1.kIn, ?_⟩) he hpl
  have hl := F.many vs H1 Q E q
  have z := hb s1 us I1.kIn (by rw [List.append_nil, ← r.length]; exact hl)
  rw [List.append_nil] at z
  exact callee F h z I1 r q
theorem peg_call0 (F : FnG X.prog X.w X.K X.mg X.base k f fd ps sp) (h : Here X k) (hg : Gl X x) (hm : X.mg x = some (.ref f)) (hk : PySem.W.keepIn X.K (.ref f) = true) (hb : Binds X.K fd ps []) (hdb : (x == ("__debug__" : Str)) = false) :
    PE X (.Call (.Name x p) [] [] pos) (fun σ H Q => sp [] H Q E) := by
  refine ⟨fun pins s σ H Q I hw => wpAny_Call_Name_kw (ld_glob I hg hm ?_ hdb)⟩
  have hl := F.many [] H Q E hw
  have z := hb s [] I.kIn (by rw [List.append_nil]; exact hl)
  exact PySem.W.callWith_K0 I.kIn hk (callee F h z I .nil hw)
theorem peg_callK {kws : List Keyword} {ks : List Str} {tk : TA} {g : List Value → List Value → List Value} {gV : List V → List V → List V} (F : FnG X.prog X.w X.K X.mg X.base k f fd ps sp) (h : Here X k) (hg : Gl X x) (hm : X.mg x = some (.ref f)) (hk : PySem.W.keepIn X.K (.ref f) = true)
    (hb : KBinds X.K fd ps ks g gV) (ha : PA X (e :: es) t) (hkw : PK X kws tk) (hall : (backToKw pos (keywordEach kws X.env)).all (·.1.isSome) = true) (hks : (backToKw pos (keywordEach kws X.env)).filterMap (·.1) = ks)
    (hdb : (x == ("__debug__" : Str)) = false) (he : starEach (e :: es) X.env = (false, eval e X.env) :: starEach es X.env)
    (hpl : ((backTo pos (starEach (e :: es) X.env)).any (·.1) || (backToKw pos (keywordEach kws X.env)).any (·.1.isNone)) = false) :
    PE X (.Call (.Name x p) (e :: es) kws pos) (tCallK sp gV E t tk) := by
  refine ⟨fun pins s σ H Q I hw => wpAny_Call_Name_kw (ld_glob I hg hm ?_ hdb)⟩
  refine PySem.W.callWith_KW (h₀ := X.base) I.ok.mod.kin hk hall (thn (ha.run pos pins s σ H _ I hw) fun us s1 ⟨vs, H1, I1, r, q⟩ => thn (hkw.run pos pins s1 σ H1 _ I1 q) fun ws s2 ⟨zs, H2, I2, rz, q2⟩ => ⟨I2.kIn, ?_⟩) hpl he
  rw [hks]
  have r2 := hb.rel r rz
  exact callee F h (hb.to s2 us ws I2.kIn (by rw [← r2.length]; exact F.many _ _ _ _ q2)) I2 r2 q2
theorem peg_callK0 {kws : List Keyword} {ks : List Str} {tk : TA} {g : List Value → List Value → List Value} {gV : List V → List V → List V} (F : FnG X.prog X.w X.K X.mg X.base k f fd ps sp) (h : Here X k) (hg : Gl X x) (hm : X.mg x = some (.ref f)) (hk : PySem.W.keepIn X.K (.ref f) = true)
    (hb : KBinds X.K fd ps ks g gV) (hkw : PK X kws tk) (hall : (backToKw pos (keywordEach kws X.env)).all (·.1.isSome) = true) (hks : (backToKw pos (keywordEach kws X.env)).filterMap (·.1) = ks)
    (hdb : (x == ("__debug__" : Str)) = false) (hpl : ((backTo pos (starEach [] X.env)).any (·.1) || (backToKw pos (keywordEach kws X.env)).any (·.1.isNone)) = false) :
    PE X (.Call (.Name x p) [] kws pos) (tCallK sp gV E tNil tk) := by
  refine ⟨fun pins s σ H Q I hw => wpAny_Call_Name_kw (ld_glob I hg hm ?_ hdb)⟩
  refine PySem.W.callWith_KW0 (h₀ := X.base) I.ok.mod.kin hk hall (thn (hkw.run pos pins s σ H _ I hw) fun ws s2 ⟨zs, H2, I2, rz, q2⟩ => ⟨I2.kIn, ?_⟩) hpl
  rw [hks]
  have r2 := hb.rel (.nil : Vals [] []) rz
  exact callee F h (hb.to s2 [] ws I2.kIn (by rw [← r2.length]; exact F.many _ _ _ _ q2)) I2 r2 q2
end

/-! ## calls -/
def argsT (s : S) : List R → Option (List R × S)
  | [] => some ([], s)
  | .bx :: rs => match argsT s rs with
    | none => none
    | some (q, s2) => some (.bx :: q, s2)
  | r :: rs => match take1 s r with
    | none => none
    | some (x, s1) => match argsT s1 rs with
      | none => none
      | some (q, s2) => some (.d x :: q, s2)
def mCall (np : Nat) (g : DF) (ms : MA) : ME := fun s => match ms s with
  | .no => .no
  | .ok rs s1 => if rs.length = np then match argsT s1 rs with
    | none => .no
    | some (q, s2) => match g q s2.b with
      | .no => .no
      | .ok r b => .ok r { s2 with b := b } else .no
section
variable {K : PySem.W.Frag} {t t0 : Nat} {H : Hp} {σ : St}
theorem ArgsR.mono {F G : Hp} {B : Option (Addr × Addr)} (e : Same F G) : ∀ (rs : List R) (vs : List V), ArgsR K F B rs vs → ArgsR K G B rs vs
  | [], _, h => h
  | .d d :: rs, _, h => by
    simp only [ArgsR] at h ⊢
    obtain ⟨v, q, rfl, h1, h2⟩ := h
    exact ⟨v, q, rfl, Rep.mono e d v h1, ArgsR.mono e rs q h2⟩
  | .bx :: rs, _, h => by
    simp only [ArgsR] at h ⊢
    obtain ⟨p, g, q, h1, rfl, h2⟩ := h
    exact ⟨p, g, q, h1, rfl, ArgsR.mono e rs q h2⟩
  | .o _ :: _, _, h => h.elim
  | .sl _ :: _, _, h => h.elim
  | .st _ :: _, _, h => h.elim
theorem argsT_ok {hi : Nat} : ∀ (rs : List R) (us : List V) (qs : List R) (s s' : S) (w : Wd) (τ : Nat), OKs K w H σ s t → RelRs K w H σ s hi τ rs us → argsT s rs = some (qs, s') → t0 ≤ τ → s.a.length ≤ t0 →
    ∃ w', OKs K w' H σ s' t ∧ Step s.a.length t0 w H w' H ∧ ArgsR K w'.F w'.B qs us ∧ Slotted s s' ∧ s'.a.length = s.a.length ∧ w'.B = w.B
  | [], _, _, s, _, w, _, ok, h, e, _, _ => by
    cases e
    simp only [RelRs] at h
    subst h
    exact ⟨w, ok, .refl, by simp only [ArgsR], .refl, rfl, rfl⟩
  | r :: rs, _, _, s, s', w, τ, ok, ⟨x, q, τ2, rfl, a1, a2, h1, h2⟩, e, ht, hn => by
    have gen : (∀ y s1, take1 s r = some (y, s1) → ∀ q2 s2, argsT s1 rs = some (q2, s2) → s2 = s' → ∃ w', OKs K w' H σ s' t ∧ Step s.a.length t0 w H w' H ∧ ArgsR K w'.F w'.B (.d y :: q2) (x :: q) ∧ Slotted s s' ∧ s'.a.length = s.a.length ∧ w'.B = w.B) := fun y s1 e1 q2 s2 e2 es => by
      subst es
      obtain ⟨w1, ok1, st1, p1, sl1, l1, o1⟩ := take1_ok (t0 := t0) ok h1 e1 (by omega) hn
      have hB : w1.B = w.B := take1_B (K := K) st1 fun p g z => ⟨_, (ok1.box p g z).1.hp⟩
      have h2' := RelRs.other ok st1.F hB sl1 rs q (τ2 + 1) h2 fun a i hi => o1 a i (by omega) (by omega)
      obtain ⟨w2, ok2, st2, p2, sl2, l2, B2⟩ := argsT_ok rs q q2 s1 _ w1 (τ2 + 1) ok1 h2' e2 (by omega) (by omega)
      rw [l1] at st2
      refine ⟨w2, ok2, st1.trans st2, ?_, sl1.trans sl2, l2.trans l1, B2.trans hB⟩
      simp only [ArgsR]
      exact ⟨x, q, rfl, Rep.mono st2.F y x p1, p2⟩
    cases r with
    | bx =>
      simp only [argsT] at e
      split at e
      · cases e
      · rename_i q2 s2 e2
        cases e
        obtain ⟨w2, ok2, st2, p2, sl2, l2, B2⟩ := argsT_ok rs q q2 s _ w (τ2 + 1) ok h2 e2 (by omega) (by omega)
        obtain ⟨p, g, hB, rfl⟩ := h1
        refine ⟨w2, ok2, st2, ?_, sl2, l2, B2⟩
        simp only [ArgsR]
        exact ⟨p, g, q, B2.trans hB, rfl, p2⟩
    | d y =>
      simp only [argsT] at e
      split at e
      · cases e
      · rename_i y s1 e1
        split at e
        · cases e
        · rename_i q2 s2 e2
          cases e
          exact gen y s1 e1 q2 _ e2 rfl
    | o c =>
      simp only [argsT] at e
      split at e
      · cases e
      · rename_i y s1 e1
        split at e
        · cases e
        · rename_i q2 s2 e2
          cases e
          exact gen y s1 e1 q2 _ e2 rfl
    | sl i =>
      simp only [argsT] at e
      split at e
      · cases e
      · rename_i y s1 e1
        split at e
        · cases e
        · rename_i q2 s2 e2
          cases e
          exact gen y s1 e1 q2 _ e2 rfl
    | st _ => exact h1.elim
theorem RelRs.length {w : Wd} {s : S} {hi : Nat} : ∀ (rs : List R) (us : List V) (τ : Nat), RelRs K w H σ s hi τ rs us → rs.length = us.length
  | [], _, _, h => by simp only [RelRs] at h; subst h; rfl
  | r :: rs, _, τ, ⟨x, q, τ2, e, _, _, _, h2⟩ => by subst e; simp [RelRs.length rs q (τ2 + 1) h2]
/-- behind a call -/
theorem call_after {np : Nat} {g : DF} {w : Wd} {s : S} {qs : List R} {us : List V} {r : R} {b : Bx} {Q : VK} {E : XK} (ok : OKs K w H σ s t) (ha : ArgsR K w.F w.B qs us) (hl : us.length = np) (e : g qs s.b = .ok r b)
    (k : ∀ w' H' x, OKs K w' H' σ { s with b := b } (t + 1) → Step s.a.length t w H w' H' → RelR K w' H' σ { s with b := b } t r x → Q x H') : spD K np g us H Q E := by
  refine ⟨w.F, w.B, qs, s.b, r, b, hl, ok.sub, fun p g e => (ok.box p g e).1, ok.nob, ha, e, fun F' B' H' x A rel => ?_⟩
  -- who owns what behind it
  have ho : ∀ a i, w.O a = some i → H' a = H a ∧ F' a = none ∧ ¬ isBox B' a := fun a i h => by
    obtain ⟨h1, ⟨o, h2, nt⟩, h3⟩ := ok.own a i h
    have nb : ¬ isBox w.B a := fun ⟨p, g, e, z⟩ => by
      obtain ⟨_, z1, z2⟩ := ok.box p g e
      rcases z with rfl | rfl
      · rw [h] at z1; cases z1
      · rw [h] at z2; cases z2
    refine ⟨(A.keep a o h2 nb).trans h2.symm, ?_, fun ⟨p, g, e, z⟩ => ?_⟩
    · cases q : F' a with
      | none => rfl
      | some u =>
        rcases A.newF a (by rw [q]; simp) with z | z | ⟨xs, z⟩ | z
        · exact absurd h1 z
        · rw [h2] at z; cases z
        · rw [h2] at z; exact absurd (Option.some.inj z) (nt xs)
        · exact absurd z nb
    · rcases A.B with e1 | ⟨_, e1⟩
      · exact nb ⟨p, g, e1 ▸ e, z⟩
      · obtain ⟨z1, z2⟩ := e1 p g e
        rcases z with rfl | rfl
        · rw [h2] at z1; cases z1
        · rw [h2] at z2; cases z2
  have hB0 : ∀ p g, B' = some (p, g) → w.O p = none ∧ w.O g = none := fun p g e => by
    constructor
    · cases q : w.O p with
      | none => rfl
      | some i => exact absurd ⟨p, g, e, .inl rfl⟩ (ho p i q).2.2
    · cases q : w.O g with
      | none => rfl
      | some i => exact absurd ⟨p, g, e, .inr rfl⟩ (ho g i q).2.2
  have hsl : ∀ (O' : Addr → Option Nat), (∀ a i, w.O a = some i → O' a = some i) → ∀ (i : Nat) q v, s.a[i]? = some q → σ[i]? = some v → SlR K ⟨F', O', B'⟩ H' i q v := fun O' hO i q v h1 h2 => by
    have hs := ok.sl i q v h1 h2
    cases q with
    | none => trivial
    | some q =>
      cases q with
      | d y => obtain ⟨u, e, h1⟩ := hs; exact ⟨u, e, Rep.mono A.mono y u h1⟩
      | o c =>
        obtain ⟨u, e, h1⟩ := hs
        refine ⟨u, e, ?_⟩
        cases c with
        | lst ds => obtain ⟨a, xs, e, q1, q2, q3⟩ := h1; exact ⟨a, xs, e, hO a i q1, (ho a i q1).1.trans q2, RepL.mono A.mono ds xs q3⟩
        | dK ds => obtain ⟨a, xs, e, q1, q2, q3⟩ := h1; exact ⟨a, xs, e, hO a i q1, (ho a i q1).1.trans q2, RepK.mono A.mono ds xs q3⟩
        | dT ds => obtain ⟨a, xs, e, q1, q2, q3⟩ := h1; exact ⟨a, xs, e, hO a i q1, (ho a i q1).1.trans q2, RepT.mono A.mono ds xs q3⟩
      | sl _ => exact hs
      | bx =>
        obtain ⟨p, g, e, h1⟩ := hs
        rcases A.B with z | ⟨z, _⟩
        · exact ⟨p, g, z.trans e, h1⟩
        · rw [z] at e; cases e
      | st _ => obtain ⟨a, e, h1⟩ := hs; exact ⟨a, e, h1.mono A.mono⟩
  have keep : ∀ a o, H a = some o → (∀ i, w.O a = some i → s.a.length ≤ i ∧ i < t) → ¬ isBox w.B a → H' a = some o := fun a o h _ hb => A.keep a o h hb
  have newF : ∀ a, F' a ≠ none → w.F a ≠ none ∨ H a = none ∨ (∃ i, w.O a = some i ∧ (i < s.a.length ∨ t ≤ i)) ∨ (∃ xs, H a = some (.tup xs)) ∨ isBox w.B a := fun a h => (A.newF a h).imp id (fun z => z.imp id .inr)
  -- without a new owner
  have plain : RelR K ⟨F', w.O, B'⟩ H' σ { s with b := b } t r x → Q x H' := fun rel => by
    refine k ⟨F', w.O, B'⟩ H' x ⟨A.sub, ok.len, hsl w.O (fun _ _ h => h), fun a i h => ?_, Nat.le_succ_of_le ok.tN, fun p g e => ⟨A.box p g e, hB0 p g e⟩, A.nob⟩ ⟨A.mono, keep, A.there, fun _ _ h _ _ => h, newF, fun a i h => .inr (by rw [show w.O a = some i from h]; simp), fun _ _ h _ => .inr h, A.B⟩ rel
    obtain ⟨h1, ⟨o, h2, nt⟩, h3⟩ := ok.own a i h
    exact ⟨(ho a i h).2.1, ⟨o, (ho a i h).1.trans h2, nt⟩, Nat.lt_succ_of_lt h3⟩
  -- with one
  have owned : ∀ (a : Addr) (o : HO) (c : C), r = .o c → NT o → x = .ref a → F' a = none → H a = none → H' a = some o → ¬ isBox B' a → (∀ O' : Addr → Option Nat, O' a = some t → Own K ⟨F', O', B'⟩ H' t c x) → Q x H' := fun a o c er nt0 ex h1 h2 h3 h4 hc => by
    have hn : w.O a = none := by
      cases q : w.O a with
      | none => rfl
      | some i =>
        obtain ⟨_, ⟨u, h5, _⟩, _⟩ := ok.own a i q
        rw [h2] at h5; cases h5
    have hO : ∀ b i, w.O b = some i → (if b = a then some t else w.O b) = some i := fun b i h => by
      rw [if_neg (fun z => by subst z; rw [hn] at h; cases h)]; exact h
    refine k ⟨F', fun b => if b = a then some t else w.O b, B'⟩ H' x ⟨A.sub, ok.len, hsl _ hO, fun b i h => ?_, Nat.le_succ_of_le ok.tN, fun p g e => ⟨A.box p g e, ?_, ?_⟩, A.nob⟩
      ⟨A.mono, keep, A.there, fun b i h _ _ => hO b i h, newF, fun b i h => ?_, fun b i h _ => ?_, A.B⟩ (by subst er; exact hc _ (if_pos rfl))
    · have h' : (if b = a then some t else w.O b) = some i := h
      by_cases hb : b = a
      · rw [if_pos hb] at h'; cases h'
        subst hb
        exact ⟨h1, ⟨o, h3, nt0⟩, Nat.lt_succ_self _⟩
      · rw [if_neg hb] at h'
        obtain ⟨q1, ⟨u, q2, nt⟩, q3⟩ := ok.own b i h'
        exact ⟨(ho b i h').2.1, ⟨u, (ho b i h').1.trans q2, nt⟩, Nat.lt_succ_of_lt q3⟩
    · show (if p = a then some t else w.O p) = none
      rw [if_neg (fun z => by subst z; exact h4 ⟨p, g, e, .inl rfl⟩)]; exact (hB0 p g e).1
    · show (if g = a then some t else w.O g) = none
      rw [if_neg (fun z => by subst z; exact h4 ⟨p, g, e, .inr rfl⟩)]; exact (hB0 p g e).2
    · have h' : (if b = a then some t else w.O b) = some i := h
      by_cases hb : b = a
      · subst hb; exact .inl h2
      · rw [if_neg hb] at h'; exact .inr (by rw [h']; simp)
    · have h' : (if b = a then some t else w.O b) = some i := h
      by_cases hb : b = a
      · subst hb; exact .inl h2
      · rw [if_neg hb] at h'; exact .inr h'
  cases r with
  | d y => exact plain rel
  | o c =>
    obtain ⟨rel, nb⟩ := rel
    cases c with
    | lst ds =>
      obtain ⟨a, xs, ex, h1, h2, h3, h4⟩ := rel
      exact owned a _ _ rfl (fun _ h => by cases h) ex h1 h2 h3 (nb a ex) fun O' hO => ⟨a, xs, ex, hO, h3, h4⟩
    | dK ds =>
      obtain ⟨a, xs, ex, h1, h2, h3, h4⟩ := rel
      exact owned a _ _ rfl (fun _ h => by cases h) ex h1 h2 h3 (nb a ex) fun O' hO => ⟨a, xs, ex, hO, h3, h4⟩
    | dT ds =>
      obtain ⟨a, xs, ex, h1, h2, h3, h4⟩ := rel
      exact owned a _ _ rfl (fun _ h => by cases h) ex h1 h2 h3 (nb a ex) fun O' hO => ⟨a, xs, ex, hO, h3, h4⟩
  | sl _ => exact rel.elim
  | bx => exact plain rel
  | st _ => exact rel.elim
end
section
variable {X : Cx} {e : Expr} {es : List Expr} {ms : MA} {k : Nat} {f : Addr} {fd : FuncData} {ps : List Str} {x : Str} {p pos : Pos} {g : DF} {E : XK}
theorem call_snd {K : PySem.W.Frag} {ta : TA} {np : Nat} (h : SndA K ta ms) : SndE K (fun σ H Q => ta σ H fun vs H1 => spD K np g vs H1 Q E) (mCall np g ms) := by
  intro σ H w s t Q r s' ok e kk
  simp only [mCall] at e
  split at e
  · cases e
  · rename_i rs sa e1
    split at e
    · rename_i hlen
      split at e
      · cases e
      · rename_i qs sb e2
        split at e
        · cases e
        · rename_i r' b e3
          cases e
          refine h σ H w s t _ rs sa ok e1 fun w1 H1 us t1 a1 ok1 st1 sl1 rel1 => ?_
          have l := ok.slen ok1
          have tN := ok.tN
          obtain ⟨w2, ok2, st2, ar, sl2, l2, _⟩ := argsT_ok (t0 := t) rs us qs sa sb w1 t ok1 rel1 e2 (Nat.le_refl _) (by rw [l]; exact tN)
          rw [l] at st2
          refine call_after ok2 ar ((RelRs.length rs us t rel1).symm.trans hlen) e3 fun w3 H3 y ok3 st3 rel3 => ?_
          rw [l2, l] at st3
          exact kk w3 H3 y (t1 + 1) t1 a1 (Nat.lt_succ_self _) ok3 ((st1.trans st2).trans (st3.mono a1)) (sl1.trans sl2) rel3
    · cases e
theorem re_call (F : FnG X.prog X.w X.K X.mg X.base k f fd ps (spD X.K ps.length g)) (hr : Here X k) (hm : X.mg x = some (.ref f)) (hk : PySem.W.keepIn X.K (.ref f) = true) (hb : Binds X.K fd ps [])
    (ha : RA X (e :: es) ms) (hg : Gl X x := by rfl) (hdb : (x == ("__debug__" : Str)) = false := by decide) (he : starEach (e :: es) X.env = (false, eval e X.env) :: starEach es X.env := by rfl) (hpl : (backTo pos (starEach es X.env)).any (·.1) = false := by rfl) :
    RE X (.Call (.Name x p) (e :: es) [] pos) (mCall ps.length g ms) := by
  obtain ⟨ta, p1, s1⟩ := ha
  exact ⟨_, peg_call (E := E0) F hr hg hm hk hb p1 hdb he hpl, call_snd s1⟩
theorem re_call0 (F : FnG X.prog X.w X.K X.mg X.base k f fd ps (spD X.K ps.length g)) (hr : Here X k) (hm : X.mg x = some (.ref f)) (hk : PySem.W.keepIn X.K (.ref f) = true) (hb : Binds X.K fd ps [])
    (hg : Gl X x := by rfl) (hdb : (x == ("__debug__" : Str)) = false := by decide) :
    RE X (.Call (.Name x p) [] [] pos) (mCall ps.length g mNil) := by
  refine ⟨_, peg_call0 (E := E0) F hr hg hm hk hb hdb, ?_⟩
  refine call_snd (E := E0) (ta := tNil) (ms := mNil) fun σ H w s t Q r s' ok e k => ?_
  cases e
  exact k w H [] t (Nat.le_refl _) ok .refl .refl rfl

/-! ## keywords -/
structure RK (X : Cx) (kws : List Keyword) (m : MA) : Prop where
  ex : ∃ ta, PK X kws ta ∧ SndA X.K ta m
theorem nil_snd {K : PySem.W.Frag} : SndA K tNil mNil := fun σ H w s t Q r s' ok e k => by
  cases e
  exact k w H [] t (Nat.le_refl _) ok .refl .refl rfl
theorem cons_snd {K : PySem.W.Frag} {te : TE} {ta : TA} {m : ME} (h2 : SndE K te m) (h4 : SndA K ta ms) : SndA K (tCons te ta) (mCons m ms) := by
  intro σ H w s t Q r s' ok e k
  simp only [mCons] at e
  split at e
  · cases e
  · rename_i r1 s1 e1
    split at e
    · cases e
    · rename_i rs s2 e2
      cases e
      refine h2 σ H w s t _ r1 s1 ok e1 fun w1 H1 x t1 τ a1 a2 ok1 st1 sl1 rel1 => ?_
      refine h4 σ H1 w1 s1 t1 _ rs _ ok1 e2 fun w2 H2 xs t2 a3 ok2 st2 sl2 rel2 => ?_
      have l := ok.slen ok1
      have tN := ok.tN
      rw [l] at st2
      refine k w2 H2 (x :: xs) t2 (by omega) ok2 (st1.trans (st2.mono (by omega))) (sl1.trans sl2) ⟨x, xs, τ, rfl, a1, by omega, ?_, RelRs.lo rs xs rel2 (by omega)⟩
      exact RelR.keep ok1 rel1 (by rw [l]; exact st2) (by omega) (by omega) sl2
theorem rk_nil : RK X [] mNil := ⟨_, pk_nil, nil_snd⟩
theorem rk_cons {kws : List Keyword} {m : ME} {nm : Option Str} {kpos : Pos} (h : RE X e m) (hr : RK X kws ms) : RK X (⟨nm, e, kpos⟩ :: kws) (mCons m ms) := by
  obtain ⟨te, h1, h2⟩ := h
  obtain ⟨ta, h3, h4⟩ := hr
  exact ⟨_, pk_cons h1 h3, cons_snd h2 h4⟩
def gP {α : Type} (nu nk : Nat) (perm : List Nat) (us ws : List α) : List α := if us.length = nu ∧ ws.length = nk then perm.filterMap fun i => (us ++ ws)[i]? else []
theorem vals_pick {vs : List V} {us : List Value} (r : Vals vs us) : ∀ perm : List Nat, Vals (perm.filterMap fun i => vs[i]?) (perm.filterMap fun i => us[i]?)
  | [] => .nil
  | i :: perm => by
    have ih := vals_pick r perm
    rw [List.filterMap_cons, List.filterMap_cons]
    cases q : vs[i]? with
    | none => rw [Vals.none_of r q]; exact ih
    | some x =>
      obtain ⟨u, h1, h2⟩ := Vals.get r q
      rw [h1]
      exact .cons h2 ih
theorem kb_mk {K : PySem.W.Frag} {ks : List Str} {nu nk : Nat} {perm : List Nat} (hp : 0 < ps.length) (h : ∀ us ws : List Value, us.length = nu → ws.length = nk → bindArgs fd ⟨us, ks.zip ws⟩ = pure (ps.zip (gP nu nk perm us ws))) : KBinds K fd ps ks (gP nu nk perm) (gP nu nk perm) := by
  refine ⟨fun s us ws _ hl => ?_, fun {vs us zs ws} r1 r2 => ?_⟩
  · by_cases hc : us.length = nu ∧ ws.length = nk
    · exact .of_eq (h us ws hc.1 hc.2)
    · unfold gP at hl
      rw [if_neg hc] at hl
      simp only [List.length_nil] at hl
      omega
  · unfold gP
    rw [r1.length, r2.length]
    split
    · exact vals_pick (Vals.append r1 r2) perm
    · exact .nil
theorem args_no_o {K : PySem.W.Frag} {F : Hp} {B : Option (Addr × Addr)} : ∀ (qs : List R) (us : List V) (i : Nat) (c : C), ArgsR K F B qs us → qs[i]? = some (.o c) → False
  | [], _, _, _, _, e => by simp at e
  | .d d :: rs, _, 0, _, _, e => by simp at e
  | .bx :: rs, _, 0, _, _, e => by simp at e
  | .d d :: rs, _, i + 1, c, h, e => by
    simp only [ArgsR] at h
    obtain ⟨v, q, rfl, _, h2⟩ := h
    exact args_no_o rs q i c h2 (by simpa using e)
  | .bx :: rs, _, i + 1, c, h, e => by
    simp only [ArgsR] at h
    obtain ⟨p, g, q, _, rfl, h2⟩ := h
    exact args_no_o rs q i c h2 (by simpa using e)
  | .o _ :: _, _, _, _, h, _ => h.elim
  | .sl _ :: _, _, _, _, h, _ => h.elim
  | .st _ :: _, _, _, _, h, _ => h.elim
theorem args_no_st {K : PySem.W.Frag} {F : Hp} {B : Option (Addr × Addr)} : ∀ (qs : List R) (us : List V) (i : Nat) (c : List (List Int)), ArgsR K F B qs us → qs[i]? = some (.st c) → False
  | [], _, _, _, _, e => by simp at e
  | .d d :: rs, _, 0, _, _, e => by simp at e
  | .bx :: rs, _, 0, _, _, e => by simp at e
  | .d d :: rs, _, i + 1, c, h, e => by
    simp only [ArgsR] at h
    obtain ⟨v, q, rfl, _, h2⟩ := h
    exact args_no_st rs q i c h2 (by simpa using e)
  | .bx :: rs, _, i + 1, c, h, e => by
    simp only [ArgsR] at h
    obtain ⟨p, g, q, _, rfl, h2⟩ := h
    exact args_no_st rs q i c h2 (by simpa using e)
  | .o _ :: _, _, _, _, h, _ => h.elim
  | .sl _ :: _, _, _, _, h, _ => h.elim
  | .st _ :: _, _, _, _, h, _ => h.elim
theorem args_pick {K : PySem.W.Frag} {F : Hp} {B : Option (Addr × Addr)} {qs : List R} {us : List V} (h : ArgsR K F B qs us) : ∀ perm : List Nat, ArgsR K F B (perm.filterMap fun i => qs[i]?) (perm.filterMap fun i => us[i]?)
  | [] => by simp only [List.filterMap_nil, ArgsR]
  | i :: perm => by
    have ih := args_pick h perm
    have hl := ArgsR.length qs us h
    rw [List.filterMap_cons, List.filterMap_cons]
    cases q : qs[i]? with
    | none =>
      have : us[i]? = none := by rw [List.getElem?_eq_none_iff] at q ⊢; omega
      rw [this]; exact ih
    | some r =>
      obtain ⟨hi, _⟩ := List.getElem?_eq_some_iff.mp q
      have hu : us[i]? = some (us[i]'(by omega)) := List.getElem?_eq_getElem _
      have sl := ArgsR.slot (H := F) qs us 0 i r _ h q hu
      rw [hu]
      cases r with
      | d y =>
        obtain ⟨v, e, h1⟩ := sl
        simp only [ArgsR]
        refine ⟨_, _, rfl, ?_, ih⟩
        cases e; exact h1
      | bx =>
        obtain ⟨p, g, e, h1⟩ := sl
        simp only [ArgsR]
        exact ⟨p, g, _, e, by rw [Option.some.inj h1], ih⟩
      | o _ => obtain ⟨v, e, h1⟩ := sl; exfalso; exact args_no_o qs us i _ h q
      | sl _ => exact sl.elim
      | st _ => exfalso; exact args_no_st qs us i _ h q
def mCallK (np : Nat) (g : DF) (nu nk : Nat) (perm : List Nat) (ms mk : MA) : ME := fun s => match ms s with
  | .no => .no
  | .ok rs s1 => match mk s1 with
    | .no => .no
    | .ok zs s2 => if rs.length = nu ∧ zs.length = nk then match argsT s2 (rs ++ zs) with
      | none => .no
      | some (q, s3) => if (perm.filterMap fun i => q[i]?).length = np then match g (perm.filterMap fun i => q[i]?) s3.b with
        | .no => .no
        | .ok r b => .ok r { s3 with b := b } else .no else .no
theorem RelRs.append {K : PySem.W.Frag} {H : Hp} {σ : St} {w : Wd} {s : S} {hi mid : Nat} : ∀ (rs : List R) (us : List V) (τ : Nat) {zs : List R} {vs : List V}, RelRs K w H σ s mid τ rs us → RelRs K w H σ s hi mid zs vs → τ ≤ mid → mid ≤ hi → RelRs K w H σ s hi τ (rs ++ zs) (us ++ vs)
  | [], _, τ, zs, vs, h, h2, h3, _ => by
    simp only [RelRs] at h
    subst h
    exact RelRs.lo zs vs h2 h3
  | r :: rs, _, τ, _, _, ⟨x, q, τ2, e, a1, a2, h1, h2⟩, h3, h4, h5 => by
    subst e
    exact ⟨x, _, τ2, rfl, a1, by omega, h1, RelRs.append rs q (τ2 + 1) h2 h3 (by omega) h5⟩
theorem callk_snd {K : PySem.W.Frag} {ta tk : TA} {np nu nk : Nat} {perm : List Nat} {mk : MA} (h : SndA K ta ms) (hk : SndA K tk mk) : SndE K (tCallK (spD K np g) (gP nu nk perm) E ta tk) (mCallK np g nu nk perm ms mk) := by
  intro σ H w s t Q r s' ok e kk
  simp only [mCallK] at e
  split at e
  · cases e
  · rename_i rs sa e1
    split at e
    · cases e
    · rename_i zs sa2 e1k
      split at e
      · rename_i hc
        split at e
        · cases e
        · rename_i qs sb e2
          split at e
          · rename_i hlen
            split at e
            · cases e
            · rename_i r' b e3
              cases e
              refine h σ H w s t _ rs sa ok e1 fun w1 H1 us t1 a1 ok1 st1 sl1 rel1 => ?_
              refine hk σ H1 w1 sa t1 _ zs sa2 ok1 e1k fun w1' H1' vs t1' a1' ok1' st1' sl1' rel1' => ?_
              have l := ok.slen ok1
              have l' := ok.slen ok1'
              have tN := ok.tN
              have relA := RelRs.keep ok1 st1' sl1' (Nat.le_refl _) rs us t rel1 (by omega)
              have rel := RelRs.append rs us t relA rel1' a1 a1'
              rw [l] at st1'
              obtain ⟨w2, ok2, st2, ar, sl2, l2, _⟩ := argsT_ok (t0 := t) (rs ++ zs) (us ++ vs) qs sa2 sb w1' t ok1' rel e2 (Nat.le_refl _) (by rw [l']; exact tN)
              rw [l'] at st2
              have eg : gP nu nk perm us vs = perm.filterMap fun i => (us ++ vs)[i]? := by
                unfold gP
                rw [if_pos ⟨by rw [← RelRs.length rs us t rel1]; exact hc.1, by rw [← RelRs.length zs vs t1 rel1']; exact hc.2⟩]
              rw [eg]
              have ar2 := args_pick ar perm
              refine call_after ok2 ar2 ((ArgsR.length _ _ ar2).symm.trans hlen) e3 fun w3 H3 y ok3 st3 rel3 => ?_
              rw [l2, l'] at st3
              exact kk w3 H3 y (t1' + 1) t1' (by omega) (Nat.lt_succ_self _) ok3 (((st1.trans (st1'.mono a1)).trans st2).trans (st3.mono (by omega))) ((sl1.trans sl1').trans sl2) rel3
          · cases e
      · cases e
theorem re_callK {kws : List Keyword} {ks : List Str} {nu nk : Nat} {perm : List Nat} {mk : MA} (F : FnG X.prog X.w X.K X.mg X.base k f fd ps (spD X.K ps.length g)) (hr : Here X k) (hm : X.mg x = some (.ref f)) (hk : PySem.W.keepIn X.K (.ref f) = true) (hb : KBinds X.K fd ps ks (gP nu nk perm) (gP nu nk perm))
    (ha : RA X (e :: es) ms) (hkw : RK X kws mk) (hall : (backToKw pos (keywordEach kws X.env)).all (·.1.isSome) = true := by rfl) (hks : (backToKw pos (keywordEach kws X.env)).filterMap (·.1) = ks := by rfl) (hg : Gl X x := by rfl)
    (hdb : (x == ("__debug__" : Str)) = false := by decide) (he : starEach (e :: es) X.env = (false, eval e X.env) :: starEach es X.env := by rfl)
    (hpl : ((backTo pos (starEach (e :: es) X.env)).any (·.1) || (backToKw pos (keywordEach kws X.env)).any (·.1.isNone)) = false := by rfl) :
    RE X (.Call (.Name x p) (e :: es) kws pos) (mCallK ps.length g nu nk perm ms mk) := by
  obtain ⟨ta, p1, s1⟩ := ha
  obtain ⟨tk, p2, s2⟩ := hkw
  exact ⟨_, peg_callK (E := E0) F hr hg hm hk hb p1 p2 hall hks hdb he hpl, callk_snd s1 s2⟩
theorem re_callK0 {kws : List Keyword} {ks : List Str} {nk : Nat} {perm : List Nat} {mk : MA} (F : FnG X.prog X.w X.K X.mg X.base k f fd ps (spD X.K ps.length g)) (hr : Here X k) (hm : X.mg x = some (.ref f)) (hk : PySem.W.keepIn X.K (.ref f) = true) (hb : KBinds X.K fd ps ks (gP 0 nk perm) (gP 0 nk perm))
    (hkw : RK X kws mk) (hall : (backToKw pos (keywordEach kws X.env)).all (·.1.isSome) = true := by rfl) (hks : (backToKw pos (keywordEach kws X.env)).filterMap (·.1) = ks := by rfl) (hg : Gl X x := by rfl)
    (hdb : (x == ("__debug__" : Str)) = false := by decide) (hpl : ((backTo pos (starEach [] X.env)).any (·.1) || (backToKw pos (keywordEach kws X.env)).any (·.1.isNone)) = false := by rfl) :
    RE X (.Call (.Name x p) [] kws pos) (mCallK ps.length g 0 nk perm mNil mk) := by
  obtain ⟨tk, p2, s2⟩ := hkw
  exact ⟨_, peg_callK0 (E := E0) F hr hg hm hk hb p2 hall hks hdb hpl, callk_snd nil_snd s2⟩
end
end Qz
namespace Qz
open PySem PySem.Spec L2
open PyProof.Rows hiding St

/-! ## built-ins, called -/
def views (s : S) : List R → Option (List D)
  | [] => some []
  | r :: rs => match view s r with
    | none => none
    | some x => match views s rs with
      | none => none
      | some xs => some (x :: xs)
def VwL (K : PySem.W.Frag) (F H : Hp) : List D → List V → Prop
  | [], us => us = []
  | x :: xs, us => ∃ u q, us = u :: q ∧ Vw K F H x u ∧ VwL K F H xs q
def mBlt (f : List D → Option R) (ms : MA) : ME := fun s => match ms s with
  | .no => .no
  | .ok rs s1 => match views s1 rs with
    | none => .no
    | some xs => match f xs with
      | none => .no
      | some r => .ok r s1
def BltS (K : PySem.W.Frag) (rd : List V → Hp → VK → Prop) (f : List D → Option R) : Prop := ∀ (w : Wd) (H : Hp) (σ : St) (s : S) (t : Nat) (us : List V) (xs : List D) (r : R) (Q : VK), OKs K w H σ s t → VwL K w.F H xs us → f xs = some r →
  (∀ w' H' z, OKs K w' H' σ s (t + 1) → Step s.a.length t w H w' H' → RelR K w' H' σ s t r z → Q z H') → rd us H Q
section
variable {K : PySem.W.Frag} {t : Nat} {w : Wd} {H : Hp} {σ : St} {s : S}
theorem views_ok {hi : Nat} (ok : OKs K w H σ s t) : ∀ (rs : List R) (us : List V) (xs : List D) (τ : Nat), RelRs K w H σ s hi τ rs us → views s rs = some xs → VwL K w.F H xs us
  | [], _, _, _, h, e => by
    cases e
    simp only [RelRs] at h
    exact h
  | r :: rs, _, _, τ, ⟨x, q, τ2, rfl, a1, a2, h1, h2⟩, e => by
    simp only [views] at e
    split at e
    · cases e
    · rename_i y e1
      split at e
      · cases e
      · rename_i ys e2
        cases e
        exact ⟨x, q, rfl, RelR.view ok h1 e1, views_ok ok rs q ys (τ2 + 1) h2 e2⟩
theorem blt_snd {ta : TA} {rd : List V → Hp → VK → Prop} {f : List D → Option R} {ms : MA} (h : SndA K ta ms) (hf : BltS K rd f) : SndE K (fun σ H Q => ta σ H fun us H1 => rd us H1 Q) (mBlt f ms) := by
  intro σ H w s t Q r s' ok e k
  simp only [mBlt] at e
  split at e
  · cases e
  · rename_i rs sa e1
    split at e
    · cases e
    · rename_i xs e2
      split at e
      · cases e
      · rename_i r' e3
        cases e
        refine h σ H w s t _ rs _ ok e1 fun w1 H1 us t1 a1 ok1 st1 sl1 rel1 => ?_
        have l := ok.slen ok1
        refine hf w1 H1 σ _ t1 us xs r Q ok1 (views_ok ok1 rs us xs t rel1 e2) e3 fun w2 H2 z ok2 st2 rel2 => ?_
        rw [l] at st2
        exact k w2 H2 z (t1 + 1) t1 a1 (Nat.lt_succ_self _) ok2 (st1.trans (st2.mono a1)) sl1 rel2
end
section
variable {X : Cx} {e : Expr} {es : List Expr} {ms : MA} {p pos : Pos} {x : Str} {id T : String} {rd : List V → Hp → VK → Prop} {f : List D → Option R}
theorem re_blt (hc : CallR X (.builtin id) rd) (hf : BltS X.K rd f) (hm : X.mg x = none) (hv : bootBuiltins x = some (.builtin id)) (ha : RA X (e :: es) ms) (hg : Gl X x := by rfl) (hn : x ≠ "__name__" := by decide) (hdb : (x == ("__debug__" : Str)) = false := by decide)
    (he : starEach (e :: es) X.env = (false, eval e X.env) :: starEach es X.env := by rfl) (hpl : (backTo pos (starEach es X.env)).any (·.1) = false := by rfl) : RE X (.Call (.Name x p) (e :: es) [] pos) (mBlt f ms) := by
  obtain ⟨ta, p1, s1⟩ := ha
  exact ⟨_, pe_callB hc hg hm hv p1 hn hdb he hpl, blt_snd s1 hf⟩
theorem re_ty (hc : CallR X (.type T) rd) (hf : BltS X.K rd f) (hm : X.mg x = none) (hv : bootBuiltins x = some (.type T)) (ha : RA X (e :: es) ms) (hg : Gl X x := by rfl) (hn : x ≠ "__name__" := by decide) (hdb : (x == ("__debug__" : Str)) = false := by decide)
    (he : starEach (e :: es) X.env = (false, eval e X.env) :: starEach es X.env := by rfl) (hpl : (backTo pos (starEach es X.env)).any (·.1) = false := by rfl) : RE X (.Call (.Name x p) (e :: es) [] pos) (mBlt f ms) := by
  obtain ⟨ta, p1, s1⟩ := ha
  exact ⟨_, pe_callTy hc hg hm hv p1 hn hdb he hpl, blt_snd s1 hf⟩
end
/-! ### len, abs, int, min, max, tuple, list -/
def fLen : List D → Option R
  | [.list ds] => some (.d (.int ds.length))
  | [.tuple ds] => some (.d (.int ds.length))
  | [.str z] => if z.length ≤ sizeLine then some (.d (.int z.length)) else none
  | _ => none
def fAbs : List D → Option R
  | [.int i] => some (.d (.int (if i < 0 then -i else i)))
  | _ => none
def fInt : List D → Option R
  | [.int i] => some (.d (.int i))
  | [.bool b] => some (.d (.int (if b then 1 else 0)))
  | _ => none
def fMax2 : List D → Option R
  | [.int i, .int j] => some (.d (.int (if j > i then j else i)))
  | _ => none
def fMin2 : List D → Option R
  | [.int i, .int j] => some (.d (.int (if j < i then j else i)))
  | _ => none
def fTup : List D → Option R
  | [.list ds] => some (.d (.tuple ds))
  | [.tuple ds] => some (.d (.tuple ds))
  | _ => none
def fLst : List D → Option R
  | [.list ds] => some (.o (.lst ds))
  | [.tuple ds] => some (.o (.lst ds))
  | _ => none
section
variable {X : Cx} {K : PySem.W.Frag}
theorem VwL.one {F H : Hp} {x : D} {us : List V} (h : VwL K F H [x] us) : ∃ u, us = [u] ∧ Vw K F H x u := by
  obtain ⟨u, q, rfl, h1, rfl⟩ := h
  exact ⟨u, rfl, h1⟩
theorem VwL.two {F H : Hp} {x y : D} {us : List V} (h : VwL K F H [x, y] us) : ∃ u v, us = [u, v] ∧ Vw K F H x u ∧ Vw K F H y v := by
  obtain ⟨u, q, rfl, h1, v, q2, rfl, h2, rfl⟩ := h
  exact ⟨u, v, rfl, h1, h2⟩
def rLen (K : PySem.W.Frag) : List V → Hp → VK → Prop := fun xs H Q => (∃ p ys, xs = [.ref p] ∧ (SqL K H p ys ∨ SqT K H p ys) ∧ Q (.int ys.length) H) ∨ ∃ z, xs = [.str z] ∧ z.length ≤ sizeLine ∧ Q (.int z.length) H
theorem c_len : CallR X (.builtin "len") (rLen X.K) := call_len_seq.or call_len_str
theorem s_len : BltS K (rLen K) fLen := by
  intro w H σ s t us xs r Q ok vw e k
  unfold fLen at e
  split at e
  · cases e
    obtain ⟨u, rfl, v⟩ := vw.one
    obtain ⟨a, ys, rfl, h1, h2⟩ := v.lst ok.sub
    refine .inl ⟨a, ys, rfl, .inl h1, s_d ok k ?_⟩
    simp only [Rep]; rw [RepL.length _ _ h2]
  · cases e
    obtain ⟨u, rfl, v⟩ := vw.one
    obtain ⟨a, ys, rfl, h1, h2⟩ := v.tup
    refine .inl ⟨a, ys, rfl, .inr (SqT.of (ok.sub _ _ h1)), s_d ok k ?_⟩
    simp only [Rep]; rw [RepL.length _ _ h2]
  · split at e
    · rename_i hz
      cases e
      obtain ⟨u, rfl, v⟩ := vw.one
      rw [v.str]
      exact .inr ⟨_, rfl, hz, s_d ok k (by simp only [Rep])⟩
    · cases e
  · cases e
theorem s_abs : BltS K (fun xs H Q => ∃ i, xs = [.int i] ∧ Q (.int (if i < 0 then -i else i)) H) fAbs := by
  intro w H σ s t us xs r Q ok vw e k
  unfold fAbs at e
  split at e
  · cases e
    obtain ⟨u, rfl, v⟩ := vw.one
    rw [v.int]
    exact ⟨_, rfl, s_d ok k (by simp only [Rep])⟩
  · cases e
theorem s_int : BltS K (fun xs H Q => (∃ i, xs = [.int i] ∧ Q (.int i) H) ∨ ∃ k, xs = [.bl k] ∧ Q (.int (if k then 1 else 0)) H) fInt := by
  intro w H σ s t us xs r Q ok vw e k
  unfold fInt at e
  split at e
  · cases e
    obtain ⟨u, rfl, v⟩ := vw.one
    rw [v.int]
    exact .inl ⟨_, rfl, s_d ok k (by simp only [Rep])⟩
  · cases e
    obtain ⟨u, rfl, v⟩ := vw.one
    rw [v.bool]
    exact .inr ⟨_, rfl, s_d ok k (by simp only [Rep])⟩
  · cases e
theorem s_max2 : BltS K (fun xs H Q => ∃ i j, xs = [.int i, .int j] ∧ Q (.int (if j > i then j else i)) H) fMax2 := by
  intro w H σ s t us xs r Q ok vw e k
  unfold fMax2 at e
  split at e
  · cases e
    obtain ⟨u, u2, rfl, v, v2⟩ := vw.two
    rw [v.int, v2.int]
    exact ⟨_, _, rfl, s_d ok k (by simp only [Rep])⟩
  · cases e
theorem s_min2 : BltS K (fun xs H Q => ∃ i j, xs = [.int i, .int j] ∧ Q (.int (if j < i then j else i)) H) fMin2 := by
  intro w H σ s t us xs r Q ok vw e k
  unfold fMin2 at e
  split at e
  · cases e
    obtain ⟨u, u2, rfl, v, v2⟩ := vw.two
    rw [v.int, v2.int]
    exact ⟨_, _, rfl, s_d ok k (by simp only [Rep])⟩
  · cases e
theorem s_tup : BltS K (fun xs H Q => ∃ p ys, xs = [.ref p] ∧ ((SqL K H p ys ∧ ∀ l, H l = none → Q (.ref l) (upd H l (.tup ys))) ∨ (SqT K H p ys ∧ Q (.ref p) H))) fTup := by
  intro w H σ s t us xs r Q ok vw e k
  unfold fTup at e
  split at e
  · cases e
    obtain ⟨u, rfl, v⟩ := vw.one
    obtain ⟨a, ys, rfl, h1, h2⟩ := v.lst ok.sub
    refine ⟨a, ys, rfl, .inl ⟨h1, fun p hp => ?_⟩⟩
    refine k (w.lay p (.tup ys)) _ _ ((lay_ok ok hp).up (Nat.le_succ _)) (lay_step ok hp) ?_
    simp only [RelR, Rep]
    exact ⟨p, ys, rfl, upd_same, RepL.mono (lay_step (t0 := t) (n := 0) ok hp).F _ _ h2⟩
  · cases e
    obtain ⟨u, rfl, v⟩ := vw.one
    obtain ⟨a, ys, rfl, h1, h2⟩ := v.tup
    refine ⟨a, ys, rfl, .inr ⟨SqT.of (ok.sub _ _ h1), s_d ok k ?_⟩⟩
    simp only [Rep]
    exact ⟨a, ys, rfl, h1, h2⟩
  · cases e
theorem s_lst : BltS K (fun xs H Q => ∃ p ys, xs = [.ref p] ∧ (SqL K H p ys ∨ SqT K H p ys) ∧ ∀ l, H l = none → Q (.ref l) (upd H l (.lst ys))) fLst := by
  intro w H σ s t us xs r Q ok vw e k
  unfold fLst at e
  split at e
  · cases e
    obtain ⟨u, rfl, v⟩ := vw.one
    obtain ⟨a, ys, rfl, h1, h2⟩ := v.lst ok.sub
    refine ⟨a, ys, rfl, .inl h1, fun p hp => ?_⟩
    refine k (w.give p t) _ _ (give_ok ok hp) (give_step ok hp) ?_
    exact ⟨p, ys, rfl, by show (if p = p then some t else w.O p) = some t; rw [if_pos rfl], upd_same, h2⟩
  · cases e
    obtain ⟨u, rfl, v⟩ := vw.one
    obtain ⟨a, ys, rfl, h1, h2⟩ := v.tup
    refine ⟨a, ys, rfl, .inr (SqT.of (ok.sub _ _ h1)), fun p hp => ?_⟩
    refine k (w.give p t) _ _ (give_ok ok hp) (give_step ok hp) ?_
    exact ⟨p, ys, rfl, by show (if p = p then some t else w.O p) = some t; rw [if_pos rfl], upd_same, h2⟩
  · cases e
variable {e : Expr} {es : List Expr} {ms : MA} {p pos : Pos}
theorem re_len (hm : X.mg "len" = none) (ha : RA X [e] ms) (hg : Gl X "len" := by rfl) (he : starEach [e] X.env = (false, eval e X.env) :: starEach [] X.env := by rfl) : RE X (.Call (.Name "len" p) [e] [] pos) (mBlt fLen ms) := re_blt c_len s_len hm PySem.boot_len ha hg (by decide) (by decide) he rfl
theorem re_abs (hm : X.mg "abs" = none) (ha : RA X [e] ms) (hg : Gl X "abs" := by rfl) (he : starEach [e] X.env = (false, eval e X.env) :: starEach [] X.env := by rfl) : RE X (.Call (.Name "abs" p) [e] [] pos) (mBlt fAbs ms) := re_blt call_abs s_abs hm (by decide +kernel) ha hg (by decide) (by decide) he rfl
theorem re_int1 (hm : X.mg "int" = none) (ha : RA X [e] ms) (hg : Gl X "int" := by rfl) (he : starEach [e] X.env = (false, eval e X.env) :: starEach [] X.env := by rfl) : RE X (.Call (.Name "int" p) [e] [] pos) (mBlt fInt ms) := re_ty call_int1 s_int hm (by decide +kernel) ha hg (by decide) (by decide) he rfl
theorem re_tuple (hm : X.mg "tuple" = none) (ha : RA X [e] ms) (hg : Gl X "tuple" := by rfl) (he : starEach [e] X.env = (false, eval e X.env) :: starEach [] X.env := by rfl) : RE X (.Call (.Name "tuple" p) [e] [] pos) (mBlt fTup ms) := re_ty call_tuple_of s_tup hm (by decide +kernel) ha hg (by decide) (by decide) he rfl
theorem re_list (hm : X.mg "list" = none) (ha : RA X [e] ms) (hg : Gl X "list" := by rfl) (he : starEach [e] X.env = (false, eval e X.env) :: starEach [] X.env := by rfl) : RE X (.Call (.Name "list" p) [e] [] pos) (mBlt fLst ms) := re_ty call_list_of s_lst hm (by decide +kernel) ha hg (by decide) (by decide) he rfl
end

end Qz
namespace Qz
open PySem PySem.Spec L2
open PyProof.Rows hiding St

/-! ## repr -/
section
variable {X : Cx} {pins : List (Addr × Obj)} {σ : St} {F H : Hp} {s : Shared}
theorem key_reads {h : Heap} {k : Key} {v : Value} (e : keyIs k v = true) : Reads h v (keyD k) [] := by
  rcases keyIs_shape e with ⟨i, t, rfl, rfl⟩ | ⟨x, t, rfl, rfl⟩
  · exact Reads.int i t
  · exact Reads.str x t
theorem not_sys (I : Inv X pins σ H s) (hs : SysM s.heap) {a : Addr} {o : Obj} {its : Array Value} {n : Nat} (ho : s.heap.get? a = some o) (hd : o.data = .seq its n) : a ≠ sysModules := fun e => by
  subst e
  obtain ⟨mm, o', es, ep, h1, h2, _⟩ := hs
  rw [ho] at h1; cases h1
  rw [hd] at h2; cases h2
mutual
theorem Rep.reads (I : Inv X pins σ H s) (hs : SysM s.heap) (sub : Same F H) : ∀ (d : D) (v : V) (u : Value), Rep X.K F d v → RelV v u → ∃ as, Reads s.heap u d as ∧ ∀ a ∈ as, a ≠ sysModules
  | .none, _, _, h, r => by
    simp only [Rep] at h; subst h; cases r
    exact ⟨_, Reads.none, by simp⟩
  | .bool b, _, _, h, r => by
    simp only [Rep] at h; subst h; cases r
    exact ⟨_, Reads.bool b, by simp⟩
  | .int i, _, _, h, r => by
    simp only [Rep] at h; subst h
    obtain ⟨t, rfl⟩ := r
    exact ⟨_, Reads.int i t, by simp⟩
  | .str i, _, _, h, r => by
    simp only [Rep] at h; subst h
    obtain ⟨t, rfl⟩ := r
    exact ⟨_, Reads.str i t, by simp⟩
  | .list ds, _, _, h, r => by
    simp only [Rep] at h
    obtain ⟨a, xs, rfl, h1, h2⟩ := h
    cases r
    obtain ⟨its, rv, ⟨o, n, ho, hc, _, hd⟩, _⟩ := I.list (sub.seq h1)
    obtain ⟨as, hr, hn⟩ := RepL.reads I hs sub ds xs its h2 rv
    refine ⟨_, Reads.list ho hc hd hr, fun b hb => ?_⟩
    rcases List.mem_cons.mp hb with rfl | hb
    · exact not_sys I hs ho hd
    · exact hn b hb
  | .tuple ds, _, _, h, r => by
    simp only [Rep] at h
    obtain ⟨a, xs, rfl, h1, h2⟩ := h
    cases r
    obtain ⟨its, rv, ⟨o, ho, hc, n, hd⟩, _⟩ := I.tuple (SqT.of (sub _ _ h1))
    obtain ⟨as, hr, hn⟩ := RepL.reads I hs sub ds xs its h2 rv
    exact ⟨_, Reads.tuple ho hc hd hr, hn⟩
  | .dict kvs, _, _, h, r => by
    simp only [Rep] at h
    obtain ⟨a, ys, rfl, h1, h2⟩ := h
    cases r
    obtain ⟨_, hne, vs, kv, o, es, ep, ho, hex, hd, _, hp, _⟩ := dk_of I.hok (sub _ _ h1)
    obtain ⟨as, bs, hr1, hr2, hn1, hn2⟩ := RepD.reads I hs sub kvs ys vs es.toList h2 kv hp
    refine ⟨_, Reads.dict ho hex.1 hd hr1 hr2, fun b hb => ?_⟩
    rcases List.mem_append.mp hb with hb | hb
    · rcases List.mem_cons.mp hb with rfl | hb
      · exact fun e => by subst e; simp at hne
      · exact hn1 b hb
    · exact hn2 b hb
theorem RepL.reads (I : Inv X pins σ H s) (hs : SysM s.heap) (sub : Same F H) : ∀ (ds : List D) (vs : List V) (us : List Value), RepL X.K F ds vs → Vals vs us → ∃ as, ReadsAll s.heap us ds as ∧ ∀ a ∈ as, a ≠ sysModules
  | [], _, _, h, r => by
    simp only [RepL] at h; subst h; cases r
    exact ⟨_, ReadsAll.nil, by simp⟩
  | d :: ds, _, _, h, r => by
    simp only [RepL] at h
    obtain ⟨x, q, rfl, h1, h2⟩ := h
    cases r with
    | cons r1 r2 =>
      obtain ⟨as, q1, n1⟩ := Rep.reads I hs sub d _ _ h1 r1
      obtain ⟨bs, q2, n2⟩ := RepL.reads I hs sub ds _ _ h2 r2
      exact ⟨_, ReadsAll.cons q1 q2, fun a ha => (List.mem_append.mp ha).elim (n1 a) (n2 a)⟩
theorem RepD.reads (I : Inv X pins σ H s) (hs : SysM s.heap) (sub : Same F H) : ∀ (ds : List (D × D)) (ys : List (Key × V)) (vs : List (Key × Value)) (es : List DictEntry), RepD X.K F ds ys → KV ys vs → Pairs (mixKind X.prog X.w) es vs →
    ∃ as bs, ReadsAll s.heap (es.map (·.key)) (ds.map (·.1)) as ∧ ReadsAll s.heap (es.map (·.val)) (ds.map (·.2)) bs ∧ (∀ a ∈ as, a ≠ sysModules) ∧ ∀ a ∈ bs, a ≠ sysModules
  | [], _, _, _, h, r, p => by
    simp only [RepD] at h; subst h; cases r; cases p
    exact ⟨_, _, ReadsAll.nil, ReadsAll.nil, by simp, by simp⟩
  | (k, d) :: ds, _, _, _, h, r, p => by
    simp only [RepD] at h
    obtain ⟨key, x, q, rfl, rfl, h1, h2⟩ := h
    cases r with
    | cons r1 r2 =>
      cases p with
      | cons p1 p2 p3 =>
        obtain ⟨e1, r1⟩ := r1
        obtain ⟨bs, q2, n2⟩ := Rep.reads I hs sub d _ _ h1 r1
        obtain ⟨as', bs', q3, q4, n3, n4⟩ := RepD.reads I hs sub ds _ _ _ h2 r2 p3
        rw [← e1] at p1
        rw [← p2] at q2
        refine ⟨_, _, ReadsAll.cons (key_reads (k := key) p1) q3, ReadsAll.cons q2 q4, fun a ha => ?_, fun a ha => (List.mem_append.mp ha).elim (n2 a) (n4 a)⟩
        exact n3 a (by simpa using ha)
end
theorem Vw.reads (I : Inv X pins σ H s) (hs : SysM s.heap) (sub : Same F H) {d : D} {v : V} {u : Value} (h : Vw X.K F H d v) (r : RelV v u) : ∃ as, Reads s.heap u d as ∧ ∀ a ∈ as, a ≠ sysModules := by
  rcases h with h | ⟨a, xs, ds, rfl, rfl, h1, h2⟩ | ⟨a, ys, kvs, rfl, rfl, h1, h2⟩
  · exact Rep.reads I hs sub d v u h r
  · cases r
    obtain ⟨its, rv, ⟨o, n, ho, hc, _, hd⟩, _⟩ := I.list (SqL.of h1)
    obtain ⟨as, hr, hn⟩ := RepL.reads I hs sub ds xs its h2 rv
    refine ⟨_, Reads.list ho hc hd hr, fun b hb => ?_⟩
    rcases List.mem_cons.mp hb with rfl | hb
    · exact not_sys I hs ho hd
    · exact hn b hb
  · cases r
    obtain ⟨_, hne, vs, kv, o, es, ep, ho, hex, hd, _, hp, _⟩ := dk_of I.hok h1
    obtain ⟨as, bs, hr1, hr2, hn1, hn2⟩ := RepD.reads I hs sub kvs ys vs es.toList h2 kv hp
    refine ⟨_, Reads.dict ho hex.1 hd hr1 hr2, fun b hb => ?_⟩
    rcases List.mem_append.mp hb with hb | hb
    · rcases List.mem_cons.mp hb with rfl | hb
      · exact fun e => by subst e; simp at hne
      · exact hn1 b hb
    · exact hn2 b hb
def fitsD (x : D) : Bool := x.showable && decide (x.depth ≤ 150) && decide (x.shown.length ≤ sizeLine)
def rReprD (K : PySem.W.Frag) : List V → Hp → VK → Prop := fun xs H Q => ∃ x d F, xs = [x] ∧ Same F H ∧ Vw K F H d x ∧ fitsD d = true ∧ Q (.str d.shown) H
theorem c_repr {k : Nat} (h : Here X k) : CallR X (.builtin "repr") (rReprD X.K) := by
  intro pins s σ H xs us Q I r q
  obtain ⟨x, d, F, rfl, sub, vw, hf, q⟩ := q
  obtain ⟨u, rfl, rx⟩ := vals1 r
  simp only [fitsD, Bool.and_eq_true, decide_eq_true_eq] at hf
  obtain ⟨⟨f1, f2⟩, f3⟩ := hf
  have hsy : SysM s.heap := by
    obtain ⟨mm, h1⟩ := h.sy
    exact ⟨mm, h1.keeps I.bk⟩
  have un := h.rm.un
  have far : ∀ (a : Addr) (as : List Addr), u = .ref a → Reads s.heap (.ref a) d as → (∀ b ∈ as, b ≠ sysModules) → wpAny (model X.prog X.w) X.A (call (.builtin "repr") [u]) (EP X pins σ Q) X.xe s := fun a as e hr hn => by
    subst e
    exact repr_of_reads' hr f1 (fun _ hm => hn _ hm rfl) h.gd (by omega) (fun _ _ e => e) (fun h' u' tk hk => ⟨.str d.shown, H, I.kept hk, ⟨_, rfl⟩, q⟩) f3
  obtain ⟨as, hr, hn⟩ := Vw.reads I hsy sub vw rx
  cases hr with
  | none => exact PySem.P.repr_of_none ⟨.str _, H, I.tok _, ⟨_, rfl⟩, q⟩
  | bool b => exact PySem.P.repr_of_bool ⟨.str _, H, I.tok _, ⟨_, rfl⟩, by simpa only [PyData.shown] using q⟩
  | int i t => exact PySem.P.repr_of_int (by simpa [PyData.showable] using f1) ⟨.str _, H, I.tok _, ⟨_, rfl⟩, by simpa only [PyData.shown] using q⟩
  | str y t => exact PySem.P.repr_of_str ⟨.str _, H, I.tok _, ⟨_, rfl⟩, by simpa only [PyData.shown] using q⟩ (by simpa only [PyData.shown] using f3)
  | list h1 h2 h3 h4 => exact far _ _ rfl (.list h1 h2 h3 h4) hn
  | tuple h1 h2 h3 h4 => exact far _ _ rfl (.tuple h1 h2 h3 h4) hn
  | dict h1 h2 h3 h4 h5 => exact far _ _ rfl (.dict h1 h2 h3 h4 h5) hn
end
def fRepr : List D → Option R
  | [d] => if fitsD d then some (.d (.str d.shown)) else none
  | _ => none
section
variable {X : Cx} {K : PySem.W.Frag} {e : Expr} {es : List Expr} {ms : MA} {p pos : Pos}
theorem s_repr : BltS K (rReprD K) fRepr := by
  intro w H σ s t us xs r Q ok vw e k
  unfold fRepr at e
  split at e
  · split at e
    · rename_i hf
      cases e
      obtain ⟨u, rfl, v⟩ := vw.one
      exact ⟨u, _, w.F, rfl, ok.sub, v, hf, s_d ok k (by simp only [Rep])⟩
    · cases e
  · cases e
theorem re_repr {k : Nat} (h : Here X k) (hm : X.mg "repr" = none) (ha : RA X [e] ms) (hg : Gl X "repr" := by rfl) (he : starEach [e] X.env = (false, eval e X.env) :: starEach [] X.env := by rfl) : RE X (.Call (.Name "repr" p) [e] [] pos) (mBlt fRepr ms) :=
  re_blt (c_repr h) s_repr hm (by decide +kernel) ha hg (by decide) (by decide) he rfl

/-! ## isinstance of a built-in class -/
def tyName : D → String
  | .none => "NoneType"
  | .bool _ => "bool"
  | .int _ => "int"
  | .str _ => "str"
  | .list _ => "list"
  | .tuple _ => "tuple"
  | .dict _ => "dict"
def isKind (c : String) (x : D) : Bool := match kitB (tyName x) c with
  | some b => b
  | none => false
theorem tyX {F H : Hp} (sub : Same F H) {x : D} {v : V} (h : Vw K F H x v) : TyX K H v (.type (tyName x)) := by
  rcases h with h | ⟨a, xs, ds, rfl, rfl, h1, h2⟩ | ⟨a, ys, kvs, rfl, rfl, h1, h2⟩
  · cases x with
    | none => simp only [Rep] at h; subst h; exact .base .non
    | bool b => simp only [Rep] at h; subst h; exact .base (.bl b)
    | int b => simp only [Rep] at h; subst h; exact .base (.int b)
    | str b => simp only [Rep] at h; subst h; exact .base (.str b)
    | list b =>
      simp only [Rep] at h
      obtain ⟨a, xs, rfl, h1, _⟩ := h
      rcases sub.seq h1 with (q | ⟨o, q⟩) | ⟨o, _, _, q, c, _⟩
      · exact .base (.lst q)
      · exact .base (.frz q)
      · exact .kList q c
    | tuple b =>
      simp only [Rep] at h
      obtain ⟨a, xs, rfl, h1, _⟩ := h
      exact .base (.tup (sub _ _ h1))
    | dict b =>
      simp only [Rep] at h
      obtain ⟨a, xs, rfl, h1, _⟩ := h
      exact .base (.dK (sub _ _ h1))
  · exact .base (.lst h1)
  · exact .base (.dK h1)
def fIsi (c : String) : D → Option R := fun x => match kitB (tyName x) c with
  | some b => some (.d (.bool b))
  | none => none
theorem re_isi {m : ME} {c : String} {cn : Str} {p2 : Pos} (hm : X.mg "isinstance" = none) (hmc : X.mg cn = none) (hv : bootBuiltins cn = some (.type c)) (ha : RE X e m) (hg : Gl X "isinstance" := by rfl) (hgc : Gl X cn := by rfl) (hn : cn ≠ "__name__" := by decide) (hdb : (cn == ("__debug__" : Str)) = false := by decide)
    (he : starEach [e, .Name cn p2] X.env = (false, eval e X.env) :: starEach [.Name cn p2] X.env := by rfl) (hs : starEach [.Name cn p2] X.env = (false, eval (.Name cn p2) X.env) :: starEach [] X.env := by rfl) (hpl : (backTo pos (starEach [.Name cn p2] X.env)).any (·.1) = false := by rfl) :
    RE X (.Call (.Name "isinstance" p) [e, .Name cn p2] [] pos) (mUn (fIsi c) m) := by
  obtain ⟨te, p1, s1⟩ := ha
  refine ⟨_, pe_callB call_isi hg hm (by decide +kernel) (pa_cons p1 (pa_cons (pe_bltn (v := .ty c) hgc hmc hv rfl hn hdb) pa_nil hs) he) (by decide) (by decide) he hpl, fun σ H w s t Q r s' ok e k => ?_⟩
  simp only [mUn] at e
  split at e
  · cases e
  · rename_i r1 sa e1
    split at e
    · cases e
    · rename_i x e2
      split at e
      · cases e
      · rename_i r' e3
        cases e
        refine s1 σ H w s t _ r1 _ ok e1 fun w1 H1 u t1 τ a1 a2 ok1 st1 sl1 rel1 => ?_
        have v := RelR.view ok1 rel1 e2
        unfold fIsi at e3
        split at e3
        · rename_i b hb
          cases e3
          exact ⟨u, .ty c, _, _, b, rfl, .ty c, tyX ok1.sub v, kit_ty hb, k w1 H1 _ t1 τ a1 a2 ok1 st1 sl1 (by simp only [RelR, Rep])⟩
        · cases e3
end

/-! ## the law's end -/
theorem law_end {P : Program} {w : World} {K : PySem.W.Frag} {mg mb : Str → Option Value} {k : Nat} {fa a : Addr} {fd : FuncData} {x : Str} {g : DF} {s₁ : Shared} {vs : List Value} {ns : List Int}
    (KX : K.In s₁.heap) (hns : s₁.heap.Ns mainGlobals mg) (hb : s₁.heap.Ns builtinsNs mb) (hbb : ∀ x : Str, x ≠ "__name__" → mb x = bootBuiltins x) (hlim : s₁.heap.NoLimit) (hg : s₁.gens = #[]) (hsy : SysM s₁.heap)
    (ha : s₁.heap.get? a = some { cls := .type "list", data := .seq vs.toArray }) (hi : IntsAre vs ns) (hl : ns.length ≤ 63) (hr : Room k callerA)
    (F : ∀ base : Heap, K.In base → base.Ns mainGlobals mg → FnG P w K mg base k fa fd [x] (spD K 1 g)) (hbind : ∀ (s : Shared) (u : Value), BindsTo s fd ⟨[u], []⟩ [(x, u)])
    (hT : ∃ b, g [.d (.list (ns.map .int))] ⟨[], 0, -1⟩ = .ok (.d (.bool true)) b) :
    codeAny (model P w) callerA (.call (.ref fa) ⟨[.ref a], []⟩) (fun r s' => r = .ok (.ret (.bool true)) ∧ OldK s₁.heap s'.heap ∧ s'.os = s₁.os ∧ AllBare s'.gens) s₁ := by
  have rv := vals_ints hi
  have lenV := hi.length
  have reps : ∀ F : Hp, RepL K F (ns.map .int) (ns.map V.int) := fun F => by
    clear hi hT rv hl lenV
    induction ns with
    | nil => exact .nil
    | cons n ns ih => exact .cons (by simp only [Rep]) ih
  have core : ∀ H : Hp, Only H → SqL K H a (ns.map V.int) → HOk P w H s₁.heap → (∀ b, H b ≠ none → b = a) → (H a ≠ none → K.lookup a = none) →
      codeAny (model P w) callerA (.call (.ref fa) ⟨[.ref a], []⟩) (fun r s' => r = .ok (.ret (.bool true)) ∧ OldK s₁.heap s'.heap ∧ s'.os = s₁.os ∧ AllBare s'.gens) s₁ := fun H hO hS hok hA hK => by
    have still : ∀ {b : Addr} {o : Obj} {es : Array DictEntry} {ep : Nat}, s₁.heap.get? b = some o → o.data = .dict es ep → H b = none := fun {b o es ep} e d => by
      cases q : H b with
      | none => rfl
      | some u =>
        obtain rfl : b = a := hA b (by rw [q]; simp)
        rw [ha] at e; cases e; cases d
    have names : ∀ {b : Addr} {m : Str → Option Value}, s₁.heap.Ns b m → (hidT s₁.heap H).Ns b m := fun {b m} ⟨o, es, ep, e, d, r⟩ => ⟨o, es, ep, hidT_get e (still e d), d, r⟩
    have inK : K.In (hidT s₁.heap H) := fun b o e => by
      refine hidT_get (KX b o e) ?_
      cases q : H b with
      | none => rfl
      | some u =>
        obtain rfl : b = a := hA b (by rw [q]; simp)
        rw [hK (by rw [q]; simp)] at e; cases e
    have e0 : Env0 P w K mg (hidT s₁.heap H) callerA [] s₁ H :=
      ⟨rfl, ⟨inK, names hns, ⟨mb, names hb, hbb⟩, let ⟨mc, h1, h2⟩ := hlim; ⟨mc, names h1, h2⟩⟩, fun b o e => of_hidT e, Nat.le_of_eq (hidT_size _ _), trivial, fun b z => absurd (show b ∈ ([] : List Addr) from z) (by simp), hok, .of_eq hg⟩
    obtain ⟨b', hT⟩ := hT
    have hsp : spD K 1 g [.ref a] H (fun v _ => v = .bl true) E0 := by
      refine ⟨H, none, [.d (.list (ns.map .int))], ⟨[], 0, -1⟩, _, b', rfl, Same.refl H, (fun p g e => nomatch e), (fun _ => rfl), ?_, hT, fun F' B' H' x A rel => ?_⟩
      · simp only [ArgsR]
        refine ⟨_, [], rfl, ?_, rfl⟩
        simp only [Rep]
        exact ⟨a, _, rfl, hS, reps H⟩
      · simpa only [RetR, Rep] using rel
    have sy : SysM (hidT s₁.heap H) := let ⟨mm, h⟩ := hsy; ⟨mm, names h⟩
    refine codeAny_mono ((F _ inK (names hns)).goes callerA [] s₁ H ⟨[.ref a], []⟩ [.ref a] [.ref a] _ _ rfl sy hr e0 (hbind s₁ (.ref a)) (.cons rfl .nil) hsp) fun r s' h => ?_
    cases r with
    | error e => exact h.elim
    | ok fl =>
      cases fl with
      | next => exact h.elim
      | brk => exact h.elim
      | cont => exact h.elim
      | ret u =>
        obtain ⟨v, H', os, bare, un, hok', r', q⟩ := h
        obtain rfl : v = .bl true := q
        obtain rfl : u = Value.bool true := r'
        refine ⟨rfl, OldK.of_keep fun b o e => ?_, os, bare⟩
        cases q : H b with
        | none => exact un.keep b o e q (fun z => by cases z) (fun z => by cases z)
        | some u =>
          rcases hO b with z | ⟨ob, xs, z⟩
          · rw [q] at z; cases z
          · obtain ⟨e1, _⟩ := hok b _ z
            obtain ⟨e2, _⟩ := hok' b _ (un.frzs b ob _ z)
            rw [e] at e1; cases e1
            exact e2
  have small : ns.length ≤ sizeLine := Nat.le_trans hl (by decide)
  cases hk : K.lookup a with
  | some o =>
    have e := KX a o hk
    rw [ha] at e
    cases e
    exact core (fun _ => none) (fun _ => .inl rfl) (.inr ⟨_, vs.toArray, _, hk, rfl, rfl, rfl, by rw [List.size_toArray, lenV]; exact small, by simpa using rv⟩) (fun b u z => nomatch z) (fun b z => absurd rfl z) fun z => absurd rfl z
  | none =>
    let so : Obj := { cls := .type "list", data := .seq vs.toArray }
    refine core (upd (fun _ => none) a (.frz so (.lst (ns.map V.int)))) (fun b => ?_) (.inl (.inr ⟨so, upd_same⟩)) (fun b u z => ?_) (fun b z => ?_) fun _ => hk
    · by_cases hb : b = a
      · subst hb; exact .inr ⟨_, _, upd_same⟩
      · exact .inl (upd_ne hb)
    · by_cases hb : b = a
      · subst hb
        rw [upd_same] at z; cases z
        exact ⟨ha, by rw [List.length_map]; exact small, vs, _, rv, ha⟩
      · rw [upd_ne hb] at z; cases z
    · by_cases hb : b = a
      · exact hb
      · exact absurd (upd_ne hb) z
theorem walk_end {l : PySem.W.OpenLaw} {k : Nat} {q : Program} {loose : List Str} {XP : (Str → Option Value) → Heap → Prop} {YP : World → Heap → Prop} {d : DefRec} {K : Params → PySem.W.Frag} {x : Str} {g : DF}
    (hn : l.most = some 63) (hdf : d.params.defaults = []) (hr : Room k callerA) (himp : importsNone q = true)
    (hY : ∀ (w : World) (h : Heap), YP w h → (K w.params).In h)
    (F : ∀ (w : World) (mg : Str → Option Value) (fa : Addr) (h : Heap), (K w.params).In h → h.Ns mainGlobals mg → mg d.name = some (.ref fa) →
      ∃ fd : FuncData, (∀ (s : Shared) (u : Value), BindsTo s fd ⟨[u], []⟩ [(x, u)]) ∧ ∀ base : Heap, (K w.params).In base → base.Ns mainGlobals mg → FnG l.prog w (K w.params) mg base k fa fd [x] (spD (K w.params) 1 g))
    (hT : ∀ ns : List Int, ns.length ≤ 63 → ∃ b, g [.d (.list (ns.map .int))] ⟨[], 0, -1⟩ = .ok (.d (.bool true)) b) :
    PySem.W.WalkO q loose XP YP l.row.toRowW d [] (fun f vs => PySem.call f vs) := by
  refine Att.attach_call hn hdf fun w s₀ s₁ mg mb fa o pm cd doc a vs ns G Y ho hd hcd hmg hobj hints hlen hg => ?_
  have KX := hY w _ Y
  obtain ⟨fd, hb, hF⟩ := F w mg fa _ KX G.T.g hmg
  exact law_end KX G.T.g G.T.b G.T.builtins G.T.nolimit hg (let ⟨mm, h, _⟩ := (G.T.seer himp).mods; ⟨mm, h⟩) hobj hints hlen hr hF hb (hT ns hlen)
end Qz
namespace Qz
open PySem PySem.Spec L2
open PyProof.Rows hiding St

/-! ## the same reading for every place where a text stands -/
section
variable (K : PySem.W.Frag)
def teC (m : ME) : TE := fun σ H Q => ∃ (w : Wd) (s : S) (t : Nat) (r : R) (s' : S), OKs K w H σ s t ∧ m s = .ok r s' ∧
  ∀ w' H' x t' τ, t ≤ τ → τ < t' → OKs K w' H' σ s' t' → Step s.a.length t w H w' H' → Slotted s s' → RelR K w' H' σ s' τ r x → Q x H'
def ttC (m : MT) : TT := fun σ H Q => ∃ (w : Wd) (s : S) (t : Nat) (b : Bool) (s' : S), OKs K w H σ s t ∧ m s = .ok b s' ∧
  ∀ w' H' t', t ≤ t' → OKs K w' H' σ s' t' → Step s.a.length t w H w' H' → Slotted s s' → Q b H'
def tgC (g : D → S → Option S) (ws : List Nat) : TG := fun x σ H Q => ∃ (d : D) (w : Wd) (s s' : S) (k n : Nat), OKs K w H σ s k ∧ s.a.length = n ∧ Rep K w.F d x ∧ g d s = some s' ∧
    ∀ σ', OKs K w H σ' s' k → s'.a.length = n → Slotted s s' → (∀ i, i ∉ ws → σ'[i]? = σ[i]?) → Q σ' H
end
structure RTs (X : Cx) (ifs : List Expr) (m : MT) : Prop where
  ex : ∃ tt, PTs X ifs tt ∧ SndT X.K tt m
def mYes : MT := fun s => .ok true s
section
variable {X : Cx} {e a b : Expr} {es ifs : List Expr} {m : ME} {c : MT} {g : D → S → Option S} {ws : List Nat}
theorem RE.pe (h : RE X e m) : PE X e (teC X.K m) := by
  obtain ⟨te, p, q⟩ := h
  exact ⟨fun pins s σ H Q I ⟨w, s1, t, r, s', ok, e1, k⟩ => p.run pins s σ H Q I (q σ H w s1 t Q r s' ok e1 k)⟩
theorem RTs.pts (h : RTs X ifs c) : PTs X ifs (ttC X.K c) := by
  obtain ⟨te, p, q⟩ := h
  exact ⟨fun pins s σ H Q I ⟨w, s1, t, r, s', ok, e1, k⟩ => p.run pins s σ H Q I (q σ H w s1 t Q r s' ok e1 k)⟩
theorem RG.pg (h : RG X e g ws) : PG X e (tgC X.K g ws) := by
  obtain ⟨te, p, q⟩ := h
  exact ⟨fun pins s σ H x u Q I r ⟨d, w, s1, s', k, n, ok, hn, rep, e1, kk⟩ => p.run pins s σ H x u Q I r (q d x σ H w s1 s' k n Q ok hn rep e1 kk)⟩
theorem rts_nil : RTs X [] mYes := ⟨_, pts_nil, fun σ H w s t Q b s' ok e k => by
  cases e
  exact k w H t (Nat.le_refl _) ok .refl .refl⟩
theorem rts_one (h : RT X e c) : RTs X [e] c := let ⟨t, p, q⟩ := h.ex; ⟨t, pts_one p, q⟩
end

/-! ## an owner's object changes -/
section
variable {K : PySem.W.Frag} {n t t0 j T : Nat} {w w1 : Wd} {H H1 : Hp} {σ : St} {s s' : S} {a : Addr} {o : HO}
theorem mut_ok (ok : OKs K w H σ s t) (ha : w.O a = some j) (nt : NT o) (hb : s'.b = s.b) (hl : s'.a.length = s.a.length)
    (hsl : ∀ i q v, s'.a[i]? = some q → σ[i]? = some v → (s.a[i]? = some q ∧ i ≠ j) ∨ SlR K w (upd H a o) i q v) : OKs K w (upd H a o) σ s' t := by
  have hF := (ok.own a j ha).1
  refine ⟨fun b u e => ?_, ok.len.trans hl.symm, fun i q v h1 h2 => ?_, fun b i e => ?_, by rw [hl]; exact ok.tN, fun p g e => ?_, by rw [hb]; exact ok.nob⟩
  · rw [upd_ne (ne_of_none e hF)]; exact ok.sub b u e
  · rcases hsl i q v h1 h2 with ⟨h3, hi⟩ | h3
    · exact SlR.mono (ok.sl i q v h3 h2) (Same.refl _) rfl fun b hb => ⟨hb, upd_ne (fun z => by subst z; rw [ha] at hb; cases hb; exact hi rfl)⟩
    · exact h3
  · obtain ⟨q1, ⟨u, q2, nu⟩, q3⟩ := ok.own b i e
    refine ⟨q1, ?_, q3⟩
    by_cases z : b = a
    · subst z; exact ⟨o, upd_same, nt⟩
    · exact ⟨u, by rw [upd_ne z]; exact q2, nu⟩
  · obtain ⟨bo, o1, o2⟩ := ok.box p g e
    have np : p ≠ a := fun z => by subst z; rw [ha] at o1; cases o1
    have ng : g ≠ a := fun z => by subst z; rw [ha] at o2; cases o2
    exact ⟨⟨bo.fp, bo.fg, bo.ne, by rw [upd_ne np, hb]; exact bo.hp, by rw [upd_ne ng, hb]; exact bo.hg⟩, o1, o2⟩
theorem mut_step (ok : OKs K w H σ s t) (ha : w.O a = some j) (hj : j < n ∨ t0 ≤ j) : Step n t0 w H w (upd H a o) where
  F := Same.refl _
  keep := fun b u h ho _ => by
    rw [upd_ne (fun z => by subst z; have := ho j ha; omega)]
    exact h
  there := fun b u h => by
    by_cases z : b = a
    · subst z; exact ⟨o, upd_same⟩
    · exact ⟨u, by rw [upd_ne z]; exact h⟩
  tmp := fun _ _ h _ _ => h
  newF := fun _ h => .inl h
  newO := fun b i h => .inr (by rw [h]; simp)
  newT := fun b i h _ => .inr h
  B := .inl rfl
/-- temporaries from T on given up -/
theorem dropT_ok (ok : OKs K w H σ s t) (hn : s.a.length ≤ T) : OKs K (w.drop T) H σ s T := by
  refine ⟨ok.sub, ok.len, fun i q v h1 h2 => SlR.mono (ok.sl i q v h1 h2) (Same.refl _) rfl (fun a ha => ⟨drop_at ha ?_, rfl⟩), fun a i e => ?_, hn, fun p g e => ?_, ok.nob⟩
  · have := (List.getElem?_eq_some_iff.mp h1).1
    omega
  · obtain ⟨e1, e2⟩ := drop_of e
    obtain ⟨h1, h2, h3⟩ := ok.own a i e1
    exact ⟨h1, h2, e2⟩
  · obtain ⟨b, o1, o2⟩ := ok.box p g e
    refine ⟨b, ?_, ?_⟩
    · cases q : (w.drop T).O p with
      | none => rfl
      | some i => obtain ⟨z, _⟩ := drop_of q; rw [o1] at z; cases z
    · cases q : (w.drop T).O g with
      | none => rfl
      | some i => obtain ⟨z, _⟩ := drop_of q; rw [o2] at z; cases z
theorem dropT_step : Step n T w H (w.drop T) H where
  F := Same.refl _
  keep := fun _ _ h _ _ => h
  there := fun a o h => ⟨o, h⟩
  tmp := fun a i h h1 h2 => drop_at h h2
  newF := fun a h => .inl h
  newO := fun a i h => .inr (by rw [(drop_of h).1]; simp)
  newT := fun a i h _ => .inr (drop_of h).1
  B := .inl rfl
end

/-! ## list comprehensions -/
def wipeA (a : List (Option R)) : List Nat → List (Option R)
  | [] => a
  | v :: vs => (wipeA a vs).set v none
def backA (a0 a : List (Option R)) : List Nat → List (Option R)
  | [] => a
  | v :: vs => (backA a0 a vs).set v (a0[v]?).join
def noOwn (a : List (Option R)) (vs : List Nat) : Bool := vs.all fun v => match a[v]? with
  | some (some (.o _)) => false
  | _ => true
def lcL (g : D → S → Option S) (c : MT) (m : ME) (vs : List Nat) : List D → List D → M (List D)
  | [], acc, s => .ok acc s
  | d :: r, acc, s => match g d { s with a := wipeA s.a vs } with
    | none => .no
    | some s1 => match c s1 with
      | .no => .no
      | .ok false s2 => lcL g c m vs r acc s2
      | .ok true s2 => match m s2 with
        | .no => .no
        | .ok y s3 => match take1 s3 y with
          | none => .no
          | some (z, s4) => if acc.length < sizeLine then lcL g c m vs r (acc ++ [z]) s4 else .no
def mLc (src : MI) (g : D → S → Option S) (c : MT) (m : ME) (vs : List Nat) : ME := fun s => match src s with
  | .no => .no
  | .ok ds s1 => if noOwn s1.a vs then match lcL g c m vs ds [] s1 with
    | .no => .no
    | .ok acc s2 => .ok (.o (.lst acc)) { s2 with a := backA s1.a s2.a vs } else .no
theorem wipeA_length (a : List (Option R)) : ∀ vs : List Nat, (wipeA a vs).length = a.length
  | [] => rfl
  | v :: vs => by simp [wipeA, wipeA_length a vs]
theorem backA_length (a0 a : List (Option R)) : ∀ vs : List Nat, (backA a0 a vs).length = a.length
  | [] => rfl
  | v :: vs => by simp [backA, backA_length a0 a vs]
theorem wipeA_get (a : List (Option R)) (i : Nat) : ∀ vs : List Nat, (wipeA a vs)[i]? = if i ∈ vs then (if i < a.length then some none else none) else a[i]?
  | [] => by simp [wipeA]
  | v :: vs => by
    simp only [wipeA]
    rw [List.getElem?_set]
    by_cases h : v = i
    · subst h; simp [wipeA_length]
    · rw [if_neg h, wipeA_get a i vs]; simp [Ne.symm h]
theorem wipe_get (a : St) (i : Nat) : ∀ vs : List Nat, (wipe a vs)[i]? = if i ∈ vs then (if i < a.length then some none else none) else a[i]?
  | [] => by simp [wipe]
  | v :: vs => by
    simp only [wipe]
    rw [List.getElem?_set]
    by_cases h : v = i
    · subst h; simp [wipe_length]
    · rw [if_neg h, wipe_get a i vs]; simp [Ne.symm h]
theorem backA_get (a0 a : List (Option R)) (i : Nat) (hl : a.length = a0.length) : ∀ vs : List Nat, (backA a0 a vs)[i]? = if i ∈ vs then a0[i]? else a[i]?
  | [] => by simp [backA]
  | v :: vs => by
    simp only [backA]
    rw [List.getElem?_set]
    by_cases h : v = i
    · subst h
      simp only [backA_length, List.mem_cons, true_or, if_true, hl]
      split
      · rename_i h; simp [h]
      · rename_i h; simp; omega
    · rw [if_neg h, backA_get a0 a i hl vs]; simp [Ne.symm h]
theorem wipe_eq {a b : St} {vs : List Nat} (hl : a.length = b.length) (h : ∀ i, i ∉ vs → a[i]? = b[i]?) : wipe a vs = wipe b vs := by
  refine List.ext_getElem? fun i => ?_
  rw [wipe_get, wipe_get, hl]
  split
  · rfl
  · exact h i (by assumption)
section
variable {K : PySem.W.Frag} {t : Nat} {w : Wd} {H : Hp} {σ : St} {s : S} {vs : List Nat}
theorem wipe_ok (ok : OKs K w H σ s t) : OKs K w H (wipe σ vs) { s with a := wipeA s.a vs } t := by
  refine ⟨ok.sub, by simp [wipe_length, wipeA_length, ok.len], fun i q v h1 h2 => ?_, ok.own, by simpa [wipeA_length] using ok.tN, ok.box, ok.nob⟩
  have h1 : (wipeA s.a vs)[i]? = some q := h1
  rw [wipeA_get] at h1
  rw [wipe_get] at h2
  by_cases hi : i ∈ vs
  · rw [if_pos hi] at h1
    split at h1
    · cases h1; trivial
    · cases h1
  · rw [if_neg hi] at h1 h2
    exact ok.sl i q v h1 h2
end
section
variable {X : Cx} {elt tg iter : Expr} {ifs : List Expr} {scope : Scope} {own : List (Str × Nat)} {pos : Pos} {src : MI} {g : D → S → Option S} {ws : List Nat} {c : MT} {m : ME}
theorem lc_snd {K : PySem.W.Frag} {vs : List Nat} {wi : TI} (hw : ∀ i ∈ ws, i ∈ vs)
    (hi : ∀ (σ : St) (H : Hp) (w : Wd) (s : S) (t : Nat) (Q : It → Hp → Prop) (ds : List D) (s' : S), OKs K w H σ s t → src s = .ok ds s' →
    (∀ w' H' t' J, t ≤ t' → OKs K w' H' σ s' t' → Step s.a.length t w H w' H' → Slotted s s' → WalkOk K J ds w'.F → Q J H') → wi σ H Q) :
    SndE K (tLc wi (tgC K g ws) (ttC K c) (teC K m) vs) (mLc src g c m vs) := by
  intro σ H w s t Q r s' ok e k
  simp only [mLc] at e
  split at e
  · cases e
  · rename_i ds sa e1
    split at e
    · rename_i hno
      split at e
      · cases e
      · rename_i acc0 sb e2
        cases e
        refine hi σ H w s t _ ds sa ok e1 fun w1 H1 t1 J a1 ok1 st1 sl1 wk => ?_
        have hl := ok.slen ok1
        have tN := ok1.tN
        generalize hn : s.a.length = n at *
        obtain ⟨G, Y, hW, hG, hY⟩ := wk
        intro A hA
        have okg := give_ok (o := .lst []) ok1 hA
        have stg := give_step (n := n) (t0 := t1) (o := .lst []) ok1 hA
        refine lc_it hW (fun i H2 => ∃ w2 s2 acc xs, OKs K w2 H2 (wipe σ vs) { s2 with a := wipeA s2.a vs } (t1 + 1) ∧ s2.a.length = n ∧ w2.O A = some t1 ∧ H2 A = some (.lst xs) ∧ RepL K w2.F acc xs ∧ Step n t1 w1 H1 w2 H2 ∧
          (∀ i, i ∉ vs → ∀ q, sa.a[i]? = some (some q) → ∃ q', s2.a[i]? = some (some q')) ∧ lcL g c m vs (ds.drop i) acc s2 = .ok acc0 sb) ?_ ?_ ?_ ?_
        · exact ⟨_, sa, [], [], wipe_ok okg, hl, if_pos rfl, upd_same, .nil, stg, fun i _ q h => ⟨q, h⟩, e2⟩
        · rintro i H2 _ ⟨w2, s2, acc, xs, ok2, _, _, _, _, st2, _⟩
          exact hG H2 (st2.F.trans ok2.sub)
        · rintro i x H2 H3 hlt ⟨w2, s2, acc, xs, ok2, l2, hO, hA2, rep, st2, sl2, e3⟩ y
          obtain ⟨d, hd, hx⟩ := hY i H2 x H3 hlt (st2.F.trans ok2.sub) y
          have ed : ds.drop i = d :: ds.drop (i + 1) := by
            have := List.drop_eq_getElem_cons hlt
            rw [this]
            have q := (List.getElem?_eq_some_iff.mp hd).2
            rw [q]
          rw [ed] at e3
          have nA : H3 A = some (.lst xs) ∧ ∃ w3, OKs K w3 H3 (wipe σ vs) { s2 with a := wipeA s2.a vs } (t1 + 1) ∧ Step n (t1 + 1) w2 H2 w3 H3 ∧ Rep K w3.F d x := by
            rcases hx with ⟨rfl, hr⟩ | ⟨T, us, es, rfl, hT, rfl, rfl, hr⟩
            · exact ⟨hA2, w2, ok2, .refl, Rep.mono st2.F d x hr⟩
            · refine ⟨by rw [upd_ne (ne_of_none hA2 hT)]; exact hA2, w2.lay T (.tup us), lay_ok ok2 hT, lay_step ok2 hT, ?_⟩
              simp only [Rep]
              exact ⟨T, us, rfl, upd_same, RepL.mono (st2.F.trans (lay_step (o := .tup us) (t0 := t) (n := n) ok2 hT).F) es us hr⟩
          obtain ⟨hA3, w3, ok3, st3, rep3⟩ := nA
          have hO3 : w3.O A = some t1 := st3.tmp A t1 hO (by omega) (Nat.lt_succ_self _)
          have rA3 := RepL.mono st3.F acc xs rep
          have st13 := st2.trans (st3.mono (Nat.le_succ _))
          simp only [lcL] at e3
          split at e3
          · cases e3
          · rename_i sc e4
            have lw : (wipeA s2.a vs).length = n := (wipeA_length _ _).trans l2
            refine ⟨d, w3, _, sc, t1 + 1, n, ok3, lw, rep3, e4, fun σ4 ok4 l4 sl4 wr4 => ?_⟩
            have hwp : wipe σ4 vs = wipe σ vs := by
              have z : (wipe σ vs).length = σ4.length := by rw [ok3.len, ok4.len, l4]; exact lw
              have : wipe σ4 vs = wipe (wipe σ vs) vs := wipe_eq z.symm fun i hi => wr4 i (fun h => hi (hw i h))
              rw [this]
              refine wipe_eq (wipe_length _ _) fun i hi => ?_
              rw [wipe_get, if_neg hi]
            have nb : ∀ {w : Wd} {H : Hp} {σ : St} {s : S} {t : Nat}, OKs K w H σ s t → w.O A = some t1 → ¬ isBox w.B A := fun ok h ⟨p, gg, e, z⟩ => by
              obtain ⟨_, z1, z2⟩ := ok.box p gg e
              rcases z with rfl | rfl
              · rw [h] at z1; cases z1
              · rw [h] at z2; cases z2
            have slA : ∀ {sx : S}, Slotted sc sx → ∀ i, i ∉ vs → ∀ q, sa.a[i]? = some (some q) → ∃ q', sx.a[i]? = some (some q') := fun hs i hi q h => by
              obtain ⟨q1, h1⟩ := sl2 i hi q h
              obtain ⟨q2, h2⟩ := sl4 i q1 (by show (wipeA s2.a vs)[i]? = _; rw [wipeA_get, if_neg hi]; exact h1)
              exact hs i q2 h2
            refine ⟨hwp, ?_⟩
            split at e3
            · cases e3
            · rename_i sd e5
              refine ⟨w3, sc, t1 + 1, false, sd, ok4, e5, fun w5 H5 t5 a5 ok5 st5 sl5 => ?_⟩
              refine iteF ?_
              rw [l4] at st5
              have l5 : sd.a.length = n := (ok4.slen ok5).trans l4
              have okD := dropT_ok ok5 (T := t1 + 1) (by omega)
              refine ⟨w5.drop (t1 + 1), sd, acc, xs, ?_, l5, drop_at (st5.tmp A t1 hO3 (by omega) (Nat.lt_succ_self _)) (Nat.lt_succ_self _), st5.keep A _ hA3 (fun i hi => by rw [hO3] at hi; cases hi; omega) (nb ok4 hO3), RepL.mono st5.F acc xs rA3,
                st13.trans ((st5.trans dropT_step).mono (Nat.le_succ _)), slA sl5, e3⟩
              rw [← hwp]; exact wipe_ok okD
            · rename_i sd e5
              refine ⟨w3, sc, t1 + 1, true, sd, ok4, e5, fun w5 H5 t5 a5 ok5 st5 sl5 => ?_⟩
              refine iteT ?_
              rw [l4] at st5
              have l5 : sd.a.length = n := (ok4.slen ok5).trans l4
              have hO5 := st5.tmp A t1 hO3 (by omega) (Nat.lt_succ_self _)
              have hA5 := st5.keep A _ hA3 (fun i hi => by rw [hO3] at hi; cases hi; omega) (nb ok4 hO3)
              split at e3
              · cases e3
              · rename_i y' se e6
                split at e3
                · cases e3
                · rename_i z sf e7
                  split at e3
                  · rename_i hz
                    refine ⟨w5, sd, t5, y', se, ok5, e6, fun w6 H6 u t6 τ b1 b2 ok6 st6 sl6 rel6 => ?_⟩
                    rw [l5] at st6
                    have l6 : se.a.length = n := (ok5.slen ok6).trans l5
                    have hO6 := st6.tmp A t1 hO5 (by omega) (by omega)
                    have hA6 := st6.keep A _ hA5 (fun i hi => by rw [hO5] at hi; cases hi; omega) (nb ok5 hO5)
                    obtain ⟨w7, ok7, st7, rep7, sl7, l7, _⟩ := take1_ok (t0 := t1 + 1) ok6 rel6 e7 (by omega) (by omega)
                    rw [l6] at st7 l7
                    have hO7 := st7.tmp A t1 hO6 (by omega) (Nat.lt_succ_self _)
                    have okM := mut_ok (o := .lst (xs ++ [u])) ok7 hO7 (fun _ h => nomatch h) rfl rfl fun i q v h1 h2 => .inl ⟨h1, fun z => by have := (List.getElem?_eq_some_iff.mp h1).1; omega⟩
                    have stM := mut_step (n := n) (t0 := t1) (o := .lst (xs ++ [u])) ok7 hO7 (.inr (Nat.le_refl _))
                    have okD := dropT_ok okM (T := t1 + 1) (by omega)
                    have lx := RepL.length _ _ rA3
                    have rA7 := RepL.mono (st5.F.trans (st6.F.trans st7.F)) acc xs rA3
                    refine ⟨xs, hA6, by omega, w7.drop (t1 + 1), sf, acc ++ [z], xs ++ [u], ?_, l7, drop_at hO7 (Nat.lt_succ_self _), upd_same, RepL.append _ _ rA7 (.cons rep7 .nil), ?_, slA ((sl5.trans sl6).trans sl7), e3⟩
                    · rw [← hwp]; exact wipe_ok okD
                    · exact st13.trans (((st5.mono (Nat.le_succ _)).trans ((st6.mono (by omega)).trans (st7.mono (Nat.le_succ _)))).trans (stM.trans (dropT_step.mono (Nat.le_succ _))))
                  · cases e3
        · rintro H2 ⟨w2, s2, acc, xs, ok2, l2, hO, hA2, rep, st2, sl2, e3⟩
          rw [List.drop_length] at e3
          cases e3
          refine k w2 H2 (.ref A) (t1 + 1) t1 a1 (Nat.lt_succ_self _) ?_ (st1.trans (st2.mono a1)) ?_ ⟨A, xs, rfl, hO, hA2, rep⟩
          · have lb : (backA sa.a sb.a vs).length = n := (backA_length _ _ _).trans l2
            refine ⟨ok2.sub, by show σ.length = _; rw [lb, ok1.len, hl], fun i q v h1 h2 => ?_, ok2.own, by show (backA sa.a sb.a vs).length ≤ _; omega, ok2.box, ok2.nob⟩
            have h1 : (backA sa.a sb.a vs)[i]? = some q := h1
            rw [backA_get _ _ _ (l2.trans hl.symm)] at h1
            by_cases hi : i ∈ vs
            · rw [if_pos hi] at h1
              have hs := ok1.sl i q v h1 h2
              cases q with
              | none => trivial
              | some q =>
                cases q with
                | d y => obtain ⟨u, eu, hr⟩ := hs; exact ⟨u, eu, Rep.mono st2.F y u hr⟩
                | o c =>
                  have := List.all_eq_true.mp hno i hi
                  rw [h1] at this
                  cases this
                | sl _ => exact hs
                | bx =>
                  obtain ⟨p, gg, eb, ev⟩ := hs
                  rcases st2.B with z | ⟨z, _⟩
                  · exact ⟨p, gg, z.trans eb, ev⟩
                  · rw [z] at eb; cases eb
                | st _ => obtain ⟨b, eb, h4⟩ := hs; exact ⟨b, eb, h4.mono st2.F⟩
            · rw [if_neg hi] at h1
              refine ok2.sl i q v ?_ ?_
              · show (wipeA sb.a vs)[i]? = _
                rw [wipeA_get, if_neg hi]; exact h1
              · rw [wipe_get, if_neg hi]; exact h2
          · refine sl1.trans fun i q h => ?_
            show ∃ q', (backA sa.a sb.a vs)[i]? = _
            rw [backA_get _ _ _ (l2.trans hl.symm)]
            by_cases hi : i ∈ vs
            · rw [if_pos hi]; exact ⟨q, h⟩
            · rw [if_neg hi]; exact sl2 i hi q h
    · cases e
theorem re_lc (hc : X.calm = true) (hN : X.N.Nodup) (hi : RI X tg iter src) (ok : BlkOk X.N X.env.scope scope own)
    (hg : ∀ (s : Shared) (H : Hp) (C : Addr) (cl : List (Str × Addr)) (fp : List Addr), RG (X.blk s H scope (compEnvC scope cl C X.env) fp) tg g ws) (ht : ∀ (s : Shared) (H : Hp) (C : Addr) (cl : List (Str × Addr)) (fp : List Addr), RTs (X.blk s H scope (compEnvC scope cl C X.env) fp) ifs c)
    (he : ∀ (s : Shared) (H : Hp) (C : Addr) (cl : List (Str × Addr)) (fp : List Addr), RE (X.blk s H scope (compEnvC scope cl C X.env) fp) elt m) (hw : ∀ i ∈ ws, i ∈ own.map (·.2)) (hs : ∀ x, foldedSetIterable iter X.env x = pure x := by intro _; rfl) :
    RE X (.ListComp elt [⟨tg, iter, ifs, 0⟩] scope pos) (mLc src g c m (own.map (·.2))) := by
  obtain ⟨wi, p1, s1⟩ := hi
  exact ⟨_, pe_lc hc hN p1 ok (fun s H C cl fp => (hg s H C cl fp).pg) (fun s H C cl fp => (ht s H C cl fp).pts) (fun s H C cl fp => (he s H C cl fp).pe) hs, lc_snd hw s1⟩
end
end Qz
namespace Qz
open PySem PySem.Spec L2
open PyProof.Rows hiding St

/-! ## enumerate of anything that begins -/
theorem meets_enum1 {v : Value} {o : Obj} {Ho : Heap → Prop} (B : Begins v o Ho) :
    Meets (Builtin.«enumerate.__new__» ⟨[.type "enumerate", v], []⟩) (fun _ R s => Ho s.heap ∧
      R (.ok (.ret (.ref (s.heap.push o).objs.size))) { s with heap := (s.heap.push o).push { cls := .type "enumerate", data := .fields #[.none, .bool false, .ref s.heap.objs.size, rawInt 0, .none, .none] } }) :=
  .of_wp fun prog w A R s h => by
    obtain ⟨hp, g, d, tk, os⟩ := s
    obtain ⟨h1, h⟩ := h
    have hsub := sub_enumerate
    have q1 : ∀ {A' : Around} {E : Value → Shared → Prop} {Q : Value → Shared → Prop}, Q (.ref hp.objs.size) ⟨hp.push o, g, d, tk, os⟩ → wpAny (model prog w) A' (pyIter v) Q E ⟨hp, g, d, tk, os⟩ :=
      fun q => B.iter prog w _ _ _ _ h1 q
    wp_walk using q1
    refine wpAny_stack_any fun st => wpAny_pure ?_
    split
    · rename_i c _ _ _ _ _
      cases (c == Value.type "enumerate") <;> (wp_walk using q1; exact ⟨_, rfl, h⟩)
    · (wp_walk using q1; exact ⟨_, rfl, h⟩)
theorem call_enum1 {prog : Program} {w : World} {A : Around} {E : Value → Shared → Prop} {s : Shared} {v : Value} {o : Obj} {Ho : Heap → Prop} {Q : Value → Shared → Prop} (B : Begins v o Ho) (h1 : Ho s.heap)
    (h : ∀ h', IsEnum h' (s.heap.objs.size + 1) s.heap.objs.size 0 .none → h'.get? s.heap.objs.size = some o → (∀ b o, s.heap.get? b = some o → h'.get? b = some o) → Q (.ref (s.heap.objs.size + 1)) { s with heap := h' }) :
    wpAny (model prog w) A (call (.type "enumerate") [v]) Q E s := by
  refine callType_new F.called_enumerate (by decide) (F.typeCall_enumerate_1 _) (F.newCall_enumerate_1 _) (fun obj => F.args_object_init_2 obj _) F.entry_enumerate_new (meets_enum1 B) ⟨h1, ?_⟩
  have hz : (s.heap.push o).objs.size = s.heap.objs.size + 1 := Heap.size_push ..
  show _ ∧ _
  rw [hz]
  have he := Heap.get?_push_size (s.heap.push o) (o := { cls := .type "enumerate", data := .fields #[.none, .bool false, .ref s.heap.objs.size, rawInt 0, .none, .none] }) rfl
  rw [hz] at he
  exact ⟨⟨_, he, rfl⟩, h _ he (Heap.get?_push_of_some _ (Heap.get?_push_size _ B.free)) fun b o x => Heap.get?_push_of_some _ (Heap.get?_push_of_some _ x)⟩
/-- the tuple at a, each item in a new pair -/
def Itet (K : PySem.W.Frag) (a : Addr) : It :=
  ⟨fun i H => ∃ (xs : List V) (x : V), SqT K H a xs ∧ xs[i]? = some x, fun i H v H' => ∃ T x, v = .ref T ∧ H T = none ∧ H' = upd H T (.tup [.int (i : Nat), x]) ∧ ∀ xs, SqT K H a xs → xs[i]? = some x, fun i H => ∃ xs : List V, SqT K H a xs ∧ xs.length = i⟩
theorem turn_enumT {P : Program} {w : World} {K : PySem.W.Frag} {elts : List Expr} {kk : Nat} {tpos : Pos} (a e it : Addr) (hai : a ≠ it) (hae : a ≠ e) (hei : e ≠ it) :
    Turn P w K (.Tuple elts kk tpos) (Itet K a) [e, it] e (fun i h => (∃ old, IsEnum h e it ((i : Nat) : Int) old) ∧ h.IsTupleIter it a i) where
  mem := by simp
  obj := fun i h ⟨⟨old, he⟩, ⟨o, ho, hc, hd⟩⟩ b hb => by
    rcases List.mem_cons.mp hb with z | z
    · subst z; exact ⟨_, he, fun v q => nomatch q⟩
    · obtain rfl : b = it := by simpa using z
      exact ⟨o, ho, fun v q => by rw [hd] at q; cases q⟩
  keep := fun i h h' ⟨⟨old, he⟩, hi⟩ k => ⟨⟨old, k e (by simp) _ he⟩, hi.at fun o q => k it (by simp) o q⟩
  item := by
    intro X hP hw hK hc i pins s σ H E I hf st hg
    subst hP hw hK
    obtain ⟨⟨old, he⟩, hit⟩ := st
    obtain ⟨xs, x, hq, hx⟩ := hg
    obtain ⟨its, rv, p, hz⟩ := I.tuple hq
    obtain ⟨u, hu, ru⟩ := rv.get hx
    have hil : i < its.length := by rw [List.getElem?_eq_some_iff] at hu; exact hu.1
    have hel : e < s.heap.objs.size := Heap.lt_size he
    have hD := Draws.tuple (prog := X.prog) (w := X.w) (A := X.A.in1) (I.ok.hd hc) it a hai its.toArray
    refine wpAny_pyNext_enum_itemD (i := i) hD he ⟨hit, show s.heap.IsTuple a its.toArray from p⟩ (by simpa using hil) hei (by simp [hei, Ne.symm hae]) fun y h' tk hy ho hst hT hsz hk => ?_
    have ey : y = u := by simpa [hu] using hy.symm
    subst ey
    refine ⟨_, rfl, wpAny_letOwnedTupleGo_enum (s := { s with heap := h', toks := tk + 1 }) ho fun h'' he' sb => ?_⟩
    have hT2 := (sb.2 _ (Nat.ne_of_gt hel)).trans hT
    have new : ObjOk X.prog X.w (upd H s.heap.objs.size (.tup [.int (i : Nat), x])) h'' s.heap.objs.size (.tup [.int (i : Nat), x]) :=
      ⟨(by decide : 2 ≤ sizeLine), [.int i tk, y], .cons ⟨_, rfl⟩ (.cons ru .nil), ⟨_, hT2, rfl, _, rfl⟩⟩
    have I1 : Inv X pins σ (upd H s.heap.objs.size (.tup [.int (i : Nat), x])) { s with heap := h'', toks := tk + 1 } :=
      I.turnedNew (ch := [e, it]) (fun b ob hb q => (sb.2 b (fun z => hb (by simp [z]))).trans (hk b ob (fun z => hb (by simp [z])) (fun z => hb (by simp [z])) q)) hf (Nat.le_refl _) new
    have hitl : it < s.heap.objs.size := by obtain ⟨_, q, _⟩ := hit; exact Heap.lt_size q
    refine ⟨.ref s.heap.objs.size, _, I1, rfl, ⟨_, x, rfl, I.hok.fresh (Nat.le_refl _), rfl, fun ys hy => by rw [I.tuple_inj hy hq]; exact hx⟩, ⟨⟨y, ?_⟩, hst.1.at fun o q => (sb.2 it (Ne.symm hei)).trans q⟩, fun b hb => ?_⟩
    · have e1 : ((i + 1 : Nat) : Int) = (i : Int) + 1 := by omega
      rw [e1]; exact he'
    · have hb' : b < s.heap.objs.size := by
        rcases List.mem_cons.mp hb with z | z
        · rw [z]; exact hel
        · rw [List.mem_singleton.mp z]; exact hitl
      rw [upd_ne (Nat.ne_of_lt hb')]
      exact (hf b hb).1
  done := by
    intro X hP hw hK hc i pins s σ H E I hf st hg
    subst hP hw hK
    obtain ⟨⟨old, he⟩, hit⟩ := st
    obtain ⟨xs, hq, hx⟩ := hg
    obtain ⟨its, rv, p, hz⟩ := I.tuple hq
    obtain ⟨f0, f1, f2, f3, f4, f5⟩ := hf it (by simp)
    have hl := rv.length
    have hD := Draws.tuple (prog := X.prog) (w := X.w) (A := X.A.in1) (I.ok.hd hc) it a hai its.toArray
    have hn : its.toArray.size = i := by simp; omega
    refine wpAny_pyNext_enum_endD hD he (hn ▸ ⟨hit, show s.heap.IsTuple a its.toArray from p⟩) fun h' eb => ⟨rfl, I.turned (t' := s.toks) (fun b o hb q => eb b o hb q) f0 f1 f3 f4 f5⟩
  self := fun A i s Q E ⟨⟨_, he⟩, _⟩ h => wpAny_pyIter_enum he h
def iEnumA (K : PySem.W.Frag) (ta : TA) : TI := fun σ H R => ta σ H fun vs H1 => ∃ a xs, vs = [.ref a] ∧ ((SqL K H1 a xs ∧ R (Ite K a) H1) ∨ (SqT K H1 a xs ∧ R (Itet K a) H1))
theorem pi_enumA {X : Cx} {e : Expr} {ta : TA} {p pos tpos : Pos} {elts : List Expr} {kk : Nat} (hg : Gl X "enumerate") (hm : X.mg "enumerate" = none) (ha : PA X [e] ta) (hs : starEach [e] X.env = [(false, eval e X.env)] := by rfl) :
    PI X (.Tuple elts kk tpos) (.Call (.Name "enumerate" p) [e] [] pos) (iEnumA X.K ta) := by
  refine ⟨fun pins s σ H R I h => ?_⟩
  refine Call_ (ld_blt I hg hm boot_enumerate (PyProof.Rows.callWith_type1 (thn (ha.run pos pins s σ H _ I h) fun us s1 ⟨vs, H1, I1, r1, a, xs, ex, q1⟩ => ?_) hs rfl))
  subst ex
  obtain ⟨u, rfl, r⟩ := vals1 r1
  cases r
  have fpk : ∀ b ∈ [s1.heap.objs.size + 1, s1.heap.objs.size], FpOk X pins H1 b := fun b hb => by
    have hle : s1.heap.objs.size ≤ b := by
      rcases List.mem_cons.mp hb with z | z
      · rw [z]; exact Nat.le_add_right _ _
      · rw [List.mem_singleton.mp z]; exact Nat.le_refl _
    exact I1.fpOk hle (I1.hok.fresh hle)
  rcases q1 with ⟨hq, q⟩ | ⟨hq, q⟩
  · obtain ⟨its, rv, p', hz⟩ := I1.list hq
    refine call_enumerate_list p'.isList fun h' he hit hsz hk => wpAny_pyIter_enum he ?_
    have I2 : Inv X pins σ H1 { s1 with heap := h' } := I1.kept (t' := s1.toks) hk
    exact ⟨_, _, _, _, H1, rfl, I2, turn_enum a (s1.heap.objs.size + 1) s1.heap.objs.size, ⟨⟨.none, he⟩, hit, Nat.succ_ne_self _⟩, fpk, q⟩
  · obtain ⟨its, rv, p', hz⟩ := I1.tuple hq
    have lt : a < s1.heap.objs.size := by obtain ⟨o, q, _⟩ := p'; exact Heap.lt_size q
    refine call_enum1 (begins_tuple a its.toArray) (show s1.heap.IsTuple a its.toArray from p') fun h' he hit hk => wpAny_pyIter_enum he ?_
    have I2 : Inv X pins σ H1 { s1 with heap := h' } := I1.kept (t' := s1.toks) hk
    exact ⟨_, _, _, _, H1, rfl, I2, turn_enumT a (s1.heap.objs.size + 1) s1.heap.objs.size (Nat.ne_of_lt lt) (Nat.ne_of_lt (Nat.lt_succ_of_lt lt)) (Nat.succ_ne_self _), ⟨⟨.none, he⟩, ⟨_, hit, rfl, rfl⟩⟩, fpk, q⟩
theorem walk_enumT {K : PySem.W.Frag} {a : Addr} {xs : List V} : Walk (Itet K a) xs.length (fun H => SqT K H a xs) (YPair (fun i => some (.int (i : Nat))) (fun i => xs[i]?)) :=
  ⟨fun i _ hi q => ⟨xs, xs[i], q, by simp [hi]⟩, fun _ q => ⟨xs, q, rfl⟩, fun i H v H' _ q ⟨T, x, h1, h2, h3, h4⟩ => ⟨T, .int (i : Nat), x, h1, h2, h3, rfl, h4 xs q⟩⟩

/-! ## as sources of loops -/
def pairsD : List D → List D → List D
  | x :: xs, y :: ys => .tuple [x, y] :: pairsD xs ys
  | _, _ => []
def iEnumD (m : MA) : MI := fun s => match m s with
  | .ok rs s1 => match takes s1 rs with
    | some ([.tuple ds], s2) => .ok (pairsD (intsD 0 ds.length) ds) s2
    | some ([.list ds], s2) => .ok (pairsD (intsD 0 ds.length) ds) s2
    | _ => .no
  | .no => .no
def iZipD (m : MA) : MI := fun s => match m s with
  | .ok rs s1 => match takes s1 rs with
    | some ([.tuple ds, .tuple es], s2) => .ok (pairsD ds es) s2
    | some ([.list ds, .list es], s2) => .ok (pairsD ds es) s2
    | _ => .no
  | .no => .no
theorem pairsD_length : ∀ xs ys : List D, (pairsD xs ys).length = min xs.length ys.length
  | [], _ => by simp [pairsD]
  | _ :: _, [] => by simp [pairsD]
  | x :: xs, y :: ys => by simp [pairsD, pairsD_length xs ys]
theorem pairsD_get : ∀ (xs ys : List D) (i : Nat) (x y : D), xs[i]? = some x → ys[i]? = some y → (pairsD xs ys)[i]? = some (.tuple [x, y])
  | [], _, _, _, _, h, _ => by simp at h
  | _ :: _, [], _, _, _, _, h => by simp at h
  | x :: xs, y :: ys, 0, _, _, h1, h2 => by simp at h1 h2; subst h1; subst h2; rfl
  | x :: xs, y :: ys, i + 1, _, _, h1, h2 => by simpa [pairsD] using pairsD_get xs ys i _ _ (by simpa using h1) (by simpa using h2)
theorem walk_pairs {K : PySem.W.Frag} {J : It} {ds es : List D} {fx fy : Nat → Option V} {F : Hp} {G : Hp → Prop} (hw : Walk J (min ds.length es.length) G (YPair fx fy)) (hG : ∀ H, Same F H → G H)
    (hx : ∀ i x, fx i = some x → i < ds.length → ∃ d, ds[i]? = some d ∧ Rep K F d x) (hy : ∀ i x, fy i = some x → i < es.length → ∃ d, es[i]? = some d ∧ Rep K F d x) : WalkOk K J (pairsD ds es) F := by
  refine ⟨G, _, by rw [pairsD_length]; exact hw, hG, fun i H x H' hi hs y => ?_⟩
  rw [pairsD_length] at hi
  obtain ⟨T, a, b, rfl, h2, rfl, h4, h5⟩ := y
  obtain ⟨d, d1, d2⟩ := hx i a h4 (by omega)
  obtain ⟨e, e1, e2⟩ := hy i b h5 (by omega)
  exact ⟨_, pairsD_get _ _ _ _ _ d1 e1, .inr ⟨T, _, _, rfl, h2, rfl, rfl, .cons d2 (.cons e2 .nil)⟩⟩
theorem rep_ints {K : PySem.W.Frag} {F : Hp} {n : Nat} (i : Nat) (x : V) (h : some (V.int (i : Nat)) = some x) (hi : i < (intsD 0 n).length) : ∃ d, (intsD 0 n)[i]? = some d ∧ Rep K F d x := by
  cases h
  have hi' : i < n := by simpa [intsD] using hi
  exact ⟨.int (i : Nat), by simp [intsD, hi'], by simp only [Rep]⟩
theorem rep_at {K : PySem.W.Frag} {F : Hp} {ds : List D} {xs : List V} (rep : RepL K F ds xs) (i : Nat) (x : V) (h : xs[i]? = some x) (_ : i < ds.length) : ∃ d, ds[i]? = some d ∧ Rep K F d x := RepL.getV _ _ i x rep h
section
variable {X : Cx} {e e2 : Expr} {ms : MA} {p pos tpos : Pos} {elts : List Expr} {kk : Nat}
theorem ri_enum (hg : Gl X "enumerate") (hm : X.mg "enumerate" = none) (h : RA X [e] ms) (hs : starEach [e] X.env = [(false, eval e X.env)] := by rfl) : RI X (.Tuple elts kk tpos) (.Call (.Name "enumerate" p) [e] [] pos) (iEnumD ms) := by
  obtain ⟨ta, p1, s1⟩ := h
  refine ⟨_, pi_enumA hg hm p1 hs, fun σ H w s t Q ds s' ok e k => ?_⟩
  simp only [iEnumD] at e
  split at e
  · rename_i rs sa e1
    refine s1 σ H w s t _ rs sa ok e1 fun w1 H1 us t1 a1 ok1 st1 sl1 rel1 => ?_
    have l := ok.slen ok1
    split at e
    · rename_i ds sb e2
      cases e
      obtain ⟨w2, ok2, st2, rep, sl2, l2⟩ := takes_ok (t0 := t) rs us _ _ _ _ _ ok1 rel1 e2 (Nat.le_refl _) (by rw [l]; exact ok.tN)
      rw [l] at st2
      simp only [RepL, Rep] at rep
      obtain ⟨_, _, rfl, ⟨a, xs, rfl, h1, h2⟩, rfl⟩ := rep
      refine ⟨a, xs, rfl, .inr ⟨SqT.of (ok2.sub _ _ h1), k w2 H1 t1 _ (by omega) ok2 (st1.trans st2) (sl1.trans sl2) ?_⟩⟩
      have l3 := RepL.length _ _ h2
      have e3 : min (intsD 0 ds.length).length ds.length = xs.length := by simp [intsD, l3]
      exact walk_pairs (by rw [e3]; exact walk_enumT) (fun H' sm => SqT.of (sm _ _ h1)) (fun i x hx => rep_ints i x hx) (rep_at h2)
    · rename_i ds sb e2
      cases e
      obtain ⟨w2, ok2, st2, rep, sl2, l2⟩ := takes_ok (t0 := t) rs us _ _ _ _ _ ok1 rel1 e2 (Nat.le_refl _) (by rw [l]; exact ok.tN)
      rw [l] at st2
      simp only [RepL, Rep] at rep
      obtain ⟨_, _, rfl, ⟨a, xs, rfl, h1, h2⟩, rfl⟩ := rep
      refine ⟨a, xs, rfl, .inl ⟨ok2.sub.seq h1, k w2 H1 t1 _ (by omega) ok2 (st1.trans st2) (sl1.trans sl2) ?_⟩⟩
      have l3 := RepL.length _ _ h2
      have e3 : min (intsD 0 ds.length).length ds.length = xs.length := by simp [intsD, l3]
      exact walk_pairs (by rw [e3]; exact walk_enum) (fun H' sm => sm.seq h1) (fun i x hx => rep_ints i x hx) (rep_at h2)
    · cases e
  · cases e
theorem ri_zip (hg : Gl X "zip") (hm : X.mg "zip" = none) (h : RA X [e, e2] ms) (hs : starEach [e, e2] X.env = (false, eval e X.env) :: starEach [e2] X.env := by rfl) (hpl : (backTo pos (starEach [e2] X.env)).any (·.1) = false := by rfl) :
    RI X (.Tuple elts kk tpos) (.Call (.Name "zip" p) [e, e2] [] pos) (iZipD ms) := by
  obtain ⟨ta, p1, s1⟩ := h
  refine ⟨_, RZ.pi_zipA hg hm p1 hs hpl, fun σ H w s t Q ds s' ok e k => ?_⟩
  simp only [iZipD] at e
  split at e
  · rename_i rs sa e1
    refine s1 σ H w s t _ rs sa ok e1 fun w1 H1 us t1 a1 ok1 st1 sl1 rel1 => ?_
    have l := ok.slen ok1
    split at e
    · rename_i ds es sb e2
      cases e
      obtain ⟨w2, ok2, st2, rep, sl2, l2⟩ := takes_ok (t0 := t) rs us _ _ _ _ _ ok1 rel1 e2 (Nat.le_refl _) (by rw [l]; exact ok.tN)
      rw [l] at st2
      simp only [RepL, Rep] at rep
      obtain ⟨_, _, rfl, ⟨a, xs, rfl, h1, h2⟩, _, _, rfl, ⟨b, ys, rfl, h3, h4⟩, rfl⟩ := rep
      refine ⟨a, b, xs, ys, rfl, .inr ⟨SqT.of (ok2.sub _ _ h1), SqT.of (ok2.sub _ _ h3), k w2 H1 t1 _ (by omega) ok2 (st1.trans st2) (sl1.trans sl2) ?_⟩⟩
      have e3 : min ds.length es.length = min xs.length ys.length := by rw [RepL.length _ _ h2, RepL.length _ _ h4]
      refine walk_pairs (fx := fun i => xs[i]?) (fy := fun i => ys[i]?) (G := fun H => SqT X.K H a xs ∧ SqT X.K H b ys) ?_ (fun H' sm => ⟨SqT.of (sm _ _ h1), SqT.of (sm _ _ h3)⟩) (rep_at h2) (rep_at h4)
      refine ⟨fun i H hi q => ?_, fun H q => ⟨xs, ys, q.1, q.2, by omega⟩, fun i H v H' _ q ⟨T, x, y, h1, h2, h3, h4, h5⟩ => ⟨T, x, y, h1, h2, h3, h4 xs q.1, h5 ys q.2⟩⟩
      have c1 : i < xs.length := by omega
      have c2 : i < ys.length := by omega
      exact ⟨xs, ys, xs[i], ys[i], q.1, q.2, by simp [c1], by simp [c2]⟩
    · rename_i ds es sb e2
      cases e
      obtain ⟨w2, ok2, st2, rep, sl2, l2⟩ := takes_ok (t0 := t) rs us _ _ _ _ _ ok1 rel1 e2 (Nat.le_refl _) (by rw [l]; exact ok.tN)
      rw [l] at st2
      simp only [RepL, Rep] at rep
      obtain ⟨_, _, rfl, ⟨a, xs, rfl, h1, h2⟩, _, _, rfl, ⟨b, ys, rfl, h3, h4⟩, rfl⟩ := rep
      refine ⟨a, b, xs, ys, rfl, .inl ⟨ok2.sub.seq h1, ok2.sub.seq h3, k w2 H1 t1 _ (by omega) ok2 (st1.trans st2) (sl1.trans sl2) ?_⟩⟩
      have e3 : min ds.length es.length = min xs.length ys.length := by rw [RepL.length _ _ h2, RepL.length _ _ h4]
      exact walk_pairs (walk_zip e3) (fun H' sm => ⟨sm.seq h1, sm.seq h3⟩) (rep_at h2) (rep_at h4)
    · cases e
  · cases e
end
end Qz
namespace Qz
open PySem PySem.Spec L2
open PyProof.Rows hiding St

/-! ## what a name alone holds changes -/
section
variable {K : PySem.W.Frag} {t i : Nat} {w : Wd} {H : Hp} {σ : St} {s : S} {a : Addr} {o : HO} {c c' : C}
theorem slot_mut (ok : OKs K w H σ s t) (h : s.a[i]? = some (some (.o c))) (hv : σ[i]? = some (some (.ref a))) (hO : w.O a = some i) (nt : NT o) (hc : Own K w (upd H a o) i c' (.ref a)) :
    OKs K w (upd H a o) σ { s with a := s.a.set i (some (.o c')) } t ∧ Step s.a.length t w H w (upd H a o) ∧ Slotted s { s with a := s.a.set i (some (.o c')) } := by
  have hi := (List.getElem?_eq_some_iff.mp h).1
  refine ⟨mut_ok ok hO nt rfl (by simp) fun j q v h1 h2 => ?_, mut_step ok hO (.inl hi), fun j q hj => ?_⟩
  · rcases set_get h1 with ⟨rfl, rfl⟩ | ⟨hj, h3⟩
    · rw [hv] at h2; cases h2
      exact .inr ⟨_, rfl, hc⟩
    · exact .inl ⟨h3, hj⟩
  · by_cases e : j = i
    · subst e; exact ⟨_, List.getElem?_set_self hi⟩
    · exact ⟨q, by show (s.a.set i _)[j]? = _; rw [List.getElem?_set_ne (Ne.symm e)]; exact hj⟩
theorem RepL.dropLast {F : Hp} {ds : List D} {xs : List V} (h : RepL K F ds xs) : RepL K F ds.dropLast xs.dropLast := by
  rw [List.dropLast_eq_take, List.dropLast_eq_take, ← RepL.length _ _ h]
  exact RepL.take _ _ _ h
theorem RepL.erase {F : Hp} (n : Nat) : ∀ (ds : List D) (xs : List V), RepL K F ds xs → RepL K F (ds.eraseIdx n) (xs.eraseIdx n) := fun ds xs h => by
  rw [List.eraseIdx_eq_take_drop_succ, List.eraseIdx_eq_take_drop_succ]
  exact RepL.append _ _ (RepL.take _ _ _ h) (RepL.drop _ _ _ h)
end
/-- a method of the list in slot i: what it gives and what the list becomes -/
def mMeth (i : Nat) (ms : MA) (f : List D → List D → Option (D × List D)) : ME := fun s => match s.a[i]? with
  | some (some (.o (.lst _))) => match ms s with
    | .no => .no
    | .ok rs s1 => match takes s1 rs with
      | none => .no
      | some (xs, s2) => match s2.a[i]? with
        | some (some (.o (.lst l))) => match f l xs with
          | some (y, l') => .ok (.d y) { s2 with a := s2.a.set i (some (.o (.lst l'))) }
          | none => .no
        | _ => .no
  | _ => .no
def MethS (K : PySem.W.Frag) (r : V → List V → Hp → VK → Prop) (f : List D → List D → Option (D × List D)) : Prop := ∀ (F H : Hp) (a : Addr) (us vs : List V) (l l' xs : List D) (y : D) (Q : VK), H a = some (.lst us) → RepL K F l us → RepL K F xs vs → f l xs = some (y, l') →
  (∀ z us', Rep K F y z → RepL K F l' us' → Q z (upd H a (.lst us'))) → r (.ref a) vs H Q
def fAppend (l : List D) : List D → Option (D × List D)
  | [x] => if l.length < sizeLine then some (.none, l ++ [x]) else none
  | _ => none
def fPop (l : List D) : List D → Option (D × List D)
  | [] => match l[l.length - 1]? with
    | some y => some (y, l.dropLast)
    | none => none
  | _ => none
def fPopAt (l : List D) : List D → Option (D × List D)
  | [.int i] => if -(2 ^ 63) ≤ i ∧ i < 2 ^ 63 then match seqIndex? i l.length with
    | some k => match l[k]? with
      | some y => some (y, l.eraseIdx k)
      | none => none
    | none => none else none
  | _ => none
def fInsert (l : List D) : List D → Option (D × List D)
  | [.int i, x] => if l.length < sizeLine ∧ 0 ≤ i ∧ i < 2 ^ 63 then some (.none, l.take i.toNat ++ [x] ++ l.drop i.toNat) else none
  | _ => none
def fReverse (l : List D) : List D → Option (D × List D)
  | [] => some (.none, l.reverse)
  | _ => none
section
variable {K : PySem.W.Frag}
theorem me_append : MethS K rAppend fAppend := by
  intro F H a us vs l l' xs y Q hH rl rx e k
  unfold fAppend at e
  split at e
  · split at e
    · rename_i hl
      cases e
      simp only [RepL] at rx
      obtain ⟨v, _, rfl, rv, rfl⟩ := rx
      exact ⟨a, us, v, rfl, rfl, hH, by rw [← RepL.length _ _ rl]; exact hl, k _ _ (by simp only [Rep]) (RepL.append _ _ rl (.cons rv .nil))⟩
    · cases e
  · cases e
theorem me_pop : MethS K rPop fPop := by
  intro F H a us vs l l' xs y Q hH rl rx e k
  unfold fPop at e
  split at e
  · split at e
    · rename_i y' hy
      cases e
      simp only [RepL] at rx
      subst rx
      obtain ⟨z, hz, rz⟩ := RepL.get _ _ _ _ rl hy
      exact ⟨a, us, z, rfl, rfl, hH, by rw [← RepL.length _ _ rl]; exact hz, k _ _ rz (RepL.dropLast rl)⟩
    · cases e
  · cases e
theorem me_popAt : MethS K rPopAt fPopAt := by
  intro F H a us vs l l' xs y Q hH rl rx e k
  unfold fPopAt at e
  split at e
  · split at e
    · rename_i i hb
      split at e
      · rename_i j hj
        split at e
        · rename_i y' hy
          cases e
          simp only [RepL, Rep] at rx
          obtain ⟨v, _, rfl, rfl, rfl⟩ := rx
          obtain ⟨z, hz, rz⟩ := RepL.get _ _ _ _ rl hy
          exact ⟨a, us, i, j, z, rfl, rfl, hH, hb.1, hb.2, by rw [← RepL.length _ _ rl]; exact hj, hz, k _ _ rz (RepL.erase j _ _ rl)⟩
        · cases e
      · cases e
    · cases e
  · cases e
theorem me_insert : MethS K (fun x vs H Q => ∃ (l : Addr) (xs : List V) (i : Int) (y : V), x = .ref l ∧ vs = [.int i, y] ∧ H l = some (.lst xs) ∧ xs.length < sizeLine ∧ 0 ≤ i ∧ i < 2 ^ 63 ∧
    Q .non (upd H l (.lst (xs.take i.toNat ++ [y] ++ xs.drop i.toNat)))) fInsert := by
  intro F H a us vs l l' xs y Q hH rl rx e k
  unfold fInsert at e
  split at e
  · split at e
    · rename_i i x hb
      cases e
      simp only [RepL, Rep] at rx
      obtain ⟨v, _, rfl, rfl, u, _, rfl, ru, rfl⟩ := rx
      exact ⟨a, us, i, u, rfl, rfl, hH, by rw [← RepL.length _ _ rl]; exact hb.1, hb.2.1, hb.2.2, k _ _ (by simp only [Rep]) (RepL.append _ _ (RepL.append _ _ (RepL.take _ _ _ rl) (.cons ru .nil)) (RepL.drop _ _ _ rl))⟩
    · cases e
  · cases e
end
section
variable {X : Cx} {e : Expr} {es : List Expr} {ms : MA} {m : ME} {i : Nat} {x name : Str} {p apos cpos : Pos} {id : String} {r : V → List V → Hp → VK → Prop} {f : List D → List D → Option (D × List D)}
theorem meth_snd {K : PySem.W.Frag} {ta : TA} (h : SndA K ta ms) (hf : MethS K r f) : SndE K (tBM K "list" r (tVar i) ta) (mMeth i ms f) := by
  intro σ H w s t Q res s' ok e k
  simp only [mMeth] at e
  split at e
  · rename_i l0 h0
    have hi := (List.getElem?_eq_some_iff.mp h0).1
    obtain ⟨v, hv⟩ : ∃ v, σ[i]? = some v := ⟨σ[i]'(by rw [ok.len]; exact hi), by simp [ok.len, hi]⟩
    obtain ⟨u, rfl, a0, us0, rfl, q1, q2, q3⟩ := ok.sl i _ _ h0 hv
    split at e
    · cases e
    · rename_i rs sa e1
      split at e
      · cases e
      · rename_i xs sb e2
        split at e
        · rename_i l h1
          split at e
          · rename_i y l' e3
            cases e
            refine ⟨.ref a0, hv, .inl ⟨rfl, us0, .inl (.inl q2)⟩, ?_⟩
            refine h σ H w s t _ rs sa ok e1 fun w1 H1 vs t1 a1 ok1 st1 sl1 rel1 => ?_
            have hl := ok.slen ok1
            obtain ⟨w2, ok2, st2, rep, sl2, l2⟩ := takes_ok (t0 := t) rs vs xs sa sb w1 t ok1 rel1 e2 (Nat.le_refl _) (by rw [hl]; exact ok.tN)
            rw [hl] at st2
            obtain ⟨u2, e4, a, us, e5, r1, r2, r3⟩ := ok2.sl i _ _ h1 hv
            cases e4
            cases e5
            refine hf w2.F H1 a0 us vs l l' xs y Q r2 r3 rep e3 fun z us' rz rl => ?_
            obtain ⟨ok3, st3, sl3⟩ := slot_mut (o := .lst us') (c' := .lst l') ok2 h1 hv r1 (fun _ h => nomatch h) ⟨a0, us', rfl, r1, upd_same, rl⟩
            rw [l2, hl] at st3
            exact k w2 _ z (t1 + 1) t1 a1 (Nat.lt_succ_self _) (ok3.up (Nat.le_succ _)) ((st1.trans st2).trans (st3.mono a1)) ((sl1.trans sl2).trans sl3) rz
          · cases e
        · cases e
  · cases e
theorem re_meth (slot : Slot "list" name id) (hty : typeOf (.builtin id) = pure (.type "method_descriptor")) (hm : MtR X id r) (hf : MethS X.K r f) (ha : RA X (e :: es) ms) (hN : X.N[i]? = some x) (hv : Vis X.env.scope x) (hd : (x == ("__debug__" : Str)) = false) (hcd : (x == ("__classdict__" : Str)) = false)
    (hbase : attributeBase (.Name x p) name X.env (eval (.Name x p) X.env) = eval (.Name x p) X.env)
    (hfew : ((backTo cpos (starEach (e :: es) X.env)).all (fun x => !x.1) && (backToKw cpos (keywordEach [] X.env)).all (fun x => x.1.isSome)
      && decide ((e :: es).length + ([] : List Keyword).length + (if ([] : List Keyword).isEmpty then 0 else 1) < 30)) = true)
    (hline : (apos.endLine == cpos.line) = true) (hs : starEach (e :: es) X.env = (false, eval e X.env) :: starEach es X.env) (hplain : (backTo cpos (starEach es X.env)).any (·.1) = false) :
    RE X (.Call (.Attribute (.Name x p) name apos) (e :: es) [] cpos) (mMeth i ms f) := by
  obtain ⟨ta, p1, s1⟩ := ha
  exact ⟨_, pe_bm PySem.F.plainAttrs_list slot hty hm (pe_var hN hv hd hcd) p1 hbase hfew hline hs hplain, meth_snd s1 hf⟩
theorem re_append (i : Nat) (ha : RA X [e] ms) (hN : X.N[i]? = some x := by rfl) (hv : Vis X.env.scope x := by first | exact Or.inl rfl | exact Or.inr (Or.inl rfl) | exact Or.inr (Or.inr rfl)) (hd : (x == ("__debug__" : Str)) = false := by decide) (hcd : (x == ("__classdict__" : Str)) = false := by decide)
    (hbase : attributeBase (.Name x p) "append" X.env (eval (.Name x p) X.env) = eval (.Name x p) X.env := by rfl)
    (hfew : ((backTo cpos (starEach [e] X.env)).all (fun x => !x.1) && (backToKw cpos (keywordEach [] X.env)).all (fun x => x.1.isSome)
      && decide (([e] : List Expr).length + ([] : List Keyword).length + (if ([] : List Keyword).isEmpty then 0 else 1) < 30)) = true := by rfl)
    (hline : (apos.endLine == cpos.line) = true := by rfl) (hs : starEach [e] X.env = (false, eval e X.env) :: starEach [] X.env := by rfl) (hplain : (backTo cpos (starEach [] X.env)).any (·.1) = false := by rfl) :
    RE X (.Call (.Attribute (.Name x p) "append" apos) [e] [] cpos) (mMeth i ms fAppend) :=
  re_meth PySem.F.slot_list_append PySem.F.type_list_append mt_append me_append ha hN hv hd hcd hbase hfew hline hs hplain
theorem re_popAt (i : Nat) (ha : RA X [e] ms) (hN : X.N[i]? = some x := by rfl) (hv : Vis X.env.scope x := by first | exact Or.inl rfl | exact Or.inr (Or.inl rfl) | exact Or.inr (Or.inr rfl)) (hd : (x == ("__debug__" : Str)) = false := by decide) (hcd : (x == ("__classdict__" : Str)) = false := by decide)
    (hbase : attributeBase (.Name x p) "pop" X.env (eval (.Name x p) X.env) = eval (.Name x p) X.env := by rfl)
    (hfew : ((backTo cpos (starEach [e] X.env)).all (fun x => !x.1) && (backToKw cpos (keywordEach [] X.env)).all (fun x => x.1.isSome)
      && decide (([e] : List Expr).length + ([] : List Keyword).length + (if ([] : List Keyword).isEmpty then 0 else 1) < 30)) = true := by rfl)
    (hline : (apos.endLine == cpos.line) = true := by rfl) (hs : starEach [e] X.env = (false, eval e X.env) :: starEach [] X.env := by rfl) (hplain : (backTo cpos (starEach [] X.env)).any (·.1) = false := by rfl) :
    RE X (.Call (.Attribute (.Name x p) "pop" apos) [e] [] cpos) (mMeth i ms fPopAt) :=
  re_meth PySem.F.slot_list_pop PySem.F.type_list_pop mt_popAt me_popAt ha hN hv hd hcd hbase hfew hline hs hplain
theorem re_insert {e2 : Expr} (i : Nat) (ha : RA X [e, e2] ms) (hN : X.N[i]? = some x := by rfl) (hv : Vis X.env.scope x := by first | exact Or.inl rfl | exact Or.inr (Or.inl rfl) | exact Or.inr (Or.inr rfl)) (hd : (x == ("__debug__" : Str)) = false := by decide) (hcd : (x == ("__classdict__" : Str)) = false := by decide)
    (hbase : attributeBase (.Name x p) "insert" X.env (eval (.Name x p) X.env) = eval (.Name x p) X.env := by rfl)
    (hfew : ((backTo cpos (starEach [e, e2] X.env)).all (fun x => !x.1) && (backToKw cpos (keywordEach [] X.env)).all (fun x => x.1.isSome)
      && decide (([e, e2] : List Expr).length + ([] : List Keyword).length + (if ([] : List Keyword).isEmpty then 0 else 1) < 30)) = true := by rfl)
    (hline : (apos.endLine == cpos.line) = true := by rfl) (hs : starEach [e, e2] X.env = (false, eval e X.env) :: starEach [e2] X.env := by rfl) (hplain : (backTo cpos (starEach [e2] X.env)).any (·.1) = false := by rfl) :
    RE X (.Call (.Attribute (.Name x p) "insert" apos) [e, e2] [] cpos) (mMeth i ms fInsert) :=
  re_meth PySem.F.slot_list_insert PySem.F.type_list_insert mt_insert me_insert ha hN hv hd hcd hbase hfew hline hs hplain
theorem re_pop (i : Nat) (hN : X.N[i]? = some x := by rfl) (hv : Vis X.env.scope x := by first | exact Or.inl rfl | exact Or.inr (Or.inl rfl) | exact Or.inr (Or.inr rfl)) (hd : (x == ("__debug__" : Str)) = false := by decide) (hcd : (x == ("__classdict__" : Str)) = false := by decide)
    (hbase : attributeBase (.Name x p) "pop" X.env (eval (.Name x p) X.env) = eval (.Name x p) X.env := by rfl) (hline : (apos.endLine == cpos.line) = true := by rfl) :
    RE X (.Call (.Attribute (.Name x p) "pop" apos) [] [] cpos) (mMeth i mNil fPop) :=
  ⟨_, pe_bm0 PySem.F.plainAttrs_list PySem.F.slot_list_pop PySem.F.type_list_pop mt_pop (pe_var hN hv hd hcd) hbase hline, fun σ H w s t Q res s' ok e k => meth_snd nil_snd me_pop σ H w s t Q res s' ok e k⟩
end

/-! ## dicts -/
def keyOf : D → Option Key
  | .int i => some (.inl i)
  | .str x => some (.inr x)
  | _ => none
def keysOf : List D → Option (List Key)
  | [] => some []
  | d :: ds => match keyOf d with
    | none => none
    | some k => match keysOf ds with
      | none => none
      | some ks => some (k :: ks)
def dPut {κ : Type} [DecidableEq κ] (kvs : List (κ × D)) (k : κ) (v : D) : List (κ × D) :=
  if (kvs.any fun kv => decide (kv.1 = k)) = true then kvs.map (fun kv => if kv.1 = k then (kv.1, v) else kv) else kvs ++ [(k, v)]
def dGetK {κ : Type} [DecidableEq κ] (kvs : List (κ × D)) (k : κ) : Option D := (kvs.find? fun kv => decide (kv.1 = k)).map (·.2)
section
variable {K : PySem.W.Frag} {F H : Hp}
theorem keyOf_d {d : D} {k : Key} (e : keyOf d = some k) : d = keyD k := by
  unfold keyOf at e
  split at e <;> cases e <;> rfl
theorem keyOf_rep {d : D} {k : Key} {u : V} (e : keyOf d = some k) (h : Rep K F d u) : u = kV k := by
  unfold keyOf at e
  split at e <;> cases e <;> (simp only [Rep] at h; rw [h]; rfl)
theorem keysOf_rep : ∀ (ds : List D) (ks : List Key) (us : List V), keysOf ds = some ks → RepL K F ds us → us = ks.map kV
  | [], _, _, e, h => by
    cases e
    simp only [RepL] at h
    rw [h]; rfl
  | d :: ds, _, _, e, h => by
    simp only [keysOf] at e
    split at e
    · cases e
    · rename_i k e1
      split at e
      · cases e
      · rename_i ks e2
        cases e
        simp only [RepL] at h
        obtain ⟨x, r, rfl, h1, h2⟩ := h
        rw [keyOf_rep e1 h1, keysOf_rep ds ks r e2 h2]; rfl
theorem key_rep (k : Key) : Rep K F (keyD k) (kV k) := by
  cases k <;> simp only [keyD, Rep] <;> rfl
theorem keys_rep : ∀ ks : List Key, RepL K F (ks.map keyD) (ks.map kV)
  | [] => .nil
  | k :: ks => .cons (key_rep k) (keys_rep ks)
variable {κ : Type} [DecidableEq κ]
theorem RepM.length : ∀ (ds : List (κ × D)) (ys : List (κ × V)), RepM K F ds ys → ds.length = ys.length
  | [], _, h => by simp only [RepM] at h; subst h; rfl
  | (k, d) :: ds, _, ⟨x, r, e1, h1, h2⟩ => by subst e1; simp [RepM.length ds r h2]
theorem RepM.any (k : κ) : ∀ (ds : List (κ × D)) (ys : List (κ × V)), RepM K F ds ys → (ds.any fun kv => decide (kv.1 = k)) = (ys.any fun kv => decide (kv.1 = k))
  | [], _, h => by simp only [RepM] at h; subst h; rfl
  | (k', d) :: ds, _, ⟨x, r, e1, h1, h2⟩ => by subst e1; simp [RepM.any k ds r h2]
theorem RepM.app : ∀ (ds : List (κ × D)) (ys : List (κ × V)) {k : κ} {d : D} {x : V}, RepM K F ds ys → Rep K F d x → RepM K F (ds ++ [(k, d)]) (ys ++ [(k, x)])
  | [], _, k, d, x, h, hx => by
    simp only [RepM] at h
    subst h
    exact ⟨x, [], rfl, hx, rfl⟩
  | (k', d') :: ds, _, _, _, _, ⟨y, r, e1, h1, h2⟩, hx => by
    subst e1
    exact ⟨y, _, rfl, h1, RepM.app ds r h2 hx⟩
theorem RepM.set : ∀ (ds : List (κ × D)) (ys : List (κ × V)) {k : κ} {d : D} {x : V}, RepM K F ds ys → Rep K F d x → RepM K F (ds.map fun kv => if kv.1 = k then (kv.1, d) else kv) (ys.map fun kv => if kv.1 = k then (kv.1, x) else kv)
  | [], _, k, d, x, h, hx => by
    simp only [RepM] at h
    subst h
    exact rfl
  | (k', d') :: ds, _, k, d, x, ⟨y, r, e1, h1, h2⟩, hx => by
    subst e1
    have ih := RepM.set ds r (k := k) h2 hx
    by_cases e : k' = k
    · simp only [List.map_cons, e, if_true]
      exact ⟨x, _, rfl, hx, ih⟩
    · simp only [List.map_cons, e, if_false]
      exact ⟨y, _, rfl, h1, ih⟩
theorem RepM.put {ds : List (κ × D)} {ys : List (κ × V)} {k : κ} {d : D} {x : V} (h : RepM K F ds ys) (hx : Rep K F d x) : RepM K F (dPut ds k d) (putK ys k x) := by
  unfold dPut putK
  rw [RepM.any k ds ys h]
  split
  · exact RepM.set ds ys h hx
  · exact RepM.app ds ys h hx
theorem RepM.get (k : κ) : ∀ (ds : List (κ × D)) (ys : List (κ × V)), RepM K F ds ys → (dGetK ds k = none ∧ valV ys k = none) ∨ ∃ d x, dGetK ds k = some d ∧ valV ys k = some x ∧ Rep K F d x
  | [], _, h => by
    simp only [RepM] at h
    subst h
    exact .inl ⟨rfl, rfl⟩
  | (k', d) :: ds, _, ⟨x, r, e1, h1, h2⟩ => by
    subst e1
    by_cases e : k' = k
    · exact .inr ⟨d, x, by simp [dGetK, List.find?_cons, e], valV_pos e, h1⟩
    · rcases RepM.get k ds r h2 with ⟨q1, q2⟩ | ⟨d', x', q1, q2, q3⟩
      · refine .inl ⟨?_, (valV_neg e).trans q2⟩
        rw [← q1]; simp [dGetK, List.find?_cons, e]
      · refine .inr ⟨d', x', ?_, (valV_neg e).trans q2, q3⟩
        rw [← q1]; simp [dGetK, List.find?_cons, e]
end
def mNewT : ME := fun s => .ok (.o (.dT [])) s
def mNewK : ME := fun s => .ok (.o (.dK [])) s
/-- d[k] = v, d in slot i -/
def putC (c : C) (k v : D) : Option C := match c with
  | .dK l => match keyOf k with
    | some q => if l.length < sizeLine then some (.dK (dPut l q v)) else none
    | none => none
  | .dT l => match k with
    | .tuple ks => match keysOf ks with
      | some q => if l.length < sizeLine then some (.dT (dPut l q v)) else none
      | none => none
    | _ => none
  | _ => none
def mPut (i : Nat) (mk mv : ME) : MS := fun s => match mv s with
  | .no => .no
  | .ok rv s1 => match s1.a[i]? with
    | some (some (.o _)) => match mk s1 with
      | .no => .no
      | .ok rk s2 => match takes s2 [rv, rk] with
        | some ([v, k], s3) => match s3.a[i]? with
          | some (some (.o c)) => match putC c k v with
            | some c' => .ok .nx { s3 with a := s3.a.set i (some (.o c')) }
            | none => .no
          | _ => .no
        | _ => .no
    | _ => .no
section
variable {K : PySem.W.Frag} {F H : Hp}
theorem put_own {w : Wd} {i : Nat} {c c' : C} {k v : D} {a : Addr} {x y : V} (sub : Same w.F H) (h : Own K w H i c (.ref a)) (e : putC c k v = some c') (hk : Rep K w.F k y) (hv : Rep K w.F v x) :
    ∃ o, NT o ∧ w.O a = some i ∧ DPut H a y x (upd H a o) ∧ Own K w (upd H a o) i c' (.ref a) := by
  unfold putC at e
  split at e
  · rename_i l
    split at e
    · rename_i q eq
      split at e
      · rename_i hl
        cases e
        obtain ⟨b, ys, e1, h1, h2, h3⟩ := h
        cases e1
        rw [keyOf_rep eq hk]
        exact ⟨_, (fun _ h => by cases h), h1, DPut.k h2 (by rw [← RepM.length _ _ h3]; exact hl), a, _, rfl, h1, upd_same, RepM.put h3 hv⟩
      · cases e
    · cases e
  · rename_i l
    split at e
    · rename_i ks
      split at e
      · rename_i q eq
        split at e
        · rename_i hl
          cases e
          obtain ⟨b, ys, e1, h1, h2, h3⟩ := h
          cases e1
          simp only [Rep] at hk
          obtain ⟨p, us, rfl, h4, h5⟩ := hk
          rw [keysOf_rep _ _ _ eq h5] at h4
          exact ⟨_, (fun _ h => by cases h), h1, DPut.t h2 (sub _ _ h4) (by rw [← RepM.length _ _ h3]; exact hl), a, _, rfl, h1, upd_same, RepM.put h3 hv⟩
        · cases e
      · cases e
    · cases e
  · cases e
end
section
variable {X : Cx} {e ek value : Expr} {mk mv : ME} {i : Nat} {x : Str} {p pos pos' : Pos}
theorem re_newT : RE X (.Dict [] [] pos) mNewT := ⟨_, pe_dnewT, fun σ H w s t Q r s' ok e k => by
  cases e
  intro a ha
  exact k (w.give a t) _ _ (t + 1) t (Nat.le_refl _) (Nat.lt_succ_self _) (give_ok ok ha) (give_step ok ha) .refl ⟨a, [], rfl, if_pos rfl, upd_same, rfl⟩⟩
theorem re_newK : RE X (.Dict [] [] pos) mNewK := ⟨_, pe_dnewK, fun σ H w s t Q r s' ok e k => by
  cases e
  intro a ha
  exact k (w.give a t) _ _ (t + 1) t (Nat.le_refl _) (Nat.lt_succ_self _) (give_ok ok ha) (give_step ok ha) .refl ⟨a, [], rfl, if_pos rfl, upd_same, rfl⟩⟩
theorem rs_put (i : Nat) {n : Nat} (hr : Here X n) (hk : RE X ek mk) (hv : RE X value mv) (hN : X.N[i]? = some x := by rfl) (hvis : Vis X.env.scope x := by first | exact Or.inl rfl | exact Or.inr (Or.inl rfl) | exact Or.inr (Or.inr rfl)) (hd : (x == ("__debug__" : Str)) = false := by decide) (hcd : (x == ("__classdict__" : Str)) = false := by decide)
    (hs : swapsWith value (some (.Subscript (.Name x p) ek pos')) pos.line X.env = pure false := by rfl) : RS X (.Assign [.Subscript (.Name x p) ek pos'] value pos) (mPut i mk mv) := by
  obtain ⟨t1, p1, s1⟩ := hk
  obtain ⟨t2, p2, s2⟩ := hv
  refine ⟨_, ps_dput (by have := hr.rm.un; omega) (pe_var hN hvis hd hcd) p1 p2 hs, fun σ H w s D f s' ok e k => ?_⟩
  simp only [mPut] at e
  split at e
  · cases e
  · rename_i rv sa e1
    split at e
    · rename_i c0 h0
      split at e
      · cases e
      · rename_i rk sb e2
        split at e
        · rename_i v kk sc e3
          split at e
          · rename_i c h1
            split at e
            · rename_i c' e4
              cases e
              refine s2 σ H w s _ _ rv sa ok e1 fun w1 H1 u t1 τ a1 a2 ok1 st1 sl1 rel1 => ?_
              have l1 := ok.slen ok1
              have tN := ok1.tN
              have hi := (List.getElem?_eq_some_iff.mp h0).1
              obtain ⟨z, hz⟩ : ∃ z, σ[i]? = some z := ⟨σ[i]'(by rw [ok1.len]; exact hi), by simp [ok1.len, hi]⟩
              obtain ⟨z', rfl, hown⟩ := ok1.sl i _ _ h0 hz
              refine ⟨z', hz, ?_⟩
              refine s1 σ H1 w1 sa t1 _ rk sb ok1 e2 fun w2 H2 y t2 τ2 b1 b2 ok2 st2 sl2 rel2 => ?_
              have l2 := ok1.slen ok2
              have relA := RelR.keep ok1 rel1 st2 (by omega) (by omega) sl2
              obtain ⟨w3, ok3, st3, rep, sl3, l3⟩ := takes_ok (hi := t2) (t0 := s.a.length) [rv, rk] [u, y] _ _ _ w2 s.a.length ok2 ⟨u, _, τ, rfl, a1, by omega, relA, y, _, τ2, rfl, by omega, b2, rel2, rfl⟩ e3 (Nat.le_refl _) (by omega)
              simp only [RepL] at rep
              obtain ⟨_, _, eu, rv', _, _, ey, rk', er⟩ := rep
              cases eu
              cases ey
              obtain ⟨z2, ez, hown2⟩ := ok3.sl i _ _ h1 hz
              cases ez
              obtain ⟨a, ea⟩ : ∃ a, z' = .ref a := by
                cases c with
                | lst _ => obtain ⟨a, _, e, _⟩ := hown2; exact ⟨a, e⟩
                | dK _ => obtain ⟨a, _, e, _⟩ := hown2; exact ⟨a, e⟩
                | dT _ => obtain ⟨a, _, e, _⟩ := hown2; exact ⟨a, e⟩
              subst ea
              obtain ⟨o, nt, hO, put, own'⟩ := put_own ok3.sub hown2 e4 rk' rv'
              obtain ⟨ok4, st4, sl4⟩ := slot_mut ok3 h1 hz hO nt own'
              rw [l1] at l2 st2
              rw [l2] at st3 l3
              rw [l3] at st4
              refine ⟨a, _, rfl, put, ?_⟩
              refine k.nx rfl σ _ _ (drop_ok ok4 (by simp [l3])) (by simp [l3]) ?_
              exact (((st1.trans (st2.mono (by omega))).trans st3).trans (st4.mono (by have := ok3.tN; omega))).trans drop_step
            · cases e
          · cases e
        · cases e
    · cases e
end
end Qz
/-! sorted(..) of tuples of ints, of any lengths but none; of ints -/
namespace SrtQ
open PySem PyProof.Rows HT
section
variable {prog : Program} {w : World} {A : Around} {E : Value → Shared → Prop} {s : Shared}
theorem lexI_kat {fin : Bool} {Q : Bool → Shared → Prop} : ∀ {vs us : List Value} {ns ms : List Int} (i : Nat), IntsAre vs ns → IntsAre us ms → fin = decide (ns.length < ms.length) → Q (lexLt ns ms) s → PySem.W.KatLex prog w A true fin Q (vs.zip us) i s
  | [], us, [], ms, i, .nil, h2, e, q => by
    rw [List.zip_nil_left]
    refine PySem.W.kat_nil ?_
    cases h2 with
    | nil => rw [lexLt_nil_nil] at q; rw [e]; exact q
    | cons m t h2 => rw [lexLt_nil_cons] at q; rw [e]; exact q
  | _ :: _, [], _ :: _, [], i, .cons n t h1, .nil, e, q => by
    rw [List.zip_nil_right]
    refine PySem.W.kat_nil ?_
    rw [lexLt_cons_nil] at q; rw [e]; exact q
  | _ :: vs, _ :: us, _ :: ns, _ :: ms, i, .cons n t h1, .cons m u h2, e, q => by
    rw [List.zip_cons_cons]
    rw [lexLt_cons] at q
    refine PySem.W.kat_cons (SeqAt.EqAt.int_int n t m u prog w _ _ ?_)
    refine PySem.W.kat_go (fun e1 => ?_) (fun e1 => ?_)
    · have ex : n = m := by simpa using e1
      rw [if_pos ex] at q
      exact PySem.W.kat_yes (lexI_kat (i + 1) h1 h2 (by rw [e]; simp) q)
    · have ex : ¬ n = m := by simpa using e1
      rw [if_neg ex] at q
      exact PySem.W.kat_no (TS.oneLt_ints _ q)
theorem tups_cmp {vs : List Value} {k : Value → List Int} (hp : ∀ v ∈ vs, TS.TupInts s.heap v (k v)) : SrtO.Cmp prog w A s (tuples' true) (fun p => p.1 ∈ vs) (SrtO.lt2 fun v u => lexLt (k v) (k u)) := by
  intro p q hm hm'
  obtain ⟨a, xs, e, ⟨o, ho, hc, n, hd⟩, i⟩ := hp _ hm
  obtain ⟨a', xs', e', ⟨o', ho', hc', n', hd'⟩, i'⟩ := hp _ hm'
  show wpAny (model prog w) A (keyLt' (tuples' true) p.1 q.1) (fun r s' => s' = s ∧ r = lexLt (k p.1) (k q.1)) (fun _ _ => False) s
  generalize k p.1 = ns at i ⊢
  generalize k q.1 = ms at i' ⊢
  rw [e, e']
  refine PySem.W.kat_lt ho hd ho' hd' (lexI_kat 0 i i' ?_ ⟨rfl, rfl⟩)
  rw [← i.length, ← i'.length]; simp
theorem firsts {h : Heap} {k : Value → List Int} : ∀ vs : List Value, (∀ v ∈ vs, TS.TupInts h v (k v) ∧ k v ≠ []) → ∃ fs, PySem.W.KatTups h vs fs ∧ fs.length = vs.length ∧ ∀ f, f ∈ fs → ∃ n t, f = Value.int n t
  | [], _ => ⟨[], .nil, rfl, fun f hf => by simp at hf⟩
  | v :: vs, x => by
    obtain ⟨fs, q1, hl, hi⟩ := firsts vs fun u hu => x u (List.mem_cons_of_mem _ hu)
    obtain ⟨⟨a, xs, rfl, ⟨o, ho, hc, n, hdt⟩, i⟩, hn⟩ := x v List.mem_cons_self
    revert i
    generalize k (.ref a) = ns at hn
    intro i
    cases ns with
    | nil => exact absurd rfl hn
    | cons m ms =>
      obtain ⟨y, ys, e⟩ : ∃ y ys, xs.toList = y :: ys := by
        cases q : xs.toList with
        | nil => rw [q] at i; cases i
        | cons y ys => exact ⟨y, ys, rfl⟩
      rw [e] at i
      cases i with
      | cons _ t _ =>
        have e2 : xs = (Value.int m t :: ys).toArray := by rw [← e]
        refine ⟨.int m t :: fs, PySem.W.KatTups.cons ho hc (e2 ▸ hdt) rfl q1, by simp [hl], fun f hf => ?_⟩
        rcases List.mem_cons.mp hf with rfl | hf
        · exact ⟨m, t, rfl⟩
        · exact hi f hf
theorem tups_sortable {a : Addr} {vs : List Value} {k : Value → List Int} (h0 : 0 < vs.length) (hp : ∀ v ∈ vs, TS.TupInts s.heap v (k v) ∧ k v ≠ []) (ha : ∀ o, s.heap.get? a = some o → o.cls ≠ .type "tuple") : SrtO.SortableO prog w A s a vs fun v u => lexLt (k v) (k u) := by
  intro h' keep
  have hp' : ∀ v ∈ vs, TS.TupInts h' v (k v) ∧ k v ≠ [] := fun v hm => ⟨(hp v hm).1.keeps fun b o e c => keep b o (fun z => by subst z; exact ha o e c) e, (hp v hm).2⟩
  obtain ⟨fs, h1, h2, h3⟩ := firsts vs hp'
  refine ⟨tuples' true, fun Q E hq => ?_, tups_cmp fun v hv => (hp' v hv).1⟩
  refine PySem.W.kat_kind (T := .type "int") h1 (by omega) (fun f hm => ?_) (by rfl) ?_
  · obtain ⟨x, t, rfl⟩ := h3 f hm
    exact PySem.W.Looks.now
  · have e : (Value.type "int" != Value.type "tuple") = true := by first | decide +kernel | rfl | decide
    rw [e]
    exact hq
theorem sorted_tupsL {l : Addr} {vs : List Value} {k : Value → List Int} {Q : Value → Shared → Prop} (hl : s.heap.IsList l vs.toArray) (hz : vs.length ≤ sizeLine) (hp : ∀ v ∈ vs, TS.TupInts s.heap v (k v) ∧ k v ≠ [])
    (h : ∀ (h' : Heap) (d : Addr) (out : List Value), SrtO.Srtd (fun v u => lexLt (k v) (k u)) out → SrtO.Stb (fun v u => lexLt (k v) (k u)) out vs → (∀ b o, s.heap.get? b = some o → h'.get? b = some o) → s.heap.objs.size ≤ d → (∃ n, h'.get? d = some (seqObj "list" out.toArray n)) → Q (.ref d) { s with heap := h' }) :
    wpAny (model prog w) A (call (.builtin "sorted") [.ref l]) Q E s := by
  refine SrtO.sorted_ord (NtL.swo_lexL k) hl hz (fun h2 h₁ a ha kk => ?_) fun out hs hb => ?_
  · refine tups_sortable (s := { s with heap := h₁ }) (by omega) (fun v hm => ⟨(hp v hm).1.keeps fun b o e _ => (kk b o e).2, (hp v hm).2⟩) fun o e => ?_
    have e' := e.symm.trans ha
    cases e'
    intro c
    exact absurd (Value.type.inj c) (by decide)
  · exact h _ _ out hs hb (fun b o e => sortedAll_old e) (Nat.le_succ _) (sortedAll_at s.heap vs out.toArray)
end
end SrtQ
namespace Qz
open PySem PySem.Spec L2
open PyProof.Rows hiding St
def rSortedTI (K : PySem.W.Frag) : List V → Hp → VK → Prop := fun vs H Q => ∃ (a : Addr) (xs : List V) (k : V → List Int), vs = [V.ref a] ∧ SqL K H a xs ∧ (∀ x ∈ xs, (∃ t, x = V.ref t ∧ H t = some (.tup ((k x).map V.int))) ∧ k x ≠ []) ∧
  ∀ ys p, SrtO.Srtd (fun x y => HT.lexLt (k x) (k y)) ys → SrtO.Stb (fun x y => HT.lexLt (k x) (k y)) ys xs → H p = none → Q (.ref p) (upd H p (.lst ys))
theorem cr_sortedTI {X : Cx} : CallR X (.builtin "sorted") (rSortedTI X.K) := by
  intro pins s σ H vs us Q I r h
  obtain ⟨a, xs, k, rfl, hs, hx, q⟩ := h
  obtain ⟨its, rv, hl, hz⟩ := I.list hs
  obtain ⟨u, rfl, ru⟩ := vals1 r
  obtain rfl : u = Value.ref a := ru
  obtain ⟨e1, e2⟩ := refs_back rv fun x m => by
    obtain ⟨⟨t, e, _⟩, _⟩ := hx x m
    exact ⟨t, e⟩
  refine SrtQ.sorted_tupsL (k := fun u => k (backV u)) hl.isList (by rw [← rv.length]; exact hz) (fun v hv => ?_) fun h' d out h1 h2 kp hd hn => ?_
  · obtain ⟨t, rfl⟩ := e2 v hv
    have hm : V.ref t ∈ xs := by rw [e1]; exact List.mem_map.mpr ⟨_, hv, rfl⟩
    obtain ⟨⟨t', e, ht⟩, hne⟩ := hx _ hm
    cases e
    obtain ⟨_, its2, r2, o, ho, hc, n, hd⟩ := I.hok _ _ ht
    exact ⟨⟨t, its2.toArray, rfl, ⟨o, ho, hc, n, hd⟩, show IntsAre its2.toArray.toList (k (V.ref t)) by simpa using ints_vals r2⟩, hne⟩
  · have h3 : ∀ u ∈ out, ∃ a, u = Value.ref a := fun u hu => e2 u (h2.perm.mem_iff.mp hu)
    obtain ⟨n, hn⟩ := hn
    have hb : SrtO.Stb (fun x y => HT.lexLt (k x) (k y)) (out.map backV) xs := by
      rw [e1]
      exact SrtO.Stb.map (NtL.swo_lexL k) backV h2
    refine ⟨.ref d, upd H d (.lst (out.map backV)), I.laid (t' := s.toks) kp hd ⟨?_, out, n, vals_back h3, hn⟩, rfl, q _ d (SrtO.srtd_map h1) hb (I.hok.fresh hd)⟩
    rw [hb.len]
    exact hz

/-! ## the sorted list of lists of ints -/
def insI (x : List Int) : List (List Int) → List (List Int)
  | [] => [x]
  | y :: r => if HT.lexLt y x then y :: insI x r else x :: y :: r
def sortI : List (List Int) → List (List Int)
  | [] => []
  | x :: r => insI x (sortI r)
theorem insI_perm (x : List Int) : ∀ l, (insI x l).Perm (x :: l)
  | [] => .refl _
  | y :: r => by
    simp only [insI]
    split
    · exact ((insI_perm x r).cons y).trans (.swap x y r)
    · exact .refl _
theorem sortI_perm : ∀ l, (sortI l).Perm l
  | [] => .refl _
  | x :: r => (insI_perm x _).trans ((sortI_perm r).cons x)
theorem insI_srtd (x : List Int) : ∀ l, SrtO.Srtd HT.lexLt l → SrtO.Srtd HT.lexLt (insI x l)
  | [], _ => List.pairwise_singleton _ _
  | y :: r, h => by
    simp only [insI]
    obtain ⟨h1, h2⟩ := List.pairwise_cons.mp h
    split
    · rename_i hy
      refine List.pairwise_cons.mpr ⟨fun z hz => ?_, insI_srtd x r h2⟩
      rcases List.mem_cons.mp ((insI_perm x r).mem_iff.mp hz) with rfl | hz
      · exact NtL.lex_asym _ _ hy
      · exact h1 z hz
    · rename_i hy
      have hy : HT.lexLt y x = false := by simpa using hy
      refine List.pairwise_cons.mpr ⟨fun z hz => ?_, h⟩
      rcases List.mem_cons.mp hz with rfl | hz
      · exact hy
      · exact NtL.lex_tr x y z hy (h1 z hz)
theorem sortI_srtd : ∀ l, SrtO.Srtd HT.lexLt (sortI l)
  | [] => List.Pairwise.nil
  | x :: r => insI_srtd x _ (sortI_srtd r)
theorem lex_anti : ∀ xs ys : List Int, HT.lexLt xs ys = false → HT.lexLt ys xs = false → xs = ys
  | [], [], _, _ => rfl
  | [], _ :: _, h, _ => by rw [HT.lexLt_nil_cons] at h; cases h
  | _ :: _, [], _, h => by rw [HT.lexLt_nil_cons] at h; cases h
  | x :: xs, y :: ys, h1, h2 => by
    rw [HT.lexLt_cons] at h1 h2
    by_cases e : x = y
    · rw [if_pos e] at h1
      rw [if_pos e.symm] at h2
      rw [e, lex_anti xs ys h1 h2]
    · rw [if_neg e] at h1
      rw [if_neg (Ne.symm e)] at h2
      have a := of_decide_eq_false h1
      have b := of_decide_eq_false h2
      omega
theorem sorted_one : ∀ {l m : List (List Int)}, SrtO.Srtd HT.lexLt l → SrtO.Srtd HT.lexLt m → l.Perm m → l = m
  | [], m, _, _, h => (List.Perm.eq_nil h.symm).symm
  | x :: l, [], _, _, h => absurd h.length_eq (by simp)
  | x :: l, y :: m, hl, hm, h => by
    have h1 : HT.lexLt x y = false := by
      rcases List.mem_cons.mp (h.mem_iff.mp (List.mem_cons_self (a := x) (l := l))) with e | hx
      · rw [e]; exact (NtL.swo_lexL fun z : List Int => z).refl y
      · exact SrtO.srtd_head hm x hx
    have h2 : HT.lexLt y x = false := by
      rcases List.mem_cons.mp (h.mem_iff.mpr (List.mem_cons_self (a := y) (l := m))) with e | hy
      · rw [e]; exact (NtL.swo_lexL fun z : List Int => z).refl x
      · exact SrtO.srtd_head hl y hy
    have e := lex_anti x y h1 h2
    subst e
    rw [sorted_one (List.pairwise_cons.mp hl).2 (List.pairwise_cons.mp hm).2 h.cons_inv]
/-- an int, or a tuple of ints that is not empty -/
def intsD? : List D → Option (List Int)
  | [] => some []
  | .int i :: r => (intsD? r).map (i :: ·)
  | _ => none
def tupI? : D → Option (List Int)
  | .tuple ds => match intsD? ds with
    | some (i :: r) => some (i :: r)
    | _ => none
  | _ => none
def tupsI? : List D → Option (List (List Int))
  | [] => some []
  | d :: r => match tupI? d with
    | none => none
    | some x => (tupsI? r).map (x :: ·)
def dTupI (ns : List Int) : D := .tuple (ns.map .int)
def fSorted : List D → Option R
  | [.list ds] => match tupsI? ds with
    | some ls => some (.o (.lst ((sortI ls).map dTupI)))
    | none => match intsD? ds with
      | some ns => some (.o (.lst ((sortI (ns.map fun i => [i])).map fun l => .int (l.headD 0))))
      | none => none
  | _ => none
section
variable {K : PySem.W.Frag} {F : Hp}
theorem intsD_eq : ∀ {ds : List D} {ns : List Int}, intsD? ds = some ns → ds = ns.map .int
  | [], _, e => by cases e; rfl
  | .int i :: r, _, e => by
    simp only [intsD?, Option.map_eq_some_iff] at e
    obtain ⟨ns, e1, rfl⟩ := e
    rw [intsD_eq e1]; rfl
theorem ints_rep : ∀ (ns : List Int) (xs : List V), RepL K F (ns.map .int) xs → xs = ns.map .int
  | [], _, h => by simpa only [List.map_nil, RepL] using h
  | i :: ns, _, h => by
    simp only [List.map_cons, RepL, Rep] at h
    obtain ⟨x, r, rfl, rfl, h2⟩ := h
    rw [ints_rep ns r h2]; rfl
theorem rep_ints' : ∀ ns : List Int, RepL K F (ns.map .int) (ns.map V.int)
  | [] => .nil
  | i :: ns => .cons (by simp only [Rep]) (rep_ints' ns)
theorem tupI_eq {d : D} {ns : List Int} (e : tupI? d = some ns) : d = dTupI ns ∧ ns ≠ [] := by
  unfold tupI? at e
  split at e
  · split at e
    · rename_i i r h
      cases e
      exact ⟨by unfold dTupI; rw [intsD_eq h], by simp⟩
    · cases e
  · cases e
theorem tupsI_eq : ∀ {ds : List D} {ls : List (List Int)}, tupsI? ds = some ls → ds = ls.map dTupI ∧ ∀ l ∈ ls, l ≠ []
  | [], _, e => by cases e; exact ⟨rfl, by simp⟩
  | d :: r, _, e => by
    simp only [tupsI?] at e
    split at e
    · cases e
    · rename_i x e1
      simp only [Option.map_eq_some_iff] at e
      obtain ⟨ls, e2, rfl⟩ := e
      obtain ⟨a1, a2⟩ := tupI_eq e1
      obtain ⟨b1, b2⟩ := tupsI_eq e2
      refine ⟨by rw [a1, b1]; rfl, fun l hl => ?_⟩
      rcases List.mem_cons.mp hl with rfl | hl
      · exact a2
      · exact b2 l hl
/-- the numbers at a place -/
def kAt (F : Hp) : V → List Int
  | .ref a => match F a with
    | some (.tup xs) => xs.map fun v => match v with
      | .int i => i
      | _ => 0
    | _ => []
  | _ => []
theorem kAt_of {a : Addr} {ns : List Int} (h : F a = some (.tup (ns.map V.int))) : kAt F (.ref a) = ns := by
  simp only [kAt, h, List.map_map]
  exact (List.map_congr_left fun _ _ => rfl).trans (List.map_id ns)
theorem rep_tupI {ns : List Int} {x : V} (h : Rep K F (dTupI ns) x) : ∃ a, x = .ref a ∧ F a = some (.tup (ns.map V.int)) := by
  simp only [dTupI, Rep] at h
  obtain ⟨a, xs, e, h1, h2⟩ := h
  rw [ints_rep ns xs h2] at h1
  exact ⟨a, e, h1⟩
theorem reps_tupI : ∀ (ls : List (List Int)) (xs : List V), RepL K F (ls.map dTupI) xs → xs.map (kAt F) = ls ∧ ∀ x ∈ xs, ∃ a, x = .ref a ∧ F a = some (.tup ((kAt F x).map V.int))
  | [], _, h => by simp only [List.map_nil, RepL] at h; subst h; exact ⟨rfl, by simp⟩
  | l :: ls, _, h => by
    simp only [List.map_cons, RepL] at h
    obtain ⟨x, r, rfl, h1, h2⟩ := h
    obtain ⟨a, rfl, h3⟩ := rep_tupI h1
    obtain ⟨q1, q2⟩ := reps_tupI ls r h2
    refine ⟨by rw [List.map_cons, q1, kAt_of h3], fun y hy => ?_⟩
    rcases List.mem_cons.mp hy with rfl | hy
    · exact ⟨a, rfl, by rw [kAt_of h3]; exact h3⟩
    · exact q2 y hy
theorem tupI_reps : ∀ xs : List V, (∀ x ∈ xs, ∃ a, x = .ref a ∧ F a = some (.tup ((kAt F x).map V.int))) → RepL K F ((xs.map (kAt F)).map dTupI) xs
  | [], _ => .nil
  | x :: xs, h => by
    refine .cons ?_ (tupI_reps xs fun y hy => h y (List.mem_cons_of_mem _ hy))
    obtain ⟨a, e, h1⟩ := h x List.mem_cons_self
    simp only [dTupI, Rep]
    exact ⟨a, _, e, h1, rep_ints' _⟩
theorem sortI_singles {ns ns' : List Int} (hp : ns'.Perm ns) (hs : ns'.Pairwise (· ≤ ·)) : (sortI (ns.map fun i => [i])).map (fun l => l.headD 0) = ns' := by
  have e : sortI (ns.map fun i => [i]) = ns'.map fun i => [i] := by
    refine sorted_one (sortI_srtd _) (List.pairwise_map.mpr (hs.imp fun {x y} h => ?_)) ((sortI_perm _).trans (hp.symm.map _))
    rw [HT.lexLt_cons]
    by_cases e : y = x
    · rw [if_pos e]; exact HT.lexLt_nil_nil
    · rw [if_neg e]; exact decide_eq_false (by omega)
  rw [e, List.map_map]
  exact (List.map_congr_left fun _ _ => rfl).trans (List.map_id ns')
theorem s_sorted : BltS K (fun us H Q => rSortedTI K us H Q ∨ rSortedI K us H Q) fSorted := by
  intro w H σ s t us xs r Q ok vw e k
  unfold fSorted at e
  split at e
  · rename_i ds
    obtain ⟨u, rfl, v⟩ := vw.one
    obtain ⟨a, ys, rfl, h1, h2⟩ := v.lst ok.sub
    have give : ∀ (zs : List V) (es : List D) (p : Addr), H p = none → RepL K w.F es zs → r = .o (.lst es) → Q (.ref p) (upd H p (.lst zs)) := fun zs es p hp rep er => by
      subst er
      refine k (w.give p t) _ _ (give_ok ok hp) (give_step ok hp) ?_
      exact ⟨p, zs, rfl, if_pos rfl, upd_same, rep⟩
    split at e
    · rename_i ls e1
      cases e
      obtain ⟨rfl, ne⟩ := tupsI_eq e1
      obtain ⟨q1, q2⟩ := reps_tupI ls ys h2
      refine .inl ⟨a, ys, kAt w.F, rfl, h1, fun x hx => ?_, fun zs p hs hb hp => give zs _ p hp ?_ rfl⟩
      · obtain ⟨b, e2, h3⟩ := q2 x hx
        exact ⟨⟨b, e2, ok.sub _ _ h3⟩, ne _ (by rw [← q1]; exact List.mem_map_of_mem hx)⟩
      · have e3 : sortI ls = zs.map (kAt w.F) := by
          refine sorted_one (sortI_srtd _) (List.pairwise_map.mpr hs) ((sortI_perm ls).trans ?_)
          rw [← q1]
          exact (hb.perm.map _).symm
        rw [e3]
        exact tupI_reps zs fun x hx => q2 x (hb.perm.mem_iff.mp hx)
    · split at e
      · rename_i ns e1
        cases e
        rw [intsD_eq e1] at h2
        rw [ints_rep ns ys h2] at h1
        refine .inr ⟨a, ns, rfl, h1, fun ns' p hp hs hq => give _ _ p hq (rep_ints' ns') ?_⟩
        have := sortI_singles hp hs
        rw [← this, List.map_map]; rfl
      · cases e
  · cases e
variable {X : Cx} {e : Expr} {ms : MA} {p pos : Pos}
theorem re_sorted (hm : X.mg "sorted" = none) (ha : RA X [e] ms) (hg : Gl X "sorted" := by rfl) (he : starEach [e] X.env = (false, eval e X.env) :: starEach [] X.env := by rfl) : RE X (.Call (.Name "sorted" p) [e] [] pos) (mBlt fSorted ms) :=
  re_blt (cr_sortedTI.or cr_sortedI) s_sorted hm (by decide +kernel) ha hg (by decide) (by decide) he rfl
theorem re_min (hc : X.calm = true) {e2 : Expr} (hm : X.mg "min" = none) (ha : RA X [e, e2] ms) (hg : Gl X "min" := by rfl) (he : starEach [e, e2] X.env = (false, eval e X.env) :: starEach [e2] X.env := by rfl) (hpl : (backTo pos (starEach [e2] X.env)).any (·.1) = false := by rfl) : RE X (.Call (.Name "min" p) [e, e2] [] pos) (mBlt fMin2 ms) :=
  re_blt (call_min2 hc) s_min2 hm (by decide +kernel) ha hg (by decide) (by decide) he hpl
theorem re_max (hc : X.calm = true) {e2 : Expr} (hm : X.mg "max" = none) (ha : RA X [e, e2] ms) (hg : Gl X "max" := by rfl) (he : starEach [e, e2] X.env = (false, eval e X.env) :: starEach [e2] X.env := by rfl) (hpl : (backTo pos (starEach [e2] X.env)).any (·.1) = false := by rfl) : RE X (.Call (.Name "max" p) [e, e2] [] pos) (mBlt fMax2 ms) :=
  re_blt (call_max2 hc) s_max2 hm (by decide +kernel) ha hg (by decide) (by decide) he hpl
end
end Qz
/-! t[::-1] of a tuple -/
namespace RevQ
open PySem PySem.Spec PyProof.Rows HT L2
section
variable {prog : Program} {w : World} {A : Around} {E : Value → Shared → Prop} {s : Shared}
theorem adjust_rev (n : Nat) : Builtin.Slice.sliceAdjust none none (-1) (n : Int) = ((n : Int) - 1, -1) := rfl
theorem places_rev (n : Nat) : Builtin.Slice.slicePlaces ((n : Int) - 1) (-1) (-1) = n := by
  unfold Builtin.Slice.slicePlaces
  rw [if_neg (by omega)]
  split
  · have : ((n : Int) - 1 - -1 - 1) / - -1 + 1 = n := by
      have e : (- -1 : Int) = 1 := by omega
      rw [e, Int.ediv_one]; omega
    rw [this]; simp
  · simp; omega
theorem applied_rev {sl : Addr} {vl vu vs : Value} {n : Nat} {Q : Int × Int × Nat → Shared → Prop} (hs : s.heap.IsSliceOf sl vl vu vs) (pl : IsPart vl none) (pu : IsPart vu none) (ps : IsPart vs (some (-1)))
    (h : Q ((n : Int) - 1, -1, n) s) : wpAny (model prog w) A (Builtin.Slice.sliceApplied (.ref sl) (pure (n : Int))) Q E s := by
  obtain ⟨os, hos, hcs, hds⟩ := id hs
  unfold Builtin.Slice.sliceApplied Builtin.Slice.sliceFields
  refine wpAny_bind (wpAny_bind (wpAny_field hos hds (x := vl) rfl (wpAny_bind (wpAny_field hos hds (x := vu) rfl (wpAny_bind (wpAny_field hos hds (x := vs) rfl (wpAny_pure ?_)))))))
  refine wpAny_bind (slicePart_ ps ?_)
  show wpAny _ _ (if ((-1 : Int) == 0) = true then _ else _) _ _ s
  rw [if_neg (by decide)]
  refine wpAny_bind (slicePart_ pl (wpAny_bind (slicePart_ pu (wpAny_bind (wpAny_pure ?_)))))
  show wpAny _ _ (match Builtin.Slice.sliceAdjust none none (-1) (n : Int) with | (lo, hi) => pure (lo, (-1 : Int), Builtin.Slice.slicePlaces lo hi (-1))) _ _ s
  rw [adjust_rev]
  show wpAny _ _ (pure (((n : Int) - 1), (-1 : Int), Builtin.Slice.slicePlaces ((n : Int) - 1) (-1) (-1))) _ _ s
  rw [places_rev]
  exact wpAny_pure h
theorem pick_rev (xs : Array Value) : ((List.range xs.size).filterMap fun (m : Nat) => xs[(((xs.size : Int) - 1) + (m : Int) * -1).toNat]?).toArray = xs.toList.reverse.toArray := by
  congr 1
  have e : ∀ l : List Nat, (∀ m ∈ l, m < xs.size) → l.filterMap (fun (m : Nat) => xs[(((xs.size : Int) - 1) + (m : Int) * -1).toNat]?) = l.filterMap fun m => xs.toList.reverse[m]? := fun l => by
    induction l with
    | nil => intro _; rfl
    | cons m l ih =>
      intro h
      have hm := h m List.mem_cons_self
      have e1 : (((xs.size : Int) - 1) + (m : Int) * -1).toNat = xs.size - 1 - m := by omega
      have e2 : xs[(((xs.size : Int) - 1) + (m : Int) * -1).toNat]? = xs.toList.reverse[m]? := by
        rw [e1, List.getElem?_reverse (by simpa using hm)]
        simp
      rw [List.filterMap_cons, List.filterMap_cons, ih fun z hz => h z (List.mem_cons_of_mem _ hz), e2]
  rw [e _ fun m hm => by simpa using hm]
  have : ∀ l : List Value, (List.range l.length).filterMap (fun m => l[m]?) = l := fun l => by
    induction l with
    | nil => rfl
    | cons x l ih =>
      rw [List.length_cons, List.range_succ_eq_map, List.filterMap_cons, List.filterMap_map]
      show x :: List.filterMap (fun m => (x :: l)[m + 1]?) _ = _
      simp only [List.getElem?_cons_succ]
      rw [ih]
  have z := this xs.toList.reverse
  rw [List.length_reverse, Array.length_toList] at z
  exact z
theorem getItem_rev {t sl : Addr} {items : Array Value} {vl vu vs : Value} {Q : Value → Shared → Prop} (ht : IsTup s.heap t items) (hs : s.heap.IsSliceOf sl vl vu vs) (pl : IsPart vl none) (pu : IsPart vu none) (ps : IsPart vs (some (-1)))
    (h : Q (.ref s.heap.objs.size) { s with heap := s.heap.push { cls := .type "tuple", data := .seq items.toList.reverse.toArray } }) (hsz : items.size ≤ sizeLine) : wpAny (model prog w) A (getItem (.ref t) (.ref sl)) Q E s := by
  have htake : sizeOk (.seq items.toList.reverse.toArray) := by
    show items.toList.reverse.toArray.size ≤ sizeLine
    rw [List.size_toArray, List.length_reverse, Array.length_toList]
    exact hsz
  obtain ⟨os, hos, hcs, hds⟩ := id hs
  have hTs : s.TypeIs (.ref sl) "slice" := ⟨os, hos, hcs⟩
  unfold getItem
  try with_reducible refine wpAny_holding ?_
  first | refine wpAny_bind (wpAny_pure ?_) | skip
  refine wpAny_bind (wpAny_sequenceKey ht.typeIs (by decide) ?_)
  refine wpAny_bind (wpAny_callSpecial?_slot (name := Str.ofString "__getitem__") ht.typeIs PyProof.Rows.slot_tuple_getitem
    (wpAny_call_entry PyProof.Rows.slot_tuple_getitem ht.typeIs entry_tuple_getitem ?_ (args_tuple_getitem _ _)))
  show wpAny _ _ (Builtin.Tuple.tupleItemsOf (.ref t) >>= _) _ _ s
  refine wpAny_bind (tupleItemsOf_ ht ?_)
  refine wpAny_bind (wpAny_typeOf hTs ?_)
  rw [if_pos (by decide)]
  refine wpAny_bind (applied_rev hs pl pu ps ?_)
  have hno : ¬ (((items.size : Int) - 1 == 0 && (-1 : Int) == 1 && items.size == items.size) = true) := by simp
  show wpAny _ _ (if ((items.size : Int) - 1 == 0 && (-1 : Int) == 1 && items.size == items.size) = true then _ else _) _ _ s
  rw [if_neg hno, pick_rev]
  first
    | exact wpAny_bind (m := Builtin.Tuple.tupleExact _) (wpAny_newObj_type (wpAny_pure ⟨_, rfl, wpAny_pure h⟩) htake)
    | exact wpAny_bind (m := Builtin.Tuple.tupleExact _) (wpAny_newObj_type (wpAny_bind (wpAny_pure (wpAny_pure ⟨_, rfl, wpAny_pure h⟩))) htake)
    | exact wpAny_bind (wpAny_bind (m := Builtin.Tuple.tupleExact _) (wpAny_newObj_type (wpAny_pure (wpAny_pure ⟨_, rfl, wpAny_pure h⟩)) htake))
    | exact wpAny_bind (wpAny_bind (m := Builtin.Tuple.tupleExact _) (wpAny_newObj_type (wpAny_pure ⟨_, rfl, wpAny_pure h⟩) htake))
end
def tRevA (K : PySem.W.Frag) (te : TE) : TE := fun σ H Q => te σ H fun x H1 => ∃ a xs, x = .ref a ∧ ((SqL K H1 a xs ∧ ∀ p, H1 p = none → Q (.ref p) (upd H1 p (.lst xs.reverse))) ∨ (SqT K H1 a xs ∧ ∀ p, H1 p = none → Q (.ref p) (upd H1 p (.tup xs.reverse))))
theorem pe_revA {X : Cx} {e : Expr} {te : TE} {k : Nat} {p1 p2 p3 pos : Pos} (he : PE X e te) : PE X (.Subscript e (.Slice none none (some (.UnaryOp .USub (.Constant (.int 1) k p1) p2)) p3) pos) (tRevA X.K te) := by
  refine ⟨fun pins s σ H Q I h => ?_⟩
  refine Subscript_ (thn (he.run pins s σ H _ I h) fun v s1 ⟨x, H1, I1, r1, a, xs, ex, q1⟩ => ?_)
  subst ex
  cases r1
  have hst : PO X (some (.UnaryOp .USub (.Constant (.int 1) k p1) p2)) (tPart (tUn (rU fun i => .int (-i)) (tC (.int 1)))) := po_some (pe_un un_neg pe_int)
  refine wpAny_Slice (thn (po_none.run pins s1 σ H1 (fun o H2 => o = none ∧ H2 = H1) I1 ⟨rfl, rfl⟩) fun vl s2 ⟨l, H2, I2, pl, el, e2⟩ => ?_)
  subst el e2
  refine thn (po_none.run pins s2 σ H2 (fun o H3 => o = none ∧ H3 = H2) I2 ⟨rfl, rfl⟩) fun vu s3 ⟨u, H3, I3, pu, eu, e3⟩ => ?_
  subst eu e3
  refine thn (hst.run pins s3 σ H3 (fun o H4 => o = some (-1) ∧ H4 = H3) I3 ⟨1, rfl, -1, rfl, rfl, rfl⟩) fun vs s4 ⟨o, H4, I4, ps, eo, e4⟩ => ?_
  subst eo e4
  have I5 : Inv X pins σ H4 { s4 with heap := s4.heap.push { cls := .type "slice", data := .fields #[vl, vu, vs] } } := I4.kept (t' := s4.toks) fun b ob q => Heap.get?_push_of_some _ q
  show wpAny (model X.prog X.w) X.A (subscriptTail e (.Slice none none (some (.UnaryOp .USub (.Constant (.int 1) k p1) p2)) p3) (.ref a) (.ref s4.heap.objs.size)) (EP X pins σ Q) X.xe { s4 with heap := s4.heap.push { cls := .type "slice", data := .fields #[vl, vu, vs] } }
  rcases q1 with ⟨hx, q⟩ | ⟨hx, q⟩
  · obtain ⟨its, r, ht, hz⟩ := I5.list hx
    have hlen := r.length
    refine tail_any (ops := [.ref a, .ref s4.heap.objs.size]) ht.isList.typeIs (PySem.slot_list_getitem.lookup) ?_ (by with_unfolding_all rfl)
    refine wpAny_getItem_list_slice ht.isList (Heap.IsSliceOf.new _ vl vu vs) pl pu ps (by decide) ?_ (by rw [List.size_toArray]; omega)
    rw [PySem.W.krv_pick]
    refine ⟨.ref _, _, I5.laid (t' := s4.toks) (o := .lst xs.reverse) (fun b ob q => Heap.get?_push_of_some _ q) (Nat.le_refl _) ?_, rfl, q _ (I5.hok.fresh (Nat.le_refl _))⟩
    exact ⟨by rw [List.length_reverse]; exact hz, _, 0, r.reverse, Heap.get?_push_size _ rfl⟩
  · obtain ⟨its, r, ht, hz⟩ := I5.tuple hx
    have hlen := r.length
    refine tail_any (ops := [.ref a, .ref s4.heap.objs.size]) ht.typeIs (PyProof.Rows.slot_tuple_getitem.lookup) ?_ (by with_unfolding_all rfl)
    refine getItem_rev ht (Heap.IsSliceOf.new _ vl vu vs) pl pu ps ?_ (by rw [List.size_toArray]; omega)
    refine ⟨.ref _, _, I5.laid (t' := s4.toks) (o := .tup xs.reverse) (fun b ob q => Heap.get?_push_of_some _ q) (Nat.le_refl _) ?_, rfl, q _ (I5.hok.fresh (Nat.le_refl _))⟩
    exact ⟨by rw [List.length_reverse]; exact hz, its.reverse, r.reverse, ⟨_, Heap.get?_push_size _ rfl, rfl, 0, rfl⟩⟩
end RevQ
namespace Qz
open PySem PySem.Spec L2
open PyProof.Rows hiding St
def dRev : D → Option R
  | .list l => some (.o (.lst l.reverse))
  | .tuple l => some (.d (.tuple l.reverse))
  | _ => none
theorem RepL.reverse {K : PySem.W.Frag} {F : Hp} : ∀ (ds : List D) (xs : List V), RepL K F ds xs → RepL K F ds.reverse xs.reverse
  | [], _, h => by simp only [RepL] at h; subst h; exact .nil
  | d :: ds, _, h => by
    simp only [RepL] at h
    obtain ⟨x, r, rfl, h1, h2⟩ := h
    rw [List.reverse_cons, List.reverse_cons]
    exact RepL.append _ _ (RepL.reverse ds r h2) (.cons h1 .nil)
theorem re_rev {X : Cx} {e : Expr} {m : ME} {k : Nat} {p1 p2 p3 pos : Pos} (h : RE X e m) : RE X (.Subscript e (.Slice none none (some (.UnaryOp .USub (.Constant (.int 1) k p1) p2)) p3) pos) (mUn dRev m) := by
  obtain ⟨t1, p1, h1⟩ := h
  refine ⟨_, RevQ.pe_revA p1, fun σ H w s t Q r s' ok e k => ?_⟩
  simp only [mUn] at e
  split at e
  · cases e
  · rename_i r1 s1 e1
    split at e
    · cases e
    · rename_i x e2
      split at e
      · cases e
      · rename_i r' e3
        cases e
        refine h1 σ H w s t _ r1 _ ok e1 fun w1 H1 u t1 τ a1 a2 ok1 st1 sl1 rel1 => ?_
        have v := RelR.view ok1 rel1 e2
        have l := ok.slen ok1
        unfold dRev at e3
        split at e3
        · cases e3
          obtain ⟨a, ys, rfl, q1, q2⟩ := v.lst ok1.sub
          refine ⟨a, ys, rfl, .inl ⟨q1, fun p hp => ?_⟩⟩
          have st2 := give_step (n := s.a.length) (t0 := t1) (o := .lst ys.reverse) ok1 hp
          exact k (w1.give p t1) _ _ (t1 + 1) t1 (by omega) (Nat.lt_succ_self _) (give_ok ok1 hp) (st1.trans (st2.mono (by omega))) sl1 ⟨p, _, rfl, if_pos rfl, upd_same, RepL.reverse _ _ q2⟩
        · cases e3
          obtain ⟨a, ys, rfl, q1, q2⟩ := v.tup
          refine ⟨a, ys, rfl, .inr ⟨SqT.of (ok1.sub _ _ q1), fun p hp => ?_⟩⟩
          have st2 := lay_step (n := s.a.length) (t0 := t) (o := .tup ys.reverse) ok1 hp
          refine k (w1.lay p (.tup ys.reverse)) _ _ (t1 + 1) t1 (by omega) (Nat.lt_succ_self _) ((lay_ok ok1 hp).up (Nat.le_succ _)) (st1.trans st2) sl1 ?_
          simp only [RelR, Rep]
          exact ⟨p, _, rfl, upd_same, RepL.mono st2.F _ _ (RepL.reverse _ _ q2)⟩
        · cases e3

/-! ## the order of data -/
def ordOk (x y : D) : Bool := !x.hasDict && !y.hasDict && PySem.W.alike x y && !(isNoneD x) && decide (x.depth ≤ 100)
def dOrd (p : D → D → Bool) (x y : D) : Option R := if ordOk x y then some (.d (.bool (p x y))) else none
def rOrd (K : PySem.W.Frag) (p : D → D → Bool) : R2 := fun x y H Q => ∃ d e, Dp K H x d ∧ Dp K H y e ∧ PySem.W.alike d e = true ∧ d ≠ .none ∧ d.depth ≤ 100 ∧ Q (.bl (p d e)) H
def pLt (x y : D) : Bool := PySem.W.dataLt x y
def pGt (x y : D) : Bool := PySem.W.dataLt y x
def pLe (x y : D) : Bool := !PySem.W.dataLt y x
def pGe (x y : D) : Bool := !PySem.W.dataLt x y
def dLt : D → D → Option R
  | .int i, .int j => some (.d (.bool (decide (i < j))))
  | x, y => dOrd pLt x y
def dGt : D → D → Option R
  | .int i, .int j => some (.d (.bool (decide (j < i))))
  | x, y => dOrd pGt x y
def dLe : D → D → Option R
  | .int i, .int j => some (.d (.bool (decide (i ≤ j))))
  | x, y => dOrd pLe x y
def dGe : D → D → Option R
  | .int i, .int j => some (.d (.bool (decide (j ≤ i))))
  | x, y => dOrd pGe x y
section
variable {X : Cx} {k : Nat}
theorem Here.un (h : Here X k) : X.A.units + 100 < cLine := by have := h.rm.un; omega
theorem o_ltD (h : Here X k) : OpR X (compareOp .Lt) (rOrd X.K pLt) := by
  intro pins s σ H x y v u Q I rx ry ⟨d, e, hd, he, ha, hn, hz, q⟩
  obtain ⟨as, r1⟩ := Dp.reads I d x v hd rx
  obtain ⟨bs, r2⟩ := Dp.reads I e y u he ry
  exact PySem.W.lt_data r1 r2 ha hn (by have := h.un; omega) ⟨.bl _, H, I, rfl, q⟩
theorem o_gtD (h : Here X k) : OpR X (compareOp .Gt) (rOrd X.K pGt) := by
  intro pins s σ H x y v u Q I rx ry ⟨d, e, hd, he, ha, hn, hz, q⟩
  obtain ⟨as, r1⟩ := Dp.reads I d x v hd rx
  obtain ⟨bs, r2⟩ := Dp.reads I e y u he ry
  exact PySem.W.gt_data r1 r2 ha hn (by have := h.un; omega) ⟨.bl _, H, I, rfl, q⟩
theorem o_leD (h : Here X k) : OpR X (compareOp .LtE) (rOrd X.K pLe) := by
  intro pins s σ H x y v u Q I rx ry ⟨d, e, hd, he, ha, hn, hz, q⟩
  obtain ⟨as, r1⟩ := Dp.reads I d x v hd rx
  obtain ⟨bs, r2⟩ := Dp.reads I e y u he ry
  exact PySem.W.le_data r1 r2 ha hn (by have := h.un; omega) ⟨.bl _, H, I, rfl, q⟩
theorem o_geD (h : Here X k) : OpR X (compareOp .GtE) (rOrd X.K pGe) := by
  intro pins s σ H x y v u Q I rx ry ⟨d, e, hd, he, ha, hn, hz, q⟩
  obtain ⟨as, r1⟩ := Dp.reads I d x v hd rx
  obtain ⟨bs, r2⟩ := Dp.reads I e y u he ry
  exact PySem.W.ge_data r1 r2 ha hn (by have := h.un; omega) ⟨.bl _, H, I, rfl, q⟩
theorem s_ord {K : PySem.W.Frag} {p : D → D → Bool} : OpS K (rOrd K p) (dOrd p) := by
  intro w H σ s t u v x y r Q ok hx hy e k
  unfold dOrd at e
  split at e
  · rename_i hc
    cases e
    simp only [ordOk, Bool.and_eq_true, Bool.not_eq_true', decide_eq_true_eq] at hc
    obtain ⟨⟨⟨⟨h1, h2⟩, h3⟩, h4⟩, h5⟩ := hc
    exact ⟨x, y, hx.dp ok.sub h1, hy.dp ok.sub h2, h3, (fun z => by subst z; cases h4), h5, s_d ok k (by simp only [Rep])⟩
  · cases e
def rOrdI (K : PySem.W.Frag) (p : Int → Int → Bool) (q : D → D → Bool) : R2 := fun x y H Q => rI0 (fun i j => .bl (p i j)) x y H Q ∨ rOrd K q x y H Q
theorem s_ordI {K : PySem.W.Frag} {p : Int → Int → Bool} {q : D → D → Bool} {f : D → D → Option R} (h1 : ∀ i j, f (.int i) (.int j) = some (.d (.bool (p i j)))) (h2 : ∀ x y, (∀ i j, ¬ (x = .int i ∧ y = .int j)) → f x y = dOrd q x y) : OpS K (rOrdI K p q) f := by
  intro w H σ s t u v x y r Q ok hx hy e k
  by_cases hc : ∃ i j, x = .int i ∧ y = .int j
  · obtain ⟨i, j, rfl, rfl⟩ := hc
    rw [h1] at e
    cases e
    rw [hx.int, hy.int]
    exact .inl ⟨_, _, rfl, rfl, s_d ok k (by simp only [Rep])⟩
  · rw [h2 x y fun i j z => hc ⟨i, j, z⟩] at e
    exact .inr (s_ord w H σ s t u v x y r Q ok hx hy e k)
theorem o_lt (h : Here X k) : OpR X (compareOp .Lt) (rOrdI X.K (fun i j => decide (i < j)) pLt) := op_lt.or (o_ltD h)
theorem o_gt (h : Here X k) : OpR X (compareOp .Gt) (rOrdI X.K (fun i j => decide (j < i)) pGt) := op_gt.or (o_gtD h)
theorem o_le (h : Here X k) : OpR X (compareOp .LtE) (rOrdI X.K (fun i j => decide (i ≤ j)) pLe) := op_le.or (o_leD h)
theorem o_ge (h : Here X k) : OpR X (compareOp .GtE) (rOrdI X.K (fun i j => decide (j ≤ i)) pGe) := op_ge.or (o_geD h)
theorem s_lt {K : PySem.W.Frag} : OpS K (rOrdI K (fun i j => decide (i < j)) pLt) dLt := s_ordI (fun _ _ => rfl) fun x y h => by
  unfold dLt; split
  · exact absurd ⟨rfl, rfl⟩ (h _ _)
  · rfl
theorem s_gt {K : PySem.W.Frag} : OpS K (rOrdI K (fun i j => decide (j < i)) pGt) dGt := s_ordI (fun _ _ => rfl) fun x y h => by
  unfold dGt; split
  · exact absurd ⟨rfl, rfl⟩ (h _ _)
  · rfl
theorem s_le {K : PySem.W.Frag} : OpS K (rOrdI K (fun i j => decide (i ≤ j)) pLe) dLe := s_ordI (fun _ _ => rfl) fun x y h => by
  unfold dLe; split
  · exact absurd ⟨rfl, rfl⟩ (h _ _)
  · rfl
theorem s_ge {K : PySem.W.Frag} : OpS K (rOrdI K (fun i j => decide (j ≤ i)) pGe) dGe := s_ordI (fun _ _ => rfl) fun x y h => by
  unfold dGe; split
  · exact absurd ⟨rfl, rfl⟩ (h _ _)
  · rfl

/-! ## a op b op c -/
def mChain (f g : D → D → Option R) (m1 m2 m3 : ME) : ME := fun s => match m1 s with
  | .no => .no
  | .ok r1 s1 => match m2 s1 with
    | .no => .no
    | .ok r2 s2 => match view s2 r1, view s2 r2 with
      | some x, some y => match f x y with
        | some (.d (.bool false)) => .ok (.d (.bool false)) s2
        | some (.d (.bool true)) => match m3 s2 with
          | .no => .no
          | .ok r3 s3 => match view s3 r2, view s3 r3 with
            | some y', some z => match g y' z with
              | some r => .ok r s3
              | none => .no
            | _, _ => .no
        | _ => .no
      | _, _ => .no
theorem chain_snd {K : PySem.W.Frag} {t1 t2 t3 : TE} {rd rd' : R2} {f g : D → D → Option R} {m1 m2 m3 : ME} (h1 : SndE K t1 m1) (h2 : SndE K t2 m2) (h3 : SndE K t3 m3) (hf : OpS K rd f) (hg : OpS K rd' g) : SndE K (tChain rd rd' t1 t2 t3) (mChain f g m1 m2 m3) := by
  intro σ H w s t Q r s' ok e k
  simp only [mChain] at e
  split at e
  · cases e
  · rename_i r1 sa e1
    split at e
    · cases e
    · rename_i r2 sb e2
      refine h1 σ H w s t _ r1 sa ok e1 fun w1 H1 u t1 τ1 a1 a2 ok1 st1 sl1 rel1 => ?_
      refine h2 σ H1 w1 sa t1 _ r2 sb ok1 e2 fun w2 H2 v t2 τ2 b1 b2 ok2 st2 sl2 rel2 => ?_
      have l := ok.slen ok1
      have l2 := ok.slen ok2
      have tN := ok.tN
      have rel1' := RelR.keep ok1 rel1 st2 (by omega) (by omega) sl2
      rw [l] at st2
      have st12 := st1.trans (st2.mono (by omega))
      split at e
      · rename_i x y e3 e4
        split at e
        · rename_i e5
          cases e
          refine hf w2 H2 σ _ t2 u v x y _ _ ok2 (RelR.view ok2 rel1' e3) (RelR.view ok2 rel2 e4) e5 fun w3 H3 z ok3 st3 rel3 => ?_
          have rel3' := rel3
          simp only [RelR, Rep] at rel3'
          rw [l2] at st3
          exact ⟨false, rel3', iteF (k w3 H3 _ (t2 + 1) t2 (by omega) (Nat.lt_succ_self _) ok3 (st12.trans (st3.mono (by omega))) (sl1.trans sl2) (by simp only [RelR, Rep]))⟩
        · rename_i e5
          split at e
          · cases e
          · rename_i r3 sc e6
            split at e
            · rename_i y' z e7 e8
              split at e
              · rename_i r' e9
                cases e
                refine hf w2 H2 σ _ t2 u v x y _ _ ok2 (RelR.view ok2 rel1' e3) (RelR.view ok2 rel2 e4) e5 fun w3 H3 z3 ok3 st3 rel3 => ?_
                simp only [RelR, Rep] at rel3
                refine ⟨true, rel3, iteT ?_⟩
                have rel2a := RelR.keep ok2 rel2 st3 (by omega) (by omega) .refl
                refine h3 σ H3 w3 sb (t2 + 1) _ r3 _ ok3 e6 fun w4 H4 v4 t4 τ4 c1 c2 ok4 st4 sl4 rel4 => ?_
                have rel2b := RelR.keep ok3 rel2a st4 (by omega) (by omega) sl4
                have l4 := ok.slen ok4
                refine hg w4 H4 σ _ t4 v v4 y' z r Q ok4 (RelR.view ok4 rel2b e7) (RelR.view ok4 rel4 e8) e9 fun w5 H5 z5 ok5 st5 rel5 => ?_
                rw [l2] at st3 st4
                rw [l4] at st5
                exact k w5 H5 z5 (t4 + 1) t4 (by omega) (Nat.lt_succ_self _) ok5 ((st12.trans (st3.mono (by omega))).trans ((st4.mono (by omega)).trans (st5.mono (by omega)))) ((sl1.trans sl2).trans sl4) rel5
              · cases e
            · cases e
        · cases e
      · cases e
variable {a b c : Expr} {op op' : CmpOp} {pos : Pos} {rd rd' : R2} {f g : D → D → Option R} {m1 m2 m3 : ME}
theorem re_chain (ho : OpR X (compareOp op) rd) (ho' : OpR X (compareOp op') rd') (hf : OpS X.K rd f) (hg : OpS X.K rd' g) (ha : RE X a m1) (hb : RE X b m2) (hc : RE X c m3) (hm : lastMarks [op, op'] [b, c] = false := by with_unfolding_all rfl) :
    RE X (.Compare a [op, op'] [b, c] pos) (mChain f g m1 m2 m3) := by
  obtain ⟨t1, p1, s1⟩ := ha
  obtain ⟨t2, p2, s2⟩ := hb
  obtain ⟨t3, p3, s3⟩ := hc
  exact ⟨_, pe_chain ho ho' p1 p2 p3 hm, chain_snd s1 s2 s3 hf hg⟩
theorem rt_chain (ho : OpR X (compareOp op) rd) (ho' : OpR X (compareOp op') rd') (hf : OpS X.K rd f) (hg : OpS X.K rd' g) (ha : RE X a m1) (hb : RE X b m2) (hc : RE X c m3) (hm : lastMarks [op, op'] [b, c] = false := by with_unfolding_all rfl) :
    RT X (.Compare a [op, op'] [b, c] pos) (mB (mChain f g m1 m2 m3)) := by
  obtain ⟨t1, p1, s1⟩ := ha
  obtain ⟨t2, p2, s2⟩ := hb
  obtain ⟨t3, p3, s3⟩ := hc
  exact ⟨_, pt_chain ho ho' p1 p2 p3 hm, b_ok (chain_snd s1 s2 s3 hf hg)⟩
end
end Qz
namespace Qz
open PySem PySem.Spec L2
open PyProof.Rows hiding St

/-! ## target = value -/
def mAsg (m : ME) (g : D → S → Option S) : MS := fun s => match m s with
  | .no => .no
  | .ok r s1 => match take1 s1 r with
    | none => .no
    | some (d, s2) => match g d s2 with
      | none => .no
      | some s3 => .ok .nx s3
theorem rs_asg {X : Cx} {tg e : Expr} {m : ME} {g : D → S → Option S} {ws : List Nat} {pos : Pos} (he : RE X e m) (hg : RG X tg g ws) (hs : swapsWithSole [tg] e pos.line X.env = pure false := by rfl) (hw : swappedStores [tg] e X.env = pure none := by rfl)
    (h1 : (assignEach [tg] X.env).map (·.2) = [assign tg X.env] := by rfl) : RS X (.Assign [tg] e pos) (mAsg m g) := by
  obtain ⟨t1, p1, s1⟩ := he
  obtain ⟨t2, p2, s2⟩ := hg
  refine ⟨_, ps_asg p1 p2 hs hw h1, fun σ H w s D f s' ok e k => ?_⟩
  simp only [mAsg] at e
  split at e
  · cases e
  · rename_i r sa e1
    split at e
    · cases e
    · rename_i d sb e2
      split at e
      · cases e
      · rename_i sc e3
        cases e
        refine s1 σ H w s _ _ r sa ok e1 fun w1 H1 x t' τ a1 a2 ok1 st1 sl1 rel1 => ?_
        have hl := ok.slen ok1
        obtain ⟨w2, ok2, st2, rep, sl2, l2, _⟩ := take1_ok (t0 := s.a.length) ok1 rel1 e2 a1 (by omega)
        rw [hl] at st2 l2
        refine s2 d x σ H1 w2 sb _ t' s.a.length _ ok2 l2 rep e3 fun σ3 ok3 l3 sl3 wr3 => ?_
        exact k.nx rfl σ3 _ H1 (drop_ok ok3 l3) l3 ((st1.trans st2).trans drop_step)

/-! ## a, b = x, y; a, b, c = x, y, z: what is new stays its name's own -/
def norms : S → List R → Option (List R × S)
  | s, [] => some ([], s)
  | s, r :: rs => match (match r with
      | .sl i => (take1 s (.sl i)).map fun p => (R.d p.1, p.2)
      | r => some (r, s)) with
    | none => none
    | some (q, s1) => match norms s1 rs with
      | none => none
      | some (qs, s2) => some (q :: qs, s2)
def NoSlot : R → Prop
  | .sl _ => False
  | _ => True
def Wd.retag (w : Wd) (τ i : Nat) : Wd := { w with O := fun b => if w.O b = some τ then some i else w.O b }
def put1 (i : Nat) (r : R) (s : S) : S := { s with a := s.a.set i (some r) }
def puts : List Nat → List R → S → Option S
  | [], [], s => some s
  | i :: is, r :: rs, s => if s.a.length ≤ i then none else puts is rs (put1 i r s)
  | _, _, _ => none
def setAll : St → List Nat → List V → St
  | σ, i :: is, v :: vs => setAll (σ.set i (some v)) is vs
  | σ, _, _ => σ
def mPar (is : List Nat) (ms : MA) : MS := fun s => match ms s with
  | .no => .no
  | .ok rs s1 => match norms s1 rs with
    | none => .no
    | some (qs, s2) => match puts is qs s2 with
      | none => .no
      | some s3 => .ok .nx s3
section
variable {K : PySem.W.Frag} {t t0 : Nat} {H : Hp} {σ : St}
theorem norms_ok {hi : Nat} : ∀ (rs : List R) (us : List V) (qs : List R) (s s' : S) (w : Wd) (τ : Nat), OKs K w H σ s t → RelRs K w H σ s hi τ rs us → norms s rs = some (qs, s') → t0 ≤ τ → s.a.length ≤ t0 →
    ∃ w', OKs K w' H σ s' t ∧ Step s.a.length t0 w H w' H ∧ RelRs K w' H σ s' hi τ qs us ∧ (∀ q ∈ qs, NoSlot q) ∧ Slotted s s' ∧ s'.a.length = s.a.length ∧ w'.B = w.B ∧ (∀ a i, s.a.length ≤ i → i < τ → w.O a = some i → w'.O a = some i)
  | [], _, _, s, _, w, _, ok, h, e, _, _ => by
    cases e
    exact ⟨w, ok, .refl, h, by simp, .refl, rfl, rfl, fun _ _ _ _ q => q⟩
  | r :: rs, _, _, s, s', w, τ, ok, ⟨x, q, τ2, rfl, a1, a2, h1, h2⟩, e, ht, hn => by
    have gen : ∀ (r1 : R) (s1 : S) (w1 : Wd), NoSlot r1 → OKs K w1 H σ s1 t → Step s.a.length t0 w H w1 H → RelR K w1 H σ s1 τ2 r1 x → Slotted s s1 → s1.a.length = s.a.length → w1.B = w.B → RelRs K w1 H σ s1 hi (τ2 + 1) rs q → (∀ a i, s.a.length ≤ i → i ≠ τ2 ∨ True → w.O a = some i → i < τ → w1.O a = some i) → (∀ a, w1.O a = some τ2 → True) →
        ∀ qs2, norms s1 rs = some (qs2, s') → ∃ w', OKs K w' H σ s' t ∧ Step s.a.length t0 w H w' H ∧ RelRs K w' H σ s' hi τ (r1 :: qs2) (x :: q) ∧ (∀ q ∈ r1 :: qs2, NoSlot q) ∧ Slotted s s' ∧ s'.a.length = s.a.length ∧ w'.B = w.B ∧ (∀ a i, s.a.length ≤ i → i < τ → w.O a = some i → w'.O a = some i) := by
      intro r1 s1 w1 ns ok1 st1 rel1 sl1 l1 hB1 h2' hO1 _ qs2 e2
      obtain ⟨w2, ok2, st2, rel2, ns2, sl2, l2, B2, hO2⟩ := norms_ok rs q qs2 s1 s' w1 (τ2 + 1) ok1 h2' e2 (by omega) (by omega)
      rw [l1] at st2
      refine ⟨w2, ok2, st1.trans st2, ⟨x, q, τ2, rfl, a1, a2, ?_, rel2⟩, fun z hz => ?_, sl1.trans sl2, l2.trans l1, B2.trans hB1, fun a i h3 h4 h5 => hO2 a i (by omega) (by omega) (hO1 a i h3 (.inr trivial) h5 h4)⟩
      · exact RelR.other ok1 rel1 st2.F B2 (fun a ha => hO2 a τ2 (by omega) (Nat.lt_succ_self _) ha) sl2
      · rcases List.mem_cons.mp hz with rfl | hz
        · exact ns
        · exact ns2 z hz
    cases r with
    | sl j =>
      simp only [norms] at e
      cases e1 : take1 s (.sl j) with
      | none => rw [e1] at e; cases e
      | some p =>
        obtain ⟨y, s1⟩ := p
        rw [e1] at e
        simp only [Option.map_some] at e
        split at e
        · cases e
        · rename_i qs2 s2 e2
          cases e
          obtain ⟨w1, ok1, st1, p1, sl1, l1, o1⟩ := take1_ok (t0 := t0) ok h1 e1 (by omega) hn
          have hB := take1_B (K := K) st1 fun p g z => ⟨_, (ok1.box p g z).1.hp⟩
          have h2' := RelRs.other ok st1.F hB sl1 rs q (τ2 + 1) h2 fun a i hi => o1 a i (by omega) (by omega)
          exact gen (.d y) s1 w1 trivial ok1 st1 p1 sl1 l1 hB h2' (fun a i h3 _ h5 h6 => o1 a i h3 (by omega) h5) (fun _ _ => trivial) _ e2
    | d y =>
      simp only [norms] at e
      split at e
      · cases e
      · rename_i qs2 s2 e2
        cases e
        exact gen (.d y) s w trivial ok .refl h1 .refl rfl rfl h2 (fun a i _ _ h5 _ => h5) (fun _ _ => trivial) _ e2
    | o c =>
      simp only [norms] at e
      split at e
      · cases e
      · rename_i qs2 s2 e2
        cases e
        exact gen (.o c) s w trivial ok .refl h1 .refl rfl rfl h2 (fun a i _ _ h5 _ => h5) (fun _ _ => trivial) _ e2
    | bx =>
      simp only [norms] at e
      split at e
      · cases e
      · rename_i qs2 s2 e2
        cases e
        exact gen .bx s w trivial ok .refl h1 .refl rfl rfl h2 (fun a i _ _ h5 _ => h5) (fun _ _ => trivial) _ e2
    | st _ => exact h1.elim
/-- one of them in its place -/
theorem put_ok {w : Wd} {s : S} {i τ n : Nat} {r : R} {x : V} (ok : OKs K w H σ s t) (hn : s.a.length = n) (hi : i < n) (hτ : n ≤ τ) (ns : NoSlot r) (h : RelR K w H σ s τ r x) :
    OKs K (w.retag τ i) H (σ.set i (some x)) (put1 i r s) t := by
  have tN := ok.tN
  refine ⟨ok.sub, by simp [ok.len, put1], fun k q v h1 h2 => ?_, fun a k e => ?_, by simpa [put1] using tN, fun p g e => ?_, ok.nob⟩
  · rcases set_get h1 with ⟨rfl, rfl⟩ | ⟨hk, h3⟩
    · have hv : v = some x := by
        rcases set_get h2 with ⟨_, e⟩ | ⟨e, _⟩
        · exact e
        · exact absurd rfl e
      subst hv
      have at' : ∀ a, w.O a = some τ → (w.retag τ k).O a = some k := fun a ha => if_pos ha
      cases r with
      | d y => exact ⟨x, rfl, h⟩
      | o c =>
        refine ⟨x, rfl, ?_⟩
        cases c with
        | lst ds => obtain ⟨a, xs, e, q1, q2, q3⟩ := h; exact ⟨a, xs, e, at' a q1, q2, q3⟩
        | dK ds => obtain ⟨a, xs, e, q1, q2, q3⟩ := h; exact ⟨a, xs, e, at' a q1, q2, q3⟩
        | dT ds => obtain ⟨a, xs, e, q1, q2, q3⟩ := h; exact ⟨a, xs, e, at' a q1, q2, q3⟩
      | sl j => exact ns.elim
      | bx => obtain ⟨p, g, e, rfl⟩ := h; exact ⟨p, g, e, rfl⟩
      | st _ => exact h.elim
    · have h4 : σ[k]? = some v := by
        rcases set_get h2 with ⟨e, _⟩ | ⟨_, e⟩
        · exact absurd e hk
        · exact e
      have hkl := (List.getElem?_eq_some_iff.mp h3).1
      exact SlR.mono (ok.sl k q v h3 h4) (Same.refl _) rfl (fun a ha => ⟨by
        show (if w.O a = some τ then some i else w.O a) = some k
        rw [if_neg (by rw [ha]; simp; omega)]; exact ha, rfl⟩)
  · have e' : (if w.O a = some τ then some i else w.O a) = some k := e
    by_cases hb : w.O a = some τ
    · rw [if_pos hb] at e'; cases e'
      obtain ⟨h1, h2, h3⟩ := ok.own a τ hb
      exact ⟨h1, h2, by omega⟩
    · rw [if_neg hb] at e'
      exact ok.own a k e'
  · obtain ⟨b, o1, o2⟩ := ok.box p g e
    refine ⟨b, ?_, ?_⟩
    · show (if w.O p = some τ then some i else w.O p) = none
      rw [if_neg (by rw [o1]; simp)]; exact o1
    · show (if w.O g = some τ then some i else w.O g) = none
      rw [if_neg (by rw [o2]; simp)]; exact o2
theorem retag_step {w : Wd} {n τ i : Nat} (hi : i < n) : Step n n w H (w.retag τ i) H where
  F := Same.refl _
  keep := fun _ _ h _ _ => h
  there := fun a o h => ⟨o, h⟩
  tmp := fun a i h h1 h2 => by omega
  newF := fun a h => .inl h
  newO := fun a k h => .inr (fun z => by
    have h' : (if w.O a = some τ then some i else w.O a) = some k := h
    rw [z] at h'
    rw [if_neg (by simp)] at h'; cases h')
  newT := fun a k h hk => by
    have h' : (if w.O a = some τ then some i else w.O a) = some k := h
    by_cases z : w.O a = some τ
    · rw [if_pos z] at h'; cases h'; omega
    · rw [if_neg z] at h'; exact .inr h'
  B := .inl rfl
theorem puts_ok {hi n : Nat} : ∀ (is : List Nat) (qs : List R) (us : List V) (σ : St) (s s' : S) (w : Wd) (τ : Nat), OKs K w H σ s t → s.a.length = n → n ≤ τ → RelRs K w H σ s hi τ qs us → (∀ q ∈ qs, NoSlot q) → puts is qs s = some s' →
    ∃ w', OKs K w' H (setAll σ is us) s' t ∧ s'.a.length = n ∧ Step n n w H w' H ∧ us.length = is.length
  | [], [], us, σ, s, _, w, τ, ok, hn, _, rel, _, e => by
    cases e
    simp only [RelRs] at rel
    subst rel
    exact ⟨w, ok, hn, .refl, rfl⟩
  | [], _ :: _, _, _, _, _, _, _, _, _, _, _, _, e => by cases e
  | _ :: _, [], _, _, _, _, _, _, _, _, _, _, _, e => by cases e
  | i :: is, r :: qs, _, σ, s, s', w, τ, ok, hn, ht, ⟨x, q, τ2, rfl, a1, a2, h1, h2⟩, ns, e => by
    simp only [puts] at e
    split at e
    · cases e
    · rename_i hii
      have ok1 := put_ok (i := i) ok hn (by omega) (by omega) (ns r List.mem_cons_self) h1
      have rel2 : RelRs K (w.retag τ2 i) H (σ.set i (some x)) (put1 i r s) hi (τ2 + 1) qs q := by
        have go : ∀ (qs : List R) (us : List V) (τ : Nat), τ2 < τ → RelRs K w H σ s hi τ qs us → (∀ q ∈ qs, NoSlot q) → RelRs K (w.retag τ2 i) H (σ.set i (some x)) (put1 i r s) hi τ qs us := by
          intro qs
          induction qs with
          | nil => intro us τ _ h _; exact h
          | cons z zs ih =>
            rintro _ τ hτ ⟨y, q, τ3, rfl, b1, b2, g1, g2⟩ ns
            refine ⟨y, q, τ3, rfl, b1, b2, ?_, ih q (τ3 + 1) (by omega) g2 fun y hy => ns y (List.mem_cons_of_mem _ hy)⟩
            have keep : ∀ a, w.O a = some τ3 → (w.retag τ2 i).O a = some τ3 := fun a ha => by
              show (if w.O a = some τ2 then some i else w.O a) = some τ3
              rw [if_neg (by rw [ha]; simp; omega)]; exact ha
            cases z with
            | d y => exact g1
            | o c =>
              cases c with
              | lst ds => obtain ⟨a, xs, e, q1, q2, q3⟩ := g1; exact ⟨a, xs, e, keep a q1, q2, q3⟩
              | dK ds => obtain ⟨a, xs, e, q1, q2, q3⟩ := g1; exact ⟨a, xs, e, keep a q1, q2, q3⟩
              | dT ds => obtain ⟨a, xs, e, q1, q2, q3⟩ := g1; exact ⟨a, xs, e, keep a q1, q2, q3⟩
            | sl j => exact (ns _ List.mem_cons_self).elim
            | bx => exact g1
            | st _ => exact g1
        exact go qs q (τ2 + 1) (Nat.lt_succ_self _) h2 fun y hy => ns y (List.mem_cons_of_mem _ hy)
      obtain ⟨w', ok2, l2, st2, lu⟩ := puts_ok (n := n) is qs q (σ.set i (some x)) (put1 i r s) s' (w.retag τ2 i) (τ2 + 1) ok1 (by simp [put1, hn]) (by omega) rel2 (fun y hy => ns y (List.mem_cons_of_mem _ hy)) e
      exact ⟨w', ok2, l2, (retag_step (by omega)).trans st2, by simp [lu]⟩
/-- the reading of a statement that stores at several places -/
theorem par_snd {ta : TA} {ts : TS} {is : List Nat} {ms : MA} (h : SndA K ta ms) (hts : ∀ (D : Ends) (σ : St) (H : Hp), (ta σ H fun vs H1 => vs.length = is.length ∧ D.nx (setAll σ is vs) H1) → ts D σ H) : SndS K ts (mPar is ms) := by
  intro σ H w s D f s' ok e k
  simp only [mPar] at e
  split at e
  · cases e
  · rename_i rs sa e1
    split at e
    · cases e
    · rename_i qs sb e2
      split at e
      · cases e
      · rename_i sc e3
        cases e
        refine hts D σ H (h σ H w s s.a.length _ rs sa ok e1 fun w1 H1 us t1 a1 ok1 st1 sl1 rel1 => ?_)
        have l1 := ok.slen ok1
        obtain ⟨w2, ok2, st2, rel2, ns, sl2, l2, _, _⟩ := norms_ok (t0 := s.a.length) rs us qs sa sb w1 s.a.length ok1 rel1 e2 (Nat.le_refl _) (by omega)
        rw [l1] at st2 l2
        obtain ⟨w3, ok3, l3, st3, lu⟩ := puts_ok is qs us σ sb _ w2 s.a.length ok2 l2 (Nat.le_refl _) rel2 ns e3
        exact ⟨lu, k.nx rfl _ _ H1 (drop_ok ok3 l3) l3 (((st1.trans st2).trans st3).trans drop_step)⟩
end
/-- the reading is monotone -/
def MonoA (ta : TA) : Prop := ∀ (σ : St) (H : Hp) (Q R : List V → Hp → Prop), (∀ vs H1, Q vs H1 → R vs H1) → ta σ H Q → ta σ H R
def taC (K : PySem.W.Frag) (m : MA) : TA := fun σ H Q => ∃ (w : Wd) (s : S) (t : Nat) (rs : List R) (s' : S), OKs K w H σ s t ∧ m s = .ok rs s' ∧
  ∀ w' H' xs t', t ≤ t' → OKs K w' H' σ s' t' → Step s.a.length t w H w' H' → Slotted s s' → RelRs K w' H' σ s' t' t rs xs → Q xs H'
theorem mono_taC {K : PySem.W.Frag} {m : MA} : MonoA (taC K m) := fun σ H Q R h ⟨w, s, t, rs, s', ok, e, k⟩ => ⟨w, s, t, rs, s', ok, e, fun w' H' xs t' a b c d e => h xs H' (k w' H' xs t' a b c d e)⟩
theorem RA.pa {X : Cx} {es : List Expr} {ms : MA} (h : RA X es ms) : PA X es (taC X.K ms) := by
  obtain ⟨ta, p, q⟩ := h
  exact ⟨fun pos pins s σ H Q I ⟨w, s1, t, r, s', ok, e1, k⟩ => p.run pos pins s σ H Q I (q σ H w s1 t Q r s' ok e1 k)⟩
theorem snd_taC {K : PySem.W.Frag} {m : MA} : SndA K (taC K m) m := fun σ H w s t Q rs s' ok e k => ⟨w, s, t, rs, s', ok, e, k⟩
section
variable {X : Cx} {a b c : Expr} {ms : MA} {x y z : Str} {px py pz pt pos pt2 : Pos} {kt k2 : Nat}
theorem rs_par (i j : Nat) (hc : X.calm = true) (hN : X.N.Nodup) (ha : RA X [a, b] ms) (hi : X.N[i]? = some x := by rfl) (hj : X.N[j]? = some y := by rfl) (hij : i ≠ j := by decide) (hx : X.env.scope.names.lookup x = some .local := by rfl) (hy : X.env.scope.names.lookup y = some .local := by rfl)
    (hw : swappedStores [.Tuple [.Name x px, .Name y py] kt pt] (.Tuple [a, b] k2 pt2) X.env = pure (some [x, y]) := by rfl) (hs : swapsWithSole [.Tuple [.Name x px, .Name y py] kt pt] (.Tuple [a, b] k2 pt2) pos.line X.env = pure false := by rfl) :
    RS X (.Assign [.Tuple [.Name x px, .Name y py] kt pt] (.Tuple [a, b] k2 pt2) pos) (mPar [i, j] ms) :=
  ⟨_, ps_par hc hN hi hj hij hx hy ha.pa hw hs, par_snd snd_taC fun D σ H h => mono_taC σ H _ _ (fun vs H1 ⟨hl, q⟩ => by
    match vs, hl with
    | [u, v], _ => exact ⟨u, v, rfl, q⟩) h⟩
theorem rs_par3 (i j l : Nat) (hc : X.calm = true) (hN : X.N.Nodup) (ha : RA X [a, b, c] ms) (hi : X.N[i]? = some x := by rfl) (hj : X.N[j]? = some y := by rfl) (hl : X.N[l]? = some z := by rfl) (hij : i ≠ j := by decide) (hil : i ≠ l := by decide) (hjl : j ≠ l := by decide)
    (hx : X.env.scope.names.lookup x = some .local := by rfl) (hy : X.env.scope.names.lookup y = some .local := by rfl) (hz : X.env.scope.names.lookup z = some .local := by rfl)
    (hw : swappedStores [.Tuple [.Name x px, .Name y py, .Name z pz] kt pt] (.Tuple [a, b, c] k2 pt2) X.env = pure (some [x, y, z]) := by rfl) (hs : swapsWithSole [.Tuple [.Name x px, .Name y py, .Name z pz] kt pt] (.Tuple [a, b, c] k2 pt2) pos.line X.env = pure false := by rfl) :
    RS X (.Assign [.Tuple [.Name x px, .Name y py, .Name z pz] kt pt] (.Tuple [a, b, c] k2 pt2) pos) (mPar [i, j, l] ms) :=
  ⟨_, ps_par3 hc hN hi hj hl hij hil hjl hx hy hz ha.pa hw hs, par_snd snd_taC fun D σ H h => mono_taC σ H _ _ (fun vs H1 ⟨hl, q⟩ => by
    match vs, hl with
    | [u, v, w], _ => exact ⟨u, v, w, rfl, q⟩) h⟩
end

/-! ## list(d), d a dict by tuples -/
section
variable {K : PySem.W.Frag} {t t0 n : Nat} {w : Wd} {H : Hp} {σ : St} {s : S}
theorem adopt {b : Addr} {xs : List V} (ok : OKs K w H σ s t) (hb : H b = some (.tup xs)) : OKs K (w.lay b (.tup xs)) H σ s t ∧ Step n t0 w H (w.lay b (.tup xs)) H := by
  have sm : Same w.F (w.lay b (.tup xs)).F := fun a u e => by
    show upd w.F b (.tup xs) a = some u
    by_cases h : a = b
    · subst h
      rw [upd_same]
      have := ok.sub a u e
      rw [hb] at this; exact this
    · rw [upd_ne h]; exact e
  refine ⟨⟨fun a u e => ?_, ok.len, fun i q v h1 h2 => SlR.mono (ok.sl i q v h1 h2) sm rfl (fun a ha => ⟨ha, rfl⟩), fun a i e => ?_, ok.tN, fun p g e => ?_, ok.nob⟩, ⟨sm, fun _ _ h _ _ => h, fun a o h => ⟨o, h⟩, fun _ _ h _ _ => h, fun a h => ?_, fun a i h => .inr (by rw [show w.O a = some i from h]; simp), fun _ _ h _ => .inr h, .inl rfl⟩⟩
  · have e' : upd w.F b (.tup xs) a = some u := e
    by_cases h : a = b
    · subst h; rw [upd_same] at e'; rw [hb]; exact e'
    · rw [upd_ne h] at e'; exact ok.sub a u e'
  · obtain ⟨h1, ⟨u, h2, nt⟩, h3⟩ := ok.own a i e
    refine ⟨?_, ⟨u, h2, nt⟩, h3⟩
    show upd w.F b (.tup xs) a = none
    rw [upd_ne (fun z => by subst z; rw [hb] at h2; cases h2; exact nt xs rfl)]
    exact h1
  · obtain ⟨bo, o1, o2⟩ := ok.box p g e
    refine ⟨⟨?_, ?_, bo.ne, bo.hp, bo.hg⟩, o1, o2⟩
    · show upd w.F b (.tup xs) p = none
      rw [upd_ne (fun z => by subst z; have := bo.hp; rw [hb] at this; cases this)]; exact bo.fp
    · show upd w.F b (.tup xs) g = none
      rw [upd_ne (fun z => by subst z; have := bo.hg; rw [hb] at this; cases this)]; exact bo.fg
  · by_cases h' : a = b
    · subst h'; exact .inr (.inr (.inr (.inl ⟨xs, hb⟩)))
    · have h2 : upd w.F b (.tup xs) a ≠ none := h
      rw [upd_ne h'] at h2; exact .inl h2
def keysD (kvs : List (List Key × D)) : List D := kvs.map fun p => .tuple (p.1.map keyD)
theorem adopts : ∀ (kvs : List (List Key × D)) (ys : List (List Key × V)) (bs : List Addr) (w : Wd), OKs K w H σ s t → RepM K w.F kvs ys → IsKeys H ys bs → ∃ w', OKs K w' H σ s t ∧ Step n t0 w H w' H ∧ w'.O = w.O ∧ RepL K w'.F (keysD kvs) (bs.map V.ref)
  | [], _, _, w, ok, h, hk => by
    simp only [RepM] at h
    subst h
    cases hk
    exact ⟨w, ok, .refl, rfl, .nil⟩
  | (k, d) :: kvs, _, _, w, ok, ⟨x, r, e, h1, h2⟩, hk => by
    subst e
    cases hk with
    | @cons _ b _ bs hb hr =>
      obtain ⟨ok1, st1⟩ := adopt (n := n) (t0 := t0) ok hb
      obtain ⟨w2, ok2, st2, hO, rep⟩ := adopts kvs r bs _ ok1 (RepM.mono st1.F kvs r h2) hr
      refine ⟨w2, ok2, st1.trans st2, hO, .cons ?_ rep⟩
      simp only [Rep]
      exact ⟨b, _, rfl, st2.F _ _ upd_same, keys_rep k⟩
end
def viewT (s : S) : R → Option (List (List Key × D))
  | .o (.dT l) => some l
  | .sl i => match s.a[i]? with
    | some (some (.o (.dT l))) => some l
    | _ => none
  | _ => none
def mList (ms : MA) : ME := fun s => match ms s with
  | .no => .no
  | .ok rs s1 => match rs with
    | [r] => match viewT s1 r with
      | some l => .ok (.o (.lst (keysD l))) s1
      | none => match view s1 r with
        | some x => match fLst [x] with
          | some q => .ok q s1
          | none => .no
        | none => .no
    | _ => .no
def rListA (K : PySem.W.Frag) : List V → Hp → VK → Prop := fun xs H Q => (∃ p ys, xs = [.ref p] ∧ (SqL K H p ys ∨ SqT K H p ys) ∧ ∀ l, H l = none → Q (.ref l) (upd H l (.lst ys))) ∨
  ∃ d kvs, xs = [V.ref d] ∧ Rd H d (.dT kvs) ∧ ∀ p bs, H p = none → IsKeys H kvs bs → Q (.ref p) (upd H p (.lst (bs.map V.ref)))
section
variable {X : Cx} {e : Expr} {ms : MA} {p pos : Pos}
theorem viewT_ok {K : PySem.W.Frag} {t τ : Nat} {w : Wd} {H : Hp} {σ : St} {s : S} {r : R} {u : V} {l : List (List Key × D)} (ok : OKs K w H σ s t) (h : RelR K w H σ s τ r u) (e : viewT s r = some l) : ∃ a ys, u = .ref a ∧ H a = some (.dT ys) ∧ RepM K w.F l ys := by
  cases r with
  | d x => cases e
  | bx => cases e
  | st _ => exact h.elim
  | o c =>
    cases c with
    | lst _ => cases e
    | dK _ => cases e
    | dT kvs =>
      cases e
      obtain ⟨a, ys, e1, _, h2, h3⟩ := h
      exact ⟨a, ys, e1, h2, h3⟩
  | sl i =>
    obtain ⟨q, h1, h2⟩ := h
    simp only [viewT, h1] at e
    split at e
    · rename_i q' l' hq
      cases e
      cases hq
      obtain ⟨v, e1, a, ys, e2, _, h4, h5⟩ := ok.sl i _ _ h1 h2
      cases e1
      exact ⟨a, ys, e2, h4, h5⟩
    · cases e
theorem list_snd {K : PySem.W.Frag} {ta : TA} (h : SndA K ta ms) : SndE K (fun σ H Q => ta σ H fun us H1 => rListA K us H1 Q) (mList ms) := by
  intro σ H w s t Q r s' ok e k
  simp only [mList] at e
  split at e
  · cases e
  · rename_i rs sa e1
    split at e
    · rename_i r1
      refine h σ H w s t _ _ sa ok e1 fun w1 H1 us t1 a1 ok1 st1 sl1 rel1 => ?_
      obtain ⟨u, q, τ, rfl, b1, b2, rel, rfl⟩ := rel1
      have l := ok.slen ok1
      split at e
      · rename_i kvs e2
        cases e
        obtain ⟨a, ys, rfl, h1, h2⟩ := viewT_ok ok1 rel e2
        refine .inr ⟨a, ys, rfl, .inl h1, fun p bs hp hk => ?_⟩
        obtain ⟨w2, ok2, st2, hO, rep⟩ := adopts (n := s.a.length) (t0 := t1) kvs ys bs w1 ok1 h2 hk
        exact k (w2.give p t1) _ _ (t1 + 1) t1 a1 (Nat.lt_succ_self _) (give_ok ok2 hp) (st1.trans ((st2.trans (give_step ok2 hp)).mono a1)) sl1 ⟨p, _, rfl, if_pos rfl, upd_same, rep⟩
      · split at e
        · rename_i x e3
          split at e
          · rename_i q e4
            cases e
            refine .inl (s_lst w1 H1 σ _ t1 [u] [x] r Q ok1 ⟨u, [], rfl, RelR.view ok1 rel e3, rfl⟩ e4 fun w2 H2 z ok2 st2 rel2 => ?_)
            rw [l] at st2
            exact k w2 H2 z (t1 + 1) t1 a1 (Nat.lt_succ_self _) ok2 (st1.trans (st2.mono a1)) sl1 rel2
          · cases e
        · cases e
    · cases e
theorem c_listA (hc : X.calm = true) : CallR X (.type "list") (rListA X.K) := call_list_of.or (call_list_dT hc)
theorem re_listA (hc : X.calm = true) (hm : X.mg "list" = none) (ha : RA X [e] ms) (hg : Gl X "list" := by rfl) (he : starEach [e] X.env = (false, eval e X.env) :: starEach [] X.env := by rfl) : RE X (.Call (.Name "list" p) [e] [] pos) (mList ms) := by
  obtain ⟨ta, p1, s1⟩ := ha
  exact ⟨_, pe_callTy (c_listA hc) hg hm (by decide +kernel) p1 (by decide) (by decide) he rfl, list_snd s1⟩
end
end Qz
namespace Qz
open PySem PySem.Spec L2
open PyProof.Rows hiding St

/-! ## {k: v, ..} -/
def flatP (ps : List (V × V)) : List V := ps.flatMap fun p => [p.1, p.2]
def SndP (K : PySem.W.Frag) (trs : List (TE × TE)) (ms : MA) : Prop := ∀ (σ : St) (H : Hp) (w : Wd) (s : S) (t : Nat) (Q : List (V × V) → Hp → Prop) (rs : List R) (s' : S), OKs K w H σ s t → ms s = .ok rs s' →
  (∀ w' H' ps t', t ≤ t' → OKs K w' H' σ s' t' → Step s.a.length t w H w' H' → Slotted s s' → RelRs K w' H' σ s' t' t rs (flatP ps) → Q ps H') → tPairs trs σ H Q
structure RP (X : Cx) (pos : Pos) (keys : List (Option Expr)) (values : List Expr) (ms : MA) : Prop where
  ex : ∃ trs, PPs X pos keys values trs ∧ SndP X.K trs ms
section
variable {X : Cx} {pos : Pos} {k v : Expr} {ks : List (Option Expr)} {vs : List Expr} {mk mv : ME} {ms : MA}
theorem rp_nil : RP X pos [] [] mNil := ⟨_, pps_nil, fun σ H w s t Q rs s' ok e kk => by
  cases e
  exact kk w H [] t (Nat.le_refl _) ok .refl .refl rfl⟩
theorem rp_cons (hk : RE X k mk) (hv : RE X v mv) (hr : RP X pos ks vs ms) : RP X pos (some k :: ks) (v :: vs) (mCons mk (mCons mv ms)) := by
  obtain ⟨t1, p1, s1⟩ := hk
  obtain ⟨t2, p2, s2⟩ := hv
  obtain ⟨t3, p3, s3⟩ := hr
  refine ⟨_, pps_cons p1 p2 p3, fun σ H w s t Q rs s' ok e kk => ?_⟩
  simp only [mCons] at e
  split at e
  · cases e
  · rename_i r1 sa e1
    split at e
    · cases e
    · rename_i rs2 sb e2
      cases e
      split at e2
      · cases e2
      · rename_i r2 sc e3
        split at e2
        · cases e2
        · rename_i rs3 sd e4
          cases e2
          refine s1 σ H w s t _ r1 sa ok e1 fun w1 H1 x t1 τ1 a1 a2 ok1 st1 sl1 rel1 => ?_
          refine s2 σ H1 w1 sa t1 _ r2 sc ok1 e3 fun w2 H2 y t2 τ2 b1 b2 ok2 st2 sl2 rel2 => ?_
          refine s3 σ H2 w2 sc t2 _ rs3 _ ok2 e4 fun w3 H3 ps t3 c1 ok3 st3 sl3 rel3 => ?_
          have l1 := ok.slen ok1
          have l2 := ok.slen ok2
          have tN := ok.tN
          have q1 := RelR.keep ok1 rel1 st2 (by omega) (by omega) sl2
          have q1' := RelR.keep ok2 q1 st3 (by omega) (by omega) sl3
          have q2 := RelR.keep ok2 rel2 st3 (by omega) (by omega) sl3
          rw [l1] at st2
          rw [l2] at st3
          refine kk w3 H3 ((x, y) :: ps) t3 (by omega) ok3 ((st1.trans (st2.mono (by omega))).trans (st3.mono (by omega))) ((sl1.trans sl2).trans sl3) ⟨x, y :: flatP ps, τ1, rfl, a1, by omega, q1', y, flatP ps, τ2, rfl, by omega, by omega, q2, RelRs.lo _ _ rel3 (by omega)⟩
end
def pairsK : List D → Option (List (Key × D))
  | [] => some []
  | k :: v :: r => match keyOf k with
    | none => none
    | some q => (pairsK r).map ((q, v) :: ·)
  | [_] => none
def dMerge (kvs more : List (Key × D)) : List (Key × D) := more.foldl (fun acc kv => dPut acc kv.1 kv.2) kvs
def mDisp (ms : MA) : ME := fun s => match ms s with
  | .no => .no
  | .ok rs s1 => match takes s1 rs with
    | none => .no
    | some (xs, s2) => match pairsK xs with
      | none => .no
      | some kvs => if kvs.length ≤ 15 then .ok (.o (.dK (dMerge [] kvs))) s2 else .no
section
variable {K : PySem.W.Frag} {F : Hp}
theorem pairsK_rep : ∀ (xs : List D) (ps : List (V × V)) (kvs : List (Key × D)), RepL K F xs (flatP ps) → pairsK xs = some kvs → ∃ ys : List (Key × V), ps = ys.map (fun kv => (kV kv.1, kv.2)) ∧ RepM K F kvs ys
  | [], ps, _, h, e => by
    cases e
    cases ps with
    | nil => exact ⟨[], rfl, rfl⟩
    | cons p ps => simp [flatP, RepL] at h
  | [_], _, _, _, e => by cases e
  | k :: v :: r, ps, _, h, e => by
    simp only [pairsK] at e
    split at e
    · cases e
    · rename_i q eq
      simp only [Option.map_eq_some_iff] at e
      obtain ⟨kvs, e2, rfl⟩ := e
      cases ps with
      | nil => simp [flatP, RepL] at h
      | cons p ps =>
        have h' : RepL K F (k :: v :: r) (p.1 :: p.2 :: flatP ps) := h
        simp only [RepL] at h'
        obtain ⟨_, _, e1, h1, _, _, e3, h2, h3⟩ := h'
        cases e1
        cases e3
        obtain ⟨ys, rfl, h4⟩ := pairsK_rep r ps kvs h3 e2
        refine ⟨(q, p.2) :: ys, ?_, p.2, ys, rfl, h2, h4⟩
        rw [List.map_cons, ← keyOf_rep eq h1]
theorem RepM.merge : ∀ (more : List (Key × D)) (ys : List (Key × V)) (kvs : List (Key × D)) (zs : List (Key × V)), RepM K F more ys → RepM K F kvs zs → RepM K F (dMerge kvs more) (mergeK zs ys)
  | [], _, _, _, h, h2 => by simp only [RepM] at h; subst h; exact h2
  | (k, d) :: more, _, _, _, ⟨x, r, e, h1, h3⟩, h2 => by
    subst e
    exact RepM.merge more r _ _ h3 (RepM.put h2 h1)
end
theorem re_disp {X : Cx} {pos : Pos} {keys : List (Option Expr)} {values : List Expr} {ms : MA} (h : RP X pos keys values ms) (hall : keys.all (·.isSome) = true := by rfl) (hl : keys.length = values.length := by rfl) (h0 : keys ≠ [] := by exact (fun h => nomatch h))
    (h15 : keys.length ≤ 15 := by decide) : RE X (.Dict keys values pos) (mDisp ms) := by
  obtain ⟨trs, p1, s1⟩ := h
  refine ⟨_, pe_disp p1 hall hl h0 h15, fun σ H w s t Q r s' ok e k => ?_⟩
  simp only [mDisp] at e
  split at e
  · cases e
  · rename_i rs sa e1
    split at e
    · cases e
    · rename_i xs sb e2
      split at e
      · cases e
      · rename_i kvs e3
        split at e
        · rename_i h15
          cases e
          intro p hp
          have tN := ok.tN
          have okg := give_ok (o := .dK []) ok hp
          have stg := give_step (n := s.a.length) (t0 := t) (o := .dK []) ok hp
          have hO : (w.give p t).O p = some t := if_pos rfl
          refine s1 σ _ (w.give p t) s (t + 1) _ rs sa okg e1 fun w2 H2 ps t2 a2 ok2 st2 sl2 rel2 => ?_
          have l2 := ok.slen ok2
          have hO2 := st2.tmp p t hO (by omega) (Nat.lt_succ_self _)
          have nb : ¬ isBox (w.give p t).B p := fun ⟨q, g, e, z⟩ => by
            obtain ⟨_, z1, z2⟩ := okg.box q g e
            rcases z with rfl | rfl
            · rw [hO] at z1; cases z1
            · rw [hO] at z2; cases z2
          have hH2 := st2.keep p _ upd_same (fun i hi => by rw [hO] at hi; cases hi; omega) nb
          obtain ⟨w3, ok3, st3, rep, sl3, l3⟩ := takes_ok (t0 := t + 1) rs (flatP ps) xs sa _ w2 (t + 1) ok2 rel2 e2 (Nat.le_refl _) (by omega)
          rw [l2] at st3 l3
          have hO3 := st3.tmp p t hO2 (by omega) (Nat.lt_succ_self _)
          obtain ⟨ys, ep, rm⟩ := pairsK_rep xs ps kvs rep e3
          refine ⟨hH2, ys, ep, by rw [← RepM.length _ _ rm]; exact h15, ?_⟩
          have rm2 := RepM.merge kvs ys [] [] rm rfl
          have okM := mut_ok (o := .dK (mergeK [] ys)) ok3 hO3 (fun _ h => nomatch h) rfl rfl fun i q v h1 h2 => .inl ⟨h1, fun z => by have := (List.getElem?_eq_some_iff.mp h1).1; omega⟩
          have stM := mut_step (n := s.a.length) (t0 := t) (o := .dK (mergeK [] ys)) ok3 hO3 (.inr (Nat.le_refl _))
          exact k w3 _ (.ref p) t2 t (Nat.le_refl _) (by omega) okM (((stg.trans (st2.mono (by omega))).trans (st3.mono (by omega))).trans stM) (sl2.trans sl3) ⟨p, _, rfl, hO3, upd_same, rm2⟩
        · cases e

/-! ## the box, a list -/
def mBox (ms : MA) : ME := fun s => if s.b.c < 0 then match ms s with
  | .ok [.o (.lst l), .d (.int i), .d (.int j)] s1 => if 0 ≤ j ∧ s1.b.c < 0 then match intsD? l with
      | some ns => .ok .bx { s1 with b := ⟨ns, i, j⟩ }
      | none => .no
    else .no
  | _ => .no else .no
theorem re_box {X : Cx} {pos : Pos} {es : List Expr} {ms : MA} (h : RA X es ms) : RE X (.List es pos) (mBox ms) := by
  obtain ⟨ta, p1, s1⟩ := h
  refine ⟨_, pe_lst p1, fun σ H w s t Q r s' ok e k => ?_⟩
  simp only [mBox] at e
  split at e
  · rename_i hneg
    split at e
    · rename_i l i j sa e1
      split at e
      · rename_i hc
        obtain ⟨hj, hneg2⟩ := hc
        split at e
        · rename_i ns e2
          cases e
          have tN := ok.tN
          refine s1 σ H w s t _ _ sa ok e1 fun w2 H2 us t2 a2 ok2 st sl2 rel2 => ?_
          have l2 := ok.slen ok2
          have wB : w.B = none := ok.nob hneg
          have wB2 : w2.B = none := ok2.nob hneg2
          obtain ⟨x1, _, τ1, q1, b1, b2, r1, x2, _, τ2, q2, _, _, r2, x3, _, τ3, q3, _, _, r3, q4⟩ := rel2
          subst q4 q3 q2 q1
          simp only [RelR, Rep] at r2 r3
          subst r2 r3
          obtain ⟨g, xs, rfl, g1, g2, g3⟩ := r1
          have exs : xs = ns.map V.int := ints_rep ns xs (by rw [← intsD_eq e2]; exact g3)
          subst exs
          refine ⟨by show 3 ≤ sizeLine; decide, fun p hp => ?_⟩
          have hpg : p ≠ g := fun z => by subst z; rw [hp] at g2; cases g2
          have Fp : w2.F p = none := by
            cases z : w2.F p with
            | none => rfl
            | some u => have := ok2.sub p u z; rw [hp] at this; cases this
          have Fg := (ok2.own g τ1 g1).1
          have Op : w2.O p = none := by
            cases z : w2.O p with
            | none => rfl
            | some i => obtain ⟨_, ⟨o, h2, _⟩, _⟩ := ok2.own p i z; rw [hp] at h2; cases h2
          have hp0 : H p = none := st.free hp
          have hg : H g = none := by
            rcases st.newT g τ1 g1 (by omega) with z | z
            · exact z
            · have := (ok.own g τ1 z).2.2; omega
          refine k ⟨w2.F, fun b => if b = g then none else w2.O b, some (p, g)⟩ _ (.ref p) (t2 + 1) t (Nat.le_refl _) (by omega) ⟨fun b u e => ?_, ok2.len, fun i q v h1 h2 => ?_, fun b i e => ?_, Nat.le_succ_of_le ok2.tN, fun p' g' e => ?_, fun h => ?_⟩
            ⟨st.F, fun b o h ho hb => ?_, fun b o h => ?_, fun b i h h1 h2 => ?_, st.newF, fun b i h => ?_, fun b i h hi => ?_, .inr ⟨wB, fun p' g' e => ?_⟩⟩ sl2 ⟨p, g, rfl, rfl⟩
          · rw [upd_ne (ne_of_none e Fp)]; exact ok2.sub b u e
          · have hi : i < s.a.length := by
              have : i < sa.a.length := (List.getElem?_eq_some_iff.mp h1).1
              omega
            have hs := ok2.sl i q v h1 h2
            have hne : ∀ a, w2.O a = some i → a ≠ p ∧ a ≠ g := fun a ha => ⟨(fun z => by subst z; rw [Op] at ha; cases ha), (fun z => by subst z; rw [g1] at ha; cases ha; omega)⟩
            cases q with
            | none => trivial
            | some q =>
              cases q with
              | d y => exact hs
              | sl _ => exact hs
              | bx => obtain ⟨p', g', e', _⟩ := hs; rw [wB2] at e'; cases e'
              | st _ => exact hs
              | o c =>
                obtain ⟨u, e, h4⟩ := hs
                refine ⟨u, e, ?_⟩
                cases c with
                | lst ds => obtain ⟨a, xs, e, q1, q2, q3⟩ := h4; exact ⟨a, xs, e, (if_neg (hne a q1).2).trans q1, by rw [upd_ne (hne a q1).1]; exact q2, q3⟩
                | dK ds => obtain ⟨a, xs, e, q1, q2, q3⟩ := h4; exact ⟨a, xs, e, (if_neg (hne a q1).2).trans q1, by rw [upd_ne (hne a q1).1]; exact q2, q3⟩
                | dT ds => obtain ⟨a, xs, e, q1, q2, q3⟩ := h4; exact ⟨a, xs, e, (if_neg (hne a q1).2).trans q1, by rw [upd_ne (hne a q1).1]; exact q2, q3⟩
          · have e' : (if b = g then none else w2.O b) = some i := e
            by_cases hb : b = g
            · rw [if_pos hb] at e'; cases e'
            · rw [if_neg hb] at e'
              obtain ⟨h1, ⟨u, h2, nt⟩, h3⟩ := ok2.own b i e'
              exact ⟨h1, ⟨u, by rw [upd_ne (fun z => by subst z; rw [hp] at h2; cases h2)]; exact h2, nt⟩, Nat.lt_succ_of_lt h3⟩
          · cases e
            refine ⟨⟨Fp, Fg, hpg, upd_same, by rw [upd_ne (Ne.symm hpg)]; exact g2⟩, ?_, if_pos rfl⟩
            show (if p = g then none else w2.O p) = none
            rw [if_neg hpg]; exact Op
          · have h' : j < 0 := h
            omega
          · rw [upd_ne (fun z => by subst z; rw [hp0] at h; cases h)]
            exact st.keep b o h ho hb
          · obtain ⟨o', h'⟩ := st.there b o h
            exact ⟨o', by rw [upd_ne (fun z => by subst z; rw [hp] at h'; cases h')]; exact h'⟩
          · have h' := st.tmp b i h h1 h2
            show (if b = g then none else w2.O b) = some i
            rw [if_neg (fun z => by subst z; rw [g1] at h'; cases h'; omega)]
            exact h'
          · have h' : (if b = g then none else w2.O b) = some i := h
            by_cases hb : b = g
            · rw [if_pos hb] at h'; cases h'
            · rw [if_neg hb] at h'; exact st.newO b i h'
          · have h' : (if b = g then none else w2.O b) = some i := h
            by_cases hb : b = g
            · rw [if_pos hb] at h'; cases h'
            · rw [if_neg hb] at h'; exact st.newT b i h' hi
          · cases e; exact ⟨hp0, hg⟩
        · cases e
      · cases e
    · cases e
  · cases e
end Qz
namespace Qz
open PySem PySem.Spec L2
open PyProof.Rows hiding St
/-! ## short names for the derivations -/
theorem bo_int : bootBuiltins "int" = some (.type "int") := by decide +kernel
theorem bo_bool : bootBuiltins "bool" = some (.type "bool") := by decide +kernel
theorem bo_str : bootBuiltins "str" = some (.type "str") := by decide +kernel
theorem bo_list : bootBuiltins "list" = some (.type "list") := by decide +kernel
theorem bo_tuple : bootBuiltins "tuple" = some (.type "tuple") := by decide +kernel
theorem bo_dict : bootBuiltins "dict" = some (.type "dict") := by decide +kernel
section
variable {X : Cx} {k : Nat}
theorem Here.un1 (h : Here X k) : X.A.units + 1 < cLine := by have := h.un; omega
theorem Here.un64 (h : Here X k) : X.A.units + 64 < cLine := by have := h.un; omega
theorem o_eqq (h : Here X k) : OpR X (compareOp .Eq) (rEqD X.K) := op_eqD (by have := h.un; omega)
theorem o_neq (h : Here X k) : OpR X (compareOp .NotEq) (rNeD X.K) := op_neD (by have := h.un; omega)
theorem Here.blk {s : Shared} {H : Hp} {scope : Scope} {env : Env} {fp : List Addr} (h : Here X k) : Here (X.blk s H scope env fp) k := ⟨h.gd, h.sy, h.rm⟩
theorem re_globE {x : Str} {i : Int} {pos : Pos} (hg : Gl X x) (h : ∃ u, X.mg x = some u ∧ RelV (.int i) u) (hd : (x == ("__debug__" : Str)) = false := by decide) : RE X (.Name x pos) (mC (.int i)) := by
  obtain ⟨u, h1, h2⟩ := h
  exact re_glob hg h1 h2 hd
end
section
variable {X : Cx} {e : Expr} {es : List Expr} {ms mk : MA} {k np : Nat} {f : Addr} {fd : FuncData} {ps : List Str} {x : Str} {p pos : Pos} {g : DF} {kws : List Keyword} {ks : List Str} {nu nk : Nat} {perm : List Nat}
theorem rc_call (F : FnG X.prog X.w X.K X.mg X.base k f fd ps (spD X.K np g)) (hr : Here X k) (hm : X.mg x = some (.ref f)) (hk : PySem.W.keepIn X.K (.ref f) = true) (hb : Binds X.K fd ps [])
    (ha : RA X (e :: es) ms) (hl : ps.length = np := by rfl) (hg : Gl X x := by rfl) (hdb : (x == ("__debug__" : Str)) = false := by decide) (he : starEach (e :: es) X.env = (false, eval e X.env) :: starEach es X.env := by rfl) (hpl : (backTo pos (starEach es X.env)).any (·.1) = false := by rfl) :
    RE X (.Call (.Name x p) (e :: es) [] pos) (mCall np g ms) := by
  subst hl
  exact re_call F hr hm hk hb ha hg hdb he hpl
theorem rc_call0 (F : FnG X.prog X.w X.K X.mg X.base k f fd ps (spD X.K np g)) (hr : Here X k) (hm : X.mg x = some (.ref f)) (hk : PySem.W.keepIn X.K (.ref f) = true) (hb : Binds X.K fd ps [])
    (hl : ps.length = np := by rfl) (hg : Gl X x := by rfl) (hdb : (x == ("__debug__" : Str)) = false := by decide) : RE X (.Call (.Name x p) [] [] pos) (mCall np g mNil) := by
  subst hl
  exact re_call0 F hr hm hk hb hg hdb
theorem rc_callK (F : FnG X.prog X.w X.K X.mg X.base k f fd ps (spD X.K np g)) (hr : Here X k) (hm : X.mg x = some (.ref f)) (hk : PySem.W.keepIn X.K (.ref f) = true) (hb : KBinds X.K fd ps ks (gP nu nk perm) (gP nu nk perm))
    (ha : RA X (e :: es) ms) (hkw : RK X kws mk) (hl : ps.length = np := by rfl) (hall : (backToKw pos (keywordEach kws X.env)).all (·.1.isSome) = true := by rfl) (hks : (backToKw pos (keywordEach kws X.env)).filterMap (·.1) = ks := by rfl) (hg : Gl X x := by rfl)
    (hdb : (x == ("__debug__" : Str)) = false := by decide) (he : starEach (e :: es) X.env = (false, eval e X.env) :: starEach es X.env := by rfl)
    (hpl : ((backTo pos (starEach (e :: es) X.env)).any (·.1) || (backToKw pos (keywordEach kws X.env)).any (·.1.isNone)) = false := by rfl) :
    RE X (.Call (.Name x p) (e :: es) kws pos) (mCallK np g nu nk perm ms mk) := by
  subst hl
  exact re_callK F hr hm hk hb ha hkw hall hks hg hdb he hpl
theorem rc_callK0 (F : FnG X.prog X.w X.K X.mg X.base k f fd ps (spD X.K np g)) (hr : Here X k) (hm : X.mg x = some (.ref f)) (hk : PySem.W.keepIn X.K (.ref f) = true) (hb : KBinds X.K fd ps ks (gP 0 nk perm) (gP 0 nk perm))
    (hkw : RK X kws mk) (hl : ps.length = np := by rfl) (hall : (backToKw pos (keywordEach kws X.env)).all (·.1.isSome) = true := by rfl) (hks : (backToKw pos (keywordEach kws X.env)).filterMap (·.1) = ks := by rfl) (hg : Gl X x := by rfl)
    (hdb : (x == ("__debug__" : Str)) = false := by decide) (hpl : ((backTo pos (starEach [] X.env)).any (·.1) || (backToKw pos (keywordEach kws X.env)).any (·.1.isNone)) = false := by rfl) :
    RE X (.Call (.Name x p) [] kws pos) (mCallK np g 0 nk perm mNil mk) := by
  subst hl
  exact re_callK0 F hr hm hk hb hkw hall hks hg hdb hpl
end
def drawB (b : Bx) (m : Int) : Int × Bx := match b.g with
  | a :: r => (a % m, { b with g := if a < m then r else a / m :: r })
  | [] =>
    let c := b.c + 1
    let x := (b.s + 2654435761 * c) % 4294967291
    let y := (x * x + 40503 * c + 11) % 4294967279
    let z := (y * y + b.s) % 4294967231
    ((z / 64) % m, { b with c := c })
def mDraw : MS := fun (s : S) => match (s.a[0]? : Option (Option R)), (s.a[1]? : Option (Option R)) with
  | some (some .bx), some (some (.d (.int m))) => if s.a.length = 4 ∧ 0 < m ∧ m < 1267650600228229401496703205376 then .ok (.rt (.d (.int (drawB s.b m).1))) { s with b := (drawB s.b m).2 } else .no
  | _, _ => .no
def f_law_draw : DF := runF 4 mDraw
end Qz
namespace Qz
open PySem PySem.Spec L2
open PyProof.Rows hiding St
/-! ## the draw -/
def tIntC (te : TE) : TE := tCB (fun xs H Q => (∃ i, xs = [V.int i] ∧ Q (V.int i) H) ∨ ∃ k, xs = [V.bl k] ∧ Q (V.int (if k = true then 1 else 0)) H) (tCons te tNil)
def tMod (a b : TE) : TE := tOp (rI (fun x j => 0 < j) fun i j => V.int (i % j)) a b
def tMulI (a b : TE) : TE := tOp (rI CMul fun i j => V.int (i * j)) a b
def tAddI (a b : TE) : TE := tOp (rI0 fun i j => V.int (i + j)) a b
def tDivI (a b : TE) : TE := tOp (rI CDivB fun i j => V.int (i / j)) a b
def tIx (K : PySem.W.Frag) (i : Int) : TE := tOp (rIxL K) (tVar 0) (tC (.int i))
def tsDraw1 (K : PySem.W.Frag) : TS := tIfS (tTest (tOp (rNeD K) (tIx K 0) (tLst tNil)))
  (tSeq (tAsg (tOp (rIxL K) (tIx K 0) (tC (.int 0))) (gName 2)) (tSeq (tAsg (tDivI (tVar 2) (tVar 1)) (gSub (tIx K 0) (tC (.int 0)) rSetL))
    (tSeq (tIfS (tTest (tOp (rI0 fun i j => .bl (decide (i < j))) (tVar 2) (tVar 1))) (tSeq (tDrop (tBM K "list" rPopAt (tIx K 0) (tCons (tC (.int 0)) tNil))) tNext) tNext)
      (tSeq (tRet (tMod (tIntC (tVar 2)) (tVar 1))) tNext)))) tNext
def tsDraw2 (K : PySem.W.Frag) : TS := tSeq (tAsg (tAddI (tIx K 2) (tC (.int 1))) (gSub (tVar 0) (tC (.int 2)) rSetL))
  (tSeq (tAsg (tMod (tIntC (tAddI (tIx K 1) (tMulI (tC (.int 2654435761)) (tIx K 2)))) (tC (.int 4294967291))) (gName 3))
  (tSeq (tAsg (tMod (tIntC (tAddI (tAddI (tMulI (tVar 3) (tVar 3)) (tMulI (tC (.int 40503)) (tIx K 2))) (tC (.int 11)))) (tC (.int 4294967279))) (gName 3))
  (tSeq (tAsg (tMod (tIntC (tAddI (tMulI (tVar 3) (tVar 3)) (tIx K 1))) (tC (.int 4294967231))) (gName 3))
  (tSeq (tRet (tMod (tIntC (tDivI (tVar 3) (tC (.int 64)))) (tVar 1))) tNext))))
def tsDraw (K : PySem.W.Frag) : TS := tSeq (tsDraw1 K) (tsDraw2 K)
section
variable {K : PySem.W.Frag} {t t0 n : Nat} {w : Wd} {H H' : Hp} {σ : St} {s : S} {p g : Addr} {b' : Bx}
theorem box_mut (ok : OKs K w H σ s t) (hB : w.B = some (p, g)) (hc : 0 ≤ b'.c) (hk : ∀ a o, a ≠ p → a ≠ g → H a = some o → H' a = some o) (hp : H' p = some (bxF g b')) (hg : H' g = some (.lst (b'.g.map V.int))) :
    OKs K w H' σ { s with b := b' } t ∧ Step n t0 w H w H' := by
  obtain ⟨bo, op, og⟩ := ok.box p g hB
  have nO : ∀ a i, w.O a = some i → a ≠ p ∧ a ≠ g := fun a i h => ⟨(fun z => by subst z; rw [op] at h; cases h), (fun z => by subst z; rw [og] at h; cases h)⟩
  refine ⟨⟨fun b u e => ?_, ok.len, fun i q v h1 h2 => SlR.mono (ok.sl i q v h1 h2) (Same.refl _) rfl (fun a ha => ⟨ha, ?_⟩), fun a i e => ?_, ok.tN, fun p' g' e => ?_, fun h => ?_⟩,
    ⟨Same.refl _, fun a o h _ hb => ?_, fun a o h => ?_, fun _ _ h _ _ => h, fun _ h => .inl h, fun a i h => .inr (by rw [h]; simp), fun _ _ h _ => .inr h, .inl rfl⟩⟩
  · exact hk b u (ne_of_none e bo.fp) (ne_of_none e bo.fg) (ok.sub b u e)
  · obtain ⟨_, ⟨u, h2, _⟩, _⟩ := ok.own a i ha
    rw [h2]
    exact hk a u (nO a i ha).1 (nO a i ha).2 h2
  · obtain ⟨h1, ⟨u, h2, nt⟩, h3⟩ := ok.own a i e
    exact ⟨h1, ⟨u, hk a u (nO a i e).1 (nO a i e).2 h2, nt⟩, h3⟩
  · rw [hB] at e; cases e
    exact ⟨⟨bo.fp, bo.fg, bo.ne, hp, hg⟩, op, og⟩
  · have h' : b'.c < 0 := h
    omega
  · exact hk a o (fun z => hb ⟨p, g, hB, .inl z⟩) (fun z => hb ⟨p, g, hB, .inr z⟩) h
  · by_cases z : a = p
    · subst z; exact ⟨_, hp⟩
    · by_cases z2 : a = g
      · subst z2; exact ⟨_, hg⟩
      · exact ⟨o, hk a o z z2 h⟩
end
theorem ints_dp {K : PySem.W.Frag} {H : Hp} : ∀ ns : List Int, DpAll K H (ns.map V.int) (ns.map PyData.int)
  | [] => .nil
  | n :: ns => .cons (.int n) (ints_dp ns)
theorem ints_lay : ∀ ns : List Int, PyData.canLayAll0 (ns.map .int) = true ∧ PyData.depthAll (ns.map .int) = 0
  | [] => ⟨rfl, rfl⟩
  | n :: ns => by
    obtain ⟨h1, h2⟩ := ints_lay ns
    simp [PyData.canLayAll0, PyData.canLay0, PyData.depthAll, PyData.depth, h1, h2]
theorem ints_shaped (ns : List Int) : SeqAt.shaped (.list (ns.map .int)) = true := by
  obtain ⟨h1, h2⟩ := ints_lay ns
  simp [SeqAt.shaped, PyData.canLay0, PyData.depth, h1, h2]
theorem draw_snd {K : PySem.W.Frag} : SndS K (tsDraw K) mDraw := by
  intro σ H w s D fl s' ok e k
  unfold mDraw at e
  split at e
  · rename_i m h0 h1
    split at e
    · rename_i hm
      cases e
      have hlen := ok.len
      have i0 := (List.getElem?_eq_some_iff.mp h0).1
      have i1 := (List.getElem?_eq_some_iff.mp h1).1
      obtain ⟨v0, q0⟩ : ∃ v, σ[0]? = some v := ⟨σ[0]'(by omega), by simp [hlen, i0]⟩
      obtain ⟨v1, q1⟩ : ∃ v, σ[1]? = some v := ⟨σ[1]'(by omega), by simp [hlen, i1]⟩
      obtain ⟨p, g, hB, rfl⟩ := ok.sl 0 _ _ h0 q0
      obtain ⟨u1, rfl, r1⟩ := ok.sl 1 _ _ h1 q1
      simp only [Rep] at r1
      subst r1
      obtain ⟨bo, op, og⟩ := ok.box p g hB
      have hc : 0 ≤ s.b.c := by
        rcases Int.lt_or_le s.b.c 0 with z | z
        · have := ok.nob z
          rw [hB] at this; cases this
        · exact z
      obtain ⟨h6, hm0, hm1⟩ := hm
      have l6 : σ.length = 4 := by omega
      have qget : ∀ {σ : St} {i : Nat} {x : V}, σ.length = 4 → i < 4 → (σ.set i (some x))[i]? = some (some x) := fun h hi => List.getElem?_set_self (by omega)
      have keep2 : ∀ {σ : St} {i : Nat} {x : V}, 2 ≤ i → σ[0]? = some (some (.ref p)) → σ[1]? = some (some (.int m)) → (σ.set i (some x))[0]? = some (some (.ref p)) ∧ (σ.set i (some x))[1]? = some (some (.int m)) := fun hi h0 h1 => ⟨by rw [List.getElem?_set_ne (by omega)]; exact h0, by rw [List.getElem?_set_ne (by omega)]; exact h1⟩
      have Hp0 : H p = some (.lst [.ref g, .int s.b.s, .int s.b.c]) := bo.hp
      have ix0 : ∀ {x y z : V}, atI [x, y, z] 0 = some x := rfl
      have ix1 : ∀ {x y z : V}, atI [x, y, z] 1 = some y := rfl
      have ix2 : ∀ {x y z : V}, atI [x, y, z] 2 = some z := rfl
      -- deck[0] != []
      refine ⟨.ref p, q0, p, _, 0, .ref g, rfl, rfl, SqL.of Hp0, ix0, Nat.zero_le _, fun q hq => ⟨.list (s.b.g.map .int), .list [], .lst (SqL.of (by rw [upd_ne (ne_of_none bo.hg hq)]; exact bo.hg)) (ints_dp _), .lst (SqL.of upd_same) .nil, ints_shaped _, rfl, _, rfl, ?_⟩⟩
      have Hp1 : upd H q (.lst []) p = some (.lst [.ref g, .int s.b.s, .int s.b.c]) := by rw [upd_ne (ne_of_none bo.hp hq)]; exact bo.hp
      have Hg1 : upd H q (.lst []) g = some (.lst (s.b.g.map V.int)) := by rw [upd_ne (ne_of_none bo.hg hq)]; exact bo.hg
      have Hk1 : ∀ a o, H a = some o → upd H q (.lst []) a = some o := fun a o h => by rw [upd_ne (ne_of_none h hq)]; exact h
      generalize upd H q (.lst []) = H1 at Hp1 Hg1 Hk1 ⊢
      have fin : ∀ (H2 : Hp) (b' : Bx) (v : Int), drawB s.b m = (v, b') → 0 ≤ b'.c → (∀ a o, a ≠ p → a ≠ g → H1 a = some o → H2 a = some o) → H2 p = some (bxF g b') → H2 g = some (.lst (b'.g.map V.int)) → D.rt (.int v) H2 := by
        intro H2 b' v e1 e2 e3 e4 e5
        obtain ⟨ok2, st2⟩ := box_mut (n := s.a.length) (t0 := s.a.length) ok hB e2 (fun a o n1 n2 h => e3 a o n1 n2 (Hk1 a o h)) e4 e5
        have k' := k.rt _ rfl σ w H2 (.int v) (s.a.length + 1) s.a.length (Nat.le_refl _) (Nat.lt_succ_self _)
        rw [e1] at k'
        exact k' (ok2.up (Nat.le_succ _)) rfl st2 (by simp only [RelR, Rep])
      have npg := bo.ne
      clear k
      cases hb : s.b.g with
      | cons a r =>
        rw [hb] at Hg1
        refine iteT ?_
        refine ⟨.ref p, q0, p, _, 0, .ref g, rfl, rfl, SqL.of Hp1, ix0, g, _, 0, .int a, rfl, rfl, SqL.of Hg1, by simp [atI, ixN], ?_⟩
        obtain ⟨b0, b1⟩ := keep2 (x := .int a) (i := 2) (by decide) q0 q1
        have b3 := qget (x := V.int a) (i := 2) l6 (by decide)
        show tSeq _ _ _ (σ.set 2 (some (.int a))) H1
        generalize σ.set 2 (some (.int a)) = σ2 at b0 b1 b3 ⊢
        refine ⟨.int a, b3, .int m, b1, a, m, rfl, rfl, ⟨hm0, hm1⟩, .ref p, b0, p, _, 0, .ref g, rfl, rfl, SqL.of Hp1, ix0, g, _, 0, 0, rfl, rfl, Hg1, by simp [ixN], ?_⟩
        refine ⟨.int a, b3, .int m, b1, a, m, rfl, rfl, _, rfl, ?_⟩
        have hcb : 0 ≤ s.b.c := hc
        have Hp2 : ∀ {o : HO}, upd H1 g o p = some (.lst [.ref g, .int s.b.s, .int s.b.c]) := by intro o; rw [upd_ne npg]; exact Hp1
        by_cases ham : a < m
        · rw [decide_eq_true ham]
          refine iteT ?_
          refine ⟨.ref p, b0, p, _, 0, .ref g, rfl, rfl, SqL.of Hp2, ix0, .inl ⟨rfl, _, SqL.of upd_same⟩, g, _, 0, 0, .int (a / m), rfl, rfl, upd_same, by decide, by decide, by simp [seqIndex?], by simp, ?_⟩
          refine ⟨.int a, b3, .inl ⟨a, rfl, .int m, b1, a, m, rfl, rfl, hm0, ?_⟩⟩
          refine fin _ { s.b with g := r } _ (by simp only [drawB, hb, if_pos ham]) hcb (fun c o n1 n2 h => by rw [upd_ne n2, upd_ne n2]; exact h) (by rw [upd_ne npg, upd_ne npg]; exact Hp1) (by rw [upd_same]; simp)
        · rw [decide_eq_false ham]
          refine iteF ?_
          refine ⟨.int a, b3, .inl ⟨a, rfl, .int m, b1, a, m, rfl, rfl, hm0, ?_⟩⟩
          refine fin _ { s.b with g := a / m :: r } _ (by simp only [drawB, hb, if_neg ham]) hcb (fun c o n1 n2 h => by rw [upd_ne n2]; exact h) (by rw [upd_ne npg]; exact Hp1) (by rw [upd_same]; simp)
      | nil =>
        rw [hb] at Hg1
        refine iteF ?_
        refine ⟨.ref p, q0, p, _, 2, .int s.b.c, rfl, rfl, SqL.of Hp1, ix2, s.b.c, 1, rfl, rfl, .ref p, q0, p, _, 2, 2, rfl, rfl, Hp1, by simp [ixN], ?_⟩
        have Hp2 : upd H1 p (.lst ([V.ref g, .int s.b.s, .int s.b.c].set 2 (.int (s.b.c + 1)))) p = some (.lst [.ref g, .int s.b.s, .int (s.b.c + 1)]) := upd_same
        have Hg2 : upd H1 p (.lst ([V.ref g, .int s.b.s, .int s.b.c].set 2 (.int (s.b.c + 1)))) g = some (.lst []) := by rw [upd_ne (Ne.symm npg)]; exact Hg1
        have Hk2 : ∀ a o, a ≠ p → a ≠ g → H1 a = some o → upd H1 p (.lst ([V.ref g, .int s.b.s, .int s.b.c].set 2 (.int (s.b.c + 1)))) a = some o := fun a o n1 _ h => by rw [upd_ne n1]; exact h
        generalize upd H1 p (.lst ([V.ref g, .int s.b.s, .int s.b.c].set 2 (.int (s.b.c + 1)))) = H2 at Hp2 Hg2 Hk2 ⊢
        have sq := SqL.of (K := K) Hp2
        refine ⟨.ref p, q0, p, _, 1, .int s.b.s, rfl, rfl, sq, ix1, .ref p, q0, p, _, 2, .int (s.b.c + 1), rfl, rfl, sq, ix2, 2654435761, s.b.c + 1, rfl, rfl, .inl (by decide), s.b.s, _, rfl, rfl, .inl ⟨_, rfl, _, 4294967291, rfl, rfl, (show (0 : Int) < 4294967291 by decide), ?_⟩⟩
        show tSeq _ _ _ (σ.set 3 (some (.int ((s.b.s + 2654435761 * (s.b.c + 1)) % 4294967291)))) H2
        have x0 := Int.emod_nonneg (s.b.s + 2654435761 * (s.b.c + 1)) (b := 4294967291) (by decide)
        have x1 := Int.emod_lt_of_pos (s.b.s + 2654435761 * (s.b.c + 1)) (b := 4294967291) (by decide)
        generalize hx : (s.b.s + 2654435761 * (s.b.c + 1)) % 4294967291 = x at x0 x1 ⊢
        obtain ⟨c0, c1⟩ := keep2 (x := .int x) (i := 3) (by decide) q0 q1
        have c5 := qget (x := V.int x) (i := 3) l6 (by decide)
        have cl : (σ.set 3 (some (V.int x))).length = 4 := by simp [l6]
        generalize σ.set 3 (some (.int x)) = σ3 at c0 c1 cl c5 ⊢
        refine ⟨.int x, c5, .int x, c5, x, x, rfl, rfl, .inl ⟨by omega, by omega⟩, .ref p, c0, p, _, 2, .int (s.b.c + 1), rfl, rfl, sq, ix2, 40503, s.b.c + 1, rfl, rfl, .inl (by decide), x * x, _, rfl, rfl, _, 11, rfl, rfl, .inl ⟨_, rfl, _, 4294967279, rfl, rfl, (show (0 : Int) < 4294967279 by decide), ?_⟩⟩
        show tSeq _ _ _ (σ3.set 3 (some (.int ((x * x + 40503 * (s.b.c + 1) + 11) % 4294967279)))) H2
        have y0 := Int.emod_nonneg (x * x + 40503 * (s.b.c + 1) + 11) (b := 4294967279) (by decide)
        have y1 := Int.emod_lt_of_pos (x * x + 40503 * (s.b.c + 1) + 11) (b := 4294967279) (by decide)
        generalize hy : (x * x + 40503 * (s.b.c + 1) + 11) % 4294967279 = y at y0 y1 ⊢
        obtain ⟨d0, d1⟩ := keep2 (x := .int y) (i := 3) (by decide) c0 c1
        have d5 := qget (x := V.int y) (i := 3) cl (by decide)
        have dl : (σ3.set 3 (some (V.int y))).length = 4 := by simp [cl]
        generalize σ3.set 3 (some (.int y)) = σ4 at d0 d1 dl d5 ⊢
        refine ⟨.int y, d5, .int y, d5, y, y, rfl, rfl, .inl ⟨by omega, by omega⟩, .ref p, d0, p, _, 1, .int s.b.s, rfl, rfl, sq, ix1, y * y, s.b.s, rfl, rfl, .inl ⟨_, rfl, _, 4294967231, rfl, rfl, (show (0 : Int) < 4294967231 by decide), ?_⟩⟩
        show tSeq _ _ _ (σ4.set 3 (some (.int ((y * y + s.b.s) % 4294967231)))) H2
        obtain ⟨f0, f1⟩ := keep2 (x := .int ((y * y + s.b.s) % 4294967231)) (i := 3) (by decide) d0 d1
        have f5 := qget (x := V.int ((y * y + s.b.s) % 4294967231)) (i := 3) dl (by decide)
        refine ⟨.int ((y * y + s.b.s) % 4294967231), f5, _, 64, rfl, rfl, ⟨by decide, by decide⟩, .inl ⟨_, rfl, .int m, f1, _, m, rfl, rfl, hm0, ?_⟩⟩
        refine fin _ { s.b with c := s.b.c + 1 } _ ?_ (by show 0 ≤ s.b.c + 1; omega) Hk2 ?_ ?_
        · simp only [drawB, hb, hx, hy]
        · rw [Hp2]; rfl
        · rw [Hg2]; show _ = some (HO.lst (s.b.g.map V.int)); rw [hb]; rfl
    · cases e
  · cases e
end Qz
namespace Qz
open PySem PySem.Spec L2
open PyProof.Rows hiding St
/-! ## what a dict holds at a key -/
def viewC (s : S) : R → Option C
  | .o c => some c
  | .sl i => match s.a[i]? with
    | some (some (.o c)) => some c
    | _ => none
  | _ => none
def getC (c : C) (k : D) : Option (Option D) := match c with
  | .dK l => (keyOf k).map fun q => dGetK l q
  | .dT l => match k with
    | .tuple ks => (keysOf ks).map fun q => dGetK l q
    | _ => none
  | .lst _ => none
def mGetD (md mk : ME) : ME := fun s => match md s with
  | .no => .no
  | .ok r1 s1 => match mk s1 with
    | .ok (.d k) s2 => match viewC s2 r1 with
      | some c => match getC c k with
        | some (some v) => .ok (.d v) s2
        | _ => .no
      | none => .no
    | _ => .no
def mInD (neg : Bool) (mk md : ME) : ME := fun s => match mk s with
  | .ok (.d k) s1 => match md s1 with
    | .ok r2 s2 => match viewC s2 r2 with
      | some c => match getC c k with
        | some o => .ok (.d (.bool (o.isSome != neg))) s2
        | none => .no
      | none => .no
    | .no => .no
  | _ => .no
section
variable {K : PySem.W.Frag} {t t0 τ : Nat} {H : Hp} {σ : St}
theorem viewC_ok {w : Wd} {s : S} {r : R} {u : V} {c : C} (ok : OKs K w H σ s t) (h : RelR K w H σ s τ r u) (e : viewC s r = some c) : ∃ i, Own K w H i c u := by
  cases r with
  | d x => cases e
  | bx => cases e
  | st _ => exact h.elim
  | o c' => cases e; exact ⟨τ, h⟩
  | sl i =>
    obtain ⟨q, h1, h2⟩ := h
    simp only [viewC, h1] at e
    split at e
    · rename_i q' c' hq
      cases hq
      cases e
      obtain ⟨v, e1, own⟩ := ok.sl i _ _ h1 h2
      cases e1
      exact ⟨i, own⟩
    · cases e
def optRep (K : PySem.W.Frag) (F : Hp) : Option D → Option V → Prop
  | some d, some v => Rep K F d v
  | none, none => True
  | _, _ => False
theorem get_opt {F : Hp} {κ : Type} [DecidableEq κ] (k : κ) (ds : List (κ × D)) (ys : List (κ × V)) (h : RepM K F ds ys) : optRep K F (dGetK ds k) (valV ys k) := by
  rcases RepM.get k ds ys h with ⟨e1, e2⟩ | ⟨d, x, e1, e2, h3⟩ <;> rw [e1, e2]
  · trivial
  · exact h3
theorem get_own {w : Wd} {i : Nat} {c : C} {k : D} {o : Option D} {u y : V} (sub : Same w.F H) (h : Own K w H i c u) (e : getC c k = some o) (hk : Rep K w.F k y) : ∃ a ov, u = .ref a ∧ DGet H a y ov ∧ optRep K w.F o ov := by
  cases c with
  | lst _ => cases e
  | dK l =>
    obtain ⟨a, ys, rfl, _, h2, h3⟩ := h
    simp only [getC, Option.map_eq_some_iff] at e
    obtain ⟨q, eq, rfl⟩ := e
    rw [keyOf_rep eq hk]
    exact ⟨a, _, rfl, DGet.k h2, get_opt q l ys h3⟩
  | dT l =>
    obtain ⟨a, ys, rfl, _, h2, h3⟩ := h
    unfold getC at e
    simp only at e
    split at e
    · rename_i ks
      simp only [Option.map_eq_some_iff] at e
      obtain ⟨q, eq, rfl⟩ := e
      simp only [Rep] at hk
      obtain ⟨p, us, rfl, h4, h5⟩ := hk
      rw [keysOf_rep _ _ _ eq h5] at h4
      exact ⟨a, _, rfl, DGet.t h2 (sub _ _ h4), get_opt q l ys h3⟩
    · cases e
theorem getD_snd {td ty : TE} {md mk : ME} (h1 : SndE K td md) (h2 : SndE K ty mk) : SndE K (tDGet td ty) (mGetD md mk) := by
  intro σ H w s t Q r s' ok e k
  simp only [mGetD] at e
  split at e
  · cases e
  · rename_i r1 s1 e1
    split at e
    · rename_i kk s2 e2
      split at e
      · rename_i c e3
        split at e
        · rename_i v e4
          cases e
          refine h1 σ H w s t _ r1 s1 ok e1 fun w1 H1 u t1 τ1 a1 a2 ok1 st1 sl1 rel1 => ?_
          refine h2 σ H1 w1 s1 t1 _ _ _ ok1 e2 fun w2 H2 y t2 τ2 b1 b2 ok2 st2 sl2 rel2 => ?_
          have l := ok.slen ok1
          have tN := ok.tN
          have rel1' := RelR.keep ok1 rel1 st2 (by omega) (by omega) sl2
          rw [l] at st2
          obtain ⟨i, own⟩ := viewC_ok ok2 rel1' e3
          obtain ⟨a, ov, rfl, g, rep⟩ := get_own ok2.sub own e4 rel2
          cases ov with
          | none => exact rep.elim
          | some v' => exact ⟨a, v', rfl, g, k w2 H2 v' t2 τ2 (by omega) b2 ok2 (st1.trans (st2.mono (by omega))) (sl1.trans sl2) rep⟩
        · cases e
      · cases e
    · cases e
theorem inD_snd {td ty : TE} {md mk : ME} (h1 : SndE K ty mk) (h2 : SndE K td md) : SndE K (tDIn ty td) (mInD false mk md) := by
  intro σ H w s t Q r s' ok e k
  simp only [mInD] at e
  split at e
  · rename_i kk s1 e1
    split at e
    · rename_i r2 s2 e2
      split at e
      · rename_i c e3
        split at e
        · rename_i o e4
          cases e
          refine h1 σ H w s t _ _ s1 ok e1 fun w1 H1 y t1 τ1 a1 a2 ok1 st1 sl1 rel1 => ?_
          refine h2 σ H1 w1 s1 t1 _ r2 _ ok1 e2 fun w2 H2 u t2 τ2 b1 b2 ok2 st2 sl2 rel2 => ?_
          have l := ok.slen ok1
          have tN := ok.tN
          have rel1' := RelR.keep ok1 rel1 st2 (by omega) (by omega) sl2
          rw [l] at st2
          obtain ⟨i, own⟩ := viewC_ok ok2 rel2 e3
          obtain ⟨a, ov, rfl, g, rep⟩ := get_own ok2.sub own e4 rel1'
          refine ⟨a, ov, rfl, g, k w2 H2 _ t2 τ2 (by omega) b2 ok2 (st1.trans (st2.mono (by omega))) (sl1.trans sl2) ?_⟩
          cases o <;> cases ov <;> first | exact rep.elim | (simp only [RelR, Rep]; rfl)
        · cases e
      · cases e
    · cases e
  · cases e
theorem ninD_snd {td ty : TE} {md mk : ME} (h1 : SndE K ty mk) (h2 : SndE K td md) : SndE K (tDNotIn ty td) (mInD true mk md) := by
  intro σ H w s t Q r s' ok e k
  simp only [mInD] at e
  split at e
  · rename_i kk s1 e1
    split at e
    · rename_i r2 s2 e2
      split at e
      · rename_i c e3
        split at e
        · rename_i o e4
          cases e
          refine h1 σ H w s t _ _ s1 ok e1 fun w1 H1 y t1 τ1 a1 a2 ok1 st1 sl1 rel1 => ?_
          refine h2 σ H1 w1 s1 t1 _ r2 _ ok1 e2 fun w2 H2 u t2 τ2 b1 b2 ok2 st2 sl2 rel2 => ?_
          have l := ok.slen ok1
          have tN := ok.tN
          have rel1' := RelR.keep ok1 rel1 st2 (by omega) (by omega) sl2
          rw [l] at st2
          obtain ⟨i, own⟩ := viewC_ok ok2 rel2 e3
          obtain ⟨a, ov, rfl, g, rep⟩ := get_own ok2.sub own e4 rel1'
          refine ⟨a, ov, rfl, g, k w2 H2 _ t2 τ2 (by omega) b2 ok2 (st1.trans (st2.mono (by omega))) (sl1.trans sl2) ?_⟩
          cases o <;> cases ov <;> first | exact rep.elim | (simp only [RelR, Rep]; rfl)
        · cases e
      · cases e
    · cases e
  · cases e
end
section
variable {X : Cx} {o i : Expr} {pos : Pos} {md mk : ME} {n : Nat}
theorem re_getD (hr : Here X n) (ho : RE X o md) (hi : RE X i mk) (hs : NoSl i := by exact fun _ _ => rfl) : RE X (.Subscript o i pos) (mGetD md mk) := by
  obtain ⟨t1, p1, s1⟩ := ho
  obtain ⟨t2, p2, s2⟩ := hi
  exact ⟨_, pe_dget hr.un1 p1 p2 hs, getD_snd s1 s2⟩
theorem re_inD (hr : Here X n) (hi : RE X i mk) (ho : RE X o md) (h1 : behindInMarks .In o = false := by rfl) : RE X (.Compare i [.In] [o] pos) (mInD false mk md) := by
  obtain ⟨t1, p1, s1⟩ := ho
  obtain ⟨t2, p2, s2⟩ := hi
  exact ⟨_, pe_cmp (pc_din hr.un1 p2 p1) h1, inD_snd s2 s1⟩
theorem re_ninD (hr : Here X n) (hi : RE X i mk) (ho : RE X o md) (h1 : behindInMarks .NotIn o = false := by rfl) : RE X (.Compare i [.NotIn] [o] pos) (mInD true mk md) := by
  obtain ⟨t1, p1, s1⟩ := ho
  obtain ⟨t2, p2, s2⟩ := hi
  exact ⟨_, pe_cmp (pc_dnotin hr.un1 p2 p1) h1, ninD_snd s2 s1⟩
theorem rt_inD (hr : Here X n) (hi : RE X i mk) (ho : RE X o md) (h1 : behindInMarks .In o = false := by rfl) : RT X (.Compare i [.In] [o] pos) (mB (mInD false mk md)) := by
  obtain ⟨t1, p1, s1⟩ := ho
  obtain ⟨t2, p2, s2⟩ := hi
  exact ⟨_, pt_cmp (pc_din hr.un1 p2 p1) h1, b_ok (inD_snd s2 s1)⟩
theorem rt_ninD (hr : Here X n) (hi : RE X i mk) (ho : RE X o md) (h1 : behindInMarks .NotIn o = false := by rfl) : RT X (.Compare i [.NotIn] [o] pos) (mB (mInD true mk md)) := by
  obtain ⟨t1, p1, s1⟩ := ho
  obtain ⟨t2, p2, s2⟩ := hi
  exact ⟨_, pt_cmp (pc_dnotin hr.un1 p2 p1) h1, b_ok (ninD_snd s2 s1)⟩
end
/-! ## in lists and tuples of data -/
def anyEqv (d : D) (ds : List D) : Bool := ds.any fun z => PyData.eqv z d
def dInS (x y : D) : Option R := if eqOk x y then match y with
  | .list ds => some (.d (.bool (anyEqv x ds)))
  | .tuple ds => some (.d (.bool (anyEqv x ds)))
  | _ => none else none
def dNinS (x y : D) : Option R := if eqOk x y then match y with
  | .list ds => some (.d (.bool (!anyEqv x ds)))
  | .tuple ds => some (.d (.bool (!anyEqv x ds)))
  | _ => none else none
def rInS (K : PySem.W.Frag) : R2 := fun x y H Q => ∃ d e ds, Dp K H x d ∧ Dp K H y e ∧ (e = .list ds ∨ e = .tuple ds) ∧ SeqAt.shaped d = true ∧ SeqAt.shaped e = true ∧ Q (.bl (anyEqv d ds)) H
def rNinS (K : PySem.W.Frag) : R2 := fun x y H Q => ∃ d e ds, Dp K H x d ∧ Dp K H y e ∧ (e = .list ds ∨ e = .tuple ds) ∧ SeqAt.shaped d = true ∧ SeqAt.shaped e = true ∧ Q (.bl (!anyEqv d ds)) H
section
variable {X : Cx}
theorem op_inS (hu : X.A.units + 65 < cLine) : OpR X (compareOp .In) (rInS X.K) := by
  rintro pins s σ H x y v u Q I rx ry ⟨d, e, ds, hd, he, c, sd, se, q⟩
  obtain ⟨as, r1⟩ := Dp.reads I d x v hd rx
  rcases c with rfl | rfl
  · obtain ⟨bs, r2⟩ := Dp.reads I (.list ds) y u he ry
    exact SeqAt.in_list_reads r2 r1 (SeqAt.canLay_of_shaped se) (SeqAt.canLay_of_shaped sd) (room_in_shaped sd hu) ⟨.bl _, H, I, rfl, q⟩
  · obtain ⟨bs, r2⟩ := Dp.reads I (.tuple ds) y u he ry
    exact SeqAt.in_tuple_reads r2 r1 (SeqAt.canLay_of_shaped se) (SeqAt.canLay_of_shaped sd) (room_in_shaped sd hu) ⟨.bl _, H, I, rfl, q⟩
theorem op_ninS (hu : X.A.units + 65 < cLine) : OpR X (compareOp .NotIn) (rNinS X.K) := by
  rintro pins s σ H x y v u Q I rx ry ⟨d, e, ds, hd, he, c, sd, se, q⟩
  obtain ⟨as, r1⟩ := Dp.reads I d x v hd rx
  rcases c with rfl | rfl
  · obtain ⟨bs, r2⟩ := Dp.reads I (.list ds) y u he ry
    exact SeqAt.notIn_list_reads r2 r1 (SeqAt.canLay_of_shaped se) (SeqAt.canLay_of_shaped sd) (room_in_shaped sd hu) ⟨.bl _, H, I, rfl, q⟩
  · obtain ⟨bs, r2⟩ := Dp.reads I (.tuple ds) y u he ry
    exact SeqAt.notIn_tuple_reads r2 r1 (SeqAt.canLay_of_shaped se) (SeqAt.canLay_of_shaped sd) (room_in_shaped sd hu) ⟨.bl _, H, I, rfl, q⟩
end
theorem o_inS {X : Cx} {n : Nat} (h : Here X n) : OpR X (compareOp .In) (rInS X.K) := op_inS (by have := h.un; omega)
theorem o_ninS {X : Cx} {n : Nat} (h : Here X n) : OpR X (compareOp .NotIn) (rNinS X.K) := op_ninS (by have := h.un; omega)
theorem s_inS {K : PySem.W.Frag} : OpS K (rInS K) dInS := by
  intro w H σ s t u v x y r Q ok hx hy e k
  unfold dInS at e
  split at e
  · rename_i hc
    simp only [eqOk, Bool.and_eq_true, Bool.not_eq_true'] at hc
    obtain ⟨⟨⟨h1, h2⟩, h3⟩, h4⟩ := hc
    split at e
    · cases e
      exact ⟨x, _, _, hx.dp ok.sub h1, hy.dp ok.sub h2, .inl rfl, h3, h4, s_d ok k (by simp only [Rep])⟩
    · cases e
      exact ⟨x, _, _, hx.dp ok.sub h1, hy.dp ok.sub h2, .inr rfl, h3, h4, s_d ok k (by simp only [Rep])⟩
    · cases e
  · cases e
theorem s_ninS {K : PySem.W.Frag} : OpS K (rNinS K) dNinS := by
  intro w H σ s t u v x y r Q ok hx hy e k
  unfold dNinS at e
  split at e
  · rename_i hc
    simp only [eqOk, Bool.and_eq_true, Bool.not_eq_true'] at hc
    obtain ⟨⟨⟨h1, h2⟩, h3⟩, h4⟩ := hc
    split at e
    · cases e
      exact ⟨x, _, _, hx.dp ok.sub h1, hy.dp ok.sub h2, .inl rfl, h3, h4, s_d ok k (by simp only [Rep])⟩
    · cases e
      exact ⟨x, _, _, hx.dp ok.sub h1, hy.dp ok.sub h2, .inr rfl, h3, h4, s_d ok k (by simp only [Rep])⟩
    · cases e
  · cases e
/-! ## gcd -/
def fGcd : List D → Option R
  | [.int i, .int j] => some (.d (.int ((Nat.gcd i.natAbs j.natAbs : Nat) : Int)))
  | _ => none
theorem s_gcd {K : PySem.W.Frag} : BltS K rGcd fGcd := by
  intro w H σ s t us xs r Q ok vw e k
  unfold fGcd at e
  split at e
  · cases e
    obtain ⟨u, u2, rfl, v, v2⟩ := vw.two
    rw [v.int, v2.int]
    exact ⟨_, _, rfl, s_d ok k (by simp only [Rep])⟩
  · cases e
theorem re_gcd {X : Cx} {e e2 : Expr} {ms : MA} {p pos : Pos} (hm : X.mg "gcd" = some (.builtin "math.gcd")) (ha : RA X [e, e2] ms) (hg : Gl X "gcd" := by rfl) (he : starEach [e, e2] X.env = (false, eval e X.env) :: starEach [e2] X.env := by rfl) (hpl : (backTo pos (starEach [e2] X.env)).any (·.1) = false := by rfl) :
    RE X (.Call (.Name "gcd" p) [e, e2] [] pos) (mBlt fGcd ms) := by
  obtain ⟨ta, p1, s1⟩ := ha
  exact ⟨_, pe_callBfun cr_gcd hg hm p1 (by decide) he hpl, blt_snd s1 s_gcd⟩
/-! ## name = [..] -/
theorem rs_setLc (i : Nat) {X : Cx} {y : Str} {py : Pos} {elt tg iter : Expr} {ifs : List Expr} {scope : Scope} {own : List (Str × Nat)} {pos spos : Pos} {src : MI} {g : D → S → Option S} {ws : List Nat} {c : MT} {m : ME} (hc : X.calm = true) (hN : X.N.Nodup) (hi : RI X tg iter src) (ok : BlkOk X.N X.env.scope scope own)
    (hg : ∀ (s : Shared) (H : Hp) (C : Addr) (cl : List (Str × Addr)) (fp : List Addr), RG (X.blk s H scope (compEnvC scope cl C X.env) fp) tg g ws) (ht : ∀ (s : Shared) (H : Hp) (C : Addr) (cl : List (Str × Addr)) (fp : List Addr), RTs (X.blk s H scope (compEnvC scope cl C X.env) fp) ifs c)
    (he : ∀ (s : Shared) (H : Hp) (C : Addr) (cl : List (Str × Addr)) (fp : List Addr), RE (X.blk s H scope (compEnvC scope cl C X.env) fp) elt m) (hw : ∀ i ∈ ws, i ∈ own.map (·.2)) (hy : X.N[i]? = some y := by rfl) (hyl : X.env.scope.names.lookup y = some .local := by rfl)
    (hsw : swapsWith (.ListComp elt [⟨tg, iter, ifs, 0⟩] scope pos) (some (.Name y py)) spos.line X.env = pure true := by exact sw_true rfl rfl rfl rfl) (hs : ∀ x, foldedSetIterable iter X.env x = pure x := by intro _; rfl) :
    RS X (.Assign [.Name y py] (.ListComp elt [⟨tg, iter, ifs, 0⟩] scope pos) spos) (mSet i (mLc src g c m (own.map (·.2)))) := by
  obtain ⟨wi, p1, s1⟩ := hi
  refine ⟨_, ps_setLc (g := tgC X.K g ws) (tt := ttC X.K c) (te := teC X.K m) hc hN hy hyl hsw p1 ok (fun s H C cl fp => (hg s H C cl fp).pg) (fun s H C cl fp => (ht s H C cl fp).pts) (fun s H C cl fp => (he s H C cl fp).pe) hs, fun σ H w s D f s' ok e k => ?_⟩
  have s2 := lc_snd (g := g) hw s1 (c := c) (m := m)
  simp only [mSet] at e
  split at e
  · cases e
  · rename_i r sa e1
    split at e
    · cases e
    · rename_i sb e2
      cases e
      refine s2 σ H w s _ _ r sa ok e1 fun w1 H1 x t' τ a1 a2 ok1 st1 sl1 rel1 => ?_
      have hl := ok.slen ok1
      obtain ⟨w2, ok2, l2, st2⟩ := store_fin ok1 hl a1 rel1 e2
      exact k.nx rfl _ w2 H1 ok2 l2 (st1.trans st2)
/-! ## divmod -/
def fDivmod : List D → Option R
  | [.int i, .int j] => if 0 < j ∧ j < 1073741824 then some (.d (.tuple [.int (i / j), .int (i % j)])) else none
  | _ => none
theorem s_divmod {K : PySem.W.Frag} : BltS K (fun xs H Q => ∃ i j, xs = [.int i, .int j] ∧ CDiv i j ∧ ∀ p, H p = none → Q (.ref p) (upd H p (.tup [.int (i / j), .int (i % j)]))) fDivmod := by
  intro w H σ s t us xs r Q ok vw e k
  unfold fDivmod at e
  split at e
  · split at e
    · rename_i hc
      cases e
      obtain ⟨u, u2, rfl, v, v2⟩ := vw.two
      rw [v.int, v2.int]
      refine ⟨_, _, rfl, hc, fun p hp => ?_⟩
      refine k (w.lay p (.tup _)) _ _ ((lay_ok ok hp).up (Nat.le_succ _)) (lay_step ok hp) ?_
      simp only [RelR, Rep]
      exact ⟨p, _, rfl, upd_same, .cons (by simp only [Rep]) (.cons (by simp only [Rep]) .nil)⟩
    · cases e
  · cases e
theorem re_divmod {X : Cx} {e e2 : Expr} {ms : MA} {p pos : Pos} (hm : X.mg "divmod" = none) (ha : RA X [e, e2] ms) (hg : Gl X "divmod" := by rfl) (he : starEach [e, e2] X.env = (false, eval e X.env) :: starEach [e2] X.env := by rfl) (hpl : (backTo pos (starEach [e2] X.env)).any (·.1) = false := by rfl) : RE X (.Call (.Name "divmod" p) [e, e2] [] pos) (mBlt fDivmod ms) :=
  re_blt call_divmod s_divmod hm (by decide +kernel) ha hg (by decide) (by decide) he hpl
/-! ## parallel stores where a name is a cell: a tuple is made and thrown away -/
section
variable {K : PySem.W.Frag} {t t0 n : Nat} {H : Hp} {σ : St}
theorem junk_ok {w : Wd} {s : S} {p : Addr} {o : HO} (ok : OKs K w H σ s t) (hp : H p = none) : OKs K w (upd H p o) σ s t := by
  have on : ∀ a i, w.O a = some i → a ≠ p := fun a i h => by
    obtain ⟨_, ⟨u, h2, _⟩, _⟩ := ok.own a i h
    exact ne_of_none h2 hp
  refine ⟨fun b u e => ?_, ok.len, fun i q v h1 h2 => SlR.mono (ok.sl i q v h1 h2) (Same.refl _) rfl (fun a ha => ⟨ha, upd_ne (on a i ha)⟩), fun a i e => ?_, ok.tN, fun q g e => ?_, ok.nob⟩
  · rw [upd_ne (ne_of_none (ok.sub b u e) hp)]; exact ok.sub b u e
  · obtain ⟨h1, ⟨u, h2, nt⟩, h3⟩ := ok.own a i e
    exact ⟨h1, ⟨u, by rw [upd_ne (on a i e)]; exact h2, nt⟩, h3⟩
  · obtain ⟨b, o1, o2⟩ := ok.box q g e
    exact ⟨⟨b.fp, b.fg, b.ne, by rw [upd_ne (ne_of_none b.hp hp)]; exact b.hp, by rw [upd_ne (ne_of_none b.hg hp)]; exact b.hg⟩, o1, o2⟩
theorem junk_step {w : Wd} {p : Addr} {o : HO} (hp : H p = none) : Step n t0 w H w (upd H p o) where
  F := Same.refl _
  keep := fun a u h _ _ => by rw [upd_ne (ne_of_none h hp)]; exact h
  there := fun a u h => ⟨u, by rw [upd_ne (ne_of_none h hp)]; exact h⟩
  tmp := fun a i h _ _ => h
  newF := fun a h => .inl h
  newO := fun a i h => .inr (by rw [h]; simp)
  newT := fun a i h _ => .inr h
  B := .inl rfl
theorem parC_snd {ta : TA} {ts : TS} {is : List Nat} {ms : MA} (h : SndA K ta ms) (hts : ∀ (D : Ends) (σ : St) (H : Hp), (ta σ H fun vs H1 => vs.length = is.length ∧ ∀ p, H1 p = none → D.nx (setAll σ is vs) (upd H1 p (.tup vs))) → ts D σ H) : SndS K ts (mPar is ms) := by
  intro σ H w s D f s' ok e k
  simp only [mPar] at e
  split at e
  · cases e
  · rename_i rs sa e1
    split at e
    · cases e
    · rename_i qs sb e2
      split at e
      · cases e
      · rename_i sc e3
        cases e
        refine hts D σ H (h σ H w s s.a.length _ rs sa ok e1 fun w1 H1 us t1 a1 ok1 st1 sl1 rel1 => ?_)
        have l1 := ok.slen ok1
        obtain ⟨w2, ok2, st2, rel2, ns, sl2, l2, _, _⟩ := norms_ok (t0 := s.a.length) rs us qs sa sb w1 s.a.length ok1 rel1 e2 (Nat.le_refl _) (by omega)
        rw [l1] at st2 l2
        obtain ⟨w3, ok3, l3, st3, lu⟩ := puts_ok is qs us σ sb _ w2 s.a.length ok2 l2 (Nat.le_refl _) rel2 ns e3
        refine ⟨lu, fun p hp => k.nx rfl _ _ _ (drop_ok (junk_ok (o := .tup us) ok3 hp) l3) l3 ((((st1.trans st2).trans st3).trans (junk_step hp)).trans drop_step)⟩
end
section
variable {X : Cx} {a b c : Expr} {ms : MA} {x y z : Str} {px py pz pt pos pt2 : Pos} {kt k2 : Nat}
theorem rs_parC (i j : Nat) (hc : X.calm = true) (nd : X.N.Nodup) (ha : RA X [a, b] ms) (hi : X.N[i]? = some x := by rfl) (hj : X.N[j]? = some y := by rfl)
    (hx : Loc X.env.scope x) (hy : Loc X.env.scope y) (fx : X.fn x = true ∨ X.env.scope.names.lookup x = some .local) (fy : X.fn y = true ∨ X.env.scope.names.lookup y = some .local)
    (hs : swapsWithSole [.Tuple [.Name x px, .Name y py] kt pt] (.Tuple [a, b] k2 pt2) pos.line X.env = pure false := by rfl) (hw : swappedStores [.Tuple [.Name x px, .Name y py] kt pt] (.Tuple [a, b] k2 pt2) X.env = pure none := by rfl)
    (h1 : (assignEach [.Tuple [.Name x px, .Name y py] kt pt] X.env).map (·.2) = [assign (.Tuple [.Name x px, .Name y py] kt pt) X.env] := by rfl)
    (hn : (assignEach [.Name x px, .Name y py] X.env).length = 2 := by rfl) (hst : (assignEach [.Name x px, .Name y py] X.env).findIdx? (·.1) = none := by rfl)
    (e1 : (assignEach (.Name x px :: [.Name y py]) X.env).map (·.2) = assign (.Name x px) X.env :: (assignEach [.Name y py] X.env).map (·.2) := by rfl)
    (e2 : (assignEach (.Name y py :: []) X.env).map (·.2) = assign (.Name y py) X.env :: (assignEach [] X.env).map (·.2) := by rfl) :
    RS X (.Assign [.Tuple [.Name x px, .Name y py] kt pt] (.Tuple [a, b] k2 pt2) pos) (mPar [i, j] ms) :=
  ⟨_, ps_asg (pe_tup ha.pa) (pg_tup hc (pgs_cons (pg_name nd hi hx fx) (pgs_cons (pg_name nd hj hy fy) pgs_nil e2) e1) hn hst) hs hw h1, parC_snd snd_taC fun D σ H h => mono_taC σ H _ _ (fun vs H1 ⟨hl, q⟩ => by
    match vs, hl with
    | [u, v], _ =>
      exact ⟨(by decide : 2 ≤ sizeLine), fun p hp => ⟨p, [u, v], rfl, SqT.of upd_same, rfl, u, [v], rfl, v, [], rfl, rfl, q p hp⟩⟩) h⟩
theorem rs_parC3 (i j l : Nat) (hc : X.calm = true) (nd : X.N.Nodup) (ha : RA X [a, b, c] ms) (hi : X.N[i]? = some x := by rfl) (hj : X.N[j]? = some y := by rfl) (hl : X.N[l]? = some z := by rfl)
    (hx : Loc X.env.scope x) (hy : Loc X.env.scope y) (hz : Loc X.env.scope z) (fx : X.fn x = true ∨ X.env.scope.names.lookup x = some .local) (fy : X.fn y = true ∨ X.env.scope.names.lookup y = some .local) (fz : X.fn z = true ∨ X.env.scope.names.lookup z = some .local)
    (hs : swapsWithSole [.Tuple [.Name x px, .Name y py, .Name z pz] kt pt] (.Tuple [a, b, c] k2 pt2) pos.line X.env = pure false := by rfl) (hw : swappedStores [.Tuple [.Name x px, .Name y py, .Name z pz] kt pt] (.Tuple [a, b, c] k2 pt2) X.env = pure none := by rfl)
    (h1 : (assignEach [.Tuple [.Name x px, .Name y py, .Name z pz] kt pt] X.env).map (·.2) = [assign (.Tuple [.Name x px, .Name y py, .Name z pz] kt pt) X.env] := by rfl)
    (hn : (assignEach [.Name x px, .Name y py, .Name z pz] X.env).length = 3 := by rfl) (hst : (assignEach [.Name x px, .Name y py, .Name z pz] X.env).findIdx? (·.1) = none := by rfl)
    (e1 : (assignEach (.Name x px :: [.Name y py, .Name z pz]) X.env).map (·.2) = assign (.Name x px) X.env :: (assignEach [.Name y py, .Name z pz] X.env).map (·.2) := by rfl)
    (e2 : (assignEach (.Name y py :: [.Name z pz]) X.env).map (·.2) = assign (.Name y py) X.env :: (assignEach [.Name z pz] X.env).map (·.2) := by rfl)
    (e3 : (assignEach (.Name z pz :: []) X.env).map (·.2) = assign (.Name z pz) X.env :: (assignEach [] X.env).map (·.2) := by rfl) :
    RS X (.Assign [.Tuple [.Name x px, .Name y py, .Name z pz] kt pt] (.Tuple [a, b, c] k2 pt2) pos) (mPar [i, j, l] ms) :=
  ⟨_, ps_asg (pe_tup ha.pa) (pg_tup hc (pgs_cons (pg_name nd hi hx fx) (pgs_cons (pg_name nd hj hy fy) (pgs_cons (pg_name nd hl hz fz) pgs_nil e3) e2) e1) hn hst) hs hw h1, parC_snd snd_taC fun D σ H h => mono_taC σ H _ _ (fun vs H1 ⟨hl, q⟩ => by
    match vs, hl with
    | [u, v, w], _ =>
      exact ⟨(by decide : 3 ≤ sizeLine), fun p hp => ⟨p, [u, v, w], rfl, SqT.of upd_same, rfl, u, [v, w], rfl, v, [w], rfl, w, [], rfl, rfl, q p hp⟩⟩) h⟩
end
end Qz
namespace Qz
open PySem PySem.Spec L2
open PyProof.Rows hiding St
/-! ## what is never reached: nothing is said of it -/
def mNoS : MS := fun _ => .no
def mNoE : ME := fun _ => .no
section
variable {X : Cx} {st : Stmt} {e : Expr}
theorem rs_no : RS X st mNoS := ⟨fun _ _ _ => False, ⟨fun _ _ _ _ _ _ h => h.elim⟩, fun _ _ _ _ _ _ _ _ e _ => nomatch e⟩
theorem re_no : RE X e mNoE := ⟨fun _ _ _ => False, ⟨fun _ _ _ _ _ _ h => h.elim⟩, fun _ _ _ _ _ _ _ _ _ e _ => nomatch e⟩
end
/-! ## the greatest and the least of a list of numbers -/
def topI : Int → List Int → Int
  | i, [] => i
  | i, j :: r => topI (if i < j then j else i) r
def lowI : Int → List Int → Int
  | i, [] => i
  | i, j :: r => lowI (if j < i then j else i) r
theorem topI_mem : ∀ (r : List Int) (i : Int), topI i r ∈ i :: r
  | [], i => by simp [topI]
  | j :: r, i => by
    have h := topI_mem r (if i < j then j else i)
    simp only [topI]
    rcases List.mem_cons.mp h with h | h
    · rw [h]; split <;> simp
    · simp [h]
theorem topI_ge : ∀ (r : List Int) (i y : Int), y ∈ i :: r → y ≤ topI i r
  | [], i, y, h => by simp at h; simp only [topI]; omega
  | j :: r, i, y, h => by
    simp only [topI]
    have h1 := topI_ge r (if i < j then j else i) (if i < j then j else i) List.mem_cons_self
    rcases List.mem_cons.mp h with h | h
    · split at h1 <;> split <;> omega
    · rcases List.mem_cons.mp h with h | h
      · split at h1 <;> split <;> omega
      · exact topI_ge r _ y (List.mem_cons_of_mem _ h)
theorem lowI_mem : ∀ (r : List Int) (i : Int), lowI i r ∈ i :: r
  | [], i => by simp [lowI]
  | j :: r, i => by
    have h := lowI_mem r (if j < i then j else i)
    simp only [lowI]
    rcases List.mem_cons.mp h with h | h
    · rw [h]; split <;> simp
    · simp [h]
theorem lowI_le : ∀ (r : List Int) (i y : Int), y ∈ i :: r → lowI i r ≤ y
  | [], i, y, h => by simp at h; simp only [lowI]; omega
  | j :: r, i, y, h => by
    simp only [lowI]
    have h1 := lowI_le r (if j < i then j else i) (if j < i then j else i) List.mem_cons_self
    rcases List.mem_cons.mp h with h | h
    · split at h1 <;> split <;> omega
    · rcases List.mem_cons.mp h with h | h
      · split at h1 <;> split <;> omega
      · exact lowI_le r _ y (List.mem_cons_of_mem _ h)
def fMaxL : List D → Option R
  | [.list ds] => match intsD? ds with
    | some (i :: r) => some (.d (.int (topI i r)))
    | _ => none
  | _ => none
def fMinL : List D → Option R
  | [.list ds] => match intsD? ds with
    | some (i :: r) => some (.d (.int (lowI i r)))
    | _ => none
  | _ => none
section
variable {K : PySem.W.Frag}
theorem s_maxL : BltS K (rMax K) fMaxL := by
  intro w H σ s t us xs r Q ok vw e k
  unfold fMaxL at e
  split at e
  · rename_i ds
    obtain ⟨u, rfl, v⟩ := vw.one
    obtain ⟨a, ys, rfl, h1, h2⟩ := v.lst ok.sub
    split at e
    · rename_i i r e1
      cases e
      rw [intsD_eq e1] at h2
      rw [ints_rep (i :: r) ys h2] at h1
      refine ⟨a, i :: r, rfl, h1, Nat.succ_pos _, fun m hm hall => ?_⟩
      have e2 : m = topI i r := Int.le_antisymm (topI_ge r i m hm) (hall _ (topI_mem r i))
      rw [e2]
      exact s_d ok k (by simp only [Rep])
    · cases e
  · cases e
theorem s_minL : BltS K (rMin K) fMinL := by
  intro w H σ s t us xs r Q ok vw e k
  unfold fMinL at e
  split at e
  · rename_i ds
    obtain ⟨u, rfl, v⟩ := vw.one
    obtain ⟨a, ys, rfl, h1, h2⟩ := v.lst ok.sub
    split at e
    · rename_i i r e1
      cases e
      rw [intsD_eq e1] at h2
      rw [ints_rep (i :: r) ys h2] at h1
      refine ⟨a, i :: r, rfl, h1, Nat.succ_pos _, fun m hm hall => ?_⟩
      have e2 : m = lowI i r := Int.le_antisymm (hall _ (lowI_mem r i)) (lowI_le r i m hm)
      rw [e2]
      exact s_d ok k (by simp only [Rep])
    · cases e
  · cases e
end
section
variable {X : Cx} {e : Expr} {ms : MA} {p pos : Pos}
theorem re_maxL (hc : X.calm = true) (hm : X.mg "max" = none) (ha : RA X [e] ms) (hg : Gl X "max" := by rfl) (he : starEach [e] X.env = (false, eval e X.env) :: starEach [] X.env := by rfl) : RE X (.Call (.Name "max" p) [e] [] pos) (mBlt fMaxL ms) :=
  re_blt (cr_max hc) s_maxL hm (by decide +kernel) ha hg (by decide) (by decide) he rfl
theorem re_minL (hc : X.calm = true) (hm : X.mg "min" = none) (ha : RA X [e] ms) (hg : Gl X "min" := by rfl) (he : starEach [e] X.env = (false, eval e X.env) :: starEach [] X.env := by rfl) : RE X (.Call (.Name "min" p) [e] [] pos) (mBlt fMinL ms) :=
  re_blt (cr_min hc) s_minL hm (by decide +kernel) ha hg (by decide) (by decide) he rfl
end
/-! ## in a tuple of the module -/
/-- the name stands for a tuple of texts that the module made -/
def ModT (K : PySem.W.Frag) (mg : Str → Option Value) (x : Str) (ws : List Str) : Prop :=
  ∃ (a : Addr) (o : Obj) (its : Array Value) (n : Nat), mg x = some (.ref a) ∧ K.lookup a = some o ∧ o.cls = .type "tuple" ∧ o.data = .seq its n ∧ its.size ≤ sizeLine ∧ Vals (ws.map V.str) its.toList
theorem dpAll_strs {K : PySem.W.Frag} {H : Hp} : ∀ ws : List Str, DpAll K H (ws.map V.str) (ws.map .str)
  | [] => .nil
  | x :: ws => .cons (.str x) (dpAll_strs ws)
def dInK (ws : List Str) (x : D) : Option R := dInS x (.tuple (ws.map .str))
def dNinK (ws : List Str) (x : D) : Option R := dNinS x (.tuple (ws.map .str))
section
variable {K : PySem.W.Frag} {a : Addr} {ws : List Str} {t1 : TE} {m1 : ME}
theorem inK_snd (hq : ∀ H, SqT K H a (ws.map V.str)) (s1 : SndE K t1 m1) : SndE K (tOp (rInS K) t1 (tC (.ref a))) (mUn (dInK ws) m1) := by
  intro σ H w s t Q r s' ok e k
  simp only [mUn] at e
  split at e
  · cases e
  · rename_i r1 sa e1
    split at e
    · cases e
    · rename_i y e2
      split at e
      · cases e
      · rename_i r' e3
        cases e
        refine s1 σ H w s t _ r1 _ ok e1 fun w1 H1 u t1' τ1 a1 a2 ok1 st1 sl1 rel1 => ?_
        have hy := RelR.view ok1 rel1 e2
        unfold dInK dInS at e3
        split at e3
        · rename_i hc
          simp only [eqOk, Bool.and_eq_true, Bool.not_eq_true'] at hc
          obtain ⟨⟨⟨q1, q2⟩, q3⟩, q4⟩ := hc
          cases e3
          refine ⟨y, _, _, hy.dp ok1.sub q1, .tup (hq H1) (dpAll_strs ws), .inr rfl, q3, q4, ?_⟩
          exact k w1 H1 _ t1' τ1 a1 a2 ok1 st1 sl1 (by simp only [RelR, Rep])
        · cases e3
theorem ninK_snd (hq : ∀ H, SqT K H a (ws.map V.str)) (s1 : SndE K t1 m1) : SndE K (tOp (rNinS K) t1 (tC (.ref a))) (mUn (dNinK ws) m1) := by
  intro σ H w s t Q r s' ok e k
  simp only [mUn] at e
  split at e
  · cases e
  · rename_i r1 sa e1
    split at e
    · cases e
    · rename_i y e2
      split at e
      · cases e
      · rename_i r' e3
        cases e
        refine s1 σ H w s t _ r1 _ ok e1 fun w1 H1 u t1' τ1 a1 a2 ok1 st1 sl1 rel1 => ?_
        have hy := RelR.view ok1 rel1 e2
        unfold dNinK dNinS at e3
        split at e3
        · rename_i hc
          simp only [eqOk, Bool.and_eq_true, Bool.not_eq_true'] at hc
          obtain ⟨⟨⟨q1, q2⟩, q3⟩, q4⟩ := hc
          cases e3
          refine ⟨y, _, _, hy.dp ok1.sub q1, .tup (hq H1) (dpAll_strs ws), .inr rfl, q3, q4, ?_⟩
          exact k w1 H1 _ t1' τ1 a1 a2 ok1 st1 sl1 (by simp only [RelR, Rep])
        · cases e3
end
theorem ModT.at {K : PySem.W.Frag} {mg : Str → Option Value} {x : Str} {ws : List Str} (h : ModT K mg x ws) : ∃ a, mg x = some (.ref a) ∧ ∀ H, SqT K H a (ws.map V.str) := by
  obtain ⟨a, o, its, k0, h1, h2⟩ := h
  exact ⟨a, h1, fun H => .inr ⟨o, its, k0, h2⟩⟩
section
variable {X : Cx} {i : Expr} {m1 : ME} {x : Str} {ws : List Str} {p pos : Pos} {n : Nat}
theorem re_inK (hr : Here X n) (ht : ModT X.K X.mg x ws) (ha : RE X i m1) (hg : Gl X x := by rfl) (hd : (x == ("__debug__" : Str)) = false := by decide) (hb : behindInMarks .In (.Name x p) = false := by rfl) : RE X (.Compare i [.In] [.Name x p] pos) (mUn (dInK ws) m1) := by
  obtain ⟨a, h1, h2⟩ := ht.at
  obtain ⟨t1, p1, s1⟩ := ha
  exact ⟨_, pe_cmpR (o_inS hr) p1 (pe_glob (v := .ref a) hg h1 rfl hd) hb, inK_snd h2 s1⟩
theorem re_ninK (hr : Here X n) (ht : ModT X.K X.mg x ws) (ha : RE X i m1) (hg : Gl X x := by rfl) (hd : (x == ("__debug__" : Str)) = false := by decide) (hb : behindInMarks .NotIn (.Name x p) = false := by rfl) : RE X (.Compare i [.NotIn] [.Name x p] pos) (mUn (dNinK ws) m1) := by
  obtain ⟨a, h1, h2⟩ := ht.at
  obtain ⟨t1, p1, s1⟩ := ha
  exact ⟨_, pe_cmpR (o_ninS hr) p1 (pe_glob (v := .ref a) hg h1 rfl hd) hb, ninK_snd h2 s1⟩
theorem rt_inK (hr : Here X n) (ht : ModT X.K X.mg x ws) (ha : RE X i m1) (hg : Gl X x := by rfl) (hd : (x == ("__debug__" : Str)) = false := by decide) (hb : behindInMarks .In (.Name x p) = false := by rfl) : RT X (.Compare i [.In] [.Name x p] pos) (mB (mUn (dInK ws) m1)) := by
  obtain ⟨a, h1, h2⟩ := ht.at
  obtain ⟨t1, p1, s1⟩ := ha
  exact ⟨_, pt_cmpR (o_inS hr) p1 (pe_glob (v := .ref a) hg h1 rfl hd) hb, b_ok (inK_snd h2 s1)⟩
theorem rt_ninK (hr : Here X n) (ht : ModT X.K X.mg x ws) (ha : RE X i m1) (hg : Gl X x := by rfl) (hd : (x == ("__debug__" : Str)) = false := by decide) (hb : behindInMarks .NotIn (.Name x p) = false := by rfl) : RT X (.Compare i [.NotIn] [.Name x p] pos) (mB (mUn (dNinK ws) m1)) := by
  obtain ⟨a, h1, h2⟩ := ht.at
  obtain ⟨t1, p1, s1⟩ := ha
  exact ⟨_, pt_cmpR (o_ninS hr) p1 (pe_glob (v := .ref a) hg h1 rfl hd) hb, b_ok (ninK_snd h2 s1)⟩
end
end Qz
namespace Qz
open PySem PySem.Spec L2
open PyProof.Rows hiding St
/-! ## sorted(..) of tuples of any depth -/
noncomputable def sortD (ds : List D) : List D := ds.mergeSort (PySem.W.sortLe (listOrd itemOrd) false PySem.W.keyToks)
theorem sortD_perm (ds : List D) : (sortD ds).Perm ds := List.mergeSort_perm _ _
def tupNE : D → Bool
  | .tuple (_ :: _) => true
  | _ => false
theorem tupNE_eq {d : D} (h : tupNE d = true) : ∃ x r, d = .tuple (x :: r) := by
  unfold tupNE at h
  split at h
  · exact ⟨_, _, rfl⟩
  · cases h
def rSortedD (K : PySem.W.Frag) : List V → Hp → VK → Prop := fun vs H Q => ∃ (a : Addr) (xs : List V) (ds : List D), vs = [V.ref a] ∧ SqL K H a xs ∧ DpAll K H xs ds ∧ PySem.W.AllAlike ds ∧ (∀ d, d ∈ ds → ∃ x r, d = .tuple (x :: r)) ∧ (∀ d, d ∈ ds → d.depth ≤ 60) ∧
  ∀ ys p, PySem.W.EachIs (fun y d => (y, d) ∈ xs.zip ds) ys (sortD ds) → H p = none → Q (.ref p) (upd H p (.lst ys))
section
variable {X : Cx} {pins : List (Addr × Obj)} {σ : St} {H : Hp} {s : Shared}
theorem each_reads (I : Inv X pins σ H s) : ∀ {xs : List V} {us : List Value} {ds : List D}, DpAll X.K H xs ds → Vals xs us → PySem.W.EachIs (fun u d => ∃ as, Reads s.heap u d as) us ds
  | _, _, _, .nil, .nil => .nil
  | _, _, _, .cons h t, .cons r rs => .cons (Dp.reads I _ _ _ h r) (each_reads I t rs)
theorem dpAll_tup : ∀ {xs : List V} {ds : List D}, DpAll X.K H xs ds → (∀ d, d ∈ ds → ∃ x r, d = .tuple (x :: r)) → ∀ x ∈ xs, ∃ a, x = V.ref a
  | _, _, .nil, _, x, hx => by cases hx
  | _, _, .cons (v := v) (d := d) h t, ht, x, hx => by
    rcases List.mem_cons.mp hx with e | hx
    · obtain ⟨y, r, e2⟩ := ht _ List.mem_cons_self
      rw [e2] at h
      cases h with
      | tup h1 h2 => exact ⟨_, e⟩
    · exact dpAll_tup t (fun d hd => ht d (List.mem_cons_of_mem _ hd)) x hx
theorem each_keys {h : Heap} {ds0 : List D} (hal : PySem.W.AllAlike ds0) : ∀ {us : List Value} {ds : List D}, PySem.W.EachIs (fun u d => ∃ as, Reads h u d as) us ds → (∀ d ∈ ds, d ∈ ds0) → PySem.W.EachIs (fun v b => (PySem.W.dataKind h ds0).keyOf v = some (PySem.W.keyToks b)) us ds
  | _, _, .nil, _ => .nil
  | _, _, .cons h t, hm => .cons (by obtain ⟨as, r⟩ := h; exact PySem.W.dataKind_some hal (hm _ List.mem_cons_self) r) (each_keys hal t fun d hd => hm d (List.mem_cons_of_mem _ hd))
end
theorem cr_sortedD {X : Cx} {n : Nat} (hr : Here X n) : CallR X (.builtin "sorted") (rSortedD X.K) := by
  intro pins s σ H vs us Q I r h
  obtain ⟨a, xs, ds, rfl, hs, hd, hal, ht, hdep, q⟩ := h
  obtain ⟨its, rv, hl, hz⟩ := I.list hs
  obtain ⟨u, rfl, ru⟩ := vals1 r
  obtain rfl : u = Value.ref a := ru
  obtain ⟨e1, e2⟩ := refs_back rv (dpAll_tup hd ht)
  have e0 := each_reads I hd rv
  have e3 : PySem.W.EachIs (fun u d => ∃ as, Reads (PySem.W.sortingHeap (PySem.W.copyHeap s.heap its) (s.heap.objs.size + 1) its) u d as) its ds := e0.mono fun v d ⟨as, h⟩ => ⟨as, PyProof.Rows.Reads.keeps (fun b o e => PySem.W.sorting_copy_old e) h⟩
  have hun := hr.un
  refine PySem.W.sorted_vals hl.isList (PySem.W.SortsAt.data (s := { s with heap := PySem.W.sortingHeap (PySem.W.copyHeap s.heap its) (s.heap.objs.size + 1) its }) e3 hal (.inl ht) fun d hd => ?_) (by rw [← rv.length]; exact hz) ?_
  · have := hdep d hd
    have hu2 : X.A.in1.in1.units ≤ X.A.units + 2 := by simp [Around.in1]
    omega
  · have hk := each_keys hal e3 fun d hd => hd
    have hR : PySem.W.EachIs (fun (v : Value) d => (backV v, d) ∈ xs.zip ds) its ds := by
      refine PySem.W.EachIs.of_zip e3.length fun p hp => ?_
      rw [e1, List.zip_map_left]
      exact List.mem_map.mpr ⟨p, hp, rfl⟩
    have hS := PySem.W.sortVals_each (κ := PySem.W.dataKind (PySem.W.sortingHeap (PySem.W.copyHeap s.heap its) (s.heap.objs.size + 1) its) ds) (rev := false) PySem.W.keyToks hR hk
    generalize hout : PySem.W.sortVals (PySem.W.dataKind (PySem.W.sortingHeap (PySem.W.copyHeap s.heap its) (s.heap.objs.size + 1) its) ds) false its its = out at hS ⊢
    have hmem : ∀ u ∈ out, u ∈ its := fun u hu => PySem.W.sortVals_mem false (by rw [hout]; exact hu)
    have hlen : out.length = its.length := by rw [← hout]; exact PySem.W.sortVals_length false rfl
    have h3 : ∀ u ∈ out, ∃ a, u = Value.ref a := fun u hu => e2 u (hmem u hu)
    obtain ⟨n, hn⟩ := sortedAll_at s.heap its out.toArray
    have hY : PySem.W.EachIs (fun y d => (y, d) ∈ xs.zip ds) (out.map backV) (sortD ds) := by
      have key : ∀ {us : List Value} {es : List D}, PySem.W.EachIs (fun (v : Value) d => (backV v, d) ∈ xs.zip ds) us es → PySem.W.EachIs (fun y d => (y, d) ∈ xs.zip ds) (us.map backV) es := by
        intro us es h
        induction h with
        | nil => exact .nil
        | cons a _ ih => exact .cons a ih
      exact key hS
    have hn0 := I.hok.fresh (Nat.le_succ s.heap.objs.size)
    refine ⟨.ref (s.heap.objs.size + 1), upd H (s.heap.objs.size + 1) (.lst (out.map backV)), I.laid (t' := s.toks) (fun b o e => sortedAll_old e) (Nat.le_succ _) ⟨?_, out, n, vals_back h3, hn⟩, rfl, q _ _ hY hn0⟩
    rw [List.length_map, hlen, ← rv.length]
    exact hz
noncomputable def fSortedN : List D → Option R
  | [.list ds] => match fSorted [.list ds] with
    | some r => some r
    | none => if ds.all tupNE = true ∧ (ds.all fun d => ds.all fun e => PySem.W.alike d e) = true ∧ PyData.hasDictAll ds = false ∧ (ds.all fun d => decide (d.depth ≤ 60)) = true then some (.o (.lst (sortD ds))) else none
  | _ => none
section
variable {K : PySem.W.Frag}
theorem repL_zip {F : Hp} : ∀ (ds : List D) (xs : List V), RepL K F ds xs → ∀ p ∈ xs.zip ds, Rep K F p.2 p.1
  | [], _, h, p, hp => by simp at hp
  | d :: ds, _, h, p, hp => by
    simp only [RepL] at h
    obtain ⟨x, r, rfl, h1, h2⟩ := h
    rw [List.zip_cons_cons] at hp
    rcases List.mem_cons.mp hp with rfl | hp
    · exact h1
    · exact repL_zip ds r h2 p hp
theorem repL_each {F : Hp} {z : List (V × D)} (hz : ∀ p ∈ z, Rep K F p.2 p.1) : ∀ {ys : List V} {es : List D}, PySem.W.EachIs (fun y d => (y, d) ∈ z) ys es → RepL K F es ys
  | _, _, .nil => .nil
  | _, _, .cons h t => .cons (hz _ h) (repL_each hz t)
theorem s_sortedN : BltS K (fun us H Q => (rSortedTI K us H Q ∨ rSortedI K us H Q) ∨ rSortedD K us H Q) fSortedN := by
  intro w H σ s t us xs r Q ok vw e k
  unfold fSortedN at e
  split at e
  · rename_i ds
    split at e
    · rename_i r' e1
      cases e
      exact .inl (s_sorted w H σ s t us _ r Q ok vw e1 k)
    · split at e
      · rename_i hc
        obtain ⟨c1, c2, c3, c4⟩ := hc
        cases e
        obtain ⟨u, rfl, v⟩ := vw.one
        obtain ⟨a, ys, rfl, h1, h2⟩ := v.lst ok.sub
        refine .inr ⟨a, ys, ds, rfl, h1, RepL.dp ok.sub ds ys h2 c3, fun d hd d' hd' => ?_, fun d hd => tupNE_eq (List.all_eq_true.mp c1 d hd), fun d hd => of_decide_eq_true (List.all_eq_true.mp c4 d hd), fun zs p hz hp => ?_⟩
        · exact List.all_eq_true.mp (List.all_eq_true.mp c2 d hd) d' hd'
        · refine k (w.give p t) _ _ (give_ok ok hp) (give_step ok hp) ?_
          exact ⟨p, zs, rfl, if_pos rfl, upd_same, repL_each (repL_zip ds ys h2) hz⟩
      · cases e
  · cases e
variable {X : Cx} {e : Expr} {ms : MA} {p pos : Pos} {n : Nat}
theorem re_sortedN (hr : Here X n) (hm : X.mg "sorted" = none) (ha : RA X [e] ms) (hg : Gl X "sorted" := by rfl) (he : starEach [e] X.env = (false, eval e X.env) :: starEach [] X.env := by rfl) : RE X (.Call (.Name "sorted" p) [e] [] pos) (mBlt fSortedN ms) :=
  re_blt ((cr_sortedTI.or cr_sortedI).or (cr_sortedD hr)) s_sortedN hm (by decide +kernel) ha hg (by decide) (by decide) he rfl
end
end Qz
namespace Qz
open PySem PySem.Spec L2
open PyProof.Rows hiding St
/-! ## xs[k] = v, xs a list in slot i -/
def putL (c : C) (k v : D) : Option C := match c, k with
  | .lst l, .int j => if 0 ≤ j ∧ j.toNat < l.length then some (.lst (l.set j.toNat v)) else none
  | _, _ => none
def mPutL (i : Nat) (mk mv : ME) : MS := fun s => match mv s with
  | .no => .no
  | .ok rv s1 => match s1.a[i]? with
    | some (some (.o _)) => match mk s1 with
      | .no => .no
      | .ok rk s2 => match takes s2 [rv, rk] with
        | some ([v, k], s3) => match s3.a[i]? with
          | some (some (.o c)) => match putL c k v with
            | some c' => .ok .nx { s3 with a := s3.a.set i (some (.o c')) }
            | none => .no
          | _ => .no
        | _ => .no
    | _ => .no
section
variable {K : PySem.W.Frag} {F H : Hp}
theorem repL_set : ∀ (l : List D) (ys : List V) (n : Nat) (v : D) (x : V), RepL K F l ys → Rep K F v x → RepL K F (l.set n v) (ys.set n x)
  | [], _, n, v, x, h, _ => by simp only [RepL] at h; subst h; exact .nil
  | d :: l, _, n, v, x, h, hv => by
    simp only [RepL] at h
    obtain ⟨y, r, rfl, h1, h2⟩ := h
    cases n with
    | zero => exact .cons hv h2
    | succ n => exact .cons h1 (repL_set l r n v x h2 hv)
theorem putL_own {w : Wd} {i : Nat} {c c' : C} {k v : D} {a : Addr} {x y : V} (h : Own K w H i c (.ref a)) (e : putL c k v = some c') (hk : Rep K w.F k y) (hv : Rep K w.F v x) :
    ∃ (ys : List V) (j : Int), y = .int j ∧ H a = some (.lst ys) ∧ ixN ys.length j = some j.toNat ∧ w.O a = some i ∧ Own K w (upd H a (.lst (ys.set j.toNat x))) i c' (.ref a) := by
  unfold putL at e
  split at e
  · rename_i l j
    split at e
    · rename_i hc
      cases e
      obtain ⟨b, ys, e1, h1, h2, h3⟩ := h
      cases e1
      simp only [Rep] at hk
      refine ⟨ys, j, hk, h2, ?_, h1, a, _, rfl, h1, upd_same, repL_set _ _ _ _ _ h3 hv⟩
      have hl := RepL.length _ _ h3
      unfold ixN
      rw [if_pos hc.1, if_pos (by omega)]
    · cases e
  · cases e
end
section
variable {X : Cx} {e ek value : Expr} {mk mv : ME} {i : Nat} {x : Str} {p pos pos' : Pos}
theorem rs_putL (i : Nat) (hk : RE X ek mk) (hv : RE X value mv) (hN : X.N[i]? = some x := by rfl) (hvis : Vis X.env.scope x := by first | exact Or.inl rfl | exact Or.inr (Or.inl rfl) | exact Or.inr (Or.inr rfl)) (hd : (x == ("__debug__" : Str)) = false := by decide) (hcd : (x == ("__classdict__" : Str)) = false := by decide)
    (ha : ∀ v, assign (.Subscript (.Name x p) ek pos') X.env v = (do
      let ov ← holding [v] (eval (.Name x p) X.env)
      let iv ← holding [v, ov] (eval ek X.env)
      standAt pos'
      holding [v, ov, iv] (setItem ov iv v)
      release [v, ov, iv] []) := by intro _; rfl)
    (hs : swapsWithSole [.Subscript (.Name x p) ek pos'] value pos.line X.env = pure false := by rfl) (hw : swappedStores [.Subscript (.Name x p) ek pos'] value X.env = pure none := by rfl) (h1 : (assignEach [.Subscript (.Name x p) ek pos'] X.env).map (·.2) = [assign (.Subscript (.Name x p) ek pos') X.env] := by rfl) :
    RS X (.Assign [.Subscript (.Name x p) ek pos'] value pos) (mPutL i mk mv) := by
  obtain ⟨t1, p1, s1⟩ := hk
  obtain ⟨t2, p2, s2⟩ := hv
  refine ⟨_, ps_asg p2 (pg_sub (pe_var hN hvis hd hcd) p1 set_list ha) hs hw h1, fun σ H w s D f s' ok e k => ?_⟩
  simp only [mPutL] at e
  split at e
  · cases e
  · rename_i rv sa e1
    split at e
    · rename_i c0 h0
      split at e
      · cases e
      · rename_i rk sb e2
        split at e
        · rename_i v kk sc e3
          split at e
          · rename_i c h1
            split at e
            · rename_i c' e4
              cases e
              refine s2 σ H w s _ _ rv sa ok e1 fun w1 H1 u t1 τ a1 a2 ok1 st1 sl1 rel1 => ?_
              have l1 := ok.slen ok1
              have tN := ok1.tN
              have hi := (List.getElem?_eq_some_iff.mp h0).1
              obtain ⟨z, hz⟩ : ∃ z, σ[i]? = some z := ⟨σ[i]'(by rw [ok1.len]; exact hi), by simp [ok1.len, hi]⟩
              obtain ⟨z', rfl, hown⟩ := ok1.sl i _ _ h0 hz
              refine ⟨z', hz, ?_⟩
              refine s1 σ H1 w1 sa t1 _ rk sb ok1 e2 fun w2 H2 y t2 τ2 b1 b2 ok2 st2 sl2 rel2 => ?_
              have l2 := ok1.slen ok2
              have relA := RelR.keep ok1 rel1 st2 (by omega) (by omega) sl2
              obtain ⟨w3, ok3, st3, rep, sl3, l3⟩ := takes_ok (hi := t2) (t0 := s.a.length) [rv, rk] [u, y] _ _ _ w2 s.a.length ok2 ⟨u, _, τ, rfl, a1, by omega, relA, y, _, τ2, rfl, by omega, b2, rel2, rfl⟩ e3 (Nat.le_refl _) (by omega)
              simp only [RepL] at rep
              obtain ⟨_, _, eu, rv', _, _, ey, rk', er⟩ := rep
              cases eu
              cases ey
              obtain ⟨z2, ez, hown2⟩ := ok3.sl i _ _ h1 hz
              cases ez
              obtain ⟨a, ea⟩ : ∃ a, z' = .ref a := by
                cases c with
                | lst _ => obtain ⟨a, _, e, _⟩ := hown2; exact ⟨a, e⟩
                | dK _ => obtain ⟨a, _, e, _⟩ := hown2; exact ⟨a, e⟩
                | dT _ => obtain ⟨a, _, e, _⟩ := hown2; exact ⟨a, e⟩
              subst ea
              obtain ⟨ys, j, ej, hlst, hix, hO, own'⟩ := putL_own hown2 e4 rk' rv'
              obtain ⟨ok4, st4, sl4⟩ := slot_mut (o := .lst (ys.set j.toNat u)) ok3 h1 hz hO (fun _ h => by cases h) own'
              rw [l1] at l2 st2
              rw [l2] at st3 l3
              rw [l3] at st4
              refine ⟨a, ys, j, _, rfl, ej, hlst, hix, ?_⟩
              refine k.nx rfl σ _ _ (drop_ok ok4 (by simp [l3])) (by simp [l3]) ?_
              exact (((st1.trans (st2.mono (by omega))).trans st3).trans (st4.mono (by have := ok3.tN; omega))).trans drop_step
            · cases e
          · cases e
        · cases e
    · cases e
end
end Qz
namespace Qz
open PySem PySem.Spec L2
open PyProof.Rows hiding St

/-! ## lists that are only lent to a def -/
mutual
/-- data that no list and no dict is part of -/
def flat : D → Bool
  | .none => true
  | .bool _ => true
  | .int _ => true
  | .str _ => true
  | .tuple ds => flatL ds
  | .list _ => false
  | .dict _ => false
def flatL : List D → Bool
  | [] => true
  | d :: ds => flat d && flatL ds
end
def leanR : R → Bool
  | .d y => flat y
  | .o (.lst ds) => flatL ds
  | _ => false
/-- what stays: what stayed before, and tuples -/
def keepF (F F' : Hp) : Hp := fun a => match F a with
  | some u => some u
  | none => match F' a with
    | some (.tup xs) => some (.tup xs)
    | _ => none
section
variable {K : PySem.W.Frag} {F F' : Hp}
theorem keepF_same : Same F (keepF F F') := fun a u e => by unfold keepF; rw [e]
theorem keepF_inv (h : Same F F') {a : Addr} {u : HO} (e : keepF F F' a = some u) : F' a = some u ∧ (F a = some u ∨ ∃ xs, u = .tup xs) := by
  unfold keepF at e
  split at e
  · rename_i q; cases e; exact ⟨h _ _ q, .inl q⟩
  · split at e
    · rename_i q; cases e; exact ⟨q, .inr ⟨_, rfl⟩⟩
    · cases e
theorem keepF_sub (h : Same F F') : Same (keepF F F') F' := fun a u e => (keepF_inv h e).1
theorem keepF_none (h : Same F F') {a : Addr} (e : F' a = none) : keepF F F' a = none := by
  cases q : keepF F F' a with
  | none => rfl
  | some u => have := (keepF_inv h q).1; rw [e] at this; cases this
theorem keepF_tup (h : Same F F') {a : Addr} {xs : List V} (e : F' a = some (.tup xs)) : keepF F F' a = some (.tup xs) := by
  unfold keepF
  cases q : F a with
  | some u => have := h _ _ q; rw [e] at this; exact this.symm
  | none => simp only [e]
mutual
theorem flat_rep (h : Same F F') : ∀ (d : D) (v : V), flat d = true → Rep K F' d v → Rep K (keepF F F') d v
  | .none, _, _, r => by simpa only [Rep] using r
  | .bool _, _, _, r => by simpa only [Rep] using r
  | .int _, _, _, r => by simpa only [Rep] using r
  | .str _, _, _, r => by simpa only [Rep] using r
  | .tuple ds, _, f, r => by
    simp only [Rep] at r ⊢
    obtain ⟨a, xs, e, h1, h2⟩ := r
    exact ⟨a, xs, e, keepF_tup h h1, flatL_rep h ds xs (by simpa only [flat] using f) h2⟩
  | .list _, _, f, _ => by simp only [flat] at f; cases f
  | .dict _, _, f, _ => by simp only [flat] at f; cases f
theorem flatL_rep (h : Same F F') : ∀ (ds : List D) (xs : List V), flatL ds = true → RepL K F' ds xs → RepL K (keepF F F') ds xs
  | [], _, _, r => by simpa only [RepL] using r
  | d :: ds, _, f, r => by
    simp only [RepL] at r ⊢
    obtain ⟨x, q, e, h1, h2⟩ := r
    simp only [flatL, Bool.and_eq_true] at f
    exact ⟨x, q, e, flat_rep h d x f.1 h1, flatL_rep h ds q f.2 h2⟩
end
end
/-- behind a call, whatever it took -/
theorem call_back {K : PySem.W.Frag} {t : Nat} {H : Hp} {σ : St} {w : Wd} {s : S} {r : R} {b : Bx} {Q : VK} {F' H' : Hp} {B' : Option (Addr × Addr)} {x : V} (ok : OKs K w H σ s t) (A : After w.F H w.B F' H' B' b) (rel : RetR K F' H H' B' r x)
    (k : ∀ w' H' x, OKs K w' H' σ { s with b := b } (t + 1) → Step s.a.length t w H w' H' → RelR K w' H' σ { s with b := b } t r x → Q x H') : Q x H' := by
  -- who owns what behind it
  have ho : ∀ a i, w.O a = some i → H' a = H a ∧ F' a = none ∧ ¬ isBox B' a := fun a i h => by
    obtain ⟨h1, ⟨o, h2, nt⟩, h3⟩ := ok.own a i h
    have nb : ¬ isBox w.B a := fun ⟨p, g, e, z⟩ => by
      obtain ⟨_, z1, z2⟩ := ok.box p g e
      rcases z with rfl | rfl
      · rw [h] at z1; cases z1
      · rw [h] at z2; cases z2
    refine ⟨(A.keep a o h2 nb).trans h2.symm, ?_, fun ⟨p, g, e, z⟩ => ?_⟩
    · cases q : F' a with
      | none => rfl
      | some u =>
        rcases A.newF a (by rw [q]; simp) with z | z | ⟨xs, z⟩ | z
        · exact absurd h1 z
        · rw [h2] at z; cases z
        · rw [h2] at z; exact absurd (Option.some.inj z) (nt xs)
        · exact absurd z nb
    · rcases A.B with e1 | ⟨_, e1⟩
      · exact nb ⟨p, g, e1 ▸ e, z⟩
      · obtain ⟨z1, z2⟩ := e1 p g e
        rcases z with rfl | rfl
        · rw [h2] at z1; cases z1
        · rw [h2] at z2; cases z2
  have hB0 : ∀ p g, B' = some (p, g) → w.O p = none ∧ w.O g = none := fun p g e => by
    constructor
    · cases q : w.O p with
      | none => rfl
      | some i => exact absurd ⟨p, g, e, .inl rfl⟩ (ho p i q).2.2
    · cases q : w.O g with
      | none => rfl
      | some i => exact absurd ⟨p, g, e, .inr rfl⟩ (ho g i q).2.2
  have hsl : ∀ (O' : Addr → Option Nat), (∀ a i, w.O a = some i → O' a = some i) → ∀ (i : Nat) q v, s.a[i]? = some q → σ[i]? = some v → SlR K ⟨F', O', B'⟩ H' i q v := fun O' hO i q v h1 h2 => by
    have hs := ok.sl i q v h1 h2
    cases q with
    | none => trivial
    | some q =>
      cases q with
      | d y => obtain ⟨u, e, h1⟩ := hs; exact ⟨u, e, Rep.mono A.mono y u h1⟩
      | o c =>
        obtain ⟨u, e, h1⟩ := hs
        refine ⟨u, e, ?_⟩
        cases c with
        | lst ds => obtain ⟨a, xs, e, q1, q2, q3⟩ := h1; exact ⟨a, xs, e, hO a i q1, (ho a i q1).1.trans q2, RepL.mono A.mono ds xs q3⟩
        | dK ds => obtain ⟨a, xs, e, q1, q2, q3⟩ := h1; exact ⟨a, xs, e, hO a i q1, (ho a i q1).1.trans q2, RepK.mono A.mono ds xs q3⟩
        | dT ds => obtain ⟨a, xs, e, q1, q2, q3⟩ := h1; exact ⟨a, xs, e, hO a i q1, (ho a i q1).1.trans q2, RepT.mono A.mono ds xs q3⟩
      | sl _ => exact hs
      | bx =>
        obtain ⟨p, g, e, h1⟩ := hs
        rcases A.B with z | ⟨z, _⟩
        · exact ⟨p, g, z.trans e, h1⟩
        · rw [z] at e; cases e
      | st _ => obtain ⟨b, eb, h4⟩ := hs; exact ⟨b, eb, h4.mono A.mono⟩
  have keep : ∀ a o, H a = some o → (∀ i, w.O a = some i → s.a.length ≤ i ∧ i < t) → ¬ isBox w.B a → H' a = some o := fun a o h _ hb => A.keep a o h hb
  have newF : ∀ a, F' a ≠ none → w.F a ≠ none ∨ H a = none ∨ (∃ i, w.O a = some i ∧ (i < s.a.length ∨ t ≤ i)) ∨ (∃ xs, H a = some (.tup xs)) ∨ isBox w.B a := fun a h => (A.newF a h).imp id (fun z => z.imp id .inr)
  -- without a new owner
  have plain : RelR K ⟨F', w.O, B'⟩ H' σ { s with b := b } t r x → Q x H' := fun rel => by
    refine k ⟨F', w.O, B'⟩ H' x ⟨A.sub, ok.len, hsl w.O (fun _ _ h => h), fun a i h => ?_, Nat.le_succ_of_le ok.tN, fun p g e => ⟨A.box p g e, hB0 p g e⟩, A.nob⟩ ⟨A.mono, keep, A.there, fun _ _ h _ _ => h, newF, fun a i h => .inr (by rw [show w.O a = some i from h]; simp), fun _ _ h _ => .inr h, A.B⟩ rel
    obtain ⟨h1, ⟨o, h2, nt⟩, h3⟩ := ok.own a i h
    exact ⟨(ho a i h).2.1, ⟨o, (ho a i h).1.trans h2, nt⟩, Nat.lt_succ_of_lt h3⟩
  -- with one
  have owned : ∀ (a : Addr) (o : HO) (c : C), r = .o c → NT o → x = .ref a → F' a = none → H a = none → H' a = some o → ¬ isBox B' a → (∀ O' : Addr → Option Nat, O' a = some t → Own K ⟨F', O', B'⟩ H' t c x) → Q x H' := fun a o c er nt0 ex h1 h2 h3 h4 hc => by
    have hn : w.O a = none := by
      cases q : w.O a with
      | none => rfl
      | some i =>
        obtain ⟨_, ⟨u, h5, _⟩, _⟩ := ok.own a i q
        rw [h2] at h5; cases h5
    have hO : ∀ b i, w.O b = some i → (if b = a then some t else w.O b) = some i := fun b i h => by
      rw [if_neg (fun z => by subst z; rw [hn] at h; cases h)]; exact h
    refine k ⟨F', fun b => if b = a then some t else w.O b, B'⟩ H' x ⟨A.sub, ok.len, hsl _ hO, fun b i h => ?_, Nat.le_succ_of_le ok.tN, fun p g e => ⟨A.box p g e, ?_, ?_⟩, A.nob⟩
      ⟨A.mono, keep, A.there, fun b i h _ _ => hO b i h, newF, fun b i h => ?_, fun b i h _ => ?_, A.B⟩ (by subst er; exact hc _ (if_pos rfl))
    · have h' : (if b = a then some t else w.O b) = some i := h
      by_cases hb : b = a
      · rw [if_pos hb] at h'; cases h'
        subst hb
        exact ⟨h1, ⟨o, h3, nt0⟩, Nat.lt_succ_self _⟩
      · rw [if_neg hb] at h'
        obtain ⟨q1, ⟨u, q2, nt⟩, q3⟩ := ok.own b i h'
        exact ⟨(ho b i h').2.1, ⟨u, (ho b i h').1.trans q2, nt⟩, Nat.lt_succ_of_lt q3⟩
    · show (if p = a then some t else w.O p) = none
      rw [if_neg (fun z => by subst z; exact h4 ⟨p, g, e, .inl rfl⟩)]; exact (hB0 p g e).1
    · show (if g = a then some t else w.O g) = none
      rw [if_neg (fun z => by subst z; exact h4 ⟨p, g, e, .inr rfl⟩)]; exact (hB0 p g e).2
    · have h' : (if b = a then some t else w.O b) = some i := h
      by_cases hb : b = a
      · subst hb; exact .inl h2
      · rw [if_neg hb] at h'; exact .inr (by rw [h']; simp)
    · have h' : (if b = a then some t else w.O b) = some i := h
      by_cases hb : b = a
      · subst hb; exact .inl h2
      · rw [if_neg hb] at h'; exact .inr h'
  cases r with
  | d y => exact plain rel
  | o c =>
    obtain ⟨rel, nb⟩ := rel
    cases c with
    | lst ds =>
      obtain ⟨a, xs, ex, h1, h2, h3, h4⟩ := rel
      exact owned a _ _ rfl (fun _ h => by cases h) ex h1 h2 h3 (nb a ex) fun O' hO => ⟨a, xs, ex, hO, h3, h4⟩
    | dK ds =>
      obtain ⟨a, xs, ex, h1, h2, h3, h4⟩ := rel
      exact owned a _ _ rfl (fun _ h => by cases h) ex h1 h2 h3 (nb a ex) fun O' hO => ⟨a, xs, ex, hO, h3, h4⟩
    | dT ds =>
      obtain ⟨a, xs, ex, h1, h2, h3, h4⟩ := rel
      exact owned a _ _ rfl (fun _ h => by cases h) ex h1 h2 h3 (nb a ex) fun O' hO => ⟨a, xs, ex, hO, h3, h4⟩
  | sl _ => exact rel.elim
  | bx => exact plain rel
  | st _ => exact rel.elim
theorem call_lent {K : PySem.W.Frag} {t n t0 : Nat} {H : Hp} {σ : St} {np : Nat} {g : DF} {w w2 : Wd} {s s2 : S} {qs : List R} {us : List V} {r : R} {b : Bx} {Q : VK} {E : XK} (ok : OKs K w H σ s t) (ok2 : OKs K w2 H σ s2 t) (hF : Same w.F w2.F) (hB : w2.B = w.B)
    (ha : ArgsR K w2.F w2.B qs us) (hl : us.length = np) (e : g qs s2.b = .ok r b) (hr : leanR r = true)
    (k : ∀ w' H' x, OKs K w' H' σ { s with b := b } (t + 1) → Step s.a.length t w H w' H' → RelR K w' H' σ { s with b := b } t r x → Q x H') : spD K np g us H Q E := by
  refine ⟨w2.F, w2.B, qs, s2.b, r, b, hl, ok2.sub, fun p g e => (ok2.box p g e).1, ok2.nob, ha, e, fun F' B' H' x A rel => ?_⟩
  have sm : Same w.F F' := hF.trans A.mono
  have A' : After w.F H w.B (keepF w.F F') H' B' b := by
    rw [hB] at A
    refine ⟨keepF_same, (keepF_sub sm).trans A.sub, A.keep, A.there, fun a h => ?_, A.B, fun p g e => ?_, A.nob⟩
    · cases q : keepF w.F F' a with
      | none => exact absurd q h
      | some u =>
        obtain ⟨h1, h2 | ⟨xs, rfl⟩⟩ := keepF_inv sm q
        · exact .inl (by rw [h2]; simp)
        · rcases A.newF a (by rw [h1]; simp) with z | z | z | z
          · cases q2 : w2.F a with
            | none => exact absurd q2 z
            | some o =>
              have z2 := A.mono _ _ q2
              rw [h1] at z2
              cases z2
              exact .inr (.inr (.inl ⟨xs, ok2.sub _ _ q2⟩))
          · exact .inr (.inl z)
          · exact .inr (.inr (.inl z))
          · exact .inr (.inr (.inr z))
    · have bo := A.box p g e
      exact ⟨keepF_none sm bo.fp, keepF_none sm bo.fg, bo.ne, bo.hp, bo.hg⟩
  refine call_back ok A' ?_ k
  cases r with
  | d y => exact flat_rep sm y x hr rel
  | o c =>
    cases c with
    | lst ds =>
      obtain ⟨⟨a, xs, e1, h1, h2, h3, h4⟩, nb⟩ := rel
      exact ⟨⟨a, xs, e1, keepF_none sm h1, h2, h3, flatL_rep sm ds xs hr h4⟩, nb⟩
    | dK _ => cases hr
    | dT _ => cases hr
  | sl _ => cases hr
  | bx => cases hr
  | st _ => cases hr
def mCallL (np : Nat) (g : DF) (ms : MA) : ME := fun s => match ms s with
  | .no => .no
  | .ok rs s1 => if rs.length = np then match argsT s1 rs with
    | none => .no
    | some (q, s2) => match g q s2.b with
      | .no => .no
      | .ok r b => if leanR r = true then .ok r { s1 with b := b } else .no
    else .no
section
variable {X : Cx} {e : Expr} {es : List Expr} {ms : MA} {k np : Nat} {f : Addr} {fd : FuncData} {ps : List Str} {x : Str} {p pos : Pos} {g : DF} {E : XK}
theorem callL_snd {K : PySem.W.Frag} {ta : TA} {np : Nat} (h : SndA K ta ms) : SndE K (fun σ H Q => ta σ H fun vs H1 => spD K np g vs H1 Q E) (mCallL np g ms) := by
  intro σ H w s t Q r s' ok e kk
  simp only [mCallL] at e
  split at e
  · cases e
  · rename_i rs sa e1
    split at e
    · rename_i hlen
      split at e
      · cases e
      · rename_i qs sb e2
        split at e
        · cases e
        · rename_i r' b e3
          split at e
          · rename_i hr
            cases e
            refine h σ H w s t _ rs sa ok e1 fun w1 H1 us t1 a1 ok1 st1 sl1 rel1 => ?_
            have l := ok.slen ok1
            have tN := ok.tN
            obtain ⟨w2, ok2, st2, ar, sl2, l2, hB⟩ := argsT_ok (t0 := t) rs us qs sa sb w1 t ok1 rel1 e2 (Nat.le_refl _) (by rw [l]; exact tN)
            refine call_lent (n := 0) (t0 := 0) ok1 ok2 st2.F hB ar ((RelRs.length rs us t rel1).symm.trans hlen) e3 hr fun w3 H3 y ok3 st3 rel3 => ?_
            rw [l] at st3
            exact kk w3 H3 y (t1 + 1) t1 a1 (Nat.lt_succ_self _) ok3 (st1.trans (st3.mono a1)) sl1 rel3
          · cases e
    · cases e
theorem rc_callL (F : FnG X.prog X.w X.K X.mg X.base k f fd ps (spD X.K np g)) (hr : Here X k) (hm : X.mg x = some (.ref f)) (hk : PySem.W.keepIn X.K (.ref f) = true) (hb : Binds X.K fd ps [])
    (ha : RA X (e :: es) ms) (hl : ps.length = np := by rfl) (hg : Gl X x := by rfl) (hdb : (x == ("__debug__" : Str)) = false := by decide) (he : starEach (e :: es) X.env = (false, eval e X.env) :: starEach es X.env := by rfl) (hpl : (backTo pos (starEach es X.env)).any (·.1) = false := by rfl) :
    RE X (.Call (.Name x p) (e :: es) [] pos) (mCallL np g ms) := by
  subst hl
  obtain ⟨ta, p1, s1⟩ := ha
  exact ⟨_, peg_call (E := E0) F hr hg hm hk hb p1 hdb he hpl, callL_snd s1⟩
end
/-! ## is True, is not True -/
def dIsB : D → D → Option R
  | .bool a, .bool b => some (.d (.bool (decide (a = b))))
  | _, _ => none
def dNotB : D → D → Option R
  | .bool a, .bool b => some (.d (.bool (!decide (a = b))))
  | _, _ => none
section
variable {K : PySem.W.Frag}
theorem s_isB : OpS K (fun x y H Q => ∃ a b, x = .bl a ∧ y = .bl b ∧ Q (.bl (decide (a = b))) H) dIsB := by
  intro w H σ s t u v x y r Q ok hx hy e k
  unfold dIsB at e
  split at e
  · cases e
    exact ⟨_, _, hx.bool, hy.bool, s_d ok k (by simp only [Rep])⟩
  · cases e
theorem s_notB : OpS K (fun x y H Q => ∃ a b, x = .bl a ∧ y = .bl b ∧ Q (.bl (!decide (a = b))) H) dNotB := by
  intro w H σ s t u v x y r Q ok hx hy e k
  unfold dNotB at e
  split at e
  · cases e
    exact ⟨_, _, hx.bool, hy.bool, s_d ok k (by simp only [Rep])⟩
  · cases e
end
end Qz
namespace Qz
open PySem PySem.Spec L2
open PyProof.Rows hiding St
/-! ## a list, some times over -/
theorem fold_app : ∀ (m : Nat) (a : List Value) (acc : Array Value), List.foldl (fun x y => x ++ y) acc (List.replicate m a.toArray) = acc ++ ((List.replicate m a).flatten).toArray
  | 0, a, acc => by simp
  | m + 1, a, acc => by
    rw [List.replicate_succ, List.foldl_cons, fold_app m a, List.replicate_succ, List.flatten_cons, Array.append_assoc]
    simp
theorem vals_rep {xs : List V} {us : List Value} (r : Vals xs us) : ∀ m : Nat, Vals (List.replicate m xs).flatten (List.replicate m us).flatten
  | 0 => .nil
  | m + 1 => by
    rw [List.replicate_succ, List.replicate_succ, List.flatten_cons, List.flatten_cons]
    exact r.append (vals_rep r m)
theorem rep_len {α : Type} (xs : List α) (m : Nat) : (List.replicate m xs).flatten.length = xs.length * m := by
  rw [List.length_flatten, List.map_replicate, List.sum_replicate_nat, Nat.mul_comm]
def rRepL (K : PySem.W.Frag) : R2 := fun x y H Q => ∃ l k xs, x = .ref l ∧ y = .int k ∧ SqL K H l xs ∧ 0 ≤ k ∧ k ≤ 1000 ∧ xs.length * k.toNat ≤ 100000 ∧ ∀ p, H p = none → Q (.ref p) (upd H p (.lst (List.replicate k.toNat xs).flatten))
theorem op_repL {X : Cx} : OpR X (binaryOp .Mult) (rRepL X.K) := by
  intro pins s σ H x y v u Q I rx ry h
  obtain ⟨l, k, xs, rfl, rfl, hH, k0, k1, hz, q⟩ := h
  cases rx
  obtain ⟨t, rfl⟩ := ry
  obtain ⟨its, r, ⟨⟨cls, dd, data, sl⟩, n, ho, hc, hdd, hd⟩, hz1⟩ := I.list hH
  simp only at hc hd
  subst hc hd
  have hs : its.toArray.size * k.toNat ≤ 100000 := by rw [List.size_toArray, ← r.length]; exact hz
  have h1 : ¬(!Builtin.List.listFitsIndex k) = true := by
    unfold Builtin.List.listFitsIndex
    simp
    omega
  have h2 : ¬its.toArray.size * k.toNat > (2 ^ 63 - 1) / 8 := by omega
  have hb : 100000 ≤ sizeLine := by decide
  have hs2 : its.length * k.toNat ≤ 100000 := by rw [← r.length]; exact hz
  have h3 : ¬Builtin.List.listTooLong (its.toArray.size * k.toNat) = true := by
    unfold Builtin.List.listTooLong
    simp
    omega
  refine wpAny_binaryOp_repeat_ref (T := "list") (U := "int") rfl ⟨_, ho, rfl⟩ (fun _ => rfl) noFill_list_mul F.fills_int_mul F.slot_int_rmul repeat_list F.slot_int_index.lookup
    (call_meets F.slot_int_rmul rfl F.entry_int_rmul (F.args_int_rmul_2 _ _) (lm_int_rmul_list_any k t l its.toArray n dd sl) ⟨ho, ⟨rfl, ⟨_, ho, rfl⟩, ?_⟩⟩)
  refine call_meets F.slot_list_mul ⟨_, ho, rfl⟩ F.entry_list_mul (F.args_list_mul_2 _ _) (lm_list_mul_any l its.toArray n dd sl k t h1 h2 h3) ⟨ho, ?_⟩
  have e : List.foldl (fun x1 x2 => x1 ++ x2) #[] (List.replicate (if its.toArray.isEmpty = true then 0 else k.toNat) its.toArray) = ((List.replicate k.toNat its).flatten).toArray := by
    rw [fold_app]
    cases its with
    | nil => simp
    | cons a b => simp
  rw [e]
  exact ⟨.ref _, _, I.lnew (t' := s.toks) (vals_rep r k.toNat) (by rw [rep_len]; exact Nat.le_trans hz (by decide)), rfl, q _ I.fresh⟩
def dRepL : D → D → Option R
  | .list l, .int k => if 0 ≤ k ∧ k ≤ 1000 ∧ l.length * k.toNat ≤ 100000 then some (.o (.lst (List.replicate k.toNat l).flatten)) else none
  | _, _ => none
theorem repL_rep {K : PySem.W.Frag} {F : Hp} {ds : List D} {xs : List V} (h : RepL K F ds xs) : ∀ m : Nat, RepL K F (List.replicate m ds).flatten (List.replicate m xs).flatten
  | 0 => .nil
  | m + 1 => by
    rw [List.replicate_succ, List.replicate_succ, List.flatten_cons, List.flatten_cons]
    exact RepL.append _ _ h (repL_rep h m)
theorem s_repL {K : PySem.W.Frag} : OpS K (rRepL K) dRepL := by
  intro w H σ s t u v x y r Q ok hx hy e k
  unfold dRepL at e
  split at e
  · split at e
    · rename_i hz
      cases e
      obtain ⟨p, xs, rfl, h1, h2⟩ := hx.lst ok.sub
      refine ⟨p, _, xs, rfl, hy.int, h1, hz.1, hz.2.1, by rw [← RepL.length _ _ h2]; exact hz.2.2, fun c hc => ?_⟩
      refine k (w.give c t) _ _ (give_ok ok hc) (give_step ok hc) ?_
      exact ⟨c, _, rfl, by show (if c = c then some t else w.O c) = some t; rw [if_pos rfl], upd_same, repL_rep h2 _⟩
    · cases e
  · cases e
end Qz
/-! sorted of a set of tuples of ints, of any ints and any lengths but none -/
namespace SetQ
open PySem PyProof.Rows HT
section
variable {P : Program} {w : World} {A : Around} {E : Value → Shared → Prop} {s : Shared}
theorem refs_back {L : List (Addr × List Int)} : ∀ out : List Value, (∀ v ∈ out, v ∈ L.map fun q => Value.ref q.1) → ∃ M : List (Addr × List Int), out = M.map (fun q => Value.ref q.1) ∧ ∀ q ∈ M, q ∈ L
  | [], _ => ⟨[], rfl, by simp⟩
  | v :: out, h => by
    obtain ⟨M, e, hm⟩ := refs_back out fun u hu => h u (List.mem_cons_of_mem _ hu)
    obtain ⟨q, hq, rfl⟩ := List.mem_map.mp (h v List.mem_cons_self)
    exact ⟨q :: M, by rw [e]; rfl, fun r hr => by
      rcases List.mem_cons.mp hr with rfl | hr
      · exact hq
      · exact hm r hr⟩
theorem perm_back {L M : List (Addr × List Int)} (hn : (L.map (·.1)).Nodup) (hs : ∀ q ∈ M, q ∈ L) (hp : (M.map (·.1)).Perm (L.map (·.1))) : M.Perm L := by
  have nL := L2.nodup_of_map hn
  have nM := L2.nodup_of_map (hp.nodup_iff.mpr hn)
  refine (List.perm_ext_iff_of_nodup nM nL).mpr fun q => ⟨hs q, fun hq => ?_⟩
  obtain ⟨r, hr, e⟩ := List.mem_map.mp (hp.mem_iff.mpr (List.mem_map.mpr ⟨q, hq, rfl⟩))
  have : r = q := by
    have hr' := hs r hr
    clear hp hs hr nL nM
    induction L with
    | nil => cases hq
    | cons z L ih =>
      rw [List.map_cons, List.nodup_cons] at hn
      rcases List.mem_cons.mp hq with h1 | h1 <;> rcases List.mem_cons.mp hr' with h2 | h2
      · rw [h1, h2]
      · exact absurd (List.mem_map.mpr ⟨r, h2, by rw [e, h1]⟩) hn.1
      · exact absurd (List.mem_map.mpr ⟨q, h1, by rw [← e, h2]⟩) hn.1
      · exact ih hn.2 h1 h2
  rw [← this]; exact hr
theorem sorted_setI {a : Addr} {L : List (Addr × List Int)} {es : Array (Int × Value)} {ep : Nat} {t : SetTable} {Q : Value → Shared → Prop} (R : L2.SetTR P w s.heap a L es ep t) (hh : A.handled = none) (hne : ∀ p ∈ L, p.2 ≠ [])
    (hQ : ∀ (s' : Shared) (p : Nat) (c : Nat) (M : List (Addr × List Int)), (∀ b o, s.heap.get? b = some o → s'.heap.get? b = some o) → s'.gens = s.gens → s'.os = s.os → s.heap.objs.size ≤ p →
      s'.heap.get? p = some (seqObj "list" (M.map fun q => Value.ref q.1).toArray c) → M.Perm L → SrtO.Srtd (fun (q r : Addr × List Int) => HT.lexLt q.2 r.2) M → Q (.ref p) s') :
    wpAny (model P w) A (call (.builtin "sorted") [.ref a]) Q E s := by
  obtain ⟨o, ho, hex, hd⟩ := R.ob
  have hsz := R.size
  have hfew := R.few
  have h64 : 64 ≤ scanBound := by decide
  have h64' : 64 ≤ sizeLine := by decide
  refine Calls.call_function_entry kind_sorted plain_sorted entry_sorted (args_sorted1 _) ?_
  refine wpAny_bind (wpAny_pure (wpAny_bind ?_))
  refine L2.collect_set hh ⟨o, ho, hex.1, hd⟩ R.fits (by omega) R.tab.ris R.led fun s1 vs k1 hz g1 o1 pm => ?_
  have hes : es.toList.map (fun x => x.2) = L.map fun q => Value.ref q.1 := by
    rw [R.rows]
    unfold L2.rowsOf
    rw [List.map_map]
    rfl
  rw [hes] at pm
  have hvl : vs.length < 64 := by rw [pm.length_eq, List.length_map]; exact hfew
  refine wpAny_bind (wpAny_newList ?_ (by omega))
  have hoL : (s1.heap.push (seqObj "list" vs.toArray 0)).get? s1.heap.objs.size = some (seqObj "list" vs.toArray 0) := Heap.get?_push_size s1.heap rfl
  have tk : ∀ q ∈ L, TS.TupInts (s1.heap.push (seqObj "list" vs.toArray 0)) (.ref q.1) q.2 := fun q hq => L2.tupInts_of (L2.isT_keep (R.tup q hq) fun b u e => Heap.get?_push_of_some _ (k1 b u e))
  have hk : ∀ q ∈ L, TS.intsOf (s1.heap.push (seqObj "list" vs.toArray 0)) (.ref q.1) = q.2 := fun q hq => (tk q hq).ints
  have hvs : ∀ v ∈ vs, ∃ q ∈ L, v = .ref q.1 := fun v hv => by
    obtain ⟨q, hq, rfl⟩ := List.mem_map.mp (pm.mem_iff.mp hv)
    exact ⟨q, hq, rfl⟩
  have hinj : (L.map (·.1)).Nodup := by
    have nd := R.nd
    have key : ∀ K : List (Addr × List Int), (∀ q ∈ K, q ∈ L) → (K.map (·.2)).Nodup → (K.map (·.1)).Nodup := by
      intro K
      induction K with
      | nil => intro _ _; simp
      | cons z K ih =>
        intro hs hn
        rw [List.map_cons, List.nodup_cons] at hn ⊢
        refine ⟨fun hm => ?_, ih (fun q hq => hs q (List.mem_cons_of_mem _ hq)) hn.2⟩
        obtain ⟨r, hr, e⟩ := List.mem_map.mp hm
        have e2 : r.2 = z.2 := by
          rw [← hk r (hs r (List.mem_cons_of_mem _ hr)), ← hk z (hs z List.mem_cons_self), e]
        exact hn.1 (List.mem_map.mpr ⟨r, hr, e2⟩)
    exact key L (fun _ h => h) nd
  refine wpAny_bind (wpAny_holding (wpAny_call_entry slot_list_sort ⟨_, hoL, rfl⟩ entry_list_sort (SrtO.list_sort_ord (NtL.swo_lexL (TS.intsOf (s1.heap.push (seqObj "list" vs.toArray 0)))) hoL (by omega) (fun h2 => ?_) fun out hs hb => ?_) (args_list_sort _)))
  · refine SrtQ.tups_sortable (by omega) (fun v hv => ?_) fun o e => ?_
    · obtain ⟨q, hq, rfl⟩ := hvs v hv
      rw [hk q hq]
      exact ⟨tk q hq, hne q hq⟩
    · have e' := e.symm.trans hoL
      cases e'
      intro c
      exact absurd (Value.type.inj c) (by decide)
  · obtain ⟨M, rfl, hM⟩ := refs_back (L := L) out fun v hv => pm.mem_iff.mp (hb.perm.mem_iff.mp hv)
    obtain ⟨c, hc⟩ := sortedHeap_at (out := (M.map fun q => Value.ref q.1).toArray) hoL
    have hpm : M.Perm L := by
      refine perm_back hinj hM ?_
      have h3 := hb.perm.trans pm
      have h4 := h3.map fun v => match v with
        | .ref b => b
        | _ => 0
      rw [List.map_map, List.map_map] at h4
      exact h4
    refine ⟨_, rfl, wpAny_pure ⟨_, rfl, hQ _ _ c M (fun b u e => ?_) g1 o1 hz hc hpm ?_⟩⟩
    · have q := k1 b u e
      have hlt := Heap.lt_size q
      show (sortedHeap _ _ _ _).get? b = _
      rw [sortedHeap_old (Nat.ne_of_lt hlt) (by rw [size_push']; exact Nat.lt_succ_of_lt hlt)]
      exact Heap.get?_push_of_some _ q
    · have := List.pairwise_map.mp hs
      refine this.imp_of_mem fun {q r} hq hr h => ?_
      have h' : HT.lexLt (TS.intsOf (s1.heap.push (seqObj "list" vs.toArray 0)) (.ref r.1)) (TS.intsOf (s1.heap.push (seqObj "list" vs.toArray 0)) (.ref q.1)) = false := h
      rw [hk q (hM q hq), hk r (hM r hr)] at h'
      exact h'
end
end SetQ
namespace Qz
open PySem PySem.Spec L2
open PyProof.Rows hiding St
def rSortedSI (K : PySem.W.Frag) (P : Program) (w : World) : List V → Hp → VK → Prop := fun vs H Q => ∃ (a : Addr) (L : List (Addr × List Int)), vs = [V.ref a] ∧ H a = some (SetTO P w a L) ∧ (∀ p ∈ L, SqT K H p.1 (p.2.map V.int)) ∧ (∀ p ∈ L, p.2 ≠ []) ∧
  ∀ (M : List (Addr × List Int)) (p : Addr), M.Perm L → (M.map (·.2)).Nodup → SrtO.Srtd (fun (q r : Addr × List Int) => HT.lexLt q.2 r.2) M → H p = none → Q (.ref p) (upd H p (.lst (M.map fun q => V.ref q.1)))
theorem cr_sortedSI {X : Cx} (hc : X.calm = true) : CallR X (.builtin "sorted") (rSortedSI X.K X.prog X.w) := by
  intro pins s σ H vs us Q I r h
  obtain ⟨a, L, rfl, ha, hk, hne, q⟩ := h
  have R0 := (I.hok a _ ha).1
  obtain ⟨es, ep, t, R⟩ := SetT0.full R0 fun p hp => I.isT (hk p hp)
  rw [r.ref1]
  refine SetQ.sorted_setI R (I.ok.hd hc) hne fun s' p c M k g o hp hg pm hs => ?_
  have hfew : M.length < 64 := by rw [pm.length_eq]; exact R.few
  have h64 : 64 ≤ sizeLine := by decide
  have hn := HOk.fresh I.hok hp
  have J : Inv X pins σ (upd H p (.lst (M.map fun q => V.ref q.1))) { heap := s'.heap, gens := s'.gens, drawn := s'.drawn, toks := s'.toks, os := s.os } :=
    I.call (ch := []) (Un.laid k hp hn) (HOk.laid I.hok k hp ⟨by rw [List.length_map]; omega, _, c, vals_of_refs M, hg⟩) (by rw [g]; exact I.bare) (fun x z => by cases z)
  rw [← o] at J
  exact ⟨.ref p, _, J, rfl, q M p pm ((pm.map _).nodup_iff.mpr R.nd) hs hn⟩
end Qz
namespace Qz
open PySem PySem.Spec L2
open PyProof.Rows hiding St
/-! ## comprehensions that make a set -/
abbrev AdT := Addr → V → Hp → (Hp → Prop) → Prop
/-- what a kind of sets has to tell: the new one, and what it is to add -/
structure SetKind (X : Cx) (O : Addr → HO) (ad : AdT) : Prop where
  new : ∀ (H : Hp) (h : Heap), ObjOk X.prog X.w (upd H h.objs.size (O h.objs.size)) (h.push { cls := .type "set", data := .set #[] 0 (SetTable.fresh 0 0 !X.w.params.followText "set-order") }) h.objs.size (O h.objs.size)
  add : ∀ (Y : Cx), Y.prog = X.prog → Y.w = X.w → Y.K = X.K → Y.A = X.A → (Y.xe = fun _ _ => False) → ∀ (pins : List (Addr × Obj)) (σ : St) (H : Hp) (s : Shared) (E : Value → Shared → Prop) (D : Addr) (y : V) (u : Value) (k : Hp → Prop) (Q : Value → Shared → Prop), Inv Y pins σ H s → RelV y u → ad D y H k →
    (∀ s' H', Inv Y pins σ H' s' → k H' → Q .none s') → wpAny (model Y.prog Y.w) Y.A (call (.builtin "set.add") [.ref D, u]) Q E s
def tScG (O : Addr → HO) (ad : AdT) (wi : TI) (g : TG) (tt : TT) (te : TE) (vs : List Nat) : TE := fun σ H Q => wi σ H fun J H1 => ∀ D, H1 D = none → ∃ W : Nat → Nat → Hp → Prop, (∃ m, W 0 m (upd H1 D (O D))) ∧ ∀ i m H, W i m H →
  (J.stop i H ∧ Q (.ref D) H) ∨ (J.go i H ∧ ∃ Nx : Hp → Prop, (∀ H', Nx H' → ∃ m', m' < m ∧ W (i + 1) m' H') ∧ ∀ x H', J.yld i H x H' → g x (wipe σ vs) H' fun σ2 H2 => wipe σ2 vs = wipe σ vs ∧ tt σ2 H2 fun b H3 => if b = true then te σ2 H3 fun y H4 => ad D y H4 Nx else Nx H3)
section
variable {X : Cx} {elt tg iter : Expr} {ifs : List Expr} {scope : Scope} {own : List (Str × Nat)} {pos pos' : Pos} {wi : TI} {g : TG} {tt : TT} {te : TE} {O : Addr → HO} {ad : AdT}
theorem scG_core {pins : List (Addr × Obj)} {s : Shared} {σ : St} {H : Hp} {Q : VK} {use : Option (Value → Sem Unit)} {Qf : Value → Shared → Prop} (SK : SetKind X O ad) (hc : X.calm = true) (hN : X.N.Nodup) (I : Inv X pins σ H s) (hi : PI X tg iter wi) (ok : BlkOk X.N X.env.scope scope own)
    (hg : ∀ (s : Shared) (H : Hp) (C : Addr) (cl : List (Str × Addr)) (fp : List Addr), PG (X.blk s H scope (compEnvC scope cl C X.env) fp) tg g)
    (ht : ∀ (s : Shared) (H : Hp) (C : Addr) (cl : List (Str × Addr)) (fp : List Addr), PTs (X.blk s H scope (compEnvC scope cl C X.env) fp) ifs tt)
    (he : ∀ (s : Shared) (H : Hp) (C : Addr) (cl : List (Str × Addr)) (fp : List Addr), PE (X.blk s H scope (compEnvC scope cl C X.env) fp) elt te)
    (hs : ∀ x : Value, foldedSetIterable iter X.env x = pure x) (h : tScG O ad wi g tt te (own.map (·.2)) σ H Q)
    (hRR : ∀ (D C : Addr) (s' : Shared) (m : Str → Option Value) (H' : Hp), Inv X pins σ H' s' → Q (.ref D) H' → s'.heap.Ns C m → FpOk X pins H' C → compPost (model X.prog X.w) X.A X.xe use Qf (.ref D) C (.ok .next) s') :
    wpAny (model X.prog X.w) X.A (comprehension (.SetComp elt [⟨tg, iter, ifs, 0⟩] scope pos) scope X.env pos' (newSet (.type "set")) false (eval iter X.env) use) Qf X.xe s := by
  have hfree : ∀ y ∈ scope.names, y.2 = .free → ∃ c, List.lookup y.1 X.env.cells = some c := fun y hy e => (ok.free y hy e).elim (fun k => I.ok.has y.1 (.inl k)) fun k => I.ok.has y.1 (.inr k)
  refine wpAny_comprehension_free rfl hs (closure_ok hfree) ok.kind (fun y hy e => by rw [ok.uniq y hy, e]) ?_
  refine thn (hi.run pins s σ H _ I h) fun xv s1 hx => thn hx fun itv s2 h2 => ?_
  obtain ⟨it, fp, tn, J, H2, rfl, I2, T, st2, f2, q⟩ := h2
  refine PpSet.newSet_ok (newEnv_comp ?_)
  have hDn : H2 s2.heap.objs.size = none := HOk.fresh I2.hok (Nat.le_refl _)
  obtain ⟨W, ⟨m0, w0⟩, turn⟩ := q s2.heap.objs.size hDn
  have sz : ∀ b ∈ fp, b < s2.heap.objs.size := fun b hb => by
    obtain ⟨o, e, _⟩ := T.obj 0 s2.heap st2 b hb
    exact Heap.lt_size e
  have I3 := I2.laid (t' := s2.toks) (fun b o e => Heap.get?_push_of_some _ e) (Nat.le_refl _) (SK.new H2 s2.heap)
  generalize hD : s2.heap.objs.size = D at *
  generalize hob : ({ cls := .type "set", data := .set #[] 0 (SetTable.fresh 0 0 !X.w.params.followText "set-order") } : Obj) = ob at *
  have st3 : tn 0 (s2.heap.push ob) := T.keep 0 s2.heap _ st2 fun b x o e => Heap.get?_push_of_some _ e
  have hsz : (s2.heap.push ob).objs.size = D + 1 := by rw [Heap.size_push, hD]
  have f3 : ∀ b ∈ fp, FpOk X pins (upd H2 D (O D)) b ∧ b < (s2.heap.push ob).objs.size := fun b hb => by
    have hlt := sz b hb
    refine ⟨⟨?_, (f2 b hb).2⟩, by rw [hsz]; exact Nat.lt_succ_of_lt hlt⟩
    rw [upd_ne (Nat.ne_of_lt hlt)]
    exact (f2 b hb).1
  generalize hS : ({ heap := s2.heap.push ob, gens := s2.gens, drawn := s2.drawn, toks := s2.toks, os := s2.os } : Shared) = S3 at *
  have hSh : S3.heap = s2.heap.push ob := by rw [← hS]
  rw [← hSh] at st3 hsz f3
  have I4 := block_start I3 ok hN f3
  have pg := hg S3 (upd H2 D (O D)) S3.heap.objs.size (cellsFrom (S3.heap.objs.size + 1) scope.names (cloFrom X.env.cells scope.names [])) fp
  have pt := ht S3 (upd H2 D (O D)) S3.heap.objs.size (cellsFrom (S3.heap.objs.size + 1) scope.names (cloFrom X.env.cells scope.names [])) fp
  have pe := he S3 (upd H2 D (O D)) S3.heap.objs.size (cellsFrom (S3.heap.objs.size + 1) scope.names (cloFrom X.env.cells scope.names [])) fp
  have nfp : ∀ b ∈ fp, upd H2 D (O D) b = none := fun b hb => (f3 b hb).1.1
  have st4 : tn 0 (pushCells (S3.heap.push { cls := .type "dict", data := .dict #[] }) scope.names) := T.keep 0 S3.heap _ st3 fun b x o e => pushCells_keeps scope.names _ b o (Heap.get?_push_of_some _ e)
  have stat : ∀ (σ' : St) (H' : Hp) (s' : Shared), Inv (X.blk S3 (upd H2 D (O D)) scope (compEnvC scope (cellsFrom (S3.heap.objs.size + 1) scope.names (cloFrom X.env.cells scope.names [])) S3.heap.objs.size X.env) fp) [] σ' H' s' → (∀ b ∈ fp, H' b = none) →
      ∀ b ∈ fp, FpOk (X.blk S3 (upd H2 D (O D)) scope (compEnvC scope (cellsFrom (S3.heap.objs.size + 1) scope.names (cloFrom X.env.cells scope.names [])) S3.heap.objs.size X.env) fp) [] H' b := fun σ' H' s' I' hn b hb =>
    ⟨hn b hb, (I'.ok.exf b hb).1, I'.ok.exfs b hb, .inl hb, fun x c e => (I'.ok.exf b hb).2 x c e, fun p hp => by cases hp⟩
  generalize hY : X.blk S3 (upd H2 D (O D)) scope (compEnvC scope (cellsFrom (S3.heap.objs.size + 1) scope.names (cloFrom X.env.cells scope.names [])) S3.heap.objs.size X.env) fp = Y at *
  have y1 : Y.prog = X.prog := by rw [← hY]
  have y2 : Y.w = X.w := by rw [← hY]
  have y3 : Y.K = X.K := by rw [← hY]
  have y4 : Y.A = X.A := by rw [← hY]
  have y5 : Y.calm = X.calm := by rw [← hY]
  have y6 : Y.xe = fun _ _ => False := by rw [← hY]
  have y7 : Y.env = compEnvC scope (cellsFrom (S3.heap.objs.size + 1) scope.names (cloFrom X.env.cells scope.names [])) S3.heap.objs.size X.env := by rw [← hY]
  suffices loop : codeAny (model X.prog X.w) X.A (Code.compLoop (.SetComp elt [⟨tg, iter, ifs, 0⟩] scope pos) 0 (.ref it) (.ref D) (compEnvC scope (cellsFrom (S3.heap.objs.size + 1) scope.names (cloFrom X.env.cells scope.names [])) S3.heap.objs.size X.env)) (compPost (model X.prog X.w) X.A X.xe use Qf (.ref D) S3.heap.objs.size) { heap := pushCells (S3.heap.push { cls := .type "dict", data := .dict #[] }) scope.names, gens := S3.gens, drawn := S3.drawn, toks := S3.toks, os := S3.os } from
    PpSet.codeAny_compStart_set loop (T.self X.A 0 _ _ _ st4 loop)
  refine PpSet.compLoopS_any (I := fun n s' => ∃ i H', Inv Y [] (wipe σ (own.map (·.2))) H' s' ∧ tn i s'.heap ∧ (∀ b ∈ fp, H' b = none) ∧ W i n H') ?_ m0 ⟨0, _, I4, st4, nfp, w0⟩
  rintro n s5 ⟨i, H5, I5, st5, n5, w5⟩
  rcases turn i n H5 w5 with ⟨stop, qq⟩ | ⟨go, Nx, hNx, step⟩
  · have td := T.done Y y1 y2 y3 (y5.trans hc) i [] s5 _ H5 (fun _ _ => False) I5 (stat _ _ _ I5 n5) st5 stop
    rw [y4] at td
    refine thnF td fun r s6 h => ?_
    obtain ⟨rfl, I6⟩ := h
    have I7 : Inv X pins σ H5 s6 := by
      subst hY
      exact I3.call' I6.os I6.base I6.hok I6.bare fun b hb => ⟨(f3 b hb).1.2.2.2.1, (f3 b hb).1.2.1, (f3 b hb).1.2.2.2.2.1, (f3 b hb).1.2.2.2.2.2⟩
    have nC : H5 S3.heap.objs.size = none := by
      subst hY
      exact I6.free
    have hns : ∃ m, s6.heap.Ns S3.heap.objs.size m := by
      subst hY
      obtain ⟨m, hn, _⟩ := I6.loc
      exact ⟨m, hn⟩
    obtain ⟨m, hn⟩ := hns
    exact hRR D S3.heap.objs.size s6 m H5 I7 qq hn (I3.fpOk (Nat.le_refl _) nC)
  · have ti := T.item Y y1 y2 y3 (y5.trans hc) i [] s5 _ H5 (fun _ _ => False) I5 (stat _ _ _ I5 n5) st5 go
    rw [y4] at ti
    refine thnF ti fun r s6 h => ?_
    obtain ⟨u, rfl, h6⟩ := h
    refine thnF h6 fun _ s7 h => ?_
    obtain ⟨x, H7, I7, r7, yl7, st7, n7⟩ := h
    have I7' := I7.pinned (stat _ _ _ I7 n7) (T.obj (i + 1) s7.heap st7)
    have rg := pg.run ([] ++ pinsAt fp s7.heap) s7 _ H7 x u _ I7' r7 (step x H7 yl7)
    rw [y1, y2, y4, y6, y7] at rg
    refine thnF rg fun _ s8 h => ?_
    obtain ⟨σ8, H8, I8, hw8, q8⟩ := h
    have rt := pt.run ([] ++ pinsAt fp s7.heap) s8 σ8 H8 _ I8 q8
    rw [y1, y2, y4, y6, y7] at rt
    refine thnF rt fun b s9 h => ?_
    obtain ⟨H9, I9, q9⟩ := h
    have hl : (wipe σ (own.map (·.2))).length = σ8.length := by rw [← hw8]; exact wipe_length σ8 _
    have fin : ∀ (s' : Shared) (H' : Hp), Inv Y ([] ++ pinsAt fp s7.heap) σ8 H' s' → Nx H' → ∃ m', m' < n ∧ ∃ i H', Inv Y [] (wipe σ (own.map (·.2))) H' s' ∧ tn i s'.heap ∧ (∀ b ∈ fp, H' b = none) ∧ W i m' H' := fun s' H' I' nx => by
      obtain ⟨m', hm, w'⟩ := hNx H' nx
      have pin' : ∀ b ∈ fp, ∀ o, s7.heap.get? b = some o → s'.heap.get? b = some o ∧ H' b = none := fun b hb o e => by
        have z := I'.pin (b, o) (List.mem_append_right _ (mem_pinsAt hb e))
        exact ⟨z.1, z.2.1⟩
      refine ⟨m', hm, i + 1, H', I'.unpinned.weak hl fun j v e => ?_, T.keep (i + 1) s7.heap s'.heap st7 fun b hb o e => (pin' b hb o e).1, fun b hb => ?_, w'⟩
      · rw [← hw8] at e
        exact (wipe_some e).1
      · obtain ⟨o, e, _⟩ := T.obj (i + 1) s7.heap st7 b hb
        exact (pin' b hb o e).2
    cases b with
    | false => exact fin s9 H9 I9 q9
    | true =>
      have re := pe.run ([] ++ pinsAt fp s7.heap) s9 σ8 H9 _ I9 q9
      rw [y1, y2, y4, y6, y7] at re
      refine thnF re fun z s10 h => ?_
      obtain ⟨yv, H10, I10, r10, hA⟩ := h
      have ra := fun (E : Value → Shared → Prop) => SK.add Y y1 y2 y3 y4 y6 _ σ8 H10 s10 E D yv z Nx (fun _ s' => ∃ m', m' < n ∧ ∃ i H', Inv Y [] (wipe σ (own.map (·.2))) H' s' ∧ tn i s'.heap ∧ (∀ b ∈ fp, H' b = none) ∧ W i m' H') I10 r10 hA fun s' H' J nx => fin s' H' J nx
      rw [y1, y2, y4] at ra
      exact ra _
theorem pe_scG (SK : SetKind X O ad) (hc : X.calm = true) (hN : X.N.Nodup) (hi : PI X tg iter wi) (ok : BlkOk X.N X.env.scope scope own)
    (hg : ∀ (s : Shared) (H : Hp) (C : Addr) (cl : List (Str × Addr)) (fp : List Addr), PG (X.blk s H scope (compEnvC scope cl C X.env) fp) tg g)
    (ht : ∀ (s : Shared) (H : Hp) (C : Addr) (cl : List (Str × Addr)) (fp : List Addr), PTs (X.blk s H scope (compEnvC scope cl C X.env) fp) ifs tt)
    (he : ∀ (s : Shared) (H : Hp) (C : Addr) (cl : List (Str × Addr)) (fp : List Addr), PE (X.blk s H scope (compEnvC scope cl C X.env) fp) elt te)
    (hs : ∀ x : Value, foldedSetIterable iter X.env x = pure x) : PE X (.SetComp elt [⟨tg, iter, ifs, 0⟩] scope pos) (tScG O ad wi g tt te (own.map (·.2))) := by
  refine ⟨fun pins s σ H Q I h => ?_⟩
  rw [PpSet.eval_SetComp]
  refine scG_core SK hc hN I hi ok hg ht he hs h fun D C s' m H' I' q hn hf => ?_
  obtain ⟨f0, f1, f2, f3, f4, f5⟩ := hf
  exact ⟨m, hn, fun h2 sb => ⟨.ref D, H', I'.turned (fun b o hb e => (sb.2 b hb).trans e) f0 f1 f3 f4 f5, rfl, q⟩⟩
end
/-! ## the two kinds: of tuples of ints, of ints -/
def adT (K : PySem.W.Frag) (P : Program) (w : World) : AdT := fun D y H k => ∃ (L : List (Addr × List Int)) (b : Addr) (ns : List Int), y = .ref b ∧ H D = some (SetTO P w D L) ∧ SqT K H b (ns.map .int) ∧ (∀ p ∈ L, SqT K H p.1 (p.2.map .int)) ∧ L.length + 1 < 64 ∧
  ∀ L', (ns ∈ L.map (·.2) → L' = L) → (ns ∉ L.map (·.2) → L'.Perm ((b, ns) :: L)) → k (upd H D (SetTO P w D L'))
def adI (w : World) : AdT := fun D y H k => ∃ (i : Int) (S : Int → Bool) (n : Nat), y = .int i ∧ H D = some (SetO w D S n) ∧ n + 1 < scanBound ∧ k (upd H D (SetO w D (fun j => S j || decide (j = i)) (if S i = true then n else n + 1)))
theorem setKindT {X : Cx} (hu : X.A.units + 64 < cLine) : SetKind X (fun D => SetTO X.prog X.w D []) (adT X.K X.prog X.w) := by
  refine ⟨fun H h => setTO_new (SetTR.t0 (setTR_fresh (Heap.get?_push_size _ rfl))), ?_⟩
  rintro Y y1 y2 y3 y4 y6 pins σ H s E D y u k Q I rv ⟨L, b, ns, rfl, hD, hb, hL, hl, hk⟩ hQ
  rw [← y1, ← y2] at hD
  rw [← y3] at hb hL
  rw [← y4] at hu
  have R0 := (I.hok D _ hD).1
  obtain ⟨es, ep, t, R⟩ := SetT0.full R0 fun p hp => I.isT (hL p hp)
  have hB := I.isT hb
  obtain ⟨o, ho, hex, hd⟩ := R.ob
  cases rv
  have u1 : Y.A.in1.units < cLine := by
    have : Y.A.in1.units = Y.A.units + 1 := rfl
    omega
  refine wpAny_call_entry F.slot_set_add ⟨o, ho, hex.1⟩ F.entry_set_add ?_ (F.args_set_add_2 _ _)
  show wpAny _ _ ((Builtin.Frozenset.addrOf (.ref D) >>= fun l => pure (l, Value.ref b)) >>= fun x => setAdd x.1 x.2 >>= fun _ => ret .none) _ _ _
  rw [bind_assoc]
  refine wpAny_bind (wpAny_pure (wpAny_bind (wpAny_pure (wpAny_bind (wpAny_holding (wpAny_bind (wpAny_pyHash_tuple u1 hB (add_at (s := { heap := s.heap, gens := s.gens, drawn := s.drawn, toks := s.toks + (ns.length + 1), os := s.os }) R hB u1 hl fun b2 h' L' es' ep' t' sb new n1 n2 => wpAny_pure ⟨.none, rfl, ?_⟩))))))))
  have he : ∃ u, h'.get? D = some u := by
    obtain ⟨o2, h2, _⟩ := new.ob
    exact ⟨o2, h2⟩
  have J := I.write (t' := s.toks + (ns.length + 1)) (o := SetTO Y.prog Y.w D L') (by rw [hD]; exact trivial) (.inl rfl) (fun b u hb hu => (sb.2 b hb).trans hu) he (setTO_new new.t0)
  refine hQ _ _ J ?_
  have := hk L' n1 n2
  rw [← y1, ← y2] at this
  exact this
theorem setKindI {X : Cx} : SetKind X (fun D => SetO X.w D (fun _ => false) 0) (adI X.w) := by
  refine ⟨fun H h => setO_new ⟨_, #[], 0, _, Heap.get?_push_size _ rfl, ⟨rfl, rfl, rfl⟩, rfl, ?_, ?_, ?_, by decide, ?_, rfl, ?_, ?_⟩, ?_⟩
  · intro e he; cases he
  · exact .nil
  · intro k
    constructor
    · intro h; cases h
    · intro h; cases h
  · rfl
  · exact List.Pairwise.nil
  · show _ ∨ (!X.w.params.followText "set-order") = true
    cases X.w.params.followText "set-order"
    · exact .inr rfl
    · exact .inl rfl
  rintro Y y1 y2 y3 y4 y6 pins σ H s E D y u k Q I rv ⟨i, S, n, rfl, hD, hn, hk⟩ hQ
  rw [← y2] at hD
  have r := @mt_sadd Y pins s σ H (.ref D) [.int i] (.ref D) [u] (fun v H' => v = .non ∧ k H') I rfl (.cons rv .nil) ⟨D, i, S, n, rfl, rfl, hD, hn, rfl, by rw [← y2] at hk; exact hk⟩
  rw [y6] at r
  refine thnF r fun v s' h => ?_
  obtain ⟨v', H', J, rv', rfl, hk'⟩ := h
  cases rv'
  exact hQ s' H' J hk'
end Qz
namespace Qz
open PySem PySem.Spec L2
open PyProof.Rows hiding St
/-! ## an object that nobody owns -/
structure Fr (w : Wd) (H : Hp) (D : Addr) (o : HO) : Prop where
  O : w.O D = none
  F : w.F D = none
  at' : H D = some o
  nt : NT o
  nb : ¬ isBox w.B D
section
variable {K : PySem.W.Frag} {n t t0 : Nat} {w w' : Wd} {H H' : Hp} {σ : St} {s : S} {D : Addr} {o o' : HO}
theorem Fr.step (h : Fr w H D o) (st : Step n t0 w H w' H') : Fr w' H' D o := by
  refine ⟨?_, ?_, st.keep D o h.at' (fun i hi => by rw [h.O] at hi; cases hi) h.nb, h.nt, ?_⟩
  · cases q : w'.O D with
    | none => rfl
    | some i =>
      rcases st.newO D i q with z | z
      · rw [h.at'] at z; cases z
      · exact absurd h.O z
  · cases q : w'.F D with
    | none => rfl
    | some u =>
      rcases st.newF D (by rw [q]; simp) with z | z | ⟨i, z, _⟩ | ⟨xs, z⟩ | z
      · exact absurd h.F z
      · rw [h.at'] at z; cases z
      · rw [h.O] at z; cases z
      · rw [h.at'] at z; exact absurd (Option.some.inj z) (h.nt xs)
      · exact absurd z h.nb
  · rintro ⟨p, g, e, z⟩
    rcases st.B with e1 | ⟨_, e1⟩
    · exact h.nb ⟨p, g, e1 ▸ e, z⟩
    · obtain ⟨z1, z2⟩ := e1 p g e
      rcases z with rfl | rfl
      · rw [h.at'] at z1; cases z1
      · rw [h.at'] at z2; cases z2
theorem out_ok (ok : OKs K w H σ s t) (hO : w.O D = none) (hF : w.F D = none) (hb : ¬ isBox w.B D) : OKs K w (upd H D o) σ s t := by
  have on : ∀ a i, w.O a = some i → a ≠ D := fun a i h z => by subst z; rw [hO] at h; cases h
  refine ⟨fun b u e => ?_, ok.len, fun i q v h1 h2 => SlR.mono (ok.sl i q v h1 h2) (Same.refl _) rfl fun a ha => ⟨ha, upd_ne (on a i ha)⟩, fun a i e => ?_, ok.tN, fun p g e => ?_, ok.nob⟩
  · rw [upd_ne (ne_of_none e hF)]; exact ok.sub b u e
  · obtain ⟨q1, ⟨u, q2, nu⟩, q3⟩ := ok.own a i e
    exact ⟨q1, ⟨u, by rw [upd_ne (on a i e)]; exact q2, nu⟩, q3⟩
  · obtain ⟨bo, o1, o2⟩ := ok.box p g e
    have np : p ≠ D := fun z => hb ⟨p, g, e, .inl z.symm⟩
    have ng : g ≠ D := fun z => hb ⟨p, g, e, .inr z.symm⟩
    exact ⟨⟨bo.fp, bo.fg, bo.ne, by rw [upd_ne np]; exact bo.hp, by rw [upd_ne ng]; exact bo.hg⟩, o1, o2⟩
theorem fresh_fr (ok : OKs K w H σ s t) (hD : H D = none) (nt : NT o) : Fr w (upd H D o) D o := by
  refine ⟨?_, ?_, upd_same, nt, ?_⟩
  · cases q : w.O D with
    | none => rfl
    | some i => obtain ⟨_, ⟨u, z, _⟩, _⟩ := ok.own D i q; rw [hD] at z; cases z
  · cases q : w.F D with
    | none => rfl
    | some u => have := ok.sub D u q; rw [hD] at this; cases this
  · rintro ⟨p, g, e, z⟩
    obtain ⟨bo, _, _⟩ := ok.box p g e
    rcases z with rfl | rfl
    · have := bo.hp; rw [hD] at this; cases this
    · have := bo.hg; rw [hD] at this; cases this
theorem Step.out (st : Step n t0 w H w' H') (hD : H D = none) : Step n t0 w H w' (upd H' D o) where
  F := st.F
  keep := fun a u h ho hb => by rw [upd_ne (ne_of_none h hD)]; exact st.keep a u h ho hb
  there := fun a u h => by
    obtain ⟨u', h'⟩ := st.there a u h
    exact ⟨u', by rw [upd_ne (ne_of_none h hD)]; exact h'⟩
  tmp := st.tmp
  newF := st.newF
  newO := st.newO
  newT := st.newT
  B := st.B
theorem Fr.put (h : Fr w H D o) (nt : NT o') : Fr w (upd H D o') D o' := ⟨h.O, h.F, upd_same, nt, h.nb⟩
end
/-! ## what stands in the set while it grows -/
structure KindOk (K : PySem.W.Frag) (O : Addr → HO) (ad : AdT) (good : D → Bool) (T : Hp → Addr → List D → HO → Prop) : Prop where
  nt : ∀ {F D acc o}, T F D acc o → NT o
  init : ∀ F D, T F D [] (O D)
  mono : ∀ {F G D acc o}, Same F G → T F D acc o → T G D acc o
  step : ∀ {F H D acc o y z k}, Same F H → T F D acc o → H D = some o → Rep K F z y → good z = true → acc.length ≤ 62 → (∀ o', T F D (acc ++ [z]) o' → k (upd H D o')) → ad D y H k
theorem sc_it {J : It} {n : Nat} {G : Hp → Prop} {Y : Nat → Hp → V → Hp → Prop} (hW : Walk J n G Y) {O : Addr → HO} {ad : AdT} {g : TG} {tt : TT} {te : TE} {vs : List Nat} {σ : St} {H1 : Hp} {D : Addr} {Qd : Hp → Prop} (Pv : Nat → Hp → Prop)
    (h0 : Pv 0 (upd H1 D (O D))) (hG : ∀ i H, i ≤ n → Pv i H → G H)
    (hs : ∀ i x H H', i < n → Pv i H → Y i H x H' → g x (wipe σ vs) H' fun σ2 H2 => wipe σ2 vs = wipe σ vs ∧ tt σ2 H2 fun b H3 => if b = true then te σ2 H3 fun y H4 => ad D y H4 (Pv (i + 1)) else Pv (i + 1) H3) (he : ∀ H, Pv n H → Qd H) :
    ∃ W : Nat → Nat → Hp → Prop, (∃ m, W 0 m (upd H1 D (O D))) ∧ ∀ i m H, W i m H → (J.stop i H ∧ Qd H) ∨ (J.go i H ∧ ∃ Nx : Hp → Prop, (∀ H', Nx H' → ∃ m', m' < m ∧ W (i + 1) m' H') ∧ ∀ x H', J.yld i H x H' → g x (wipe σ vs) H' fun σ2 H2 => wipe σ2 vs = wipe σ vs ∧ tt σ2 H2 fun b H3 => if b = true then te σ2 H3 fun y H4 => ad D y H4 Nx else Nx H3) := by
  refine ⟨fun i m H => i + m = n ∧ Pv i H, ⟨n, by omega, h0⟩, ?_⟩
  rintro i m H ⟨e, h⟩
  cases m with
  | zero =>
    have : i = n := by omega
    subst this
    exact .inl ⟨hW.stops H (hG i H (Nat.le_refl _) h), he H h⟩
  | succ m =>
    have hi : i < n := by omega
    have hg := hG i H (by omega) h
    exact .inr ⟨hW.goes i H hi hg, Pv (i + 1), fun H' h' => ⟨m, Nat.lt_succ_self _, by omega, h'⟩, fun x H' hy => hs i x H H' hi h (hW.yields i H x H' hi hg hy)⟩
def mAcc (src : MI) (g : D → S → Option S) (c : MT) (m : ME) (vs : List Nat) : M (List D) := fun s => match src s with
  | .no => .no
  | .ok ds s1 => if noOwn s1.a vs then match lcL g c m vs ds [] s1 with
    | .no => .no
    | .ok acc s2 => .ok acc { s2 with a := backA s1.a s2.a vs } else .no
theorem lcL_pre {g : D → S → Option S} {c : MT} {m : ME} {vs : List Nat} {acc0 : List D} {sb : S} : ∀ (ds acc : List D) (s : S), lcL g c m vs ds acc s = .ok acc0 sb → ∃ r, acc0 = acc ++ r
  | [], acc, s, e => by
    simp only [lcL] at e
    cases e
    exact ⟨[], by simp⟩
  | d :: ds, acc, s, e => by
    simp only [lcL] at e
    split at e
    · cases e
    · split at e
      · cases e
      · exact lcL_pre ds acc _ e
      · split at e
        · cases e
        · split at e
          · cases e
          · rename_i z _ _
            split at e
            · obtain ⟨r, h⟩ := lcL_pre ds _ _ e
              exact ⟨z :: r, by rw [h]; simp⟩
            · cases e
section
variable {K : PySem.W.Frag} {src : MI} {g : D → S → Option S} {ws vs : List Nat} {c : MT} {m : ME} {wi : TI} {O : Addr → HO} {ad : AdT} {good : D → Bool} {T : Hp → Addr → List D → HO → Prop}
theorem sc_snd (kd : KindOk K O ad good T) (hw : ∀ i ∈ ws, i ∈ vs)
    (hi : ∀ (σ : St) (H : Hp) (w : Wd) (s : S) (t : Nat) (Q : It → Hp → Prop) (ds : List D) (s' : S), OKs K w H σ s t → src s = .ok ds s' →
    (∀ w' H' t' J, t ≤ t' → OKs K w' H' σ s' t' → Step s.a.length t w H w' H' → Slotted s s' → WalkOk K J ds w'.F → Q J H') → wi σ H Q)
    {σ : St} {H : Hp} {w : Wd} {s : S} {t : Nat} {Q : VK} {acc0 : List D} {s' : S} (ok : OKs K w H σ s t) (e : mAcc src g c m vs s = .ok acc0 s') (hl0 : acc0.length ≤ 63) (hgood : ∀ d ∈ acc0, good d = true)
    (k : ∀ w' H' D o t', t ≤ t' → OKs K w' H' σ s' t' → Step s.a.length t w H w' H' → Slotted s s' → Fr w' H' D o → T w'.F D acc0 o → Q (.ref D) H') :
    tScG O ad wi (tgC K g ws) (ttC K c) (teC K m) vs σ H Q := by
  simp only [mAcc] at e
  split at e
  · cases e
  · rename_i ds sa e1
    split at e
    · rename_i hno
      split at e
      · cases e
      · rename_i acc1 sb e2
        cases e
        refine hi σ H w s t _ ds sa ok e1 fun w1 H1 t1 J a1 ok1 st1 sl1 wk => ?_
        have hl := ok.slen ok1
        have tN := ok1.tN
        generalize hn : s.a.length = n at *
        obtain ⟨G, Y, hW, hG, hY⟩ := wk
        intro A hA
        have hT0 := kd.init w1.F A
        have fr0 := fresh_fr (o := O A) ok1 hA (kd.nt hT0)
        have okg := out_ok (o := O A) ok1 fr0.O fr0.F fr0.nb
        have stg : Step n t1 w1 H1 w1 (upd H1 A (O A)) := Step.refl.out hA
        refine sc_it hW (fun i H2 => ∃ w2 s2 acc o, OKs K w2 H2 (wipe σ vs) { s2 with a := wipeA s2.a vs } t1 ∧ s2.a.length = n ∧ Fr w2 H2 A o ∧ T w2.F A acc o ∧ Step n t1 w1 H1 w2 H2 ∧
          (∀ i, i ∉ vs → ∀ q, sa.a[i]? = some (some q) → ∃ q', s2.a[i]? = some (some q')) ∧ lcL g c m vs (ds.drop i) acc s2 = .ok acc0 sb) ?_ ?_ ?_ ?_
        · exact ⟨_, sa, [], _, wipe_ok okg, hl, fr0, hT0, stg, fun i _ q h => ⟨q, h⟩, e2⟩
        · rintro i H2 _ ⟨w2, s2, acc, o, ok2, _, _, _, st2, _⟩
          exact hG H2 (st2.F.trans ok2.sub)
        · rintro i x H2 H3 hlt ⟨w2, s2, acc, o, ok2, l2, fr2, hT2, st2, sl2, e3⟩ y
          obtain ⟨d, hd, hx⟩ := hY i H2 x H3 hlt (st2.F.trans ok2.sub) y
          have ed : ds.drop i = d :: ds.drop (i + 1) := by
            have := List.drop_eq_getElem_cons hlt
            rw [this]
            have q := (List.getElem?_eq_some_iff.mp hd).2
            rw [q]
          rw [ed] at e3
          have nA : ∃ w3, OKs K w3 H3 (wipe σ vs) { s2 with a := wipeA s2.a vs } t1 ∧ Step n t1 w2 H2 w3 H3 ∧ Rep K w3.F d x := by
            rcases hx with ⟨rfl, hr⟩ | ⟨T', us, es, rfl, hT, rfl, rfl, hr⟩
            · exact ⟨w2, ok2, .refl, Rep.mono st2.F d x hr⟩
            · refine ⟨w2.lay T' (.tup us), lay_ok ok2 hT, lay_step ok2 hT, ?_⟩
              simp only [Rep]
              exact ⟨T', us, rfl, upd_same, RepL.mono (st2.F.trans (lay_step (o := .tup us) (t0 := t) (n := n) ok2 hT).F) es us hr⟩
          obtain ⟨w3, ok3, st3, rep3⟩ := nA
          have fr3 := fr2.step st3
          have hT3 := kd.mono st3.F hT2
          have st13 := st2.trans st3
          simp only [lcL] at e3
          split at e3
          · cases e3
          · rename_i sc e4
            have lw : (wipeA s2.a vs).length = n := (wipeA_length _ _).trans l2
            refine ⟨d, w3, _, sc, t1, n, ok3, lw, rep3, e4, fun σ4 ok4 l4 sl4 wr4 => ?_⟩
            have hwp : wipe σ4 vs = wipe σ vs := by
              have z : (wipe σ vs).length = σ4.length := by rw [ok3.len, ok4.len, l4]; exact lw
              have : wipe σ4 vs = wipe (wipe σ vs) vs := wipe_eq z.symm fun i hi => wr4 i (fun h => hi (hw i h))
              rw [this]
              refine wipe_eq (wipe_length _ _) fun i hi => ?_
              rw [wipe_get, if_neg hi]
            have slA : ∀ {sx : S}, Slotted sc sx → ∀ i, i ∉ vs → ∀ q, sa.a[i]? = some (some q) → ∃ q', sx.a[i]? = some (some q') := fun hs i hi q h => by
              obtain ⟨q1, h1⟩ := sl2 i hi q h
              obtain ⟨q2, h2⟩ := sl4 i q1 (by show (wipeA s2.a vs)[i]? = _; rw [wipeA_get, if_neg hi]; exact h1)
              exact hs i q2 h2
            refine ⟨hwp, ?_⟩
            split at e3
            · cases e3
            · rename_i sd e5
              refine ⟨w3, sc, t1, false, sd, ok4, e5, fun w5 H5 t5 a5 ok5 st5 sl5 => ?_⟩
              refine iteF ?_
              rw [l4] at st5
              have l5 : sd.a.length = n := (ok4.slen ok5).trans l4
              have okD := dropT_ok ok5 (T := t1) (by omega)
              have fr5 := (fr3.step st5).step (dropT_step (n := n) (T := t1) (H := H5))
              refine ⟨w5.drop t1, sd, acc, o, ?_, l5, fr5, kd.mono st5.F hT3, st13.trans (st5.trans dropT_step), slA sl5, e3⟩
              rw [← hwp]; exact wipe_ok okD
            · rename_i sd e5
              refine ⟨w3, sc, t1, true, sd, ok4, e5, fun w5 H5 t5 a5 ok5 st5 sl5 => ?_⟩
              refine iteT ?_
              rw [l4] at st5
              have l5 : sd.a.length = n := (ok4.slen ok5).trans l4
              split at e3
              · cases e3
              · rename_i y' se e6
                split at e3
                · cases e3
                · rename_i z sf e7
                  split at e3
                  · rename_i hz
                    refine ⟨w5, sd, t5, y', se, ok5, e6, fun w6 H6 u t6 τ b1 b2 ok6 st6 sl6 rel6 => ?_⟩
                    rw [l5] at st6
                    have l6 : se.a.length = n := (ok5.slen ok6).trans l5
                    obtain ⟨w7, ok7, st7, rep7, sl7, l7, _⟩ := take1_ok (t0 := t1) ok6 rel6 e7 (by omega) (by omega)
                    rw [l6] at st7 l7
                    have stA := (st5.trans (st6.mono (by omega))).trans st7
                    have fr7 := fr3.step stA
                    have hT7 := kd.mono stA.F hT3
                    obtain ⟨r, hr⟩ := lcL_pre _ _ _ e3
                    have hgz : good z = true := hgood z (by rw [hr]; simp)
                    have hal : acc.length ≤ 62 := by
                      have := congrArg List.length hr
                      simp at this
                      omega
                    refine kd.step ok7.sub hT7 fr7.at' rep7 hgz hal fun o' hT' => ?_
                    have frM := fr7.put (kd.nt hT')
                    have okM := out_ok (o := o') ok7 fr7.O fr7.F fr7.nb
                    have okD := dropT_ok okM (T := t1) (by omega)
                    refine ⟨w7.drop t1, sf, acc ++ [z], o', ?_, l7, frM.step (dropT_step (n := n) (T := t1)), hT', ?_, slA ((sl5.trans sl6).trans sl7), e3⟩
                    · rw [← hwp]; exact wipe_ok okD
                    · exact ((st13.trans stA).out hA).trans dropT_step
                  · cases e3
        · rintro H2 ⟨w2, s2, acc, o, ok2, l2, fr2, hT2, st2, sl2, e3⟩
          rw [List.drop_length] at e3
          cases e3
          refine k w2 H2 A o t1 a1 ?_ (st1.trans (st2.mono a1)) ?_ fr2 hT2
          · have lb : (backA sa.a sb.a vs).length = n := (backA_length _ _ _).trans l2
            refine ⟨ok2.sub, by show σ.length = _; rw [lb, ok1.len, hl], fun i q v h1 h2 => ?_, ok2.own, by show (backA sa.a sb.a vs).length ≤ _; omega, ok2.box, ok2.nob⟩
            have h1 : (backA sa.a sb.a vs)[i]? = some q := h1
            rw [backA_get _ _ _ (l2.trans hl.symm)] at h1
            by_cases hi : i ∈ vs
            · rw [if_pos hi] at h1
              have hs := ok1.sl i q v h1 h2
              cases q with
              | none => trivial
              | some q =>
                cases q with
                | d y => obtain ⟨u, eu, hr⟩ := hs; exact ⟨u, eu, Rep.mono st2.F y u hr⟩
                | o c =>
                  have := List.all_eq_true.mp hno i hi
                  rw [h1] at this
                  cases this
                | sl _ => exact hs
                | bx =>
                  obtain ⟨p, gg, eb, ev⟩ := hs
                  rcases st2.B with z | ⟨z, _⟩
                  · exact ⟨p, gg, z.trans eb, ev⟩
                  · rw [z] at eb; cases eb
                | st _ => obtain ⟨b, eb, h4⟩ := hs; exact ⟨b, eb, h4.mono st2.F⟩
            · rw [if_neg hi] at h1
              refine ok2.sl i q v ?_ ?_
              · show (wipeA sb.a vs)[i]? = _
                rw [wipeA_get, if_neg hi]; exact h1
              · rw [wipe_get, if_neg hi]; exact h2
          · refine sl1.trans fun i q h => ?_
            show ∃ q', (backA sa.a sb.a vs)[i]? = _
            rw [backA_get _ _ _ (l2.trans hl.symm)]
            by_cases hi : i ∈ vs
            · rw [if_pos hi]; exact ⟨q, h⟩
            · rw [if_neg hi]; exact sl2 i hi q h
    · cases e
end
end Qz
namespace Qz
open PySem PySem.Spec L2
open PyProof.Rows hiding St
/-! ## each once, in order -/
def nubL : List (List Int) → List (List Int)
  | [] => []
  | x :: r => if x ∈ r then nubL r else x :: nubL r
theorem mem_nub {y : List Int} : ∀ {l : List (List Int)}, y ∈ nubL l ↔ y ∈ l
  | [] => Iff.rfl
  | x :: r => by
    unfold nubL
    split
    · rename_i h
      rw [mem_nub, List.mem_cons]
      constructor
      · exact .inr
      · rintro (rfl | h2)
        · exact h
        · exact h2
    · rw [List.mem_cons, List.mem_cons, mem_nub]
theorem nub_nodup : ∀ l : List (List Int), (nubL l).Nodup
  | [] => .nil
  | x :: r => by
    unfold nubL
    split
    · exact nub_nodup r
    · rename_i h
      exact List.nodup_cons.mpr ⟨fun h2 => h (mem_nub.mp h2), nub_nodup r⟩
theorem nub_len : ∀ l : List (List Int), (nubL l).length ≤ l.length
  | [] => Nat.le_refl _
  | x :: r => by
    unfold nubL
    have := nub_len r
    split
    · rw [List.length_cons]; omega
    · rw [List.length_cons, List.length_cons]; omega
def sortU (l : List (List Int)) : List (List Int) := sortI (nubL l)
theorem mem_sortU {y : List Int} {l : List (List Int)} : y ∈ sortU l ↔ y ∈ l := (sortI_perm _).mem_iff.trans mem_nub
theorem sortU_nodup (l : List (List Int)) : (sortU l).Nodup := (sortI_perm _).nodup_iff.mpr (nub_nodup l)
theorem sortU_srtd (l : List (List Int)) : SrtO.Srtd HT.lexLt (sortU l) := sortI_srtd _
theorem sortU_len (l : List (List Int)) : (sortU l).length ≤ l.length := by unfold sortU; rw [(sortI_perm _).length_eq]; exact nub_len l
theorem sortU_one {l m : List (List Int)} (hn : m.Nodup) (hs : SrtO.Srtd HT.lexLt m) (hm : ∀ y, y ∈ m ↔ y ∈ l) : m = sortU l :=
  sorted_one hs (sortU_srtd l) ((List.perm_ext_iff_of_nodup hn (sortU_nodup l)).mpr fun y => (hm y).trans mem_sortU.symm)
theorem dTupI_inj {a b : List Int} (h : dTupI a = dTupI b) : a = b := by
  unfold dTupI at h
  have h2 : a.map PyData.int = b.map PyData.int := by injection h
  exact List.map_inj_right (fun a b e => by injection e) |>.mp h2
/-! ## sets of tuples of ints -/
def TT' (P : Program) (w : World) : Hp → Addr → List D → HO → Prop := fun F D acc o => ∃ L : List (Addr × List Int), o = SetTO P w D L ∧ (∀ p ∈ L, F p.1 = some (.tup (p.2.map V.int))) ∧ (∀ p ∈ L, p.2 ≠ []) ∧ (∀ p ∈ L, dTupI p.2 ∈ acc) ∧ (∀ d ∈ acc, ∃ p ∈ L, d = dTupI p.2) ∧ L.length ≤ acc.length
theorem kindT {K : PySem.W.Frag} {P : Program} {w : World} : KindOk K (fun D => SetTO P w D []) (adT K P w) (fun d => (tupI? d).isSome) (TT' P w) := by
  refine ⟨?_, fun F D => ⟨[], rfl, by simp, by simp, by simp, by simp, Nat.le_refl _⟩, ?_, ?_⟩
  · rintro F D acc _ ⟨L, rfl, _⟩ xs h
    cases h
  · rintro F G D acc o sm ⟨L, rfl, h1, h⟩
    exact ⟨L, rfl, fun p hp => sm _ _ (h1 p hp), h⟩
  · rintro F H D acc o y z k sm ⟨L, rfl, h1, h2, h3, h4, h5⟩ hD rep hg hl hk
    obtain ⟨ns, e⟩ := Option.isSome_iff_exists.mp hg
    obtain ⟨rfl, hne⟩ := tupI_eq e
    obtain ⟨b, rfl, hb⟩ := rep_tupI rep
    refine ⟨L, b, ns, rfl, hD, SqT.of (sm _ _ hb), fun p hp => SqT.of (sm _ _ (h1 p hp)), by omega, fun L' n1 n2 => hk _ ?_⟩
    by_cases hm : ns ∈ L.map (·.2)
    · rw [n1 hm]
      refine ⟨L, rfl, h1, h2, fun p hp => List.mem_append_left _ (h3 p hp), fun d hd => ?_, by rw [List.length_append]; simp; omega⟩
      rcases List.mem_append.mp hd with hd | hd
      · exact h4 d hd
      · rw [List.mem_singleton.mp hd]
        obtain ⟨p, hp, e⟩ := List.mem_map.mp hm
        exact ⟨p, hp, by rw [e]⟩
    · have pm := n2 hm
      have key : ∀ p ∈ L', p = (b, ns) ∨ p ∈ L := fun p hp => List.mem_cons.mp (pm.mem_iff.mp hp)
      refine ⟨L', rfl, fun p hp => ?_, fun p hp => ?_, fun p hp => ?_, fun d hd => ?_, by rw [pm.length_eq, List.length_append]; simp; omega⟩
      · rcases key p hp with rfl | hp
        · exact hb
        · exact h1 p hp
      · rcases key p hp with rfl | hp
        · exact hne
        · exact h2 p hp
      · rcases key p hp with rfl | hp
        · exact List.mem_append_right _ (List.mem_singleton.mpr rfl)
        · exact List.mem_append_left _ (h3 p hp)
      · rcases List.mem_append.mp hd with hd | hd
        · obtain ⟨p, hp, e⟩ := h4 d hd
          exact ⟨p, pm.mem_iff.mpr (List.mem_cons_of_mem _ hp), e⟩
        · rw [List.mem_singleton.mp hd]
          exact ⟨(b, ns), pm.mem_iff.mpr List.mem_cons_self, rfl⟩
def fST (acc : List D) : Option (List D) := if acc.length ≤ 63 then (tupsI? acc).map fun ls => (sortU ls).map dTupI else none
theorem tupsI_good : ∀ {ds : List D} {ls : List (List Int)}, tupsI? ds = some ls → ∀ d ∈ ds, (tupI? d).isSome = true
  | [], _, _, d, h => by cases h
  | x :: r, _, e, d, h => by
    simp only [tupsI?] at e
    split at e
    · cases e
    · rename_i y e1
      simp only [Option.map_eq_some_iff] at e
      obtain ⟨ls, e2, _⟩ := e
      rcases List.mem_cons.mp h with rfl | h
      · rw [e1]; rfl
      · exact tupsI_good e2 d h
/-- the tuples of a sorted set, as a new list -/
theorem reps_M {K : PySem.W.Frag} {F : Hp} : ∀ M : List (Addr × List Int), (∀ p ∈ M, F p.1 = some (.tup (p.2.map V.int))) → RepL K F ((M.map (·.2)).map dTupI) (M.map fun q => V.ref q.1)
  | [], _ => .nil
  | p :: M, h => by
    refine .cons ?_ (reps_M M fun q hq => h q (List.mem_cons_of_mem _ hq))
    simp only [dTupI, Rep]
    exact ⟨p.1, _, rfl, h p List.mem_cons_self, rep_ints' _⟩
theorem sortT_end {K : PySem.W.Frag} {P : Program} {wd : World} {t : Nat} {w : Wd} {H : Hp} {σ : St} {s : S} {B : Addr} {L : List (Addr × List Int)} {acc : List D} {ls : List (List Int)} {Q : VK} (ok : OKs K w H σ s t) (hD : H B = some (SetTO P wd B L)) (h1 : ∀ p ∈ L, w.F p.1 = some (.tup (p.2.map V.int))) (h2 : ∀ p ∈ L, p.2 ≠ [])
    (h3 : ∀ p ∈ L, p.2 ∈ ls) (h4 : ∀ x ∈ ls, ∃ p ∈ L, x = p.2)
    (k : ∀ w' H' z, OKs K w' H' σ s (t + 1) → Step s.a.length t w H w' H' → RelR K w' H' σ s t (.o (.lst ((sortU ls).map dTupI))) z → Q z H') : rSortedSI K P wd [V.ref B] H Q := by
  refine ⟨B, L, rfl, hD, fun p hp => SqT.of (ok.sub _ _ (h1 p hp)), h2, fun M p pm nd hs hp => ?_⟩
  refine k (w.give p t) _ _ (give_ok ok hp) (give_step ok hp) ?_
  have e : M.map (·.2) = sortU ls := by
    refine sortU_one nd (List.pairwise_map.mpr hs) fun y => ?_
    rw [List.mem_map]
    constructor
    · rintro ⟨q, hq, rfl⟩
      exact h3 q (pm.mem_iff.mp hq)
    · intro hy
      obtain ⟨q, hq, e⟩ := h4 y hy
      exact ⟨q, pm.mem_iff.mpr hq, e.symm⟩
  rw [← e]
  exact ⟨p, _, rfl, if_pos rfl, upd_same, reps_M M fun q hq => h1 q (pm.mem_iff.mp hq)⟩
def mSortSC (f : List D → Option (List D)) (src : MI) (g : D → S → Option S) (c : MT) (m : ME) (vs : List Nat) : ME := fun s => match mAcc src g c m vs s with
  | .no => .no
  | .ok acc s1 => match f acc with
    | none => .no
    | some l => .ok (.o (.lst l)) s1
section
variable {X : Cx} {elt tg iter : Expr} {ifs : List Expr} {scope : Scope} {own : List (Str × Nat)} {p pos pos' : Pos} {src : MI} {g : D → S → Option S} {ws : List Nat} {c : MT} {m : ME} {k : Nat}
theorem re_sortST (hr : Here X k) (hm : X.mg "sorted" = none) (hc : X.calm = true) (hN : X.N.Nodup) (hi : RI X tg iter src) (ok : BlkOk X.N X.env.scope scope own)
    (hg : ∀ (s : Shared) (H : Hp) (C : Addr) (cl : List (Str × Addr)) (fp : List Addr), RG (X.blk s H scope (compEnvC scope cl C X.env) fp) tg g ws) (ht : ∀ (s : Shared) (H : Hp) (C : Addr) (cl : List (Str × Addr)) (fp : List Addr), RTs (X.blk s H scope (compEnvC scope cl C X.env) fp) ifs c)
    (he : ∀ (s : Shared) (H : Hp) (C : Addr) (cl : List (Str × Addr)) (fp : List Addr), RE (X.blk s H scope (compEnvC scope cl C X.env) fp) elt m) (hw : ∀ i ∈ ws, i ∈ own.map (·.2)) (hs : ∀ x, foldedSetIterable iter X.env x = pure x := by intro _; rfl)
    (hgl : Gl X "sorted" := by rfl) (hst : starEach [.SetComp elt [⟨tg, iter, ifs, 0⟩] scope pos'] X.env = [(false, eval (.SetComp elt [⟨tg, iter, ifs, 0⟩] scope pos') X.env)] := by rfl) :
    RE X (.Call (.Name "sorted" p) [.SetComp elt [⟨tg, iter, ifs, 0⟩] scope pos'] [] pos) (mSortSC fST src g c m (own.map (·.2))) := by
  obtain ⟨wi, p1, s1⟩ := hi
  refine ⟨_, pe_callB (cr_sortedSI hc) hgl hm (by decide +kernel) (pa_cons (pe_scG (te := teC X.K m) (tt := ttC X.K c) (g := tgC X.K g ws) (setKindT hr.un64) hc hN p1 ok (fun s H C cl fp => (hg s H C cl fp).pg) (fun s H C cl fp => (ht s H C cl fp).pts) (fun s H C cl fp => (he s H C cl fp).pe) hs) pa_nil hst) (by decide) (by decide) hst rfl, ?_⟩
  intro σ H w s t Q r s' ok0 e kk
  simp only [mSortSC] at e
  split at e
  · cases e
  · rename_i acc sa e1
    split at e
    · cases e
    · rename_i l e2
      cases e
      unfold fST at e2
      split at e2
      · rename_i hl
        simp only [Option.map_eq_some_iff] at e2
        obtain ⟨ls, e3, rfl⟩ := e2
        show tScG (fun B => SetTO X.prog X.w B []) (adT X.K X.prog X.w) wi (tgC X.K g ws) (ttC X.K c) (teC X.K m) (own.map (·.2)) σ H fun x H1 => rSortedSI X.K X.prog X.w [x] H1 Q
        refine sc_snd (K := X.K) (kindT (K := X.K) (P := X.prog) (w := X.w)) hw s1 ok0 e1 hl (tupsI_good e3) fun w' H' D o t' a1 ok' st sl fr hT => ?_
        obtain ⟨L, rfl, h1, h2, h3, h4, _⟩ := hT
        obtain ⟨rfl, _⟩ := tupsI_eq e3
        refine sortT_end (ls := ls) (acc := ls.map dTupI) ok' fr.at' h1 h2 (fun p hp => ?_) (fun x hx => ?_) fun w2 H2 z ok2 st2 rel => ?_
        · obtain ⟨x, hx, e⟩ := List.mem_map.mp (h3 p hp)
          rw [← dTupI_inj e]; exact hx
        · obtain ⟨p, hp, e⟩ := h4 _ (List.mem_map.mpr ⟨x, hx, rfl⟩)
          exact ⟨p, hp, dTupI_inj e⟩
        · have l := ok0.slen ok'
          rw [l] at st2
          exact kk w2 H2 z (t' + 1) t' a1 (Nat.lt_succ_self _) ok2 (st.trans (st2.mono a1)) sl rel
      · cases e2
end
/-! ## sets of ints -/
def TI' (w : World) : Hp → Addr → List D → HO → Prop := fun F D acc o => ∃ (S : Int → Bool) (n : Nat), o = SetO w D S n ∧ (∀ i, S i = true ↔ PyData.int i ∈ acc) ∧ n ≤ acc.length
def isIntQ : D → Bool
  | .int _ => true
  | _ => false
theorem kindI {K : PySem.W.Frag} {w : World} : KindOk K (fun D => SetO w D (fun _ => false) 0) (adI w) isIntQ (TI' w) := by
  refine ⟨?_, fun F D => ⟨_, 0, rfl, by simp, Nat.le_refl _⟩, ?_, ?_⟩
  · rintro F D acc _ ⟨S, n, rfl, _⟩ xs h
    cases h
  · rintro F G D acc o sm h
    exact h
  · rintro F H D acc o y z k sm ⟨S, n, rfl, h1, h2⟩ hD rep hg hl hk
    cases z with
    | int i =>
      simp only [Rep] at rep
      have hs : 64 ≤ scanBound := by decide
      refine ⟨i, S, n, rep, hD, by omega, hk _ ⟨_, _, rfl, fun j => ?_, ?_⟩⟩
      · simp only [Bool.or_eq_true, decide_eq_true_eq, h1 j, List.mem_append, List.mem_singleton]
        constructor
        · rintro (h | h)
          · exact .inl h
          · exact .inr (by rw [h])
        · rintro (h | h)
          · exact .inl h
          · injection h with h; exact .inr h
      · rw [List.length_append]
        simp only [List.length_cons, List.length_nil]
        split <;> omega
    | none => cases hg
    | bool _ => cases hg
    | str _ => cases hg
    | list _ => cases hg
    | tuple _ => cases hg
    | dict _ => cases hg
def fSI (acc : List D) : Option (List D) := if acc.length ≤ 63 then (intsD? acc).map fun is => (sortU (is.map fun i => [i])).map fun l => .int (l.headD 0) else none
theorem intsD_good : ∀ {ds : List D} {ls : List Int}, intsD? ds = some ls → ∀ d ∈ ds, isIntQ d = true
  | [], _, _, d, h => by cases h
  | .int i :: r, _, e, d, h => by
    simp only [intsD?, Option.map_eq_some_iff] at e
    obtain ⟨ls, e2, _⟩ := e
    rcases List.mem_cons.mp h with rfl | h
    · rfl
    · exact intsD_good e2 d h
theorem sortU_singles {is ns : List Int} (hs : ns.Pairwise (· < ·)) (hm : ∀ k, k ∈ ns ↔ k ∈ is) : (sortU (is.map fun i => [i])) = ns.map fun i => [i] := by
  refine (sortU_one ?_ ?_ ?_).symm
  · refine List.Pairwise.map (R := fun a b : Int => a < b) _ (fun a b h e => ?_) hs
    injection e with e
    omega
  · refine List.pairwise_map.mpr (hs.imp fun {x y} h => ?_)
    rw [HT.lexLt_cons, if_neg (by omega)]
    exact decide_eq_false (by omega)
  · intro y
    rw [List.mem_map, List.mem_map]
    constructor
    · rintro ⟨k, hk, rfl⟩; exact ⟨k, (hm k).mp hk, rfl⟩
    · rintro ⟨k, hk, rfl⟩; exact ⟨k, (hm k).mpr hk, rfl⟩
section
variable {X : Cx} {elt tg iter : Expr} {ifs : List Expr} {scope : Scope} {own : List (Str × Nat)} {p pos pos' : Pos} {src : MI} {g : D → S → Option S} {ws : List Nat} {c : MT} {m : ME} {k : Nat}
theorem re_sortSI (hr : Here X k) (hm : X.mg "sorted" = none) (hc : X.calm = true) (hN : X.N.Nodup) (hi : RI X tg iter src) (ok : BlkOk X.N X.env.scope scope own)
    (hg : ∀ (s : Shared) (H : Hp) (C : Addr) (cl : List (Str × Addr)) (fp : List Addr), RG (X.blk s H scope (compEnvC scope cl C X.env) fp) tg g ws) (ht : ∀ (s : Shared) (H : Hp) (C : Addr) (cl : List (Str × Addr)) (fp : List Addr), RTs (X.blk s H scope (compEnvC scope cl C X.env) fp) ifs c)
    (he : ∀ (s : Shared) (H : Hp) (C : Addr) (cl : List (Str × Addr)) (fp : List Addr), RE (X.blk s H scope (compEnvC scope cl C X.env) fp) elt m) (hw : ∀ i ∈ ws, i ∈ own.map (·.2)) (hs : ∀ x, foldedSetIterable iter X.env x = pure x := by intro _; rfl)
    (hgl : Gl X "sorted" := by rfl) (hst : starEach [.SetComp elt [⟨tg, iter, ifs, 0⟩] scope pos'] X.env = [(false, eval (.SetComp elt [⟨tg, iter, ifs, 0⟩] scope pos') X.env)] := by rfl) :
    RE X (.Call (.Name "sorted" p) [.SetComp elt [⟨tg, iter, ifs, 0⟩] scope pos'] [] pos) (mSortSC fSI src g c m (own.map (·.2))) := by
  obtain ⟨wi, p1, s1⟩ := hi
  refine ⟨_, pe_callB (cr_sortedSet hc) hgl hm (by decide +kernel) (pa_cons (pe_scG (te := teC X.K m) (tt := ttC X.K c) (g := tgC X.K g ws) setKindI hc hN p1 ok (fun s H C cl fp => (hg s H C cl fp).pg) (fun s H C cl fp => (ht s H C cl fp).pts) (fun s H C cl fp => (he s H C cl fp).pe) hs) pa_nil hst) (by decide) (by decide) hst rfl, ?_⟩
  intro σ H w s t Q r s' ok0 e kk
  simp only [mSortSC] at e
  split at e
  · cases e
  · rename_i acc sa e1
    split at e
    · cases e
    · rename_i l e2
      cases e
      unfold fSI at e2
      split at e2
      · rename_i hl
        simp only [Option.map_eq_some_iff] at e2
        obtain ⟨is, e3, rfl⟩ := e2
        show tScG (fun B => SetO X.w B (fun _ => false) 0) (adI X.w) wi (tgC X.K g ws) (ttC X.K c) (teC X.K m) (own.map (·.2)) σ H fun x H1 => rSortedSet X.w [x] H1 Q
        refine sc_snd (K := X.K) (kindI (K := X.K) (w := X.w)) hw s1 ok0 e1 hl (intsD_good e3) fun w' H' B o t' a1 ok' st sl fr hT => ?_
        obtain ⟨S, n, rfl, h1, h2⟩ := hT
        have e4 := intsD_eq e3
        refine ⟨B, S, n, rfl, fr.at', by omega, fun ns p hs hm hn hp => ?_⟩
        have l := ok0.slen ok'
        have stg := give_step (n := s.a.length) (t0 := t) (o := .lst (ns.map V.int)) ok' hp
        refine kk (w'.give p t') _ _ (t' + 1) t' a1 (Nat.lt_succ_self _) (give_ok ok' hp) (st.trans stg) sl ?_
        have e5 := sortU_singles (is := is) hs fun k => (hm k).trans ((h1 k).trans (by rw [e4]; simp))
        rw [e5, List.map_map]
        have e6 : (ns.map ((fun l : List Int => PyData.int (l.headD 0)) ∘ fun i => [i])) = ns.map PyData.int := List.map_congr_left fun _ _ => rfl
        rw [e6]
        exact ⟨p, _, rfl, if_pos rfl, upd_same, rep_ints' ns⟩
      · cases e2
end
/-! ## sorted(set(..)) of a list of tuples of ints -/
def fSortSet : List D → Option R
  | [.list ds] => (fST ds).map fun l => .o (.lst l)
  | _ => none
theorem s_sortSet {K : PySem.W.Frag} {P : Program} {wd : World} : BltS K (fun us H Q => rSetOfT K P wd us H fun x H2 => rSortedSI K P wd [x] H2 Q) fSortSet := by
  intro w H σ s t us xs r Q ok vw e k
  unfold fSortSet at e
  split at e
  · rename_i ds
    obtain ⟨l, e0, rfl⟩ := Option.map_eq_some_iff.mp e
    unfold fST at e0
    split at e0
    · rename_i hl
      obtain ⟨ls, e1, rfl⟩ := Option.map_eq_some_iff.mp e0
      obtain ⟨u, rfl, v⟩ := vw.one
      obtain ⟨a, ys, rfl, h1, h2⟩ := v.lst ok.sub
      obtain ⟨rfl, ne⟩ := tupsI_eq e1
      obtain ⟨q1, q2⟩ := reps_tupI ls ys h2
      have key : ∀ zs : List V, (∀ x ∈ zs, ∃ a, x = .ref a ∧ w.F a = some (.tup ((kAt w.F x).map V.int))) → ∃ ks : List (Addr × List Int), zs = ks.map (fun p => V.ref p.1) ∧ ks.map (·.2) = zs.map (kAt w.F) ∧ ∀ p ∈ ks, w.F p.1 = some (.tup (p.2.map V.int)) := by
        intro zs
        induction zs with
        | nil => intro _; exact ⟨[], rfl, rfl, by simp⟩
        | cons x zs ih =>
          intro h
          obtain ⟨b, e, hb⟩ := h x List.mem_cons_self
          obtain ⟨ks, i1, i2, i3⟩ := ih fun y hy => h y (List.mem_cons_of_mem _ hy)
          subst e
          refine ⟨(b, kAt w.F (.ref b)) :: ks, by rw [i1]; rfl, by rw [List.map_cons, List.map_cons, i2], fun p hp => ?_⟩
          rcases List.mem_cons.mp hp with rfl | hp
          · exact hb
          · exact i3 p hp
      obtain ⟨ks, i1, i2, i3⟩ := key ys q2
      rw [q1] at i2
      have hkl : ks.length ≤ 63 := by
        have := congrArg List.length i2
        rw [List.length_map] at this
        rw [List.length_map] at hl
        omega
      refine ⟨a, ks, rfl, by rw [← i1]; exact h1, fun p hp => SqT.of (ok.sub _ _ (i3 p hp)), by omega, fun B L hB hs hm => ?_⟩
      have fr := fresh_fr (o := SetTO P wd B L) ok hB (fun xs h => by cases h)
      have okB := out_ok (o := SetTO P wd B L) ok fr.O fr.F fr.nb
      refine sortT_end (ls := ls) (acc := []) okB fr.at' (fun p hp => i3 p (hs p hp)) (fun p hp => ?_) (fun p hp => ?_) (fun x hx => ?_) fun w2 H2 z ok2 st2 rel => ?_
      · have : p.2 ∈ ls := by rw [← i2]; exact List.mem_map.mpr ⟨p, hs p hp, rfl⟩
        exact ne _ this
      · rw [← i2]; exact List.mem_map.mpr ⟨p, hs p hp, rfl⟩
      · rw [← i2] at hx
        obtain ⟨p, hp, rfl⟩ := List.mem_map.mp hx
        obtain ⟨q, hq, e⟩ := List.mem_map.mp (hm p hp)
        exact ⟨q, hq, e.symm⟩
      · exact k w2 H2 z ok2 ((Step.refl.out hB).trans st2) rel
    · cases e0
  · cases e
section
variable {X : Cx} {e : Expr} {ms : MA} {p p2 q pos : Pos} {k : Nat}
theorem re_sortSet (hr : Here X k) (hc : X.calm = true) (hm : X.mg "sorted" = none) (hm2 : X.mg "set" = none) (ha : RA X [e] ms) (hg : Gl X "sorted" := by rfl) (hg2 : Gl X "set" := by rfl) (he : starEach [e] X.env = [(false, eval e X.env)] := by rfl)
    (hst : starEach [.Call (.Name "set" p2) [e] [] q] X.env = [(false, eval (.Call (.Name "set" p2) [e] [] q) X.env)] := by rfl) :
    RE X (.Call (.Name "sorted" p) [.Call (.Name "set" p2) [e] [] q] [] pos) (mBlt fSortSet ms) := by
  obtain ⟨ta, p1, s1⟩ := ha
  refine ⟨_, pe_callB (cr_sortedSI hc) hg hm (by decide +kernel) (pa_cons (pe_callTy (cr_setOfT hc hr.un64) hg2 hm2 (by decide +kernel) p1 (by decide) (by decide) he rfl) pa_nil hst) (by decide) (by decide) hst rfl, ?_⟩
  show SndE X.K (fun σ H Q => ta σ H fun us H1 => rSetOfT X.K X.prog X.w us H1 fun x H2 => rSortedSI X.K X.prog X.w [x] H2 Q) _
  exact blt_snd s1 (s_sortSet (P := X.prog) (wd := X.w))
end
end Qz
namespace Qz
open PySem PySem.Spec L2
open PyProof.Rows hiding St
/-! ## comprehensions with two sources -/
def lc2L (g : D → S → Option S) (c : MT) (src1 : MI) (g1 : D → S → Option S) (c1 : MT) (m : ME) (vs vs1 : List Nat) : List D → List D → M (List D)
  | [], acc, s => .ok acc s
  | d :: r, acc, s => match g d { s with a := wipeA s.a vs } with
    | none => .no
    | some s1 => match c s1 with
      | .no => .no
      | .ok false s2 => lc2L g c src1 g1 c1 m vs vs1 r acc s2
      | .ok true s2 => match src1 s2 with
        | .no => .no
        | .ok es s3 => match lcL g1 c1 m vs1 es acc s3 with
          | .no => .no
          | .ok acc' s4 => lc2L g c src1 g1 c1 m vs vs1 r acc' s4
def mLc2 (src : MI) (g : D → S → Option S) (c : MT) (src1 : MI) (g1 : D → S → Option S) (c1 : MT) (m : ME) (vs vs1 : List Nat) : ME := fun s => match src s with
  | .no => .no
  | .ok ds s1 => if noOwn s1.a vs then match lc2L g c src1 g1 c1 m vs vs1 ds [] s1 with
    | .no => .no
    | .ok acc s2 => .ok (.o (.lst acc)) { s2 with a := backA s1.a s2.a vs } else .no
/-- the list that a comprehension makes -/
structure At (K : PySem.W.Frag) (w : Wd) (H : Hp) (A : Addr) (T : Nat) (acc : List D) (xs : List V) : Prop where
  O : w.O A = some T
  at' : H A = some (.lst xs)
  rep : RepL K w.F acc xs
section
variable {K : PySem.W.Frag} {n t T : Nat} {w w' : Wd} {H H' : Hp} {σ : St} {s : S} {A : Addr} {acc : List D} {xs : List V}
theorem At.step (h : At K w H A T acc xs) (ok : OKs K w H σ s t) (hn : n ≤ T) (st : Step n (T + 1) w H w' H') : At K w' H' A T acc xs := by
  refine ⟨st.tmp A T h.O hn (Nat.lt_succ_self _), st.keep A _ h.at' (fun i hi => by rw [h.O] at hi; cases hi; omega) ?_, RepL.mono st.F acc xs h.rep⟩
  rintro ⟨p, g, e, z⟩
  obtain ⟨_, z1, z2⟩ := ok.box p g e
  rcases z with rfl | rfl
  · rw [h.O] at z1; cases z1
  · rw [h.O] at z2; cases z2
end
/-- between two turns -/
structure LcI (K : PySem.W.Frag) (σ : St) (vs : List Nat) (n T : Nat) (A : Addr) (w0 : Wd) (H0 : Hp) (sa : S) (w : Wd) (H : Hp) (s : S) (acc : List D) (xs : List V) : Prop where
  ok : OKs K w H (wipe σ vs) { s with a := wipeA s.a vs } (T + 1)
  len : s.a.length = n
  at' : At K w H A T acc xs
  st : Step n T w0 H0 w H
  sl : ∀ i, i ∉ vs → ∀ q, sa.a[i]? = some (some q) → ∃ q', s.a[i]? = some (some q')
theorem in_it {J : It} {n : Nat} {G : Hp → Prop} {Y : Nat → Hp → V → Hp → Prop} (hW : Walk J n G Y) {g : TG} {tt : TT} {F : St → Hp → (Hp → Prop) → Prop} {vs : List Nat} {σ : St} {H1 : Hp} {Qd : Hp → Prop} (Pv : Nat → Hp → Prop)
    (h0 : Pv 0 H1) (hG : ∀ i H, i ≤ n → Pv i H → G H)
    (hs : ∀ i x H H', i < n → Pv i H → Y i H x H' → g x (wipe σ vs) H' fun σ2 H2 => wipe σ2 vs = wipe σ vs ∧ tt σ2 H2 fun b H3 => if b = true then F σ2 H3 (Pv (i + 1)) else Pv (i + 1) H3) (he : ∀ H, Pv n H → Qd H) :
    ∃ W : Nat → Nat → Hp → Prop, (∃ m, W 0 m H1) ∧ ∀ i m H, W i m H → (J.stop i H ∧ Qd H) ∨ (J.go i H ∧ ∃ Nx : Hp → Prop, (∀ H', Nx H' → ∃ m', m' < m ∧ W (i + 1) m' H') ∧ ∀ x H', J.yld i H x H' → g x (wipe σ vs) H' fun σ2 H2 => wipe σ2 vs = wipe σ vs ∧ tt σ2 H2 fun b H3 => if b = true then F σ2 H3 Nx else Nx H3) := by
  refine ⟨fun i m H => i + m = n ∧ Pv i H, ⟨n, by omega, h0⟩, ?_⟩
  rintro i m H ⟨e, h⟩
  cases m with
  | zero =>
    have : i = n := by omega
    subst this
    exact .inl ⟨hW.stops H (hG i H (Nat.le_refl _) h), he H h⟩
  | succ m =>
    have hi : i < n := by omega
    have hg := hG i H (by omega) h
    exact .inr ⟨hW.goes i H hi hg, Pv (i + 1), fun H' h' => ⟨m, Nat.lt_succ_self _, by omega, h'⟩, fun x H' hy => hs i x H H' hi h (hW.yields i H x H' hi hg hy)⟩
section
variable {K : PySem.W.Frag} {g : D → S → Option S} {ws vs : List Nat} {c : MT} {m : ME} {σ : St} {n T : Nat} {A : Addr} {w0 : Wd} {H0 : Hp} {sa : S}
/-- a turn: the item is stored, the test is asked -/
theorem turn_test (hw : ∀ i ∈ ws, i ∈ vs) {w2 : Wd} {H2 H3 : Hp} {s2 sc sd : S} {acc : List D} {xs : List V} {d : D} {x : V} {b : Bool} {F : Bool → St → Hp → Prop} (I : LcI K σ vs n T A w0 H0 sa w2 H2 s2 acc xs) (hnT : n ≤ T)
    (hx : (H3 = H2 ∧ Rep K w2.F d x) ∨ ∃ T' us es, x = .ref T' ∧ H2 T' = none ∧ H3 = upd H2 T' (.tup us) ∧ d = .tuple es ∧ RepL K w2.F es us)
    (e4 : g d { s2 with a := wipeA s2.a vs } = some sc) (e5 : c sc = .ok b sd)
    (k : ∀ w5 H5 σ4 t5, T + 1 ≤ t5 → OKs K w5 H5 σ4 sd t5 → wipe σ4 vs = wipe σ vs → sd.a.length = n → At K w5 H5 A T acc xs → Step n T w0 H0 w5 H5 → (∀ i, i ∉ vs → ∀ q, sa.a[i]? = some (some q) → ∃ q', sd.a[i]? = some (some q')) → F b σ4 H5) :
    tgC K g ws x (wipe σ vs) H3 fun σ2 H2 => wipe σ2 vs = wipe σ vs ∧ ttC K c σ2 H2 fun b H3 => F b σ2 H3 := by
  have nA : ∃ w3, OKs K w3 H3 (wipe σ vs) { s2 with a := wipeA s2.a vs } (T + 1) ∧ Step n (T + 1) w2 H2 w3 H3 ∧ Rep K w3.F d x := by
    rcases hx with ⟨rfl, hr⟩ | ⟨T', us, es, rfl, hT, rfl, rfl, hr⟩
    · exact ⟨w2, I.ok, .refl, hr⟩
    · refine ⟨w2.lay T' (.tup us), lay_ok I.ok hT, lay_step I.ok hT, ?_⟩
      simp only [Rep]
      exact ⟨T', us, rfl, upd_same, RepL.mono (lay_step (o := .tup us) (t0 := 0) (n := n) I.ok hT).F es us hr⟩
  obtain ⟨w3, ok3, st3, rep3⟩ := nA
  have at3 := I.at'.step I.ok hnT st3
  have st13 := I.st.trans (st3.mono (Nat.le_succ _))
  have lw : (wipeA s2.a vs).length = n := (wipeA_length _ _).trans I.len
  refine ⟨d, w3, _, sc, T + 1, n, ok3, lw, rep3, e4, fun σ4 ok4 l4 sl4 wr4 => ?_⟩
  have hwp : wipe σ4 vs = wipe σ vs := by
    have z : (wipe σ vs).length = σ4.length := by rw [ok3.len, ok4.len, l4]; exact lw
    have : wipe σ4 vs = wipe (wipe σ vs) vs := wipe_eq z.symm fun i hi => wr4 i (fun h => hi (hw i h))
    rw [this]
    refine wipe_eq (wipe_length _ _) fun i hi => ?_
    rw [wipe_get, if_neg hi]
  refine ⟨hwp, w3, sc, T + 1, b, sd, ok4, e5, fun w5 H5 t5 a5 ok5 st5 sl5 => ?_⟩
  rw [l4] at st5
  refine k w5 H5 σ4 t5 a5 ok5 hwp ((ok4.slen ok5).trans l4) (at3.step ok4 hnT st5) (st13.trans (st5.mono (Nat.le_succ _))) fun i hi q h => ?_
  obtain ⟨q1, h1⟩ := I.sl i hi q h
  obtain ⟨q2, h2⟩ := sl4 i q1 (by show (wipeA s2.a vs)[i]? = _; rw [wipeA_get, if_neg hi]; exact h1)
  exact sl5 i q2 h2
/-- back between two turns -/
theorem turn_back {w5 : Wd} {H5 : Hp} {σ4 : St} {t5 : Nat} {sd : S} {acc : List D} {xs : List V} (hnT : n ≤ T) (ht : T + 1 ≤ t5) (ok5 : OKs K w5 H5 σ4 sd t5) (hwp : wipe σ4 vs = wipe σ vs) (hl : sd.a.length = n) (at5 : At K w5 H5 A T acc xs) (st : Step n T w0 H0 w5 H5)
    (sl : ∀ i, i ∉ vs → ∀ q, sa.a[i]? = some (some q) → ∃ q', sd.a[i]? = some (some q')) : LcI K σ vs n T A w0 H0 sa (w5.drop (T + 1)) H5 sd acc xs := by
  have okD := dropT_ok ok5 (T := T + 1) (by omega)
  refine ⟨?_, hl, ⟨drop_at at5.O (Nat.lt_succ_self _), at5.at', at5.rep⟩, st.trans (dropT_step.mono (Nat.le_succ _)), sl⟩
  rw [← hwp]; exact wipe_ok okD
/-- a turn: the element is made -/
theorem turn_elt {w5 : Wd} {H5 : Hp} {σ4 : St} {t5 : Nat} {sd se sf : S} {acc : List D} {xs : List V} {y' : R} {z : D} {P : Hp → Prop} (hnT : n ≤ T) (ht : T + 1 ≤ t5) (ok5 : OKs K w5 H5 σ4 sd t5) (hwp : wipe σ4 vs = wipe σ vs) (hl : sd.a.length = n) (at5 : At K w5 H5 A T acc xs) (st : Step n T w0 H0 w5 H5)
    (sl : ∀ i, i ∉ vs → ∀ q, sa.a[i]? = some (some q) → ∃ q', sd.a[i]? = some (some q')) (e6 : m sd = .ok y' se) (e7 : take1 se y' = some (z, sf)) (hz : acc.length < sizeLine)
    (k : ∀ w' H' xs', LcI K σ vs n T A w0 H0 sa w' H' sf (acc ++ [z]) xs' → P H') :
    teC K m σ4 H5 fun y H4 => ∃ acc, H4 A = some (.lst acc) ∧ acc.length < sizeLine ∧ P (upd H4 A (.lst (acc ++ [y]))) := by
  refine ⟨w5, sd, t5, y', se, ok5, e6, fun w6 H6 u t6 τ b1 b2 ok6 st6 sl6 rel6 => ?_⟩
  rw [hl] at st6
  have l6 : se.a.length = n := (ok5.slen ok6).trans hl
  have at6 := at5.step ok5 hnT (st6.mono ht)
  obtain ⟨w7, ok7, st7, rep7, sl7, l7, _⟩ := take1_ok (t0 := T + 1) ok6 rel6 e7 (by omega) (by omega)
  rw [l6] at st7 l7
  have at7 := at6.step ok6 hnT st7
  have okM := mut_ok (o := .lst (xs ++ [u])) ok7 at7.O (fun _ h => nomatch h) rfl rfl fun i q v h1 h2 => .inl ⟨h1, fun z => by have := (List.getElem?_eq_some_iff.mp h1).1; omega⟩
  have stM := mut_step (n := n) (t0 := T) (o := .lst (xs ++ [u])) ok7 at7.O (.inr (Nat.le_refl _))
  have lx := RepL.length _ _ at7.rep
  refine ⟨xs, at6.at', by omega, k (w7.drop (T + 1)) _ (xs ++ [u]) ?_⟩
  have atM : At K w7 (upd H6 A (.lst (xs ++ [u]))) A T (acc ++ [z]) (xs ++ [u]) := ⟨at7.O, upd_same, RepL.append _ _ at7.rep (.cons rep7 .nil)⟩
  exact turn_back hnT (by omega) okM hwp l7 atM (((st.trans (st6.mono (by omega))).trans (st7.mono (Nat.le_succ _))).trans stM) fun i hi q h => by
    obtain ⟨q1, h1⟩ := sl i hi q h
    exact (sl6.trans sl7) i q1 h1
end
/-! the same reading for every place -/
def tiC (K : PySem.W.Frag) (src : MI) : TI := fun σ H Q => ∃ (w : Wd) (s : S) (t : Nat) (ds : List D) (s' : S), OKs K w H σ s t ∧ src s = .ok ds s' ∧
  ∀ w' H' t' J, t ≤ t' → OKs K w' H' σ s' t' → Step s.a.length t w H w' H' → Slotted s s' → WalkOk K J ds w'.F → Q J H'
theorem RI.pi {X : Cx} {tg e : Expr} {src : MI} (h : RI X tg e src) : PI X tg e (tiC X.K src) := by
  obtain ⟨wi, p, q⟩ := h
  exact ⟨fun pins s σ H R I ⟨w, s1, t, ds, s', ok, e1, k⟩ => p.run pins s σ H R I (q σ H w s1 t R ds s' ok e1 k)⟩
theorem wipe_wipe {σ : St} {vs1 vs : List Nat} (hv : ∀ i ∈ vs1, i ∈ vs) : wipe (wipe σ vs1) vs = wipe σ vs :=
  wipe_eq (wipe_length _ _) fun i hi => by rw [wipe_get, if_neg fun h => hi (hv i h)]
theorem wipeA_wipeA {a : List (Option R)} {vs1 vs : List Nat} (hv : ∀ i ∈ vs1, i ∈ vs) : wipeA (wipeA a vs1) vs = wipeA a vs := by
  refine List.ext_getElem? fun i => ?_
  rw [wipeA_get (wipeA a vs1) i vs, wipeA_get a i vs, wipeA_length]
  by_cases h : i ∈ vs
  · rw [if_pos h, if_pos h]
  · rw [if_neg h, if_neg h, wipeA_get a i vs1, if_neg fun h2 => h (hv i h2)]
section
variable {K : PySem.W.Frag} {src src1 : MI} {g g1 : D → S → Option S} {ws ws1 vs vs1 : List Nat} {c c1 : MT} {m : ME} {wi : TI}
theorem lc2_snd (hw : ∀ i ∈ ws, i ∈ vs) (hw1 : ∀ i ∈ ws1, i ∈ vs1) (hv : ∀ i ∈ vs1, i ∈ vs)
    (hi : ∀ (σ : St) (H : Hp) (w : Wd) (s : S) (t : Nat) (Q : It → Hp → Prop) (ds : List D) (s' : S), OKs K w H σ s t → src s = .ok ds s' →
    (∀ w' H' t' J, t ≤ t' → OKs K w' H' σ s' t' → Step s.a.length t w H w' H' → Slotted s s' → WalkOk K J ds w'.F → Q J H') → wi σ H Q) :
    SndE K (tLc2 wi (tgC K g ws) (ttC K c) (tiC K src1) (tgC K g1 ws1) (ttC K c1) (teC K m) vs vs1) (mLc2 src g c src1 g1 c1 m vs vs1) := by
  intro σ H w s t Q r s' ok e k
  simp only [mLc2] at e
  split at e
  · cases e
  · rename_i ds sa e1
    split at e
    · rename_i hno
      split at e
      · cases e
      · rename_i acc0 sb e2
        cases e
        refine hi σ H w s t _ ds sa ok e1 fun w1 H1 t1 J a1 ok1 st1 sl1 wk => ?_
        have hl := ok.slen ok1
        have tN := ok1.tN
        generalize hn : s.a.length = n at *
        have hnT : n ≤ t1 := by omega
        obtain ⟨G, Y, hW, hG, hY⟩ := wk
        intro A hA
        have okg := give_ok (o := .lst []) ok1 hA
        have stg := give_step (n := n) (t0 := t1) (o := .lst []) ok1 hA
        refine in_it hW (F := fun σ2 H3 Nx => tiC K src1 σ2 H3 fun J1 H4 => ∃ W1 : Nat → Nat → Hp → Prop, (∃ m, W1 0 m H4) ∧ ∀ j k H, W1 j k H → (J1.stop j H ∧ Nx H) ∨ (J1.go j H ∧ ∃ Nx1 : Hp → Prop, (∀ H', Nx1 H' → ∃ k', k' < k ∧ W1 (j + 1) k' H') ∧ ∀ x H', J1.yld j H x H' → tgC K g1 ws1 x (wipe σ2 vs1) H' fun σ3 H5 => wipe σ3 vs1 = wipe σ2 vs1 ∧ ttC K c1 σ3 H5 fun b H6 => if b = true then teC K m σ3 H6 fun y H7 => ∃ acc, H7 A = some (.lst acc) ∧ acc.length < sizeLine ∧ Nx1 (upd H7 A (.lst (acc ++ [y]))) else Nx1 H6))
          (fun i H2 => ∃ w2 s2 acc xs, LcI K σ vs n t1 A w1 H1 sa w2 H2 s2 acc xs ∧ lc2L g c src1 g1 c1 m vs vs1 (ds.drop i) acc s2 = .ok acc0 sb) ?_ ?_ ?_ ?_
        · exact ⟨_, sa, [], [], ⟨wipe_ok okg, hl, ⟨if_pos rfl, upd_same, .nil⟩, stg, fun i _ q h => ⟨q, h⟩⟩, e2⟩
        · rintro i H2 _ ⟨w2, s2, acc, xs, I, _⟩
          exact hG H2 (I.st.F.trans I.ok.sub)
        · rintro i x H2 H3 hlt ⟨w2, s2, acc, xs, I, e3⟩ y
          obtain ⟨d, hd, hx⟩ := hY i H2 x H3 hlt (I.st.F.trans I.ok.sub) y
          have hx' : (H3 = H2 ∧ Rep K w2.F d x) ∨ ∃ T' us es, x = .ref T' ∧ H2 T' = none ∧ H3 = upd H2 T' (.tup us) ∧ d = .tuple es ∧ RepL K w2.F es us := by
            rcases hx with ⟨z, hr⟩ | ⟨T', us, es, z1, z2, z3, z4, hr⟩
            · exact .inl ⟨z, Rep.mono I.st.F d x hr⟩
            · exact .inr ⟨T', us, es, z1, z2, z3, z4, RepL.mono I.st.F es us hr⟩
          have ed : ds.drop i = d :: ds.drop (i + 1) := by
            have := List.drop_eq_getElem_cons hlt
            rw [this]
            have q := (List.getElem?_eq_some_iff.mp hd).2
            rw [q]
          rw [ed] at e3
          simp only [lc2L] at e3
          split at e3
          · cases e3
          · rename_i sc e4
            split at e3
            · cases e3
            · rename_i sd e5
              refine turn_test hw (b := false) (F := fun b σ2 H3 => if b = true then _ else _) I hnT hx' e4 e5 fun w5 H5 σ4 t5 ht ok5 hwp l5 at5 st5 sl5 => ?_
              exact iteF ⟨_, sd, acc, xs, turn_back hnT ht ok5 hwp l5 at5 st5 sl5, e3⟩
            · rename_i sd e5
              split at e3
              · cases e3
              · rename_i es se e6
                split at e3
                · cases e3
                · rename_i acc' s4 e7
                  refine turn_test hw (b := true) (F := fun b σ2 H3 => if b = true then _ else _) I hnT hx' e4 e5 fun w5 H5 σ4 t5 ht ok5 hwp l5 at5 st5 sl5 => ?_
                  refine iteT ⟨w5, sd, t5, es, se, ok5, e6, fun w6 H6 t6 J1 a6 ok6 st6 sl6 wk1 => ?_⟩
                  rw [l5] at st6
                  have l6 : se.a.length = n := (ok5.slen ok6).trans l5
                  have at6 := at5.step ok5 hnT (st6.mono ht)
                  obtain ⟨G1, Y1, hW1, hG1, hY1⟩ := wk1
                  have st06 := st5.trans (st6.mono (by omega))
                  have I0 : LcI K σ4 vs1 n t1 A w1 H1 se (w6.drop (t1 + 1)) H6 se acc xs := turn_back hnT (by omega) ok6 rfl l6 at6 st06 fun i _ q h => ⟨q, h⟩
                  refine in_it hW1 (F := fun σ3 H6 Nx1 => teC K m σ3 H6 fun y H7 => ∃ acc, H7 A = some (.lst acc) ∧ acc.length < sizeLine ∧ Nx1 (upd H7 A (.lst (acc ++ [y]))))
                    (fun j H2 => ∃ w2 s2 accj xsj, LcI K σ4 vs1 n t1 A w1 H1 se w2 H2 s2 accj xsj ∧ Same w6.F w2.F ∧ lcL g1 c1 m vs1 (es.drop j) accj s2 = .ok acc' s4) ?_ ?_ ?_ ?_
                  · exact ⟨_, se, acc, xs, I0, Same.refl _, e7⟩
                  · rintro j Hj _ ⟨wj, sj, accj, xsj, Ij, sm, _⟩
                    exact hG1 Hj (sm.trans Ij.ok.sub)
                  · rintro j xj Hj Hj' hltj ⟨wj, sj, accj, xsj, Ij, sm, ej⟩ yj
                    obtain ⟨dj, hdj, hxj⟩ := hY1 j Hj xj Hj' hltj (sm.trans Ij.ok.sub) yj
                    have hxj' : (Hj' = Hj ∧ Rep K wj.F dj xj) ∨ ∃ T' us es, xj = .ref T' ∧ Hj T' = none ∧ Hj' = upd Hj T' (.tup us) ∧ dj = .tuple es ∧ RepL K wj.F es us := by
                      rcases hxj with ⟨z, hr⟩ | ⟨T', us, es, z1, z2, z3, z4, hr⟩
                      · exact .inl ⟨z, Rep.mono sm dj xj hr⟩
                      · exact .inr ⟨T', us, es, z1, z2, z3, z4, RepL.mono sm es us hr⟩
                    have edj : es.drop j = dj :: es.drop (j + 1) := by
                      have := List.drop_eq_getElem_cons hltj
                      rw [this]
                      have q := (List.getElem?_eq_some_iff.mp hdj).2
                      rw [q]
                    rw [edj] at ej
                    simp only [lcL] at ej
                    have smF : ∀ {w' : Wd} {H' : Hp}, Step n t1 wj Hj w' H' → Same w6.F w'.F := fun st => sm.trans st.F
                    split at ej
                    · cases ej
                    · rename_i sc1 f4
                      split at ej
                      · cases ej
                      · rename_i sd1 f5
                        have Ij2 : LcI K σ4 vs1 n t1 A wj Hj se wj Hj sj accj xsj := ⟨Ij.ok, Ij.len, Ij.at', .refl, Ij.sl⟩
                        refine turn_test hw1 (b := false) (F := fun b σ2 H3 => if b = true then _ else _) Ij2 hnT hxj' f4 f5 fun w7 H7 σ7 t7 ht7 ok7 hwp7 l7 at7 st7 sl7 => ?_
                        have B := turn_back hnT ht7 ok7 hwp7 l7 at7 (Ij.st.trans st7) sl7
                        exact iteF ⟨_, sd1, accj, xsj, B, sm.trans st7.F, ej⟩
                      · rename_i sd1 f5
                        split at ej
                        · cases ej
                        · rename_i y' se1 f6
                          split at ej
                          · cases ej
                          · rename_i z sf1 f7
                            split at ej
                            · rename_i hz
                              have Ij2 : LcI K σ4 vs1 n t1 A wj Hj se wj Hj sj accj xsj := ⟨Ij.ok, Ij.len, Ij.at', .refl, Ij.sl⟩
                              refine turn_test hw1 (b := true) (F := fun b σ2 H3 => if b = true then _ else _) Ij2 hnT hxj' f4 f5 fun w7 H7 σ7 t7 ht7 ok7 hwp7 l7 at7 st7 sl7 => ?_
                              refine iteT (turn_elt (P := fun Hq => ∃ w2 s2 accj xsj, LcI K σ4 vs1 n t1 A w1 H1 se w2 Hq s2 accj xsj ∧ Same w6.F w2.F ∧ lcL g1 c1 m vs1 (es.drop (j + 1)) accj s2 = .ok acc' s4) hnT ht7 ok7 hwp7 l7 at7 st7 sl7 f6 f7 hz fun w8 H8 xs8 I8 => ?_)
                              exact ⟨w8, sf1, _, xs8, ⟨I8.ok, I8.len, I8.at', Ij.st.trans I8.st, I8.sl⟩, smF I8.st, ej⟩
                            · cases ej
                  · rintro Hj ⟨wj, sj, accj, xsj, Ij, sm, ej⟩
                    rw [List.drop_length] at ej
                    cases ej
                    refine ⟨wj, s4, acc', xsj, ⟨?_, Ij.len, Ij.at', Ij.st, fun i hi q h => ?_⟩, e3⟩
                    · have := wipe_ok (vs := vs) Ij.ok
                      rw [wipe_wipe hv, hwp] at this
                      have e8 : ({ ({ s4 with a := wipeA s4.a vs1 } : S) with a := wipeA (wipeA s4.a vs1) vs } : S) = { s4 with a := wipeA s4.a vs } := by rw [wipeA_wipeA hv]
                      have e9 := e8 ▸ this
                      exact e9
                    · obtain ⟨q1, h1⟩ := sl5 i hi q h
                      obtain ⟨q2, h2⟩ := sl6 i q1 h1
                      exact Ij.sl i (fun h3 => hi (hv i h3)) q2 h2
        · rintro H2 ⟨w2, s2, acc, xs, I, e3⟩
          rw [List.drop_length] at e3
          cases e3
          obtain ⟨ok2, l2, ⟨hO, hA2, rep⟩, st2, sl2⟩ := I
          refine k w2 H2 (.ref A) (t1 + 1) t1 a1 (Nat.lt_succ_self _) ?_ (st1.trans (st2.mono a1)) ?_ ⟨A, xs, rfl, hO, hA2, rep⟩
          · have lb : (backA sa.a sb.a vs).length = n := (backA_length _ _ _).trans l2
            refine ⟨ok2.sub, by show σ.length = _; rw [lb, ok1.len, hl], fun i q v h1 h2 => ?_, ok2.own, by show (backA sa.a sb.a vs).length ≤ _; omega, ok2.box, ok2.nob⟩
            have h1 : (backA sa.a sb.a vs)[i]? = some q := h1
            rw [backA_get _ _ _ (l2.trans hl.symm)] at h1
            by_cases hi : i ∈ vs
            · rw [if_pos hi] at h1
              have hs := ok1.sl i q v h1 h2
              cases q with
              | none => trivial
              | some q =>
                cases q with
                | d y => obtain ⟨u, eu, hr⟩ := hs; exact ⟨u, eu, Rep.mono st2.F y u hr⟩
                | o c =>
                  have := List.all_eq_true.mp hno i hi
                  rw [h1] at this
                  cases this
                | sl _ => exact hs
                | bx =>
                  obtain ⟨p, gg, eb, ev⟩ := hs
                  rcases st2.B with z | ⟨z, _⟩
                  · exact ⟨p, gg, z.trans eb, ev⟩
                  · rw [z] at eb; cases eb
                | st _ => obtain ⟨b, eb, h4⟩ := hs; exact ⟨b, eb, h4.mono st2.F⟩
            · rw [if_neg hi] at h1
              refine ok2.sl i q v ?_ ?_
              · show (wipeA sb.a vs)[i]? = _
                rw [wipeA_get, if_neg hi]; exact h1
              · rw [wipe_get, if_neg hi]; exact h2
          · refine sl1.trans fun i q h => ?_
            show ∃ q', (backA sa.a sb.a vs)[i]? = _
            rw [backA_get _ _ _ (l2.trans hl.symm)]
            by_cases hi : i ∈ vs
            · rw [if_pos hi]; exact ⟨q, h⟩
            · rw [if_neg hi]; exact sl2 i hi q h
    · cases e
end
section
variable {X : Cx} {elt tg iter tg1 iter1 : Expr} {ifs ifs1 : List Expr} {scope : Scope} {own : List (Str × Nat)} {pos : Pos} {src src1 : MI} {g g1 : D → S → Option S} {ws ws1 vs1 : List Nat} {c c1 : MT} {m : ME}
theorem re_lc2 (hc : X.calm = true) (hN : X.N.Nodup) (hi : RI X tg iter src) (ok : BlkOk X.N X.env.scope scope own)
    (hg : ∀ (s : Shared) (H : Hp) (C : Addr) (cl : List (Str × Addr)) (fp : List Addr), RG (X.blk s H scope (compEnvC scope cl C X.env) fp) tg g ws) (ht : ∀ (s : Shared) (H : Hp) (C : Addr) (cl : List (Str × Addr)) (fp : List Addr), RTs (X.blk s H scope (compEnvC scope cl C X.env) fp) ifs c)
    (hi1 : ∀ (s : Shared) (H : Hp) (C : Addr) (cl : List (Str × Addr)) (fp : List Addr), RI (X.blk s H scope (compEnvC scope cl C X.env) fp) tg1 iter1 src1)
    (hg1 : ∀ (s : Shared) (H : Hp) (C : Addr) (cl : List (Str × Addr)) (fp : List Addr), RG (X.blk s H scope (compEnvC scope cl C X.env) fp) tg1 g1 ws1) (ht1 : ∀ (s : Shared) (H : Hp) (C : Addr) (cl : List (Str × Addr)) (fp : List Addr), RTs (X.blk s H scope (compEnvC scope cl C X.env) fp) ifs1 c1)
    (he : ∀ (s : Shared) (H : Hp) (C : Addr) (cl : List (Str × Addr)) (fp : List Addr), RE (X.blk s H scope (compEnvC scope cl C X.env) fp) elt m) (hw : ∀ i ∈ ws, i ∈ own.map (·.2)) (hw1 : ∀ i ∈ ws1, i ∈ vs1) (hv : ∀ i ∈ vs1, i ∈ own.map (·.2))
    (hs : ∀ x, foldedSetIterable iter X.env x = pure x := by intro _; rfl) (hs1 : ∀ (env : Env) (x : Value), foldedSetIterable iter1 env x = pure x := by intro _ _; rfl) :
    RE X (.ListComp elt [⟨tg, iter, ifs, 0⟩, ⟨tg1, iter1, ifs1, 0⟩] scope pos) (mLc2 src g c src1 g1 c1 m (own.map (·.2)) vs1) := by
  obtain ⟨wi, p1, s1⟩ := hi
  exact ⟨_, pe_lc2 hc hN p1 ok hv (fun s H C cl fp => (hg s H C cl fp).pg) (fun s H C cl fp => (ht s H C cl fp).pts) (fun s H C cl fp => (hi1 s H C cl fp).pi) (fun s H C cl fp => (hg1 s H C cl fp).pg) (fun s H C cl fp => (ht1 s H C cl fp).pts) (fun s H C cl fp => (he s H C cl fp).pe) hs hs1, lc2_snd hw hw1 hv s1⟩
theorem rs_setLc2 (i : Nat) {y : Str} {py spos : Pos} (hc : X.calm = true) (hN : X.N.Nodup) (hi : RI X tg iter src) (ok : BlkOk X.N X.env.scope scope own)
    (hg : ∀ (s : Shared) (H : Hp) (C : Addr) (cl : List (Str × Addr)) (fp : List Addr), RG (X.blk s H scope (compEnvC scope cl C X.env) fp) tg g ws) (ht : ∀ (s : Shared) (H : Hp) (C : Addr) (cl : List (Str × Addr)) (fp : List Addr), RTs (X.blk s H scope (compEnvC scope cl C X.env) fp) ifs c)
    (hi1 : ∀ (s : Shared) (H : Hp) (C : Addr) (cl : List (Str × Addr)) (fp : List Addr), RI (X.blk s H scope (compEnvC scope cl C X.env) fp) tg1 iter1 src1)
    (hg1 : ∀ (s : Shared) (H : Hp) (C : Addr) (cl : List (Str × Addr)) (fp : List Addr), RG (X.blk s H scope (compEnvC scope cl C X.env) fp) tg1 g1 ws1) (ht1 : ∀ (s : Shared) (H : Hp) (C : Addr) (cl : List (Str × Addr)) (fp : List Addr), RTs (X.blk s H scope (compEnvC scope cl C X.env) fp) ifs1 c1)
    (he : ∀ (s : Shared) (H : Hp) (C : Addr) (cl : List (Str × Addr)) (fp : List Addr), RE (X.blk s H scope (compEnvC scope cl C X.env) fp) elt m) (hw : ∀ i ∈ ws, i ∈ own.map (·.2)) (hw1 : ∀ i ∈ ws1, i ∈ vs1) (hv : ∀ i ∈ vs1, i ∈ own.map (·.2)) (hy : X.N[i]? = some y := by rfl) (hyl : X.env.scope.names.lookup y = some .local := by rfl)
    (hsw : swapsWith (.ListComp elt [⟨tg, iter, ifs, 0⟩, ⟨tg1, iter1, ifs1, 0⟩] scope pos) (some (.Name y py)) spos.line X.env = pure true := by exact sw_true rfl rfl rfl rfl) (hs : ∀ x, foldedSetIterable iter X.env x = pure x := by intro _; rfl) (hs1 : ∀ (env : Env) (x : Value), foldedSetIterable iter1 env x = pure x := by intro _ _; rfl) :
    RS X (.Assign [.Name y py] (.ListComp elt [⟨tg, iter, ifs, 0⟩, ⟨tg1, iter1, ifs1, 0⟩] scope pos) spos) (mSet i (mLc2 src g c src1 g1 c1 m (own.map (·.2)) vs1)) := by
  obtain ⟨wi, p1, s1⟩ := hi
  refine ⟨_, ps_setLc2 (g := tgC X.K g ws) (tt := ttC X.K c) (wi1 := tiC X.K src1) (g1 := tgC X.K g1 ws1) (tt1 := ttC X.K c1) (te := teC X.K m) hc hN hy hyl hsw p1 ok hv (fun s H C cl fp => (hg s H C cl fp).pg) (fun s H C cl fp => (ht s H C cl fp).pts) (fun s H C cl fp => (hi1 s H C cl fp).pi) (fun s H C cl fp => (hg1 s H C cl fp).pg) (fun s H C cl fp => (ht1 s H C cl fp).pts) (fun s H C cl fp => (he s H C cl fp).pe) hs hs1, fun σ H w s D f s' ok e k => ?_⟩
  have s2 := lc2_snd (g := g) hw hw1 hv s1 (c := c) (src1 := src1) (g1 := g1) (c1 := c1) (m := m)
  simp only [mSet] at e
  split at e
  · cases e
  · rename_i r sa e1
    split at e
    · cases e
    · rename_i sb e2
      cases e
      refine s2 σ H w s _ _ r sa ok e1 fun w1 H1 x t' τ a1 a2 ok1 st1 sl1 rel1 => ?_
      have hl := ok.slen ok1
      obtain ⟨w2, ok2, l2, st2⟩ := store_fin ok1 hl a1 rel1 e2
      exact k.nx rfl _ w2 H1 ok2 l2 (st1.trans st2)
end
end Qz
namespace Qz
open PySem PySem.Spec L2
open PyProof.Rows hiding St
/-! ## what is raised: a class, the name of its field, what it holds -/
structure Exc where
  cls : Str
  fld : Str
  v : D
/-- a class, named in the module -/
def clsOf (mg : Str → Option Value) (n : Str) : Value := (mg n).getD .none
theorem clsOf_of {mg : Str → Option Value} {n : Str} {v : Value} (h : mg n = some v) : clsOf mg n = v := by unfold clsOf; rw [h]; rfl
abbrev XM := S → Option (Exc × S)
abbrev DX := List R → Bx → Option (Exc × Bx)
def XAt (K : PySem.W.Frag) (F : Hp) (x : Exc) (dd : Addr) : Prop := ∃ vv, F dd = some (.xd [(x.fld, vv)]) ∧ Rep K F x.v vv
theorem XAt.mono {K : PySem.W.Frag} {F G : Hp} {x : Exc} {dd : Addr} (h : XAt K F x dd) (e : Same F G) : XAt K G x dd := by
  obtain ⟨vv, h1, h2⟩ := h
  exact ⟨vv, e _ _ h1, Rep.mono e _ _ h2⟩
section
variable (K : PySem.W.Frag) (mg : Str → Option Value) (W : WX)
def SndEX (te : TE) (mx : XM) : Prop := ∀ (σ : St) (H : Hp) (w : Wd) (s : S) (t : Nat) (Q : VK) (x : Exc) (s' : S), OKs K w H σ s t → mx s = some (x, s') →
  (∀ w' H' dd t', t ≤ t' → OKs K w' H' σ s' t' → Step s.a.length t w H w' H' → XAt K w'.F x dd → W (clsOf mg x.cls) (some dd) σ H') → te σ H Q
def SndAX (ta : TA) (mx : XM) : Prop := ∀ (σ : St) (H : Hp) (w : Wd) (s : S) (t : Nat) (Q : List V → Hp → Prop) (x : Exc) (s' : S), OKs K w H σ s t → mx s = some (x, s') →
  (∀ w' H' dd t', t ≤ t' → OKs K w' H' σ s' t' → Step s.a.length t w H w' H' → XAt K w'.F x dd → W (clsOf mg x.cls) (some dd) σ H') → ta σ H Q
def SndSX (ts : TS) (mx : XM) : Prop := ∀ (σ : St) (H : Hp) (w : Wd) (s : S) (D : Ends) (x : Exc) (s' : S), OKs K w H σ s s.a.length → mx s = some (x, s') →
  (∀ σ' w' H' dd, OKs K w' H' σ' s' s.a.length → s'.a.length = s.a.length → Step s.a.length s.a.length w H w' H' → XAt K w'.F x dd → W (clsOf mg x.cls) (some dd) σ' H') → ts D σ H
end
structure REX (X : Cx) (W : WX) (e : Expr) (m : ME) (mx : XM) : Prop where
  ex : ∃ te, PE X e te ∧ SndE X.K te m ∧ SndEX X.K X.mg W te mx
structure RAX (X : Cx) (W : WX) (es : List Expr) (m : MA) (mx : XM) : Prop where
  ex : ∃ ta, PA X es ta ∧ SndA X.K ta m ∧ SndAX X.K X.mg W ta mx
structure RSX (X : Cx) (W : WX) (st : Stmt) (m : MS) (mx : XM) : Prop where
  ex : ∃ ts, PS X st ts ∧ SndS X.K ts m ∧ SndSX X.K X.mg W ts mx
structure RSsX (X : Cx) (W : WX) (st : List Stmt) (m : MS) (mx : XM) : Prop where
  ex : ∃ ts, PSs X st ts ∧ SndS X.K ts m ∧ SndSX X.K X.mg W ts mx
def xNo : XM := fun _ => none
section
variable {X : Cx} {W : WX} {e : Expr} {es : List Expr} {st : Stmt} {sts : List Stmt} {m m1 m2 : ME} {ms : MA} {p q : MS} {mx mx1 mx2 : XM} {pos : Pos}
theorem REX.of (h : RE X e m) : REX X W e m xNo := let ⟨te, a, b⟩ := h.ex; ⟨te, a, b, fun _ _ _ _ _ _ _ _ _ e => nomatch e⟩
theorem RAX.of (h : RA X es ms) : RAX X W es ms xNo := let ⟨te, a, b⟩ := h.ex; ⟨te, a, b, fun _ _ _ _ _ _ _ _ _ e => nomatch e⟩
theorem RSX.of (h : RS X st p) : RSX X W st p xNo := let ⟨te, a, b⟩ := h.ex; ⟨te, a, b, fun _ _ _ _ _ _ _ _ e => nomatch e⟩
theorem RSsX.of (h : RSs X sts p) : RSsX X W sts p xNo := let ⟨te, a, b⟩ := h.ex; ⟨te, a, b, fun _ _ _ _ _ _ _ _ e => nomatch e⟩
/-- an item raises, or a later one -/
def xCons (m : ME) (mx mxs : XM) : XM := fun s => match mx s with
  | some r => some r
  | none => match m s with
    | .ok _ s1 => mxs s1
    | .no => none
theorem xa_cons (h : REX X W e m mx) (hr : RAX X W es ms mx2) (hs : starEach (e :: es) X.env = (false, eval e X.env) :: starEach es X.env := by rfl) : RAX X W (e :: es) (mCons m ms) (xCons m mx mx2) := by
  obtain ⟨te, p1, s1, x1⟩ := h
  obtain ⟨ta, p2, s2, x2⟩ := hr
  refine ⟨_, pa_cons p1 p2 hs, cons_snd s1 s2, ?_⟩
  intro σ H w s t Q x s' ok e k
  simp only [xCons] at e
  split at e
  · rename_i r er
    cases e
    exact x1 σ H w s t _ x s' ok er k
  · split at e
    · rename_i r sa e1
      refine s1 σ H w s t _ r sa ok e1 fun w1 H1 y t1 τ a1 a2 ok1 st1 sl1 rel1 => ?_
      refine x2 σ H1 w1 sa t1 _ x s' ok1 e fun w2 H2 dd t2 a3 ok2 st2 xa => ?_
      rw [ok.slen ok1] at st2
      exact k w2 H2 dd t2 (by omega) ok2 (st1.trans (st2.mono (by omega))) xa
    · cases e
theorem xe_data {rd : List V → Hp → VK → Prop} {f : List D → Option R} (hp : ∀ ta, PA X es ta → PE X e (fun σ H Q => ta σ H fun us H1 => rd us H1 Q)) (hr : RAX X W es ms mx) (hm : MkS X.K rd f) : REX X W e (mData ms f) mx := by
  obtain ⟨ta, h1, h2, h3⟩ := hr
  obtain ⟨te, q1, q2⟩ := (re_data (X := X) (e := e) (fun ta' h => hp ta' h) ⟨ta, h1, h2⟩ hm).ex
  refine ⟨_, hp ta h1, ?_, fun σ H w s t Q x s' ok e k => h3 σ H w s t _ x s' ok e k⟩
  intro σ H w s t Q r s' ok e k
  simp only [mData] at e
  split at e
  · cases e
  · rename_i rs s1 e1
    split at e
    · cases e
    · rename_i xs s2 e2
      split at e
      · cases e
      · rename_i r' e3
        cases e
        refine h2 σ H w s t _ rs s1 ok e1 fun w1 H1 us t1 a1 ok1 st1 sl1 rel1 => ?_
        have l := ok.slen ok1
        obtain ⟨w2, ok2, st2, rep, sl2, l2⟩ := takes_ok (t0 := t) rs us xs s1 s' w1 t ok1 rel1 e2 (Nat.le_refl _) (by rw [l]; exact ok.tN)
        refine hm w2 H1 σ s' t1 us xs r Q ok2 rep e3 fun w3 H3 z ok3 st3 rel3 => ?_
        rw [l] at st2
        rw [l2, l] at st3
        exact k w3 H3 z (t1 + 1) t1 a1 (Nat.lt_succ_self _) ok3 ((st1.trans st2).trans (st3.mono a1)) (sl1.trans sl2) rel3
theorem xe_lst (h : RAX X W es ms mx) : REX X W (.List es pos) (mLst ms) mx := xe_data (fun ta h => pe_lst h) h mk_lst
theorem xe_tup {x1} (h : RAX X W es ms mx) : REX X W (.Tuple es x1 pos) (mTup ms) mx := xe_data (fun ta h => pe_tup h) h mk_tup
def xIte {α : Type} (c : MT) (a b : S → Option α) : S → Option α := fun s => match c s with
  | .ok true s1 => a s1
  | .ok false s1 => b s1
  | .no => none
theorem xe_ite {c a b : Expr} {mc : MT} (hc : RT X c mc) (ha : REX X W a m1 mx1) (hb : REX X W b m2 mx2) : REX X W (.IfExp c a b pos) (mIte mc m1 m2) (xIte mc mx1 mx2) := by
  obtain ⟨t0, p0, h0⟩ := hc
  obtain ⟨t1, p1, h1, x1⟩ := ha
  obtain ⟨t2, p2, h2, x2⟩ := hb
  refine ⟨_, pe_ifExp p0 p1 p2, ?_, ?_⟩
  · intro σ H w s t Q r s' ok e k
    simp only [mIte] at e
    split at e
    · cases e
    · rename_i s1 e1
      refine h0 σ H w s t _ _ s1 ok e1 fun w1 H1 t1 a1 ok1 st1 sl1 => iteT ?_
      refine h1 σ H1 w1 s1 t1 _ r s' ok1 e fun w2 H2 y t2 τ2 b1 b2 ok2 st2 sl2 rel2 => ?_
      rw [ok.slen ok1] at st2
      exact k w2 H2 y t2 τ2 (by omega) b2 ok2 (st1.trans (st2.mono (by omega))) (sl1.trans sl2) rel2
    · rename_i s1 e1
      refine h0 σ H w s t _ _ s1 ok e1 fun w1 H1 t1 a1 ok1 st1 sl1 => iteF ?_
      refine h2 σ H1 w1 s1 t1 _ r s' ok1 e fun w2 H2 y t2 τ2 b1 b2 ok2 st2 sl2 rel2 => ?_
      rw [ok.slen ok1] at st2
      exact k w2 H2 y t2 τ2 (by omega) b2 ok2 (st1.trans (st2.mono (by omega))) (sl1.trans sl2) rel2
  · intro σ H w s t Q x s' ok e k
    simp only [xIte] at e
    split at e
    · rename_i s1 e1
      refine h0 σ H w s t _ _ s1 ok e1 fun w1 H1 t1 a1 ok1 st1 sl1 => iteT ?_
      refine x1 σ H1 w1 s1 t1 _ x s' ok1 e fun w2 H2 dd t2 a3 ok2 st2 xa => ?_
      rw [ok.slen ok1] at st2
      exact k w2 H2 dd t2 (by omega) ok2 (st1.trans (st2.mono (by omega))) xa
    · rename_i s1 e1
      refine h0 σ H w s t _ _ s1 ok e1 fun w1 H1 t1 a1 ok1 st1 sl1 => iteF ?_
      refine x2 σ H1 w1 s1 t1 _ x s' ok1 e fun w2 H2 dd t2 a3 ok2 st2 xa => ?_
      rw [ok.slen ok1] at st2
      exact k w2 H2 dd t2 (by omega) ok2 (st1.trans (st2.mono (by omega))) xa
    · cases e
/-! statements -/
theorem drop_exc {K : PySem.W.Frag} {mg : Str → Option Value} {te : TE} (h : SndEX K mg W te mx) {σ : St} {H : Hp} {w : Wd} {s s' : S} {Q : VK} {x : Exc} (ok : OKs K w H σ s s.a.length) (e : mx s = some (x, s'))
    (k : ∀ σ' w' H' dd, OKs K w' H' σ' s' s.a.length → s'.a.length = s.a.length → Step s.a.length s.a.length w H w' H' → XAt K w'.F x dd → W (clsOf mg x.cls) (some dd) σ' H') : te σ H Q :=
  h σ H w s _ Q x s' ok e fun w' H' dd t' _ ok' st xa => by
    have hl := ok.slen ok'
    exact k σ (w'.drop s.a.length) H' dd (drop_ok ok' hl) hl (st.trans drop_step) xa
theorem xs_ret (he : REX X W e m mx) : RSX X W (.Return (some e) pos) (mRet m) mx := by
  obtain ⟨t1, p1, s1, x1⟩ := he
  obtain ⟨ts, q1, q2⟩ := (rs_ret (X := X) (pos := pos) ⟨t1, p1, s1⟩).ex
  refine ⟨_, ps_ret p1, ?_, fun σ H w s D x s' ok e k => drop_exc x1 ok e k⟩
  intro σ H w s D f s' ok e k
  simp only [mRet] at e
  split at e
  · cases e
  · rename_i r sa e1
    cases e
    exact s1 σ H w s _ _ r _ ok e1 fun w1 H1 x t' τ a1 a2 ok1 st1 sl1 rel1 => k.rt r rfl σ w1 H1 x t' τ a1 a2 ok1 (ok.slen ok1) st1 rel1
theorem xs_expr (he : REX X W e m mx) (hs : swapsWith e none pos.line X.env = pure false := by rfl) : RSX X W (.Expr e pos) (mDrop m) mx := by
  obtain ⟨t1, p1, s1, x1⟩ := he
  refine ⟨_, ps_expr p1 hs, ?_, fun σ H w s D x s' ok e k => drop_exc x1 ok e k⟩
  intro σ H w s D f s' ok e k
  simp only [mDrop] at e
  split at e
  · cases e
  · rename_i r sa e1
    cases e
    refine s1 σ H w s _ _ r _ ok e1 fun w1 H1 x t' τ a1 a2 ok1 st1 sl1 rel1 => ?_
    have hl := ok.slen ok1
    exact k.nx rfl σ _ H1 (drop_ok ok1 hl) hl (st1.trans drop_step)
def xSeq (p : MS) (mx mx2 : XM) : XM := fun s => match mx s with
  | some r => some r
  | none => match p s with
    | .ok .nx s1 => mx2 s1
    | _ => none
theorem xss_cons (h1 : RSX X W st p mx) (h2 : RSsX X W sts q mx2) : RSsX X W (st :: sts) (mSeq p q) (xSeq p mx mx2) := by
  obtain ⟨t1, p1, s1, x1⟩ := h1
  obtain ⟨t2, p2, s2, x2⟩ := h2
  refine ⟨_, pss_cons p1 p2, ?_, ?_⟩
  · intro σ H w s D f s' ok e k
    simp only [mSeq] at e
    split at e
    · rename_i sa e1
      refine s1 σ H w s _ .nx sa ok e1 ⟨fun _ σ1 w1 H1 ok1 l1 st1 => ?_, (fun h => nomatch h), (fun h => nomatch h), (fun r h => nomatch h)⟩
      have k2 := k.after st1
      rw [← l1] at ok1 k2
      exact s2 σ1 H1 w1 sa D f s' ok1 e k2
    · rename_i f1 sa hne e1
      cases e
      refine s1 σ H w s _ _ _ ok e1 ⟨fun h => absurd h (by simpa using hne), k.bk, k.ct, k.rt⟩
    · cases e
  · intro σ H w s D x s' ok e k
    simp only [xSeq] at e
    split at e
    · rename_i r er
      cases e
      exact x1 σ H w s _ x s' ok er k
    · split at e
      · rename_i sa e1
        refine s1 σ H w s _ .nx sa ok e1 ⟨fun _ σ1 w1 H1 ok1 l1 st1 => ?_, (fun h => nomatch h), (fun h => nomatch h), (fun r h => nomatch h)⟩
        rw [← l1] at ok1
        refine x2 σ1 H1 w1 sa D x s' ok1 e fun σ2 w2 H2 dd ok2 l2 st2 xa => ?_
        rw [l1] at ok2 l2 st2
        exact k σ2 w2 H2 dd ok2 l2 (st1.trans st2) xa
      · cases e
theorem xs_if {c : Expr} {xs ys : List Stmt} {mc : MT} (hc : RT X c mc) (ha : RSsX X W xs p mx1) (hb : RSsX X W ys q mx2) : RSX X W (.If c xs ys pos) (mIf mc p q) (xIte mc mx1 mx2) := by
  obtain ⟨t0, p0, s0⟩ := hc
  obtain ⟨t1, p1, s1, x1⟩ := ha
  obtain ⟨t2, p2, s2, x2⟩ := hb
  refine ⟨_, ps_if p0 p1 p2, ?_, ?_⟩
  · intro σ H w s D f s' ok e k
    simp only [mIf] at e
    split at e
    · cases e
    · rename_i sa e1
      refine s0 σ H w s _ _ true sa ok e1 fun w1 H1 t' a1 ok1 st1 sl1 => iteT ?_
      have hl := ok.slen ok1
      have k2 := k.after (st1.trans drop_step)
      have ok2 := drop_ok ok1 hl
      rw [← hl] at ok2 k2
      exact s1 σ H1 _ sa D f s' ok2 e k2
    · rename_i sa e1
      refine s0 σ H w s _ _ false sa ok e1 fun w1 H1 t' a1 ok1 st1 sl1 => iteF ?_
      have hl := ok.slen ok1
      have k2 := k.after (st1.trans drop_step)
      have ok2 := drop_ok ok1 hl
      rw [← hl] at ok2 k2
      exact s2 σ H1 _ sa D f s' ok2 e k2
  · intro σ H w s D x s' ok e k
    simp only [xIte] at e
    split at e
    · rename_i sa e1
      refine s0 σ H w s _ _ true sa ok e1 fun w1 H1 t' a1 ok1 st1 sl1 => iteT ?_
      have hl := ok.slen ok1
      have ok2 := drop_ok ok1 hl
      rw [← hl] at ok2
      refine x1 σ H1 _ sa D x s' ok2 e fun σ2 w2 H2 dd ok3 l3 st3 xa => ?_
      rw [hl] at ok3 l3 st3
      exact k σ2 w2 H2 dd ok3 l3 ((st1.trans drop_step).trans st3) xa
    · rename_i sa e1
      refine s0 σ H w s _ _ false sa ok e1 fun w1 H1 t' a1 ok1 st1 sl1 => iteF ?_
      have hl := ok.slen ok1
      have ok2 := drop_ok ok1 hl
      rw [← hl] at ok2
      refine x2 σ H1 _ sa D x s' ok2 e fun σ2 w2 H2 dd ok3 l3 st3 xa => ?_
      rw [hl] at ok3 l3 st3
      exact k σ2 w2 H2 dd ok3 l3 ((st1.trans drop_step).trans st3) xa
    · cases e
end
/-! ## defs that may raise -/
theorem after_plain {K : PySem.W.Frag} {t : Nat} {H : Hp} {σ : St} {w : Wd} {s : S} {b : Bx} {F' H' : Hp} {B' : Option (Addr × Addr)} (ok : OKs K w H σ s t) (A : After w.F H w.B F' H' B' b) :
    OKs K ⟨F', w.O, B'⟩ H' σ { s with b := b } t ∧ Step s.a.length t w H ⟨F', w.O, B'⟩ H' := by
  -- who owns what behind it
  have ho : ∀ a i, w.O a = some i → H' a = H a ∧ F' a = none ∧ ¬ isBox B' a := fun a i h => by
    obtain ⟨h1, ⟨o, h2, nt⟩, h3⟩ := ok.own a i h
    have nb : ¬ isBox w.B a := fun ⟨p, g, e, z⟩ => by
      obtain ⟨_, z1, z2⟩ := ok.box p g e
      rcases z with rfl | rfl
      · rw [h] at z1; cases z1
      · rw [h] at z2; cases z2
    refine ⟨(A.keep a o h2 nb).trans h2.symm, ?_, fun ⟨p, g, e, z⟩ => ?_⟩
    · cases q : F' a with
      | none => rfl
      | some u =>
        rcases A.newF a (by rw [q]; simp) with z | z | ⟨xs, z⟩ | z
        · exact absurd h1 z
        · rw [h2] at z; cases z
        · rw [h2] at z; exact absurd (Option.some.inj z) (nt xs)
        · exact absurd z nb
    · rcases A.B with e1 | ⟨_, e1⟩
      · exact nb ⟨p, g, e1 ▸ e, z⟩
      · obtain ⟨z1, z2⟩ := e1 p g e
        rcases z with rfl | rfl
        · rw [h2] at z1; cases z1
        · rw [h2] at z2; cases z2
  have hB0 : ∀ p g, B' = some (p, g) → w.O p = none ∧ w.O g = none := fun p g e => by
    constructor
    · cases q : w.O p with
      | none => rfl
      | some i => exact absurd ⟨p, g, e, .inl rfl⟩ (ho p i q).2.2
    · cases q : w.O g with
      | none => rfl
      | some i => exact absurd ⟨p, g, e, .inr rfl⟩ (ho g i q).2.2
  have hsl : ∀ (O' : Addr → Option Nat), (∀ a i, w.O a = some i → O' a = some i) → ∀ (i : Nat) q v, s.a[i]? = some q → σ[i]? = some v → SlR K ⟨F', O', B'⟩ H' i q v := fun O' hO i q v h1 h2 => by
    have hs := ok.sl i q v h1 h2
    cases q with
    | none => trivial
    | some q =>
      cases q with
      | d y => obtain ⟨u, e, h1⟩ := hs; exact ⟨u, e, Rep.mono A.mono y u h1⟩
      | o c =>
        obtain ⟨u, e, h1⟩ := hs
        refine ⟨u, e, ?_⟩
        cases c with
        | lst ds => obtain ⟨a, xs, e, q1, q2, q3⟩ := h1; exact ⟨a, xs, e, hO a i q1, (ho a i q1).1.trans q2, RepL.mono A.mono ds xs q3⟩
        | dK ds => obtain ⟨a, xs, e, q1, q2, q3⟩ := h1; exact ⟨a, xs, e, hO a i q1, (ho a i q1).1.trans q2, RepK.mono A.mono ds xs q3⟩
        | dT ds => obtain ⟨a, xs, e, q1, q2, q3⟩ := h1; exact ⟨a, xs, e, hO a i q1, (ho a i q1).1.trans q2, RepT.mono A.mono ds xs q3⟩
      | sl _ => exact hs
      | bx =>
        obtain ⟨p, g, e, h1⟩ := hs
        rcases A.B with z | ⟨z, _⟩
        · exact ⟨p, g, z.trans e, h1⟩
        · rw [z] at e; cases e
      | st _ => obtain ⟨b, eb, h4⟩ := hs; exact ⟨b, eb, h4.mono A.mono⟩
  have keep : ∀ a o, H a = some o → (∀ i, w.O a = some i → s.a.length ≤ i ∧ i < t) → ¬ isBox w.B a → H' a = some o := fun a o h _ hb => A.keep a o h hb
  have newF : ∀ a, F' a ≠ none → w.F a ≠ none ∨ H a = none ∨ (∃ i, w.O a = some i ∧ (i < s.a.length ∨ t ≤ i)) ∨ (∃ xs, H a = some (.tup xs)) ∨ isBox w.B a := fun a h => (A.newF a h).imp id (fun z => z.imp id .inr)
  refine ⟨⟨A.sub, ok.len, hsl w.O (fun _ _ h => h), fun a i h => ?_, ok.tN, fun p g e => ⟨A.box p g e, hB0 p g e⟩, A.nob⟩, ⟨A.mono, keep, A.there, fun _ _ h _ _ => h, newF, fun a i h => .inr (by rw [show w.O a = some i from h]; simp), fun _ _ h _ => .inr h, A.B⟩⟩
  obtain ⟨h1, ⟨o, h2, nt⟩, h3⟩ := ok.own a i h
  exact ⟨(ho a i h).2.1, ⟨o, (ho a i h).1.trans h2, nt⟩, h3⟩
section
variable (K : PySem.W.Frag)
def spX (mg : Str → Option Value) (np : Nat) (g : DF) (gx : DX) : Sp := fun vs H Q E => ∃ (F : Hp) (B : Option (Addr × Addr)) (rs : List R) (b : Bx), vs.length = np ∧ Same F H ∧ (∀ p g, B = some (p, g) → BoxOk F H p g b) ∧ (b.c < 0 → B = none) ∧ ArgsR K F B rs vs ∧
  ((∃ r b', g rs b = .ok r b' ∧ ∀ F' B' H' x, After F H B F' H' B' b' → RetR K F' H H' B' r x → Q x H') ∨
   ∃ x b', gx rs b = some (x, b') ∧ ∀ F' B' H' dd, After F H B F' H' B' b' → XAt K F' x dd → E (clsOf mg x.cls) (some dd) H')
end
def runX (N : Nat) (mx : XM) : DX := fun rs b => (mx (.init N rs b)).map fun p => (p.1, p.2.b)
structure FnGX (P : Program) (w : World) (K : PySem.W.Frag) (mg : Str → Option Value) (base : Heap) (k : Nat) (f : Addr) (fd : FuncData) (ps : List Str) (sp : Sp) : Prop where
  many : ∀ vs H Q E, sp vs H Q E → vs.length = ps.length
  goes : ∀ (A : Around) (outer : List Env) (s : Shared) (H : Hp) (args : Args) (us : List Value) (vs : List V) (Q : VK) (E : XK), A.guards = some [] → SysM base → Room k A →
    Env0 P w K mg base A outer s H → BindsTo s fd args (ps.zip us) → Vals vs us → sp vs H Q E → codeAny (model P w) A (.call (.ref f) args) (CR (CX P w) outer P w H s Q E) s
theorem FnGX.up {P : Program} {w : World} {K : PySem.W.Frag} {mg : Str → Option Value} {base : Heap} {j k : Nat} {f : Addr} {fd : FuncData} {ps : List Str} {sp : Sp} (F : FnGX P w K mg base j f fd ps sp) (h : j ≤ k) : FnGX P w K mg base k f fd ps sp :=
  ⟨F.many, fun A o s H a us vs Q E g1 g2 hr => F.goes A o s H a us vs Q E g1 g2 (hr.mono h)⟩
section
variable {P : Program} {w : World} {K : PySem.W.Frag} {mg : Str → Option Value} {base : Heap}
theorem fngx_of {x qual : Str} {st : Stmt} {f : Addr} {fd : FuncData} {N ps : List Str} {k : Nat} {m : MS} {mx : XM} (F : Fun K x qual st f fd) (S : FnScope N ps (defScope st))
    (hb : ∀ (X : Cx) (W : WX), X.prog = P → X.w = w → X.K = K → X.mg = mg → X.base = base → X.N = N → X.env.scope = defScope st → X.calm = true → (∀ y, X.fn y = true) → X.stack = X.env :: X.outer → X.env.frame = some X.env.locals → Here X k → Takes X W → RSsX X W (defBody st) m mx) :
    FnGX P w K mg base (k + 1) f fd ps (spX K mg ps.length (runF N.length m) (runX N.length mx)) := by
  obtain ⟨oc, od, kV, doc, pm, an, cdv, ct, osl, rfl, lk, hcd⟩ := F.ex
  refine ⟨fun vs H Q E ⟨_, _, _, _, hl, _⟩ => hl, fun A outer s H args us vs Q E g1 g2 hr e0 hbd r hsp => ?_⟩
  have hl : vs.length = ps.length := by obtain ⟨_, _, _, _, hl, _⟩ := hsp; exact hl
  have grow := fun b o e => (e0.bs b o e).1
  have KX : K.In s.heap := e0.mod.kin.keeps grow
  have lim : s.heap.NoLimit := e0.mod.nolimit.keeps grow
  have hkind : ∀ y ∈ ps.zip us, (defScope st).names.lookup y.1 = some .local ∨ ((defScope st).names.lookup y.1 = some .cell ∧ ((cellsFrom (s.heap.objs.size + 1) (defScope st).names []).lookup y.1).isSome = true) := by
    rintro ⟨n, v⟩ hy
    rcases S.par n (List.of_mem_zip hy).1 with q | q
    · exact .inl q
    · exact .inr ⟨q, PySem.W.cellsFrom_some _ _ _ (.inl q)⟩
  refine codeAny_call_function hr.depth (KX _ _ lk) rfl S.co S.gen rfl (PySem.W.codeRec_of KX hcd) (hbd _ _ _ _ ?_)
  refine wpAny_newFunctionEnv_cells S.kind hkind fun env he s1 x => ?_
  subst he
  refine ⟨lim.keeps x.toInCall.keep, codeAny_func ?_⟩
  have tk : Takes (cxOf (CX P w) P w K mg base N qual (defScope st) f cdv A outer s H E) (fun cls d _ H => E cls d H) := takes_of rfl rfl rfl rfl
  obtain ⟨ts, p1, p2, p3⟩ := (hb (cxOf (CX P w) P w K mg base N qual (defScope st) f cdv A outer s H E) _ rfl rfl rfl rfl rfl rfl rfl rfl (fun _ => rfl) rfl rfl ⟨g1, g2, hr.deeper _⟩ tk).ex
  have I : Inv (cxOf (CX P w) P w K mg base N qual (defScope st) f cdv A outer s H E) [] (L2.start N vs) H s1 := inv_start S hr.hd e0 hl r x
  have rd : ts { nx := fun _ H' => Q .non H', rt := Q } (L2.start N vs) H := by
    obtain ⟨F, B, rs, b, hl, hF, hB, hnb, ha, hc⟩ := hsp
    rcases hc with ⟨r, b', e, k⟩ | ⟨x, b', e, k⟩
    · exact body_ok (E := E) p2 ⟨F, B, rs, b, r, b', hl, hF, hB, hnb, ha, e, k⟩
    · have ok := start_ok (N := N) (b := b) hF hB hnb ha
      simp only [runX, Option.map_eq_some_iff] at e
      obtain ⟨⟨x1, sa⟩, e1, e2⟩ := e
      cases e2
      exact p3 _ H _ _ _ _ sa ok e1 fun σ1 w1 H1 dd ok1 l1 st1 xa => k w1.F w1.B H1 dd (after_of st1 ok1) xa
  refine wpAny_mono (p1.run [] s1 _ H { nx := fun _ H' => Q .non H', rt := Q } I rd) (fun fl s' hs => ?_) fun e s' hs => hs
  cases fl with
  | ret u => obtain ⟨v, σ', H', J, rv, q⟩ := hs; exact ⟨v, H', J.os, J.bare, J.base, J.hok, rv, q⟩
  | next => obtain ⟨σ', H', J, q⟩ := hs; exact ⟨.non, H', J.os, J.bare, J.base, J.hok, rfl, q⟩
  | brk => obtain ⟨_, _, _, q⟩ := hs; exact q.elim
  | cont => obtain ⟨_, _, _, q⟩ := hs; exact q.elim
end
end Qz
namespace Qz
open PySem PySem.Spec L2
open PyProof.Rows hiding St
/-! ## calls of defs that may raise -/
section
variable {X : Cx} {W : WX} {k np : Nat} {f : Addr} {fd : FuncData} {ps : List Str} {sp : Sp} {x : Str} {p pos : Pos} {e : Expr} {es : List Expr} {t : TA} {g : DF} {gx : DX} {ms mk : MA}
theorem calleeX {E : XK} {pins : List (Addr × Obj)} {σ : St} {H : Hp} {s : Shared} {Q : VK} {args : Args} {us : List Value} {vs : List V} (F : FnGX X.prog X.w X.K X.mg X.base k f fd ps sp) (h : Here X k) (hb : BindsTo s fd args (ps.zip us))
    (I : Inv X pins σ H s) (r : Vals vs us) (hx : PassesAt (CX X.prog X.w) X σ E) (hs : sp vs H Q E) : wpAny (model X.prog X.w) X.A (call (.ref f) args.pos args.kw) (EP X pins σ Q) X.xe s := by
  refine wpAny_call (codeAny_mono (F.goes X.A X.stack s H args us vs Q E h.gd h.sy h.rm I.env0 hb r hs) fun r s' hq => ?_)
  cases r with
  | error e => exact hx pins H s e s' I hq
  | ok fl =>
    cases fl with
    | ret u => exact I.after hq
    | next => exact hq.elim
    | brk => exact hq.elim
    | cont => exact hq.elim
theorem peg_callX (F : FnGX X.prog X.w X.K X.mg X.base k f fd ps sp) (h : Here X k) (tk : Takes X W) (hg : Gl X x) (hm : X.mg x = some (.ref f)) (hk : PySem.W.keepIn X.K (.ref f) = true) (hb : Binds X.K fd ps [])
    (ha : PA X (e :: es) t) (hdb : (x == ("__debug__" : Str)) = false) (he : starEach (e :: es) X.env = (false, eval e X.env) :: starEach es X.env) (hpl : (backTo pos (starEach es X.env)).any (·.1) = false) :
    PE X (.Call (.Name x p) (e :: es) [] pos) (fun σ H Q => t σ H fun vs H1 => sp vs H1 Q (WE W σ)) := by
  refine ⟨fun pins s σ H Q I hw => wpAny_Call_Name_kw (ld_glob I hg hm ?_ hdb)⟩
  refine PySem.W.callWith_K (h₀ := X.base) I.ok.mod.kin hk (thn (ha.run pos pins s σ H _ I hw) fun us s1 ⟨vs, H1, I1, r, q⟩ => ⟨I1.kIn, ?_⟩) he hpl
  have hl := F.many vs H1 Q _ q
  have z := hb s1 us I1.kIn (by rw [List.append_nil, ← r.length]; exact hl)
  rw [List.append_nil] at z
  exact calleeX F h z I1 r (passAt tk σ) q
theorem peg_callKX0 {kws : List Keyword} {ks : List Str} {tk' : TA} {gg : List Value → List Value → List Value} {gV : List V → List V → List V} (F : FnGX X.prog X.w X.K X.mg X.base k f fd ps sp) (h : Here X k) (tk : Takes X W) (hg : Gl X x) (hm : X.mg x = some (.ref f)) (hk : PySem.W.keepIn X.K (.ref f) = true)
    (hb : KBinds X.K fd ps ks gg gV) (hkw : PK X kws tk') (hall : (backToKw pos (keywordEach kws X.env)).all (·.1.isSome) = true) (hks : (backToKw pos (keywordEach kws X.env)).filterMap (·.1) = ks)
    (hdb : (x == ("__debug__" : Str)) = false) (hpl : ((backTo pos (starEach [] X.env)).any (·.1) || (backToKw pos (keywordEach kws X.env)).any (·.1.isNone)) = false) :
    PE X (.Call (.Name x p) [] kws pos) (fun σ H Q => tk' σ H fun zs H1 => sp (gV [] zs) H1 Q (WE W σ)) := by
  refine ⟨fun pins s σ H Q I hw => wpAny_Call_Name_kw (ld_glob I hg hm ?_ hdb)⟩
  refine PySem.W.callWith_KW0 (h₀ := X.base) I.ok.mod.kin hk hall (thn (hkw.run pos pins s σ H _ I hw) fun ws s2 ⟨zs, H2, I2, rz, q2⟩ => ⟨I2.kIn, ?_⟩) hpl
  rw [hks]
  have r2 := hb.rel (.nil : Vals [] []) rz
  exact calleeX F h (hb.to s2 [] ws I2.kIn (by rw [← r2.length]; exact F.many _ _ _ _ q2)) I2 r2 (passAt tk σ) q2
def xCall (np : Nat) (gx : DX) (ms : MA) : XM := fun s => match ms s with
  | .no => none
  | .ok rs s1 => if rs.length = np then match argsT s1 rs with
    | none => none
    | some (q, s2) => match gx q s2.b with
      | none => none
      | some (x, b) => some (x, { s2 with b := b }) else none
theorem callX_snd {K : PySem.W.Frag} {mg : Str → Option Value} {ta : TA} (h : SndA K ta ms) : SndE K (fun σ H Q => ta σ H fun vs H1 => spX K mg np g gx vs H1 Q (WE W σ)) (mCall np g ms) ∧ SndEX K mg W (fun σ H Q => ta σ H fun vs H1 => spX K mg np g gx vs H1 Q (WE W σ)) (xCall np gx ms) := by
  refine ⟨?_, ?_⟩
  · intro σ H w s t Q r s' ok e kk
    simp only [mCall] at e
    split at e
    · cases e
    · rename_i rs sa e1
      split at e
      · rename_i hlen
        split at e
        · cases e
        · rename_i qs sb e2
          split at e
          · cases e
          · rename_i r' b e3
            cases e
            refine h σ H w s t _ rs sa ok e1 fun w1 H1 us t1 a1 ok1 st1 sl1 rel1 => ?_
            have l := ok.slen ok1
            have tN := ok.tN
            obtain ⟨w2, ok2, st2, ar, sl2, l2, _⟩ := argsT_ok (t0 := t) rs us qs sa sb w1 t ok1 rel1 e2 (Nat.le_refl _) (by rw [l]; exact tN)
            rw [l] at st2
            refine ⟨w2.F, w2.B, qs, sb.b, (RelRs.length rs us t rel1).symm.trans hlen, ok2.sub, fun p g e => (ok2.box p g e).1, ok2.nob, ar, .inl ⟨_, _, e3, fun F' B' H' y A rel => ?_⟩⟩
            refine call_back ok2 A rel fun w3 H3 y ok3 st3 rel3 => ?_
            rw [l2, l] at st3
            exact kk w3 H3 y (t1 + 1) t1 a1 (Nat.lt_succ_self _) ok3 ((st1.trans st2).trans (st3.mono a1)) (sl1.trans sl2) rel3
      · cases e
  · intro σ H w s t Q x s' ok e kk
    simp only [xCall] at e
    split at e
    · cases e
    · rename_i rs sa e1
      split at e
      · rename_i hlen
        split at e
        · cases e
        · rename_i qs sb e2
          split at e
          · cases e
          · rename_i x' b e3
            cases e
            refine h σ H w s t _ rs sa ok e1 fun w1 H1 us t1 a1 ok1 st1 sl1 rel1 => ?_
            have l := ok.slen ok1
            have tN := ok.tN
            obtain ⟨w2, ok2, st2, ar, sl2, l2, _⟩ := argsT_ok (t0 := t) rs us qs sa sb w1 t ok1 rel1 e2 (Nat.le_refl _) (by rw [l]; exact tN)
            rw [l] at st2
            refine ⟨w2.F, w2.B, qs, sb.b, (RelRs.length rs us t rel1).symm.trans hlen, ok2.sub, fun p g e => (ok2.box p g e).1, ok2.nob, ar, .inr ⟨_, _, e3, fun F' B' H' dd A xa => ?_⟩⟩
            obtain ⟨ok3, st3⟩ := after_plain ok2 A
            rw [l2, l] at st3
            exact kk _ H' dd t1 a1 ok3 ((st1.trans st2).trans (st3.mono a1)) xa
      · cases e
theorem xe_call (F : FnGX X.prog X.w X.K X.mg X.base k f fd ps (spX X.K X.mg np g gx)) (hr : Here X k) (tk : Takes X W) (hm : X.mg x = some (.ref f)) (hk : PySem.W.keepIn X.K (.ref f) = true) (hb : Binds X.K fd ps [])
    (ha : RA X (e :: es) ms) (hg : Gl X x := by rfl) (hdb : (x == ("__debug__" : Str)) = false := by decide) (he : starEach (e :: es) X.env = (false, eval e X.env) :: starEach es X.env := by rfl) (hpl : (backTo pos (starEach es X.env)).any (·.1) = false := by rfl) :
    REX X W (.Call (.Name x p) (e :: es) [] pos) (mCall np g ms) (xCall np gx ms) := by
  obtain ⟨ta, p1, s1⟩ := ha
  obtain ⟨c1, c2⟩ := callX_snd (np := np) (g := g) (gx := gx) (W := W) s1
  exact ⟨_, peg_callX F hr tk hg hm hk hb p1 hdb he hpl, c1, c2⟩
/-- by keywords alone -/
def xCallK0 (np : Nat) (gx : DX) (nk : Nat) (perm : List Nat) (mk : MA) : XM := fun s => match mk s with
  | .no => none
  | .ok zs s2 => if zs.length = nk then match argsT s2 zs with
    | none => none
    | some (q, s3) => if (perm.filterMap fun i => q[i]?).length = np then match gx (perm.filterMap fun i => q[i]?) s3.b with
      | none => none
      | some (x, b) => some (x, { s3 with b := b }) else none else none
theorem callKX_snd {K : PySem.W.Frag} {mg : Str → Option Value} {tk' : TA} {nk : Nat} {perm : List Nat} (hk : SndA K tk' mk) : SndE K (fun σ H Q => tk' σ H fun zs H1 => spX K mg np g gx (gP 0 nk perm [] zs) H1 Q (WE W σ)) (mCallK np g 0 nk perm mNil mk) ∧ SndEX K mg W (fun σ H Q => tk' σ H fun zs H1 => spX K mg np g gx (gP 0 nk perm [] zs) H1 Q (WE W σ)) (xCallK0 np gx nk perm mk) := by
  refine ⟨?_, ?_⟩
  · intro σ H w s t Q r s' ok e kk
    simp only [mCallK, mNil] at e
    split at e
    · cases e
    · rename_i zs sa2 e1k
      split at e
      · rename_i hc
        split at e
        · cases e
        · rename_i qs sb e2
          split at e
          · rename_i hlen
            split at e
            · cases e
            · rename_i r' b e3
              cases e
              rw [List.nil_append] at e2
              refine hk σ H w s t _ zs sa2 ok e1k fun w1 H1 vs t1 a1 ok1 st1 sl1 rel1 => ?_
              have l := ok.slen ok1
              have tN := ok.tN
              obtain ⟨w2, ok2, st2, ar, sl2, l2, _⟩ := argsT_ok (t0 := t) zs vs qs sa2 sb w1 t ok1 rel1 e2 (Nat.le_refl _) (by rw [l]; exact tN)
              rw [l] at st2
              have eg : gP 0 nk perm [] vs = perm.filterMap fun i => vs[i]? := by
                unfold gP
                rw [if_pos ⟨rfl, by rw [← RelRs.length zs vs t rel1]; exact hc.2⟩]
                rfl
              rw [eg]
              have ar2 := args_pick ar perm
              refine ⟨w2.F, w2.B, _, sb.b, (ArgsR.length _ _ ar2).symm.trans hlen, ok2.sub, fun p g e => (ok2.box p g e).1, ok2.nob, ar2, .inl ⟨_, _, e3, fun F' B' H' y A rel => ?_⟩⟩
              refine call_back ok2 A rel fun w3 H3 y ok3 st3 rel3 => ?_
              rw [l2, l] at st3
              exact kk w3 H3 y (t1 + 1) t1 a1 (Nat.lt_succ_self _) ok3 ((st1.trans st2).trans (st3.mono a1)) (sl1.trans sl2) rel3
          · cases e
      · cases e
  · intro σ H w s t Q x s' ok e kk
    simp only [xCallK0] at e
    split at e
    · cases e
    · rename_i zs sa2 e1k
      split at e
      · rename_i hc
        split at e
        · cases e
        · rename_i qs sb e2
          split at e
          · rename_i hlen
            split at e
            · cases e
            · rename_i x' b e3
              cases e
              refine hk σ H w s t _ zs sa2 ok e1k fun w1 H1 vs t1 a1 ok1 st1 sl1 rel1 => ?_
              have l := ok.slen ok1
              have tN := ok.tN
              obtain ⟨w2, ok2, st2, ar, sl2, l2, _⟩ := argsT_ok (t0 := t) zs vs qs sa2 sb w1 t ok1 rel1 e2 (Nat.le_refl _) (by rw [l]; exact tN)
              rw [l] at st2
              have eg : gP 0 nk perm [] vs = perm.filterMap fun i => vs[i]? := by
                unfold gP
                rw [if_pos ⟨rfl, by rw [← RelRs.length zs vs t rel1]; exact hc⟩]
                rfl
              rw [eg]
              have ar2 := args_pick ar perm
              refine ⟨w2.F, w2.B, _, sb.b, (ArgsR.length _ _ ar2).symm.trans hlen, ok2.sub, fun p g e => (ok2.box p g e).1, ok2.nob, ar2, .inr ⟨_, _, e3, fun F' B' H' dd A xa => ?_⟩⟩
              obtain ⟨ok3, st3⟩ := after_plain ok2 A
              rw [l2, l] at st3
              exact kk _ H' dd t1 a1 ok3 ((st1.trans st2).trans (st3.mono a1)) xa
          · cases e
      · cases e
theorem xe_callK0 {kws : List Keyword} {ks : List Str} {nk : Nat} {perm : List Nat} (F : FnGX X.prog X.w X.K X.mg X.base k f fd ps (spX X.K X.mg np g gx)) (hr : Here X k) (tk : Takes X W) (hm : X.mg x = some (.ref f)) (hk : PySem.W.keepIn X.K (.ref f) = true) (hb : KBinds X.K fd ps ks (gP 0 nk perm) (gP 0 nk perm))
    (hkw : RK X kws mk) (hall : (backToKw pos (keywordEach kws X.env)).all (·.1.isSome) = true := by rfl) (hks : (backToKw pos (keywordEach kws X.env)).filterMap (·.1) = ks := by rfl) (hg : Gl X x := by rfl)
    (hdb : (x == ("__debug__" : Str)) = false := by decide) (hpl : ((backTo pos (starEach [] X.env)).any (·.1) || (backToKw pos (keywordEach kws X.env)).any (·.1.isNone)) = false := by rfl) :
    REX X W (.Call (.Name x p) [] kws pos) (mCallK np g 0 nk perm mNil mk) (xCallK0 np gx nk perm mk) := by
  obtain ⟨tk', p2, s2⟩ := hkw
  obtain ⟨c1, c2⟩ := callKX_snd (np := np) (g := g) (gx := gx) (W := W) (nk := nk) (perm := perm) s2
  exact ⟨_, peg_callKX0 F hr tk hg hm hk hb p2 hall hks hdb hpl, c1, c2⟩
end
end Qz
namespace Qz
open PySem PySem.Spec L2
open PyProof.Rows hiding St
open PySem.W (fnOf findIn typeIn keepIn subIn hasDictIn exmOne codeIn clsIn)
/-! ## errors of the program: a class whose __init__ keeps the one thing that it is passed -/
/-- where the four names of __init__ stand -/
structure Spots where
  s1 : Pos
  s2 : Pos
  s3 : Pos
  s4 : Pos
  s5 : Pos
  s6 : Pos
def Spots.args (z : Spots) (fl : Str) : Arguments := { posonlyargs := [], args := [{ arg := "self", annotation := none, pos := z.s1 }, { arg := fl, annotation := none, pos := z.s2 }], vararg := none, kwonlyargs := [], kw_defaults := [], kwarg := none, defaults := [] }
def Spots.body (z : Spots) (fl : Str) : List Stmt := [.Assign [.Attribute (.Name "self" z.s3) fl z.s4] (.Name fl z.s5) z.s6]
def keepScope (fl : Str) : Scope := { kind := .function, names := [("self", .local), (fl, .local)], isGenerator := false, isCoroutine := false, more := [] }
/-- the class of the name cn at C, whose __init__ at f1 is written qn and keeps its one thing as fl -/
structure ErrTxt (K : PySem.W.Frag) (mg : Str → Option Value) (cn qn fl : Str) (C f1 : Addr) : Prop where
  one : fl = "given" ∨ fl = "error" ∨ fl = "limit"
  here : mg cn = some (.ref C)
  cls : ∃ nm q N bs bm sn sub ab col dd k0 k1 k2 k3 k5, K.lookup C = some (PySem.excClassObj nm q C N bs bm true sn sub ab col dd k0 k1 k2 k3 k5 "ValueError.__new__") ∧ PySem.HandSPX.refsVE bm = true
  sa : findIn K (.ref C) "__setattr__" = some (some (.builtin "object.__setattr__"))
  ga : findIn K (.ref C) "__getattribute__" = some (some (.builtin "BaseException.__getattribute__"))
  gg : findIn K (.ref C) "__getattr__" = some none
  noF : findIn K (.ref C) fl = some none
  ini : findIn K (.ref C) "__init__" = some (some (.ref f1))
  ityp : typeIn K (.ref f1) = some (.type "function")
  kept : keepIn K (.ref C) = true
  exc : subIn K (.ref C) (.type "BaseException") = some true
  typ : typeIn K (.ref C) = some (.type "type")
  dic : hasDictIn K C = true
  fn : ∃ (oc : Value) (od : Option Addr) (doc pm : Value) (an : Option Addr) (cdv ct : Value) (osl : Array (Option Value)) (z : Spots),
    K.lookup f1 = some ⟨oc, od, .func (fnOf "__init__" qn (z.args fl) (z.body fl) (keepScope fl) .none .none doc pm an cdv ct), osl⟩ ∧ codeIn K cdv qn = true
/-- what stands behind a call of the class: a new exception at e, its dict at d, all else as it was -/
structure Fresh (h h' : Heap) (e C d : Addr) (fl : Str) (v : Value) : Prop where
  keep : ∀ b o, h.get? b = some o → h'.get? b = some o
  new : h.objs.size ≤ e
  obj : ∃ oe vs, h'.get? e = some oe ∧ oe.cls = .ref C ∧ oe.dict = some d ∧ oe.data = .fields vs ∧ vs[1]? = some .none
  dnew : h.objs.size ≤ d
  dne : d ≠ e
  ns : h'.Ns1 d (fun y => if y = fl then some v else none)
section
variable {prog : Program} {w : World} {A : Around} {R : Result → Shared → Prop} {K : PySem.W.Frag} {mg : Str → Option Value} {C f1 : Addr} {cn qn fl : Str}
open PySem.W PySem.Calls PySem.HandSPX
theorem name_is {M : Model} {s : Shared} {name : Str} {scope : Scope} {L a : Addr} {cd : Value} {m : Str → Option Value} {x : Str} {pos : Pos} {v : Value} {Q : Value → Shared → Prop} {A : Around} {E : Value → Shared → Prop} (hn : s.heap.Ns L m) (hv : m x = some v)
    (hk : scope.kind = .function) (hl : (envOfC name scope L a cd).kindOf x = some .local) (hd : (x == ("__debug__" : Str)) = false) (h : Q v s) : wpAny M A (eval (.Name x pos) (envOfC name scope L a cd)) Q E s :=
  wpAny_Name (wpAny_loadName_local hk hl hn hv h) hd
/-- the body of __init__ run for a fresh exception at x -/
theorem ErrTxt.init (T : ErrTxt K mg cn qn fl C f1) {s : Shared} {x t0 : Addr} {v : Value} (X : K.In s.heap) (hlim : s.heap.NoLimit) (hx : s.heap.get? x = some (excO C t0)) (hnx : K.lookup x = none) (hroom : A.depth < recursionLimit)
    (hq : ∀ h' tk dx, (∀ b o, b ≠ x → s.heap.get? b = some o → h'.get? b = some o) → h'.get? x = some { cls := .ref C, dict := some dx, data := .fields #[.ref t0, .none, .none, .none, .bool false, .none] } → s.heap.objs.size ≤ dx → dx ≠ x →
      h'.Ns1 dx (fun y => if y = fl then some v else none) → R (.ok (.ret .none)) { s with heap := h', toks := tk }) :
    codeAny (model prog w) A (.call (.ref f1) ⟨[.ref x, v], []⟩) R s := by
  obtain ⟨oc, od, doc, pm, an, cdv, ct, osl, z, ho, hcd⟩ := T.fn
  obtain ⟨nm, q, N, bs, bm, sn, sub, ab, col, dd, k0, k1, k2, k3, k5, hC, hbm⟩ := T.cls
  have hcl : clsIn K C = some { name := nm, bases := bs, mro := .ref C :: bm, ns := N, qualname := q, hasDict := true, slotNames := sn, subclasses := sub, abstract := ab, collection := col, hasDel := false } := by
    unfold clsIn; rw [hC] <;> rfl
  have noF := T.noF
  have one := T.one
  have sa := T.sa
  clear T hC
  rcases one with rfl | rfl | rfl
  all_goals
    refine Att.call_fn (binds := [("self", .ref x), (_, v)]) X hlim ho hcd hroom (BindsTo.of_eq (by first | rfl | with_unfolding_all rfl)) (by first | rfl | decide | with_unfolding_all rfl) (fun s₁ IC => ?_) rfl rfl rfl
    obtain ⟨h₁, tk₁, rfl⟩ := IC.toInCall.same
    have k : ∀ b o, s.heap.get? b = some o → h₁.get? b = some o := IC.toInCall.keep
    have hn := IC.toInCall.ns
    have X₁ : K.In h₁ := X.keeps k
    have hx₁ := k _ _ hx
    show wpAny _ _ (execs _ _) _ _ _
    refine wpAny_execs_cons (plainObj_wpAny_Assign_Attribute ?_)
    refine name_is (v := v) hn (by first | rfl | with_unfolding_all rfl | kernel_rfl) (by rfl) (by rfl) (by decide) (name_is (v := .ref x) hn (by first | rfl | with_unfolding_all rfl | kernel_rfl) (by rfl) (by rfl) (by decide) ?_)
    refine set_plain X₁ (ox := excO C t0) (od := none) ⟨hx₁, rfl, rfl, trivial⟩ sa ?_
    refine exc_osa X₁ hx₁ hcl (show refsVE (.ref C :: bm) = true from hbm) rfl noF (fun h₃ tk₃ dx k₃ dn dne hx₃ hn₃ => ?_)
    show wpAny _ _ (execs _ _) _ _ _
    have lt : s.heap.objs.size < h₁.objs.size := hn.lt
    exact wpAny_execs_nil (hq h₃ tk₃ dx (fun b o hb e => k₃ b o hb (k b o e)) hx₃ (Nat.le_of_lt (Nat.lt_of_lt_of_le lt dn)) dne hn₃)
theorem ErrTxt.made (T : ErrTxt K mg cn qn fl C f1) {s : Shared} {v : Value} (X : K.In s.heap) (hlim : s.heap.NoLimit) (hroom : A.depth + 1 < recursionLimit)
    (hq : ∀ h' tk e d, Fresh s.heap h' e C d fl v → R (.ok (.ret (.ref e))) { s with heap := h', toks := tk }) :
    codeAny (model prog w) A (.call (.ref C) ⟨[v], []⟩) R s := by
  obtain ⟨nm, q, N, bs, bm, sn, sub, ab, col, dd, k0, k1, k2, k3, k5, hC, hbm⟩ := T.cls
  obtain ⟨hp, g, dr, tk, os⟩ := s
  have up : ∀ b o, hp.get? b = some o → ((hp.push (kdv_tup [v])).push (excO C hp.objs.size)).get? b = some o := fun b o e => Heap.get?_push_of_some _ (Heap.get?_push_of_some _ e)
  have old : ∀ b o, hp.get? b = some o → b < hp.objs.size := fun b o e => Heap.lt_size e
  have hnx : K.lookup (hp.objs.size + 1) = none := by
    cases e : K.lookup (hp.objs.size + 1) with
    | none => rfl
    | some o => exact absurd (Nat.lt_of_succ_lt (old _ o (X _ _ e))) (Nat.lt_irrefl _)
  refine call_own F.excBase_ValueError (fun X => refsVE_contains X bm hbm) (X _ _ hC) (looks_findIn X T.ini) (fun self => bind_fn X self T.ityp) (by rw [sizeLine_eq]; exact (by decide : 1 ≤ 16777216)) ?_
  refine T.init (s := ⟨(hp.push (kdv_tup [v])).push (excO C hp.objs.size), g, dr, tk, os⟩) (t0 := hp.objs.size) (X.keeps up) (hlim.keeps up) (by heap_get) hnx hroom fun h' tk' dx k' hx dn dne hns => ?_
  have dn' : hp.objs.size + 1 + 1 ≤ dx := by
    first
      | (simpa only [Heap.size_push] using dn)
      | exact dn
  exact ⟨rfl, hq h' tk' (hp.objs.size + 1) dx ⟨fun b o e => k' b o (Nat.ne_of_lt (Nat.lt_succ_of_lt (old b o e))) (up b o e), Nat.le_succ _, ⟨_, _, hx, rfl, rfl, rfl, rfl⟩, Nat.le_trans (Nat.le_add_right _ 2) dn', dne, hns⟩⟩
end
theorem lookup_one {fl : Str} {v : V} {v' : Value} (r : RelV v v') (y : Str) : RelO (List.lookup y [(fl, v)]) (if y = fl then some v' else none) := by
  by_cases h : y = fl
  · subst h
    rw [if_pos rfl, show List.lookup y [(y, v)] = some v by simp [List.lookup]]
    exact r
  · rw [if_neg h, show List.lookup y [(fl, v)] = none by simp [List.lookup, show (y == fl) = false by simpa using h]]
    trivial
section
variable {X : Cx} {C f1 : Addr} {cn qn fl : Str} {W : WX} {ms : MA}
/-- Cls(a), read -/
def tErr (C : Addr) (fl : Str) (ta : TA) : St → Hp → XK → Prop := fun σ H Q => ta σ H fun vs H1 => ∃ v, vs = [v] ∧ ∀ d, H1 d = none → Q (.ref C) (some d) (upd H1 d (.xd [(fl, v)]))
theorem pmk_err {a : Expr} {ta : TA} {p pos : Pos} {k : Nat} (T : ErrTxt X.K X.mg cn qn fl C f1) (hr : Room (k + 1) X.A) (ha : PA X [a] ta) (hg : Gl X cn) (hdb : (cn == ("__debug__" : Str)) = false)
    (he : starEach (a :: []) X.env = (false, eval a X.env) :: starEach [] X.env) (hpl : (backTo pos (starEach [] X.env)).any (·.1) = false) :
    PMk X (.Call (.Name cn p) [a] [] pos) (tErr C fl ta) := by
  intro pins s σ H Q I h
  refine wpAny_Call_Name_kw (ld_glob I hg T.here ?_ hdb)
  refine PySem.W.callWith_K (h₀ := X.base) I.ok.mod.kin T.kept (thn (ha.run pos pins s σ H _ I h) fun us s1 hh => ?_) he hpl
  obtain ⟨vs, H1, I1, r1, v, rfl, q1⟩ := hh
  refine ⟨I1.kIn, ?_⟩
  obtain ⟨v', rfl, rv⟩ : ∃ v', us = [v'] ∧ RelV v v' := by
    cases r1 with
    | cons rv rn => cases rn; exact ⟨_, rfl, rv⟩
  show wpAny _ _ (call (.ref C) [v']) _ _ _
  have hlim := I1.nolimit
  obtain ⟨hp, g, dr, tk, os⟩ := s1
  refine wpAny_call (T.made I1.kIn hlim (by have := hr.dp; omega) fun h' tk' e d M => ?_)
  show MkP X pins σ Q (.ref e) ⟨h', g, dr, tk', os⟩
  obtain ⟨oe, fv, hoe, hc, hd, hdat, h1⟩ := M.obj
  obtain ⟨G', g1, g2⟩ := restrict h' fun b => decide (b ≠ e)
  have gk : ∀ b, b ≠ e → G'.get? b = h'.get? b := fun b hb => g1 b (decide_eq_true hb)
  have ge : G'.get? e = none := g2 e (by simp)
  have lt : ∀ b o, hp.get? b = some o → b ≠ e := fun b o q => Nat.ne_of_lt (Nat.lt_of_lt_of_le (Heap.lt_size q) M.new)
  have ob : ObjOk X.prog X.w (upd H1 d (.xd [(fl, v)])) G' d (.xd [(fl, v)]) := ⟨_, M.ns.at (fun o q => (gk d M.dne).trans q), fun y => lookup_one rv y⟩
  have J : Inv X pins σ (upd H1 d (.xd [(fl, v)])) ⟨G', g, dr, tk', os⟩ := I1.laid (t' := tk') (fun b o q => (gk b (lt b o q)).trans (M.keep b o q)) M.dnew ob
  refine ⟨e, oe, fv, ⟨G', g, dr, tk', os⟩, _, .ref C, some d, rfl, J, fun b o q => ?_, ge, hoe, ⟨hc, hd⟩, hdat, h1, ?_, rfl, I1.bare, raises_own T.exc T.typ, q1 d (I1.hok.fresh M.dnew)⟩
  · have q' : G'.get? b = some o := q
    have hb : b ≠ e := fun hb => by rw [hb, ge] at q'; cases q'
    exact (gk b hb).symm.trans q'
  · rw [upd_ne (Ne.symm M.dne)]
    exact I1.hok.fresh M.new
def xRaise (cn fl : Str) (ms : MA) : XM := fun s => match ms s with
  | .no => none
  | .ok rs s1 => match takes s1 rs with
    | some ([x], s2) => some (⟨cn, fl, x⟩, s2)
    | _ => none
theorem xs_raise {a : Expr} {p pos pos2 : Pos} {k : Nat} (hc : X.calm = true) (T : ErrTxt X.K X.mg cn qn fl C f1) (hr : Here X (k + 1)) (tk : Takes X W) (ha : RA X [a] ms) (hg : Gl X cn := by rfl) (hdb : (cn == ("__debug__" : Str)) = false := by decide)
    (he : starEach (a :: []) X.env = (false, eval a X.env) :: starEach [] X.env := by rfl) (hpl : (backTo pos (starEach [] X.env)).any (·.1) = false := by rfl) :
    RSX X W (.Raise (some (.Call (.Name cn p) [a] [] pos)) none pos2) mNoS (xRaise cn fl ms) := by
  obtain ⟨ta, p1, s1⟩ := ha
  refine ⟨_, ps_raise hc tk (pmk_err T hr.rm p1 hg hdb he hpl), (fun _ _ _ _ _ _ _ _ e _ => nomatch e), ?_⟩
  intro σ H w s D x s' ok e kk
  simp only [xRaise] at e
  split at e
  · cases e
  · rename_i rs sa e1
    split at e
    · rename_i y sb e2
      cases e
      refine s1 σ H w s _ _ rs sa ok e1 fun w1 H1 us t1 a1 ok1 st1 sl1 rel1 => ?_
      have l := ok.slen ok1
      have tN := ok.tN
      obtain ⟨w2, ok2, st2, rep, sl2, l2⟩ := takes_ok (t0 := s.a.length) rs us _ sa s' w1 s.a.length ok1 rel1 e2 (Nat.le_refl _) (by rw [l]; exact tN)
      rw [l] at st2
      cases us with
      | nil => simp [RepL] at rep
      | cons v us =>
        cases us with
        | cons _ _ => simp [RepL] at rep
        | nil =>
          refine ⟨v, rfl, fun d hd => ?_⟩
          have ok3 := lay_ok (o := .xd [(fl, v)]) ok2 hd
          have st3 : Step s.a.length s.a.length w2 H1 (w2.lay d (.xd [(fl, v)])) (upd H1 d (.xd [(fl, v)])) := lay_step ok2 hd
          have hl : s'.a.length = s.a.length := l2.trans l
          have kk' := kk σ (((w2.lay d (.xd [(fl, v)])).drop s.a.length)) (upd H1 d (.xd [(fl, v)])) d
          rw [clsOf_of T.here] at kk'
          refine kk' (drop_ok ok3 hl) hl (((st1.trans st2).trans st3).trans drop_step) ⟨v, upd_same, ?_⟩
          simp only [RepL] at rep
          obtain ⟨_, _, ee, r0, _⟩ := rep
          cases ee
          exact Rep.mono st3.F _ _ r0
    · cases e
end
end Qz
namespace Qz
open PySem PySem.Spec L2
open PyProof.Rows hiding St
/-! ## try: .. except C as x: .. -/
section
variable (K : PySem.W.Frag) (i : Nat) (a dd : Addr) (x : Exc)
/-- the exception stands in slot i (which the state leaves out), its field at dd -/
def Caught (w : Wd) (σ : St) : Prop := σ[i]? = some (some (.ref a)) ∧ XAt K w.F x dd
def SndHE (te : TE) (m : ME) : Prop := ∀ (σ : St) (H : Hp) (w : Wd) (s : S) (t : Nat) (Q : VK) (r : R) (s' : S), OKs K w H σ s t → Caught K i a dd x w σ → m s = .ok r s' →
  (∀ w' H' y t' τ, t ≤ τ → τ < t' → OKs K w' H' σ s' t' → Step s.a.length t w H w' H' → Slotted s s' → RelR K w' H' σ s' τ r y → Q y H') → te σ H Q
def SndHA (ta : TA) (m : MA) : Prop := ∀ (σ : St) (H : Hp) (w : Wd) (s : S) (t : Nat) (Q : List V → Hp → Prop) (rs : List R) (s' : S), OKs K w H σ s t → Caught K i a dd x w σ → m s = .ok rs s' →
  (∀ w' H' xs t', t ≤ t' → OKs K w' H' σ s' t' → Step s.a.length t w H w' H' → Slotted s s' → RelRs K w' H' σ s' t' t rs xs → Q xs H') → ta σ H Q
def SndHS (ts : TS) (m : MS) : Prop := ∀ (σ : St) (H : Hp) (w : Wd) (s : S) (D : Ends) (f : Fl) (s' : S), OKs K w H σ s s.a.length → Caught K i a dd x w σ → m s = .ok f s' → EndsOk K D s.a.length w H f s' → ts D σ H
end
structure RHE (Y : Cx) (i : Nat) (a dd : Addr) (x : Exc) (e : Expr) (m : ME) : Prop where
  ex : ∃ te, PE Y e te ∧ SndHE Y.K i a dd x te m
structure RHA (Y : Cx) (i : Nat) (a dd : Addr) (x : Exc) (es : List Expr) (m : MA) : Prop where
  ex : ∃ ta, PA Y es ta ∧ SndHA Y.K i a dd x ta m
structure RHS (Y : Cx) (i : Nat) (a dd : Addr) (x : Exc) (st : Stmt) (m : MS) : Prop where
  ex : ∃ ts, PS Y st ts ∧ SndHS Y.K i a dd x ts m
structure RHSs (Y : Cx) (i : Nat) (a dd : Addr) (x : Exc) (st : List Stmt) (m : MS) : Prop where
  ex : ∃ ts, PSs Y st ts ∧ SndHS Y.K i a dd x ts m
/-- what the suite knows of the exception -/
structure Held (Y : Cx) (a dd C : Addr) : Prop where
  at_ : ∃ oe vs, (a, oe) ∈ Y.pn ∧ oe.cls = .ref C ∧ oe.dict = some dd ∧ oe.data = .fields vs
section
variable {Y : Cx} {i : Nat} {a dd C f1 : Addr} {x : Exc} {e : Expr} {es : List Expr} {st : Stmt} {sts : List Stmt} {m m1 m2 : ME} {ms : MA} {p q : MS} {pos : Pos} {cn qn fl : Str}
theorem Caught.on {K : PySem.W.Frag} {n t0 : Nat} {w w' : Wd} {H H' : Hp} {σ : St} (h : Caught K i a dd x w σ) (st : Step n t0 w H w' H') : Caught K i a dd x w' σ := ⟨h.1, h.2.mono st.F⟩
theorem RHE.of (h : RE Y e m) : RHE Y i a dd x e m := let ⟨te, p, s⟩ := h.ex; ⟨te, p, fun σ H w s0 t Q r s' ok _ e k => s σ H w s0 t Q r s' ok e k⟩
theorem RHA.of (h : RA Y es ms) : RHA Y i a dd x es ms := let ⟨te, p, s⟩ := h.ex; ⟨te, p, fun σ H w s0 t Q r s' ok _ e k => s σ H w s0 t Q r s' ok e k⟩
theorem RHS.of (h : RS Y st p) : RHS Y i a dd x st p := let ⟨te, p, s⟩ := h.ex; ⟨te, p, fun σ H w s0 D f s' ok _ e k => s σ H w s0 D f s' ok e k⟩
theorem RHSs.of (h : RSs Y sts p) : RHSs Y i a dd x sts p := let ⟨te, p, s⟩ := h.ex; ⟨te, p, fun σ H w s0 D f s' ok _ e k => s σ H w s0 D f s' ok e k⟩
theorem ha_nil : RHA Y i a dd x [] mNil := .of ra_nil
theorem ha_cons (h : RHE Y i a dd x e m) (hr : RHA Y i a dd x es ms) (hs : starEach (e :: es) Y.env = (false, eval e Y.env) :: starEach es Y.env := by rfl) : RHA Y i a dd x (e :: es) (mCons m ms) := by
  obtain ⟨te, h1, h2⟩ := h
  obtain ⟨ta, h3, h4⟩ := hr
  refine ⟨_, pa_cons h1 h3 hs, fun σ H w s t Q r s' ok ca e k => ?_⟩
  simp only [mCons] at e
  split at e
  · cases e
  · rename_i r1 s1 e1
    split at e
    · cases e
    · rename_i rs s2 e2
      cases e
      refine h2 σ H w s t _ r1 s1 ok ca e1 fun w1 H1 y t1 τ a1 a2 ok1 st1 sl1 rel1 => ?_
      refine h4 σ H1 w1 s1 t1 _ rs _ ok1 (ca.on st1) e2 fun w2 H2 xs t2 a3 ok2 st2 sl2 rel2 => ?_
      have l := ok.slen ok1
      have tN := ok.tN
      rw [l] at st2
      refine k w2 H2 (y :: xs) t2 (by omega) ok2 (st1.trans (st2.mono (by omega))) (sl1.trans sl2) ⟨y, xs, τ, rfl, a1, by omega, ?_, RelRs.lo rs xs rel2 (by omega)⟩
      exact RelR.keep ok1 rel1 (by rw [l]; exact st2) (by omega) (by omega) sl2
theorem he_data {rd : List V → Hp → VK → Prop} {f : List D → Option R} (hp : ∀ ta, PA Y es ta → PE Y e (fun σ H Q => ta σ H fun us H1 => rd us H1 Q)) (hr : RHA Y i a dd x es ms) (hm : MkS Y.K rd f) : RHE Y i a dd x e (mData ms f) := by
  obtain ⟨ta, h1, h2⟩ := hr
  refine ⟨_, hp ta h1, fun σ H w s t Q r s' ok ca e k => ?_⟩
  simp only [mData] at e
  split at e
  · cases e
  · rename_i rs s1 e1
    split at e
    · cases e
    · rename_i xs s2 e2
      split at e
      · cases e
      · rename_i r' e3
        cases e
        refine h2 σ H w s t _ rs s1 ok ca e1 fun w1 H1 us t1 a1 ok1 st1 sl1 rel1 => ?_
        have l := ok.slen ok1
        obtain ⟨w2, ok2, st2, rep, sl2, l2⟩ := takes_ok (t0 := t) rs us xs s1 s' w1 t ok1 rel1 e2 (Nat.le_refl _) (by rw [l]; exact ok.tN)
        refine hm w2 H1 σ s' t1 us xs r Q ok2 rep e3 fun w3 H3 z ok3 st3 rel3 => ?_
        rw [l] at st2
        rw [l2, l] at st3
        exact k w3 H3 z (t1 + 1) t1 a1 (Nat.lt_succ_self _) ok3 ((st1.trans st2).trans (st3.mono a1)) (sl1.trans sl2) rel3
theorem he_lst (h : RHA Y i a dd x es ms) : RHE Y i a dd x (.List es pos) (mLst ms) := he_data (fun ta h => pe_lst h) h mk_lst
theorem he_tup {x1} (h : RHA Y i a dd x es ms) : RHE Y i a dd x (.Tuple es x1 pos) (mTup ms) := he_data (fun ta h => pe_tup h) h mk_tup
theorem he_one {op} (h : RHE Y i a dd x e m) : RHE Y i a dd x (.BoolOp op [e] pos) m := let ⟨t, p, q⟩ := h.ex; ⟨t, pe_one p, q⟩
theorem he_and {a1 b : Expr} {rest : List Expr} (h : RHE Y i a dd x a1 m1) (hr : RHE Y i a dd x (.BoolOp .And (b :: rest) pos) m2) : RHE Y i a dd x (.BoolOp .And (a1 :: b :: rest) pos) (mAndV m1 m2) := by
  obtain ⟨t1, p1, h1⟩ := h
  obtain ⟨t2, p2, h2⟩ := hr
  refine ⟨_, pe_and p1 p2, fun σ H w s t Q r s' ok ca e k => ?_⟩
  simp only [mAndV] at e
  split at e
  · rename_i s1 e1
    refine h1 σ H w s t _ _ s1 ok ca e1 fun w1 H1 x t1 τ a1 a2 ok1 st1 sl1 rel1 => ?_
    simp only [RelR, Rep] at rel1
    refine ⟨true, rel1, iteT ?_⟩
    refine h2 σ H1 w1 s1 t1 _ r s' ok1 (ca.on st1) e fun w2 H2 y t2 τ2 b1 b2 ok2 st2 sl2 rel2 => ?_
    rw [ok.slen ok1] at st2
    exact k w2 H2 y t2 τ2 (by omega) b2 ok2 (st1.trans (st2.mono (by omega))) (sl1.trans sl2) rel2
  · rename_i s1 e1
    cases e
    refine h1 σ H w s t _ _ _ ok ca e1 fun w1 H1 x t1 τ a1 a2 ok1 st1 sl1 rel1 => ?_
    have rel2 := rel1
    simp only [RelR, Rep] at rel1
    subst rel1
    exact ⟨false, rfl, iteF (k w1 H1 _ t1 τ a1 a2 ok1 st1 sl1 rel2)⟩
  · cases e
/-- x.field -/
def mFld (fl : Str) (x : Exc) : ME := fun s => if x.fld = fl then .ok (.d x.v) s else .no
theorem he_fld {nx : Str} {p0 : Pos} (T : ErrTxt Y.K Y.mg cn qn fl C f1) (hh : Held Y a dd C) (hN : Y.N[i]? = some nx := by rfl) (hv : Vis Y.env.scope nx := by first | exact Or.inl rfl | exact Or.inr (Or.inl rfl) | exact Or.inr (Or.inr rfl)) (hd : (nx == ("__debug__" : Str)) = false := by decide)
    (hcd : (nx == ("__classdict__" : Str)) = false := by decide) (hb : attributeBase (.Name nx p0) fl Y.env (eval (.Name nx p0) Y.env) = eval (.Name nx p0) Y.env := by rfl) : RHE Y i a dd x (.Attribute (.Name nx p0) fl pos) (mFld fl x) := by
  refine ⟨fun σ H Q => tVar i σ H fun z H1 => z = .ref a ∧ ∃ v, H1 dd = some (.xd [(fl, v)]) ∧ Q v H1, ⟨fun pins s σ H Q I h => ?_⟩, fun σ H w s t Q r s' ok ca e k => ?_⟩
  · refine attr_of hb (thn ((pe_var hN hv hd hcd).run pins s σ H _ I h) fun u s1 hh1 => ?_)
    obtain ⟨z, H1, I1, rx, rfl, v, ea, q⟩ := hh1
    obtain rfl : u = Value.ref a := rx
    obtain ⟨oe, vs, hm, hc, hdict, hdat⟩ := hh.at_
    obtain ⟨ha, _⟩ := I1.pin (a, oe) (List.mem_append_left _ hm)
    have hx : ObjOk Y.prog Y.w H1 s1.heap dd (.xd [(fl, v)]) := I1.hok dd _ ea
    obtain ⟨mA, hns, hr⟩ := hx
    obtain ⟨od, ho, hl⟩ := lookIn_ns hns
    have l : List.lookup fl [(fl, v)] = some v := by simp [List.lookup]
    obtain ⟨u, hu, ru⟩ := RelO.some_of (v := v) (o := mA fl) (by rw [← l]; exact hr fl)
    have J : PySem.W.InstAt s1.heap a oe C (some od) := ⟨ha, hc, by unfold PySem.W.notCls; rw [hdat] <;> rfl, by rw [hdict]; exact ho⟩
    exact HandSPX.exc_get I1.kIn J T.ga T.gg T.exc (PySem.W.findObj_own T.dic T.noF rfl (by rw [hl, hu])) (handed_of ru) ⟨v, H1, I1.tok _, ru, q⟩
  · simp only [mFld] at e
    split at e
    · rename_i hf
      cases e
      obtain ⟨vv, hF, rep⟩ := ca.2
      refine ⟨.ref a, ca.1, rfl, vv, by rw [← hf]; exact ok.sub _ _ hF, ?_⟩
      exact k w H vv (t + 1) t (Nat.le_refl _) (Nat.lt_succ_self _) (ok.up (Nat.le_succ _)) .refl .refl (by simp only [RelR]; exact rep)
    · cases e
/-- isinstance(x, B), B a class of the program or a built-in one, that x's class lies under or not -/
structure IsI (K : PySem.W.Frag) (C : Addr) (c : Value) (b : Bool) : Prop where
  fd : PySem.W.findIn K (.ref C) "__class__" = some (some (.builtin "object.__class__"))
  sp : PySem.W.specialIn K (.builtin "object.__class__") "__get__" = some (some (.builtin "getset_descriptor.__get__"))
  tk : PySem.W.takesIn K (.builtin "object.__class__") = some true
  mo : PySem.W.mroIn K C (.type "object") = some true
  one : PySem.W.kitOne K (.ref C) c = some b
theorem he_isi {nx : Str} {p0 p1 : Pos} {ce : Expr} {cv : V} {c : Value} {b : Bool} (T : ErrTxt Y.K Y.mg cn qn fl C f1) (hh : Held Y a dd C) (hi : IsI Y.K C c b) (hce : PE Y ce (tC cv)) (hcv : ∀ u, RelV cv u → u = c) (hg : Gl Y "isinstance") (hm : Y.mg "isinstance" = none) (hN : Y.N[i]? = some nx := by rfl) (hv : Vis Y.env.scope nx := by first | exact Or.inl rfl | exact Or.inr (Or.inl rfl) | exact Or.inr (Or.inr rfl)) (hd : (nx == ("__debug__" : Str)) = false := by decide)
    (hcd : (nx == ("__classdict__" : Str)) = false := by decide) (he : starEach (.Name nx p0 :: ce :: []) Y.env = (false, eval (.Name nx p0) Y.env) :: starEach (ce :: []) Y.env := by rfl) (he2 : starEach (ce :: []) Y.env = (false, eval ce Y.env) :: starEach [] Y.env := by rfl) (hpl : (backTo pos (starEach (ce :: []) Y.env)).any (·.1) = false := by rfl) :
    RHE Y i a dd x (.Call (.Name "isinstance" p1) [.Name nx p0, ce] [] pos) (mC (.bool b)) := by
  have call : CallR Y (.builtin "isinstance") (fun vs H Q => vs = [.ref a, cv] ∧ (∃ v, H dd = some (.xd [(x.fld, v)])) ∧ Q (.bl b) H) := by
    intro pins s σ H xs us Q I rl ⟨e, ⟨v, ea⟩, q⟩
    subst e
    cases rl with
    | cons r1 rl =>
      cases rl with
      | cons r2 rl =>
        cases rl
        rename_i u1 u2
        obtain rfl : u1 = Value.ref a := r1
        obtain rfl := hcv _ r2
        obtain ⟨oe, vs, hmem, hc, hdict, hdat⟩ := hh.at_
        obtain ⟨ha, _⟩ := I.pin (a, oe) (List.mem_append_left _ hmem)
        have hx : ObjOk Y.prog Y.w H s.heap dd (.xd [(x.fld, v)]) := I.hok dd _ ea
        obtain ⟨mA, hns, hr⟩ := hx
        obtain ⟨od, ho, hl⟩ := lookIn_ns hns
        have J : PySem.W.InstAt s.heap a oe C (some od) := ⟨ha, hc, by unfold PySem.W.notCls; rw [hdat] <;> rfl, by rw [hdict]; exact ho⟩
        obtain ⟨nm, q', N, bs, bm, sn, sub, ab, col, dd', k0, k1, k2, k3, k5, hC, hbm⟩ := T.cls
        have hcl : (PySem.W.clsIn Y.K C).isSome = true := by unfold PySem.W.clsIn; rw [hC] <;> rfl
        refine PySem.W.kia_one (PySem.W.kitx_exc hcl T.ga T.gg T.exc hi.fd hi.sp hi.tk hi.mo) I.kIn J hi.one (by intro h; cases h) fun tk => ?_
        exact ⟨.bl b, H, I.tok _, rfl, q⟩
  refine ⟨_, pe_callB call hg hm (by decide +kernel) (pa_cons (pe_var hN hv hd hcd) (pa_cons hce pa_nil he2) he) (by decide) (by decide) he hpl, fun σ H w s t Q r s' ok ca e k => ?_⟩
  cases e
  obtain ⟨vv, hF, rep⟩ := ca.2
  refine ⟨.ref a, ca.1, rfl, ⟨vv, ok.sub _ _ hF⟩, ?_⟩
  exact k w H _ (t + 1) t (Nat.le_refl _) (Nat.lt_succ_self _) (ok.up (Nat.le_succ _)) .refl .refl (by simp only [RelR, Rep])
/-! statements of the suite -/
theorem hs_ret (h : RHE Y i a dd x e m) : RHS Y i a dd x (.Return (some e) pos) (mRet m) := by
  obtain ⟨t1, p1, s1⟩ := h
  refine ⟨_, ps_ret p1, ?_⟩
  intro σ H w s D f s' ok ca e k
  simp only [mRet] at e
  split at e
  · cases e
  · rename_i r sa e1
    cases e
    exact s1 σ H w s _ _ r _ ok ca e1 fun w1 H1 x t' τ a1 a2 ok1 st1 sl1 rel1 => k.rt r rfl σ w1 H1 x t' τ a1 a2 ok1 (ok.slen ok1) st1 rel1
theorem hss_one (h : RHS Y i a dd x st p) : RHSs Y i a dd x [st] p := by
  obtain ⟨ts, p1, s1⟩ := h
  exact ⟨_, pss_one p1, s1⟩
end
end Qz
namespace Qz
open PySem PySem.Spec L2
open PyProof.Rows hiding St
/-! ## the try itself -/
section
variable {K : PySem.W.Frag} {n t : Nat} {w : Wd} {H : Hp} {σ : St} {s : S} {i : Nat}
/-- a slot that the state leaves out may hold anything -/
theorem OKs.put (ok : OKs K w H σ s t) (h : s.a[i]? = some none) (z : Option V) : OKs K w H (σ.set i z) s t :=
  ⟨ok.sub, by rw [List.length_set]; exact ok.len, fun j q v h1 h2 => by
    by_cases e : i = j
    · subst e
      rw [h] at h1
      cases h1
      trivial
    · rw [List.getElem?_set_ne e] at h2
      exact ok.sl j q v h1 h2, ok.own, ok.tN, ok.box, ok.nob⟩
end
/-- what a suite that may raise is good for, told without its reading -/
def tAny (K : PySem.W.Frag) (mg : Str → Option Value) (m : MS) (mx : XM) (W : WX) : TS := fun D σ H => ∃ w s, OKs K w H σ s s.a.length ∧
  ((∃ f s', m s = .ok f s' ∧ EndsOk K D s.a.length w H f s') ∨
   (∃ x s', mx s = some (x, s') ∧ ∀ σ' w' H' dd, OKs K w' H' σ' s' s.a.length → s'.a.length = s.a.length → Step s.a.length s.a.length w H w' H' → XAt K w'.F x dd → W (clsOf mg x.cls) (some dd) σ' H'))
def tHand (K : PySem.W.Frag) (mg : Str → Option Value) (i : Nat) (cn : Str) (mh : Exc → MS) (a : Addr) (cls : Value) (d : Option Addr) : TS := fun D σ H => ∃ w s x dd f s', cls = clsOf mg x.cls ∧ d = some dd ∧ x.cls = cn ∧
  OKs K w H σ s s.a.length ∧ Caught K i a dd x w σ ∧ mh x s = .ok f s' ∧ EndsOk K D s.a.length w H f s'
def emptyAt (s : S) (i : Nat) : Bool := match s.a[i]? with
  | some none => true
  | _ => false
theorem of_empty {s : S} {i : Nat} (h : emptyAt s i = true) : s.a[i]? = some none := by
  unfold emptyAt at h
  split at h
  · assumption
  · cases h
/-- try: body except C as name: suite -/
def mTry (i : Nat) (cn : Str) (m : MS) (mx : XM) (mh : Exc → MS) : MS := fun s => match m s with
  | .ok f s1 => .ok f s1
  | .no => match mx s with
    | none => .no
    | some (x, s1) => if x.cls = cn ∧ emptyAt s1 i = true then match mh x s1 with
      | .ok f s2 => if emptyAt s2 i = true then .ok f s2 else .no
      | .no => .no else .no
section
variable {X : Cx} {i : Nat} {C f1 : Addr} {cn qn fl : Str} {body suite : List Stmt} {b0 : Stmt} {m : MS} {mx : XM} {mh : Exc → MS}
theorem rs_try {nx : Str} {np pos pos' : Pos} (T : ErrTxt X.K X.mg cn qn fl C f1) (hte : PySem.W.exmOne X.K (.ref C) (.ref C) = some true) (hst : X.stack = X.env :: X.outer) (hfr : X.env.frame = some X.env.locals) (nd : X.N.Nodup) (hN : X.N[i]? = some nx) (hk : X.env.kindOf nx = some .local) (hg : Gl X cn)
    (hb : ∀ (W : WX) (pn : List (Addr × Obj)) (xe : Value → Shared → Prop), Takes (X.tr pn xe) W → RSsX (X.tr pn xe) W body m mx)
    (hh : ∀ (a dd : Addr) (oe : Obj) (pn : List (Addr × Obj)) (x : Exc), Held (X.suite a ((a, oe) :: pn)) a dd C → x.cls = cn → RHSs (X.suite a ((a, oe) :: pn)) i a dd x (b0 :: suite) (mh x))
    (hdb : (cn == ("__debug__" : Str)) = false := by decide) : RS X (.Try body [.ExceptHandler (some (.Name cn np)) (some nx) (b0 :: suite) pos'] [] [] pos) (mTry i cn m mx mh) := by
  refine ⟨_, ps_try_as (i := i) (c := .ref C) (tb := tAny X.K X.mg m mx) (ts := tHand X.K X.mg i cn mh) (Wout := fun _ _ _ _ => False) hst hfr nd hN hk ⟨hg, hdb, .inl T.here⟩ takes0 (fun W pn xe tk _ => ?_) (fun a oe cls d pn hz hf => ?_), ?_⟩
  · obtain ⟨ts, p1, s1, x1⟩ := (hb W pn xe tk).ex
    refine ⟨fun pins s σ H D I h => p1.run pins s σ H D I ?_⟩
    obtain ⟨w, s0, ok, h⟩ := h
    rcases h with ⟨f, s', e, k⟩ | ⟨x, s', e, k⟩
    · exact s1 σ H w s0 D f s' ok e k
    · exact x1 σ H w s0 D x s' ok e k
  · refine ⟨fun pins s σ H D I h => ?_⟩
    obtain ⟨w, s0, x, dd, f, s', rfl, rfl, hc, ok, ca, e, k⟩ := h
    obtain ⟨vs, hv⟩ := hf
    obtain ⟨ts, p1, s1⟩ := (hh a dd oe pn x ⟨oe, vs, List.mem_cons_self, by rw [hz.1, hc, clsOf_of T.here], hz.2, hv⟩ hc).ex
    exact p1.run pins s σ H D I (s1 σ H w s0 D f s' ok ca e k)
  · intro σ H w s D f s' ok e k
    refine ⟨w, s, ok, ?_⟩
    simp only [mTry] at e
    split at e
    · rename_i f1 s1 e1
      cases e
      exact .inl ⟨_, _, e1, k⟩
    · rename_i e1
      split at e
      · cases e
      · rename_i x s1 e2
        split at e
        · rename_i hc0
          have hc : x.cls = cn ∧ s1.a[i]? = some none := ⟨hc0.1, of_empty hc0.2⟩
          split at e
          · rename_i f2 s2 e3
            split at e
            · rename_i hi0
              have hi := of_empty hi0
              cases e
              refine .inr ⟨x, s1, e2, fun σ' w' H' dd ok' l' st' xa => ?_⟩
              refine ⟨true, by rw [hc.1, clsOf_of T.here]; exact hte, fun _ a ha => ?_, fun q => Bool.noConfusion q⟩
              have len : i < σ'.length := by rw [ok'.len]; exact (List.getElem?_eq_some_iff.mp hc.2).1
              have ok2 : OKs X.K w' H' (σ'.set i (some (.ref a))) s1 s1.a.length := by rw [l']; exact ok'.put hc.2 _
              refine ⟨w', s1, x, dd, _, _, rfl, rfl, hc.1, ok2, ⟨by rw [List.getElem?_set_self len], xa⟩, e3, ?_⟩
              have k2 := k.after st'
              rw [← l'] at k2
              exact ⟨fun ef σ2 w2 H2 ok3 l3 st3 => k2.nx ef _ w2 H2 (ok3.put hi _) l3 st3, fun ef σ2 w2 H2 ok3 l3 st3 => k2.bk ef _ w2 H2 (ok3.put hi _) l3 st3, fun ef σ2 w2 H2 ok3 l3 st3 => k2.ct ef _ w2 H2 (ok3.put hi _) l3 st3, k2.rt⟩
            · cases e
          · cases e
        · cases e
end
end Qz
namespace Qz
open PySem PySem.Spec L2
open PyProof.Rows hiding St
/-! ## defs in which something is tried -/
theorem Here.tr {X : Cx} {k : Nat} (h : Here X k) (pn : List (Addr × Obj)) (xe : Value → Shared → Prop) : Here (X.tr pn xe) k := ⟨h.gd, h.sy, h.rm⟩
section
variable {P : Program} {w : World} {K : PySem.W.Frag} {mg : Str → Option Value} {base : Heap}
theorem fngt_of {x qual : Str} {st : Stmt} {f : Addr} {fd : FuncData} {N ps : List Str} {k : Nat} {m : MS} (F : Fun K x qual st f fd) (S : FnScope N ps (defScope st))
    (hb : ∀ (X : Cx), X.prog = P → X.w = w → X.K = K → X.mg = mg → X.base = base → X.N = N → X.env.scope = defScope st → X.calm = true → X.stack = X.env :: X.outer → X.env.frame = some X.env.locals → (∀ y, X.fn y = true) → (∀ e s, ¬ X.xe e s) → Here X k → RSs X (defBody st) m) :
    FnG P w K mg base (k + 1) f fd ps (spD K ps.length (runF N.length m)) := by
  obtain ⟨oc, od, kV, doc, pm, an, cdv, ct, osl, rfl, lk, hcd⟩ := F.ex
  refine ⟨fun vs H Q E ⟨_, _, _, _, _, _, hl, _⟩ => hl, fun A outer s H args us vs Q E g1 g2 hr e0 hbd r hsp => ?_⟩
  have hl : vs.length = ps.length := by obtain ⟨_, _, _, _, _, _, hl, _⟩ := hsp; exact hl
  have grow := fun b o e => (e0.bs b o e).1
  have KX : K.In s.heap := e0.mod.kin.keeps grow
  have lim : s.heap.NoLimit := e0.mod.nolimit.keeps grow
  have hkind : ∀ y ∈ ps.zip us, (defScope st).names.lookup y.1 = some .local ∨ ((defScope st).names.lookup y.1 = some .cell ∧ ((cellsFrom (s.heap.objs.size + 1) (defScope st).names []).lookup y.1).isSome = true) := by
    rintro ⟨n, v⟩ hy
    rcases S.par n (List.of_mem_zip hy).1 with q | q
    · exact .inl q
    · exact .inr ⟨q, PySem.W.cellsFrom_some _ _ _ (.inl q)⟩
  refine codeAny_call_function hr.depth (KX _ _ lk) rfl S.co S.gen rfl (PySem.W.codeRec_of KX hcd) (hbd _ _ _ _ ?_)
  refine wpAny_newFunctionEnv_cells S.kind hkind fun env he s1 x => ?_
  subst he
  refine ⟨lim.keeps x.toInCall.keep, codeAny_func ?_⟩
  obtain ⟨ts, p1, p2⟩ := (hb (cxOf CX0 P w K mg base N qual (defScope st) f cdv A outer s H E).nox rfl rfl rfl rfl rfl rfl rfl rfl rfl rfl (fun _ => rfl) (fun _ _ h => h) ⟨g1, g2, hr.deeper _⟩).ex
  have I : Inv (cxOf CX0 P w K mg base N qual (defScope st) f cdv A outer s H E) [] (L2.start N vs) H s1 := inv_start S hr.hd e0 hl r x
  refine wpAny_mono (p1.nox.run [] s1 _ H { nx := fun _ H' => Q .non H', rt := Q } I (body_ok (E := E) p2 hsp)) (fun fl s' hs => ?_) fun e s' hs => hs
  cases fl with
  | ret u => obtain ⟨v, σ', H', J, rv, q⟩ := hs; exact ⟨v, H', J.os, J.bare, J.base, J.hok, rv, q⟩
  | next => obtain ⟨σ', H', J, q⟩ := hs; exact ⟨.non, H', J.os, J.bare, J.base, J.hok, rfl, q⟩
  | brk => obtain ⟨_, _, _, q⟩ := hs; exact q.elim
  | cont => obtain ⟨_, _, _, q⟩ := hs; exact q.elim
theorem xss_nil {X : Cx} {W : WX} : RSsX X W [] mNext xNo := .of rss_nil
end
/-! ## what lies under what -/
section
variable {K : PySem.W.Frag} {C B : Addr}
theorem one_cls {t c : Value} (h : PySem.W.kitCls K t c = some true) : PySem.W.kitOne K t c = some true := by
  unfold PySem.W.kitOne
  split
  · rfl
  · exact h
theorem cls_ref {t : Value} (h2 : PySem.W.isClsIn K B = true) (h3 : PySem.W.typeIn K (.ref B) = some (.type "type")) (h4 : PySem.W.subIn K t (.ref B) = some true) : PySem.W.kitCls K t (.ref B) = some true := by
  have e2 : ((PySem.W.clsIn K B).isSome && PySem.W.typeIn K (.ref B) == some (.type "type")) = true := by
    rw [show (PySem.W.clsIn K B).isSome = true from h2, h3]
    rfl
  show (if ((PySem.W.clsIn K B).isSome && PySem.W.typeIn K (.ref B) == some (.type "type")) = true then PySem.W.subIn K t (.ref B) else none) = some true
  rw [if_pos e2, h4]
theorem cls_ty {t : Value} {T : String} (h : PySem.W.kitMeta T = true) (h4 : PySem.W.subIn K t (.type T) = some true) : PySem.W.kitCls K t (.type T) = some true := by
  show (if PySem.W.kitMeta T = true then PySem.W.subIn K t (.type T) else none) = some true
  rw [if_pos h, h4]
/-- except names its own class -/
theorem exm_own {cls : Value} (h1 : PySem.W.subIn K cls (.type "BaseException") = some true) (h0 : PySem.W.subIn K (.ref B) (.type "BaseException") = some true) (h2 : PySem.W.isClsIn K B = true) (h3 : PySem.W.typeIn K (.ref B) = some (.type "type")) (h4 : PySem.W.subIn K cls (.ref B) = some true) : PySem.W.exmOne K cls (.ref B) = some true := by
  have e1 : (PySem.W.subIn K (.ref B) (.type "BaseException") == some true) = true := by rw [h0]; rfl
  have e2 : ((PySem.W.clsIn K B).isSome && PySem.W.typeIn K (.ref B) == some (.type "type")) = true := by
    rw [show (PySem.W.clsIn K B).isSome = true from h2, h3]
    rfl
  show (if (PySem.W.subIn K (.ref B) (.type "BaseException") == some true) = true then (if ((PySem.W.clsIn K B).isSome && PySem.W.typeIn K (.ref B) == some (.type "type")) = true then PySem.W.subIn K cls (.ref B) else none) else none) = some true
  rw [if_pos e1, if_pos e2]
  exact h4
end
end Qz
namespace Qz
open PySem PySem.Spec L2
open PyProof.Rows hiding St
/-! ## a dict is no text -/
theorem str_no_dict (b : Str) (u : Tok) (l : Addr) (c : Value) (es : Array DictEntry) (n : Nat) (dd : Option Addr) (sl : Array (Option Value)) :
    Meets (Builtin.«str.__eq__» { pos := [Value.str b u, Value.ref l] }) fun _ R s => s.heap.get? l = some { cls := c, dict := dd, data := .dict es n, slots := sl } ∧ R (.ok (.ret .notImplemented)) s := by
  refine Meets.of_wp fun prog w A R s h => ?_
  obtain ⟨hp, g, d, tk, os⟩ := s
  obtain ⟨hl, h⟩ := h
  refine wpAny_bind ?_
  repeat first
    | refine wpAny_ite_false rfl ?_
    | refine wpAny_pure ?_
    | refine wpAny_bind ?_
    | refine wpAny_load hl ?_
  exact wpAny_rule (wpAny_pure ⟨_, rfl, h⟩)
theorem dict_no_str (b : Str) (u : Tok) (l : Addr) (es : Array DictEntry) (n : Nat) (dd : Option Addr) (sl : Array (Option Value)) :
    Meets (Builtin.«dict.__eq__» { pos := [Value.ref l, Value.str b u] }) fun _ R s => s.heap.get? l = some { cls := .type "dict", dict := dd, data := .dict es n, slots := sl } ∧ R (.ok (.ret .notImplemented)) s := by
  refine Meets.of_wp fun prog w A R s h => ?_
  obtain ⟨hp, g, d, tk, os⟩ := s
  obtain ⟨hl, h⟩ := h
  have f1 := F.sub_str_dict
  refine wpAny_bind ?_
  repeat first
    | refine wpAny_ite_false rfl ?_
    | refine wpAny_pure ?_
    | refine wpAny_bind ?_
    | refine wpAny_of_eq f1 ?_
  exact wpAny_rule (wpAny_pure ⟨_, rfl, h⟩)
theorem dict_str {A : Around} {s : Shared} {l : Addr} {es : Array DictEntry} {n : Nat} {dd : Option Addr} {sl : Array (Option Value)} (b : Str) (u : Tok) (ho : s.heap.get? l = some { cls := .type "dict", dict := dd, data := .dict es n, slots := sl }) (hu : A.units < cLine) : SeqAt.EqAt A s (.str b u) (.ref l) false := by
  have rc : SeqAt.RcAt A s (.str b u) (.ref l) false := fun prog w E Q h =>
    SeqAt.rc_eq_decline_or (typeIs_str s b u) ⟨_, ho, rfl⟩ (by decide) F.sub_dict_str F.slot_str_eq F.slot_dict_eq_refl
      (fun x hq => call_meets F.slot_str_eq (typeIs_str s b u) F.entry_str_eq (F.args_str_eq_2 (.str b u) (.ref l)) (str_no_dict b u l _ es n dd sl) ⟨ho, hq⟩)
      (fun x hq => call_meets F.slot_dict_eq_refl ⟨_, ho, rfl⟩ F.entry_dict_eq (F.args_dict_eq_2 (.ref l) (.str b u)) (dict_no_str b u l es n dd sl) ⟨ho, hq⟩)
      (fun x hq => wpAny_of_eq rfl hq) (.inr hu) h
  exact fun prog w E Q h => wpAny_holding (wpAny_ite_split (fun hab => absurd (eq_of_beq hab) fun a => nomatch a) fun x => wpAny_bind (rc prog w E (fun a s' => wpAny (model prog w) A (truthOfDropped a) Q E s') (wpAny_truthy_bool h)))
/-! ## in a tuple of texts of the module: a dict is not there -/
def dInX (ws : List Str) (x : D) : Option R := match x with
  | .dict _ => some (.d (.bool false))
  | x => dInK ws x
def dNinX (ws : List Str) (x : D) : Option R := match x with
  | .dict _ => some (.d (.bool true))
  | x => dNinK ws x
def isDk (H : Hp) (x : V) : Prop := ∃ a ys, x = .ref a ∧ H a = some (.dK ys)
def rInX (K : PySem.W.Frag) : R2 := fun x y H Q => rInS K x y H Q ∨ (isDk H x ∧ (∃ b, ∃ ws : List Str, y = .ref b ∧ SqT K H b (ws.map V.str)) ∧ Q (.bl false) H)
def rNinX (K : PySem.W.Frag) : R2 := fun x y H Q => rNinS K x y H Q ∨ (isDk H x ∧ (∃ b, ∃ ws : List Str, y = .ref b ∧ SqT K H b (ws.map V.str)) ∧ Q (.bl true) H)
section
variable {X : Cx}
theorem strs_of : ∀ {ws : List Str} {its : List Value}, Vals (ws.map V.str) its → ∀ y ∈ its, ∃ b u, y = .str b u
  | [], _, h, y, hy => by cases h; simp at hy
  | w :: ws, _, h, y, hy => by
    cases h with
    | cons h1 h2 =>
      rcases List.mem_cons.mp hy with rfl | hy
      · obtain ⟨t, e⟩ := h1
        exact ⟨w, t, e⟩
      · exact strs_of h2 y hy
theorem noDict {pins : List (Addr × Obj)} {s : Shared} {σ : St} {H : Hp} {A : Around} (I : L2.Inv X pins σ H s) {a b : Addr} {ys : List (Key × V)} {ws : List Str} (ha : H a = some (.dK ys)) (hb : SqT X.K H b (ws.map V.str)) (hu : A.units + 65 < cLine) :
    ∃ its : Array Value, s.heap.IsTuple b its ∧ ∀ y ∈ its, SeqAt.EqAt A s y (.ref a) false := by
  obtain ⟨its, rv, p, hz⟩ := I.tuple hb
  refine ⟨its.toArray, p, fun y hy => ?_⟩
  obtain ⟨t, u, rfl⟩ := strs_of rv y (by simpa using hy)
  obtain ⟨_, hne, vs, kv, o, es, ep, ho, hex, hd, _⟩ := dk_of I.hok ha
  obtain ⟨cls, dict, data, slots⟩ := o
  obtain rfl : cls = .type "dict" := hex.1
  obtain rfl : data = .dict es ep := hd
  exact dict_str t u ho (by omega)
theorem any_false {its : Array Value} : (its.any fun _ => false) = false := by simp
theorem op_inX (hu : X.A.units + 66 < cLine) (hu1 : X.A.in1.units + 65 < cLine) : OpR X (compareOp .In) (rInX X.K) := by
  rintro pins s σ H x y v u Q I rx ry (h | ⟨⟨a, ys, rfl, ha⟩, ⟨b, ws, rfl, hb⟩, q⟩)
  · exact op_inS (by omega) pins s σ H x y v u Q I rx ry h
  · obtain rfl : v = .ref a := rx
    obtain rfl : u = .ref b := ry
    obtain ⟨its, p, e⟩ := noDict (A := X.A.in1) I ha hb hu1
    refine SeqAt.in_tupleAt (fun _ => false) p e ?_
    rw [any_false]
    exact ⟨.bl _, H, I, rfl, q⟩
theorem op_ninX (hu : X.A.units + 66 < cLine) (hu1 : X.A.in1.units + 65 < cLine) : OpR X (compareOp .NotIn) (rNinX X.K) := by
  rintro pins s σ H x y v u Q I rx ry (h | ⟨⟨a, ys, rfl, ha⟩, ⟨b, ws, rfl, hb⟩, q⟩)
  · exact op_ninS (by omega) pins s σ H x y v u Q I rx ry h
  · obtain rfl : v = .ref a := rx
    obtain rfl : u = .ref b := ry
    obtain ⟨its, p, e⟩ := noDict (A := X.A.in1) I ha hb hu1
    refine SeqAt.notIn_tupleAt (fun _ => false) p e ?_
    rw [any_false]
    exact ⟨.bl _, H, I, rfl, q⟩
end
section
variable {K : PySem.W.Frag} {a : Addr} {ws : List Str} {t1 : TE} {m1 : ME}
theorem Vw.dk {F H : Hp} {x : D} {u : V} {kvs : List (D × D)} (sub : Same F H) (h : Vw K F H (.dict kvs) u) : isDk H u := by
  rcases h with h | ⟨a, xs, ds, e, _⟩ | ⟨a, ys, kvs', e, rfl, h1, _⟩
  · simp only [Rep] at h
    obtain ⟨a, xs, rfl, h1, _⟩ := h
    exact ⟨a, xs, rfl, sub _ _ h1⟩
  · cases e
  · exact ⟨a, ys, rfl, h1⟩
theorem inX_snd (hq : ∀ H, SqT K H a (ws.map V.str)) (s1 : SndE K t1 m1) : SndE K (tOp (rInX K) t1 (tC (.ref a))) (mUn (dInX ws) m1) := by
  intro σ H w s t Q r s' ok e k
  simp only [mUn] at e
  split at e
  · cases e
  · rename_i r1 sa e1
    split at e
    · cases e
    · rename_i y e2
      split at e
      · cases e
      · rename_i r' e3
        cases e
        refine s1 σ H w s t _ r1 _ ok e1 fun w1 H1 u t1' τ1 a1 a2 ok1 st1 sl1 rel1 => ?_
        have hy := RelR.view ok1 rel1 e2
        unfold dInX at e3
        split at e3
        · cases e3
          refine .inr ⟨Vw.dk (x := .none) ok1.sub hy, ⟨a, ws, rfl, hq H1⟩, ?_⟩
          exact k w1 H1 _ t1' τ1 a1 a2 ok1 st1 sl1 (by simp only [RelR, Rep])
        · unfold dInK dInS at e3
          split at e3
          · rename_i hc
            simp only [eqOk, Bool.and_eq_true, Bool.not_eq_true'] at hc
            obtain ⟨⟨⟨q1, q2⟩, q3⟩, q4⟩ := hc
            cases e3
            refine .inl ⟨_, _, _, hy.dp ok1.sub q1, .tup (hq H1) (dpAll_strs ws), .inr rfl, q3, q4, ?_⟩
            exact k w1 H1 _ t1' τ1 a1 a2 ok1 st1 sl1 (by simp only [RelR, Rep])
          · cases e3
theorem ninX_snd (hq : ∀ H, SqT K H a (ws.map V.str)) (s1 : SndE K t1 m1) : SndE K (tOp (rNinX K) t1 (tC (.ref a))) (mUn (dNinX ws) m1) := by
  intro σ H w s t Q r s' ok e k
  simp only [mUn] at e
  split at e
  · cases e
  · rename_i r1 sa e1
    split at e
    · cases e
    · rename_i y e2
      split at e
      · cases e
      · rename_i r' e3
        cases e
        refine s1 σ H w s t _ r1 _ ok e1 fun w1 H1 u t1' τ1 a1 a2 ok1 st1 sl1 rel1 => ?_
        have hy := RelR.view ok1 rel1 e2
        unfold dNinX at e3
        split at e3
        · cases e3
          refine .inr ⟨Vw.dk (x := .none) ok1.sub hy, ⟨a, ws, rfl, hq H1⟩, ?_⟩
          exact k w1 H1 _ t1' τ1 a1 a2 ok1 st1 sl1 (by simp only [RelR, Rep])
        · unfold dNinK dNinS at e3
          split at e3
          · rename_i hc
            simp only [eqOk, Bool.and_eq_true, Bool.not_eq_true'] at hc
            obtain ⟨⟨⟨q1, q2⟩, q3⟩, q4⟩ := hc
            cases e3
            refine .inl ⟨_, _, _, hy.dp ok1.sub q1, .tup (hq H1) (dpAll_strs ws), .inr rfl, q3, q4, ?_⟩
            exact k w1 H1 _ t1' τ1 a1 a2 ok1 st1 sl1 (by simp only [RelR, Rep])
          · cases e3
end
section
variable {X : Cx} {i : Expr} {m1 : ME} {x : Str} {ws : List Str} {p pos : Pos} {n : Nat}
theorem o_inX (h : Here X n) : OpR X (compareOp .In) (rInX X.K) := op_inX (by have := h.un; omega) (by have := h.un; show X.A.units + 1 + 65 < cLine; omega)
theorem o_ninX (h : Here X n) : OpR X (compareOp .NotIn) (rNinX X.K) := op_ninX (by have := h.un; omega) (by have := h.un; show X.A.units + 1 + 65 < cLine; omega)
theorem re_inX (hr : Here X n) (ht : ModT X.K X.mg x ws) (ha : RE X i m1) (hg : Gl X x := by rfl) (hd : (x == ("__debug__" : Str)) = false := by decide) (hb : behindInMarks .In (.Name x p) = false := by rfl) : RE X (.Compare i [.In] [.Name x p] pos) (mUn (dInX ws) m1) := by
  obtain ⟨a, h1, h2⟩ := ht.at
  obtain ⟨t1, p1, s1⟩ := ha
  exact ⟨_, pe_cmpR (o_inX hr) p1 (pe_glob (v := .ref a) hg h1 rfl hd) hb, inX_snd h2 s1⟩
theorem re_ninX (hr : Here X n) (ht : ModT X.K X.mg x ws) (ha : RE X i m1) (hg : Gl X x := by rfl) (hd : (x == ("__debug__" : Str)) = false := by decide) (hb : behindInMarks .NotIn (.Name x p) = false := by rfl) : RE X (.Compare i [.NotIn] [.Name x p] pos) (mUn (dNinX ws) m1) := by
  obtain ⟨a, h1, h2⟩ := ht.at
  obtain ⟨t1, p1, s1⟩ := ha
  exact ⟨_, pe_cmpR (o_ninX hr) p1 (pe_glob (v := .ref a) hg h1 rfl hd) hb, ninX_snd h2 s1⟩
theorem rt_inX (hr : Here X n) (ht : ModT X.K X.mg x ws) (ha : RE X i m1) (hg : Gl X x := by rfl) (hd : (x == ("__debug__" : Str)) = false := by decide) (hb : behindInMarks .In (.Name x p) = false := by rfl) : RT X (.Compare i [.In] [.Name x p] pos) (mB (mUn (dInX ws) m1)) := by
  obtain ⟨a, h1, h2⟩ := ht.at
  obtain ⟨t1, p1, s1⟩ := ha
  exact ⟨_, pt_cmpR (o_inX hr) p1 (pe_glob (v := .ref a) hg h1 rfl hd) hb, b_ok (inX_snd h2 s1)⟩
theorem rt_ninX (hr : Here X n) (ht : ModT X.K X.mg x ws) (ha : RE X i m1) (hg : Gl X x := by rfl) (hd : (x == ("__debug__" : Str)) = false := by decide) (hb : behindInMarks .NotIn (.Name x p) = false := by rfl) : RT X (.Compare i [.NotIn] [.Name x p] pos) (mB (mUn (dNinX ws) m1)) := by
  obtain ⟨a, h1, h2⟩ := ht.at
  obtain ⟨t1, p1, s1⟩ := ha
  exact ⟨_, pt_cmpR (o_ninX hr) p1 (pe_glob (v := .ref a) hg h1 rfl hd) hb, b_ok (ninX_snd h2 s1)⟩
end
end Qz
namespace Qz
open PySem PySem.Spec L2
open PyProof.Rows hiding St
/-! ## slices of texts -/
def dCutS (x : D) (lo hi : Option Int) : Option R := match x with
  | .str z => if z.length ≤ sizeLine then some (.d (.str (cutS z lo hi))) else none
  | _ => none
def mCutS (m : ME) (lo hi : Option ME) : ME := fun s => match m s with
  | .no => .no
  | .ok r s1 => match mPart lo s1 with
    | .no => .no
    | .ok l s2 => match mPart hi s2 with
      | .no => .no
      | .ok h s3 => match view s3 r with
        | none => .no
        | some x => match dCutS x l h with
          | none => .no
          | some r' => .ok r' s3
section
variable {X : Cx} {a : Expr} {m1 : ME} {pos : Pos}
theorem re_cutS {lo hi : Option Expr} {ml mh : Option ME} {p2 : Pos} (he : RE X a m1) (hl : RO X lo ml) (hh : RO X hi mh) : RE X (.Subscript a (.Slice lo hi none p2) pos) (mCutS m1 ml mh) := by
  obtain ⟨t1, p1, h1⟩ := he
  obtain ⟨tl, pl, h2⟩ := hl
  obtain ⟨th, ph, h3⟩ := hh
  refine ⟨_, pe_slice sl_str p1 pl ph, fun σ H w s t Q r s' ok e k => ?_⟩
  simp only [mCutS] at e
  split at e
  · cases e
  · rename_i r1 s1 e1
    split at e
    · cases e
    · rename_i l s2 e2
      split at e
      · cases e
      · rename_i hv s3 e3
        split at e
        · cases e
        · rename_i x e4
          split at e
          · cases e
          · rename_i r' e5
            cases e
            refine h1 σ H w s t _ r1 s1 ok e1 fun w1 H1 u t1 τ1 a1 a2 ok1 st1 sl1 rel1 => ?_
            refine h2 σ H1 w1 s1 t1 _ l s2 ok1 e2 fun w2 H2 t2 b1 ok2 st2 sl2 => ?_
            refine h3 σ H2 w2 s2 t2 _ hv _ ok2 e3 fun w3 H3 t3 c1 ok3 st3 sl3 => ?_
            have l1 := ok.slen ok1
            have l2 := ok1.slen ok2
            have l3 := ok.slen ok3
            have tN := ok.tN
            rw [l2] at st3
            have st23 := st2.trans (st3.mono b1)
            have rel1' := RelR.keep ok1 rel1 st23 (by omega) (by omega) (sl2.trans sl3)
            have vw := RelR.view ok3 rel1' e4
            rw [l1] at st23
            have st := st1.trans (st23.mono (by omega))
            have sl := sl1.trans (sl2.trans sl3)
            unfold dCutS at e5
            split at e5
            · rename_i z
              split at e5
              · rename_i hz
                cases e5
                exact ⟨z, vw.str, hz, k w3 H3 _ (t3 + 1) t3 (by omega) (Nat.lt_succ_self _) (ok3.up (Nat.le_succ _)) st sl (by simp only [RelR, Rep])⟩
              · cases e5
            · cases e5
end
end Qz
namespace Qz
open PySem PySem.Spec L2
open PyProof.Rows hiding St
/-! ## what is done with a call that may raise -/
section
variable {X : Cx} {W : WX} {e a b : Expr} {es : List Expr} {ms : MA} {m1 m2 : ME} {mx : XM} {x : Str} {p pos : Pos} {id : String} {rd : List V → Hp → VK → Prop} {f : List D → Option R}
theorem xe_blt (hc : CallR X (.builtin id) rd) (hf : BltS X.K rd f) (hm : X.mg x = none) (hv : bootBuiltins x = some (.builtin id)) (ha : RAX X W (e :: es) ms mx) (hg : Gl X x := by rfl) (hn : x ≠ "__name__" := by decide) (hdb : (x == ("__debug__" : Str)) = false := by decide)
    (he : starEach (e :: es) X.env = (false, eval e X.env) :: starEach es X.env := by rfl) (hpl : (backTo pos (starEach es X.env)).any (·.1) = false := by rfl) : REX X W (.Call (.Name x p) (e :: es) [] pos) (mBlt f ms) mx := by
  obtain ⟨ta, p1, s1, x1⟩ := ha
  exact ⟨_, pe_callB hc hg hm hv p1 hn hdb he hpl, blt_snd s1 hf, fun σ H w s t Q y s' ok e k => x1 σ H w s t _ y s' ok e k⟩
theorem xe_len (hm : X.mg "len" = none) (ha : RAX X W [e] ms mx) (hg : Gl X "len" := by rfl) (he : starEach [e] X.env = (false, eval e X.env) :: starEach [] X.env := by rfl) : REX X W (.Call (.Name "len" p) [e] [] pos) (mBlt fLen ms) mx := xe_blt c_len s_len hm PySem.boot_len ha hg (by decide) (by decide) he rfl
/-- a comparison whose first side may raise -/
theorem xe_cmp {op : CmpOp} {r2 : R2} {g : D → D → Option R} (ho : OpR X (compareOp op) r2) (hf : OpS X.K r2 g) (ha : REX X W a m1 mx) (hb : RE X b m2) (hm : behindInMarks op b = false) : REX X W (.Compare a [op] [b] pos) (mOp g m1 m2) mx := by
  obtain ⟨t1, p1, h1, x1⟩ := ha
  obtain ⟨t2, p2, h2⟩ := hb
  exact ⟨_, pe_cmpR ho p1 p2 hm, op2_ok h1 h2 hf, fun σ H w s t Q y s' ok e k => x1 σ H w s t _ y s' ok e k⟩
end
end Qz
namespace Qz
open PySem PySem.Spec L2
open PyProof.Rows hiding St
/-! ## a number is added to a name, or taken off it -/
def mAug (f : Int → Int → Int) (i : Nat) (m : ME) : MS := fun s => match s.a[i]? with
  | some (some (.d (.int x))) => match m s with
    | .ok (.d (.int y)) s1 => match s1.a[i]? with
      | some (some (.d (.int x'))) => if x' = x then match store i s1 (.d (.int (f x y))) with
        | some s2 => .ok .nx s2
        | none => .no else .no
      | _ => .no
    | _ => .no
  | _ => .no
section
variable {X : Cx} {e : Expr} {m : ME} {pos pos' : Pos}
theorem rs_augI {op : Operator} {f : Int → Int → Int} {i : Nat} {x : Str} (hp : PIp X op (ipI f)) (hN : X.N.Nodup) (hi : X.N[i]? = some x) (hx : Loc X.env.scope x) (he : RE X e m) (hf : X.fn x = true ∨ X.env.scope.names.lookup x = some .local) : RS X (.AugAssign (.Name x pos') op e pos) (mAug f i m) := by
  obtain ⟨t1, p1, s1⟩ := he
  refine ⟨_, ps_aug hN hi hx p1 hp hf, fun σ H w s D fl s' ok e k => ?_⟩
  simp only [mAug] at e
  split at e
  · rename_i a ea
    split at e
    · rename_i b sa e1
      split at e
      · rename_i a' ea'
        split at e
        · rename_i haa
          split at e
          · rename_i s2 e2
            cases e
            have il := (List.getElem?_eq_some_iff.mp ea).1
            obtain ⟨v, hv⟩ : ∃ v, σ[i]? = some v := ⟨σ[i]'(by rw [ok.len]; exact il), by simp [ok.len, il]⟩
            obtain ⟨u, rfl, r⟩ := ok.sl i _ _ ea hv
            simp only [Rep] at r
            subst r
            refine ⟨_, hv, s1 σ H w s _ _ _ sa ok e1 fun w1 H1 y t' τ a1 a2 ok1 st1 sl1 rel1 => ?_⟩
            simp only [RelR, Rep] at rel1
            subst rel1
            have hl := ok.slen ok1
            have rel2 : RelR X.K w1 H1 σ sa τ (.d (.int (f a b))) (.int (f a b)) := by simp only [RelR, Rep]
            obtain ⟨w2, ok2, l2, st2⟩ := store_fin ok1 hl a1 rel2 e2
            exact ⟨a, b, rfl, rfl, k.nx rfl _ w2 H1 ok2 l2 (st1.trans st2)⟩
          · cases e
        · cases e
      · cases e
    · cases e
  · cases e
theorem rs_addI {i : Nat} {x : Str} (hN : X.N.Nodup) (hi : X.N[i]? = some x) (hx : Loc X.env.scope x) (he : RE X e m) (hf : X.fn x = true ∨ X.env.scope.names.lookup x = some .local) : RS X (.AugAssign (.Name x pos') .Add e pos) (mAug (fun a b => a + b) i m) := rs_augI ip_add hN hi hx he hf
theorem rs_subI {i : Nat} {x : Str} (hN : X.N.Nodup) (hi : X.N[i]? = some x) (hx : Loc X.env.scope x) (he : RE X e m) (hf : X.fn x = true ∨ X.env.scope.names.lookup x = some .local) : RS X (.AugAssign (.Name x pos') .Sub e pos) (mAug (fun a b => a - b) i m) := rs_augI ip_sub hN hi hx he hf
end
end Qz
namespace Qz
open PySem PySem.Spec L2
open PyProof.Rows hiding St
/-! ## == with a constant of the module that is a tuple of data -/
/-- the name stands for data that the module made -/
def ModD (K : PySem.W.Frag) (mg : Str → Option Value) (x : Str) (d : D) : Prop := ∃ a : Addr, mg x = some (.ref a) ∧ ∀ H, Dp K H (.ref a) d
def dEqK (c : D) (x : D) : Option R := dEq x c
def dNeK (c : D) (x : D) : Option R := dNe x c
section
variable {K : PySem.W.Frag} {a : Addr} {c : D} {t1 : TE} {m1 : ME}
theorem eqK_snd (hq : ∀ H, Dp K H (.ref a) c) (s1 : SndE K t1 m1) : SndE K (tOp (rEqD K) t1 (tC (.ref a))) (mUn (dEqK c) m1) := by
  intro σ H w s t Q r s' ok e k
  simp only [mUn] at e
  split at e
  · cases e
  · rename_i r1 sa e1
    split at e
    · cases e
    · rename_i y e2
      split at e
      · cases e
      · rename_i r' e3
        cases e
        refine s1 σ H w s t _ r1 _ ok e1 fun w1 H1 u t1' τ1 a1 a2 ok1 st1 sl1 rel1 => ?_
        have hy := RelR.view ok1 rel1 e2
        unfold dEqK dEq at e3
        split at e3
        · rename_i hc
          simp only [eqOk, Bool.and_eq_true, Bool.not_eq_true'] at hc
          obtain ⟨⟨⟨q1, q2⟩, q3⟩, q4⟩ := hc
          cases e3
          exact ⟨y, c, hy.dp ok1.sub q1, hq H1, q3, q4, k w1 H1 _ t1' τ1 a1 a2 ok1 st1 sl1 (by simp only [RelR, Rep])⟩
        · cases e3
theorem neK_snd (hq : ∀ H, Dp K H (.ref a) c) (s1 : SndE K t1 m1) : SndE K (tOp (rNeD K) t1 (tC (.ref a))) (mUn (dNeK c) m1) := by
  intro σ H w s t Q r s' ok e k
  simp only [mUn] at e
  split at e
  · cases e
  · rename_i r1 sa e1
    split at e
    · cases e
    · rename_i y e2
      split at e
      · cases e
      · rename_i r' e3
        cases e
        refine s1 σ H w s t _ r1 _ ok e1 fun w1 H1 u t1' τ1 a1 a2 ok1 st1 sl1 rel1 => ?_
        have hy := RelR.view ok1 rel1 e2
        unfold dNeK dNe at e3
        split at e3
        · rename_i hc
          simp only [eqOk, Bool.and_eq_true, Bool.not_eq_true'] at hc
          obtain ⟨⟨⟨q1, q2⟩, q3⟩, q4⟩ := hc
          cases e3
          exact ⟨y, c, hy.dp ok1.sub q1, hq H1, q3, q4, k w1 H1 _ t1' τ1 a1 a2 ok1 st1 sl1 (by simp only [RelR, Rep])⟩
        · cases e3
end
section
variable {X : Cx} {i : Expr} {m1 : ME} {x : Str} {c : D} {p pos : Pos} {n : Nat}
theorem re_eqK (hr : Here X n) (ht : ModD X.K X.mg x c) (ha : RE X i m1) (hg : Gl X x := by rfl) (hd : (x == ("__debug__" : Str)) = false := by decide) (hb : behindInMarks .Eq (.Name x p) = false := by rfl) : RE X (.Compare i [.Eq] [.Name x p] pos) (mUn (dEqK c) m1) := by
  obtain ⟨a, h1, h2⟩ := ht
  obtain ⟨t1, p1, s1⟩ := ha
  exact ⟨_, pe_cmpR (o_eqq hr) p1 (pe_glob (v := .ref a) hg h1 rfl hd) hb, eqK_snd h2 s1⟩
theorem re_neK (hr : Here X n) (ht : ModD X.K X.mg x c) (ha : RE X i m1) (hg : Gl X x := by rfl) (hd : (x == ("__debug__" : Str)) = false := by decide) (hb : behindInMarks .NotEq (.Name x p) = false := by rfl) : RE X (.Compare i [.NotEq] [.Name x p] pos) (mUn (dNeK c) m1) := by
  obtain ⟨a, h1, h2⟩ := ht
  obtain ⟨t1, p1, s1⟩ := ha
  exact ⟨_, pe_cmpR (o_neq hr) p1 (pe_glob (v := .ref a) hg h1 rfl hd) hb, neK_snd h2 s1⟩
theorem rt_eqK (hr : Here X n) (ht : ModD X.K X.mg x c) (ha : RE X i m1) (hg : Gl X x := by rfl) (hd : (x == ("__debug__" : Str)) = false := by decide) (hb : behindInMarks .Eq (.Name x p) = false := by rfl) : RT X (.Compare i [.Eq] [.Name x p] pos) (mB (mUn (dEqK c) m1)) := by
  obtain ⟨a, h1, h2⟩ := ht
  obtain ⟨t1, p1, s1⟩ := ha
  exact ⟨_, pt_cmpR (o_eqq hr) p1 (pe_glob (v := .ref a) hg h1 rfl hd) hb, b_ok (eqK_snd h2 s1)⟩
theorem rt_neK (hr : Here X n) (ht : ModD X.K X.mg x c) (ha : RE X i m1) (hg : Gl X x := by rfl) (hd : (x == ("__debug__" : Str)) = false := by decide) (hb : behindInMarks .NotEq (.Name x p) = false := by rfl) : RT X (.Compare i [.NotEq] [.Name x p] pos) (mB (mUn (dNeK c) m1)) := by
  obtain ⟨a, h1, h2⟩ := ht
  obtain ⟨t1, p1, s1⟩ := ha
  exact ⟨_, pt_cmpR (o_neq hr) p1 (pe_glob (v := .ref a) hg h1 rfl hd) hb, b_ok (neK_snd h2 s1)⟩
end
/-- a tuple of the module, at a -/
theorem dp_mod {K : PySem.W.Frag} {a : Addr} {od : Option Addr} {its : Array Value} {n : Nat} {sl : Array (Option Value)} {xs : List V} {ds : List D} (h : K.lookup a = some ⟨.type "tuple", od, .seq its n, sl⟩) (hs : its.size ≤ sizeLine) (hv : Vals xs its.toList) (hd : ∀ H, DpAll K H xs ds) :
    ∀ H, Dp K H (.ref a) (.tuple ds) := fun H => .tup (.inr ⟨_, its, n, h, rfl, rfl, hs, hv⟩) (hd H)
end Qz
namespace Qz
open PySem PySem.Spec L2
open PyProof.Rows hiding St
/-! ## min(..) of a list of alike data -/
section
variable {prog : Program} {w : World} {A : Around} {E : Value → Shared → Prop} {s : Shared}
theorem min_at {l : Addr} {vs : Array Value} {d : D} {ds : List D} {as : List Addr} {Q : Value → Shared → Prop} (hh : A.handled = none) (hl : s.heap.IsList l vs) (rd : ReadsAll s.heap vs.toList (d :: ds) as)
    (al : PySem.W.AlikeAll (d :: ds)) (room : A.units + 1 + PyData.depthAll (d :: ds) < cLine)
    (q : ∀ (i : Nat) (v : Value) h' tk, vs[i]? = some v → (d :: ds)[i]? = some (PySem.W.minD d ds) → (∀ b o, s.heap.get? b = some o → h'.get? b = some o) → Q v { s with heap := h', toks := tk }) :
    wpAny (model prog w) A (call (.builtin "min") [.ref l]) Q E s := by
  have len : vs.size = ds.length + 1 := PySem.W.readsAll_len rd
  refine PySem.call_min_walkH (PySem.W.iter_listW (A := A.in1) hh hl fun s2 es W st0 fpb new old => ?_)
  refine ⟨_, _, _, _, _, _, _, s.heap, _, rfl, W, st0, fpb, by rw [len]; exact Nat.succ_pos _, new, old, PySem.W.cmpIn_lt (A := A.in1) rd al room, fun v s3 hv mv => ?_⟩
  obtain ⟨h', tk, rfl, keep⟩ := PySem.W.moved_old es rfl mv
  obtain ⟨b1, b2⟩ := PySem.W.argBest_fold PySem.W.dataLt PyData.none d ds ds.length (Nat.le_refl _)
  rw [List.take_length] at b2
  have e1 : vs.size - 1 = ds.length := by omega
  rw [e1] at hv
  refine q _ v h' tk hv ?_ keep
  unfold PySem.W.minD
  rw [← b2, List.getD_eq_getElem?_getD, List.getElem?_eq_getElem (by simp only [List.length_cons]; omega)]
  rfl
end
def rMinN (K : PySem.W.Frag) : List V → Hp → VK → Prop := fun vs H Q => ∃ (a : Addr) (xs : List V) (d : D) (ds : List D), vs = [V.ref a] ∧ SqL K H a xs ∧ DpAll K H xs (d :: ds) ∧ PySem.W.AlikeAll (d :: ds) ∧ (∀ e ∈ d :: ds, e.depth ≤ 60) ∧
  ∀ (i : Nat) (y : V), xs[i]? = some y → (d :: ds)[i]? = some (PySem.W.minD d ds) → Q y H
theorem depthAll_le {n : Nat} : ∀ ds : List D, (∀ e ∈ ds, e.depth ≤ n) → PyData.depthAll ds ≤ n
  | [], _ => by simp [PyData.depthAll]
  | d :: ds, h => by
    have := depthAll_le ds fun e he => h e (List.mem_cons_of_mem _ he)
    have := h d List.mem_cons_self
    simp only [PyData.depthAll]
    omega
theorem vals_at : ∀ {xs : List V} {us : List Value} {i : Nat} {u : Value}, Vals xs us → us[i]? = some u → ∃ x, xs[i]? = some x ∧ RelV x u
  | _, _, i, u, .nil, h => by simp at h
  | _, _, 0, u, .cons r rs, h => by
    obtain rfl := Option.some.inj h
    exact ⟨_, rfl, r⟩
  | _, _, i + 1, u, .cons r rs, h => by
    obtain ⟨x, h1, h2⟩ := vals_at rs (i := i) (by simpa using h)
    exact ⟨x, by simpa using h1, h2⟩
theorem cr_minN {X : Cx} {n : Nat} (hc : X.calm = true) (hr : Here X n) : CallR X (.builtin "min") (rMinN X.K) := by
  intro pins s σ H vs us Q I r h
  obtain ⟨a, xs, d, ds, rfl, hs, hd, hal, hdep, q⟩ := h
  obtain ⟨its, rv, hl, hz⟩ := I.list hs
  rw [Vals.ref1 r]
  obtain ⟨as, rd⟩ := Dp.readsAll I (d :: ds) xs its hd rv
  have hun := hr.un
  have hdd := depthAll_le (d :: ds) hdep
  refine min_at (vs := its.toArray) (I.ok.hd hc) hl.isList (by simpa using rd) hal (by omega) fun i v h' tk hv hm keep => ?_
  obtain ⟨y, hy, ry⟩ := vals_at (i := i) rv (by simpa using hv)
  exact ⟨y, H, I.kept keep, ry, q i y hy hm⟩
def fMinN : List D → Option R
  | [.list ds] => match fMinL [.list ds] with
    | some r => some r
    | none => match ds with
      | [] => none
      | d :: ds => if ((d :: ds).all fun x => (d :: ds).all fun y => PySem.W.alike x y) = true ∧ PyData.hasDictAll (d :: ds) = false ∧ ((d :: ds).all fun x => decide (x.depth ≤ 60)) = true ∧ ((d :: ds).all tupNE) = true then some (.d (PySem.W.minD d ds)) else none
  | _ => none
section
variable {K : PySem.W.Frag}
theorem s_minN : BltS K (fun us H Q => rMin K us H Q ∨ rMinN K us H Q) fMinN := by
  intro w H σ s t us xs r Q ok vw e k
  unfold fMinN at e
  split at e
  · rename_i ds
    split at e
    · rename_i r' e1
      cases e
      exact .inl (s_minL w H σ s t us _ r Q ok vw e1 k)
    · split at e
      · cases e
      · rename_i d ds _
        split at e
        · rename_i hc
          obtain ⟨c1, c2, c3, c4⟩ := hc
          cases e
          obtain ⟨u, rfl, v⟩ := vw.one
          obtain ⟨a, ys, rfl, h1, h2⟩ := v.lst ok.sub
          refine .inr ⟨a, ys, d, ds, rfl, h1, RepL.dp ok.sub _ ys h2 c2, ⟨fun x hx y hy => List.all_eq_true.mp (List.all_eq_true.mp c1 x hx) y hy, fun x hx => ?_⟩, fun x hx => of_decide_eq_true (List.all_eq_true.mp c3 x hx), fun i y hy hm => ?_⟩
          · obtain ⟨z, zs, rfl⟩ := tupNE_eq (List.all_eq_true.mp c4 x hx)
            simp
          · obtain ⟨x, hx, rx⟩ := RepL.getV _ _ i y h2 hy
            rw [hm] at hx
            cases hx
            exact s_d ok k rx
        · cases e
  · cases e
variable {X : Cx} {e : Expr} {ms : MA} {p pos : Pos} {n : Nat}
theorem re_minN (hr : Here X n) (hc : X.calm = true) (hm : X.mg "min" = none) (ha : RA X [e] ms) (hg : Gl X "min" := by rfl) (he : starEach [e] X.env = (false, eval e X.env) :: starEach [] X.env := by rfl) : RE X (.Call (.Name "min" p) [e] [] pos) (mBlt fMinN ms) :=
  re_blt ((cr_min hc).or (cr_minN hc hr)) s_minN hm (by decide +kernel) ha hg (by decide) (by decide) he rfl
end
/-! ## sorted(..) of a tuple of tuples -/
section
variable {prog : Program} {w : World} {A : Around} {E : Value → Shared → Prop} {s : Shared}
theorem collect_tup {l : Addr} {ob : Obj} {items : Array Value} {n : Nat} {Q : List Value → Shared → Prop} (ho : s.heap.get? l = some ob) (hc : ob.cls = .type "tuple") (hd : ob.data = .seq items n) (hz : items.size ≤ sizeLine)
    (q : ∀ h1 : Heap, (∀ b o, s.heap.get? b = some o → h1.get? b = some o) → s.heap.objs.size ≤ h1.objs.size → Q items.toList { s with heap := h1 }) : wpAny (model prog w) A (collect (.ref l)) Q E s := by
  obtain ⟨hp, ehp⟩ : ∃ hp : Heap, hp = s.heap.push { cls := .type "list", data := .seq ([] : List Value).toArray } := ⟨_, rfl⟩
  have e0 : hp.get? s.heap.objs.size = some { cls := .type "list", data := .seq #[] 0 } := by rw [ehp]; exact Heap.get?_push_size _ rfl
  have e1 : hp.get? l = some ob := by rw [ehp]; exact Heap.get?_push_of_some _ ho
  have e2 := Heap.get?_update_self (Obj.mapSeq (· ++ items)) e0 rfl
  have fin : ∀ v, v = Value.ref s.heap.objs.size → wpAny (model prog w) A (match v with
      | Value.ref a => do match (← load a).data with
          | Data.seq xs _ => pure xs.toList
          | _ => unsupported "internal:collect"
      | _ => unsupported "internal:collect") Q E { s with heap := hp.update s.heap.objs.size (Obj.mapSeq (· ++ items)) } := by
    rintro _ rfl
    refine wpAny_bind (wpAny_load e2 (wpAny_pure ?_))
    show Q ((#[] : Array Value) ++ items).toList _
    rw [show ((#[] : Array Value) ++ items).toList = items.toList by simp]
    refine q _ (fun b o hb => (Heap.get?_update_other _ _ (Nat.ne_of_gt (Heap.lt_size hb))).trans (by rw [ehp]; exact Heap.get?_push_of_some _ hb)) ?_
    rw [Heap.size_update, ehp, size_push']
    exact Nat.le_succ _
  unfold collect
  refine wpAny_bind (wpAny_runValue (codeAny_builtin PySem.F.entry_proto_collect ?_))
  rw [Around.under_plainId PySem.F.plain_proto_collect _]
  refine wpAny_bind (m := newList []) (wpAny_newObj_type ?_)
  refine wpAny_pure ⟨plainId_quiet PySem.F.plain_list_iadd _, codeAny_builtin PySem.F.entry_list_iadd ?_⟩
  rw [Around.under_plainId PySem.F.plain_list_iadd _]
  rw [← ehp]
  refine wpAny_mono (PySem.wpAny_extend_seq (s := { s with heap := hp }) (R := fun r s3 => r = .ok (.ret (.ref s.heap.objs.size)) ∧ s3 = { s with heap := hp.update s.heap.objs.size (Obj.mapSeq (· ++ items)) }) s.heap.objs.size l (.ref s.heap.objs.size) 0 (.inr rfl) e0 e1 hc hd ⟨rfl, rfl⟩ hz) (fun f s3 hf => ?_) fun x s3 hf => absurd hf.1 (by simp)
  cases f with
  | done f =>
    obtain ⟨q1, rfl⟩ := hf
    cases q1
    exact fin _ rfl
  | again c =>
    refine ⟨hf.1, codeAny_mono hf.2 fun r s4 hr => ?_⟩
    obtain ⟨rfl, rfl⟩ := hr
    exact fin _ rfl
theorem sortedT_vals {κ : Heap → PyProof.Rows.KeyKind} {l : Addr} {vs : List Value} {Q : Value → Shared → Prop} (hl : IsTup s.heap l vs.toArray) (hL : vs.length ≤ sizeLine)
    (S : ∀ h1 : Heap, (∀ b o, s.heap.get? b = some o → h1.get? b = some o) → PySem.W.SortsAt prog w A.in1.in1 { s with heap := h1 } (κ h1) vs)
    (q : ∀ (h1 h' : Heap) (p : Addr), (∀ b o, s.heap.get? b = some o → h1.get? b = some o) → (∀ b o, s.heap.get? b = some o → h'.get? b = some o) → s.heap.objs.size ≤ p → (∃ n, h'.get? p = some (seqObj "list" (PySem.W.sortVals (κ h1) false vs vs).toArray n)) → Q (.ref p) { s with heap := h' }) :
    wpAny (model prog w) A (call (.builtin "sorted") [.ref l]) Q E s := by
  obtain ⟨ob, ho, hc, n, hd⟩ := hl
  refine call_function_entry_kw kind_sorted plain_sorted entry_sorted (args_sorted1 _) ?_
  unfold Builtin.«sorted»
  refine wpAny_bind (m := checkCount "sorted" 1 1 _) (wpAny_pure ?_)
  refine wpAny_bind (collect_tup ho hc hd (by rw [List.size_toArray]; exact hL) fun h1 keep1 sz1 => ?_)
  refine wpAny_bind (wpAny_newList ?_ hL)
  have at2 : (h1.push (seqObj "list" vs.toArray 0)).get? h1.objs.size = some (seqObj "list" vs.toArray 0) := Heap.get?_push_size _ rfl
  have lt1 : ∀ b o, s.heap.get? b = some o → b < h1.objs.size := fun b o e => Heap.lt_size (keep1 b o e)
  have keep2 : ∀ b o, s.heap.get? b = some o → (h1.push (seqObj "list" vs.toArray 0)).get? b = some o := fun b o e => Heap.get?_push_of_some _ (keep1 b o e)
  refine wpAny_bind (wpAny_holding (wpAny_call_entry_kw slot_list_sort ⟨_, at2, rfl⟩ entry_list_sort ?body (args_list_sort _)))
  case body =>
    show wpAny (model prog w) A.in1.in1 (Builtin.«list.sort» ⟨[.ref h1.objs.size], []⟩) _ _ { s with heap := h1.push (seqObj "list" vs.toArray 0) }
    have keep3 : ∀ b o, s.heap.get? b = some o → (PySem.W.sortingHeap (h1.push (seqObj "list" vs.toArray 0)) h1.objs.size vs).get? b = some o := fun b o e => PySem.W.sortingHeap_old (Nat.ne_of_lt (lt1 b o e)) (keep2 b o e)
    refine PySem.W.list_sort_vals (s := { s with heap := h1.push (seqObj "list" vs.toArray 0) }) at2 (S _ keep3) hL ⟨_, rfl, wpAny_pure ⟨_, rfl, ?_⟩⟩
    refine q _ _ _ keep3 (fun b o e => ?_) ?_ (sortedHeap_at at2)
    · exact (sortedHeap_old (Nat.ne_of_lt (lt1 b o e)) (Nat.lt_trans (lt1 b o e) (Heap.lt_size at2))).trans (keep2 b o e)
    · exact sz1
end
def rSortedDT (K : PySem.W.Frag) : List V → Hp → VK → Prop := fun vs H Q => ∃ (a : Addr) (xs : List V) (ds : List D), vs = [V.ref a] ∧ SqT K H a xs ∧ DpAll K H xs ds ∧ PySem.W.AllAlike ds ∧ (∀ d, d ∈ ds → ∃ x r, d = .tuple (x :: r)) ∧ (∀ d, d ∈ ds → d.depth ≤ 60) ∧
  ∀ ys p, PySem.W.EachIs (fun y d => (y, d) ∈ xs.zip ds) ys (sortD ds) → H p = none → Q (.ref p) (upd H p (.lst ys))
theorem cr_sortedDT {X : Cx} {n : Nat} (hr : Here X n) : CallR X (.builtin "sorted") (rSortedDT X.K) := by
  intro pins s σ H vs us Q I r h
  obtain ⟨a, xs, ds, rfl, hs, hd, hal, ht, hdep, q⟩ := h
  obtain ⟨its, rv, hl, hz⟩ := I.tuple hs
  rw [Vals.ref1 r]
  obtain ⟨e1, e2⟩ := refs_back rv (dpAll_tup hd ht)
  have e0 := each_reads I hd rv
  have hun := hr.un
  have hlen : its.length ≤ sizeLine := by rw [← rv.length]; exact hz
  have hR : PySem.W.EachIs (fun (v : Value) d => (backV v, d) ∈ xs.zip ds) its ds := by
    refine PySem.W.EachIs.of_zip e0.length fun p hp => ?_
    rw [e1, List.zip_map_left]
    exact List.mem_map.mpr ⟨p, hp, rfl⟩
  have e3 : ∀ h1 : Heap, (∀ b o, s.heap.get? b = some o → h1.get? b = some o) → PySem.W.EachIs (fun u d => ∃ as, Reads h1 u d as) its ds := fun h1 keep => e0.mono fun v d ⟨as, h⟩ => ⟨as, PyProof.Rows.Reads.keeps keep h⟩
  refine sortedT_vals (κ := fun h1 => PySem.W.dataKind h1 ds) hl hlen (fun h1 keep => ?_) fun h1 h' p keep1 keep hp hn => ?_
  · refine PySem.W.SortsAt.data (s := { s with heap := h1 }) (e3 h1 keep) hal (.inl ht) fun d hd => ?_
    have := hdep d hd
    have hu2 : X.A.in1.in1.units ≤ X.A.units + 2 := by simp [Around.in1]
    omega
  · have hk := each_keys hal (e3 h1 keep1) fun d hd => hd
    have hS := PySem.W.sortVals_each (κ := PySem.W.dataKind h1 ds) (rev := false) PySem.W.keyToks hR hk
    generalize hout : PySem.W.sortVals (PySem.W.dataKind h1 ds) false its its = out at hS hn
    have hY : PySem.W.EachIs (fun y d => (y, d) ∈ xs.zip ds) (out.map backV) (sortD ds) := by
      have go : ∀ {us : List Value} {es : List D}, PySem.W.EachIs (fun (v : Value) d => (backV v, d) ∈ xs.zip ds) us es → PySem.W.EachIs (fun y d => (y, d) ∈ xs.zip ds) (us.map backV) es := fun h => by
        induction h with
        | nil => exact .nil
        | cons a _ ih => exact .cons a ih
      exact go hS
    have h3 : ∀ u ∈ out, ∃ a, u = Value.ref a := fun u hu => e2 u (PySem.W.sortVals_mem false (by rw [hout]; exact hu))
    have hlo : out.length = its.length := by rw [← hout]; exact PySem.W.sortVals_length false rfl
    obtain ⟨n, hn⟩ := hn
    refine ⟨.ref p, upd H p (.lst (out.map backV)), I.laid (t' := s.toks) keep hp ⟨?_, out, n, vals_back h3, hn⟩, rfl, q _ _ hY (I.hok.fresh hp)⟩
    rw [List.length_map, hlo]
    exact hlen
noncomputable def fSortedT : List D → Option R
  | [.tuple ds] => if ds.all tupNE = true ∧ (ds.all fun d => ds.all fun e => PySem.W.alike d e) = true ∧ PyData.hasDictAll ds = false ∧ (ds.all fun d => decide (d.depth ≤ 60)) = true then some (.o (.lst (sortD ds))) else none
  | xs => fSortedN xs
section
variable {K : PySem.W.Frag}
theorem s_sortedT : BltS K (fun us H Q => ((rSortedTI K us H Q ∨ rSortedI K us H Q) ∨ rSortedD K us H Q) ∨ rSortedDT K us H Q) fSortedT := by
  intro w H σ s t us xs r Q ok vw e k
  unfold fSortedT at e
  split at e
  · rename_i ds
    split at e
    · rename_i hc
      obtain ⟨c1, c2, c3, c4⟩ := hc
      cases e
      obtain ⟨u, rfl, v⟩ := vw.one
      have v' : ∃ a ys, u = .ref a ∧ SqT K H a ys ∧ RepL K w.F ds ys := by
        obtain ⟨a, ys, e, h1, h2⟩ := v.tup
        exact ⟨a, ys, e, SqT.of (ok.sub _ _ h1), h2⟩
      obtain ⟨a, ys, rfl, h1, h2⟩ := v'
      refine .inr ⟨a, ys, ds, rfl, h1, RepL.dp ok.sub ds ys h2 c3, fun d hd d' hd' => ?_, fun d hd => tupNE_eq (List.all_eq_true.mp c1 d hd), fun d hd => of_decide_eq_true (List.all_eq_true.mp c4 d hd), fun zs p hz hp => ?_⟩
      · exact List.all_eq_true.mp (List.all_eq_true.mp c2 d hd) d' hd'
      · refine k (w.give p t) _ _ (give_ok ok hp) (give_step ok hp) ?_
        exact ⟨p, zs, rfl, if_pos rfl, upd_same, repL_each (repL_zip ds ys h2) hz⟩
    · cases e
  · exact .inl (s_sortedN w H σ s t us _ r Q ok vw e k)
variable {X : Cx} {e : Expr} {ms : MA} {p pos : Pos} {n : Nat}
theorem re_sortedT (hr : Here X n) (hm : X.mg "sorted" = none) (ha : RA X [e] ms) (hg : Gl X "sorted" := by rfl) (he : starEach [e] X.env = (false, eval e X.env) :: starEach [] X.env := by rfl) : RE X (.Call (.Name "sorted" p) [e] [] pos) (mBlt fSortedT ms) :=
  re_blt (((cr_sortedTI.or cr_sortedI).or (cr_sortedD hr)).or (cr_sortedDT hr)) s_sortedT hm (by decide +kernel) ha hg (by decide) (by decide) he rfl
end
end Qz
namespace ZM
open PySem PySem.Spec PyProof.Rows L2
/-! ## zip of a list and a tuple: the inner ones by a flag (true: a list) -/
def ItB (f : Bool) (hp : Heap) (it l : Addr) (k : Nat) : Prop := cond f (hp.IsListIter it l k) (hp.IsTupleIter it l k)
def SqB (f : Bool) (hp : Heap) (l : Addr) (xs : Array Value) : Prop := cond f (hp.IsList l xs) (hp.IsTuple l xs)
section
variable {hp hq : Heap} {it l c : Addr} {k : Nat} {xs : Array Value}
theorem ItB.ob {f : Bool} (h : ItB f hp it l k) : ∃ ob vs, hp.get? it = some ob ∧ ob.data = .fields vs := by
  cases f with
  | true => obtain ⟨o, e, _, d⟩ := h; exact ⟨o, _, e, d⟩
  | false => obtain ⟨o, e, _, d⟩ := h; exact ⟨o, _, e, d⟩
theorem ItB.lt {f : Bool} (h : ItB f hp it l k) : it < hp.objs.size := by
  obtain ⟨o, _, e, _⟩ := h.ob
  exact Heap.lt_size e
theorem ItB.go {f : Bool} (h : ItB f hp it l k) (e : ∀ o, hp.get? it = some o → hq.get? it = some o) : ItB f hq it l k := by
  cases f with
  | true => exact Heap.IsListIter.at h e
  | false => exact Heap.IsTupleIter.at h e
theorem SqB.go {f : Bool} (h : SqB f hp l xs) (e : ∀ o, hp.get? l = some o → hq.get? l = some o) : SqB f hq l xs := by
  cases f with
  | true => exact Heap.IsList.at h e
  | false => exact Heap.IsTuple.at h e
end
section
variable {prog : Program} {w : World} {A : Around} {E : Value → Shared → Prop} {s : Shared}
theorem nx_item {f : Bool} {it l : Addr} {k : Nat} {xs : Array Value} {x : Value} {Q : Value → Shared → Prop} (hi : ItB f s.heap it l k) (hs : SqB f s.heap l xs) (hx : xs[k]? = some x)
    (q : ∀ h', ItB f h' it l (k + 1) → (∀ b o, b ≠ it → s.heap.get? b = some o → h'.get? b = some o) → h'.objs.size = s.heap.objs.size → Q x { s with heap := h' }) : wpAny (model prog w) A (Builtin.SmallTypes.nextOf (.ref it)) Q E s := by
  cases f with
  | true => exact wpAny_nextOf_list_item hi hs hx fun h' a b => q h' a (fun c o n e => b.extBut _ _ n e) b.1
  | false => exact RZ.nextOf_tuple_item hi hs hx fun h' a b => q h' a (fun c o n e => b.extBut _ _ n e) b.1
theorem nx_end {f : Bool} {it l : Addr} {k : Nat} {xs : Array Value} {Q : Value → Shared → Prop} (hh : A.handled = none) (hi : ItB f s.heap it l k) (hs : SqB f s.heap l xs) (hx : xs[k]? = none)
    (q : ∀ h' e, (∀ b o, b ≠ it → s.heap.get? b = some o → h'.get? b = some o) → (∃ o, h'.get? e = some o ∧ o.cls = .type "StopIteration") → E (.ref e) { s with heap := h' }) : wpAny (model prog w) A (Builtin.SmallTypes.nextOf (.ref it)) Q E s := by
  cases f with
  | true => exact wpAny_nextOf_list_end hh hi hs hx fun h' e a b => q h' e (fun c o n g => a _ _ n g) b
  | false => exact RZ.nextOf_tuple_end hh hi hs hx fun h' e a b => q h' e (fun c o n g => a _ _ n g) b
variable {z ti to i1 i2 l1 l2 : Addr} {k1 k2 : Nat} {xs ys : Array Value} {x y a b : Value} {f1 f2 : Bool}
/-- all that a zip needs, at its place -/
structure Zp (f1 f2 : Bool) (hp : Heap) (z ti to i1 i2 l1 l2 : Addr) (k1 k2 : Nat) (a b : Value) : Prop where
  zz : IsZip hp z ti to .none
  ii : IsPair hp ti (.ref i1) (.ref i2)
  oo : IsPair hp to a b
  n1 : ItB f1 hp i1 l1 k1
  n2 : ItB f2 hp i2 l2 k2
theorem zp_item {Q : Value → Shared → Prop} (Z : Zp f1 f2 s.heap z ti to i1 i2 l1 l2 k1 k2 a b) (D : ZipApart z ti to i1 i2 l1 l2) (s1 : SqB f1 s.heap l1 xs) (s2 : SqB f2 s.heap l2 ys) (hx : xs[k1]? = some x) (hy : ys[k2]? = some y)
    (q : ∀ g, IsZip g z ti to (rawInt s.heap.objs.size) → IsPair g to x y → ItB f1 g i1 l1 (k1 + 1) → ItB f2 g i2 l2 (k2 + 1) → IsPair g s.heap.objs.size x y → (∀ c o, c ≠ z → c ≠ to → c ≠ i1 → c ≠ i2 → s.heap.get? c = some o → g.get? c = some o) → Q (.ref s.heap.objs.size) { s with heap := g }) :
    wpAny (model prog w) A (Builtin.«zip.__next__» ⟨[.ref z], []⟩) (fun r s3 => ∃ v, r = .done (.ret v) ∧ Q v s3) E s := by
  obtain ⟨zz, ii, oo, n1, n2⟩ := Z
  show wpAny _ _ (field (.ref z) 2 >>= _) _ _ _
  refine wpAny_bind (wpAny_field zz rfl (x := .bool false) rfl (wpAny_bind (m := field (.ref z) 3) (wpAny_field zz rfl (x := .ref ti) rfl (wpAny_bind (wpAny_seqItems ii rfl ?_)))))
  refine wpAny_bind (m := Builtin.SmallTypes.ownedTupleIsFree (.ref z)) ?_
  unfold Builtin.SmallTypes.ownedTupleIsFree
  refine wpAny_bind (wpAny_field zz rfl (x := .none) rfl (wpAny_pure ?_))
  simp only [if_true]
  refine wpAny_bind (wpAny_rule (wpAny_bind (wpAny_field zz rfl (x := .ref to) rfl (wpAny_bind (wpAny_setField_rec zz (by simp) fun g1 z1 e1 => ?_)))))
  have u1 : ∀ c o, c ≠ z → s.heap.get? c = some o → g1.get? c = some o := fun c o n e => e1.extBut _ _ n e
  refine wpAny_bind ?_
  simp only [List.zipIdx_cons, List.zipIdx_nil, List.forIn_cons, List.forIn_nil]
  refine wpAny_bind (wpAny_bind (wpAny_onRaise (wpAny_bind (m := Builtin.SmallTypes.nextOf (.ref i1)) (nx_item (n1.go fun o => u1 _ o D.i1z) (s1.go fun o => u1 _ o D.l1z) hx fun g2 m1 u2 e2 => wpAny_pure ?_))))
  have o2 : IsPair g2 to a b := u2 _ _ D.TOi1 (u1 _ _ D.TOz oo)
  refine wpAny_bind (wpAny_seqItems o2 rfl (wpAny_bind (wpAny_updateSeq_pair o2 fun g3 o3 e3 => wpAny_bind (wpAny_letGo (wpAny_pure ?_)))))
  have u3 : ∀ c o, c ≠ to → g2.get? c = some o → g3.get? c = some o := fun c o n e => e3.extBut _ _ n e
  have w3 : ∀ c o, c ≠ z → c ≠ i1 → c ≠ to → s.heap.get? c = some o → g3.get? c = some o := fun c o n n' n'' e => u3 _ _ n'' (u2 _ _ n' (u1 _ _ n e))
  refine wpAny_bind (wpAny_bind (wpAny_onRaise (wpAny_bind (m := Builtin.SmallTypes.nextOf (.ref i2)) (nx_item (n2.go fun o => w3 _ o D.i2z D.i12.symm D.TOi2.symm) (s2.go fun o => w3 _ o D.l2z D.l2i1 D.l2TO) hy fun g4 m2 u4 e4 => wpAny_pure ?_))))
  have o4 : IsPair g4 to x b := u4 _ _ D.TOi2 o3
  refine wpAny_bind (wpAny_seqItems o4 rfl (wpAny_bind (wpAny_updateSeq_pair o4 fun g5 o5 e5 => wpAny_bind (wpAny_letGo (wpAny_pure (wpAny_pure ?_))))))
  have u5 : ∀ c o, c ≠ to → g4.get? c = some o → g5.get? c = some o := fun c o n e => e5.extBut _ _ n e
  have p5 : IsPair g5 to x y := o5
  refine wpAny_bind (wpAny_seqItems p5 rfl (wpAny_bind (wpAny_newTuple ?_)))
  have sz : g5.objs.size = s.heap.objs.size := by rw [e5.1, e4, e3.1, e2, e1.1]
  have z5 : IsZip g5 z ti to .ellipsis := u5 _ _ D.TOz.symm (u4 _ _ D.i2z.symm (u3 _ _ D.TOz.symm (u2 _ _ D.i1z.symm z1)))
  have w5 : ∀ c o, c ≠ z → c ≠ to → c ≠ i1 → c ≠ i2 → s.heap.get? c = some o → g5.get? c = some o := fun c o n1 n2 n3 n4 e => u5 _ _ n2 (u4 _ _ n4 (w3 _ _ n1 n3 n2 e))
  have m1' : ItB f1 g5 i1 l1 (k1 + 1) := m1.go fun o e => u5 _ _ D.TOi1.symm (u4 _ _ D.i12 (u3 _ _ D.TOi1.symm e))
  have m2' : ItB f2 g5 i2 l2 (k2 + 1) := m2.go fun o e => u5 _ _ D.TOi2.symm e
  have lz : z < g5.objs.size := Heap.lt_size z5
  refine wpAny_bind (m := Builtin.SmallTypes.ownedTupleHandOut (.ref z) (.ref g5.objs.size)) ?_
  unfold Builtin.SmallTypes.ownedTupleHandOut
  have z6 : IsZip (g5.push { cls := .type "tuple", data := .seq #[x, y] }) z ti to .ellipsis := Heap.get?_push_of_some _ z5
  refine wpAny_bind (wpAny_setField_rec z6 (by simp) fun g7 z7 e7 => ?_)
  have z7' : IsZip g7 z ti to (rawInt g5.objs.size) := z7
  refine wpAny_setField_rec z7' (by simp) fun g8 z8 e8 => ?_
  have z8' : IsZip g8 z ti to (rawInt g5.objs.size) := z8
  have u8 : ∀ c o, c ≠ z → g5.get? c = some o → g8.get? c = some o := fun c o n e => e8.extBut _ _ n (e7.extBut _ _ n (Heap.get?_push_of_some _ e))
  have t8 : IsPair g8 g5.objs.size x y := e8.extBut _ _ (Nat.ne_of_gt lz) (e7.extBut _ _ (Nat.ne_of_gt lz) (Heap.get?_push_size _ rfl))
  rw [sz] at z8' t8
  refine wpAny_pure ⟨_, rfl, ?_⟩
  show Q (.ref g5.objs.size) _
  rw [sz]
  exact q g8 z8' (u8 _ _ D.TOz p5) (m1'.go fun o e => u8 _ o D.i1z e) (m2'.go fun o e => u8 _ o D.i2z e) t8 fun c o n1 n2 n3 n4 e => u8 c o n1 (w5 c o n1 n2 n3 n4 e)
theorem zp_end {Q : PySem.Fin → Shared → Prop} (hh : A.handled = none) (Z : Zp f1 f2 s.heap z ti to i1 i2 l1 l2 k1 k2 a b) (D : ZipApart z ti to i1 i2 l1 l2) (s1 : SqB f1 s.heap l1 xs) (s2 : SqB f2 s.heap l2 ys) (hend : xs[k1]? = none ∨ ys[k2]? = none)
    (q : ∀ g e, (∀ c o, c ≠ z → c ≠ to → c ≠ i1 → c ≠ i2 → s.heap.get? c = some o → g.get? c = some o) → (∃ o, g.get? e = some o ∧ o.cls = .type "StopIteration") → E (.ref e) { s with heap := g }) :
    wpAny (model prog w) A (Builtin.«zip.__next__» ⟨[.ref z], []⟩) Q E s := by
  obtain ⟨zz, ii, oo, n1, n2⟩ := Z
  show wpAny _ _ (field (.ref z) 2 >>= _) _ _ _
  refine wpAny_bind (wpAny_field zz rfl (x := .bool false) rfl (wpAny_bind (m := field (.ref z) 3) (wpAny_field zz rfl (x := .ref ti) rfl (wpAny_bind (wpAny_seqItems ii rfl ?_)))))
  refine wpAny_bind (m := Builtin.SmallTypes.ownedTupleIsFree (.ref z)) ?_
  unfold Builtin.SmallTypes.ownedTupleIsFree
  refine wpAny_bind (wpAny_field zz rfl (x := .none) rfl (wpAny_pure ?_))
  simp only [if_true]
  refine wpAny_bind (wpAny_rule (wpAny_bind (wpAny_field zz rfl (x := .ref to) rfl (wpAny_bind (wpAny_setField_rec zz (by simp) fun g1 z1 e1 => ?_)))))
  have u1 : ∀ c o, c ≠ z → s.heap.get? c = some o → g1.get? c = some o := fun c o n e => e1.extBut _ _ n e
  have z1' : IsZip g1 z ti to .ellipsis := z1
  have noz : ∀ (g : Heap) (e : Addr) (oe : Obj), IsZip g z ti to .ellipsis → g.get? e = some oe → oe.cls = .type "StopIteration" → e ≠ z := fun g e oe hz he hc hez => by
    rw [hez, hz] at he
    cases he
    simp at hc
  refine wpAny_bind ?_
  simp only [List.zipIdx_cons, List.zipIdx_nil, List.forIn_cons, List.forIn_nil]
  cases hx : xs[k1]? with
  | none =>
    refine wpAny_bind (wpAny_bind (wpAny_onRaise (wpAny_bind (m := Builtin.SmallTypes.nextOf (.ref i1)) (nx_end hh (n1.go fun o => u1 _ o D.i1z) (s1.go fun o => u1 _ o D.l1z) hx fun g2 e u2 ⟨oe, he, hc⟩ => ?_))))
    have z2 : IsZip g2 z ti to .ellipsis := u2 _ _ D.i1z.symm z1'
    exact wpAny_setField_rec z2 (by simp) fun g3 _ e3 => q g3 e (fun c o c1 _ c3 _ h => e3.extBut _ _ c1 (u2 _ _ c3 (u1 _ _ c1 h))) ⟨oe, e3.extBut _ _ (noz _ _ _ z2 he hc) he, hc⟩
  | some x =>
    have hy : ys[k2]? = none := hend.resolve_left fun h => by rw [hx] at h; cases h
    refine wpAny_bind (wpAny_bind (wpAny_onRaise (wpAny_bind (m := Builtin.SmallTypes.nextOf (.ref i1)) (nx_item (n1.go fun o => u1 _ o D.i1z) (s1.go fun o => u1 _ o D.l1z) hx fun g2 m1 u2 e2 => wpAny_pure ?_))))
    have o2 : IsPair g2 to a b := u2 _ _ D.TOi1 (u1 _ _ D.TOz oo)
    refine wpAny_bind (wpAny_seqItems o2 rfl (wpAny_bind (wpAny_updateSeq_pair o2 fun g3 o3 e3 => wpAny_bind (wpAny_letGo (wpAny_pure ?_)))))
    have u3 : ∀ c o, c ≠ to → g2.get? c = some o → g3.get? c = some o := fun c o n e => e3.extBut _ _ n e
    have w3 : ∀ c o, c ≠ z → c ≠ i1 → c ≠ to → s.heap.get? c = some o → g3.get? c = some o := fun c o n n' n'' e => u3 _ _ n'' (u2 _ _ n' (u1 _ _ n e))
    refine wpAny_bind (wpAny_bind (wpAny_onRaise (wpAny_bind (m := Builtin.SmallTypes.nextOf (.ref i2)) (nx_end hh (n2.go fun o => w3 _ o D.i2z D.i12.symm D.TOi2.symm) (s2.go fun o => w3 _ o D.l2z D.l2i1 D.l2TO) hy fun g4 e u4 ⟨oe, he, hc⟩ => ?_))))
    have z4 : IsZip g4 z ti to .ellipsis := u4 _ _ D.i2z.symm (u3 _ _ D.TOz.symm (u2 _ _ D.i1z.symm z1'))
    exact wpAny_setField_rec z4 (by simp) fun g5 _ e5 => q g5 e (fun c o c1 c2 c3 c4 h => e5.extBut _ _ c1 (u4 _ _ c4 (w3 _ _ c1 c3 c2 h))) ⟨oe, e5.extBut _ _ (noz _ _ _ z4 he hc) he, hc⟩
theorem pn_item {Q : Option Value → Shared → Prop} (Z : Zp f1 f2 s.heap z ti to i1 i2 l1 l2 k1 k2 a b) (D : ZipApart z ti to i1 i2 l1 l2) (s1 : SqB f1 s.heap l1 xs) (s2 : SqB f2 s.heap l2 ys) (hx : xs[k1]? = some x) (hy : ys[k2]? = some y)
    (q : ∀ g, IsZip g z ti to (rawInt s.heap.objs.size) → IsPair g to x y → ItB f1 g i1 l1 (k1 + 1) → ItB f2 g i2 l2 (k2 + 1) → IsPair g s.heap.objs.size x y → (∀ c o, c ≠ z → c ≠ to → c ≠ i1 → c ≠ i2 → s.heap.get? c = some o → g.get? c = some o) → Q (some (.ref s.heap.objs.size)) { s with heap := g }) :
    wpAny (model prog w) A (pyNext (.ref z)) Q E s := by
  have ht : s.TypeIs (.ref z) "zip" := ⟨_, Z.zz, rfl⟩
  unfold pyNext
  refine wpAny_bind (wpAny_attempt (wpAny_callSpecial?_slot (name := Str.ofString "__next__") ht PySem.F.slot_zip_next ?_))
  exact wpAny_call_entry PySem.F.slot_zip_next ht PySem.F.entry_zip_next (zp_item Z D s1 s2 hx hy fun g a1 a2 a3 a4 a5 a6 => wpAny_pure (q g a1 a2 a3 a4 a5 a6)) (PySem.F.args_zip_next_1 _)
theorem pn_end {Q : Option Value → Shared → Prop} (hh : A.handled = none) (Z : Zp f1 f2 s.heap z ti to i1 i2 l1 l2 k1 k2 a b) (D : ZipApart z ti to i1 i2 l1 l2) (s1 : SqB f1 s.heap l1 xs) (s2 : SqB f2 s.heap l2 ys) (hend : xs[k1]? = none ∨ ys[k2]? = none)
    (q : ∀ g, (∀ c o, c ≠ z → c ≠ to → c ≠ i1 → c ≠ i2 → s.heap.get? c = some o → g.get? c = some o) → Q none { s with heap := g }) : wpAny (model prog w) A (pyNext (.ref z)) Q E s := by
  have ht : s.TypeIs (.ref z) "zip" := ⟨_, Z.zz, rfl⟩
  unfold pyNext
  refine wpAny_bind (wpAny_attempt (wpAny_callSpecial?_slot (name := Str.ofString "__next__") ht PySem.F.slot_zip_next ?_))
  refine wpAny_call_entry PySem.F.slot_zip_next ht PySem.F.entry_zip_next (zp_end hh Z D s1 s2 hend fun g e keep ⟨o, ho, hc⟩ => ?_) (PySem.F.args_zip_next_1 _)
  exact wpAny_bind (wpAny_isInstance (T := "StopIteration") (b := true) ⟨o, ho, hc⟩ isSubtype_stop (wpAny_pure (q _ keep)))
end
/-! ## zip(list, tuple), made -/
abbrev zh1 (hp : Heap) (l1 : Addr) : Heap := hp.push { cls := .type "list_iterator", data := .fields #[.ref l1, .int 0 0] }
abbrev zh2 (hp : Heap) (l1 l2 : Addr) : Heap := (zh1 hp l1).push { cls := .type "tuple_iterator", data := .fields #[.ref l2, .int 0 0] }
abbrev zh3 (hp : Heap) (l1 l2 : Addr) : Heap := (zh2 hp l1 l2).push { cls := .type "tuple", data := .seq #[.ref hp.objs.size, .ref (zh1 hp l1).objs.size] }
abbrev zh4 (hp : Heap) (l1 l2 : Addr) : Heap := (zh3 hp l1 l2).push { cls := .type "tuple", data := .seq #[.none, .none] }
abbrev zh5 (hp : Heap) (l1 l2 : Addr) : Heap := (zh4 hp l1 l2).push { cls := .type "zip", data := .fields #[.none, .bool false, .bool false, .ref (zh2 hp l1 l2).objs.size, .ref (zh3 hp l1 l2).objs.size] }
theorem meets_zm (l1 l2 : Addr) (xs ys : Array Value) : Meets (Builtin.«zip.__new__» ⟨[.type "zip", .ref l1, .ref l2], []⟩)
    (fun _ R s => s.heap.IsList l1 xs ∧ s.heap.IsTuple l2 ys ∧ R (.ok (.ret (.ref (zh4 s.heap l1 l2).objs.size))) { s with heap := zh5 s.heap l1 l2 }) := .of_wp fun prog w A R s h => by
  obtain ⟨hp, gs, dr, tk, os⟩ := s
  obtain ⟨h1, h2, h⟩ := h
  have hsub := sub_zip
  have hA : Heap.IsList (Shared.heap ⟨hp, gs, dr, tk, os⟩) l1 xs := h1
  have hB : Heap.IsTuple (Shared.heap ⟨hp.push { cls := .type "list_iterator", data := .fields #[.ref l1, .int 0 0] }, gs, dr, tk, os⟩) l2 ys := Heap.IsTuple.push h2 _
  wp_walk using wpAny_pyIter_list hA, wpAny_pyIter_tuple hB
  exact ⟨_, rfl, h⟩
section
variable {prog : Program} {w : World} {A : Around} {E : Value → Shared → Prop} {s : Shared}
theorem call_zm {l1 l2 : Addr} {xs ys : Array Value} {Q : Value → Shared → Prop} (h1 : s.heap.IsList l1 xs) (h2 : s.heap.IsTuple l2 ys)
    (q : ∀ g, Zp true false g (s.heap.objs.size + 4) (s.heap.objs.size + 2) (s.heap.objs.size + 3) s.heap.objs.size (s.heap.objs.size + 1) l1 l2 0 0 .none .none → (∀ c o, s.heap.get? c = some o → g.get? c = some o) → Q (.ref (s.heap.objs.size + 4)) { s with heap := g }) :
    wpAny (model prog w) A (call (.type "zip") [.ref l1, .ref l2]) Q E s := by
  have e1 : (zh1 s.heap l1).objs.size = s.heap.objs.size + 1 := Heap.size_push ..
  have e2 : (zh2 s.heap l1 l2).objs.size = s.heap.objs.size + 2 := by rw [Heap.size_push, e1]
  have e3 : (zh3 s.heap l1 l2).objs.size = s.heap.objs.size + 3 := by rw [Heap.size_push, e2]
  have e4 : (zh4 s.heap l1 l2).objs.size = s.heap.objs.size + 4 := by rw [Heap.size_push, e3]
  have up1 : ∀ c o, (zh1 s.heap l1).get? c = some o → (zh5 s.heap l1 l2).get? c = some o := fun c o e => Heap.get?_push_of_some _ (Heap.get?_push_of_some _ (Heap.get?_push_of_some _ (Heap.get?_push_of_some _ e)))
  have up2 : ∀ c o, (zh2 s.heap l1 l2).get? c = some o → (zh5 s.heap l1 l2).get? c = some o := fun c o e => Heap.get?_push_of_some _ (Heap.get?_push_of_some _ (Heap.get?_push_of_some _ e))
  have up3 : ∀ c o, (zh3 s.heap l1 l2).get? c = some o → (zh5 s.heap l1 l2).get? c = some o := fun c o e => Heap.get?_push_of_some _ (Heap.get?_push_of_some _ e)
  have a5 : (zh5 s.heap l1 l2).get? (zh4 s.heap l1 l2).objs.size = some _ := Heap.get?_push_size _ rfl
  have a4 : (zh5 s.heap l1 l2).get? (zh3 s.heap l1 l2).objs.size = some _ := Heap.get?_push_of_some _ (Heap.get?_push_size _ rfl)
  have a3 : (zh5 s.heap l1 l2).get? (zh2 s.heap l1 l2).objs.size = some _ := up3 _ _ (Heap.get?_push_size _ rfl)
  have a2 : (zh5 s.heap l1 l2).get? (zh1 s.heap l1).objs.size = some _ := up2 _ _ (Heap.get?_push_size _ rfl)
  have a1 : (zh5 s.heap l1 l2).get? s.heap.objs.size = some _ := up1 _ _ (Heap.get?_push_size _ rfl)
  refine callType_new PySem.F.called_zip (by decide) (PySem.F.typeCall_zip_2 _ _) (PySem.F.newCall_zip_2 _ _) (fun obj => PySem.F.args_object_init_3 obj _ _) PySem.F.entry_zip_new (meets_zm l1 l2 xs ys) ⟨h1, h2, ?_⟩
  show _ ∧ _
  rw [e2, e3, e4] at a5
  rw [e1, e2] at a3
  rw [e3] at a4
  rw [e1] at a2
  rw [e4]
  exact ⟨⟨_, a5, rfl⟩, q _ ⟨a5, a3, a4, ⟨_, a1, rfl, rfl⟩, ⟨_, a2, rfl, rfl⟩⟩ fun c o e => up1 _ _ (Heap.get?_push_of_some _ e)⟩
end
/-! ## the loop's turns -/
def ItzM (K : PySem.W.Frag) (a b : Addr) : It :=
  ⟨fun i H => ∃ (xs ys : List V) (x y : V), SqL K H a xs ∧ SqT K H b ys ∧ xs[i]? = some x ∧ ys[i]? = some y,
    fun i H v H' => ∃ T x y, v = .ref T ∧ H T = none ∧ H' = upd H T (.tup [x, y]) ∧ (∀ xs, SqL K H a xs → xs[i]? = some x) ∧ ∀ ys, SqT K H b ys → ys[i]? = some y,
    fun i H => ∃ xs ys : List V, SqL K H a xs ∧ SqT K H b ys ∧ (xs.length ≤ i ∨ ys.length ≤ i)⟩
theorem five {c z ti to i1 i2 : Addr} (h : c ∈ [z, ti, to, i1, i2]) : c = z ∨ c = ti ∨ c = to ∨ c = i1 ∨ c = i2 := by simpa using h
theorem turn_zm {P : Program} {w : World} {K : PySem.W.Frag} {elts : List Expr} {kk : Nat} {tpos : Pos} {a b z ti to i1 i2 : Addr} (D : ZipApart z ti to i1 i2 a b) :
    Turn P w K (.Tuple elts kk tpos) (ItzM K a b) [z, ti, to, i1, i2] z (fun i h => ∃ x y, Zp true false h z ti to i1 i2 a b i i x y) where
  mem := by simp
  obj := fun i h ⟨x, y, Z⟩ c hc => by
    obtain ⟨o1, _, e1, d1⟩ := Z.n1.ob
    obtain ⟨o2, _, e2, d2⟩ := Z.n2.ob
    rcases five hc with rfl | rfl | rfl | rfl | rfl
    · exact ⟨_, Z.zz, fun v q => nomatch q⟩
    · exact ⟨_, Z.ii, fun v q => nomatch q⟩
    · exact ⟨_, Z.oo, fun v q => nomatch q⟩
    · exact ⟨o1, e1, fun v q => by rw [d1] at q; cases q⟩
    · exact ⟨o2, e2, fun v q => by rw [d2] at q; cases q⟩
  keep := fun i h h' ⟨x, y, Z⟩ k => ⟨x, y, k z (by simp) _ Z.zz, k ti (by simp) _ Z.ii, k to (by simp) _ Z.oo, Z.n1.go fun o q => k i1 (by simp) o q, Z.n2.go fun o q => k i2 (by simp) o q⟩
  item := by
    intro X hP hw hK hc i pins s σ H E I hf ⟨x0, y0, Z⟩ hg
    subst hP hw hK
    obtain ⟨xs, ys, x, y, hqx, hqy, hx, hy⟩ := hg
    obtain ⟨its, rv, p, _⟩ := I.list hqx
    obtain ⟨its2, rv2, p2, _⟩ := I.tuple hqy
    obtain ⟨u, hu, ru⟩ := rv.get hx
    obtain ⟨u2, hu2, ru2⟩ := rv2.get hy
    have hzl : z < s.heap.objs.size := Heap.lt_size Z.zz
    refine pn_item Z D (show SqB true s.heap a its.toArray from p.isList) (show SqB false s.heap b its2.toArray from p2) (x := u) (y := u2) (by simpa using hu) (by simpa using hu2) fun g z' to' n1' n2' hT hk => ?_
    refine ⟨_, rfl, wpAny_letOwnedTupleGo_zip (s := { s with heap := g }) z' fun g2 z'' sb => ?_⟩
    have up : ∀ c o, c ≠ z → g.get? c = some o → g2.get? c = some o := fun c o n e => (sb.2 _ n).trans e
    have hT2 : g2.get? s.heap.objs.size = some { cls := .type "tuple", data := .seq #[u, u2] } := up _ _ (Nat.ne_of_gt hzl) hT
    have new : ObjOk X.prog X.w (upd H s.heap.objs.size (.tup [x, y])) g2 s.heap.objs.size (.tup [x, y]) := ⟨by show 2 ≤ sizeLine; decide, [u, u2], .cons ru (.cons ru2 .nil), ⟨_, hT2, rfl, _, rfl⟩⟩
    have old : ∀ c o, c ∉ [z, ti, to, i1, i2] → s.heap.get? c = some o → g2.get? c = some o := fun c o hn e => by
      simp only [List.mem_cons, List.not_mem_nil, or_false, not_or] at hn
      exact up c o hn.1 (hk c o hn.1 hn.2.2.1 hn.2.2.2.1 hn.2.2.2.2 e)
    have I1 : Inv X pins σ (upd H s.heap.objs.size (.tup [x, y])) { s with heap := g2 } := I.turnedNew (t' := s.toks) (ch := [z, ti, to, i1, i2]) old hf (Nat.le_refl _) new
    refine ⟨.ref s.heap.objs.size, _, I1, rfl, ⟨_, x, y, rfl, I.hok.fresh (Nat.le_refl _), rfl, fun l hl => by rw [I.list_inj hl hqx]; exact hx, fun l hl => by rw [I.tuple_inj hl hqy]; exact hy⟩, ⟨u, u2, z'', ?_, ?_, ?_, ?_⟩, fun c hcm => ?_⟩
    · exact up _ _ D.TIz (hk _ _ D.TIz D.TITO D.TIi1 D.TIi2 Z.ii)
    · exact up _ _ D.TOz to'
    · exact n1'.go fun o q => up _ o D.i1z q
    · exact n2'.go fun o q => up _ o D.i2z q
    · have hlt : c < s.heap.objs.size := by
        rcases five hcm with rfl | rfl | rfl | rfl | rfl
        · exact hzl
        · exact Heap.lt_size Z.ii
        · exact Heap.lt_size Z.oo
        · exact Z.n1.lt
        · exact Z.n2.lt
      rw [upd_ne (Nat.ne_of_lt hlt)]
      exact (hf c hcm).1
  done := by
    intro X hP hw hK hc i pins s σ H E I hf ⟨x0, y0, Z⟩ hg
    subst hP hw hK
    obtain ⟨xs, ys, hqx, hqy, hend⟩ := hg
    obtain ⟨its, rv, p, _⟩ := I.list hqx
    obtain ⟨its2, rv2, p2, _⟩ := I.tuple hqy
    have l1 := rv.length
    have l2 := rv2.length
    have he : its.toArray[i]? = none ∨ its2.toArray[i]? = none := hend.imp (fun q => by simp; omega) fun q => by simp; omega
    refine pn_end (I.ok.hd hc) Z D (show SqB true s.heap a its.toArray from p.isList) (show SqB false s.heap b its2.toArray from p2) he fun g hk => ⟨rfl, I.turnedL (t' := s.toks) (ch := [z, ti, to, i1, i2]) (fun c o hn e => ?_) hf⟩
    simp only [List.mem_cons, List.not_mem_nil, or_false, not_or] at hn
    exact hk c o hn.1 hn.2.2.1 hn.2.2.2.1 hn.2.2.2.2 e
  self := fun A i s Q E ⟨_, _, Z⟩ h => wpAny_pyIter_zip Z.zz h
def iZipM (K : PySem.W.Frag) (ta : TA) : TI := fun σ H R => ta σ H fun vs H1 => ∃ a b xs ys, vs = [.ref a, .ref b] ∧ SqL K H1 a xs ∧ SqT K H1 b ys ∧ R (ItzM K a b) H1
theorem pi_zipM {X : Cx} {e e2 : Expr} {ta : TA} {p pos tpos : Pos} {elts : List Expr} {kk : Nat} (hg : Gl X "zip") (hm : X.mg "zip" = none) (ha : PA X [e, e2] ta)
    (hs : starEach [e, e2] X.env = (false, eval e X.env) :: starEach [e2] X.env := by rfl) (hpl : (backTo pos (starEach [e2] X.env)).any (·.1) = false := by rfl) : PI X (.Tuple elts kk tpos) (.Call (.Name "zip" p) [e, e2] [] pos) (iZipM X.K ta) := by
  refine ⟨fun pins s σ H R I h => ?_⟩
  refine Call_ (ld_blt I hg hm PyProof.Rows.boot_zip (PyProof.Rows.callWith_type1 (thn (ha.run pos pins s σ H _ I h) fun us s1 ⟨vs, H1, I1, r1, a, b, xs, ys, ex, hqx, hqy, q⟩ => ?_) hs hpl))
  subst ex
  obtain ⟨u1, u2, rfl, e1, e2⟩ := vals2 r1
  obtain rfl : u1 = Value.ref a := e1
  obtain rfl : u2 = Value.ref b := e2
  obtain ⟨its, rv, p1, _⟩ := I1.list hqx
  obtain ⟨its2, rv2, p2, _⟩ := I1.tuple hqy
  obtain ⟨o2, ho2, _⟩ := id p2
  refine call_zm p1.isList (show s1.heap.IsTuple b its2.toArray from p2) fun g Z keep => wpAny_pyIter_zip Z.zz ?_
  have I2 : Inv X pins σ H1 { s1 with heap := g } := I1.kept (t' := s1.toks) keep
  refine ⟨s1.heap.objs.size + 4, [s1.heap.objs.size + 4, s1.heap.objs.size + 2, s1.heap.objs.size + 3, s1.heap.objs.size, s1.heap.objs.size + 1], _, _, H1, rfl, I2, turn_zm (PySem.W.ktu_apart s1.heap.objs.size a b p1.lt (Heap.lt_size ho2)), ⟨_, _, Z⟩, fun c hcm => ?_, q⟩
  have hle : s1.heap.objs.size ≤ c := by rcases five hcm with rfl | rfl | rfl | rfl | rfl <;> omega
  exact I1.fpOk hle (I1.hok.fresh hle)
end ZM
namespace Qz
open PySem PySem.Spec L2
open PyProof.Rows hiding St
def iZipMD (m : MA) : MI := fun s => match m s with
  | .ok rs s1 => match takes s1 rs with
    | some ([.list ds, .tuple es], s2) => .ok (pairsD ds es) s2
    | _ => .no
  | .no => .no
section
variable {X : Cx} {e e2 : Expr} {ms : MA} {p pos tpos : Pos} {elts : List Expr} {kk : Nat}
theorem ri_zipM (hg : Gl X "zip") (hm : X.mg "zip" = none) (h : RA X [e, e2] ms) (hs : starEach [e, e2] X.env = (false, eval e X.env) :: starEach [e2] X.env := by rfl) (hpl : (backTo pos (starEach [e2] X.env)).any (·.1) = false := by rfl) :
    RI X (.Tuple elts kk tpos) (.Call (.Name "zip" p) [e, e2] [] pos) (iZipMD ms) := by
  obtain ⟨ta, p1, s1⟩ := h
  refine ⟨_, ZM.pi_zipM hg hm p1 hs hpl, fun σ H w s t Q ds s' ok e k => ?_⟩
  simp only [iZipMD] at e
  split at e
  · rename_i rs sa e1
    refine s1 σ H w s t _ rs sa ok e1 fun w1 H1 us t1 a1 ok1 st1 sl1 rel1 => ?_
    have l := ok.slen ok1
    split at e
    · rename_i ds es sb e2
      cases e
      obtain ⟨w2, ok2, st2, rep, sl2, l2⟩ := takes_ok (t0 := t) rs us _ _ _ _ _ ok1 rel1 e2 (Nat.le_refl _) (by rw [l]; exact ok.tN)
      rw [l] at st2
      simp only [RepL, Rep] at rep
      obtain ⟨_, _, rfl, ⟨a, xs, rfl, h1, h2⟩, _, _, rfl, ⟨b, ys, rfl, h3, h4⟩, rfl⟩ := rep
      refine ⟨a, b, xs, ys, rfl, ok2.sub.seq h1, SqT.of (ok2.sub _ _ h3), k w2 H1 t1 _ (by omega) ok2 (st1.trans st2) (sl1.trans sl2) ?_⟩
      have e3 : min ds.length es.length = min xs.length ys.length := by rw [RepL.length _ _ h2, RepL.length _ _ h4]
      refine walk_pairs (fx := fun i => xs[i]?) (fy := fun i => ys[i]?) (G := fun H => SqL X.K H a xs ∧ SqT X.K H b ys) ?_ (fun H' sm => ⟨sm.seq h1, SqT.of (sm _ _ h3)⟩) (rep_at h2) (rep_at h4)
      refine ⟨fun i H hi q => ?_, fun H q => ⟨xs, ys, q.1, q.2, by omega⟩, fun i H v H' _ q ⟨T, x, y, h1, h2, h3, h4, h5⟩ => ⟨T, x, y, h1, h2, h3, h4 xs q.1, h5 ys q.2⟩⟩
      have c1 : i < xs.length := by omega
      have c2 : i < ys.length := by omega
      exact ⟨xs, ys, xs[i], ys[i], q.1, q.2, by simp [c1], by simp [c2]⟩
    · cases e
  · cases e
end
end Qz
namespace Qz
open PySem PySem.Spec L2
open PyProof.Rows hiding St
/-! ## a loop over a list or a tuple, whichever it is -/
def iSeq (K : PySem.W.Frag) (tl : TE) : TI := fun σ H R => tl σ H fun x H1 => ∃ a, x = .ref a ∧ (((∃ xs, SqL K H1 a xs) ∧ R (Itl K a) H1) ∨ ((∃ xs, SqT K H1 a xs) ∧ R (Itt K a) H1))
theorem pi_seq {X : Cx} {tg l : Expr} {tl : TE} (hl : PE X l tl) : PI X tg l (iSeq X.K tl) := by
  refine ⟨fun pins s σ H R I h => ?_⟩
  refine thn (hl.run pins s σ H _ I h) fun v s1 ⟨x, H1, I1, r1, a, e, q⟩ => ?_
  subst e
  cases r1
  have new : ∀ b ∈ [s1.heap.objs.size], FpOk X pins H1 b := fun b hb => by
    obtain rfl := List.mem_singleton.mp hb
    exact I1.fpOk (Nat.le_refl _) (I1.hok.fresh (Nat.le_refl _))
  rcases q with ⟨⟨xs, hq⟩, q⟩ | ⟨⟨xs, hq⟩, q⟩
  · obtain ⟨its, rv, p, hz⟩ := I1.list hq
    exact wpAny_pyIter_list p.isList ⟨s1.heap.objs.size, [s1.heap.objs.size], _, _, H1, rfl, I1.kept (t' := s1.toks) fun b o e => Heap.get?_push_of_some _ e, turn_list a _, ⟨_, Heap.get?_push_size _ rfl, rfl, rfl⟩, new, q⟩
  · obtain ⟨its, rv, p, hz⟩ := I1.tuple hq
    exact wpAny_pyIter_tuple (show s1.heap.IsTuple a its.toArray from p) ⟨s1.heap.objs.size, [s1.heap.objs.size], _, _, H1, rfl, I1.kept (t' := s1.toks) fun b o e => Heap.get?_push_of_some _ e, turn_tuple a _, ⟨_, Heap.get?_push_size _ rfl, rfl, rfl⟩, new, q⟩
def iSeqD (m : ME) : MI := fun s => match m s with
  | .no => .no
  | .ok r s1 => match take1 s1 r with
    | some (.tuple ds, s2) => .ok ds s2
    | some (.list ds, s2) => .ok ds s2
    | _ => .no
section
variable {X : Cx} {e tg : Expr} {m : ME}
theorem ri_seq (h : RE X e m) : RI X tg e (iSeqD m) := by
  obtain ⟨te, p1, s1⟩ := h
  refine ⟨_, pi_seq p1, fun σ H w s t Q ds s' ok e k => ?_⟩
  simp only [iSeqD] at e
  split at e
  · cases e
  · rename_i r sa e1
    split at e
    · rename_i es sb e2
      cases e
      refine s1 σ H w s t _ r sa ok e1 fun w1 H1 x t1 τ a1 a2 ok1 st1 sl1 rel1 => ?_
      have l := ok.slen ok1
      obtain ⟨w2, ok2, st2, rep, sl2, l2, _⟩ := take1_ok (t0 := t) ok1 rel1 e2 a1 (by rw [l]; exact ok.tN)
      simp only [Rep] at rep
      obtain ⟨a, xs, rfl, h1, h2⟩ := rep
      rw [l] at st2
      exact ⟨a, rfl, .inr ⟨⟨xs, SqT.of (ok2.sub _ _ h1)⟩, k w2 H1 t1 _ (by omega) ok2 (st1.trans st2) (sl1.trans sl2) (walk_seq walk_tup (fun H' sm => SqT.of (sm _ _ h1)) h2)⟩⟩
    · rename_i es sb e2
      cases e
      refine s1 σ H w s t _ r sa ok e1 fun w1 H1 x t1 τ a1 a2 ok1 st1 sl1 rel1 => ?_
      have l := ok.slen ok1
      obtain ⟨w2, ok2, st2, rep, sl2, l2, _⟩ := take1_ok (t0 := t) ok1 rel1 e2 a1 (by rw [l]; exact ok.tN)
      simp only [Rep] at rep
      obtain ⟨a, xs, rfl, h1, h2⟩ := rep
      rw [l] at st2
      exact ⟨a, rfl, .inl ⟨⟨xs, ok2.sub.seq h1⟩, k w2 H1 t1 _ (by omega) ok2 (st1.trans st2) (sl1.trans sl2) (walk_seq walk_list (fun H' sm => sm.seq h1) h2)⟩⟩
    · cases e
end
/-! ## x = .. where the value may be what x holds: it stays x's own -/
def isSl (i : Nat) : R → Bool
  | .sl j => i == j
  | _ => false
def storeS (i : Nat) (s : S) (r : R) : Option S := if isSl i r = true ∧ i < s.a.length then some s else store i s r
def mSetS (i : Nat) (m : ME) : MS := fun s => match m s with
  | .no => .no
  | .ok r s1 => match storeS i s1 r with
    | none => .no
    | some s2 => .ok .nx s2
section
variable {K : PySem.W.Frag} {n t : Nat} {w : Wd} {H : Hp} {σ : St} {s s' : S}
theorem storeS_fin {r : R} {x : V} {τ i : Nat} (ok : OKs K w H σ s t) (hn : s.a.length = n) (hτ : n ≤ τ) (h : RelR K w H σ s τ r x) (e : storeS i s r = some s') :
    ∃ w', OKs K w' H (σ.set i (some x)) s' n ∧ s'.a.length = n ∧ Step n n w H w' H := by
  unfold storeS at e
  split at e
  · rename_i c
    cases e
    obtain ⟨c1, c2⟩ := c
    cases r with
    | sl j =>
      have hij : i = j := by simpa [isSl] using c1
      subst hij
      obtain ⟨q, h1, h2⟩ := h
      have e2 : σ.set i (some x) = σ := by
        refine List.ext_getElem? fun k => ?_
        by_cases hk : i = k
        · subst hk
          rw [List.getElem?_set_self (by rw [ok.len]; exact c2), h2]
        · rw [List.getElem?_set_ne hk]
      rw [e2]
      exact ⟨w.drop n, drop_ok ok hn, hn, drop_step⟩
    | _ => cases c1
  · exact store_fin ok hn hτ h e
variable {X : Cx} {e : Expr} {m : ME} {pos : Pos}
theorem rs_setS {i : Nat} {x : Str} {pos' : Pos} (hN : X.N.Nodup) (hi : X.N[i]? = some x) (hx : Loc X.env.scope x) (he : RE X e m) (hs : swapsWith e (some (.Name x pos')) pos.line X.env = pure false := by rfl)
    (hf : X.fn x = true ∨ X.env.scope.names.lookup x = some .local := by first | exact .inl rfl | exact .inr rfl | assumption) : RS X (.Assign [.Name x pos'] e pos) (mSetS i m) := by
  obtain ⟨t1, p1, s1⟩ := he
  refine ⟨_, ps_set hN hi hx p1 hs hf, fun σ H w s D f s' ok e k => ?_⟩
  simp only [mSetS] at e
  split at e
  · cases e
  · rename_i r sa e1
    split at e
    · cases e
    · rename_i s2 e2
      cases e
      refine s1 σ H w s _ _ r sa ok e1 fun w1 H1 x t' τ a1 a2 ok1 st1 sl1 rel1 => ?_
      have hl := ok.slen ok1
      obtain ⟨w2, ok2, l2, st2⟩ := storeS_fin ok1 hl a1 rel1 e2
      exact k.nx rfl _ w2 H1 ok2 l2 (st1.trans st2)
end
end Qz
namespace Qz
open PySem PySem.Spec L2
open PyProof.Rows hiding St
/-! ## four names at once: a tuple is made and taken apart, the lists in it stay their own -/
section
variable {K : PySem.W.Frag}
theorem par_sndT {ta : TA} {ts : TS} {is : List Nat} {ms : MA} (h : SndA K ta ms) (hts : ∀ (D : Ends) (σ : St) (H : Hp), (ta σ H fun vs H1 => vs.length = is.length ∧ ∀ p, H1 p = none → D.nx (setAll σ is vs) (upd H1 p (.tup vs))) → ts D σ H) : SndS K ts (mPar is ms) := by
  intro σ H w s D f s' ok e k
  simp only [mPar] at e
  split at e
  · cases e
  · rename_i rs sa e1
    split at e
    · cases e
    · rename_i qs sb e2
      split at e
      · cases e
      · rename_i sc e3
        cases e
        refine hts D σ H (h σ H w s s.a.length _ rs sa ok e1 fun w1 H1 us t1 a1 ok1 st1 sl1 rel1 => ?_)
        have l1 := ok.slen ok1
        obtain ⟨w2, ok2, st2, rel2, ns, sl2, l2, _, _⟩ := norms_ok (t0 := s.a.length) rs us qs sa sb w1 s.a.length ok1 rel1 e2 (Nat.le_refl _) (by omega)
        rw [l1] at st2 l2
        obtain ⟨w3, ok3, l3, st3, lu⟩ := puts_ok is qs us σ sb _ w2 s.a.length ok2 l2 (Nat.le_refl _) rel2 ns e3
        have ok4 := drop_ok ok3 l3
        refine ⟨lu, fun p hp => k.nx rfl _ _ (upd H1 p (.tup us)) (lay_ok ok4 hp) l3 ((((st1.trans st2).trans st3).trans drop_step).trans (lay_step ok4 hp))⟩
end
section
variable {X : Cx} {a b c d : Expr} {ms : MA} {x y z u : Str} {px py pz pu pt pos pt2 : Pos} {kt k2 : Nat}
theorem rs_par4 (i j l m : Nat) (hc : X.calm = true) (hN : X.N.Nodup) (ha : RA X [a, b, c, d] ms) (hi : X.N[i]? = some x := by rfl) (hj : X.N[j]? = some y := by rfl) (hl : X.N[l]? = some z := by rfl) (hm : X.N[m]? = some u := by rfl)
    (hx : X.env.scope.names.lookup x = some .local := by rfl) (hy : X.env.scope.names.lookup y = some .local := by rfl) (hz : X.env.scope.names.lookup z = some .local := by rfl) (hu : X.env.scope.names.lookup u = some .local := by rfl)
    (lx : Loc X.env.scope x := by exact .inl rfl) (ly : Loc X.env.scope y := by exact .inl rfl) (lz : Loc X.env.scope z := by exact .inl rfl) (lu : Loc X.env.scope u := by exact .inl rfl)
    (h2 : (assignEach [.Name x px, .Name y py, .Name z pz, .Name u pu] X.env).map (·.2) = assign (.Name x px) X.env :: (assignEach [.Name y py, .Name z pz, .Name u pu] X.env).map (·.2) := by rfl)
    (h3 : (assignEach [.Name y py, .Name z pz, .Name u pu] X.env).map (·.2) = assign (.Name y py) X.env :: (assignEach [.Name z pz, .Name u pu] X.env).map (·.2) := by rfl)
    (h4 : (assignEach [.Name z pz, .Name u pu] X.env).map (·.2) = assign (.Name z pz) X.env :: (assignEach [.Name u pu] X.env).map (·.2) := by rfl)
    (h5 : (assignEach [.Name u pu] X.env).map (·.2) = assign (.Name u pu) X.env :: (assignEach [] X.env).map (·.2) := by rfl)
    (h6 : (assignEach [.Name x px, .Name y py, .Name z pz, .Name u pu] X.env).length = 4 := by rfl) (h7 : (assignEach [.Name x px, .Name y py, .Name z pz, .Name u pu] X.env).findIdx? (·.1) = none := by rfl)
    (hw : swappedStores [.Tuple [.Name x px, .Name y py, .Name z pz, .Name u pu] kt pt] (.Tuple [a, b, c, d] k2 pt2) X.env = pure none := by rfl) (hs : swapsWithSole [.Tuple [.Name x px, .Name y py, .Name z pz, .Name u pu] kt pt] (.Tuple [a, b, c, d] k2 pt2) pos.line X.env = pure false := by rfl)
    (h1 : (assignEach [.Tuple [.Name x px, .Name y py, .Name z pz, .Name u pu] kt pt] X.env).map (·.2) = [assign (.Tuple [.Name x px, .Name y py, .Name z pz, .Name u pu] kt pt) X.env] := by rfl) :
    RS X (.Assign [.Tuple [.Name x px, .Name y py, .Name z pz, .Name u pu] kt pt] (.Tuple [a, b, c, d] k2 pt2) pos) (mPar [i, j, l, m] ms) :=
  ⟨_, ps_asg (pe_tup ha.pa) (pg_tup hc (pgs_cons (pg_name hN hi lx (.inr hx)) (pgs_cons (pg_name hN hj ly (.inr hy)) (pgs_cons (pg_name hN hl lz (.inr hz)) (pgs_cons (pg_name hN hm lu (.inr hu)) pgs_nil h5) h4) h3) h2) h6 h7) hs hw h1,
    par_sndT snd_taC fun D σ H h => mono_taC σ H _ _ (fun vs H1 ⟨hl, q⟩ => by
      match vs, hl with
      | [v1, v2, v3, v4], _ => exact ⟨show 4 ≤ sizeLine by decide, fun p hp => ⟨p, _, rfl, SqT.of upd_same, rfl, v1, _, rfl, v2, _, rfl, v3, _, rfl, v4, _, rfl, rfl, q p hp⟩⟩) h⟩
end
end Qz
namespace Qz
open PySem PySem.Spec L2
open PyProof.Rows hiding St
/-! ## names in a tuple, taken from a list -/
def gU (k : Nat) (gs : List D → S → Option S) (d : D) (s : S) : Option S := match d with
  | .list ds => if ds.length = k then gs ds s else none
  | _ => none
section
variable {X : Cx} {es : List Expr} {gs : List D → S → Option S} {ws : List Nat} {pos : Pos}
theorem rg_unl {k n : Nat} (h : RGs X es gs ws) (hc : X.calm = true := by rfl) (hn : (assignEach es X.env).length = n := by rfl) (hst : (assignEach es X.env).findIdx? (·.1) = none := by rfl) : RG X (.Tuple es k pos) (gU n gs) ws := by
  obtain ⟨t1, p1, s1⟩ := h
  refine ⟨_, pg_unl hc p1 hn hst, fun d x σ H w s s' m n Q ok hm rep e kk => ?_⟩
  unfold gU at e
  split at e
  · rename_i ds
    split at e
    · rename_i hl
      simp only [Rep] at rep
      obtain ⟨a, xs, rfl, h1, h2⟩ := rep
      exact ⟨a, xs, rfl, ok.sub.seq h1, by rw [← RepL.length _ _ h2]; exact hl, s1 ds xs σ H w s s' m n Q ok hm h2 e kk⟩
    · cases e
  · cases e
end
end Qz
namespace Qz
open PySem PySem.Spec L2
open PyProof.Rows hiding St
/-! ## what is looked up in a set of int tuples: a tuple, or None -/
section
variable {P P0 : Program} {wo w0 : World} {A : Around} {E : Value → Shared → Prop} {s : Shared} {a : Addr} {L : List (Addr × List Int)} {es : Array (Int × Value)} {ep : Nat} {t : SetTable}
/-- the questions that a search asks about x, and their answers -/
structure Ask (P P0 : Program) (wo w0 : World) (A : Around) (s : Shared) (L : List (Addr × List Int)) (x : Value) (b : List Int → Bool) : Prop where
  eq : ∀ p ∈ L, PySem.SeqAt.EqAt A s (.ref p.1) x (b p.2)
  seen : ∀ (ys : List Value), (∀ y ∈ ys, ∃ k c, y = Value.ref c ∧ IsT P0 w0 s.heap k c) → ∀ (E : Value → Shared → Prop) (Q : Bool → Shared → Prop), Q false s → wpAny (model P wo) A (searchCouldBeSeen x ys) Q E s
/-- the c-th probe for the hash h -/
def prb (m : Nat) (h : Int) (c : Nat) : SetTable.Probe := nth m (runAt m (SetTable.bits h % (m + 1)) (SetTable.bits h)) c
theorem prb_j (m : Nat) (h : Int) (c : Nat) : (prb m h c).j = way m h c := rfl
theorem prb_add (m : Nat) (h : Int) (c d : Nat) : nth m (prb m h c) d = prb m h (c + d) := (nth_add m c _ d).symm
theorem prb_dummy (m : Nat) (h : Int) (c : Nat) : (prb m h c).dummy = none := by
  have go : ∀ (n : Nat) (p : SetTable.Probe), p.dummy = none → (nth m p n).dummy = none := fun n => by
    induction n with
    | zero => exact fun p e => e
    | succ n ih =>
      refine fun p e => ih (adv m p) ?_
      unfold adv
      split
      · exact e
      · exact e
  exact go c _ rfl
theorem row_hash (R : SetTR P0 w0 s.heap a L es ep t) {i : Nat} {p : Addr × List Int} (h : L[i]? = some p) : (es[i]?.map (·.1)).getD 0 = thash P0 w0 p.2 := by
  rw [R.entry h]; rfl
theorem look (R : SetTR P0 w0 s.heap a L es ep t) {x : Value} {h0 : Int} {b : List Int → Bool} (k : Ask P P0 wo w0 A s L x b) {N : Nat} (n1 : N < 10 * SetTable.turns t.mask) (n2 : way t.mask h0 N ∉ t.place.toList) (n3 : ∀ c, c < N → way t.mask h0 c ∈ t.place.toList)
    {Q : SetFound → Shared → Prop} (yes : (∃ p ∈ L, b p.2 = true) → ∀ i, Q (.there (some i)) s) (no : (∀ p ∈ L, thash P0 w0 p.2 = h0 → b p.2 = false) → ∀ j, Q (.free j false) s) :
    ∀ (f c : Nat) (st : Option SetTable.Probe), st.getD (t.probeStart h0) = prb t.mask h0 c → c ≤ N → N - c < f →
      (∀ (i : Nat) (p : Addr × List Int), L[i]? = some p → thash P0 w0 p.2 = h0 → b p.2 = true → ∃ d, c ≤ d ∧ d < N ∧ t.place.toList[i]? = some (way t.mask h0 d)) →
      wpAny (model P wo) A (setSearchFrom a x h0 false f st) Q E s := by
  intro f
  induction f with
  | zero => exact fun c st _ _ hf => absurd hf (Nat.not_lt_zero _)
  | succ f ih =>
    intro c st e0 hc hf ahead
    obtain ⟨o, ho, hx, hd⟩ := R.ob
    have spec := go_spec t R.tab.ris R.tab.dm (fun i => (es[i]?.map (·.1)).getD 0) h0 (10 * SetTable.turns t.mask) (N - c) (prb t.mask h0 c) (prb_dummy ..) (by omega)
      (fun q hq => by rw [prb_add]; exact n3 _ (by omega)) (by rw [prb_add, show c + (N - c) = N by omega]; exact n2)
    simp only [prb_add] at spec
    have hlen : t.place.toList.length = L.length := by
      have := R.tab.sz
      rw [List.length_map] at this
      rw [Array.length_toList, this]
    rw [setSearchFrom_succ]
    refine wpAny_bind (wpAny_setState_of ho hd R.fits ?_)
    dsimp only
    refine wp_if_neg R.gw ?_
    try refine wpAny_bind (wpAny_pure ?_)
    rw [e0]
    rcases spec with ⟨q, i, hq, hi, hh, fresh, pr⟩ | ⟨fresh, pr⟩
    · have hp : t.probe (fun i => (es[i]?.map (·.1)).getD 0) h0 (prb t.mask h0 c) = some (.candidate (prb t.mask h0 (c + q)).j i (prb t.mask h0 (c + (q + 1)))) := pr
      rw [hp]
      dsimp only
      have hiL : i < L.length := by
        have := (List.getElem?_eq_some_iff.mp hi).1
        omega
      obtain ⟨p, ep1⟩ : ∃ p, L[i]? = some p := ⟨_, List.getElem?_eq_getElem hiL⟩
      have pL : p ∈ L := List.mem_of_getElem? ep1
      have live := slot_live R.tab.ris hi
      have rest : wpAny (model P wo) A (searchRest a x h0 false f es t (prb t.mask h0 (c + q)).j i (prb t.mask h0 (c + (q + 1)))) Q E s := by
        unfold searchRest
        rw [R.entry ep1]
        dsimp only
        refine wpAny_bind (wpAny_holding (k.eq p pL P wo _ _ ?_))
        refine wpAny_bind (wpAny_setState_of ho hd R.fits ?_)
        dsimp only
        refine wp_if_neg (by simp) ?_
        try refine wpAny_bind (wpAny_pure ?_)
        rw [sameMem]
        dsimp only
        simp only [if_true, live, R.entry ep1]
        refine wpAny_bind (wpAny_isSame_ref_self (wpAny_bind (wpAny_pure ?_)))
        simp only [if_true]
        cases hb : b p.2 with
        | true =>
          refine wp_if_pos rfl ?_
          exact wpAny_pure (yes ⟨p, pL, hb⟩ i)
        | false =>
          refine wp_if_neg (by simp) ?_
          refine ih (c + (q + 1)) _ rfl (by omega) (by omega) fun i' p' e' h' b' => ?_
          obtain ⟨d, d1, d2, d3⟩ := ahead i' p' e' h' b'
          refine ⟨d, ?_, d2, d3⟩
          rcases Nat.lt_trichotomy d (c + q) with z | z | z
          · exact absurd ((row_hash R e').trans h') (fresh (d - c) i' (by omega) (by rw [show c + (d - c) = d by omega]; exact d3))
          · subst z
            have live' := slot_live R.tab.ris d3
            rw [show way t.mask h0 (c + q) = (prb t.mask h0 (c + q)).j from rfl, live] at live'
            injection live' with ei
            subst ei
            rw [ep1] at e'
            injection e' with e'
            subst e'
            rw [hb] at b'
            cases b'
          · omega
      by_cases hl : t.led = true
      · refine wp_if_neg (by simp [hl]) ?_
        try refine wpAny_bind (wpAny_pure ?_)
        exact rest
      · refine wp_if_pos (by simp [hl]) ?_
        refine wpAny_bind (k.seen _ (fun y hy => ?_) _ _ ?_)
        · obtain ⟨e, he, rfl⟩ := List.mem_map.mp hy
          have he : e ∈ es.toList := by
            have : e ∈ es ∧ e.1 = h0 := by simpa using he
            simpa using this.1
          rw [R.rows] at he
          obtain ⟨p2, hp2, rfl⟩ := List.mem_map.mp he
          exact ⟨p2.2, p2.1, rfl, R.tup p2 hp2⟩
        · refine wp_if_neg (by decide) ?_
          try refine wpAny_bind (wpAny_pure ?_)
          exact rest
    · have hp : t.probe (fun i => (es[i]?.map (·.1)).getD 0) h0 (prb t.mask h0 c) = some (.empty (prb t.mask h0 (c + (N - c))).j none) := pr
      rw [hp]
      dsimp only
      refine wpAny_pure (no (fun p hp h => ?_) _)
      cases hb : b p.2 with
      | false => rfl
      | true =>
        obtain ⟨i, hi, e⟩ := List.getElem_of_mem hp
        have e' : L[i]? = some p := by rw [List.getElem?_eq_getElem hi, e]
        obtain ⟨d, d1, d2, d3⟩ := ahead i p e' h hb
        exact absurd ((row_hash R e').trans h) (fresh (d - c) i (by omega) (by rw [show c + (d - c) = d by omega]; exact d3))
/-- the ints of a tuple are so in any world -/
theorem items_any {k : List Int} {vs : List Value} (h : ItemsAre (intKind P0 w0) k vs) : ItemsAre (intKind P wo) k vs := by
  induction h with
  | nil => exact .nil
  | cons h1 _ ih => exact .cons h1 ih
theorem isT_any {h : Heap} {k : List Int} {c : Addr} (x : IsT P0 w0 h k c) : IsT P wo h k c := by
  obtain ⟨o, its, n, h1, h2, h3, h4⟩ := x
  exact ⟨o, its, n, h1, h2, h3, items_any h4⟩
theorem thash_any (k : List Int) : thash P0 w0 k = thash P wo k := rfl
theorem nest_items {h : Heap} {k : List Int} {vs : List Value} (x : ItemsAre (intKind P0 w0) k vs) : NestedAll h (k.map NestedKey.num) vs := by
  induction x with
  | nil => exact .nil
  | cons h1 _ ih =>
    obtain ⟨tk, rfl⟩ := Value.isInt_shape h1
    exact .cons (.int _ _) ih
theorem nest_isT {h : Heap} {k : List Int} {c : Addr} (x : IsT P0 w0 h k c) : NestedIs h (.tup (k.map .num)) (.ref c) := by
  obtain ⟨o, its, n, h1, h2, h3, h4⟩ := x
  exact .tup h1 h2 h3 (nest_items h4)
/-- asked of a tuple -/
theorem askT (hu : A.units < cLine) {c : Addr} {k : List Int} (hL : ∀ p ∈ L, IsT P0 w0 s.heap p.2 p.1) (hc : IsT P0 w0 s.heap k c) : Ask P P0 wo w0 A s L (.ref c) fun l => decide (l = k) where
  eq := fun p hp P' w' E Q q => wpAny_eqBool_tuple (knd := intKind P' w') hu (isT_any (hL p hp)) (isT_any hc) q
  seen := fun ys hy E Q q => seen_tup (k := k) (isT_any hc) (fun y hy' => by
    obtain ⟨k', c', e, h⟩ := hy y hy'
    exact ⟨k', c', e, isT_any h⟩) q
theorem seen_none {ys : List Value} (hy : ∀ y ∈ ys, ∃ k c, y = Value.ref c ∧ IsT P wo s.heap k c) {Q : Bool → Shared → Prop} (q : Q false s) : wpAny (model P wo) A (searchCouldBeSeen .none ys) Q E s := by
  unfold searchCouldBeSeen
  refine wpAny_bind (wpAny_forIn_list _ (fun rest r s' => s' = s ∧ r.1 = none ∧ ∀ y ∈ rest, ∃ k c, y = Value.ref c ∧ IsT P wo s.heap k c) _ ?_ ?_ _ _ ⟨rfl, rfl, hy⟩)
  · rintro v rest r s' ⟨rfl, hr, hall⟩
    obtain ⟨k, c, rfl, hc⟩ := hall v List.mem_cons_self
    dsimp only
    refine wp_if_neg (by simp [carriedByValue]) ?_
    refine wpAny_bind ?_
    rw [eqIsQuiet_byValue 8 (v := .none) rfl]
    refine wpAny_pure ?_
    refine wp_if_neg (by decide) ?_
    try refine wpAny_bind (wpAny_pure ?_)
    refine wpAny_bind (wpAny_eqIsQuiet_tuple hc ?_)
    refine wp_if_neg (by decide) ?_
    try refine wpAny_bind (wpAny_pure ?_)
    refine wpAny_bind (ofAClass_tup hc ?_)
    refine wp_if_neg (by decide) ?_
    try refine wpAny_bind (wpAny_pure ?_)
    exact wpAny_pure ⟨rfl, rfl, fun u hu => hall u (List.mem_cons_of_mem _ hu)⟩
  · rintro ⟨r1, r2⟩ s' ⟨rfl, hr, _⟩
    simp only at hr
    subst hr
    exact wpAny_pure q
theorem askN (hu : A.units < cLine) (hL : ∀ p ∈ L, IsT P0 w0 s.heap p.2 p.1) : Ask P P0 wo w0 A s L .none fun _ => false where
  eq := fun p hp => (eqAt_key (.tup (p.2.map .num)) .none A s (.ref p.1) .none (nest_isT (hL p hp)) .none (by simpa [NestedKey.depth] using hu)).cast rfl
  seen := fun ys hy E Q q => seen_none (fun y hy' => by
    obtain ⟨k', c', e, h⟩ := hy y hy'
    exact ⟨k', c', e, isT_any h⟩) q
theorem ahead0 (R : SetTR P0 w0 s.heap a L es ep t) {h0 : Int} {N : Nat} (n2 : way t.mask h0 N ∉ t.place.toList) {i : Nat} {p : Addr × List Int} (e : L[i]? = some p) (h : thash P0 w0 p.2 = h0) : ∃ d, d < N ∧ t.place.toList[i]? = some (way t.mask h0 d) := by
  have hz := R.tab.sz
  have hi : (L.map fun p => thash P0 w0 p.2)[i]? = some h0 := by rw [List.getElem?_map, e, ← h]; rfl
  have hl : i < t.place.toList.length := by
    have := (List.getElem?_eq_some_iff.mp hi).1
    rw [Array.length_toList]
    omega
  obtain ⟨d, hd, e2⟩ := R.tab.before n2 hi (List.getElem?_eq_getElem hl)
  exact ⟨d, hd, by rw [List.getElem?_eq_getElem hl, e2]⟩
theorem find_in (R : SetTR P0 w0 s.heap a L es ep t) {x : Value} {h0 : Int} {b : List Int → Bool} (k : Ask P P0 wo w0 A s L x b) (hb : ∀ p ∈ L, b p.2 = true → thash P0 w0 p.2 = h0) (hx : x.scannable = true → x = .none)
    {Q : Option Nat → Shared → Prop} (q : ∀ r : Option Nat, r.isSome = L.any (fun p => b p.2) → Q r s) : wpAny (model P wo) A (setFind a x h0) Q E s := by
  obtain ⟨o, ho, hxs, hd⟩ := R.ob
  unfold setFind
  rw [show (100000 : Nat) = 99999 + 1 from rfl]
  unfold setFindIn
  refine wpAny_bind (wpAny_setState_of ho hd R.fits ?_)
  dsimp only
  by_cases hs : byScan x es = true
  · refine wp_if_pos hs ?_
    unfold byScan at hs
    simp only [Bool.and_eq_true] at hs
    have hn := hx hs.1.1
    subst hn
    have hL : L = [] := by
      cases L with
      | nil => rfl
      | cons p L =>
        have h1 := R.entry (i := 0) (p := p) rfl
        have h2 := Array.all_eq_true_iff_forall_mem.mp hs.2 _ (Array.mem_of_getElem? h1)
        cases h2
    have he : es.toList = [] := by rw [R.rows, hL]; rfl
    refine wpAny_bind (wpAny_rule ?_)
    refine wpAny_bind ?_
    show wpAny _ _ (setScanFrom a .none h0 false es.toList 0) _ E s
    rw [he]
    refine wpAny_pure ?_
    dsimp only
    exact wpAny_pure (q none (by rw [hL]; rfl))
  · refine wp_if_neg hs ?_
    try refine wpAny_bind (wpAny_pure ?_)
    have hroom := R.room
    obtain ⟨N, n1, n2, n3⟩ := R.tab.first (by rw [List.length_map]; omega) h0
    have hN : N < 100000 := by
      have : 10 * SetTable.turns t.mask ≤ 1420 := by
        unfold SetTable.turns
        rcases R.tab.mok with e | e | e <;> omega
      omega
    refine wpAny_bind ?_
    unfold setSearch
    refine look R k n1 n2 n3 ?yes ?no 100000 0 none rfl (Nat.zero_le _) (by omega) ?ah
    case yes =>
      rintro ⟨p, hp, h⟩ i
      exact wpAny_pure (q (some i) (by
        rw [Option.isSome_some]
        exact (List.any_eq_true.mpr ⟨p, hp, h⟩).symm))
    case no =>
      intro h j
      refine wpAny_pure (q none ?_)
      rw [Option.isSome_none]
      symm
      refine List.any_eq_false.mpr fun p hp h2 => ?_
      rw [h p hp (hb p hp h2)] at h2
      cases h2
    case ah =>
      intro i p e h _
      obtain ⟨d, h1, h2⟩ := ahead0 R n2 e h
      exact ⟨d, Nat.zero_le _, h1, h2⟩
/-- x in a set of int tuples -/
theorem in_set (R : SetTR P0 w0 s.heap a L es ep t) {x : Value} {h0 : Int} {n : Nat} {b : List Int → Bool} (hash : ∀ (E' : Value → Shared → Prop) (Q' : Int → Shared → Prop), Q' h0 { s with toks := s.toks + n } → wpAny (model P wo) A.in1 (pyHash x) Q' E' s)
    (k : Ask P P0 wo w0 A.in1 { s with toks := s.toks + n } L x b) (hb : ∀ p ∈ L, b p.2 = true → thash P0 w0 p.2 = h0) (hx : x.scannable = true → x = .none) {Q : Value → Shared → Prop}
    (q : Q (.bool (L.any fun p => b p.2)) { s with toks := s.toks + n }) : wpAny (model P wo) A (compareOp .In x (.ref a)) Q E s := by
  have hT : s.TypeIs (.ref a) "set" := by
    obtain ⟨o, ho, hc, _⟩ := R.ob
    exact ⟨o, ho, hc.1⟩
  show wpAny _ _ (do return .bool (← contains (.ref a) x)) Q E s
  unfold contains
  refine wpAny_bind ?_
  try refine wpAny_holding ?_
  refine wpAny_bind (wpAny_specialOf hT PySem.F.slot_set_contains.lookup ?_)
  refine wp_if_neg (by rw [beq_builtin_none]; exact Bool.false_ne_true) ?_
  refine wpAny_bind (wpAny_callSpecialUnlessNone?_slot (name := Str.ofString "__contains__") hT PySem.F.slot_set_contains (wpAny_call_entry PySem.F.slot_set_contains hT entry_set_contains ?_ (PySem.F.args_set_contains_2 _ _)))
  unfold Builtin.«frozenset.__contains__» Builtin.Frozenset.oneOther
  simp only [List.isEmpty_nil, bind_assoc]
  unfold Builtin.Frozenset.addrOf Builtin.Frozenset.withSetAsKey
  refine wpAny_bind (wpAny_pure ?_)
  try dsimp only
  refine wpAny_bind (wpAny_pure ?_)
  try dsimp only
  refine wpAny_bind (wpAny_tryCatch ?_)
  unfold setContains
  refine wpAny_holding (wpAny_bind (hash _ _ ?_))
  refine wpAny_bind (find_in (s := { s with toks := s.toks + n }) R k hb hx fun r hr => ?_)
  refine wpAny_pure ?_
  rw [hr]
  exact wpAny_pure ⟨_, rfl, wpAny_truthy_bool (wpAny_pure q)⟩
end
/-- a tuple of ints, or None, in a set of int tuples -/
def rInSet (K : PySem.W.Frag) : V → V → Hp → VK → Prop := fun x y H Q => ∃ (a : Addr) (P0 : Program) (w0 : World) (L : List (Addr × List Int)), y = V.ref a ∧ H a = some (SetTO P0 w0 a L) ∧ (∀ p ∈ L, SqT K H p.1 (p.2.map V.int)) ∧
  ((x = .non ∧ Q (.bl false) H) ∨ ∃ c k, x = V.ref c ∧ SqT K H c (k.map V.int) ∧ Q (.bl (decide (k ∈ L.map (·.2)))) H)
theorem or_inSet {X : Cx} (hu : X.A.units + 64 < cLine) : OpR X (compareOp .In) (rInSet X.K) := by
  intro pins s σ H x y v u Q I rx ry h
  obtain ⟨a, P0, w0, L, rfl, ha, hL, h⟩ := h
  cases ry
  have hu1 : X.A.in1.units < cLine := by
    show X.A.units + 1 < cLine
    omega
  have R0 : SetT0 P0 w0 s.heap a L := (I.hok a _ ha).1
  have hT : ∀ p ∈ L, IsT P0 w0 s.heap p.2 p.1 := fun p hp => isT_any (I.isT (hL p hp))
  obtain ⟨es, ep, t, R⟩ := R0.full hT
  rcases h with ⟨rfl, q⟩ | ⟨c, k, rfl, hc, q⟩
  · cases rx
    refine in_set R (n := 1) (h0 := NestedKey.hash X.w .none) (fun E' Q' q' => pyHash_key (w := X.w) .none .none X.A.in1 s Q' .none (by simpa [NestedKey.depth] using hu1) q') (askN (s := { s with toks := s.toks + 1 }) hu1 hT) (fun p _ e => nomatch e) (fun _ => rfl) ?_
    have e : (L.any fun _ => false) = false := List.any_eq_false.mpr fun p _ e => nomatch e
    rw [e]
    exact ⟨.bl false, H, I.tok _, rfl, q⟩
  · cases rx
    have hk : IsT P0 w0 s.heap k c := isT_any (I.isT hc)
    refine in_set R (n := k.length + 1) (h0 := thash P0 w0 k) (fun E' Q' q' => wpAny_pyHash_tuple (knd := intKind X.prog X.w) hu1 (isT_any hk) q') (askT (s := { s with toks := s.toks + (k.length + 1) }) hu1 hT hk) (fun p _ e => by rw [of_decide_eq_true e]) (fun e => nomatch e) ?_
    have e : (L.any fun p => decide (p.2 = k)) = decide (k ∈ L.map (·.2)) := by
      rw [Bool.eq_iff_iff, decide_eq_true_eq, List.any_eq_true]
      constructor
      · rintro ⟨p, hp, e⟩
        exact List.mem_map.mpr ⟨p, hp, of_decide_eq_true e⟩
      · intro h
        obtain ⟨p, hp, e⟩ := List.mem_map.mp h
        exact ⟨p, hp, decide_eq_true e⟩
    rw [e]
    exact ⟨.bl _, H, I.tok _, rfl, q⟩
end Qz
namespace Qz
open PySem PySem.Spec L2
open PyProof.Rows hiding St
/-! ## the set of a tuple of int tuples -/
abbrev newSet (wo : World) : Obj := { cls := .type "set", dict := none, data := .set #[] 0 (.fresh 0 0 (!wo.params.followText "set-order")) }
section
variable {P : Program} {wo : World} {A : Around} {E : Value → Shared → Prop} {s : Shared}
theorem absent_at {h : Heap} {c : Addr} (hc : h.objs.size ≤ c) : h.get? c = none := by
  cases e : h.get? c with
  | none => rfl
  | some o => exact absurd (Nat.lt_of_lt_of_le (Heap.lt_size e) hc) (Nat.lt_irrefl _)
theorem set_of_tuple {l : Addr} {items : Array Value} (ks : List (Addr × List Int)) {Q : Value → Shared → Prop} (hh : A.handled = none) (hl : s.heap.IsTuple l items) (hit : items.toList = ks.map fun p => Value.ref p.1)
    (hk : ∀ p ∈ ks, IsT P wo s.heap p.2 p.1) (few : ks.length < 64) (hu : A.units + 3 < cLine)
    (q : ∀ (h' : Heap) (tk : Nat) L es ep t, SetTR P wo h' s.heap.objs.size L es ep t → Got ks ks.length L → (∀ b o, s.heap.get? b = some o → h'.get? b = some o) → Q (.ref s.heap.objs.size) { s with heap := h', toks := tk }) :
    wpAny (model P wo) A (call (.type "set") [.ref l]) Q E s := by
  have size : items.size = ks.length := by
    rw [← Array.length_toList, hit, List.length_map]
  have itm : ∀ (i : Nat) (v : Value), items[i]? = some v → ∃ p, ks[i]? = some p ∧ v = .ref p.1 := fun i v hv => by
    have e : (ks.map fun p => Value.ref p.1)[i]? = some v := by rw [← hit, Array.getElem?_toList]; exact hv
    rw [List.getElem?_map] at e
    obtain ⟨p, e1, e2⟩ := Option.map_eq_some_iff.mp e
    exact ⟨p, e1, e2.symm⟩
  have hlS : l < s.heap.objs.size := by
    obtain ⟨o, ho, _⟩ := hl
    exact Heap.lt_size ho
  obtain ⟨c0, tl, hmro⟩ := F.called_set.mro
  have m1 := F.called_set.made
  have m2 := F.called_set.sub
  have m3 := F.called_set.notType
  have m4 := F.called_set.canCreate
  have m5 := F.typeCall_set_1 (.ref l)
  refine wpAny_call (codeAny_of_tree ?_)
  show wpAny _ _ (callAny (.type "set") _) _ _ _
  refine wpAny_pure ⟨Code.quiet_builtin _ (by decide +kernel), codeAny_builtin F.entry_type_call ?_⟩
  rw [Around.under_plain (weight_type_call_type "set" [.ref l] []) rfl]
  repeat (any_goals (first | assumption | wp_step))
  refine codeAny_mono (code_set_led1 (.ref l) (E := E) (Q₁ := fun v s₁ => v = .ref s.heap.objs.size ∧ s₁ = { s with heap := s.heap.push (newSet wo) }) ⟨rfl, rfl⟩) fun r s₁ hr => ?_
  have nS : (s.heap.push (newSet wo)).get? s.heap.objs.size = some (newSet wo) := Heap.get?_push_size _ rfl
  cases r with
  | error e => exact hr
  | ok fl =>
    cases fl with
    | ret obj =>
      obtain ⟨rfl, rfl⟩ := hr
      have tS : Shared.TypeIs { s with heap := s.heap.push (newSet wo) } (.ref s.heap.objs.size) "set" := ⟨_, nS, rfl⟩
      have i1 := F.called_set.init.lookup
      have i2 := F.called_set.init.bind (.ref s.heap.objs.size)
      repeat (any_goals (first | assumption | wp_step))
      refine codeAny_mono (codeAny_call_builtin (R := wants (fun r s₂ => r = .none ∧ ∃ h' tk L es ep t, s₂ = { s with heap := h', toks := tk } ∧ SetTR P wo h' s.heap.objs.size L es ep t ∧ Got ks ks.length L ∧ (∀ b o, s.heap.get? b = some o → h'.get? b = some o)) E)
        F.called_set.init.plain F.entry_set_init (check_set_init_1 tS ?_)) fun r₂ s₂ hr₂ => ?_
      · have l1 : (s.heap.push (newSet wo)).IsTuple l items := hl.push _
        obtain ⟨ol, hol, hcl, nl, hdl⟩ := l1
        obtain ⟨oc, od, oD, os⟩ := ol
        simp only at hcl hdl
        subst hcl; subst hdl
        have l2 : (s.heap.push (newSet wo)).IsTuple l items := hl.push _
        have b1 := F.sub_tuple_set
        have b2 := F.sub_tuple_frozenset
        have b3 : (Value.type "tuple" == Value.type "dict") = false := by decide
        unfold Builtin.«set.__init__» noKeywords Builtin.Frozenset.updateFrom
        generalize hPI : pyIter = PI
        wp_walk
        subst hPI
        refine wpAny_pyIter_tuple l2 (wpAny_bind (wpAny_runValue ?_))
        have hA : A.in1.in1.in1.handled = none := by simp [hh]
        have z : (s.heap.push (newSet wo)).objs.size = s.heap.objs.size + 1 := Heap.size_push ..
        have nI : l ≠ (s.heap.push (newSet wo)).objs.size := by rw [z]; exact Nat.ne_of_lt (Nat.lt_succ_of_lt hlS)
        refine set_update_tups ((Walks.tuple hA _ l nI items).toS) s.heap.objs.size (by
            simp only [List.mem_cons, List.not_mem_nil, or_false, not_or]
            rw [z]
            exact ⟨Nat.ne_of_lt (Nat.lt_succ_self _), Nat.ne_of_gt hlS⟩) ks size few itm s.heap hk (absent_at (Nat.le_refl _)) (fun b hb => absent_at (by
            rw [List.mem_singleton.mp hb, z]
            exact Nat.le_succ _)) hu (items.size - 0) 0 _ (by omega) (Nat.zero_le _) ⟨⟨_, Heap.get?_push_size _ rfl, rfl, rfl⟩, l2.push _⟩ (fun b o e => Heap.get?_push_of_some _ (Heap.get?_push_of_some _ e))
          ⟨[], #[], 0, _, setTR_fresh (Heap.get?_push_of_some _ nS), Got.zero ks⟩ ?_
        intro s' L es ep t hm hS g hkp
        obtain ⟨h', g2, d2, tk, os2⟩ := s'
        obtain rfl : g2 = s.gens := hm.gens
        obtain rfl : d2 = s.drawn := hm.drawn
        obtain rfl : os2 = s.os := hm.os
        rw [size] at g
        show wpAny _ _ _ _ _ _
        refine wpAny_pure ?_
        show wpAny _ _ (ret Value.none) _ _ _
        exact wpAny_pure ⟨rfl, h', tk, L, es, ep, t, rfl, hS, g, hkp⟩
      · cases r₂ with
        | error e => exact hr₂
        | ok f2 =>
          cases f2 with
          | ret r =>
            obtain ⟨rfl, h', tk, L, es, ep, t, rfl, hS, g, hkp⟩ := hr₂
            repeat (any_goals (first | assumption | wp_step))
            exact q _ _ _ _ _ _ hS g hkp
          | _ => exact hr₂.elim
    | _ => exact hr.elim
end
/-- set(xs), xs a tuple of tuples of ints -/
def rSetTup (K : PySem.W.Frag) (P : Program) (wo : World) : List V → Hp → VK → Prop := fun xs H Q => ∃ (l : Addr) (ks : List (Addr × List Int)), xs = [V.ref l] ∧ SqT K H l (ks.map fun p => V.ref p.1) ∧ (∀ p ∈ ks, SqT K H p.1 (p.2.map V.int)) ∧ ks.length < 64 ∧
  ∀ a L, H a = none → (∀ p ∈ L, p ∈ ks) → (∀ p ∈ ks, p.2 ∈ L.map (·.2)) → Q (.ref a) (upd H a (SetTO P wo a L))
theorem cr_setTup {X : Cx} (hc : X.calm = true) (hu : X.A.units + 64 < cLine) : CallR X (.type "set") (rSetTup X.K X.prog X.w) := by
  intro pins s σ H xs us Q I r h
  obtain ⟨l, ks, rfl, hl, hk, hf, q⟩ := h
  rw [Vals.ref1 r]
  obtain ⟨its, rv, pl, hz⟩ := I.tuple hl
  have hn : H s.heap.objs.size = none := I.hok.fresh (Nat.le_refl _)
  have hp : s.heap.IsTuple l its.toArray := by
    obtain ⟨o, e, c, n, d⟩ := pl
    exact ⟨o, e, c, n, d⟩
  refine set_of_tuple (P := X.prog) (wo := X.w) ks (I.ok.hd hc) hp (by simpa using refs_of_vals rv) (fun p h => I.isT (hk p h)) hf (by omega) fun h' tk L es ep t R g k => ?_
  exact ⟨.ref s.heap.objs.size, upd H s.heap.objs.size (SetTO X.prog X.w s.heap.objs.size L), I.laid (t' := tk) k (Nat.le_refl _) (setTO_new R.t0), rfl,
    q _ L hn (fun p hp => List.mem_of_mem_take (g.sub p hp)) fun p hp => g.all p (by rw [List.take_length]; exact hp)⟩
end Qz
namespace Qz
open PySem PySem.Spec L2
open PyProof.Rows hiding St
/-! ## a name that holds a set of int tuples -/
theorem repI_vals {K : PySem.W.Frag} {F : Hp} : ∀ (k : List Int) (ys : List V), RepL K F (k.map PyData.int) ys → ys = k.map V.int
  | [], ys, h => by
    simp only [List.map_nil, RepL] at h
    exact h
  | n :: k, ys, h => by
    simp only [List.map_cons, RepL, Rep] at h
    obtain ⟨x, r, rfl, rfl, h2⟩ := h
    rw [repI_vals k r h2]; rfl
theorem rep_tups {K : PySem.W.Frag} {F : Hp} : ∀ (ls : List (List Int)) (xs : List V), RepL K F (ls.map dTupI) xs → ∃ ks : List (Addr × List Int), xs = ks.map (fun p => V.ref p.1) ∧ (∀ p ∈ ks, F p.1 = some (.tup (p.2.map V.int))) ∧ ks.map (·.2) = ls
  | [], xs, h => by
    simp only [List.map_nil, RepL] at h
    exact ⟨[], h, fun p hp => (nomatch hp), rfl⟩
  | l :: ls, xs, h => by
    simp only [List.map_cons, RepL, dTupI, Rep] at h
    obtain ⟨x, r, rfl, ⟨a, ys, rfl, h1, h2⟩, h3⟩ := h
    obtain ⟨ks, rfl, h4, h5⟩ := rep_tups ls r h3
    rw [repI_vals l ys h2] at h1
    refine ⟨(a, l) :: ks, rfl, fun p hp => ?_, by rw [List.map_cons, h5]⟩
    rcases List.mem_cons.mp hp with rfl | hp
    · exact h1
    · exact h4 p hp
def mSetSet (i : Nat) (ms : MA) : MS := fun s => match ms s with
  | .no => .no
  | .ok rs s1 => match takes s1 rs with
    | some ([.tuple ds], s2) => match tupsI? ds, s2.a[i]? with
      | some ls, some none => if ls.length < 64 then .ok .nx { s2 with a := s2.a.set i (some (.st ls)) } else .no
      | _, _ => .no
    | _ => .no
section
variable {K : PySem.W.Frag} {t : Nat} {w : Wd} {H : Hp} {σ : St} {s : S}
theorem st_ok {i : Nat} {a : Addr} {ls : List (List Int)} (ok : OKs K w H σ s t) (h : SetIn w.F a ls) : OKs K w H (σ.set i (some (.ref a))) { s with a := s.a.set i (some (.st ls)) } t := by
  refine ⟨ok.sub, by simp [ok.len], fun k q v h1 h2 => ?_, ok.own, by simpa using ok.tN, ok.box, ok.nob⟩
  rcases set_get h1 with ⟨rfl, rfl⟩ | ⟨hk, h3⟩
  · rcases set_get h2 with ⟨_, rfl⟩ | ⟨hk, _⟩
    · exact ⟨a, rfl, h⟩
    · exact absurd rfl hk
  · rcases set_get h2 with ⟨rfl, _⟩ | ⟨_, h4⟩
    · exact absurd rfl hk
    · exact ok.sl k q v h3 h4
end
section
variable {X : Cx} {e : Expr} {ms : MA} {m : ME} {p2 q pos : Pos}
theorem rs_setSet {k i : Nat} {x : Str} {pos' : Pos} (hr : Here X k) (hc : X.calm = true) (hN : X.N.Nodup) (hi : X.N[i]? = some x) (hx : Loc X.env.scope x) (hm2 : X.mg "set" = none) (ha : RA X [e] ms) (hg2 : Gl X "set" := by rfl) (he : starEach [e] X.env = [(false, eval e X.env)] := by rfl)
    (hs : swapsWith (.Call (.Name "set" p2) [e] [] q) (some (.Name x pos')) pos.line X.env = pure false := by rfl) (hf : X.fn x = true ∨ X.env.scope.names.lookup x = some .local := by first | exact .inl rfl | exact .inr rfl | assumption) :
    RS X (.Assign [.Name x pos'] (.Call (.Name "set" p2) [e] [] q) pos) (mSetSet i ms) := by
  obtain ⟨ta, p1, sa⟩ := ha
  refine ⟨_, ps_set hN hi hx (pe_callTy (cr_setTup hc hr.un64) hg2 hm2 (by decide +kernel) p1 (by decide) (by decide) he rfl) hs hf, fun σ H w s D f s' ok e0 kk => ?_⟩
  unfold mSetSet at e0
  split at e0
  · cases e0
  · rename_i rs s1 e1
    split at e0
    · rename_i ds s2 e2
      split at e0
      · rename_i ls e3 e4
        split at e0
        · rename_i hl
          cases e0
          refine sa σ H w s s.a.length _ rs s1 ok e1 fun w1 H1 us t1 a1 ok1 st1 sl1 rel1 => ?_
          have l1 := ok.slen ok1
          obtain ⟨w2, ok2, st2, rep, sl2, l2⟩ := takes_ok (t0 := s.a.length) rs us _ _ _ _ _ ok1 rel1 e2 (Nat.le_refl _) (Nat.le_of_eq l1)
          simp only [RepL, Rep] at rep
          obtain ⟨_, _, rfl, ⟨l, xs, rfl, h1, h2⟩, rfl⟩ := rep
          obtain ⟨rfl, _⟩ := tupsI_eq e3
          obtain ⟨ks, rfl, h3, rfl⟩ := rep_tups ls xs h2
          rw [List.length_map] at hl
          refine ⟨l, ks, rfl, SqT.of (ok2.sub _ _ h1), fun p hp => SqT.of (ok2.sub _ _ (h3 p hp)), hl, fun a L hn m1 m2 => ?_⟩
          have ok3 := lay_ok (o := SetTO X.prog X.w a L) ok2 hn
          have hF : w2.F a = none := by
            cases z : w2.F a with
            | none => rfl
            | some u => have := ok2.sub a u z; rw [hn] at this; cases this
          have hin : SetIn (w2.lay a (SetTO X.prog X.w a L)).F a (ks.map (·.2)) := by
            refine ⟨X.prog, X.w, L, upd_same, fun p hp => ?_, fun k => ⟨fun h => ?_, fun h => ?_⟩⟩
            · have := h3 p (m1 p hp)
              show upd w2.F a _ p.1 = _
              rw [upd_ne (ne_of_none this hF)]
              exact this
            · obtain ⟨p, hp, e⟩ := List.mem_map.mp h
              exact List.mem_map.mpr ⟨p, m1 p hp, e⟩
            · obtain ⟨p, hp, e⟩ := List.mem_map.mp h
              rw [← e]
              exact m2 p hp
          have ok4 := drop_ok (st_ok (i := i) ok3 hin) (n := s.a.length) (by rw [List.length_set]; omega)
          rw [l1] at st2
          exact kk.nx rfl _ _ _ ok4 (by rw [List.length_set]; omega) (((st1.trans st2).trans (lay_step ok2 hn)).trans drop_step)
        · cases e0
      · cases e0
    · cases e0
/-- x in a set that a name holds; x is None or a tuple of ints -/
def mInSet (m : ME) (i : Nat) : ME := fun s => match m s with
  | .ok (.d x) s1 => match s1.a[i]? with
    | some (some (.st ls)) => match x with
      | .none => .ok (.d (.bool false)) s1
      | x => match tupI? x with
        | some k => .ok (.d (.bool (decide (k ∈ ls)))) s1
        | none => .no
    | _ => .no
  | _ => .no
theorem inSet_snd {t1 : TE} (h1 : SndE X.K t1 m) (i : Nat) : SndE X.K (tOp (rInSet X.K) t1 (tVar i)) (mInSet m i) := fun σ H w s t Q r s' ok e k => by
  unfold mInSet at e
  split at e
  · rename_i x' s1 e1
    split at e
    · rename_i ls e2
      refine h1 σ H w s t _ (.d x') s1 ok e1 fun w1 H1 u t2 τ a1 a2 ok1 st1 sl1 rel1 => ?_
      have rel1 : Rep X.K w1.F x' u := rel1
      have hl : i < σ.length := by
        rw [ok1.len]
        exact (List.getElem?_eq_some_iff.mp e2).1
      have hσ : σ[i]? = some σ[i] := List.getElem?_eq_getElem hl
      obtain ⟨b, eb, P0, w0, L, g1, g2, g3⟩ := ok1.sl i _ _ e2 hσ
      rw [eb] at hσ
      refine ⟨.ref b, hσ, b, P0, w0, L, rfl, ok1.sub _ _ g1, fun p hp => SqT.of (ok1.sub _ _ (g2 p hp)), ?_⟩
      split at e
      · cases e
        have rel2 : u = V.non := by
          first
            | exact rel1
            | simpa only [Rep] using rel1
        exact .inl ⟨rel2, k w1 H1 _ t2 τ a1 a2 ok1 st1 sl1 (by simp only [RelR, Rep])⟩
      · rename_i hne
        split at e
        · rename_i kk e3
          cases e
          obtain ⟨rfl, _⟩ := tupI_eq e3
          simp only [dTupI, Rep] at rel1
          obtain ⟨c, ys, rfl, h3, h4⟩ := rel1
          rw [repI_vals kk ys h4] at h3
          refine .inr ⟨c, kk, rfl, SqT.of (ok1.sub _ _ h3), ?_⟩
          have e5 : decide (kk ∈ L.map (·.2)) = decide (kk ∈ ls) := decide_eq_decide.mpr (g3 kk)
          rw [e5]
          exact k w1 H1 _ t2 τ a1 a2 ok1 st1 sl1 (by simp only [RelR, Rep])
        · cases e
    · cases e
  · cases e
theorem re_inSet {n : Nat} (hr : Here X n) {a : Expr} {p : Pos} (ha : RE X a m) (i : Nat) {x : Str} (hN : X.N[i]? = some x := by rfl) (hv : Vis X.env.scope x := by first | exact Or.inl rfl | exact Or.inr (Or.inl rfl) | exact Or.inr (Or.inr rfl)) (hd : (x == ("__debug__" : Str)) = false := by decide)
    (hcd : (x == ("__classdict__" : Str)) = false := by decide) (hm : behindInMarks .In (.Name x p) = false := by rfl) : RE X (.Compare a [.In] [.Name x p] pos) (mInSet m i) := by
  obtain ⟨t1, p1, h1⟩ := ha
  exact ⟨_, pe_cmpR (or_inSet hr.un64) p1 (pe_var hN hv hd hcd) hm, inSet_snd h1 i⟩
theorem rt_inSet {n : Nat} (hr : Here X n) {a : Expr} {p : Pos} (ha : RE X a m) (i : Nat) {x : Str} (hN : X.N[i]? = some x := by rfl) (hv : Vis X.env.scope x := by first | exact Or.inl rfl | exact Or.inr (Or.inl rfl) | exact Or.inr (Or.inr rfl)) (hd : (x == ("__debug__" : Str)) = false := by decide)
    (hcd : (x == ("__classdict__" : Str)) = false := by decide) (hm : behindInMarks .In (.Name x p) = false := by rfl) : RT X (.Compare a [.In] [.Name x p] pos) (mB (mInSet m i)) := by
  obtain ⟨t1, p1, h1⟩ := ha
  exact ⟨_, pt_cmpR (or_inSet hr.un64) p1 (pe_var hN hv hd hcd) hm, b_ok (inSet_snd h1 i)⟩
end
end Qz
namespace Qz
open PySem PySem.Spec L2
open PyProof.Rows hiding St
/-! ## a list of one's own, read as data while an expression runs and one's own again behind it -/
def noOther (a : List (Option R)) (i : Nat) : Bool := (List.range a.length).all fun j => j == i || match a[j]? with
  | some (some (.o _)) => false
  | _ => true
theorem noOther_at {a : List (Option R)} {i j : Nat} {c : C} (h : noOther a i = true) (e : a[j]? = some (some (.o c))) : j = i := by
  have hl := (List.getElem?_eq_some_iff.mp e).1
  have := List.all_eq_true.mp h j (List.mem_range.mpr hl)
  rw [e] at this
  simpa using this
def mThaw (i : Nat) (m : ME) : ME := fun s => match s.a[i]? with
  | some (some (.o (.lst ds))) => if noOther s.a i = true then match m { s with a := s.a.set i (some (.d (.list ds))) } with
    | .ok (.o (.lst acc)) s2 => match intsD? acc with
      | some _ => .ok (.o (.lst acc)) { s with b := s2.b }
      | none => .no
    | _ => .no else .no
  | _ => .no
theorem repI_of {K : PySem.W.Frag} {F G : Hp} : ∀ (acc : List D) (is : List Int) (ys : List V), intsD? acc = some is → RepL K F acc ys → RepL K G acc ys
  | [], _, ys, _, h => h
  | .int n :: r, is, ys, e, h => by
    simp only [intsD?, Option.map_eq_some_iff] at e
    obtain ⟨js, e2, _⟩ := e
    simp only [RepL, Rep] at h ⊢
    obtain ⟨x, q, rfl, h1, h2⟩ := h
    exact ⟨x, q, rfl, h1, repI_of r js q e2 h2⟩
  | .none :: _, _, _, e, _ => by cases e
  | .bool _ :: _, _, _, e, _ => by cases e
  | .str _ :: _, _, _, e, _ => by cases e
  | .list _ :: _, _, _, e, _ => by cases e
  | .tuple _ :: _, _, _, e, _ => by cases e
  | .dict _ :: _, _, _, e, _ => by cases e
theorem same_none {F G : Hp} {a : Addr} (e : Same F G) (h : G a = none) : F a = none := by
  cases z : F a with
  | none => rfl
  | some o => have := e a o z; rw [h] at this; cases this
def Wd.thaw (w w2 : Wd) (a r : Addr) (i τ n : Nat) : Wd := { F := w.F, B := w2.B, O := fun b => if b = a then some i else if b = r then some τ else match w.O b with
  | some j => if n ≤ j then some j else none
  | none => none }
theorem thaw_of {w w2 : Wd} {a r b : Addr} {i τ n j : Nat} (h : (w.thaw w2 a r i τ n).O b = some j) : (b = a ∧ j = i) ∨ (b ≠ a ∧ b = r ∧ j = τ) ∨ (b ≠ a ∧ b ≠ r ∧ w.O b = some j ∧ n ≤ j) := by
  have h' : (if b = a then some i else if b = r then some τ else match w.O b with
    | some j => if n ≤ j then some j else none
    | none => none) = some j := h
  by_cases c1 : b = a
  · rw [if_pos c1] at h'
    cases h'
    exact .inl ⟨c1, rfl⟩
  · rw [if_neg c1] at h'
    by_cases c2 : b = r
    · rw [if_pos c2] at h'
      cases h'
      exact .inr (.inl ⟨c1, c2, rfl⟩)
    · rw [if_neg c2] at h'
      split at h'
      · rename_i k e
        split at h'
        · cases h'
          exact .inr (.inr ⟨c1, c2, e, by assumption⟩)
        · cases h'
      · cases h'
theorem thaw_snd {K : PySem.W.Frag} {te : TE} {m : ME} (h1 : SndE K te m) (i : Nat) : SndE K te (mThaw i m) := fun σ H w s t Q r s' ok e k => by
  unfold mThaw at e
  split at e
  · rename_i ds e1
    split at e
    · rename_i hno
      split at e
      · rename_i acc s2 e2
        split at e
        · rename_i is e3
          cases e
          have hil : i < s.a.length := (List.getElem?_eq_some_iff.mp e1).1
          have hσl : i < σ.length := by rw [ok.len]; exact hil
          have hσ : σ[i]? = some σ[i] := List.getElem?_eq_getElem hσl
          obtain ⟨u, eu, a, xs, rfl, hO, hH, hR⟩ := ok.sl i _ _ e1 hσ
          obtain ⟨hFa, _, hit⟩ := ok.own a i hO
          have tN := ok.tN
          have sm := freeze_same (o := .lst xs) hFa
          have okf : OKs K (w.freeze a (.lst xs)) H σ { s with a := s.a.set i (some (.d (.list ds))) } t := freeze_ok ok hO hH rfl (by simp) fun j q v q1 q2 => by
            rcases set_get q1 with ⟨rfl, rfl⟩ | ⟨hk, q3⟩
            · rw [hσ] at q2
              cases q2
              rw [eu]
              refine .inr ⟨.list ds, _, rfl, rfl, ?_⟩
              simp only [Rep]
              exact ⟨a, xs, rfl, .inl (.inl upd_same), RepL.mono sm ds xs hR⟩
            · exact .inl ⟨q3, fun _ _ => hk⟩
          refine h1 σ H _ _ t _ _ s2 okf e2 fun w2 H2 x t2 τ b1 b2 ok2 st2 sl2 rel2 => ?_
          rw [List.length_set] at st2
          obtain ⟨r', ys, rfl, r1, r2, r3⟩ := rel2
          have sF : Same w.F w2.F := fun b o h => st2.F b o (sm b o h)
          have sH : Same w.F H2 := fun b o h => ok2.sub b o (sF b o h)
          have fa : w2.F a = some (.lst xs) := st2.F a _ upd_same
          have ha2 : H2 a = some (.lst xs) := ok2.sub _ _ fa
          have fr : w2.F r' = none := (ok2.own r' τ r1).1
          have ra : r' ≠ a := fun z => by rw [z, fa] at fr; cases fr
          have fO : ∀ b, b ≠ a → (w.freeze a (.lst xs)).O b = w.O b := fun b hb => if_neg hb
          have nb : ∀ b j, w.O b = some j → ¬ isBox w.B b := fun b j h ⟨p, g, e, z⟩ => by
            obtain ⟨_, z1, z2⟩ := ok.box p g e
            rcases z with rfl | rfl
            · rw [h] at z1; cases z1
            · rw [h] at z2; cases z2
          have tm : ∀ b j, w.O b = some j → s.a.length ≤ j → b ≠ a ∧ w2.O b = some j ∧ j < t := fun b j h hj => by
            have hb : b ≠ a := fun z => by rw [z, hO] at h; cases h; omega
            have hjt := (ok.own b j h).2.2
            exact ⟨hb, st2.tmp b j (by rw [fO b hb]; exact h) hj hjt, hjt⟩
          have th : ∀ b j, w.O b = some j → s.a.length ≤ j → (w.thaw w2 a r' i τ s.a.length).O b = some j := fun b j h hj => by
            obtain ⟨hb, h2, _⟩ := tm b j h hj
            show (if b = a then some i else if b = r' then some τ else match w.O b with
              | some j => if s.a.length ≤ j then some j else none
              | none => none) = some j
            rw [if_neg hb]
            by_cases c : b = r'
            · rw [if_pos c]
              rw [c, r1] at h2
              exact h2
            · rw [if_neg c, h]
              exact if_pos hj
          refine k (w.thaw w2 a r' i τ s.a.length) H2 (.ref r') t2 τ b1 b2 ⟨sH, ok.len, fun j q v q1 q2 => ?_, fun b j e => ?_, by show s.a.length ≤ t2; omega, fun p g e => ?_, ok2.nob⟩ ⟨Same.refl _, fun b o h h2 h3 => ?_, st2.there, fun b j h hj _ => th b j h hj, fun b h => .inl h, fun b j h => ?_, fun b j h hj => ?_, st2.B⟩ (fun j q h => ⟨q, h⟩)
            ⟨r', ys, rfl, by show (if r' = a then some i else if r' = r' then some τ else _) = some τ; rw [if_neg ra, if_pos rfl], r2, repI_of acc is ys e3 r3⟩
          · have hs := ok.sl j q v q1 q2
            cases q with
            | none => trivial
            | some q =>
              cases q with
              | d y => exact hs
              | o c =>
                have := noOther_at hno q1
                subst this
                have q1' : s.a[j]? = some (some (.o c)) := q1
                rw [e1] at q1'
                cases q1'
                rw [hσ] at q2
                cases q2
                exact ⟨.ref a, eu, a, xs, rfl, if_pos rfl, ha2, hR⟩
              | sl _ => exact hs
              | bx =>
                obtain ⟨p, g, z, hv⟩ := hs
                rcases st2.B with z2 | ⟨z2, _⟩
                · exact ⟨p, g, z2.trans z, hv⟩
                · rw [show (w.freeze a (.lst xs)).B = w.B from rfl, z] at z2
                  cases z2
              | st _ => exact hs
          · rcases thaw_of e with ⟨rfl, rfl⟩ | ⟨_, rfl, rfl⟩ | ⟨c1, c2, h, hj⟩
            · exact ⟨hFa, ⟨_, ha2, fun _ z => by cases z⟩, by omega⟩
            · exact ⟨same_none sF fr, ⟨_, r2, fun _ z => by cases z⟩, b2⟩
            · obtain ⟨o1, ⟨o, o2, o3⟩, o4⟩ := ok.own b j h
              exact ⟨o1, ⟨o, st2.keep b o o2 (fun l hl => by rw [fO b c1, h] at hl; cases hl; exact ⟨hj, o4⟩) (nb b j h), o3⟩, by omega⟩
          · obtain ⟨bo, z1, z2⟩ := ok2.box p g e
            have none_at : ∀ b, w2.F b = none → w2.O b = none → (w.thaw w2 a r' i τ s.a.length).O b = none := fun b f o => by
              cases z : (w.thaw w2 a r' i τ s.a.length).O b with
              | none => rfl
              | some j =>
                rcases thaw_of z with ⟨rfl, _⟩ | ⟨_, rfl, _⟩ | ⟨_, _, h, hj⟩
                · rw [fa] at f; cases f
                · rw [r1] at o; cases o
                · rw [(tm b j h hj).2.1] at o; cases o
            exact ⟨⟨same_none sF bo.fp, same_none sF bo.fg, bo.ne, bo.hp, bo.hg⟩, none_at p bo.fp z1, none_at g bo.fg z2⟩
          · refine st2.keep b o h (fun l hl => ?_) h3
            by_cases hb : b = a
            · have hl : (if b = a then none else w.O b) = some l := hl
              rw [if_pos hb] at hl
              cases hl
            · rw [fO b hb] at hl
              exact h2 l hl
          · rcases thaw_of h with ⟨rfl, rfl⟩ | ⟨_, rfl, rfl⟩ | ⟨c1, c2, h, hj⟩
            · exact .inr (by rw [hO]; simp)
            · rcases st2.newO _ _ r1 with z | z
              · exact .inl z
              · exact .inr (by rw [fO _ ra] at z; exact z)
            · exact .inr (by rw [h]; simp)
          · rcases thaw_of h with ⟨rfl, rfl⟩ | ⟨_, rfl, rfl⟩ | ⟨c1, c2, h, hj⟩
            · omega
            · rcases st2.newT _ _ r1 (by omega) with z | z
              · exact .inl z
              · exact .inr (by rw [fO _ ra] at z; exact z)
            · exact .inr h
        · cases e
      · cases e
    · cases e
  · cases e
theorem re_thaw {X : Cx} {e : Expr} {m : ME} (i : Nat) (h : RE X e m) : RE X e (mThaw i m) := by
  obtain ⟨t, p, s⟩ := h
  exact ⟨t, p, thaw_snd s i⟩
end Qz
namespace Qz
open PySem PySem.Spec L2
open PyProof.Rows hiding St
/-! ## what a run comes to: the first step of each kind -/
structure Ok {α : Type} (o : Out α) (Q : α → S → Prop) : Prop where
  ex : ∃ a s, o = .ok a s ∧ Q a s
structure OkF (o : OutF) (Q : R → Bx → Prop) : Prop where
  ex : ∃ a s, o = .ok a s ∧ Q a s
theorem Ok.of {α : Type} {o : Out α} {a : α} {s : S} {Q : α → S → Prop} (e : o = .ok a s) (q : Q a s) : Ok o Q := ⟨a, s, e, q⟩
theorem Ok.get {α : Type} {o : Out α} {Q : α → S → Prop} (h : Ok o Q) : ∃ a s, o = .ok a s ∧ Q a s := h.ex
theorem OkF.of {o : OutF} {a : R} {s : Bx} {Q : R → Bx → Prop} (e : o = .ok a s) (q : Q a s) : OkF o Q := ⟨a, s, e, q⟩
theorem OkF.get {o : OutF} {Q : R → Bx → Prop} (h : OkF o Q) : ∃ a s, o = .ok a s ∧ Q a s := h.ex
theorem Ok.mono {α : Type} {o : Out α} {Q Q' : α → S → Prop} (h : Ok o Q) (m : ∀ a s, Q a s → Q' a s) : Ok o Q' := let ⟨a, s, e, q⟩ := h.ex; ⟨a, s, e, m a s q⟩
theorem OkF.mono {o : OutF} {Q Q' : R → Bx → Prop} (h : OkF o Q) (m : ∀ a s, Q a s → Q' a s) : OkF o Q' := let ⟨a, s, e, q⟩ := h.ex; ⟨a, s, e, m a s q⟩
/-- whatever the box holds, the def answers so -/
structure Gv (f : DF) (args : List R) (P : R → Prop) : Prop where
  all : ∀ b, OkF (f args b) fun r _ => P r
theorem Gv.mono {f : DF} {args : List R} {P P' : R → Prop} (h : Gv f args P) (m : ∀ r, P r → P' r) : Gv f args P' := ⟨fun b => (h.all b).mono fun r _ => m r⟩
theorem Gv.of {f : DF} {args : List R} {P : R → Prop} (h : ∀ b, ∃ r b', f args b = .ok r b' ∧ P r) : Gv f args P := ⟨fun b => ⟨h b⟩⟩
theorem Gv.eqv {f : DF} {args : List R} {r : R} (h : ∀ b, f args b = .ok r b) : Gv f args (· = r) := .of fun b => ⟨r, b, h b, rfl⟩
section
variable {s s1 s2 : S} {r : R}
theorem k_C {x : D} {Q : R → S → Prop} (q : Q (.d x) s) : Ok (mC x s) Q := .of rfl q
theorem k_varD {i : Nat} {x : D} {Q : R → S → Prop} (h : s.a[i]? = some (some (.d x))) (q : Q (.d x) s) : Ok (mVar i s) Q := by
  refine .of ?_ q
  unfold mVar; rw [h]
theorem k_varO {i : Nat} {c : C} {Q : R → S → Prop} (h : s.a[i]? = some (some (.o c))) (q : Q (.sl i) s) : Ok (mVar i s) Q := by
  refine .of ?_ q
  unfold mVar; rw [h]
theorem k_varB {i : Nat} {Q : R → S → Prop} (h : s.a[i]? = some (some .bx)) (q : Q .bx s) : Ok (mVar i s) Q := by
  refine .of ?_ q
  unfold mVar; rw [h]
theorem k_nil {Q : List R → S → Prop} (q : Q [] s) : Ok (mNil s) Q := .of rfl q
theorem k_cons {m : ME} {ms : MA} {Q : List R → S → Prop} (h : Ok (m s) fun r s1 => Ok (ms s1) fun rs s2 => Q (r :: rs) s2) : Ok (mCons m ms s) Q := by
  obtain ⟨r, s1, e, h⟩ := h.get
  obtain ⟨rs, s2, e2, h⟩ := h.get
  unfold mCons
  simp only [e, e2]
  exact .of rfl (h)
def kData (f : List D → Option R) (Q : R → S → Prop) (rs : List R) (s : S) : Prop := ∃ xs s2 r, takes s rs = some (xs, s2) ∧ f xs = some r ∧ Q r s2
theorem kData.mk {f : List D → Option R} {Q : R → S → Prop} {rs : List R} {xs : List D} (h1 : takes s rs = some (xs, s2)) (h2 : f xs = some r) (q : Q r s2) : kData f Q rs s := ⟨xs, s2, r, h1, h2, q⟩
theorem k_data {ms : MA} {f : List D → Option R} {Q : R → S → Prop} (h : Ok (ms s) (kData f Q)) : Ok (mData ms f s) Q := by
  obtain ⟨rs, s1, e, xs, s2, r, h1, h2, q⟩ := h.get
  unfold mData
  simp only [e, h1, h2]
  exact .of rfl (q)
theorem k_tup {ms : MA} {Q : R → S → Prop} (h : Ok (ms s) (kData dTup Q)) : Ok (mTup ms s) Q := k_data h
theorem k_lst {ms : MA} {Q : R → S → Prop} (h : Ok (ms s) (kData dLst Q)) : Ok (mLst ms s) Q := k_data h
theorem big : 100000 ≤ sizeLine := by decide
theorem dTup_le {xs : List D} (h : xs.length ≤ 1000) : dTup xs = some (.d (.tuple xs)) := if_pos (Nat.le_trans h (Nat.le_trans (by decide) big))
theorem dLst_le {xs : List D} (h : xs.length ≤ 1000) : dLst xs = some (.o (.lst xs)) := if_pos (Nat.le_trans h (Nat.le_trans (by decide) big))
def kOp (f : D → D → Option R) (Q : R → S → Prop) (r1 r2 : R) (s : S) : Prop := ∃ x y r, view s r1 = some x ∧ view s r2 = some y ∧ f x y = some r ∧ Q r s
theorem kOp.mk {f : D → D → Option R} {Q : R → S → Prop} {r1 r2 : R} {x y : D} (h1 : view s r1 = some x) (h2 : view s r2 = some y) (h3 : f x y = some r) (q : Q r s) : kOp f Q r1 r2 s := ⟨x, y, r, h1, h2, h3, q⟩
theorem k_op {f : D → D → Option R} {m1 m2 : ME} {Q : R → S → Prop} (h : Ok (m1 s) fun r1 s1 => Ok (m2 s1) fun r2 s2 => kOp f Q r1 r2 s2) : Ok (mOp f m1 m2 s) Q := by
  obtain ⟨r1, s1, e, h⟩ := h.get
  obtain ⟨r2, s2, e2, x, y, r, h1, h2, h3, q⟩ := h.get
  unfold mOp
  simp only [e, e2, h1, h2, h3]
  exact .of rfl (q)
def kUn (f : D → Option R) (Q : R → S → Prop) (r1 : R) (s : S) : Prop := ∃ x r, view s r1 = some x ∧ f x = some r ∧ Q r s
theorem kUn.mk {f : D → Option R} {Q : R → S → Prop} {r1 : R} {x : D} (h1 : view s r1 = some x) (h3 : f x = some r) (q : Q r s) : kUn f Q r1 s := ⟨x, r, h1, h3, q⟩
theorem k_un {f : D → Option R} {m1 : ME} {Q : R → S → Prop} (h : Ok (m1 s) (kUn f Q)) : Ok (mUn f m1 s) Q := by
  obtain ⟨r1, s1, e, x, r, h1, h3, q⟩ := h.get
  unfold mUn
  simp only [e, h1, h3]
  exact .of rfl (q)
def kB (Q : Bool → S → Prop) (r : R) (s : S) : Prop := ∃ b, r = .d (.bool b) ∧ Q b s
theorem kB.mk {b : Bool} {Q : Bool → S → Prop} (q : Q b s) : kB Q (.d (.bool b)) s := ⟨b, rfl, q⟩
theorem k_B {m : ME} {Q : Bool → S → Prop} (h : Ok (m s) (kB Q)) : Ok (mB m s) Q := by
  obtain ⟨_, s1, e, b, rfl, q⟩ := h.get
  unfold mB
  simp only [e]
  exact .of rfl (q)
def kAnd (b : MT) (Q : Bool → S → Prop) (t : Bool) (s : S) : Prop := (t = true → Ok (b s) Q) ∧ (t = false → Q false s)
def kOr (b : MT) (Q : Bool → S → Prop) (t : Bool) (s : S) : Prop := (t = true → Q true s) ∧ (t = false → Ok (b s) Q)
theorem kAnd.t {b : MT} {Q : Bool → S → Prop} (q : Ok (b s) Q) : kAnd b Q true s := ⟨fun _ => q, fun e => nomatch e⟩
theorem kAnd.f {b : MT} {Q : Bool → S → Prop} (q : Q false s) : kAnd b Q false s := ⟨(fun e => nomatch e), fun _ => q⟩
theorem kAnd.of {b : MT} {Q : Bool → S → Prop} {t : Bool} (q : t = true → Ok (b s) Q) (q' : t = false → Q false s) : kAnd b Q t s := ⟨q, q'⟩
theorem kOr.t {b : MT} {Q : Bool → S → Prop} (q : Q true s) : kOr b Q true s := ⟨fun _ => q, fun e => nomatch e⟩
theorem kOr.f {b : MT} {Q : Bool → S → Prop} (q : Ok (b s) Q) : kOr b Q false s := ⟨(fun e => nomatch e), fun _ => q⟩
theorem kOr.of {b : MT} {Q : Bool → S → Prop} {t : Bool} (q : t = true → Q true s) (q' : t = false → Ok (b s) Q) : kOr b Q t s := ⟨q, q'⟩
theorem kOr.p {b : MT} {Q : Bool → S → Prop} {t : Bool} (h : Ok (b s) fun u s2 => s2 = s ∧ Q (t || u) s) : kOr b Q t s := by
  obtain ⟨u, s2, e, rfl, q⟩ := h.get
  cases t with
  | true => exact .t q
  | false => exact .f (.of e q)
theorem kAnd.p {b : MT} {Q : Bool → S → Prop} {t : Bool} (h : Ok (b s) fun u s2 => s2 = s ∧ Q (t && u) s) : kAnd b Q t s := by
  obtain ⟨u, s2, e, rfl, q⟩ := h.get
  cases t with
  | true => exact .t (.of e q)
  | false => exact .f q
theorem k_and {a b : MT} {Q : Bool → S → Prop} (h : Ok (a s) (kAnd b Q)) : Ok (mAnd a b s) Q := by
  obtain ⟨t, s1, e, h1, h2⟩ := h.get
  unfold mAnd
  cases t <;> simp only [e]
  · exact .of rfl (h2 rfl)
  · exact h1 rfl
theorem k_or {a b : MT} {Q : Bool → S → Prop} (h : Ok (a s) (kOr b Q)) : Ok (mOr a b s) Q := by
  obtain ⟨t, s1, e, h1, h2⟩ := h.get
  unfold mOr
  cases t <;> simp only [e]
  · exact h2 rfl
  · exact .of rfl (h1 rfl)
theorem k_not {a : MT} {Q : Bool → S → Prop} (h : Ok (a s) fun t s1 => Q (!t) s1) : Ok (mNot a s) Q := by
  obtain ⟨t, s1, e, q⟩ := h.get
  unfold mNot
  simp only [e]
  exact .of rfl (q)
def kAndV (b : ME) (Q : R → S → Prop) (r : R) (s : S) : Prop := ∃ t, r = .d (.bool t) ∧ (t = true → Ok (b s) Q) ∧ (t = false → Q (.d (.bool false)) s)
def kOrV (b : ME) (Q : R → S → Prop) (r : R) (s : S) : Prop := ∃ t, r = .d (.bool t) ∧ (t = true → Q (.d (.bool true)) s) ∧ (t = false → Ok (b s) Q)
theorem kAndV.t {b : ME} {Q : R → S → Prop} (q : Ok (b s) Q) : kAndV b Q (.d (.bool true)) s := ⟨_, rfl, fun _ => q, fun e => nomatch e⟩
theorem kAndV.f {b : ME} {Q : R → S → Prop} (q : Q (.d (.bool false)) s) : kAndV b Q (.d (.bool false)) s := ⟨_, rfl, (fun e => nomatch e), fun _ => q⟩
theorem kAndV.of {b : ME} {Q : R → S → Prop} {t : Bool} (q : t = true → Ok (b s) Q) (q' : t = false → Q (.d (.bool false)) s) : kAndV b Q (.d (.bool t)) s := ⟨t, rfl, q, q'⟩
theorem kOrV.t {b : ME} {Q : R → S → Prop} (q : Q (.d (.bool true)) s) : kOrV b Q (.d (.bool true)) s := ⟨_, rfl, fun _ => q, fun e => nomatch e⟩
theorem kOrV.f {b : ME} {Q : R → S → Prop} (q : Ok (b s) Q) : kOrV b Q (.d (.bool false)) s := ⟨_, rfl, (fun e => nomatch e), fun _ => q⟩
theorem kOrV.of {b : ME} {Q : R → S → Prop} {t : Bool} (q : t = true → Q (.d (.bool true)) s) (q' : t = false → Ok (b s) Q) : kOrV b Q (.d (.bool t)) s := ⟨t, rfl, q, q'⟩
theorem k_andV {a b : ME} {Q : R → S → Prop} (h : Ok (a s) (kAndV b Q)) : Ok (mAndV a b s) Q := by
  obtain ⟨_, s1, e, t, rfl, h1, h2⟩ := h.get
  unfold mAndV
  cases t <;> simp only [e]
  · exact .of rfl (h2 rfl)
  · exact h1 rfl
theorem k_orV {a b : ME} {Q : R → S → Prop} (h : Ok (a s) (kOrV b Q)) : Ok (mOrV a b s) Q := by
  obtain ⟨_, s1, e, t, rfl, h1, h2⟩ := h.get
  unfold mOrV
  cases t <;> simp only [e]
  · exact h2 rfl
  · exact .of rfl (h1 rfl)
def kNotV (Q : R → S → Prop) (r : R) (s : S) : Prop := ∃ t, r = .d (.bool t) ∧ Q (.d (.bool (!t))) s
theorem kNotV.mk {Q : R → S → Prop} {t : Bool} (q : Q (.d (.bool (!t))) s) : kNotV Q (.d (.bool t)) s := ⟨t, rfl, q⟩
theorem k_notV {a : ME} {Q : R → S → Prop} (h : Ok (a s) (kNotV Q)) : Ok (mNotV a s) Q := by
  obtain ⟨_, s1, e, t, rfl, q⟩ := h.get
  unfold mNotV
  simp only [e]
  exact .of rfl (q)
def kCond {α : Type} (a b : S → Out α) (Q : α → S → Prop) (t : Bool) (s : S) : Prop := (t = true → Ok (a s) Q) ∧ (t = false → Ok (b s) Q)
theorem kCond.t {α : Type} {a b : S → Out α} {Q : α → S → Prop} (q : Ok (a s) Q) : kCond a b Q true s := ⟨fun _ => q, fun e => nomatch e⟩
theorem kCond.f {α : Type} {a b : S → Out α} {Q : α → S → Prop} (q : Ok (b s) Q) : kCond a b Q false s := ⟨(fun e => nomatch e), fun _ => q⟩
theorem kCond.of {α : Type} {a b : S → Out α} {Q : α → S → Prop} {t : Bool} (q : t = true → Ok (a s) Q) (q' : t = false → Ok (b s) Q) : kCond a b Q t s := ⟨q, q'⟩
theorem k_ite {c : MT} {a b : ME} {Q : R → S → Prop} (h : Ok (c s) (kCond a b Q)) : Ok (mIte c a b s) Q := by
  obtain ⟨t, s1, e, h1, h2⟩ := h.get
  unfold mIte
  cases t <;> simp only [e]
  · exact h2 rfl
  · exact h1 rfl
theorem k_if {c : MT} {a b : MS} {Q : Fl → S → Prop} (h : Ok (c s) (kCond a b Q)) : Ok (mIf c a b s) Q := by
  obtain ⟨t, s1, e, h1, h2⟩ := h.get
  unfold mIf
  cases t <;> simp only [e]
  · exact h2 rfl
  · exact h1 rfl
/-! ## slices -/
def kPart (f : Option Int → S → Prop) (m : Option ME) (s : S) : Prop := ∃ o s', mPart m s = .ok o s' ∧ f o s'
theorem kPart.n {f : Option Int → S → Prop} (h : f none s) : kPart f none s := ⟨none, s, rfl, h⟩
def kInt (f : Int → S → Prop) (r : R) (s : S) : Prop := ∃ i, r = .d (.int i) ∧ f i s
theorem kInt.mk {f : Int → S → Prop} {i : Int} (q : f i s) : kInt f (.d (.int i)) s := ⟨i, rfl, q⟩
theorem kPart.sm {f : Option Int → S → Prop} {m : ME} (h : Ok (m s) (kInt fun i s => f (some i) s)) : kPart f (some m) s := by
  obtain ⟨_, s1, e, i, rfl, q⟩ := h.get
  exact ⟨some i, s1, by unfold mPart; simp only [e], q⟩
def kCut (lo hi : Option Int) (Q : R → S → Prop) (r : R) (s : S) : Prop := ∃ x r', view s r = some x ∧ dCut x lo hi = some r' ∧ Q r' s
theorem kCut.mk {lo hi : Option Int} {Q : R → S → Prop} {r r' : R} {x : D} (h1 : view s r = some x) (h2 : dCut x lo hi = some r') (q : Q r' s) : kCut lo hi Q r s := ⟨x, r', h1, h2, q⟩
theorem k_cut {m : ME} {lo hi : Option ME} {Q : R → S → Prop} (h : Ok (m s) fun r s1 => kPart (fun l s2 => kPart (fun h s3 => kCut l h Q r s3) hi s2) lo s1) : Ok (mCut m lo hi s) Q := by
  obtain ⟨r, s1, e, l, s2, e2, hh, s3, e3, x, r', h1, h2, q⟩ := h.get
  unfold mCut
  simp only [e, e2, e3, h1, h2]
  exact .of rfl (q)
/-! ## built-ins, methods, calls -/
def kBlt (f : List D → Option R) (Q : R → S → Prop) (rs : List R) (s : S) : Prop := ∃ xs r, views s rs = some xs ∧ f xs = some r ∧ Q r s
theorem kBlt.mk {f : List D → Option R} {Q : R → S → Prop} {rs : List R} {xs : List D} (h1 : views s rs = some xs) (h2 : f xs = some r) (q : Q r s) : kBlt f Q rs s := ⟨xs, r, h1, h2, q⟩
theorem k_blt {ms : MA} {f : List D → Option R} {Q : R → S → Prop} (h : Ok (ms s) (kBlt f Q)) : Ok (mBlt f ms s) Q := by
  obtain ⟨rs, s1, e, xs, r, h1, h2, q⟩ := h.get
  unfold mBlt
  simp only [e, h1, h2]
  exact .of rfl (q)
def kMeth (i : Nat) (f : List D → List D → Option (D × List D)) (Q : R → S → Prop) (rs : List R) (s : S) : Prop :=
  ∃ xs s2 l y l', takes s rs = some (xs, s2) ∧ s2.a[i]? = some (some (.o (.lst l))) ∧ f l xs = some (y, l') ∧ Q (.d y) ⟨s2.a.set i (some (.o (.lst l'))), s2.b⟩
theorem kMeth.mk {i : Nat} {f : List D → List D → Option (D × List D)} {Q : R → S → Prop} {rs : List R} {xs l l' : List D} {y : D} {a2 : List (Option R)} {b2 : Bx}
    (h1 : takes s rs = some (xs, ⟨a2, b2⟩)) (h2 : a2[i]? = some (some (.o (.lst l)))) (h3 : f l xs = some (y, l')) (q : Q (.d y) ⟨a2.set i (some (.o (.lst l'))), b2⟩) : kMeth i f Q rs s := ⟨xs, _, l, y, l', h1, h2, h3, q⟩
theorem k_meth {i : Nat} {ms : MA} {f : List D → List D → Option (D × List D)} {Q : R → S → Prop} {l : List D} (h0 : s.a[i]? = some (some (.o (.lst l)))) (h : Ok (ms s) (kMeth i f Q)) : Ok (mMeth i ms f s) Q := by
  obtain ⟨rs, s1, e, xs, s2, l, y, l', h1, h2, h3, q⟩ := h.get
  unfold mMeth
  simp only [h0, e, h1, h2, h3]
  exact .of rfl (q)
theorem fAppend_lt {l : List D} {x : D} (h : l.length ≤ 10000) : fAppend l [x] = some (.none, l ++ [x]) := if_pos (Nat.lt_of_le_of_lt h (Nat.lt_of_lt_of_le (by decide) big))
def kCall (np : Nat) (g : DF) (Q : R → S → Prop) (rs : List R) (s : S) : Prop := ∃ q s2, rs.length = np ∧ argsT s rs = some (q, s2) ∧ OkF (g q s2.b) fun r b => Q r ⟨s2.a, b⟩
theorem kCall.mk {np : Nat} {g : DF} {Q : R → S → Prop} {rs q : List R} {a2 : List (Option R)} {b2 : Bx} {P : R → Prop} (h1 : rs.length = np) (h2 : argsT s rs = some (q, ⟨a2, b2⟩)) (h3 : Gv g q P) (h4 : ∀ r b, P r → Q r ⟨a2, b⟩) : kCall np g Q rs s :=
  ⟨q, _, h1, h2, (h3.all b2).mono fun r b p => h4 r b p⟩
theorem kCall.at1 {np : Nat} {g : DF} {Q : R → S → Prop} {rs q : List R} {a2 : List (Option R)} {b2 : Bx} {P : R → Prop} (h1 : rs.length = np) (h2 : argsT s rs = some (q, ⟨a2, b2⟩)) (h3 : OkF (g q b2) fun r _ => P r) (h4 : ∀ r b, P r → Q r ⟨a2, b⟩) : kCall np g Q rs s :=
  ⟨q, _, h1, h2, h3.mono fun r b p => h4 r b p⟩
theorem k_call {np : Nat} {g : DF} {ms : MA} {Q : R → S → Prop} (h : Ok (ms s) (kCall np g Q)) : Ok (mCall np g ms s) Q := by
  obtain ⟨rs, s1, e, q, s2, h1, h2, h3⟩ := h.get
  obtain ⟨r, b, e2, k⟩ := h3.get
  unfold mCall
  simp only [e, if_pos h1, h2, e2]
  exact .of rfl (k)
def kCallK (np : Nat) (g : DF) (nu nk : Nat) (perm : List Nat) (Q : R → S → Prop) (rs zs : List R) (s : S) : Prop :=
  ∃ q s3, rs.length = nu ∧ zs.length = nk ∧ argsT s (rs ++ zs) = some (q, s3) ∧ (perm.filterMap fun i => q[i]?).length = np ∧ OkF (g (perm.filterMap fun i => q[i]?) s3.b) fun r b => Q r ⟨s3.a, b⟩
theorem kCallK.mk {np : Nat} {g : DF} {nu nk : Nat} {perm : List Nat} {Q : R → S → Prop} {rs zs q args : List R} {a2 : List (Option R)} {b2 : Bx} {P : R → Prop} (h1 : rs.length = nu) (h1' : zs.length = nk) (h2 : argsT s (rs ++ zs) = some (q, ⟨a2, b2⟩))
    (h5 : (perm.filterMap fun i => q[i]?) = args) (h6 : args.length = np) (h3 : Gv g args P) (h4 : ∀ r b, P r → Q r ⟨a2, b⟩) : kCallK np g nu nk perm Q rs zs s :=
  ⟨q, _, h1, h1', h2, h5 ▸ h6, by rw [h5]; exact (h3.all b2).mono fun r b p => h4 r b p⟩
theorem k_callK {np : Nat} {g : DF} {nu nk : Nat} {perm : List Nat} {ms mk : MA} {Q : R → S → Prop} (h : Ok (ms s) fun rs s1 => Ok (mk s1) fun zs s2 => kCallK np g nu nk perm Q rs zs s2) : Ok (mCallK np g nu nk perm ms mk s) Q := by
  obtain ⟨rs, s1, e, h⟩ := h.get
  obtain ⟨zs, s2, e2, q, s3, h1, h2, h3, h4, h5⟩ := h.get
  obtain ⟨r, b, e3, k⟩ := h5.get
  unfold mCallK
  have hc : rs.length = nu ∧ zs.length = nk := ⟨h1, h2⟩
  simp only [e, e2, if_pos hc, h3, if_pos h4, e3]
  exact .of rfl (k)
/-! ## statements -/
def seqQ (c : MS) (Q : Fl → S → Prop) : Fl → S → Prop
  | .nx, s => Ok (c s) Q
  | .rt r, s => Q (.rt r) s
  | .bk, s => Q .bk s
  | .ct, s => Q .ct s
theorem k_seq {a c : MS} {Q : Fl → S → Prop} (h : Ok (a s) (seqQ c Q)) : Ok (mSeq a c s) Q := by
  obtain ⟨f, s1, e, h⟩ := h.get
  unfold mSeq
  cases f with
  | nx => simp only [e]; exact h
  | rt r => simp only [e]; exact .of rfl h
  | bk => simp only [e]; exact .of rfl h
  | ct => simp only [e]; exact .of rfl h
theorem q_nx {c : MS} {Q : Fl → S → Prop} (h : Ok (c s) Q) : seqQ c Q .nx s := h
theorem q_rt {c : MS} {Q : Fl → S → Prop} (h : Q (.rt r) s) : seqQ c Q (.rt r) s := h
theorem q_bk {c : MS} {Q : Fl → S → Prop} (h : Q .bk s) : seqQ c Q .bk s := h
theorem q_ct {c : MS} {Q : Fl → S → Prop} (h : Q .ct s) : seqQ c Q .ct s := h
theorem k_next {Q : Fl → S → Prop} (h : Q .nx s) : Ok (mNext s) Q := .of rfl h
theorem k_brk {Q : Fl → S → Prop} (h : Q .bk s) : Ok (mBreak s) Q := .of rfl h
theorem k_cnt {Q : Fl → S → Prop} (h : Q .ct s) : Ok (mCont s) Q := .of rfl h
theorem k_ret {m : ME} {Q : Fl → S → Prop} (h : Ok (m s) fun r s1 => Q (.rt r) s1) : Ok (mRet m s) Q := by
  obtain ⟨r, s1, e, q⟩ := h.get
  unfold mRet
  simp only [e]
  exact .of rfl (q)
theorem k_retN {Q : Fl → S → Prop} (h : Q (.rt (.d .none)) s) : Ok (mRetN s) Q := .of rfl h
theorem k_drop {m : ME} {Q : Fl → S → Prop} (h : Ok (m s) fun _ s1 => Q .nx s1) : Ok (mDrop m s) Q := by
  obtain ⟨r, s1, e, q⟩ := h.get
  unfold mDrop
  simp only [e]
  exact .of rfl (q)
def kSet (i : Nat) (Q : Fl → S → Prop) (r : R) (s : S) : Prop := ∃ s', store i s r = some s' ∧ Q .nx s'
theorem kSet.d {i : Nat} {Q : Fl → S → Prop} {x : D} {a : List (Option R)} {b : Bx} (h : i < a.length) (q : Q .nx ⟨a.set i (some (.d x)), b⟩) : kSet i Q (.d x) ⟨a, b⟩ := by
  refine ⟨_, ?_, q⟩
  unfold store
  rw [if_neg (Nat.not_le.mpr h)]
  rfl
theorem kSet.o {i : Nat} {Q : Fl → S → Prop} {c : C} {a : List (Option R)} {b : Bx} (h : i < a.length) (q : Q .nx ⟨a.set i (some (.o c)), b⟩) : kSet i Q (.o c) ⟨a, b⟩ := by
  refine ⟨_, ?_, q⟩
  unfold store
  rw [if_neg (Nat.not_le.mpr h)]
theorem kSet.b {i : Nat} {Q : Fl → S → Prop} {a : List (Option R)} {b : Bx} (h : i < a.length) (q : Q .nx ⟨a.set i (some .bx), b⟩) : kSet i Q .bx ⟨a, b⟩ := by
  refine ⟨_, ?_, q⟩
  unfold store
  rw [if_neg (Nat.not_le.mpr h)]
theorem kSet.sl {i j : Nat} {Q : Fl → S → Prop} {a a2 : List (Option R)} {b b2 : Bx} {x : D} (h0 : take1 ⟨a, b⟩ (.sl j) = some (x, ⟨a2, b2⟩)) (h : i < a.length) (q : Q .nx ⟨a2.set i (some (.d x)), b2⟩) : kSet i Q (.sl j) ⟨a, b⟩ := by
  refine ⟨_, ?_, q⟩
  unfold store
  rw [if_neg (Nat.not_le.mpr h)]
  simp only [h0]
theorem k_set {i : Nat} {m : ME} {Q : Fl → S → Prop} (h : Ok (m s) (kSet i Q)) : Ok (mSet i m s) Q := by
  obtain ⟨r, s1, e, s', e2, q⟩ := h.get
  unfold mSet
  simp only [e, e2]
  exact .of rfl (q)
def kAsg (g : D → S → Option S) (Q : Fl → S → Prop) (r : R) (s : S) : Prop := ∃ d s2 s3, take1 s r = some (d, s2) ∧ g d s2 = some s3 ∧ Q .nx s3
theorem kAsg.mk {g : D → S → Option S} {Q : Fl → S → Prop} {d : D} {s3 : S} (h1 : take1 s r = some (d, s2)) (h2 : g d s2 = some s3) (q : Q .nx s3) : kAsg g Q r s := ⟨d, s2, s3, h1, h2, q⟩
theorem k_asg {m : ME} {g : D → S → Option S} {Q : Fl → S → Prop} (h : Ok (m s) (kAsg g Q)) : Ok (mAsg m g s) Q := by
  obtain ⟨r, s1, e, d, s2, s3, h1, h2, q⟩ := h.get
  unfold mAsg
  simp only [e, h1, h2]
  exact .of rfl (q)
def kPar (is : List Nat) (Q : Fl → S → Prop) (rs : List R) (s : S) : Prop := ∃ qs s2 s3, norms s rs = some (qs, s2) ∧ puts is qs s2 = some s3 ∧ Q .nx s3
theorem kPar.mk {is : List Nat} {Q : Fl → S → Prop} {rs qs : List R} {s3 : S} (h1 : norms s rs = some (qs, s2)) (h2 : puts is qs s2 = some s3) (q : Q .nx s3) : kPar is Q rs s := ⟨qs, s2, s3, h1, h2, q⟩
theorem k_par {is : List Nat} {ms : MA} {Q : Fl → S → Prop} (h : Ok (ms s) (kPar is Q)) : Ok (mPar is ms s) Q := by
  obtain ⟨rs, s1, e, qs, s2, s3, h1, h2, q⟩ := h.get
  unfold mPar
  simp only [e, h1, h2]
  exact .of rfl (q)
def kPut (i : Nat) (Q : Fl → S → Prop) (rv rk : R) (s : S) : Prop := ∃ v k s3 c c', takes s [rv, rk] = some ([v, k], s3) ∧ s3.a[i]? = some (some (.o c)) ∧ putC c k v = some c' ∧ Q .nx ⟨s3.a.set i (some (.o c')), s3.b⟩
theorem kPut.mk {i : Nat} {Q : Fl → S → Prop} {rv rk : R} {v k : D} {a3 : List (Option R)} {b3 : Bx} {c c' : C} (h1 : takes s [rv, rk] = some ([v, k], ⟨a3, b3⟩)) (h2 : a3[i]? = some (some (.o c))) (h3 : putC c k v = some c') (q : Q .nx ⟨a3.set i (some (.o c')), b3⟩) : kPut i Q rv rk s :=
  ⟨v, k, _, c, c', h1, h2, h3, q⟩
def kPutA (i : Nat) (mk : ME) (Q : Fl → S → Prop) (rv : R) (s : S) : Prop := (∃ c, s.a[i]? = some (some (.o c))) ∧ Ok (mk s) fun rk s2 => kPut i Q rv rk s2
theorem kPutA.mk {i : Nat} {mk : ME} {Q : Fl → S → Prop} {rv : R} {c : C} (h : s.a[i]? = some (some (.o c))) (q : Ok (mk s) fun rk s2 => kPut i Q rv rk s2) : kPutA i mk Q rv s := ⟨⟨c, h⟩, q⟩
theorem k_put {i : Nat} {mk mv : ME} {Q : Fl → S → Prop} (h : Ok (mv s) (kPutA i mk Q)) : Ok (mPut i mk mv s) Q := by
  obtain ⟨rv, s1, e, ⟨c0, h0⟩, h⟩ := h.get
  obtain ⟨rk, s2, e2, v, k, s3, c, c', h1, h2, h3, q⟩ := h.get
  unfold mPut
  simp only [e, h0, e2, h1, h2, h3]
  exact .of rfl (q)
/-! ## loops -/
def loopQ (I : List D → S → Prop) (r : List D) (Q : Fl → S → Prop) : Fl → S → Prop
  | .nx, s => I r s
  | .ct, s => I r s
  | .bk, s => Q .nx s
  | .rt x, s => Q (.rt x) s
theorem k_loop {g : D → S → Option S} {body : MS} {Q : Fl → S → Prop} (I : List D → S → Prop) (hs : ∀ d r s, I (d :: r) s → ∃ s1, g d s = some s1 ∧ Ok (body s1) (loopQ I r Q)) (he : ∀ s, I [] s → Q .nx s) :
    ∀ (ds : List D) (s : S), I ds s → Ok (loopL g body ds s) Q
  | [], s, h => .of rfl (he s h)
  | d :: r, s, h => by
    obtain ⟨s1, e1, h1⟩ := hs d r s h
    obtain ⟨f, s2, e2, h2⟩ := h1.get
    cases f with
    | nx => simp only [loopL, e1, e2]; exact k_loop I hs he r s2 h2
    | ct => simp only [loopL, e1, e2]; exact k_loop I hs he r s2 h2
    | bk => simp only [loopL, e1, e2]; exact .of rfl (h2)
    | rt x => simp only [loopL, e1, e2]; exact .of rfl (h2)
theorem k_for {src : MI} {g : D → S → Option S} {body : MS} {Q : Fl → S → Prop} (h : Ok (src s) fun ds s1 => Ok (loopL g body ds s1) Q) : Ok (mFor src g body s) Q := by
  obtain ⟨ds, s1, e, h⟩ := h.get
  unfold mFor
  simp only [e]
  exact h
def kIT (Q : List D → S → Prop) (r : R) (s : S) : Prop := ∃ ds s2, take1 s r = some (.tuple ds, s2) ∧ Q ds s2
theorem kIT.mk {Q : List D → S → Prop} {ds : List D} (h : take1 s r = some (.tuple ds, s2)) (q : Q ds s2) : kIT Q r s := ⟨ds, s2, h, q⟩
theorem k_iT {m : ME} {Q : List D → S → Prop} (h : Ok (m s) (kIT Q)) : Ok (iTupD m s) Q := by
  obtain ⟨r, s1, e, ds, s2, h1, q⟩ := h.get
  unfold iTupD
  simp only [e, h1]
  exact .of rfl (q)
def kIL (Q : List D → S → Prop) (r : R) (s : S) : Prop := ∃ ds s2, take1 s r = some (.list ds, s2) ∧ Q ds s2
theorem kIL.mk {Q : List D → S → Prop} {ds : List D} (h : take1 s r = some (.list ds, s2)) (q : Q ds s2) : kIL Q r s := ⟨ds, s2, h, q⟩
theorem k_iL {m : ME} {Q : List D → S → Prop} (h : Ok (m s) (kIL Q)) : Ok (iLstD m s) Q := by
  obtain ⟨r, s1, e, ds, s2, h1, q⟩ := h.get
  unfold iLstD
  simp only [e, h1]
  exact .of rfl (q)
theorem two62 : (2 : Int) ^ 62 = 4611686018427387904 := by decide
def kR1 (Q : List D → S → Prop) (rs : List R) (s : S) : Prop := ∃ j, rs = [.d (.int j)] ∧ -(2 ^ 62) ≤ j ∧ j < 2 ^ 62 ∧ Q (intsD 0 j.toNat) s
theorem kR1.mk {Q : List D → S → Prop} {j : Int} (h1 : -1000000000 ≤ j) (h2 : j ≤ 1000000000) (q : Q (intsD 0 j.toNat) s) : kR1 Q [.d (.int j)] s := ⟨j, rfl, by rw [two62]; omega, by rw [two62]; omega, q⟩
theorem k_R1 {m : MA} {Q : List D → S → Prop} (h : Ok (m s) (kR1 Q)) : Ok (iRange1 m s) Q := by
  obtain ⟨_, s1, e, j, rfl, h1, h2, q⟩ := h.get
  unfold iRange1
  have hc : -(2 ^ 62) ≤ j ∧ j < 2 ^ 62 := ⟨h1, h2⟩
  simp only [e, if_pos hc]
  exact .of rfl (q)
def kR2 (Q : List D → S → Prop) (rs : List R) (s : S) : Prop := ∃ i j, rs = [.d (.int i), .d (.int j)] ∧ (-(2 ^ 62) ≤ i ∧ i < 2 ^ 62 ∧ -(2 ^ 62) ≤ j ∧ j < 2 ^ 62) ∧ Q (intsD i (j - i).toNat) s
theorem kR2.mk {Q : List D → S → Prop} {i j : Int} (h1 : -1000000000 ≤ i) (h2 : i ≤ 1000000000) (h3 : -1000000000 ≤ j) (h4 : j ≤ 1000000000) (q : Q (intsD i (j - i).toNat) s) : kR2 Q [.d (.int i), .d (.int j)] s :=
  ⟨i, j, rfl, by rw [two62]; omega, q⟩
theorem k_R2 {m : MA} {Q : List D → S → Prop} (h : Ok (m s) (kR2 Q)) : Ok (iRange2 m s) Q := by
  obtain ⟨_, s1, e, i, j, rfl, hc, q⟩ := h.get
  unfold iRange2
  simp only [e, if_pos hc]
  exact .of rfl (q)
def kEn (Q : List D → S → Prop) (rs : List R) (s : S) : Prop := ∃ ds s2, (takes s rs = some ([.tuple ds], s2) ∨ takes s rs = some ([.list ds], s2)) ∧ Q (pairsD (intsD 0 ds.length) ds) s2
theorem kEn.t {Q : List D → S → Prop} {rs : List R} {ds : List D} (h : takes s rs = some ([.tuple ds], s2)) (q : Q (pairsD (intsD 0 ds.length) ds) s2) : kEn Q rs s := ⟨ds, s2, .inl h, q⟩
theorem kEn.l {Q : List D → S → Prop} {rs : List R} {ds : List D} (h : takes s rs = some ([.list ds], s2)) (q : Q (pairsD (intsD 0 ds.length) ds) s2) : kEn Q rs s := ⟨ds, s2, .inr h, q⟩
theorem k_en {m : MA} {Q : List D → S → Prop} (h : Ok (m s) (kEn Q)) : Ok (iEnumD m s) Q := by
  obtain ⟨rs, s1, e, ds, s2, h1, q⟩ := h.get
  unfold iEnumD
  rcases h1 with h1 | h1
  · simp only [e, h1]; exact .of rfl q
  · simp only [e, h1]; exact .of rfl q
def kZip (Q : List D → S → Prop) (rs : List R) (s : S) : Prop := ∃ ds es s2, (takes s rs = some ([.tuple ds, .tuple es], s2) ∨ takes s rs = some ([.list ds, .list es], s2)) ∧ Q (pairsD ds es) s2
theorem kZip.t {Q : List D → S → Prop} {rs : List R} {ds es : List D} (h : takes s rs = some ([.tuple ds, .tuple es], s2)) (q : Q (pairsD ds es) s2) : kZip Q rs s := ⟨ds, es, s2, .inl h, q⟩
theorem kZip.l {Q : List D → S → Prop} {rs : List R} {ds es : List D} (h : takes s rs = some ([.list ds, .list es], s2)) (q : Q (pairsD ds es) s2) : kZip Q rs s := ⟨ds, es, s2, .inr h, q⟩
theorem k_zip {m : MA} {Q : List D → S → Prop} (h : Ok (m s) (kZip Q)) : Ok (iZipD m s) Q := by
  obtain ⟨rs, s1, e, ds, es, s2, h1, q⟩ := h.get
  unfold iZipD
  rcases h1 with h1 | h1
  · simp only [e, h1]; exact .of rfl q
  · simp only [e, h1]; exact .of rfl q
/-! ## comprehensions -/
def lcQ (I : List D → List D → S → Prop) (m : ME) (r acc : List D) : Bool → S → Prop
  | true, s => Ok (m s) fun y s3 => ∃ z s4, take1 s3 y = some (z, s4) ∧ acc.length ≤ 10000 ∧ I r (acc ++ [z]) s4
  | false, s => I r acc s
theorem lcQ.t {I : List D → List D → S → Prop} {m : ME} {r acc : List D} (h : Ok (m s) fun y s3 => ∃ z s4, take1 s3 y = some (z, s4) ∧ acc.length ≤ 10000 ∧ I r (acc ++ [z]) s4) : lcQ I m r acc true s := h
theorem lcQ.f {I : List D → List D → S → Prop} {m : ME} {r acc : List D} (h : I r acc s) : lcQ I m r acc false s := h
theorem k_yes {Q : Bool → S → Prop} (q : Q true s) : Ok (mYes s) Q := .of rfl q
theorem k_lcL {g : D → S → Option S} {c : MT} {m : ME} {vs : List Nat} {Q : List D → S → Prop} (I : List D → List D → S → Prop)
    (hs : ∀ d r acc s, I (d :: r) acc s → ∃ s1, g d ⟨wipeA s.a vs, s.b⟩ = some s1 ∧ Ok (c s1) (lcQ I m r acc)) (he : ∀ acc s, I [] acc s → Q acc s) :
    ∀ (ds acc : List D) (s : S), I ds acc s → Ok (lcL g c m vs ds acc s) Q
  | [], acc, s, h => .of rfl (he acc s h)
  | d :: r, acc, s, h => by
    obtain ⟨s1, e1, h1⟩ := hs d r acc s h
    obtain ⟨t, s2, e2, h2⟩ := h1.get
    cases t with
    | false => simp only [lcL, e1, e2]; exact k_lcL I hs he r acc s2 h2
    | true =>
      obtain ⟨y, s3, e3, z, s4, e4, hz, h4⟩ := Ok.get h2
      have hz' : acc.length < sizeLine := Nat.lt_of_le_of_lt hz (Nat.lt_of_lt_of_le (by decide) big)
      simp only [lcL, e1, e2, e3, e4, if_pos hz']
      exact k_lcL I hs he r _ s4 h4
def kLc (g : D → S → Option S) (c : MT) (m : ME) (vs : List Nat) (Q : R → S → Prop) (ds : List D) (s : S) : Prop := noOwn s.a vs = true ∧ Ok (lcL g c m vs ds [] s) fun acc s2 => Q (.o (.lst acc)) ⟨backA s.a s2.a vs, s2.b⟩
theorem kLc.mk {g : D → S → Option S} {c : MT} {m : ME} {vs : List Nat} {Q : R → S → Prop} {ds : List D} (h1 : noOwn s.a vs = true) (h2 : Ok (lcL g c m vs ds [] s) fun acc s2 => Q (.o (.lst acc)) ⟨backA s.a s2.a vs, s2.b⟩) : kLc g c m vs Q ds s := ⟨h1, h2⟩
theorem k_lc {src : MI} {g : D → S → Option S} {c : MT} {m : ME} {vs : List Nat} {Q : R → S → Prop} (h : Ok (src s) (kLc g c m vs Q)) : Ok (mLc src g c m vs s) Q := by
  obtain ⟨ds, s1, e, h1, h2⟩ := h.get
  obtain ⟨acc, s2, e2, q⟩ := h2.get
  unfold mLc
  simp only [e, if_pos h1, e2]
  exact .of rfl (q)
theorem get_wipe (a : List (Option R)) : ∀ (vs : List Nat) (i : Nat), (wipeA a vs)[i]? = if i ∈ vs then (a[i]?).map fun _ => none else a[i]?
  | [], i => by simp [wipeA]
  | v :: vs, i => by
    simp only [wipeA, List.getElem?_set, List.mem_cons]
    have hl : (wipeA a vs).length = a.length := by
      clear i
      induction vs with
      | nil => rfl
      | cons v vs ih => simp only [wipeA, List.length_set, ih]
    by_cases e : v = i
    · subst e
      simp only [hl, true_or, if_true]
      by_cases h : v < a.length
      · simp [h]
      · simp [h]
    · have e' : ¬ i = v := fun h => e h.symm
      simp only [e, e', if_false, false_or, get_wipe a vs i]
theorem len_wipe (a : List (Option R)) : ∀ vs : List Nat, (wipeA a vs).length = a.length
  | [] => rfl
  | v :: vs => by simp only [wipeA, List.length_set, len_wipe a vs]
theorem get_back (a0 a : List (Option R)) (hl : a.length = a0.length) : ∀ (vs : List Nat) (i : Nat), (backA a0 a vs)[i]? = if i ∈ vs then a0[i]? else a[i]?
  | [], i => by simp [backA]
  | v :: vs, i => by
    have hb : (backA a0 a vs).length = a.length := by
      clear i
      induction vs with
      | nil => rfl
      | cons v vs ih => simp only [backA, List.length_set, ih]
    simp only [backA, List.getElem?_set, List.mem_cons, hb]
    by_cases e : v = i
    · subst e
      simp only [true_or, if_true]
      by_cases h : v < a.length
      · have h' : v < a0.length := hl ▸ h
        simp only [h, if_true]
        cases hh : a0[v]? with
        | none => simp at hh; omega
        | some x => rfl
      · have h' : ¬ v < a0.length := hl ▸ h
        simp [h, h', Nat.not_lt.mp h']
    · have e' : ¬ i = v := fun h => e h.symm
      simp only [e, e', if_false, false_or, get_back a0 a hl vs i]
theorem back_wipe {a0 a : List (Option R)} {vs : List Nat} (h : wipeA a vs = wipeA a0 vs) : backA a0 a vs = a0 := by
  have hl : a.length = a0.length := by rw [← len_wipe a vs, h, len_wipe a0 vs]
  refine List.ext_getElem? fun i => ?_
  rw [get_back a0 a hl vs i]
  split
  · rfl
  · rename_i hi
    have e1 := get_wipe a vs i
    have e2 := get_wipe a0 vs i
    rw [if_neg hi] at e1 e2
    rw [← e1, h, e2]
inductive All2 (P : D → D → Prop) : List D → List D → Prop
  | nil : All2 P [] []
  | cons {x y : D} {xs ys : List D} : P x y → All2 P xs ys → All2 P (x :: xs) (y :: ys)
theorem All2.length {P : D → D → Prop} {xs ys : List D} (h : All2 P xs ys) : ys.length = xs.length := by
  induction h with
  | nil => rfl
  | cons _ _ ih => simp [ih]
theorem All2.snoc {P : D → D → Prop} {xs ys : List D} {x y : D} (h : All2 P xs ys) (p : P x y) : All2 P (xs ++ [x]) (ys ++ [y]) := by
  induction h with
  | nil => exact .cons p .nil
  | cons q _ ih => exact .cons q ih
theorem All2.right {P : D → D → Prop} {T : D → Prop} {xs ys : List D} (h : All2 P xs ys) (t : ∀ x y, P x y → T y) : ∀ y ∈ ys, T y := by
  induction h with
  | nil => simp
  | cons p _ ih =>
    intro y hy
    rcases List.mem_cons.mp hy with rfl | hy
    · exact t _ _ p
    · exact ih y hy
/-- a comprehension without a test, whose element may draw -/
theorem kLc.map {g : D → S → Option S} {m : ME} {vs : List Nat} {Q : R → S → Prop} {ds : List D} {a : List (Option R)} {b : Bx} (P : D → D → Prop) (h1 : noOwn a vs = true) (hl : ds.length ≤ 10000)
    (hs : ∀ d ∈ ds, ∀ b, ∃ s1, g d ⟨wipeA a vs, b⟩ = some s1 ∧ Ok (m s1) fun y s3 => ∃ z, take1 s3 y = some (z, s3) ∧ wipeA s3.a vs = wipeA a vs ∧ P d z)
    (q : ∀ (zs : List D) (b : Bx), All2 P ds zs → Q (.o (.lst zs)) ⟨a, b⟩) : kLc g mYes m vs Q ds ⟨a, b⟩ := by
  refine ⟨h1, ?_⟩
  refine k_lcL (fun r acc s => wipeA s.a vs = wipeA a vs ∧ ∃ done, ds = done ++ r ∧ All2 P done acc) ?_ ?_ ds [] _ ⟨rfl, [], rfl, .nil⟩
  · rintro d r acc s ⟨hw, done, e, hd⟩
    have hm : d ∈ ds := by rw [e]; simp
    obtain ⟨s1, e1, h2⟩ := hs d hm s.b
    refine ⟨s1, by rw [hw]; exact e1, ?_⟩
    refine k_yes (lcQ.t (h2.mono ?_))
    rintro y s3 ⟨z, e3, hw3, p⟩
    refine ⟨z, s3, e3, ?_, hw3, done ++ [d], by rw [e]; simp, hd.snoc p⟩
    have := hd.length
    rw [this]
    have hh : ds.length = done.length + (r.length + 1) := by rw [e]; simp
    omega
  · rintro acc s ⟨hw, done, e, hd⟩
    rw [List.append_nil] at e
    show Q (.o (.lst acc)) ⟨backA a s.a vs, s.b⟩
    rw [back_wipe hw]
    exact q acc s.b (e ▸ hd)
/-- a comprehension that leaves the box alone -/
theorem kLc.pure {g : D → S → Option S} {c : MT} {m : ME} {vs : List Nat} {Q : R → S → Prop} {ds : List D} {a : List (Option R)} {b : Bx} (F : D → Option D) (h1 : noOwn a vs = true) (hl : ds.length ≤ 10000)
    (hs : ∀ d ∈ ds, ∃ s1, g d ⟨wipeA a vs, b⟩ = some s1 ∧ Ok (c s1) fun t s2 => (t = true → Ok (m s2) fun y s3 => ∃ z, take1 s3 y = some (z, s3) ∧ wipeA s3.a vs = wipeA a vs ∧ s3.b = b ∧ F d = some z) ∧ (t = false → wipeA s2.a vs = wipeA a vs ∧ s2.b = b ∧ F d = none))
    (q : Q (.o (.lst (ds.filterMap F))) ⟨a, b⟩) : kLc g c m vs Q ds ⟨a, b⟩ := by
  refine ⟨h1, ?_⟩
  refine k_lcL (fun r acc s => wipeA s.a vs = wipeA a vs ∧ s.b = b ∧ ∃ done, ds = done ++ r ∧ acc = done.filterMap F) ?_ ?_ ds [] _ ⟨rfl, rfl, [], rfl, rfl⟩
  · rintro d r acc s ⟨hw, hb, done, e, hd⟩
    have hm : d ∈ ds := by rw [e]; simp
    obtain ⟨s1, e1, h2⟩ := hs d hm
    refine ⟨s1, by rw [hw, hb]; exact e1, h2.mono ?_⟩
    rintro t s2 ⟨ht, hf⟩
    cases t with
    | false =>
      obtain ⟨k1, k2, k3⟩ := hf rfl
      exact ⟨k1, k2, done ++ [d], by rw [e]; simp, by rw [hd, List.filterMap_append]; simp [k3]⟩
    | true =>
      refine (ht rfl).mono ?_
      rintro y s3 ⟨z, e3, hw3, hb3, p⟩
      refine ⟨z, s3, e3, ?_, hw3, hb3, done ++ [d], by rw [e]; simp, by rw [hd, List.filterMap_append]; simp [p]⟩
      rw [hd]
      have hh : ds.length = done.length + (r.length + 1) := by rw [e]; simp
      have := List.length_filterMap_le F done
      omega
  · rintro acc s ⟨hw, hb, done, e, hd⟩
    rw [List.append_nil] at e
    show Q (.o (.lst acc)) ⟨backA a s.a vs, s.b⟩
    rw [back_wipe hw, hb, hd, ← e]
    exact q
/-! ## displays, dicts, lists of a dict, the box -/
theorem k_newT {Q : R → S → Prop} (q : Q (.o (.dT [])) s) : Ok (mNewT s) Q := .of rfl q
theorem k_newK {Q : R → S → Prop} (q : Q (.o (.dK [])) s) : Ok (mNewK s) Q := .of rfl q
def kDisp (Q : R → S → Prop) (rs : List R) (s : S) : Prop := ∃ xs s2 kvs, takes s rs = some (xs, s2) ∧ pairsK xs = some kvs ∧ kvs.length ≤ 15 ∧ Q (.o (.dK (dMerge [] kvs))) s2
theorem kDisp.mk {Q : R → S → Prop} {rs : List R} {xs : List D} {kvs : List (Key × D)} (h1 : takes s rs = some (xs, s2)) (h2 : pairsK xs = some kvs) (h3 : kvs.length ≤ 15) (q : Q (.o (.dK (dMerge [] kvs))) s2) : kDisp Q rs s := ⟨xs, s2, kvs, h1, h2, h3, q⟩
theorem k_disp {ms : MA} {Q : R → S → Prop} (h : Ok (ms s) (kDisp Q)) : Ok (mDisp ms s) Q := by
  obtain ⟨rs, s1, e, xs, s2, kvs, h1, h2, h3, q⟩ := h.get
  unfold mDisp
  simp only [e, h1, h2, if_pos h3]
  exact .of rfl (q)
def kList (Q : R → S → Prop) (rs : List R) (s : S) : Prop := ∃ r, rs = [r] ∧ ((∃ l, viewT s r = some l ∧ Q (.o (.lst (keysD l))) s) ∨ (viewT s r = none ∧ ∃ x q, view s r = some x ∧ fLst [x] = some q ∧ Q q s))
theorem kList.t {Q : R → S → Prop} {l : List (List Key × D)} (h : viewT s r = some l) (q : Q (.o (.lst (keysD l))) s) : kList Q [r] s := ⟨r, rfl, .inl ⟨l, h, q⟩⟩
theorem kList.d {Q : R → S → Prop} {x : D} {q : R} (h0 : viewT s r = none) (h : view s r = some x) (h2 : fLst [x] = some q) (k : Q q s) : kList Q [r] s := ⟨r, rfl, .inr ⟨h0, x, q, h, h2, k⟩⟩
theorem k_list {ms : MA} {Q : R → S → Prop} (h : Ok (ms s) (kList Q)) : Ok (mList ms s) Q := by
  obtain ⟨_, s1, e, r, rfl, h⟩ := h.get
  unfold mList
  rcases h with ⟨l, h1, q⟩ | ⟨h0, x, q, h1, h2, k⟩
  · simp only [e, h1]; exact .of rfl (q)
  · simp only [e, h0, h1, h2]; exact .of rfl (k)
def kBox (Q : R → S → Prop) (rs : List R) (s : S) : Prop := ∃ l i ns, rs = [.o (.lst l), .d (.int i), .d (.int 0)] ∧ s.b.c < 0 ∧ intsD? l = some ns ∧ Q .bx ⟨s.a, ⟨ns, i, 0⟩⟩
theorem kBox.mk {Q : R → S → Prop} {l : List D} {i : Int} {ns : List Int} {a : List (Option R)} {b : Bx} (h1 : b.c < 0) (h2 : intsD? l = some ns) (q : ∀ b, Q .bx ⟨a, b⟩) : kBox Q [.o (.lst l), .d (.int i), .d (.int 0)] ⟨a, b⟩ := ⟨l, i, ns, rfl, h1, h2, q _⟩
theorem k_box {ms : MA} {Q : R → S → Prop} (h0 : s.b.c < 0) (h : Ok (ms s) (kBox Q)) : Ok (mBox ms s) Q := by
  obtain ⟨_, s1, e, l, i, ns, rfl, h1, h2, q⟩ := h.get
  have hc : (0 : Int) ≤ 0 ∧ s1.b.c < 0 := ⟨Int.le_refl _, h1⟩
  refine Ok.of ?_ q
  unfold mBox
  rw [if_pos h0, e]
  exact (if_pos hc).trans (by rw [h2])
def kChain (f g : D → D → Option R) (m3 : ME) (Q : R → S → Prop) (r1 r2 : R) (s : S) : Prop := ∃ x y t, view s r1 = some x ∧ view s r2 = some y ∧ f x y = some (.d (.bool t)) ∧ (t = false → Q (.d (.bool false)) s) ∧ (t = true → Ok (m3 s) fun r3 s3 => kOp g Q r2 r3 s3)
theorem kChain.mk {f g : D → D → Option R} {m3 : ME} {Q : R → S → Prop} {r1 r2 : R} {x y : D} {t : Bool} (h1 : view s r1 = some x) (h2 : view s r2 = some y) (h3 : f x y = some (.d (.bool t))) (q : t = false → Q (.d (.bool false)) s) (q' : t = true → Ok (m3 s) fun r3 s3 => kOp g Q r2 r3 s3) : kChain f g m3 Q r1 r2 s := ⟨x, y, t, h1, h2, h3, q, q'⟩
theorem k_chain {f g : D → D → Option R} {m1 m2 m3 : ME} {Q : R → S → Prop} (h : Ok (m1 s) fun r1 s1 => Ok (m2 s1) fun r2 s2 => kChain f g m3 Q r1 r2 s2) : Ok (mChain f g m1 m2 m3 s) Q := by
  obtain ⟨r1, s1, e, h⟩ := h.get
  obtain ⟨r2, s2, e2, x, y, t, h1, h2, h3, hf, ht⟩ := h.get
  unfold mChain
  cases t with
  | false => simp only [e, e2, h1, h2, h3]; exact .of rfl (hf rfl)
  | true =>
    obtain ⟨r3, s3, e3, x', y', r, h4, h5, h6, q⟩ := (ht rfl).get
    simp only [e, e2, h1, h2, h3, e3, h4, h5, h6]
    exact .of rfl (q)
end
/-! ## defs -/
def finQ (Q : R → Bx → Prop) : Fl → S → Prop
  | .nx, s => Q (.d .none) s.b
  | .rt r, s => OkF (fin s r) Q
  | _, _ => False
theorem finQ.nx {Q : R → Bx → Prop} {a : List (Option R)} {b : Bx} (h : Q (.d .none) b) : finQ Q .nx ⟨a, b⟩ := h
theorem finQ.d {Q : R → Bx → Prop} {a : List (Option R)} {b : Bx} {x : D} (h : Q (.d x) b) : finQ Q (.rt (.d x)) ⟨a, b⟩ := .of rfl h
theorem finQ.o {Q : R → Bx → Prop} {a : List (Option R)} {b : Bx} {c : C} (h : Q (.o c) b) : finQ Q (.rt (.o c)) ⟨a, b⟩ := .of rfl h
theorem finQ.b {Q : R → Bx → Prop} {a : List (Option R)} {b : Bx} (h : Q .bx b) : finQ Q (.rt .bx) ⟨a, b⟩ := .of rfl h
theorem finQ.s {Q : R → Bx → Prop} {a : List (Option R)} {b : Bx} {i : Nat} {c : C} (h0 : a[i]? = some (some (.o c))) (h : Q (.o c) b) : finQ Q (.rt (.sl i)) ⟨a, b⟩ := by
  show OkF (fin ⟨a, b⟩ (.sl i)) Q
  unfold fin
  simp only [h0]
  exact .of rfl (h)
theorem k_run {N : Nat} {body : MS} {rs : List R} {b : Bx} {a0 : List (Option R)} {Q : R → Bx → Prop} (h0 : rs.map some ++ List.replicate (N - rs.length) none = a0) (h : Ok (body ⟨a0, b⟩) (finQ Q)) : OkF (runF N body rs b) Q := by
  obtain ⟨f, s, e, q⟩ := h.get
  unfold runF S.init
  rw [h0, e]
  cases f with
  | nx => exact .of rfl q
  | rt r => exact q
  | bk => exact q.elim
  | ct => exact q.elim
theorem Gv.run {N : Nat} {body : MS} {rs : List R} {a0 : List (Option R)} {P : R → Prop} (h0 : rs.map some ++ List.replicate (N - rs.length) none = a0) (h : ∀ b, Ok (body ⟨a0, b⟩) (finQ fun r _ => P r)) : Gv (runF N body) rs P := ⟨fun b => k_run h0 (h b)⟩
end Qz
namespace Qz
open PySem PySem.Spec L2
open PyProof.Rows hiding St
/-! ## what operators answer -/
section
variable {i j : Int} {x y : D} {l r : List D} {t : Bool}
theorem o_addI : dAdd (.int i) (.int j) = some (.d (.int (i + j))) := rfl
theorem o_subI : dSub (.int i) (.int j) = some (.d (.int (i - j))) := rfl
theorem o_ltI : dLt (.int i) (.int j) = some (.d (.bool (decide (i < j)))) := rfl
theorem o_gtI : dGt (.int i) (.int j) = some (.d (.bool (decide (j < i)))) := rfl
theorem o_leI : dLe (.int i) (.int j) = some (.d (.bool (decide (i ≤ j)))) := rfl
theorem o_geI : dGe (.int i) (.int j) = some (.d (.bool (decide (j ≤ i)))) := rfl
theorem o_negI : dNeg (.int i) = some (.d (.int (-i))) := rfl
theorem o_eqI : dEq (.int i) (.int j) = some (.d (.bool (i == j))) := by
  simp [dEq, eqOk, PyData.hasDict, SeqAt.shaped, PyData.canLay0, PyData.depth, PyData.eqv]
theorem o_neI : dNe (.int i) (.int j) = some (.d (.bool (!(i == j)))) := by
  simp [dNe, eqOk, PyData.hasDict, SeqAt.shaped, PyData.canLay0, PyData.depth, PyData.eqv]
theorem o_isN : dIsN x .none = some (.d (.bool (isNoneD x))) := rfl
theorem o_notN : dNotN x .none = some (.d (.bool (!(isNoneD x)))) := rfl
theorem two64 : (2 : Int) ^ 64 = 18446744073709551616 := by decide
theorem o_mulL (h1 : -1000000000000 ≤ i) (h2 : i ≤ 1000000000000) : dMul (.int i) (.int j) = some (.d (.int (i * j))) := by
  have : mulOk i j = true := by
    simp only [mulOk, Bool.or_eq_true, Bool.and_eq_true, decide_eq_true_eq, two64]
    left; left; omega
  simp [dMul, this]
theorem o_mulR (h1 : -1000000000000 ≤ j) (h2 : j ≤ 1000000000000) : dMul (.int i) (.int j) = some (.d (.int (i * j))) := by
  have : mulOk i j = true := by
    simp only [mulOk, Bool.or_eq_true, Bool.and_eq_true, decide_eq_true_eq, two64]
    left; right; omega
  simp [dMul, this]
theorem o_mod (h : 0 < j) : dMod (.int i) (.int j) = some (.d (.int (i % j))) := if_pos h
theorem o_fdiv (h : 0 < j) (h2 : j < 1267650600228229401496703205376) : dFdiv (.int i) (.int j) = some (.d (.int (i / j))) := by
  rw [← Int.fdiv_eq_ediv_of_nonneg i (show 0 ≤ j by omega)]
  exact if_pos ⟨by omega, by omega, h2⟩
theorem o_fdivN (h : j ≠ 0) (h1 : -1267650600228229401496703205376 < j) (h2 : j < 1267650600228229401496703205376) : dFdiv (.int i) (.int j) = some (.d (.int (i.fdiv j))) := if_pos ⟨h, h1, h2⟩
theorem o_addL (h : l.length + r.length ≤ 10000) : dAdd (.list l) (.list r) = some (.o (.lst (l ++ r))) := if_pos (Nat.le_trans h (Nat.le_trans (by decide) big))
theorem o_addT (h : l.length + r.length ≤ 10000) : dAdd (.tuple l) (.tuple r) = some (.d (.tuple (l ++ r))) := if_pos (Nat.le_trans h (Nat.le_trans (by decide) big))
theorem o_addT2 (h : l.length ≤ 5000) (h2 : r.length ≤ 5000) : dAdd (.tuple l) (.tuple r) = some (.d (.tuple (l ++ r))) := o_addT (by omega)
theorem o_addL2 (h : l.length ≤ 5000) (h2 : r.length ≤ 5000) : dAdd (.list l) (.list r) = some (.o (.lst (l ++ r))) := o_addL (by omega)
theorem app_le {m n : Nat} (h : l.length ≤ m) (h2 : r.length ≤ n) : (l ++ r).length ≤ m + n := by rw [List.length_append]; omega
theorem o_len_l : fLen [.list l] = some (.d (.int l.length)) := rfl
theorem o_len_t : fLen [.tuple l] = some (.d (.int l.length)) := rfl
theorem o_tup_l : fTup [.list l] = some (.d (.tuple l)) := rfl
theorem o_tup_t : fTup [.tuple l] = some (.d (.tuple l)) := rfl
theorem o_absI : fAbs [.int i] = some (.d (.int (if i < 0 then -i else i))) := rfl
theorem o_intI : fInt [.int i] = some (.d (.int i)) := rfl
theorem o_intB : fInt [.bool t] = some (.d (.int (if t then 1 else 0))) := rfl
theorem o_maxI : fMax2 [.int i, .int j] = some (.d (.int (if j > i then j else i))) := rfl
theorem o_minI : fMin2 [.int i, .int j] = some (.d (.int (if j < i then j else i))) := rfl
theorem o_revT : dRev (.tuple l) = some (.d (.tuple l.reverse)) := rfl
theorem o_revL : dRev (.list l) = some (.o (.lst l.reverse)) := rfl
theorem o_idxT {d : D} (h0 : 0 ≤ i) (h : l[i.toNat]? = some d) : dIdx (.tuple l) (.int i) = some (.d d) := by
  have hl : i < l.length := by
    have := (List.getElem?_eq_some_iff.mp h).1
    omega
  have hg := (List.getElem?_eq_some_iff.mp h).2
  simp [dIdx, atI, ixN, h0, hl, hg]
theorem o_idxL {d : D} (h0 : 0 ≤ i) (h : l[i.toNat]? = some d) : dIdx (.list l) (.int i) = some (.d d) := by
  have hl : i < l.length := by
    have := (List.getElem?_eq_some_iff.mp h).1
    omega
  have hg := (List.getElem?_eq_some_iff.mp h).2
  simp [dIdx, atI, ixN, h0, hl, hg]
theorem o_idx0 : dIdx (.tuple (x :: l)) (.int 0) = some (.d x) := o_idxT (Int.le_refl _) rfl
theorem o_idx1 : dIdx (.tuple (x :: y :: l)) (.int 1) = some (.d y) := o_idxT (by decide) rfl
theorem o_idx2 {z : D} : dIdx (.tuple (x :: y :: z :: l)) (.int 2) = some (.d z) := o_idxT (by decide) rfl
theorem o_idx3 {z u : D} : dIdx (.tuple (x :: y :: z :: u :: l)) (.int 3) = some (.d u) := o_idxT (by decide) rfl
theorem o_cutT {lo hi : Option Int} : dCut (.tuple l) lo hi = some (.d (.tuple (cutG l lo hi))) := rfl
theorem o_cutL {lo hi : Option Int} : dCut (.list l) lo hi = some (.o (.lst (cutG l lo hi))) := rfl
theorem o_repr (h : fitsD x = true) : fRepr [x] = some (.d (.str x.shown)) := if_pos h
theorem o_isT : fIsi "tuple" (.tuple l) = some (.d (.bool true)) := rfl
theorem o_lstL : fLst [.list l] = some (.o (.lst l)) := rfl
theorem o_lstT : fLst [.tuple l] = some (.o (.lst l)) := rfl
end
/-! ## slices -/
theorem cut_head {α : Type} (l : List α) (i : Int) (h : 0 ≤ i) : cutG l none (some i) = l.take i.toNat := by
  have e : HT.sIx l.length l.length (some i) = min i.toNat l.length := if_neg (Int.not_lt.mpr h)
  unfold cutG
  rw [e, HT.sIx_none, List.drop_zero, Nat.sub_zero, List.take_eq_take_iff]
  omega
theorem cut_tail {α : Type} (l : List α) (i : Int) (h : 0 ≤ i) : cutG l (some i) none = l.drop i.toNat := by
  have e : HT.sIx l.length 0 (some i) = min i.toNat l.length := if_neg (Int.not_lt.mpr h)
  unfold cutG
  rw [e, HT.sIx_none]
  by_cases c : i.toNat ≤ l.length
  · rw [Nat.min_eq_left c]
    exact List.take_of_length_le (by simp)
  · rw [Nat.min_eq_right (by omega), Nat.sub_self, List.take_zero, List.drop_of_length_le (by omega)]
end Qz
namespace Qz
open PySem PySem.Spec L2 PySem.Builtin PySem.StrLaws
open PyProof.Rows hiding St
/-! ## texts that repr makes -/
def Cp (x : Str) : Prop := ∀ c ∈ x.cps.toList, c < 1114112
theorem Cp.app {x y : Str} (hx : Cp x) (hy : Cp y) : Cp (x ++ y) := fun c hc => by
  rw [Str.cps_append, Array.toList_append] at hc
  rcases List.mem_append.mp hc with h | h
  · exact hx c h
  · exact hy c h
theorem Cp.lay {x : Str} (h : Cp x) : SeqAt.shaped (.str x) = true := by
  have h2 : PyData.strOk x = true := by
    unfold PyData.strOk
    rw [Array.all_eq_true_iff_forall_mem]
    intro c hc
    exact decide_eq_true (h c (Array.mem_toList_iff.mpr hc))
  simp [SeqAt.shaped, PyData.canLay0, PyData.depth, h2]
theorem Cp.join {g : Str} (hg : Cp g) : ∀ ts : List Str, (∀ t ∈ ts, Cp t) → Cp (Str.join g ts)
  | [], _ => by intro c hc; exact nomatch hc
  | [t], h => h t List.mem_cons_self
  | t :: u :: r, h => by
    have ih := Cp.join hg (u :: r) fun x hx => h x (List.mem_cons_of_mem _ hx)
    show Cp (t ++ g ++ Str.join g (u :: r))
    exact ((h t List.mem_cons_self).app hg).app ih
theorem cp_int (i : Int) : Cp (PyData.int i).shown := fun c hc => by
  by_cases h : c < 1114112
  · exact h
  · exact absurd hc (PyProof.Rows.shown_int_free' (k := c) ⟨by omega, by omega⟩ i)
theorem cp_hex (w c : Nat) : ∀ d ∈ List.replicate (w - ((Nat.toDigits 16 c).map Char.toNat).length) 48 ++ (Nat.toDigits 16 c).map Char.toNat, d < 1114112 := fun d hd => by
  rcases List.mem_append.mp hd with h | h
  · have := List.eq_of_mem_replicate h
    omega
  · obtain ⟨ch, _, rfl⟩ := List.mem_map.mp h
    have hv := ch.valid
    have hn : ch.toNat = ch.val.toNat := rfl
    rcases hv with h1 | ⟨_, h2⟩
    · omega
    · omega
theorem cp_reprChar {q c : Nat} (hq : q < 1114112) (hc : c < 1114112) : ∀ d ∈ Str.reprChar q c, d < 1114112 := by
  intro d hd
  unfold Str.reprChar at hd
  simp only at hd
  repeat' split at hd
  all_goals simp only [List.mem_cons, List.not_mem_nil, or_false, List.cons_append, List.nil_append] at hd
  · rcases hd with rfl | rfl <;> omega
  · rcases hd with rfl | rfl <;> omega
  · rcases hd with rfl | rfl <;> omega
  · rcases hd with rfl | rfl <;> omega
  · subst hd; omega
  · rcases hd with rfl | rfl | hd
    · omega
    · omega
    · exact cp_hex 2 c d hd
  · rcases hd with rfl | rfl | hd
    · omega
    · omega
    · exact cp_hex 4 c d hd
  · rcases hd with rfl | rfl | hd
    · omega
    · omega
    · exact cp_hex 8 c d hd
theorem cp_fold {q : Nat} (hq : q < 1114112) : ∀ (l : List Nat) (acc : Array Nat), (∀ c ∈ l, c < 1114112) → (∀ c ∈ acc.toList, c < 1114112) → ∀ c ∈ (l.foldl (fun out c => out ++ (Str.reprChar q c).toArray) acc).toList, c < 1114112
  | [], acc, _, h, c, hc => h c hc
  | x :: r, acc, hl, h, c, hc => by
    refine cp_fold hq r (acc ++ (Str.reprChar q x).toArray) (fun y hy => hl y (List.mem_cons_of_mem _ hy)) (fun y hy => ?_) c hc
    rw [Array.toList_append] at hy
    rcases List.mem_append.mp hy with hy | hy
    · exact h y hy
    · exact cp_reprChar hq (hl x List.mem_cons_self) y (by simpa using hy)
theorem Cp.repr {x : Str} (h : Cp x) : Cp (PySem.reprText x) := fun c hc => by
  have hq : PySem.reprQuote x < 1114112 := by
    unfold PySem.reprQuote
    split <;> decide
  unfold PySem.reprText at hc
  simp only [Array.toList_push, ← Array.foldl_toList] at hc
  rcases List.mem_append.mp hc with hc | hc
  · refine cp_fold hq _ _ h (fun y hy => ?_) c hc
    have : y = PySem.reprQuote x := by simpa using hy
    omega
  · have : c = PySem.reprQuote x := by simpa using hc
    omega
structure Fit (n k : Nat) (d : D) : Prop where
  sho : d.showable = true
  dep : d.depth ≤ k
  len : d.shown.length ≤ n
  cps : Cp d.shown
theorem Fit.mono {n k n' k' : Nat} {d : D} (h : Fit n k d) (h1 : n ≤ n') (h2 : k ≤ k') : Fit n' k' d := ⟨h.sho, Nat.le_trans h.dep h2, Nat.le_trans h.len h1, h.cps⟩
theorem Fit.ok {n k : Nat} {d : D} (h : Fit n k d) (h1 : n ≤ 10000000) (h2 : k ≤ 150) : fitsD d = true := by
  have e : 10000000 ≤ sizeLine := by decide
  simp only [fitsD, Bool.and_eq_true, decide_eq_true_eq]
  exact ⟨⟨h.sho, Nat.le_trans h.dep h2⟩, Nat.le_trans h.len (Nat.le_trans h1 e)⟩
theorem fit_none : Fit 4 0 .none := ⟨rfl, Nat.le_refl _, by decide, by rw [PyData.shown_none]; unfold Cp; decide⟩
theorem fit_bool (b : Bool) : Fit 5 0 (.bool b) := ⟨rfl, Nat.le_refl _, by cases b <;> decide, by rw [PyData.shown_bool]; unfold Cp; cases b <;> decide⟩
theorem fit_int {i : Int} (k : Nat) (hk : 0 < k) (hk2 : k ≤ 500) (h : i.natAbs < 10 ^ k) : Fit (k + 1) 0 (.int i) := by
  refine ⟨?_, Nat.le_refl _, ?_, cp_int i⟩
  · simp only [PyData.showable, decide_eq_true_eq]
    by_cases h0 : i.natAbs = 0
    · rw [h0]; decide
    · rw [Nat.log2_lt h0]
      refine Nat.lt_of_lt_of_le h ?_
      refine Nat.le_trans (Nat.pow_le_pow_right (by decide) hk2) ?_
      decide +kernel
  · rw [PyData.shown_int]
    show (Str.ofString (toString i)).length ≤ k + 1
    rw [PySem.ofString_length]
    exact int_text_length_le10 hk h
theorem fit_str {x : Str} (n : Nat) (h : Cp x) (hn : x.length ≤ n) : Fit (10 * n + 2) 0 (.str x) := by
  refine ⟨rfl, Nat.le_refl _, ?_, by rw [PyData.shown_str]; exact h.repr⟩
  rw [PyData.shown_str]
  have := StrLaws.reprText_len x fun c hc => Nat.lt_trans (h c hc) (by decide)
  omega
theorem showAll_mem : ∀ (ds : List D) (t : Str), t ∈ PyData.shownAll ds → ∃ d ∈ ds, t = d.shown
  | [], _, h => by simp [PyData.shownAll] at h
  | d :: r, t, h => by
    rw [PyData.shownAll_cons] at h
    rcases List.mem_cons.mp h with rfl | h
    · exact ⟨d, List.mem_cons_self, rfl⟩
    · obtain ⟨e, m, he⟩ := showAll_mem r t h
      exact ⟨e, List.mem_cons_of_mem _ m, he⟩
theorem sum_le {n : Nat} : ∀ ts : List Str, (∀ t ∈ ts, t.length ≤ n) → (ts.map (·.length)).sum ≤ ts.length * n
  | [], _ => by simp
  | t :: r, h => by
    have h1 := sum_le r fun x hx => h x (List.mem_cons_of_mem _ hx)
    have h2 := h t List.mem_cons_self
    simp only [List.map_cons, List.sum_cons, List.length_cons, Nat.succ_mul]
    omega
theorem depAll {k : Nat} : ∀ ds : List D, (∀ d ∈ ds, d.depth ≤ k) → PyData.depthAll ds ≤ k
  | [], _ => Nat.zero_le _
  | d :: r, h => Nat.max_le.mpr ⟨h d List.mem_cons_self, depAll r fun x hx => h x (List.mem_cons_of_mem _ hx)⟩
theorem shoAll : ∀ ds : List D, (∀ d ∈ ds, d.showable = true) → PyData.showableAll ds = true
  | [], _ => rfl
  | d :: r, h => by
    simp only [PyData.showableAll, Bool.and_eq_true]
    exact ⟨h d List.mem_cons_self, shoAll r fun x hx => h x (List.mem_cons_of_mem _ hx)⟩
theorem cp_comma : Cp ", " := by unfold Cp; decide
theorem fit_tup {n k : Nat} {l : List D} (m : Nat) (hm : l.length ≤ m) (h : ∀ d ∈ l, Fit n k d) : Fit (m * (n + 2) + 3) (k + 1) (.tuple l) := by
  have hn : ∀ t ∈ PyData.shownAll l, t.length ≤ n := fun t ht => by
    obtain ⟨d, hd, rfl⟩ := showAll_mem l t ht
    exact (h d hd).len
  have hc : ∀ t ∈ PyData.shownAll l, Cp t := fun t ht => by
    obtain ⟨d, hd, rfl⟩ := showAll_mem l t ht
    exact (h d hd).cps
  refine ⟨shoAll l fun d hd => (h d hd).sho, ?_, ?_, ?_⟩
  · show PyData.depthAll l + 1 ≤ k + 1
    exact Nat.succ_le_succ (depAll l fun d hd => (h d hd).dep)
  · have h1 := tupleText_len_le (PyData.shownAll l)
    have h2 := sum_le (PyData.shownAll l) hn
    have h3 := PyData.shownAll_length l
    rw [h3] at h1 h2
    have h4 : (PyData.tuple l).shown = tupleText (PyData.shownAll l) := by simp only [PyData.shown]
    rw [h4]
    have h5 : l.length * (n + 2) ≤ m * (n + 2) := Nat.mul_le_mul_right _ hm
    have h6 : l.length * (n + 2) = l.length * n + l.length * 2 := Nat.mul_add ..
    omega
  · rw [PyData.shown_tuple]
    refine ((?_ : Cp "(").app (cp_comma.join _ hc)).app ?_
    · unfold Cp; decide
    · split <;> (unfold Cp; decide)
theorem fit_lst {n k : Nat} {l : List D} (m : Nat) (hm : l.length ≤ m) (h : ∀ d ∈ l, Fit n k d) : Fit (m * (n + 2) + 3) (k + 1) (.list l) := by
  have hn : ∀ t ∈ PyData.shownAll l, t.length ≤ n := fun t ht => by
    obtain ⟨d, hd, rfl⟩ := showAll_mem l t ht
    exact (h d hd).len
  have hc : ∀ t ∈ PyData.shownAll l, Cp t := fun t ht => by
    obtain ⟨d, hd, rfl⟩ := showAll_mem l t ht
    exact (h d hd).cps
  refine ⟨shoAll l fun d hd => (h d hd).sho, ?_, ?_, ?_⟩
  · show PyData.depthAll l + 1 ≤ k + 1
    exact Nat.succ_le_succ (depAll l fun d hd => (h d hd).dep)
  · have h1 := listText_len_le (PyData.shownAll l)
    have h2 := sum_le (PyData.shownAll l) hn
    have h3 := PyData.shownAll_length l
    rw [h3] at h1 h2
    have h4 : (PyData.list l).shown = listText (PyData.shownAll l) := by simp only [PyData.shown]
    rw [h4]
    have h5 : l.length * (n + 2) ≤ m * (n + 2) := Nat.mul_le_mul_right _ hm
    have h6 : l.length * (n + 2) = l.length * n + l.length * 2 := Nat.mul_add ..
    omega
  · rw [PyData.shown_list]
    refine ((?_ : Cp "[").app (cp_comma.join _ hc)).app ?_
    · unfold Cp; decide
    · unfold Cp; decide
theorem fit_dict0 : Fit 2 1 (.dict []) := ⟨rfl, Nat.le_refl _, by decide, by rw [PyData.shown_dict]; unfold Cp; decide⟩
theorem fit_dict1 {n k : Nat} {a b : D} (ha : Fit n k a) (hb : Fit n k b) : Fit (2 * n + 10) (k + 1) (.dict [(a, b)]) := by
  have e : (PyData.dict [(a, b)]).shown = ("{" : Str) ++ (a.shown ++ ": " ++ b.shown) ++ "}" := by
    rw [PyData.shown_dict, PyData.shownKv_cons, PyData.shownKv_nil]
    rfl
  refine ⟨?_, ?_, ?_, ?_⟩
  · simp only [PyData.showable, PyData.showableKv, ha.sho, hb.sho, Bool.and_true]
  · show max (max a.depth b.depth) 0 + 1 ≤ k + 1
    have := ha.dep
    have := hb.dep
    omega
  · rw [e]
    have h1 := ha.len
    have h2 := hb.len
    simp only [Str.length_append]
    have e1 : (("{" : String) : Str).length = 1 := rfl
    have e2 : (("}" : String) : Str).length = 1 := rfl
    have e3 : ((": " : String) : Str).length = 2 := rfl
    omega
  · rw [e]
    refine (Cp.app ?_ ((ha.cps.app ?_).app hb.cps)).app ?_ <;> (unfold Cp; decide)
/-! ## data that may be compared -/
structure Pln (k : Nat) (d : D) : Prop where
  nod : d.hasDict = false
  lay : d.canLay0 = true
  dep : d.depth ≤ k
theorem Pln.mono {k k' : Nat} {d : D} (h : Pln k d) (h2 : k ≤ k') : Pln k' d := ⟨h.nod, h.lay, Nat.le_trans h.dep h2⟩
theorem pln_int (i : Int) (k : Nat) : Pln k (.int i) := ⟨rfl, rfl, Nat.zero_le _⟩
theorem pln_none (k : Nat) : Pln k .none := ⟨rfl, rfl, Nat.zero_le _⟩
theorem pln_bool (b : Bool) (k : Nat) : Pln k (.bool b) := ⟨rfl, rfl, Nat.zero_le _⟩
theorem pln_str {x : Str} (h : Cp x) (k : Nat) : Pln k (.str x) := ⟨rfl, (Bool.and_eq_true_iff.mp h.lay).1, Nat.zero_le _⟩
theorem nodAll : ∀ ds : List D, (∀ d ∈ ds, d.hasDict = false) → PyData.hasDictAll ds = false
  | [], _ => rfl
  | d :: r, h => by
    simp only [PyData.hasDictAll, Bool.or_eq_false_iff]
    exact ⟨h d List.mem_cons_self, nodAll r fun x hx => h x (List.mem_cons_of_mem _ hx)⟩
theorem layAll : ∀ ds : List D, (∀ d ∈ ds, d.canLay0 = true) → PyData.canLayAll0 ds = true
  | [], _ => rfl
  | d :: r, h => by
    simp only [PyData.canLayAll0, Bool.and_eq_true]
    exact ⟨h d List.mem_cons_self, layAll r fun x hx => h x (List.mem_cons_of_mem _ hx)⟩
theorem pln_tup {k : Nat} {l : List D} (h : ∀ d ∈ l, Pln k d) : Pln (k + 1) (.tuple l) := ⟨nodAll l fun d hd => (h d hd).nod, layAll l fun d hd => (h d hd).lay, Nat.succ_le_succ (depAll l fun d hd => (h d hd).dep)⟩
theorem pln_lst {k : Nat} {l : List D} (h : ∀ d ∈ l, Pln k d) : Pln (k + 1) (.list l) := ⟨nodAll l fun d hd => (h d hd).nod, layAll l fun d hd => (h d hd).lay, Nat.succ_le_succ (depAll l fun d hd => (h d hd).dep)⟩
theorem Pln.eqk {k k' : Nat} {x y : D} (hx : Pln k x) (hy : Pln k' y) (h1 : k ≤ 64) (h2 : k' ≤ 64) : eqOk x y = true := by
  have a := Nat.le_trans hx.dep h1
  have b := Nat.le_trans hy.dep h2
  simp [eqOk, SeqAt.shaped, hx.nod, hy.nod, hx.lay, hy.lay, a, b]
theorem o_eqP {x y : D} (hx : Pln 60 x) (hy : Pln 60 y) : dEq x y = some (.d (.bool (PyData.eqv x y))) := if_pos (hx.eqk hy (by decide) (by decide))
theorem o_neP {x y : D} (hx : Pln 60 x) (hy : Pln 60 y) : dNe x y = some (.d (.bool (!PyData.eqv x y))) := if_pos (hx.eqk hy (by decide) (by decide))
mutual
/-- neither bools nor dicts within -/
def nbD : D → Bool
  | .bool _ | .dict _ => false
  | .list xs | .tuple xs => nbAll xs
  | .none | .int _ | .str _ => true
def nbAll : List D → Bool
  | [] => true
  | x :: xs => nbD x && nbAll xs
end
mutual
theorem eqv_iff : ∀ x y : D, nbD x = true → nbD y = true → (PyData.eqv x y = true ↔ x = y)
  | .none, y, _, hy => by cases y <;> simp_all [PyData.eqv, nbD]
  | .bool _, y, h, _ => by simp [nbD] at h
  | .dict _, y, h, _ => by simp [nbD] at h
  | .int i, y, _, hy => by cases y <;> simp_all [PyData.eqv, nbD]
  | .str x, y, _, hy => by cases y <;> simp_all [PyData.eqv, nbD]
  | .list xs, y, hx, hy => by
    cases y with
    | list ys =>
      have := eqvAll_iff xs ys (by simpa [nbD] using hx) (by simpa [nbD] using hy)
      simp [PyData.eqv, this]
    | _ => simp [PyData.eqv]
  | .tuple xs, y, hx, hy => by
    cases y with
    | tuple ys =>
      have := eqvAll_iff xs ys (by simpa [nbD] using hx) (by simpa [nbD] using hy)
      simp [PyData.eqv, this]
    | _ => simp [PyData.eqv]
theorem eqvAll_iff : ∀ xs ys : List D, nbAll xs = true → nbAll ys = true → (PyData.eqvAll xs ys = true ↔ xs = ys)
  | [], [], _, _ => by simp [PyData.eqvAll]
  | [], _ :: _, _, _ => by simp [PyData.eqvAll]
  | _ :: _, [], _, _ => by simp [PyData.eqvAll]
  | x :: xs, y :: ys, hx, hy => by
    simp only [nbAll, Bool.and_eq_true] at hx hy
    have h1 := eqv_iff x y hx.1 hy.1
    have h2 := eqvAll_iff xs ys hx.2 hy.2
    simp [PyData.eqvAll, h1, h2]
end
theorem nbAll_of : ∀ ds : List D, (∀ d ∈ ds, nbD d = true) → nbAll ds = true
  | [], _ => rfl
  | d :: r, h => by
    simp only [nbAll, Bool.and_eq_true]
    exact ⟨h d List.mem_cons_self, nbAll_of r fun x hx => h x (List.mem_cons_of_mem _ hx)⟩
theorem ints_of_ints : ∀ ns : List Int, intsD? (ns.map .int) = some ns
  | [] => rfl
  | n :: r => by simp [intsD?, ints_of_ints r]
theorem mem_intsD {lo : Int} {n : Nat} {d : D} (h : d ∈ intsD lo n) : ∃ i : Int, d = .int i ∧ lo ≤ i ∧ i < lo + n := by
  obtain ⟨k, hk, rfl⟩ := List.mem_map.mp h
  have := List.mem_range.mp hk
  exact ⟨_, rfl, by omega, by omega⟩
theorem len_intsD (lo : Int) (n : Nat) : (intsD lo n).length = n := by simp [intsD]
theorem cut_mem {α : Type} {l : List α} {lo hi : Option Int} {x : α} (h : x ∈ cutG l lo hi) : x ∈ l := List.mem_of_mem_drop (List.mem_of_mem_take h)
theorem cut_len {α : Type} (l : List α) (lo hi : Option Int) : (cutG l lo hi).length ≤ l.length := by
  unfold cutG
  rw [List.length_take, List.length_drop]
  omega
theorem cut_len_head {α : Type} (l : List α) (i : Int) (h : 0 ≤ i) : (cutG l none (some i)).length ≤ i.toNat := by
  rw [cut_head l i h, List.length_take]
  omega
theorem cut_len_tail {α : Type} (l : List α) (i : Int) (h : 0 ≤ i) : (cutG l (some i) none).length = l.length - i.toNat := by
  rw [cut_tail l i h, List.length_drop]
end Qz
namespace Qz
open PySem PySem.Spec L2
open PyProof.Rows hiding St
/-! ## tuples of integers -/
def tI (ns : List Int) : D := .tuple (ns.map .int)
theorem alike_int (i j : Int) : PySem.W.alike (.int i) (.int j) = true := by simp [PySem.W.alike]
theorem lt_ints_all : ∀ xs ys : List Int, PyProof.Rows.lexLt PyProof.Rows.itemOrd (PySem.W.keyToksAll (xs.map .int)) (PySem.W.keyToksAll (ys.map .int)) = HT.lexLt xs ys
  | [], [] => rfl
  | [], y :: ys => rfl
  | x :: xs, [] => rfl
  | x :: xs, y :: ys => by
    rw [HT.lexLt_cons, List.map_cons, List.map_cons]
    by_cases h : x = y
    · rw [PySem.W.dataLt_all_yes (alike_int _ _) (by simp [PyData.eqv, h]), if_pos h]
      exact lt_ints_all xs ys
    · rw [PySem.W.dataLt_all_no (alike_int _ _) (by simp [PyData.eqv, h]), if_neg h, PySem.W.dataLt_int]
theorem lt_tI (xs ys : List Int) : PySem.W.dataLt (tI xs) (tI ys) = HT.lexLt xs ys := by
  unfold tI
  rw [PySem.W.dataLt_tuple]
  exact lt_ints_all xs ys
theorem alike_all : ∀ xs ys : List Int, PySem.W.alikeAll (xs.map .int) (ys.map .int) = true
  | [], _ => by simp [PySem.W.alikeAll]
  | _ :: _, [] => by simp [PySem.W.alikeAll]
  | x :: xs, y :: ys => by
    simp only [List.map_cons, PySem.W.alikeAll, alike_int, Bool.true_and]
    exact alike_all xs ys
theorem pln_tI (xs : List Int) : Pln 1 (tI xs) := pln_tup (k := 0) fun d hd => by
  obtain ⟨i, _, rfl⟩ := List.mem_map.mp hd
  exact pln_int _ _
theorem nb_tI (xs : List Int) : nbD (tI xs) = true := nbAll_of _ fun d hd => by
  obtain ⟨i, _, rfl⟩ := List.mem_map.mp hd
  rfl
theorem tI_inj {xs ys : List Int} (h : tI xs = tI ys) : xs = ys := by
  have h2 : xs.map PyData.int = ys.map PyData.int := by injection h
  exact List.map_inj_right (fun a b e => by injection e) |>.mp h2
theorem ord_tI (xs ys : List Int) : ordOk (tI xs) (tI ys) = true := by
  have h1 := (pln_tI xs).nod
  have h2 := (pln_tI ys).nod
  have h3 := (pln_tI xs).dep
  have h4 : PySem.W.alike (tI xs) (tI ys) = true := by
    unfold tI
    simp only [PySem.W.alike]
    exact alike_all xs ys
  have h5 : (tI xs).depth ≤ 100 := Nat.le_trans h3 (by decide)
  simp only [ordOk, h1, h2, h4, Bool.not_false, Bool.true_and, Bool.and_eq_true, decide_eq_true_eq]
  exact ⟨rfl, h5⟩
theorem o_leT (xs ys : List Int) : dLe (tI xs) (tI ys) = some (.d (.bool (!HT.lexLt ys xs))) := by
  have h : dLe (tI xs) (tI ys) = dOrd pLe (tI xs) (tI ys) := rfl
  rw [h, dOrd, if_pos (ord_tI _ _), pLe, lt_tI]
theorem o_ltT (xs ys : List Int) : dLt (tI xs) (tI ys) = some (.d (.bool (HT.lexLt xs ys))) := by
  have h : dLt (tI xs) (tI ys) = dOrd pLt (tI xs) (tI ys) := rfl
  rw [h, dOrd, if_pos (ord_tI _ _), pLt, lt_tI]
theorem o_gtT (xs ys : List Int) : dGt (tI xs) (tI ys) = some (.d (.bool (HT.lexLt ys xs))) := by
  have h : dGt (tI xs) (tI ys) = dOrd pGt (tI xs) (tI ys) := rfl
  rw [h, dOrd, if_pos (ord_tI _ _), pGt, lt_tI]
theorem eqv_tI (xs ys : List Int) : PyData.eqv (tI xs) (tI ys) = decide (xs = ys) := by
  rw [Bool.eq_iff_iff, eqv_iff _ _ (nb_tI xs) (nb_tI ys), decide_eq_true_eq]
  exact ⟨tI_inj, fun e => by rw [e]⟩
theorem o_eqT (xs ys : List Int) : dEq (tI xs) (tI ys) = some (.d (.bool (decide (xs = ys)))) := by
  rw [o_eqP ((pln_tI xs).mono (by decide)) ((pln_tI ys).mono (by decide)), eqv_tI]
theorem o_neT (xs ys : List Int) : dNe (tI xs) (tI ys) = some (.d (.bool (!decide (xs = ys)))) := by
  rw [o_neP ((pln_tI xs).mono (by decide)) ((pln_tI ys).mono (by decide)), eqv_tI]
/-! ## loops over numbered things, ranges, pairs -/
def enumD (k : Int) : List D → List D
  | [] => []
  | d :: r => .tuple [.int k, d] :: enumD (k + 1) r
theorem ints_cons (lo : Int) (n : Nat) : intsD lo (n + 1) = .int lo :: intsD (lo + 1) n := by
  simp only [intsD, List.range_succ_eq_map, List.map_cons, List.map_map]
  congr 1
  · simp
  · refine List.map_congr_left fun i _ => ?_
    simp only [Function.comp]
    congr 1
    omega
theorem pairs_enum : ∀ (ds : List D) (k : Int), pairsD (intsD k ds.length) ds = enumD k ds
  | [], k => by simp [pairsD, enumD]
  | d :: r, k => by
    rw [List.length_cons, ints_cons, pairsD, pairs_enum r (k + 1), enumD]
def enQ (I : List D → Int → S → Prop) (r : List D) (k : Int) (Q : Fl → S → Prop) : Fl → S → Prop
  | .nx, s => I r k s
  | .ct, s => I r k s
  | .bk, s => Q .nx s
  | .rt x, s => Q (.rt x) s
section
variable {g : D → S → Option S} {body : MS} {Q : Fl → S → Prop}
theorem k_enL (I : List D → Int → S → Prop) (hs : ∀ d r k s, I (d :: r) k s → ∃ s1, g (.tuple [.int k, d]) s = some s1 ∧ Ok (body s1) (enQ I r (k + 1) Q)) (he : ∀ k s, I [] k s → Q .nx s) :
    ∀ (ds : List D) (k : Int) (s : S), I ds k s → Ok (loopL g body (enumD k ds) s) Q
  | [], k, s, h => .of rfl (he k s h)
  | d :: r, k, s, h => by
    obtain ⟨s1, e1, h1⟩ := hs d r k s h
    obtain ⟨f, s2, e2, h2⟩ := h1.get
    cases f with
    | nx => simp only [enumD, loopL, e1, e2]; exact k_enL I hs he r (k + 1) s2 h2
    | ct => simp only [enumD, loopL, e1, e2]; exact k_enL I hs he r (k + 1) s2 h2
    | bk => simp only [enumD, loopL, e1, e2]; exact .of rfl h2
    | rt x => simp only [enumD, loopL, e1, e2]; exact .of rfl h2
theorem k_enum (I : List D → Int → S → Prop) (hs : ∀ d r k s, I (d :: r) k s → ∃ s1, g (.tuple [.int k, d]) s = some s1 ∧ Ok (body s1) (enQ I r (k + 1) Q)) (he : ∀ k s, I [] k s → Q .nx s)
    (ds : List D) (s : S) (h : I ds 0 s) : Ok (loopL g body (pairsD (intsD 0 ds.length) ds) s) Q := by
  rw [pairs_enum]
  exact k_enL I hs he ds 0 s h
def rgQ (I : Int → Nat → S → Prop) (k : Int) (n : Nat) (Q : Fl → S → Prop) : Fl → S → Prop
  | .nx, s => I k n s
  | .ct, s => I k n s
  | .bk, s => Q .nx s
  | .rt x, s => Q (.rt x) s
theorem k_rng (I : Int → Nat → S → Prop) (hs : ∀ k n s, I k (n + 1) s → ∃ s1, g (.int k) s = some s1 ∧ Ok (body s1) (rgQ I (k + 1) n Q)) (he : ∀ k s, I k 0 s → Q .nx s) :
    ∀ (n : Nat) (k : Int) (s : S), I k n s → Ok (loopL g body (intsD k n) s) Q
  | 0, k, s, h => .of rfl (he k s h)
  | n + 1, k, s, h => by
    obtain ⟨s1, e1, h1⟩ := hs k n s h
    obtain ⟨f, s2, e2, h2⟩ := h1.get
    cases f with
    | nx => simp only [ints_cons, loopL, e1, e2]; exact k_rng I hs he n (k + 1) s2 h2
    | ct => simp only [ints_cons, loopL, e1, e2]; exact k_rng I hs he n (k + 1) s2 h2
    | bk => simp only [ints_cons, loopL, e1, e2]; exact .of rfl h2
    | rt x => simp only [ints_cons, loopL, e1, e2]; exact .of rfl h2
def zpQ (I : List D → List D → S → Prop) (x y : List D) (Q : Fl → S → Prop) : Fl → S → Prop
  | .nx, s => I x y s
  | .ct, s => I x y s
  | .bk, s => Q .nx s
  | .rt v, s => Q (.rt v) s
theorem k_zipL (I : List D → List D → S → Prop) (hs : ∀ a x b y s, I (a :: x) (b :: y) s → ∃ s1, g (.tuple [a, b]) s = some s1 ∧ Ok (body s1) (zpQ I x y Q)) (he : ∀ x y s, I x y s → x = [] ∨ y = [] → Q .nx s) :
    ∀ (x y : List D) (s : S), I x y s → Ok (loopL g body (pairsD x y) s) Q
  | [], y, s, h => by rw [pairsD.eq_def]; exact .of rfl (he [] y s h (.inl rfl))
  | a :: x, [], s, h => by rw [pairsD.eq_def]; exact .of rfl (he (a :: x) [] s h (.inr rfl))
  | a :: x, b :: y, s, h => by
    obtain ⟨s1, e1, h1⟩ := hs a x b y s h
    obtain ⟨f, s2, e2, h2⟩ := h1.get
    cases f with
    | nx => simp only [pairsD, loopL, e1, e2]; exact k_zipL I hs he x y s2 h2
    | ct => simp only [pairsD, loopL, e1, e2]; exact k_zipL I hs he x y s2 h2
    | bk => simp only [pairsD, loopL, e1, e2]; exact .of rfl h2
    | rt x => simp only [pairsD, loopL, e1, e2]; exact .of rfl h2
end
/-! ## the first place for which something is so -/
def firstBad (p : D → Bool) (k : Int) : List D → Option Int
  | [] => none
  | d :: r => if p d then firstBad p (k + 1) r else some k
theorem firstBad_none {p : D → Bool} : ∀ (ds : List D) (k : Int), firstBad p k ds = none → ∀ d ∈ ds, p d = true
  | [], _, _, d, h => by simp at h
  | e :: r, k, h, d, hd => by
    by_cases c : p e = true
    · have h' : firstBad p (k + 1) r = none := by simpa [firstBad, c] using h
      rcases List.mem_cons.mp hd with rfl | hd
      · exact c
      · exact firstBad_none r (k + 1) h' d hd
    · simp [firstBad, c] at h
theorem firstBad_le {p : D → Bool} : ∀ (ds : List D) (k j : Int), firstBad p k ds = some j → k ≤ j ∧ j < k + ds.length
  | [], _, _, h => by simp [firstBad] at h
  | d :: r, k, j, h => by
    unfold firstBad at h
    split at h
    · have := firstBad_le r (k + 1) j h
      simp only [List.length_cons]
      omega
    · cases h
      simp only [List.length_cons]
      omega
def firstK (test : Int → Bool) : Nat → Int → Option Int
  | 0, _ => none
  | n + 1, k => if test k then some k else firstK test n (k + 1)
theorem firstK_le {test : Int → Bool} : ∀ (n : Nat) (k j : Int), firstK test n k = some j → k ≤ j ∧ j < k + n
  | 0, _, _, h => by simp [firstK] at h
  | n + 1, k, j, h => by
    unfold firstK at h
    split at h
    · cases h; omega
    · have := firstK_le n (k + 1) j h
      omega
theorem firstK_none {test : Int → Bool} : ∀ (n : Nat) (k : Int), firstK test n k = none → ∀ i, k ≤ i → i < k + n → test i = false
  | 0, k, _, i, h1, h2 => by omega
  | n + 1, k, h, i, h1, h2 => by
    by_cases c : test k = true
    · simp [firstK, c] at h
    · have h' : firstK test n (k + 1) = none := by simpa [firstK, c] using h
      by_cases e : i = k
      · subst e; simpa using c
      · exact firstK_none n (k + 1) h' i (by omega) (by omega)
theorem firstK_congr {t u : Int → Bool} : ∀ (n : Nat) (k : Int), (∀ i, k ≤ i → i < k + n → t i = u i) → firstK t n k = firstK u n k
  | 0, _, _ => rfl
  | n + 1, k, h => by
    unfold firstK
    rw [h k (Int.le_refl _) (by omega), firstK_congr n (k + 1) fun i h1 h2 => h i (by omega) (by omega)]
/-- the first place at which le holds of the item there and the one ahead -/
def fallT (le : D → D → Bool) (ds : List D) (k : Int) : Bool := match ds[(k - 1).toNat]?, ds[k.toNat]? with
  | some x, some y => le y x
  | _, _ => false
def fallG (le : D → D → Bool) (ds : List D) : Option Int := firstK (fallT le ds) (ds.length - 1) 1
def optI : Option Int → D
  | some k => .int k
  | none => .none
theorem at_two {ds : List D} {i : Int} (h1 : 1 ≤ i) (h2 : i < 1 + ((ds.length - 1 : Nat) : Int)) : ∃ x y, ds[(i - 1).toNat]? = some x ∧ ds[i.toNat]? = some y :=
  ⟨ds[(i - 1).toNat]'(by omega), ds[i.toNat]'(by omega), List.getElem?_eq_getElem _, List.getElem?_eq_getElem _⟩
/-! ## what values are -/
def isIntB : D → Bool
  | .int _ | .bool _ => true
  | _ => false
def isBoolB : D → Bool
  | .bool _ => true
  | _ => false
def isTupB : D → Bool
  | .tuple _ => true
  | _ => false
def isLstB : D → Bool
  | .list _ => true
  | _ => false
def isStrB : D → Bool
  | .str _ => true
  | _ => false
theorem o_isInt {v : D} : fIsi "int" v = some (.d (.bool (isIntB v))) := by cases v <;> rfl
theorem o_isBool {v : D} : fIsi "bool" v = some (.d (.bool (isBoolB v))) := by cases v <;> rfl
theorem o_isTup {v : D} : fIsi "tuple" v = some (.d (.bool (isTupB v))) := by cases v <;> rfl
theorem o_isLst {v : D} : fIsi "list" v = some (.d (.bool (isLstB v))) := by cases v <;> rfl
theorem o_isStr {v : D} : fIsi "str" v = some (.d (.bool (isStrB v))) := by cases v <;> rfl
def isIntD : D → Bool
  | .int _ => true
  | _ => false
def within (v : D) (lo hi : Int) : Bool := match v with
  | .int i => decide (lo ≤ i) && decide (i ≤ hi)
  | _ => false
def tupLen (v : D) (n : Nat) : Bool := match v with
  | .tuple l => l.length == n
  | _ => false
theorem within_int {v : D} {lo hi : Int} (h : within v lo hi = true) : ∃ i, v = .int i ∧ lo ≤ i ∧ i ≤ hi := by
  cases v <;> simp [within] at h
  exact ⟨_, rfl, h.1, h.2⟩
theorem tup_of {v : D} (h : isTupB v = true) : ∃ ds, v = .tuple ds := by
  cases v <;> simp [isTupB] at h
  exact ⟨_, rfl⟩
end Qz
namespace Qz
open PySem PySem.Spec L2
open PyProof.Rows hiding St
section
variable {s s1 s2 : S} {r : R}
def kGetD (Q : R → S → Prop) (r1 r2 : R) (s : S) : Prop := ∃ k c v, r2 = .d k ∧ viewC s r1 = some c ∧ getC c k = some (some v) ∧ Q (.d v) s
theorem kGetD.mk {Q : R → S → Prop} {r1 : R} {k v : D} {c : C} (h1 : viewC s r1 = some c) (h2 : getC c k = some (some v)) (q : Q (.d v) s) : kGetD Q r1 (.d k) s := ⟨k, c, v, rfl, h1, h2, q⟩
theorem k_getD {md mk : ME} {Q : R → S → Prop} (h : Ok (md s) fun r1 s1 => Ok (mk s1) fun r2 s2 => kGetD Q r1 r2 s2) : Ok (mGetD md mk s) Q := by
  obtain ⟨r1, s1, e, h⟩ := h.get
  obtain ⟨_, s2, e2, k, c, v, rfl, h1, h2, q⟩ := h.get
  unfold mGetD
  simp only [e, e2, h1, h2]
  exact .of rfl q
def kInD (neg : Bool) (Q : R → S → Prop) (r1 r2 : R) (s : S) : Prop := ∃ k c o, r1 = .d k ∧ viewC s r2 = some c ∧ getC c k = some o ∧ Q (.d (.bool (o.isSome != neg))) s
theorem kInD.mk {neg : Bool} {Q : R → S → Prop} {r2 : R} {k : D} {c : C} {o : Option D} (h1 : viewC s r2 = some c) (h2 : getC c k = some o) (q : Q (.d (.bool (o.isSome != neg))) s) : kInD neg Q (.d k) r2 s := ⟨k, c, o, rfl, h1, h2, q⟩
theorem k_inD {neg : Bool} {mk md : ME} {Q : R → S → Prop} (h : Ok (mk s) fun r1 s1 => Ok (md s1) fun r2 s2 => kInD neg Q r1 r2 s2) : Ok (mInD neg mk md s) Q := by
  obtain ⟨r1, s1, e, h⟩ := h.get
  obtain ⟨r2, s2, e2, k, c, o, rfl, h1, h2, q⟩ := h.get
  unfold mInD
  simp only [e, e2, h1, h2]
  exact .of rfl q
theorem while_up {c : MT} {body : MS} : ∀ (n : Nat) (s : S), whileN c body n s ≠ .no → ∀ m, n ≤ m → whileN c body m s = whileN c body n s
  | 0, s, h, _, _ => absurd rfl h
  | n + 1, s, h, 0, hm => absurd hm (by omega)
  | n + 1, s, h, m + 1, hm => by
    simp only [whileN] at h ⊢
    cases e : c s with
    | no => rfl
    | ok t s1 =>
      cases t with
      | false => rfl
      | true =>
        simp only [e] at h ⊢
        cases e2 : body s1 with
        | no => rfl
        | ok f s2 =>
          cases f with
          | nx => simp only [e2] at h ⊢; exact while_up n s2 h m (by omega)
          | ct => simp only [e2] at h ⊢; exact while_up n s2 h m (by omega)
          | bk => rfl
          | rt x => rfl
def whQ (I : Nat → S → Prop) (n : Nat) (Q : Fl → S → Prop) : Fl → S → Prop
  | .nx, s => ∃ m, m < n ∧ I m s
  | .ct, s => ∃ m, m < n ∧ I m s
  | .bk, s => Q .nx s
  | .rt x, s => Q (.rt x) s
theorem k_while {c : MT} {body : MS} {Q : Fl → S → Prop} (I : Nat → S → Prop) (n : Nat) (h0 : I n s) (hs : ∀ n s, I n s → Ok (c s) fun t s1 => (t = true → Ok (body s1) (whQ I n Q)) ∧ (t = false → Q .nx s1)) : Ok (mWhile c body s) Q := by
  have go : ∀ n s, I n s → ∃ N f s', whileN c body N s = .ok f s' ∧ Q f s' := by
    intro n
    induction n using Nat.strongRecOn with
    | _ n ih =>
      intro s h
      obtain ⟨t, s1, e, h1, h2⟩ := (hs n s h).get
      cases t with
      | false => exact ⟨1, .nx, s1, by simp only [whileN, e], h2 rfl⟩
      | true =>
        obtain ⟨f, s2, e2, h3⟩ := (h1 rfl).get
        cases f with
        | nx =>
          obtain ⟨m, hm, hI⟩ := h3
          obtain ⟨N, f, s', e3, q⟩ := ih m hm s2 hI
          exact ⟨N + 1, f, s', by simp only [whileN, e, e2, e3], q⟩
        | ct =>
          obtain ⟨m, hm, hI⟩ := h3
          obtain ⟨N, f, s', e3, q⟩ := ih m hm s2 hI
          exact ⟨N + 1, f, s', by simp only [whileN, e, e2, e3], q⟩
        | bk => exact ⟨1, .nx, s2, by simp only [whileN, e, e2], h3⟩
        | rt x => exact ⟨1, .rt x, s2, by simp only [whileN, e, e2], h3⟩
  obtain ⟨N, f, s', e, q⟩ := go n s h0
  have hne : ∃ n, whileN c body n s ≠ .no := ⟨N, by rw [e]; exact fun h => nomatch h⟩
  refine .of ?_ q
  unfold mWhile
  rw [dif_pos hne]
  have hc := hne.choose_spec
  rcases Nat.le_total N hne.choose with hle | hle
  · rw [while_up N s (by rw [e]; exact fun h => nomatch h) _ hle, e]
  · rw [← while_up _ s hc N hle, e]
theorem k_mid {a c : MS} {Q : Fl → S → Prop} (P : S → Prop) (h : Ok (a s) fun f s => f = .nx ∧ P s) (k : ∀ s, P s → Ok (c s) Q) : Ok (mSeq a c s) Q :=
  k_seq (h.mono fun f s1 ⟨e, q⟩ => by subst e; exact k s1 q)
theorem k_loop1 {g : D → S → Option S} {body : MS} {d : D} {ds : List D} {Q : Fl → S → Prop} (e : g d s = some s1) (h : Ok (body s1) fun f s2 => match f with
    | .nx => Ok (loopL g body ds s2) Q
    | .ct => Ok (loopL g body ds s2) Q
    | .bk => Q .nx s2
    | .rt x => Q (.rt x) s2) : Ok (loopL g body (d :: ds) s) Q := by
  obtain ⟨f, s2, e2, h2⟩ := h.get
  cases f with
  | nx => simp only [loopL, e, e2]; exact h2
  | ct => simp only [loopL, e, e2]; exact h2
  | bk => simp only [loopL, e, e2]; exact .of rfl h2
  | rt x => simp only [loopL, e, e2]; exact .of rfl h2
theorem k_loop0 {g : D → S → Option S} {body : MS} {Q : Fl → S → Prop} (h : Q .nx s) : Ok (loopL g body [] s) Q := .of rfl h
end
/-- at an int, a dict by tuples: what dPut leaves -/
theorem dPut_key {κ : Type} [DecidableEq κ] {l : List (κ × D)} {k : κ} {v : D} : ∀ q ∈ dPut l k v, q.1 = k ∧ q.2 = v ∨ q ∈ l := fun q hq => by
  unfold dPut at hq
  split at hq
  · obtain ⟨p, hp, rfl⟩ := List.mem_map.mp hq
    split
    · rename_i e; exact .inl ⟨e, rfl⟩
    · exact .inr hp
  · rcases List.mem_append.mp hq with hq | hq
    · exact .inr hq
    · rw [List.mem_singleton] at hq
      subst hq
      exact .inl ⟨rfl, rfl⟩
theorem dPut_len {κ : Type} [DecidableEq κ] (l : List (κ × D)) (k : κ) (v : D) : (dPut l k v).length ≤ l.length + 1 := by
  unfold dPut
  split
  · rw [List.length_map]; omega
  · rw [List.length_append]; exact Nat.le_refl _
theorem dPut_nodup {κ : Type} [DecidableEq κ] {l : List (κ × D)} {k : κ} {v : D} (h : (l.map (·.1)).Nodup) : ((dPut l k v).map (·.1)).Nodup := by
  unfold dPut
  split
  · have e : (l.map fun kv => if kv.1 = k then (kv.1, v) else kv).map (·.1) = l.map (·.1) := by
      rw [List.map_map]
      refine List.map_congr_left fun q _ => ?_
      simp only [Function.comp]
      split <;> rfl
    rw [e]; exact h
  · rename_i c
    rw [List.map_append, List.map_cons, List.map_nil, List.nodup_append]
    refine ⟨h, by simp, ?_⟩
    intro a ha b hb
    rw [List.mem_singleton] at hb
    subst hb
    obtain ⟨q, hq, rfl⟩ := List.mem_map.mp ha
    intro e
    apply c
    rw [List.any_eq_true]
    exact ⟨q, hq, decide_eq_true e⟩
theorem dGet_mem {κ : Type} [DecidableEq κ] : ∀ (l : List (κ × D)) (q : κ × D), q ∈ l → ∃ v, dGetK l q.1 = some v ∧ (q.1, v) ∈ l
  | [], _, h => by simp at h
  | p :: l, q, h => by
    by_cases e : p.1 = q.1
    · exact ⟨p.2, by simp [dGetK, List.find?_cons, e], by rw [← e]; exact List.mem_cons_self⟩
    · rcases List.mem_cons.mp h with rfl | h
      · exact absurd rfl e
      · obtain ⟨v, h1, h2⟩ := dGet_mem l q h
        refine ⟨v, ?_, List.mem_cons_of_mem _ h2⟩
        rw [← h1]; simp [dGetK, List.find?_cons, e]
theorem o_idxE {l : List D} {d : D} (h : l.getLast? = some d) : dIdx (.tuple l) (.int (-1)) = some (.d d) := by
  have hne : l ≠ [] := fun e => by rw [e] at h; cases h
  have hp : 0 < l.length := List.length_pos_iff.mpr hne
  rw [List.getLast?_eq_getElem?] at h
  have e1 : ixN l.length (-1) = some (l.length - 1) := by
    unfold ixN
    rw [if_neg (by decide), if_pos (by omega)]
    congr 1
    omega
  show (atI l (-1)).map R.d = _
  unfold atI
  rw [e1]
  simp only [Option.bind, h, Option.map]
theorem o_divmod {i j : Int} (h : 0 < j) (h2 : j < 1073741824) : fDivmod [.int i, .int j] = some (.d (.tuple [.int (i / j), .int (i % j)])) := if_pos ⟨h, h2⟩
theorem o_gcd {i j : Int} : fGcd [.int i, .int j] = some (.d (.int ((Nat.gcd i.natAbs j.natAbs : Nat) : Int))) := rfl
theorem o_mulX {i j : Int} (h1 : i.natAbs < 10 ^ 100) (h2 : j.natAbs < 10 ^ 100) : dMul (.int i) (.int j) = some (.d (.int (i * j))) := by
  have hb : (10 : Nat) ^ 100 ≤ 2 ^ 1000 := by decide +kernel
  have : mulOk i j = true := by
    simp only [mulOk, Bool.or_eq_true, Bool.and_eq_true, decide_eq_true_eq]
    exact .inr ⟨Nat.lt_of_lt_of_le h1 hb, Nat.lt_of_lt_of_le h2 hb⟩
  simp [dMul, this]
theorem o_eqS {x : Str} (h : Cp x) : dEq (.str x) (.str x) = some (.d (.bool true)) := by
  rw [o_eqP (pln_str h _) (pln_str h _)]
  simp [PyData.eqv]
theorem o_neS {x : Str} (h : Cp x) : dNe (.str x) (.str x) = some (.d (.bool false)) := by
  rw [o_neP (pln_str h _) (pln_str h _)]
  simp [PyData.eqv]
theorem Fit.rp {n k : Nat} {d : D} (h : Fit n k d) (h1 : n ≤ 10000000) (h2 : k ≤ 150) : fRepr [d] = some (.d (.str d.shown)) := o_repr (h.ok h1 h2)
end Qz
namespace Qz
open PySem PySem.Spec L2
open PyProof.Rows hiding St
section
variable {s : S}
def kCallL (np : Nat) (g : DF) (Q : R → S → Prop) (rs : List R) (s : S) : Prop := ∃ q s2, rs.length = np ∧ argsT s rs = some (q, s2) ∧ OkF (g q s2.b) fun r b => leanR r = true ∧ Q r ⟨s.a, b⟩
theorem kCallL.mk {np : Nat} {g : DF} {Q : R → S → Prop} {rs q : List R} {a2 : List (Option R)} {b2 : Bx} {P : R → Prop} (h1 : rs.length = np) (h2 : argsT s rs = some (q, ⟨a2, b2⟩)) (h3 : Gv g q P) (hl : ∀ r, P r → leanR r = true) (h4 : ∀ r b, P r → Q r ⟨s.a, b⟩) : kCallL np g Q rs s :=
  ⟨q, _, h1, h2, (h3.all b2).mono fun r b p => ⟨hl r p, h4 r b p⟩⟩
theorem k_callL {np : Nat} {g : DF} {ms : MA} {Q : R → S → Prop} (h : Ok (ms s) (kCallL np g Q)) : Ok (mCallL np g ms s) Q := by
  obtain ⟨rs, s1, e, q, s2, h1, h2, h3⟩ := h.get
  obtain ⟨r, b, e2, hl, k⟩ := h3.get
  unfold mCallL
  simp only [e, if_pos h1, h2, e2, if_pos hl]
  exact .of rfl k
theorem o_isB {a b : Bool} : dIsB (.bool a) (.bool b) = some (.d (.bool (decide (a = b)))) := rfl
theorem o_notB {a b : Bool} : dNotB (.bool a) (.bool b) = some (.d (.bool (!decide (a = b)))) := rfl
/-- what a set comprehension that is sorted comes to -/
def kSet' (f : List D → Option (List D)) (Q : R → S → Prop) (r : R) (s : S) : Prop := ∃ acc l, r = .o (.lst acc) ∧ f acc = some l ∧ Q (.o (.lst l)) s
theorem kSet'.mk {f : List D → Option (List D)} {Q : R → S → Prop} {acc l : List D} (h : f acc = some l) (q : Q (.o (.lst l)) s) : kSet' f Q (.o (.lst acc)) s := ⟨acc, l, rfl, h, q⟩
theorem k_sortSC {f : List D → Option (List D)} {src : MI} {g : D → S → Option S} {c : MT} {m : ME} {vs : List Nat} {Q : R → S → Prop} (h : Ok (src s) (kLc g c m vs (kSet' f Q))) : Ok (mSortSC f src g c m vs s) Q := by
  obtain ⟨ds, s1, e, h1, h2⟩ := h.get
  obtain ⟨acc, s2, e2, acc', l, er, hf, q⟩ := h2.get
  cases er
  unfold mSortSC mAcc
  simp only [e, if_pos h1, e2, hf]
  exact .of rfl q
theorem tupI_tI' {l : List Int} (h : l ≠ []) : tupI? (tI l) = some l := by
  cases l with
  | nil => exact absurd rfl h
  | cons i r =>
    show (match intsD? ((i :: r).map .int) with | some (i :: r) => some (i :: r) | _ => none) = _
    rw [ints_of_ints]
theorem tupsI_tI : ∀ L : List (List Int), (∀ x ∈ L, x ≠ []) → tupsI? (L.map tI) = some L
  | [], _ => rfl
  | x :: L, h => by
    rw [List.map_cons, tupsI?, tupI_tI' (h x List.mem_cons_self)]
    simp only
    rw [tupsI_tI L fun y hy => h y (List.mem_cons_of_mem _ hy)]
    rfl
theorem fST_tI {L : List (List Int)} (h : ∀ x ∈ L, x ≠ []) (hl : L.length ≤ 63) : fST (L.map tI) = some ((sortU L).map tI) := by
  unfold fST
  rw [if_pos (by rw [List.length_map]; exact hl), tupsI_tI L h]
  rfl
theorem fSI_int {is : List Int} (hl : is.length ≤ 63) : fSI (is.map .int) = some ((sortU (is.map fun i => [i])).map fun l => .int (l.headD 0)) := by
  unfold fSI
  rw [if_pos (by rw [List.length_map]; exact hl), ints_of_ints]
  rfl
theorem flatL_of : ∀ {ds : List D}, (∀ d ∈ ds, flat d = true) → flatL ds = true
  | [], _ => by simp only [flatL]
  | d :: ds, h => by
    simp only [flatL, Bool.and_eq_true]
    exact ⟨h d (List.mem_cons_self ..), flatL_of fun x hx => h x (List.mem_cons_of_mem _ hx)⟩
end
/-! ## comprehensions with two sources -/
def kLc2 (g : D → S → Option S) (c : MT) (src1 : MI) (g1 : D → S → Option S) (c1 : MT) (m : ME) (vs vs1 : List Nat) (Q : R → S → Prop) (ds : List D) (s : S) : Prop := noOwn s.a vs = true ∧ Ok (lc2L g c src1 g1 c1 m vs vs1 ds [] s) fun acc s2 => Q (.o (.lst acc)) ⟨backA s.a s2.a vs, s2.b⟩
theorem k_lc2 {s : S} {src : MI} {g : D → S → Option S} {c : MT} {src1 : MI} {g1 : D → S → Option S} {c1 : MT} {m : ME} {vs vs1 : List Nat} {Q : R → S → Prop} (h : Ok (src s) (kLc2 g c src1 g1 c1 m vs vs1 Q)) : Ok (mLc2 src g c src1 g1 c1 m vs vs1 s) Q := by
  obtain ⟨ds, s1, e, h1, h2⟩ := h.get
  obtain ⟨acc, s2, e2, q⟩ := h2.get
  unfold mLc2
  simp only [e, if_pos h1, e2]
  exact .of rfl q
theorem kLc2.pure {g : D → S → Option S} {c : MT} {src1 : MI} {g1 : D → S → Option S} {c1 : MT} {m : ME} {vs vs1 : List Nat} {Q : R → S → Prop} {ds : List D} {a : List (Option R)} {b : Bx} (F : D → List D) (hv : ∀ i ∈ vs1, i ∈ vs) (h1 : noOwn a vs = true) (hl : (ds.flatMap F).length ≤ 10000)
    (hs : ∀ d ∈ ds, ∃ s1, g d ⟨wipeA a vs, b⟩ = some s1 ∧ Ok (c s1) fun t s2 => (t = false → wipeA s2.a vs = wipeA a vs ∧ s2.b = b ∧ F d = []) ∧ (t = true → Ok (src1 s2) fun es s3 => wipeA s3.a vs = wipeA a vs ∧ s3.b = b ∧ ∃ F1 : D → Option D, F d = es.filterMap F1 ∧ ∀ e ∈ es, ∃ s4, g1 e ⟨wipeA s3.a vs1, b⟩ = some s4 ∧
      Ok (c1 s4) fun t s5 => (t = true → Ok (m s5) fun y s6 => ∃ z, take1 s6 y = some (z, s6) ∧ wipeA s6.a vs1 = wipeA s3.a vs1 ∧ s6.b = b ∧ F1 e = some z) ∧ (t = false → wipeA s5.a vs1 = wipeA s3.a vs1 ∧ s5.b = b ∧ F1 e = none)))
    (q : Q (.o (.lst (ds.flatMap F))) ⟨a, b⟩) : kLc2 g c src1 g1 c1 m vs vs1 Q ds ⟨a, b⟩ := by
  refine ⟨h1, ?_⟩
  have go : ∀ (r done : List D) (s : S), ds = done ++ r → wipeA s.a vs = wipeA a vs → s.b = b → Ok (lc2L g c src1 g1 c1 m vs vs1 r (done.flatMap F) s) fun acc s2 => Q (.o (.lst acc)) ⟨backA a s2.a vs, s2.b⟩ := by
    intro r
    induction r with
    | nil =>
      intro done s e hw hb
      rw [List.append_nil] at e
      refine .of rfl ?_
      show Q (.o (.lst (done.flatMap F))) ⟨backA a s.a vs, s.b⟩
      rw [back_wipe hw, hb, ← e]
      exact q
    | cons d r ih =>
      intro done s e hw hb
      have hm : d ∈ ds := by rw [e]; simp
      obtain ⟨s1, e1, h2⟩ := hs d hm
      obtain ⟨t, s2, e2, hf, ht⟩ := h2.get
      have e1' : g d { s with a := wipeA s.a vs } = some s1 := by rw [← e1, ← hw, ← hb]
      have eN : ds = (done ++ [d]) ++ r := by rw [e]; simp
      cases t with
      | false =>
        obtain ⟨k1, k2, k3⟩ := hf rfl
        simp only [lc2L, e1', e2]
        have := ih (done ++ [d]) s2 eN k1 k2
        rw [List.flatMap_append] at this
        simp only [List.flatMap_cons, List.flatMap_nil, k3, List.append_nil] at this
        exact this
      | true =>
        obtain ⟨es, s3, e3, k1, k2, F1, k3, h4⟩ := (ht rfl).get
        have hin := k_lcL (g := g1) (c := c1) (m := m) (vs := vs1) (Q := fun acc s' => acc = done.flatMap F ++ F d ∧ wipeA s'.a vs1 = wipeA s3.a vs1 ∧ s'.b = b)
          (fun r' acc s' => wipeA s'.a vs1 = wipeA s3.a vs1 ∧ s'.b = b ∧ ∃ dn, es = dn ++ r' ∧ acc = done.flatMap F ++ dn.filterMap F1) (by
            rintro d' r' acc s' ⟨hw', hb', dn, e', ha⟩
            have hm' : d' ∈ es := by rw [e']; simp
            obtain ⟨s4, e4, h5⟩ := h4 d' hm'
            refine ⟨s4, by rw [hw', hb']; exact e4, h5.mono ?_⟩
            rintro t s5 ⟨ht5, hf5⟩
            cases t with
            | false =>
              obtain ⟨j1, j2, j3⟩ := hf5 rfl
              exact ⟨j1, j2, dn ++ [d'], by rw [e']; simp, by rw [ha, List.filterMap_append]; simp [j3]⟩
            | true =>
              refine (ht5 rfl).mono ?_
              rintro y s6 ⟨z, e6, j1, j2, j3⟩
              refine ⟨z, s6, e6, ?_, j1, j2, dn ++ [d'], by rw [e']; simp, by rw [ha, List.filterMap_append]; simp [j3]⟩
              rw [ha]
              have hb1 : (done.flatMap F ++ F d).length ≤ (ds.flatMap F).length := by
                rw [eN, List.flatMap_append, List.flatMap_append, List.length_append, List.length_append, List.length_append]
                simp
              rw [List.length_append, k3, e', List.filterMap_append, List.length_append] at hb1
              rw [List.length_append]
              omega) (by
            rintro acc s' ⟨hw', hb', dn, e', ha⟩
            rw [List.append_nil] at e'
            exact ⟨by rw [ha, k3, e'], hw', hb'⟩) es (done.flatMap F) s3 ⟨rfl, k2, [], rfl, by simp⟩
        obtain ⟨acc', s4, e4, ha, hw4, hb4⟩ := hin.get
        simp only [lc2L, e1', e2, e3, e4]
        have hw5 : wipeA s4.a vs = wipeA a vs := by
          rw [← k1, ← wipeA_wipeA (a := s4.a) hv, ← wipeA_wipeA (a := s3.a) hv, hw4]
        have := ih (done ++ [d]) s4 eN hw5 hb4
        rw [List.flatMap_append] at this
        simp only [List.flatMap_cons, List.flatMap_nil, List.append_nil] at this
        rw [ha]
        exact this
  exact go ds [] ⟨a, b⟩ rfl rfl rfl
end Qz
namespace Qz
open PySem PySem.Spec L2
open PyProof.Rows hiding St
/-! ## where something is raised nothing is answered -/
structure Dis {α : Type} (m : S → Out α) (mx : XM) : Prop where
  no : ∀ s r, mx s = some r → m s = .no
structure DisF (g : DF) (gx : DX) : Prop where
  no : ∀ rs b r, gx rs b = some r → g rs b = .no
section
variable {m m1 m2 : ME} {ms mk : MA} {p q : MS} {mx mx1 mx2 : XM}
theorem dis_no {α : Type} {m : S → Out α} : Dis m xNo := ⟨fun _ _ e => nomatch e⟩
theorem dis_raise {mx : XM} : Dis mNoS mx := ⟨fun _ _ _ => rfl⟩
theorem dis_cons (h1 : Dis m mx) (h2 : Dis ms mx2) : Dis (mCons m ms) (xCons m mx mx2) := ⟨fun s r e => by
  unfold xCons at e
  unfold mCons
  split at e
  · rename_i r1 e1
    rw [h1.no s r1 e1]
  · split at e
    · rename_i r1 s1 e2
      rw [e2]
      simp only
      rw [h2.no s1 r e]
    · cases e⟩
theorem dis_data {f : List D → Option R} (h : Dis ms mx) : Dis (mData ms f) mx := ⟨fun s r e => by
  unfold mData
  rw [h.no s r e]⟩
theorem dis_lst (h : Dis ms mx) : Dis (mLst ms) mx := dis_data h
theorem dis_tup (h : Dis ms mx) : Dis (mTup ms) mx := dis_data h
theorem dis_ite {c : MT} (h1 : Dis m1 mx1) (h2 : Dis m2 mx2) : Dis (mIte c m1 m2) (xIte c mx1 mx2) := ⟨fun s r e => by
  unfold xIte at e
  unfold mIte
  split at e
  · rename_i s1 e1
    rw [e1]
    exact h1.no s1 r e
  · rename_i s1 e1
    rw [e1]
    exact h2.no s1 r e
  · cases e⟩
theorem dis_if {c : MT} (h1 : Dis p mx1) (h2 : Dis q mx2) : Dis (mIf c p q) (xIte c mx1 mx2) := ⟨fun s r e => by
  unfold xIte at e
  unfold mIf
  split at e
  · rename_i s1 e1
    rw [e1]
    exact h1.no s1 r e
  · rename_i s1 e1
    rw [e1]
    exact h2.no s1 r e
  · cases e⟩
theorem dis_blt {f : List D → Option R} (h : Dis ms mx) : Dis (mBlt f ms) mx := ⟨fun s r e => by
  unfold mBlt
  rw [h.no s r e]⟩
theorem dis_op {f : D → D → Option R} (h : Dis m mx) : Dis (mOp f m m2) mx := ⟨fun s r e => by
  unfold mOp
  rw [h.no s r e]⟩
theorem dis_ret (h : Dis m mx) : Dis (mRet m) mx := ⟨fun s r e => by
  unfold mRet
  rw [h.no s r e]⟩
theorem dis_drop (h : Dis m mx) : Dis (mDrop m) mx := ⟨fun s r e => by
  unfold mDrop
  rw [h.no s r e]⟩
theorem dis_seq (h1 : Dis p mx) (h2 : Dis q mx2) : Dis (mSeq p q) (xSeq p mx mx2) := ⟨fun s r e => by
  unfold xSeq at e
  unfold mSeq
  split at e
  · rename_i r1 e1
    rw [h1.no s r1 e1]
  · split at e
    · rename_i s1 e2
      rw [e2]
      exact h2.no s1 r e
    · cases e⟩
theorem dis_call {np : Nat} {g : DF} {gx : DX} (h : DisF g gx) : Dis (mCall np g ms) (xCall np gx ms) := ⟨fun s r e => by
  unfold xCall at e
  unfold mCall
  split at e
  · cases e
  · rename_i rs s1 e1
    try rw [e1]
    try simp only
    split at e
    · rename_i hl
      try rw [if_pos hl]
      split at e
      · cases e
      · rename_i q s2 e2
        try rw [e2]
        try simp only
        split at e
        · cases e
        · rename_i x b e3
          first | rw [h.no _ _ _ e3] | simp only [h.no _ _ _ e3]
    · cases e⟩
theorem dis_callK0 {np nk : Nat} {perm : List Nat} {g : DF} {gx : DX} (h : DisF g gx) : Dis (mCallK np g 0 nk perm mNil mk) (xCallK0 np gx nk perm mk) := ⟨fun s r e => by
  unfold xCallK0 at e
  unfold mCallK mNil
  split at e
  · cases e
  · rename_i zs s1 e1
    try simp only
    try rw [e1]
    try simp only
    split at e
    · rename_i hl
      try rw [if_pos ⟨rfl, hl⟩]
      try rw [List.nil_append]
      split at e
      · cases e
      · rename_i q s2 e2
        try rw [e2]
        try simp only
        split at e
        · rename_i hp
          try rw [if_pos hp]
          split at e
          · cases e
          · rename_i x b e3
            first | rw [h.no _ _ _ e3] | simp only [h.no _ _ _ e3]
        · cases e
    · cases e⟩
theorem disF_run {N : Nat} (h : Dis p mx) : DisF (runF N p) (runX N mx) := ⟨fun rs b r e => by
  unfold runX at e
  unfold runF
  simp only [Option.map_eq_some_iff] at e
  obtain ⟨a, e1, _⟩ := e
  rw [h.no _ _ e1]⟩
end
/-! ## what is raised -/
structure Xk (o : Option (Exc × S)) (P : Exc → S → Prop) : Prop where
  ex : ∃ x s, o = some (x, s) ∧ P x s
structure Gx (gx : DX) (args : List R) (P : Exc → Prop) : Prop where
  all : ∀ b, ∃ x b', gx args b = some (x, b') ∧ P x
theorem Xk.of {o : Option (Exc × S)} {P : Exc → S → Prop} {x : Exc} {s : S} (e : o = some (x, s)) (h : P x s) : Xk o P := ⟨x, s, e, h⟩
section
variable {s : S} {m : ME} {ms mk : MA} {p : MS} {mx mx1 mx2 : XM} {P : Exc → S → Prop}
theorem x_seq1 (h : Xk (mx s) P) : Xk (xSeq p mx mx2 s) P := by
  obtain ⟨x, s1, e, q⟩ := h
  unfold xSeq
  simp only [e]
  exact .of rfl q
theorem x_seq2 (h : Ok (p s) fun f s1 => f = .nx ∧ Xk (mx2 s1) P) : Xk (xSeq p xNo mx2 s) P := by
  obtain ⟨f, s1, e, rfl, q⟩ := h.get
  unfold xSeq xNo
  simp only [e]
  exact q
theorem x_cons1 (h : Xk (mx s) P) : Xk (xCons m mx mx2 s) P := by
  obtain ⟨x, s1, e, q⟩ := h
  unfold xCons
  simp only [e]
  exact .of rfl q
theorem x_cons2 (h : Ok (m s) fun _ s1 => Xk (mx2 s1) P) : Xk (xCons m xNo mx2 s) P := by
  obtain ⟨f, s1, e, q⟩ := h.get
  unfold xCons xNo
  simp only [e]
  exact q
theorem x_ite {c : MT} {a b : XM} (h : Ok (c s) fun t s1 => (t = true → Xk (a s1) P) ∧ (t = false → Xk (b s1) P)) : Xk (xIte c a b s) P := by
  obtain ⟨t, s1, e, h1, h2⟩ := h.get
  unfold xIte
  cases t <;> simp only [e]
  · exact h2 rfl
  · exact h1 rfl
theorem x_raise {cn fl : Str} (h : Ok (ms s) fun rs s1 => ∃ x s2, takes s1 rs = some ([x], s2) ∧ P ⟨cn, fl, x⟩ s2) : Xk (xRaise cn fl ms s) P := by
  obtain ⟨rs, s1, e, x, s2, e2, q⟩ := h.get
  unfold xRaise
  simp only [e, e2]
  exact .of rfl q
theorem x_call {np : Nat} {gx : DX} {Px : Exc → Prop} (h : Ok (ms s) fun rs s1 => ∃ q a2 b2, rs.length = np ∧ argsT s1 rs = some (q, ⟨a2, b2⟩) ∧ Gx gx q Px ∧ ∀ x b, Px x → P x ⟨a2, b⟩) : Xk (xCall np gx ms s) P := by
  obtain ⟨rs, s1, e, q, a2, b2, h1, h2, h3, h4⟩ := h.get
  obtain ⟨x, b, e3, px⟩ := h3.all b2
  unfold xCall
  simp only [e, if_pos h1, h2, e3]
  exact .of rfl (h4 x b px)
theorem x_callK0 {np nk : Nat} {perm : List Nat} {gx : DX} {Px : Exc → Prop} (h : Ok (mk s) fun zs s1 => ∃ q args a2 b2, zs.length = nk ∧ argsT s1 zs = some (q, ⟨a2, b2⟩) ∧ (perm.filterMap fun i => q[i]?) = args ∧ args.length = np ∧ Gx gx args Px ∧ ∀ x b, Px x → P x ⟨a2, b⟩) : Xk (xCallK0 np gx nk perm mk s) P := by
  obtain ⟨zs, s1, e, q, args, a2, b2, h1, h2, rfl, h3, h4, h5⟩ := h.get
  obtain ⟨x, b, e3, px⟩ := h4.all b2
  unfold xCallK0
  simp only [e, if_pos h1, h2, if_pos h3, e3]
  exact .of rfl (h5 x b px)
theorem Gx.run {N : Nat} {rs : List R} {a0 : List (Option R)} {Px : Exc → Prop} (h0 : rs.map some ++ List.replicate (N - rs.length) none = a0) (h : ∀ b, Xk (mx ⟨a0, b⟩) fun x _ => Px x) : Gx (runX N mx) rs Px := ⟨fun b => by
  obtain ⟨x, s1, e, q⟩ := h b
  refine ⟨x, s1.b, ?_, q⟩
  unfold runX S.init
  rw [h0, e]
  rfl⟩
/-! the try -/
theorem k_tryN {i : Nat} {cn : Str} {mh : Exc → MS} {Q : Fl → S → Prop} (h : Ok (p s) Q) : Ok (mTry i cn p mx mh s) Q := by
  obtain ⟨f, s1, e, q⟩ := h.get
  unfold mTry
  simp only [e]
  exact .of rfl q
theorem k_tryX {i : Nat} {cn : Str} {mh : Exc → MS} {Q : Fl → S → Prop} (d : Dis p mx) (h : Xk (mx s) fun x s1 => x.cls = cn ∧ emptyAt s1 i = true ∧ Ok (mh x s1) fun f s2 => emptyAt s2 i = true ∧ Q f s2) : Ok (mTry i cn p mx mh s) Q := by
  obtain ⟨x, s1, e, h1, h2, h3⟩ := h
  obtain ⟨f, s2, e3, h4, q⟩ := h3.get
  unfold mTry
  simp only [d.no s _ e, e, if_pos (show x.cls = cn ∧ emptyAt s1 i = true from ⟨h1, h2⟩), e3, if_pos h4]
  exact .of rfl q
theorem k_fld {fl : Str} {x : Exc} {Q : R → S → Prop} (h : x.fld = fl) (q : Q (.d x.v) s) : Ok (mFld fl x s) Q := .of (if_pos h) q
end
section
variable {s : S}
def kCutS (lo hi : Option Int) (Q : R → S → Prop) (r : R) (s : S) : Prop := ∃ x r', view s r = some x ∧ dCutS x lo hi = some r' ∧ Q r' s
theorem kCutS.mk {lo hi : Option Int} {Q : R → S → Prop} {r r' : R} {x : D} (h1 : view s r = some x) (h2 : dCutS x lo hi = some r') (q : Q r' s) : kCutS lo hi Q r s := ⟨x, r', h1, h2, q⟩
theorem k_cutS {m : ME} {lo hi : Option ME} {Q : R → S → Prop} (h : Ok (m s) fun r s1 => kPart (fun l s2 => kPart (fun h s3 => kCutS l h Q r s3) hi s2) lo s1) : Ok (mCutS m lo hi s) Q := by
  obtain ⟨r, s1, e, l, s2, e2, hh, s3, e3, x, r', h1, h2, q⟩ := h.get
  unfold mCutS
  simp only [e, e2, e3, h1, h2]
  exact .of rfl q
end
section
variable {s : S}
theorem k_aug {f : Int → Int → Int} {i : Nat} {m : ME} {x : Int} {Q : Fl → S → Prop} (h : s.a[i]? = some (some (.d (.int x)))) (hm : Ok (m s) fun r s1 => ∃ y, r = .d (.int y) ∧ s1.a[i]? = some (some (.d (.int x))) ∧ Q .nx ⟨s1.a.set i (some (.d (.int (f x y)))), s1.b⟩) : Ok (mAug f i m s) Q := by
  obtain ⟨_, s1, e, y, rfl, h1, q⟩ := hm.get
  have hi := (List.getElem?_eq_some_iff.mp h1).1
  refine Ok.of ?_ q
  unfold mAug
  have hs : store i s1 (.d (.int (f x y))) = some ⟨s1.a.set i (some (.d (.int (f x y)))), s1.b⟩ := by
    unfold store
    rw [if_neg (by omega)]
    rfl
  simp only [h, e, h1, if_true, hs]
end
end Qz
namespace Qz
open PySem PySem.Spec L2
open PyProof.Rows hiding St
/-! ## the order of data, the least of a list -/
theorem dl_neg {x z : D} (y : D) (h : PySem.W.dataLt x z = true) : PySem.W.dataLt x y = true ∨ PySem.W.dataLt y z = true := (listOrd itemOrd).negTrans _ _ _ h
theorem dl_trans {x y z : D} (h1 : PySem.W.dataLt x y = true) (h2 : PySem.W.dataLt y z = true) : PySem.W.dataLt x z = true := (listOrd itemOrd).trans _ _ _ h1 h2
theorem dl_irr (x : D) : PySem.W.dataLt x x = false := (listOrd itemOrd).irrefl _
theorem minD_spec : ∀ (ds : List D) (d : D), PySem.W.minD d ds ∈ d :: ds ∧ ∀ x ∈ d :: ds, PySem.W.dataLt x (PySem.W.minD d ds) = false
  | [], d => ⟨List.mem_cons_self, fun x hx => by rw [List.mem_singleton.mp hx]; exact dl_irr d⟩
  | y :: ds, d => by
    have e : PySem.W.minD d (y :: ds) = PySem.W.minD (if PySem.W.dataLt y d then y else d) ds := rfl
    rw [e]
    cases c : PySem.W.dataLt y d with
    | true =>
      simp only [if_true]
      obtain ⟨h1, h2⟩ := minD_spec ds y
      refine ⟨List.mem_cons_of_mem _ h1, fun x hx => ?_⟩
      rcases List.mem_cons.mp hx with rfl | hx
      · cases q : PySem.W.dataLt x (PySem.W.minD y ds) with
        | false => rfl
        | true =>
          have := h2 y List.mem_cons_self
          rw [dl_trans c q] at this
          cases this
      · exact h2 x hx
    | false =>
      simp only [Bool.false_eq_true, if_false]
      obtain ⟨h1, h2⟩ := minD_spec ds d
      refine ⟨?_, fun x hx => ?_⟩
      · rcases List.mem_cons.mp h1 with h | h
        · rw [h]; exact List.mem_cons_self
        · exact List.mem_cons_of_mem _ (List.mem_cons_of_mem _ h)
      rcases List.mem_cons.mp hx with rfl | hx
      · exact h2 x List.mem_cons_self
      rcases List.mem_cons.mp hx with rfl | hx
      · cases q : PySem.W.dataLt x (PySem.W.minD d ds) with
        | false => rfl
        | true =>
          rcases dl_neg d q with h | h
          · rw [c] at h; cases h
          · rw [h2 d List.mem_cons_self] at h; cases h
      · exact h2 x (List.mem_cons_of_mem _ hx)
theorem alike_tI (a b : List Int) : PySem.W.alike (tI a) (tI b) = true := by
  unfold tI
  simp only [PySem.W.alike]
  exact alike_all a b
/-- a row of tuples of numbers -/
def fgD (A : List (List Int)) : D := .tuple (A.map tI)
def ltF : List (List Int) → List (List Int) → Bool
  | [], [] => false
  | [], _ :: _ => true
  | _ :: _, [] => false
  | a :: A, b :: B => if a = b then ltF A B else HT.lexLt a b
theorem lt_fg_all : ∀ A B : List (List Int), PyProof.Rows.lexLt itemOrd (PySem.W.keyToksAll (A.map tI)) (PySem.W.keyToksAll (B.map tI)) = ltF A B
  | [], [] => rfl
  | [], _ :: _ => rfl
  | _ :: _, [] => rfl
  | a :: A, b :: B => by
    rw [List.map_cons, List.map_cons]
    by_cases h : a = b
    · rw [PySem.W.dataLt_all_yes (alike_tI _ _) (by rw [eqv_tI]; exact decide_eq_true h), ltF, if_pos h]
      exact lt_fg_all A B
    · rw [PySem.W.dataLt_all_no (alike_tI _ _) (by rw [eqv_tI]; exact decide_eq_false h), ltF, if_neg h, lt_tI]
theorem lt_fg (A B : List (List Int)) : PySem.W.dataLt (fgD A) (fgD B) = ltF A B := by
  unfold fgD
  rw [PySem.W.dataLt_tuple]
  exact lt_fg_all A B
theorem ltF_anti : ∀ A B : List (List Int), ltF A B = false → ltF B A = false → A = B
  | [], [], _, _ => rfl
  | [], _ :: _, h, _ => nomatch h
  | _ :: _, [], _, h => nomatch h
  | a :: A, b :: B, h1, h2 => by
    unfold ltF at h1 h2
    by_cases e : a = b
    · rw [if_pos e] at h1
      rw [if_pos e.symm] at h2
      rw [e, ltF_anti A B h1 h2]
    · rw [if_neg e] at h1
      rw [if_neg fun q => e q.symm] at h2
      exact absurd (lex_anti a b h1 h2) e
theorem tI_map_inj : ∀ {A B : List (List Int)}, A.map tI = B.map tI → A = B := fun {A B} h => List.map_inj_right (fun a b e => tI_inj e) |>.mp h
theorem fgD_inj {A B : List (List Int)} (h : fgD A = fgD B) : A = B := by
  unfold fgD at h
  injection h with h
  exact tI_map_inj h
theorem min_fg (A : List (List Int)) (L : List (List (List Int))) : ∃ M, PySem.W.minD (fgD A) (L.map fgD) = fgD M ∧ M ∈ A :: L ∧ ∀ X ∈ A :: L, ltF X M = false := by
  obtain ⟨h1, h2⟩ := minD_spec (L.map fgD) (fgD A)
  rw [← List.map_cons] at h1 h2
  obtain ⟨M, hM, e⟩ := List.mem_map.mp h1
  refine ⟨M, e.symm, hM, fun X hX => ?_⟩
  rw [← lt_fg, e]
  exact h2 _ (List.mem_map.mpr ⟨X, hX, rfl⟩)
theorem min_tI (a : List Int) (L : List (List Int)) : ∃ m, PySem.W.minD (tI a) (L.map tI) = tI m ∧ m ∈ a :: L ∧ ∀ x ∈ a :: L, HT.lexLt x m = false := by
  obtain ⟨h1, h2⟩ := minD_spec (L.map tI) (tI a)
  rw [← List.map_cons] at h1 h2
  obtain ⟨m, hm, e⟩ := List.mem_map.mp h1
  refine ⟨m, e.symm, hm, fun x hx => ?_⟩
  rw [← lt_tI, e]
  exact h2 _ (List.mem_map.mpr ⟨x, hx, rfl⟩)
theorem tupNE_tI {a : List Int} (h : a ≠ []) : tupNE (tI a) = true := by
  cases a with
  | nil => exact absurd rfl h
  | cons x r => rfl
theorem alike_fg_all : ∀ A B : List (List Int), PySem.W.alikeAll (A.map tI) (B.map tI) = true
  | [], _ => by simp [PySem.W.alikeAll]
  | _ :: _, [] => by simp [PySem.W.alikeAll]
  | a :: A, b :: B => by
    simp only [List.map_cons, PySem.W.alikeAll, alike_tI, Bool.true_and]
    exact alike_fg_all A B
theorem alike_fg (A B : List (List Int)) : PySem.W.alike (fgD A) (fgD B) = true := by
  unfold fgD
  simp only [PySem.W.alike]
  exact alike_fg_all A B
theorem pln_fg (A : List (List Int)) : Pln 2 (fgD A) := pln_tup (k := 1) fun d hd => by
  obtain ⟨a, _, rfl⟩ := List.mem_map.mp hd
  exact pln_tI a
theorem tupNE_fg {A : List (List Int)} (h : A ≠ []) : tupNE (fgD A) = true := by
  cases A with
  | nil => exact absurd rfl h
  | cons x r => rfl
/-- what fMinN asks, of things that all are of one form -/
theorem minN_of {α : Type} {e : α → D} (hal : ∀ a b, PySem.W.alike (e a) (e b) = true) (hp : ∀ a, Pln 2 (e a)) {a : α} {L : List α} (hn : ∀ x ∈ a :: L, tupNE (e x) = true) : fMinN [.list ((a :: L).map e)] = some (.d (PySem.W.minD (e a) (L.map e))) := by
  obtain ⟨z, zs, ez⟩ := tupNE_eq (hn a List.mem_cons_self)
  have h0 : fMinL [.list ((a :: L).map e)] = none := by
    rw [List.map_cons, ez]
    rfl
  simp only [fMinN, h0]
  rw [List.map_cons]
  refine if_pos ⟨?_, ?_, ?_, ?_⟩
  · refine List.all_eq_true.mpr fun x hx => List.all_eq_true.mpr fun y hy => ?_
    rw [← List.map_cons] at hx hy
    obtain ⟨x', _, rfl⟩ := List.mem_map.mp hx
    obtain ⟨y', _, rfl⟩ := List.mem_map.mp hy
    exact hal _ _
  · refine nodAll _ fun x hx => ?_
    rw [← List.map_cons] at hx
    obtain ⟨x', _, rfl⟩ := List.mem_map.mp hx
    exact (hp x').nod
  · refine List.all_eq_true.mpr fun x hx => ?_
    rw [← List.map_cons] at hx
    obtain ⟨x', _, rfl⟩ := List.mem_map.mp hx
    exact decide_eq_true (Nat.le_trans (hp x').dep (by decide))
  · refine List.all_eq_true.mpr fun x hx => ?_
    rw [← List.map_cons] at hx
    obtain ⟨x', hx', rfl⟩ := List.mem_map.mp hx
    exact hn x' hx'
/-! ## the two ways of sorting are one -/
def unI : D → List Int
  | .tuple ds => ds.filterMap fun d => match d with
    | .int i => some i
    | _ => none
  | _ => []
theorem unI_tI (l : List Int) : unI (tI l) = l := by
  show (l.map PyData.int).filterMap _ = l
  rw [List.filterMap_map]
  exact (List.filterMap_some (l := l))
theorem map_unI : ∀ ds : List D, (∀ d ∈ ds, ∃ l, d = tI l) → (ds.map unI).map tI = ds
  | [], _ => rfl
  | d :: ds, h => by
    obtain ⟨l, rfl⟩ := h d List.mem_cons_self
    rw [List.map_cons, List.map_cons, unI_tI, map_unI ds fun x hx => h x (List.mem_cons_of_mem _ hx)]
theorem sortD_tI (L : List (List Int)) : sortD (L.map tI) = (sortI L).map tI := by
  have hp := sortD_perm (L.map tI)
  have hm : ∀ d ∈ sortD (L.map tI), ∃ l, d = tI l := fun d hd => by
    obtain ⟨l, _, e⟩ := List.mem_map.mp (hp.mem_iff.mp hd)
    exact ⟨l, e.symm⟩
  have e := map_unI _ hm
  rw [← e]
  congr 1
  refine (sorted_one (sortI_srtd L) ?_ ?_).symm
  · have hw := PySem.W.sort_pairwise (PySem.W.sortLe_total (listOrd itemOrd) false PySem.W.keyToks) (L.map tI)
    refine List.pairwise_map.mpr ((List.Pairwise.and_mem.mp hw).imp fun {x y} h => ?_)
    obtain ⟨hx, hy, h⟩ := h
    obtain ⟨a, rfl⟩ := hm x hx
    obtain ⟨b, rfl⟩ := hm y hy
    have h2 : (!PySem.W.dataLt (tI b) (tI a)) = true := h
    rw [unI_tI, unI_tI, ← lt_tI]
    simpa using h2
  · have := hp.map unI
    rw [List.map_map] at this
    refine (sortI_perm L).trans (List.Perm.trans (List.Perm.of_eq ?_) this.symm)
    refine ((List.map_congr_left fun l _ => ?_).trans (List.map_id L)).symm
    exact unI_tI l
theorem sortedT_tI (L : List (List Int)) (h : ∀ x ∈ L, x ≠ []) : fSortedT [.tuple (L.map tI)] = some (.o (.lst ((sortI L).map tI))) := by
  rw [← sortD_tI]
  refine if_pos ⟨?_, ?_, ?_, ?_⟩
  · refine List.all_eq_true.mpr fun x hx => ?_
    obtain ⟨l, hl, rfl⟩ := List.mem_map.mp hx
    exact tupNE_tI (h l hl)
  · refine List.all_eq_true.mpr fun x hx => List.all_eq_true.mpr fun y hy => ?_
    obtain ⟨l, _, rfl⟩ := List.mem_map.mp hx
    obtain ⟨l', _, rfl⟩ := List.mem_map.mp hy
    exact alike_tI l l'
  · refine nodAll _ fun x hx => ?_
    obtain ⟨l, _, rfl⟩ := List.mem_map.mp hx
    exact (pln_tI l).nod
  · refine List.all_eq_true.mpr fun x hx => ?_
    obtain ⟨l, _, rfl⟩ := List.mem_map.mp hx
    exact decide_eq_true (Nat.le_trans (pln_tI l).dep (by decide))
theorem sorted_tI (L : List (List Int)) (h : ∀ x ∈ L, x ≠ []) : fSorted [.list (L.map tI)] = some (.o (.lst ((sortI L).map tI))) := by
  simp only [fSorted, tupsI_tI L h]
  rfl
theorem sortedTL_tI (L : List (List Int)) (h : ∀ x ∈ L, x ≠ []) : fSortedT [.list (L.map tI)] = some (.o (.lst ((sortI L).map tI))) := by
  simp only [fSortedT, fSortedN, sorted_tI L h]
/-! ## two sources, where the element calls -/
theorem kLc2.any {g : D → S → Option S} {c : MT} {src1 : MI} {g1 : D → S → Option S} {c1 : MT} {m : ME} {vs vs1 : List Nat} {Q : R → S → Prop} {ds : List D} {a : List (Option R)} {b : Bx} (F : D → List D) (hv : ∀ i ∈ vs1, i ∈ vs) (h1 : noOwn a vs = true) (hl : (ds.flatMap F).length ≤ 10000)
    (hs : ∀ d ∈ ds, ∀ b, ∃ s1, g d ⟨wipeA a vs, b⟩ = some s1 ∧ Ok (c s1) fun t s2 => (t = false → wipeA s2.a vs = wipeA a vs ∧ F d = []) ∧ (t = true → Ok (src1 s2) fun es s3 => wipeA s3.a vs = wipeA a vs ∧ ∃ F1 : D → Option D, F d = es.filterMap F1 ∧ ∀ e ∈ es, ∀ b, ∃ s4, g1 e ⟨wipeA s3.a vs1, b⟩ = some s4 ∧
      Ok (c1 s4) fun t s5 => (t = true → Ok (m s5) fun y s6 => ∃ z, take1 s6 y = some (z, s6) ∧ wipeA s6.a vs1 = wipeA s3.a vs1 ∧ F1 e = some z) ∧ (t = false → wipeA s5.a vs1 = wipeA s3.a vs1 ∧ F1 e = none)))
    (q : ∀ b, Q (.o (.lst (ds.flatMap F))) ⟨a, b⟩) : kLc2 g c src1 g1 c1 m vs vs1 Q ds ⟨a, b⟩ := by
  refine ⟨h1, ?_⟩
  have go : ∀ (r done : List D) (s : S), ds = done ++ r → wipeA s.a vs = wipeA a vs → Ok (lc2L g c src1 g1 c1 m vs vs1 r (done.flatMap F) s) fun acc s2 => Q (.o (.lst acc)) ⟨backA a s2.a vs, s2.b⟩ := by
    intro r
    induction r with
    | nil =>
      intro done s e hw
      rw [List.append_nil] at e
      refine .of rfl ?_
      show Q (.o (.lst (done.flatMap F))) ⟨backA a s.a vs, s.b⟩
      rw [back_wipe hw, ← e]
      exact q _
    | cons d r ih =>
      intro done s e hw
      have hm : d ∈ ds := by rw [e]; simp
      obtain ⟨s1, e1, h2⟩ := hs d hm s.b
      obtain ⟨t, s2, e2, hf, ht⟩ := h2.get
      have e1' : g d { s with a := wipeA s.a vs } = some s1 := by rw [← e1, ← hw]
      have eN : ds = (done ++ [d]) ++ r := by rw [e]; simp
      cases t with
      | false =>
        obtain ⟨k1, k3⟩ := hf rfl
        simp only [lc2L, e1', e2]
        have := ih (done ++ [d]) s2 eN k1
        rw [List.flatMap_append] at this
        simp only [List.flatMap_cons, List.flatMap_nil, k3, List.append_nil] at this
        exact this
      | true =>
        obtain ⟨es, s3, e3, k1, F1, k3, h4⟩ := (ht rfl).get
        have hin := k_lcL (g := g1) (c := c1) (m := m) (vs := vs1) (Q := fun acc s' => acc = done.flatMap F ++ F d ∧ wipeA s'.a vs1 = wipeA s3.a vs1)
          (fun r' acc s' => wipeA s'.a vs1 = wipeA s3.a vs1 ∧ ∃ dn, es = dn ++ r' ∧ acc = done.flatMap F ++ dn.filterMap F1) (by
            rintro d' r' acc s' ⟨hw', dn, e', ha⟩
            have hm' : d' ∈ es := by rw [e']; simp
            obtain ⟨s4, e4, h5⟩ := h4 d' hm' s'.b
            refine ⟨s4, by rw [hw']; exact e4, h5.mono ?_⟩
            rintro t s5 ⟨ht5, hf5⟩
            cases t with
            | false =>
              obtain ⟨j1, j3⟩ := hf5 rfl
              exact ⟨j1, dn ++ [d'], by rw [e']; simp, by rw [ha, List.filterMap_append]; simp [j3]⟩
            | true =>
              refine (ht5 rfl).mono ?_
              rintro y s6 ⟨z, e6, j1, j3⟩
              refine ⟨z, s6, e6, ?_, j1, dn ++ [d'], by rw [e']; simp, by rw [ha, List.filterMap_append]; simp [j3]⟩
              rw [ha]
              have hb1 : (done.flatMap F ++ F d).length ≤ (ds.flatMap F).length := by
                rw [eN, List.flatMap_append, List.flatMap_append, List.length_append, List.length_append, List.length_append]
                simp
              rw [List.length_append, k3, e', List.filterMap_append, List.length_append] at hb1
              rw [List.length_append]
              omega) (by
            rintro acc s' ⟨hw', dn, e', ha⟩
            rw [List.append_nil] at e'
            exact ⟨by rw [ha, k3, e'], hw'⟩) es (done.flatMap F) s3 ⟨rfl, [], rfl, by simp⟩
        obtain ⟨acc', s4, e4, ha, hw4⟩ := hin.get
        simp only [lc2L, e1', e2, e3, e4]
        have hw5 : wipeA s4.a vs = wipeA a vs := by
          rw [← k1, ← wipeA_wipeA (a := s4.a) hv, ← wipeA_wipeA (a := s3.a) hv, hw4]
        have := ih (done ++ [d]) s4 eN hw5
        rw [List.flatMap_append] at this
        simp only [List.flatMap_cons, List.flatMap_nil, List.append_nil] at this
        rw [ha]
        exact this
  exact go ds [] ⟨a, b⟩ rfl rfl
/-! ## an if that is passed by, ahead of what is raised -/
theorem x_seqF {s : S} {c : MT} {a mx2 : XM} {pa : MS} {P : Exc → S → Prop} (h : Ok (c s) fun t s1 => t = false ∧ Xk (mx2 s1) P) : Xk (xSeq (mIf c pa mNext) (xIte c a xNo) mx2 s) P := by
  obtain ⟨t, s1, e, rfl, q⟩ := h.get
  unfold xSeq xIte mIf xNo mNext
  simp only [e]
  exact q
/-! ## a store that may leave things as they are -/
def kSetS (i : Nat) (Q : Fl → S → Prop) (r : R) (s : S) : Prop := ∃ s', storeS i s r = some s' ∧ Q .nx s'
theorem kSetS.o {i : Nat} {Q : Fl → S → Prop} {c : C} {a : List (Option R)} {b : Bx} (h : i < a.length) (q : Q .nx ⟨a.set i (some (.o c)), b⟩) : kSetS i Q (.o c) ⟨a, b⟩ := by
  refine ⟨_, ?_, q⟩
  unfold storeS store
  rw [if_neg (fun h => nomatch h.1), if_neg (Nat.not_le.mpr h)]
theorem kSetS.s {i : Nat} {Q : Fl → S → Prop} {a : List (Option R)} {b : Bx} (h : i < a.length) (q : Q .nx ⟨a, b⟩) : kSetS i Q (.sl i) ⟨a, b⟩ := by
  refine ⟨_, ?_, q⟩
  unfold storeS
  exact if_pos ⟨by simp [isSl], h⟩
theorem k_setS {s : S} {i : Nat} {m : ME} {Q : Fl → S → Prop} (h : Ok (m s) (kSetS i Q)) : Ok (mSetS i m s) Q := by
  obtain ⟨r, s1, e, s', e2, q⟩ := h.get
  unfold mSetS
  simp only [e, e2]
  exact .of rfl (q)
end Qz
namespace Qz
open PySem PySem.Spec L2
open PyProof.Rows hiding St
/-! ## unlike figures have unlike texts -/
def ct (d : D) : List Nat := d.shown.cps.toList
theorem ct_nat (m : Nat) : ct (.int (m : Int)) = (Nat.toDigits 10 m).map Char.toNat := by
  unfold ct
  rw [PyData.shown_int]
  exact congrArg (fun s : Str => s.cps.toList) (text_ofNat m)
theorem str_cps {x y : Str} (h : x.cps = y.cps) : x = y := by
  cases x
  cases y
  simp only [Str.mk.injEq]
  exact h
theorem ct_neg (m : Nat) (h : 0 < m) : ct (.int (-(m : Int))) = 45 :: (Nat.toDigits 10 m).map Char.toNat := by
  have e := ct_nat m
  unfold ct at e ⊢
  rw [PyData.shown_int] at e ⊢
  rw [toString_neg (by omega : -(m : Int) < 0), show (0 : Int) - -(m : Int) = m by omega]
  have e2 : Str.ofString ("-" ++ toString (m : Int)) = Str.ofString "-" ++ Str.ofString (toString (m : Int)) := by
    apply str_cps
    rw [Str.cps_append, Str.ofString_eq_toList, Str.ofString_eq_toList, Str.ofString_eq_toList, String.toList_append]
    simp
  rw [e2, Str.cps_append, Array.toList_append, e]
  rfl
theorem map_nat_inj {a b : List Char} (h : a.map Char.toNat = b.map Char.toNat) : a = b := List.map_inj_right (fun x y e => Char.toNat_inj.mp e) |>.mp h
theorem digs_inj {m n : Nat} (h : Nat.toDigits 10 m = Nat.toDigits 10 n) : m = n := by
  have e1 := Nat.ofDigitChars_toDigits (b := 10) (n := m) (by decide) (by decide)
  have e2 := Nat.ofDigitChars_toDigits (b := 10) (n := n) (by decide) (by decide)
  rw [h] at e1
  exact e1.symm.trans e2
theorem no45 (m : Nat) (r : List Nat) : (Nat.toDigits 10 m).map Char.toNat ≠ 45 :: r := fun h => by
  have h1 : 45 ∈ (Nat.toDigits 10 m).map Char.toNat := by rw [h]; exact List.mem_cons_self
  obtain ⟨c, hc, e⟩ := List.mem_map.mp h1
  have hd := Nat.isDigit_of_mem_toDigits (by decide) (by decide) hc
  have : c = '-' := Char.toNat_inj.mp (e.trans (by decide))
  rw [this] at hd
  exact absurd hd (by decide)
theorem int_cases (i : Int) : (∃ m : Nat, i = m) ∨ ∃ m : Nat, 0 < m ∧ i = -(m : Int) := by
  by_cases h : 0 ≤ i
  · exact .inl ⟨i.toNat, by omega⟩
  · exact .inr ⟨(-i).toNat, by omega, by omega⟩
theorem ct_int_inj {i j : Int} (h : ct (.int i) = ct (.int j)) : i = j := by
  rcases int_cases i with ⟨m, rfl⟩ | ⟨m, hm, rfl⟩ <;> rcases int_cases j with ⟨n, rfl⟩ | ⟨n, hn, rfl⟩
  · rw [ct_nat, ct_nat] at h
    rw [digs_inj (map_nat_inj h)]
  · rw [ct_nat, ct_neg n hn] at h
    exact absurd h (no45 m _)
  · rw [ct_neg m hm, ct_nat] at h
    exact absurd h.symm (no45 n _)
  · rw [ct_neg m hm, ct_neg n hn] at h
    injection h with _ h
    rw [digs_inj (map_nat_inj h)]
theorem ct_free {k : Nat} (hk : k ≠ 45 ∧ (k < 48 ∨ 57 < k)) (i : Int) : k ∉ ct (.int i) := shown_int_free' hk i
theorem cut_at {c : Nat} : ∀ (a b r s : List Nat), c ∉ a → c ∉ b → a ++ c :: r = b ++ c :: s → a = b ∧ r = s
  | [], [], r, s, _, _, h => by
    simp only [List.nil_append, List.cons.injEq, true_and] at h
    exact ⟨rfl, h⟩
  | [], y :: b, r, s, _, hb, h => by
    simp only [List.nil_append, List.cons_append, List.cons.injEq] at h
    exact absurd (by rw [h.1]; exact List.mem_cons_self) hb
  | x :: a, [], r, s, ha, _, h => by
    simp only [List.nil_append, List.cons_append, List.cons.injEq] at h
    exact absurd (by rw [← h.1]; exact List.mem_cons_self) ha
  | x :: a, y :: b, r, s, ha, hb, h => by
    simp only [List.cons_append, List.cons.injEq] at h
    obtain ⟨e1, e2⟩ := cut_at a b r s (fun q => ha (List.mem_cons_of_mem _ q)) (fun q => hb (List.mem_cons_of_mem _ q)) h.2
    exact ⟨by rw [h.1, e1], e2⟩
theorem join2 (g t u : Str) (r : List Str) : Str.join g (t :: u :: r) = t ++ g ++ Str.join g (u :: r) := rfl
theorem ct_pair (x y : Int) : ct (tI [x, y]) = 40 :: (ct (.int x) ++ 44 :: 32 :: (ct (.int y) ++ [41])) := by
  unfold ct tI
  rw [PyData.shown_tuple]
  have e : PyData.shownAll ([x, y].map PyData.int) = [(PyData.int x).shown, (PyData.int y).shown] := by
    rw [List.map_cons, List.map_cons, List.map_nil, PyData.shownAll_cons, PyData.shownAll_cons]
    rfl
  rw [e, join2]
  have e1 : Str.join (Str.ofString ", ") [(PyData.int y).shown] = (PyData.int y).shown := rfl
  rw [e1]
  simp only [Str.cps_append, Array.toList_append, List.append_assoc]
  rfl
def tailT : List (List Int) → List Nat
  | [] => [41]
  | p :: X => 44 :: 32 :: (ct (tI p) ++ tailT X)
theorem join_tail : ∀ (p : List Int) (X : List (List Int)), (Str.join (Str.ofString ", ") (PyData.shownAll ((p :: X).map tI))).cps.toList ++ [41] = ct (tI p) ++ tailT X
  | p, [] => by
    rw [List.map_cons, List.map_nil, PyData.shownAll_cons]
    rfl
  | p, q :: X => by
    have ih := join_tail q X
    rw [List.map_cons, PyData.shownAll_cons] at ih ⊢
    rw [List.map_cons, PyData.shownAll_cons] at *
    rw [join2]
    simp only [Str.cps_append, Array.toList_append, List.append_assoc]
    rw [ih]
    rfl
theorem ct_fg (p q : List Int) (X : List (List Int)) : ct (fgD (p :: q :: X)) = 40 :: (ct (tI p) ++ tailT (q :: X)) := by
  have h := join_tail p (q :: X)
  unfold ct fgD at *
  rw [PyData.shown_tuple]
  have e : (((p :: q :: X).map tI).length == 1) = false := by simp
  rw [e]
  simp only [Str.cps_append, Array.toList_append]
  rw [← h]
  rfl
theorem tail_inj : ∀ (X Y : List (List Int)), (∀ p ∈ X, ∃ x y, p = [x, y]) → (∀ p ∈ Y, ∃ x y, p = [x, y]) → tailT X = tailT Y → X = Y
  | [], [], _, _, _ => rfl
  | [], q :: Y, _, _, h => by simp [tailT] at h
  | p :: X, [], _, _, h => by simp [tailT] at h
  | p :: X, q :: Y, hX, hY, h => by
    obtain ⟨x, y, rfl⟩ := hX p List.mem_cons_self
    obtain ⟨x', y', rfl⟩ := hY q List.mem_cons_self
    simp only [tailT, ct_pair, List.cons_append, List.append_assoc, List.cons.injEq, true_and] at h
    obtain ⟨e1, h⟩ := cut_at _ _ _ _ (ct_free (by decide) x) (ct_free (by decide) x') h
    simp only [List.cons.injEq, true_and] at h
    have h' : ct (.int y) ++ 41 :: tailT X = ct (.int y') ++ 41 :: tailT Y := h
    obtain ⟨e2, h⟩ := cut_at _ _ _ _ (ct_free (by decide) y) (ct_free (by decide) y') h'
    rw [ct_int_inj e1, ct_int_inj e2, tail_inj X Y (fun p hp => hX p (List.mem_cons_of_mem _ hp)) (fun p hp => hY p (List.mem_cons_of_mem _ hp)) h]
theorem shown_inj {X Y : List (List Int)} (hX : ∀ p ∈ X, ∃ x y, p = [x, y]) (hY : ∀ p ∈ Y, ∃ x y, p = [x, y]) (lX : 2 ≤ X.length) (lY : 2 ≤ Y.length) (h : (fgD X).shown = (fgD Y).shown) : X = Y := by
  obtain ⟨p, q, X, rfl⟩ : ∃ p q X', X = p :: q :: X' := by
    match X, lX with
    | p :: q :: X', _ => exact ⟨p, q, X', rfl⟩
  obtain ⟨p', q', Y, rfl⟩ : ∃ p q X', Y = p :: q :: X' := by
    match Y, lY with
    | p :: q :: X', _ => exact ⟨p, q, X', rfl⟩
  have h2 : ct (fgD (p :: q :: X)) = ct (fgD (p' :: q' :: Y)) := congrArg (fun s : Str => s.cps.toList) h
  rw [ct_fg, ct_fg] at h2
  simp only [List.cons.injEq, true_and] at h2
  refine tail_inj (p :: q :: X) (p' :: q' :: Y) hX hY ?_
  show 44 :: 32 :: (ct (tI p) ++ tailT (q :: X)) = 44 :: 32 :: (ct (tI p') ++ tailT (q' :: Y))
  rw [h2]
theorem eq_texts {x y : Str} (hx : Cp x) (hy : Cp y) : dEq (.str x) (.str y) = some (.d (.bool (decide (x = y)))) := by
  rw [o_eqP (pln_str hx _) (pln_str hy _)]
  have : PyData.eqv (.str x) (.str y) = decide (x = y) := by
    rw [Bool.eq_iff_iff, decide_eq_true_eq]
    simp [PyData.eqv]
  rw [this]
end Qz
namespace Qz
open PySem PySem.Spec L2
open PyProof.Rows hiding St
/-! ## sets in names, in runs -/
section
variable {s : S}
def kSetSet (i : Nat) (Q : Fl → S → Prop) (rs : List R) (s : S) : Prop := ∃ ds s2 ls, takes s rs = some ([.tuple ds], s2) ∧ tupsI? ds = some ls ∧ s2.a[i]? = some none ∧ ls.length < 64 ∧ Q .nx { s2 with a := s2.a.set i (some (.st ls)) }
theorem k_setSet {i : Nat} {ms : MA} {Q : Fl → S → Prop} (h : Ok (ms s) (kSetSet i Q)) : Ok (mSetSet i ms s) Q := by
  obtain ⟨rs, s1, e, ds, s2, ls, h1, h2, h3, h4, q⟩ := h.get
  refine .of ?_ q
  unfold mSetSet
  simp only [e, h1, h2, h3]
  exact if_pos h4
def kInSet (i : Nat) (Q : R → S → Prop) (r : R) (s : S) : Prop := ∃ x ls, r = .d x ∧ s.a[i]? = some (some (.st ls)) ∧ ((x = .none ∧ Q (.d (.bool false)) s) ∨ ∃ k, tupI? x = some k ∧ Q (.d (.bool (decide (k ∈ ls)))) s)
theorem k_inSet {i : Nat} {m : ME} {Q : R → S → Prop} (h : Ok (m s) (kInSet i Q)) : Ok (mInSet m i s) Q := by
  obtain ⟨_, s1, e, x, ls, rfl, h1, h2⟩ := h.get
  rcases h2 with ⟨rfl, q⟩ | ⟨k, h2, q⟩
  · refine .of ?_ q
    unfold mInSet
    simp only [e, h1]
  · refine .of ?_ q
    unfold mInSet
    cases x with
    | tuple ds => simp only [e, h1, h2]
    | _ => cases h2
theorem k_thaw {i : Nat} {m : ME} {ds : List D} {Q : R → S → Prop} (h1 : s.a[i]? = some (some (.o (.lst ds)))) (h2 : noOther s.a i = true)
    (h : Ok (m { s with a := s.a.set i (some (.d (.list ds))) }) fun r s2 => ∃ acc is, r = .o (.lst acc) ∧ intsD? acc = some is ∧ Q (.o (.lst acc)) { s with b := s2.b }) : Ok (mThaw i m s) Q := by
  obtain ⟨_, s2, e, acc, is, rfl, h3, q⟩ := h.get
  refine .of ?_ q
  unfold mThaw
  simp only [h1]
  rw [if_pos h2]
  simp only [e, h3]
end
end Qz
namespace K17
open PySem PySem.Spec L2 Qz
open PyProof.Rows hiding St
def top (i : Nat) : Stmt := PySem.Challenge.pw_heardagain_k17_hits_by_leading.main.body.getD i (.Pass ⟨0, 0, 0, 0⟩)
structure Tx (K : PySem.W.Frag) (mg : Str → Option Value) (f : Nat → Addr) (fd : Nat → FuncData) : Prop where
  n_abs : mg "abs" = none
  n_bool : mg "bool" = none
  n_divmod : mg "divmod" = none
  n_int : mg "int" = none
  n_isinstance : mg "isinstance" = none
  n_len : mg "len" = none
  n_list : mg "list" = none
  n_range : mg "range" = none
  n_repr : mg "repr" = none
  n_set : mg "set" = none
  n_sorted : mg "sorted" = none
  n_tuple : mg "tuple" = none
  c_MAX_FAR : ∃ u, mg "MAX_FAR" = some u ∧ RelV (.int 9999) u
  d1 : Fun K "is_integer" "is_integer" (top 1) (f 1) (fd 1)
  m1 : mg "is_integer" = some (.ref (f 1))
  k1 : PySem.W.keepIn K (.ref (f 1)) = true
  b1 : Binds K (fd 1) ["value"] []
  d2 : Fun K "is_within" "is_within" (top 2) (f 2) (fd 2)
  m2 : mg "is_within" = some (.ref (f 2))
  k2 : PySem.W.keepIn K (.ref (f 2)) = true
  b2 : Binds K (fd 2) ["value", "low", "high"] []
  d3 : Fun K "is_tuple_of" "is_tuple_of" (top 3) (f 3) (fd 3)
  m3 : mg "is_tuple_of" = some (.ref (f 3))
  k3 : PySem.W.keepIn K (.ref (f 3)) = true
  b3 : Binds K (fd 3) ["value", "many"] []
  d6 : Fun K "is_point" "is_point" (top 6) (f 6) (fd 6)
  m6 : mg "is_point" = some (.ref (f 6))
  k6 : PySem.W.keepIn K (.ref (f 6)) = true
  b6 : Binds K (fd 6) ["value"] []
  d8 : Fun K "lands" "lands" (top 8) (f 8) (fd 8)
  m8 : mg "lands" = some (.ref (f 8))
  k8 : PySem.W.keepIn K (.ref (f 8)) = true
  b8 : Binds K (fd 8) ["move", "point"] []
  d10 : Fun K "points_of" "points_of" (top 10) (f 10) (fd 10)
  m10 : mg "points_of" = some (.ref (f 10))
  k10 : PySem.W.keepIn K (.ref (f 10)) = true
  b10 : Binds K (fd 10) ["score"] []
  d12 : Fun K "hits" "hits" (top 12) (f 12) (fd 12)
  m12 : mg "hits" = some (.ref (f 12))
  k12 : PySem.W.keepIn K (.ref (f 12)) = true
  b12 : Binds K (fd 12) ["score", "figure", "move"] []
  d14 : Fun K "_law_deck" "_law_deck" (top 14) (f 14) (fd 14)
  m14 : mg "_law_deck" = some (.ref (f 14))
  k14 : PySem.W.keepIn K (.ref (f 14)) = true
  b14 : Binds K (fd 14) ["script"] []
  d15 : Fun K "_law_draw" "_law_draw" (top 15) (f 15) (fd 15)
  m15 : mg "_law_draw" = some (.ref (f 15))
  k15 : PySem.W.keepIn K (.ref (f 15)) = true
  b15 : Binds K (fd 15) ["deck", "many"] []
  d16 : Fun K "_law_pick" "_law_pick" (top 16) (f 16) (fd 16)
  m16 : mg "_law_pick" = some (.ref (f 16))
  k16 : PySem.W.keepIn K (.ref (f 16)) = true
  b16 : Binds K (fd 16) ["deck", "items"] []
  d17 : Fun K "_law_score" "_law_score" (top 17) (f 17) (fd 17)
  m17 : mg "_law_score" = some (.ref (f 17))
  k17 : PySem.W.keepIn K (.ref (f 17)) = true
  b17 : Binds K (fd 17) ["deck", "many", "wide"] []
  d18 : Fun K "_law_points" "_law_points" (top 18) (f 18) (fd 18)
  m18 : mg "_law_points" = some (.ref (f 18))
  k18 : PySem.W.keepIn K (.ref (f 18)) = true
  b18 : Binds K (fd 18) ["score"] []
  d19 : Fun K "_law_figure" "_law_figure" (top 19) (f 19) (fd 19)
  m19 : mg "_law_figure" = some (.ref (f 19))
  k19 : PySem.W.keepIn K (.ref (f 19)) = true
  b19 : Binds K (fd 19) ["deck", "points", "many"] []
  d20 : Fun K "_law_ratio" "_law_ratio" (top 20) (f 20) (fd 20)
  m20 : mg "_law_ratio" = some (.ref (f 20))
  k20 : PySem.W.keepIn K (.ref (f 20)) = true
  b20 : Binds K (fd 20) ["above", "below"] []
  d21 : Fun K "_law_lands" "_law_lands" (top 21) (f 21) (fd 21)
  m21 : mg "_law_lands" = some (.ref (f 21))
  k21 : PySem.W.keepIn K (.ref (f 21)) = true
  b21 : Binds K (fd 21) ["move", "point"] []
  d22 : Fun K "_law_hits" "_law_hits" (top 22) (f 22) (fd 22)
  m22 : mg "_law_hits" = some (.ref (f 22))
  k22 : PySem.W.keepIn K (.ref (f 22)) = true
  b22 : Binds K (fd 22) ["points", "figure", "move"] []
  d23 : Fun K "_law_move" "_law_move" (top 23) (f 23) (fd 23)
  m23 : mg "_law_move" = some (.ref (f 23))
  k23 : PySem.W.keepIn K (.ref (f 23)) = true
  b23 : Binds K (fd 23) ["deck", "points", "figure"] []
  d24 : Fun K "law" "law" (top 24) (f 24) (fd 24)
  m24 : mg "law" = some (.ref (f 24))
  k24 : PySem.W.keepIn K (.ref (f 24)) = true
  b24 : Binds K (fd 24) ["script"] []
  kb12_0_move_score_figure : KBinds K (fd 12) ["score", "figure", "move"] ["move", "score", "figure"] (gP 0 3 [1, 2, 0]) (gP 0 3 [1, 2, 0])
section
variable {P : Program} {w : World} {K : PySem.W.Frag} {mg : Str → Option Value} {base : Heap} {f : Nat → Addr} {fd : Nat → FuncData}
noncomputable def m_is_integer : MS := mSeq (mRet (mAndV (mUn (fIsi "int") (mVar 0)) (mNotV (mUn (fIsi "bool") (mVar 0))))) (mNext)
noncomputable def f_is_integer : DF := runF 1 m_is_integer
theorem sc_is_integer : FnScope ["value"] ["value"] (defScope (top 1)) := ⟨rfl, rfl, rfl, by decide +kernel, rfl, by decide +kernel, by decide +kernel⟩
theorem ok_is_integer (T : Tx K mg f fd) : FnG P w K mg base 1 (f 1) (fd 1) ["value"] (spD K 1 f_is_integer) :=
  fng_of (k := 0) (N := ["value"]) (m := m_is_integer) T.d1 sc_is_integer fun X hP hw hK hm hb hN hE hc hfn hxe hr => by
    obtain ⟨_, _, _, _, _, _, _, _, _, ⟨_, _⟩, _⟩ := X
    cases hP; cases hw; cases hK; cases hm; cases hb; cases hN; cases hE; cases hc
    have nd := (sc_is_integer).nd
    exact rss_cons (rs_ret (re_and (re_isi T.n_isinstance T.n_int bo_int (re_var 0)) (re_one (re_not (re_isi T.n_isinstance T.n_bool bo_bool (re_var 0)))))) (rss_nil)
noncomputable def m_is_within : MS := mSeq (mRet (mAndV (mCall 1 f_is_integer (mCons (mVar 0) (mNil))) (mChain dLe dLe (mVar 1) (mVar 0) (mVar 2)))) (mNext)
noncomputable def f_is_within : DF := runF 3 m_is_within
theorem sc_is_within : FnScope ["value", "low", "high"] ["value", "low", "high"] (defScope (top 2)) := ⟨rfl, rfl, rfl, by decide +kernel, rfl, by decide +kernel, by decide +kernel⟩
theorem ok_is_within (T : Tx K mg f fd) : FnG P w K mg base 2 (f 2) (fd 2) ["value", "low", "high"] (spD K 3 f_is_within) :=
  fng_of (k := 1) (N := ["value", "low", "high"]) (m := m_is_within) T.d2 sc_is_within fun X hP hw hK hm hb hN hE hc hfn hxe hr => by
    obtain ⟨_, _, _, _, _, _, _, _, _, ⟨_, _⟩, _⟩ := X
    cases hP; cases hw; cases hK; cases hm; cases hb; cases hN; cases hE; cases hc
    have nd := (sc_is_within).nd
    exact rss_cons (rs_ret (re_and (rc_call ((ok_is_integer T).up (by decide)) hr T.m1 T.k1 T.b1 (ra_cons (re_var 0) (ra_nil))) (re_one (re_chain (o_le hr) (o_le hr) s_le s_le (re_var 1) (re_var 0) (re_var 2))))) (rss_nil)
noncomputable def m_is_tuple_of : MS := mSeq (mRet (mAndV (mUn (fIsi "tuple") (mVar 0)) (mOp dEq (mBlt fLen (mCons (mVar 0) (mNil))) (mVar 1)))) (mNext)
noncomputable def f_is_tuple_of : DF := runF 2 m_is_tuple_of
theorem sc_is_tuple_of : FnScope ["value", "many"] ["value", "many"] (defScope (top 3)) := ⟨rfl, rfl, rfl, by decide +kernel, rfl, by decide +kernel, by decide +kernel⟩
theorem ok_is_tuple_of (T : Tx K mg f fd) : FnG P w K mg base 1 (f 3) (fd 3) ["value", "many"] (spD K 2 f_is_tuple_of) :=
  fng_of (k := 0) (N := ["value", "many"]) (m := m_is_tuple_of) T.d3 sc_is_tuple_of fun X hP hw hK hm hb hN hE hc hfn hxe hr => by
    obtain ⟨_, _, _, _, _, _, _, _, _, ⟨_, _⟩, _⟩ := X
    cases hP; cases hw; cases hK; cases hm; cases hb; cases hN; cases hE; cases hc
    have nd := (sc_is_tuple_of).nd
    exact rss_cons (rs_ret (re_and (re_isi T.n_isinstance T.n_tuple bo_tuple (re_var 0)) (re_one (re_cmp (o_eqq hr) s_eq (re_len T.n_len (ra_cons (re_var 0) (ra_nil))) (re_var 1) (nomark _))))) (rss_nil)
noncomputable def m_is_point : MS := mSeq (mRet (mAndV (mCall 2 f_is_tuple_of (mCons (mVar 0) (mCons (mC (.int 2)) (mNil)))) (mAndV (mCall 3 f_is_within (mCons (mOp dIdx (mVar 0) (mC (.int 0))) (mCons (mUn dNeg (mC (.int 9999))) (mCons (mC (.int 9999)) (mNil))))) (mCall 3 f_is_within (mCons (mOp dIdx (mVar 0) (mC (.int 1))) (mCons (mUn dNeg (mC (.int 9999))) (mCons (mC (.int 9999)) (mNil)))))))) (mNext)
noncomputable def f_is_point : DF := runF 1 m_is_point
theorem sc_is_point : FnScope ["value"] ["value"] (defScope (top 6)) := ⟨rfl, rfl, rfl, by decide +kernel, rfl, by decide +kernel, by decide +kernel⟩
theorem ok_is_point (T : Tx K mg f fd) : FnG P w K mg base 3 (f 6) (fd 6) ["value"] (spD K 1 f_is_point) :=
  fng_of (k := 2) (N := ["value"]) (m := m_is_point) T.d6 sc_is_point fun X hP hw hK hm hb hN hE hc hfn hxe hr => by
    obtain ⟨_, _, _, _, _, _, _, _, _, ⟨_, _⟩, _⟩ := X
    cases hP; cases hw; cases hK; cases hm; cases hb; cases hN; cases hE; cases hc
    have nd := (sc_is_point).nd
    exact rss_cons (rs_ret (re_and (rc_call ((ok_is_tuple_of T).up (by decide)) hr T.m3 T.k3 T.b3 (ra_cons (re_var 0) (ra_cons (re_int) (ra_nil)))) (re_and (rc_call ((ok_is_within T).up (by decide)) hr T.m2 T.k2 T.b2 (ra_cons (re_idx (re_var 0) (re_int)) (ra_cons (re_neg (re_globE rfl T.c_MAX_FAR)) (ra_cons (re_globE rfl T.c_MAX_FAR) (ra_nil))))) (re_one (rc_call ((ok_is_within T).up (by decide)) hr T.m2 T.k2 T.b2 (ra_cons (re_idx (re_var 0) (re_int)) (ra_cons (re_neg (re_globE rfl T.c_MAX_FAR)) (ra_cons (re_globE rfl T.c_MAX_FAR) (ra_nil))))))))) (rss_nil)
noncomputable def m_lands : MS := mSeq (mAsg (mVar 0) (gT 4 (gsC (gT 2 (gsC (gN 2) (gsC (gN 3) (gs0)))) (gsC (gT 2 (gsC (gN 4) (gsC (gN 5) (gs0)))) (gsC (gN 6) (gsC (gN 7) (gs0))))))) (mSeq (mAsg (mVar 1) (gT 2 (gsC (gN 8) (gsC (gN 9) (gs0))))) (mSeq (mAsg (mBlt fDivmod (mCons (mOp dAdd (mOp dMul (mOp dMul (mVar 2) (mVar 8)) (mVar 5)) (mOp dMul (mVar 4) (mVar 3))) (mCons (mOp dMul (mVar 3) (mVar 5)) (mNil)))) (gT 2 (gsC (gN 10) (gsC (gN 11) (gs0))))) (mSeq (mSet 12 (mTup (mCons (mVar 10) (mCons (mOp dAdd (mOp dMul (mVar 6) (mVar 9)) (mVar 7)) (mNil))))) (mSeq (mRet (mIte (mAnd (mB (mOp dEq (mVar 11) (mC (.int 0)))) (mB (mCall 1 f_is_point (mCons (mVar 12) (mNil))))) (mVar 12) (mC .none))) (mNext)))))
noncomputable def f_lands : DF := runF 13 m_lands
theorem sc_lands : FnScope ["move", "point", "above", "below", "late", "part", "e", "v", "x", "y", "onset", "beyond", "place"] ["move", "point"] (defScope (top 8)) := ⟨rfl, rfl, rfl, by decide +kernel, rfl, by decide +kernel, by decide +kernel⟩
theorem ok_lands (T : Tx K mg f fd) : FnG P w K mg base 4 (f 8) (fd 8) ["move", "point"] (spD K 2 f_lands) :=
  fng_of (k := 3) (N := ["move", "point", "above", "below", "late", "part", "e", "v", "x", "y", "onset", "beyond", "place"]) (m := m_lands) T.d8 sc_lands fun X hP hw hK hm hb hN hE hc hfn hxe hr => by
    obtain ⟨_, _, _, _, _, _, _, _, _, ⟨_, _⟩, _⟩ := X
    cases hP; cases hw; cases hK; cases hm; cases hb; cases hN; cases hE; cases hc
    have nd := (sc_lands).nd
    exact rss_cons (rs_asg (re_var 0) (rg_tup (rgs_cons (rg_tup (rgs_cons (rg_name nd (i := 2) rfl (.inl rfl) (.inl (hfn _))) (rgs_cons (rg_name nd (i := 3) rfl (.inl rfl) (.inl (hfn _))) (rgs_nil))) rfl rfl rfl) (rgs_cons (rg_tup (rgs_cons (rg_name nd (i := 4) rfl (.inl rfl) (.inl (hfn _))) (rgs_cons (rg_name nd (i := 5) rfl (.inl rfl) (.inl (hfn _))) (rgs_nil))) rfl rfl rfl) (rgs_cons (rg_name nd (i := 6) rfl (.inl rfl) (.inl (hfn _))) (rgs_cons (rg_name nd (i := 7) rfl (.inl rfl) (.inl (hfn _))) (rgs_nil))))) rfl rfl rfl)) (rss_cons (rs_asg (re_var 1) (rg_tup (rgs_cons (rg_name nd (i := 8) rfl (.inl rfl) (.inl (hfn _))) (rgs_cons (rg_name nd (i := 9) rfl (.inl rfl) (.inl (hfn _))) (rgs_nil))) rfl rfl rfl)) (rss_cons (rs_asg (re_divmod T.n_divmod (ra_cons (re_op o_add s_add (re_op op_mulB s_mul (re_op op_mulB s_mul (re_var 2) (re_var 8)) (re_var 5)) (re_op op_mulB s_mul (re_var 4) (re_var 3))) (ra_cons (re_op op_mulB s_mul (re_var 3) (re_var 5)) (ra_nil)))) (rg_tup (rgs_cons (rg_name nd (i := 10) rfl (.inl rfl) (.inl (hfn _))) (rgs_cons (rg_name nd (i := 11) rfl (.inl rfl) (.inl (hfn _))) (rgs_nil))) rfl rfl rfl)) (rss_cons (rs_set nd (i := 12) rfl (.inl rfl) (re_tup (ra_cons (re_var 10) (ra_cons (re_op o_add s_add (re_op op_mulB s_mul (re_var 6) (re_var 9)) (re_var 7)) (ra_nil)))) (hf := .inl (hfn _))) (rss_cons (rs_ret (re_ite (RW.rt (rw_and (rt_cmp (o_eqq hr) s_eq (re_var 11) (re_int) (nomark _)) (rw_and1 (rt_val (rc_call ((ok_is_point T).up (by decide)) hr T.m6 T.k6 T.b6 (ra_cons (re_var 12) (ra_nil))))))) (re_var 12) (re_non))) (rss_nil)))))
noncomputable def m_points_of : MS := mSeq (mRet (mBlt fTup (mCons (mSortSC fST (iTupD (mVar 0)) (gN 1) (mYes) (mCut (mVar 1) none (some (mC (.int 2)))) [1]) (mNil)))) (mNext)
noncomputable def f_points_of : DF := runF 2 m_points_of
theorem sc_points_of : FnScope ["score", "note"] ["score"] (defScope (top 10)) := ⟨rfl, rfl, rfl, by decide +kernel, rfl, by decide +kernel, by decide +kernel⟩
theorem ok_points_of (T : Tx K mg f fd) : FnG P w K mg base 1 (f 10) (fd 10) ["score"] (spD K 1 f_points_of) :=
  fng_of (k := 0) (N := ["score", "note"]) (m := m_points_of) T.d10 sc_points_of fun X hP hw hK hm hb hN hE hc hfn hxe hr => by
    obtain ⟨_, _, _, _, _, _, _, _, _, ⟨_, _⟩, _⟩ := X
    cases hP; cases hw; cases hK; cases hm; cases hb; cases hN; cases hE; cases hc
    have nd := (sc_points_of).nd
    exact rss_cons (rs_ret (re_tuple T.n_tuple (ra_cons (re_sortST hr T.n_sorted (own := [("note", 1)]) rfl nd (ri_tup (re_var 0)) (blkOk_by (by dsimp only; decide +kernel)) (fun _ _ _ _ _ => rg_name nd (i := 1) rfl (.inl rfl) (.inr rfl)) (fun _ _ _ _ _ => rts_nil) (fun _ _ _ _ _ => re_cut (re_var 1) ro_none (ro_some (re_int))) (by decide)) (ra_nil)))) (rss_nil)
noncomputable def m_hits : MS := mSeq (mSetSet 3 (mCons (mCall 1 f_points_of (mCons (mVar 0) (mNil))) (mNil))) (mSeq (mRet (mBlt fTup (mCons (mLc (iTupD (mVar 1)) (gN 4) (mB (mInSet (mCall 2 f_lands (mCons (mVar 2) (mCons (mVar 4) (mNil)))) 3)) (mVar 4) [4]) (mNil)))) (mNext))
noncomputable def f_hits : DF := runF 5 m_hits
theorem sc_hits : FnScope ["score", "figure", "move", "heard", "point"] ["score", "figure", "move"] (defScope (top 12)) := ⟨rfl, rfl, rfl, by decide +kernel, rfl, by decide +kernel, by decide +kernel⟩
theorem ok_hits (T : Tx K mg f fd) : FnG P w K mg base 5 (f 12) (fd 12) ["score", "figure", "move"] (spD K 3 f_hits) :=
  fng_of (k := 4) (N := ["score", "figure", "move", "heard", "point"]) (m := m_hits) T.d12 sc_hits fun X hP hw hK hm hb hN hE hc hfn hxe hr => by
    obtain ⟨_, _, _, _, _, _, _, _, _, ⟨_, _⟩, _⟩ := X
    cases hP; cases hw; cases hK; cases hm; cases hb; cases hN; cases hE; cases hc
    have nd := (sc_hits).nd
    exact rss_cons (rs_setSet hr rfl nd (i := 3) rfl (.inr rfl) T.n_set (ra_cons (rc_call ((ok_points_of T).up (by decide)) hr T.m10 T.k10 T.b10 (ra_cons (re_var 0) (ra_nil))) (ra_nil)) (hf := .inl (hfn _))) (rss_cons (rs_ret (re_tuple T.n_tuple (ra_cons (re_lc (own := [("point", 4)]) rfl nd (ri_tup (re_var 1)) (blkOk_by (by dsimp only; decide +kernel)) (fun _ _ _ _ _ => rg_name nd (i := 4) rfl (.inl rfl) (.inr rfl)) (fun _ _ _ _ _ => rts_one (rt_inSet hr.blk (rc_call ((ok_lands T).up (by decide)) hr.blk T.m8 T.k8 T.b8 (ra_cons (re_var 2) (ra_cons (re_var 4) (ra_nil)))) 3)) (fun _ _ _ _ _ => re_var 4) (by decide)) (ra_nil)))) (rss_nil))
noncomputable def m_law_deck : MS := mSeq (mPar [1, 2] (mCons (mLc (iLstD (mCut (mVar 0) none (some (mC (.int 63))))) (gN 3) (mYes) (mOp dAdd (mOp dMul (mC (.int 3)) (mBlt fAbs (mCons (mVar 3) (mNil)))) (mBlt fInt (mCons (mOp dLt (mVar 3) (mC (.int 0))) (mNil)))) [3]) (mCons (mOp dAdd (mC (.int 70001)) (mBlt fLen (mCons (mVar 0) (mNil)))) (mNil)))) (mSeq (mFor (iLstD (mVar 1)) (gN 3) (mSeq (mSet 2 (mOp dMod (mBlt fInt (mCons (mOp dAdd (mOp dMul (mVar 2) (mC (.int 48271))) (mVar 3)) (mNil))) (mC (.int 4294967291)))) (mNext))) (mSeq (mRet (mBox (mCons (mLc (iLstD (mVar 1)) (gN 3) (mB (mOp dGe (mVar 3) (mOp dPow (mC (.int 10)) (mC (.int 15))))) (mVar 3) [3]) (mCons (mVar 2) (mCons (mC (.int 0)) (mNil)))))) (mNext)))
noncomputable def f_law_deck : DF := runF 4 m_law_deck
theorem sc_law_deck : FnScope ["script", "cells", "stirred", "cell"] ["script"] (defScope (top 14)) := ⟨rfl, rfl, rfl, by decide +kernel, rfl, by decide +kernel, by decide +kernel⟩
theorem ok_law_deck (T : Tx K mg f fd) : FnG P w K mg base 1 (f 14) (fd 14) ["script"] (spD K 1 f_law_deck) :=
  fng_of (k := 0) (N := ["script", "cells", "stirred", "cell"]) (m := m_law_deck) T.d14 sc_law_deck fun X hP hw hK hm hb hN hE hc hfn hxe hr => by
    obtain ⟨_, _, _, _, _, _, _, _, _, ⟨_, _⟩, _⟩ := X
    cases hP; cases hw; cases hK; cases hm; cases hb; cases hN; cases hE; cases hc
    have nd := (sc_law_deck).nd
    exact rss_cons (rs_par 1 2 rfl nd (ra_cons (re_lc (own := [("cell", 3)]) rfl nd (ri_lst (re_cut (re_var 0) ro_none (ro_some (re_int)))) (blkOk_by (by dsimp only; decide +kernel)) (fun _ _ _ _ _ => rg_name nd (i := 3) rfl (.inl rfl) (.inr rfl)) (fun _ _ _ _ _ => rts_nil) (fun _ _ _ _ _ => re_op o_add s_add (re_op op_mulB s_mul (re_int) (re_abs T.n_abs (ra_cons (re_var 3) (ra_nil)))) (re_int1 T.n_int (ra_cons (re_cmp (o_lt hr.blk) s_lt (re_var 3) (re_int) (nomark _)) (ra_nil)))) (by decide)) (ra_cons (re_op o_add s_add (re_int) (re_len T.n_len (ra_cons (re_var 0) (ra_nil)))) (ra_nil)))) (rss_cons (rs_for (fun e s h => absurd h (hxe e s)) rfl (ri_lst (re_var 1)) (rg_name nd (i := 3) rfl (.inl rfl) (.inl (hfn _))) (rss_cons (rs_set nd (i := 2) rfl (.inl rfl) (re_op op_mod s_mod (re_int1 T.n_int (ra_cons (re_op o_add s_add (re_op op_mulB s_mul (re_var 2) (re_int)) (re_var 3)) (ra_nil))) (re_int)) (hf := .inl (hfn _))) (rss_nil))) (rss_cons (rs_ret (re_box (ra_cons (re_lc (own := [("cell", 3)]) rfl nd (ri_lst (re_var 1)) (blkOk_by (by dsimp only; decide +kernel)) (fun _ _ _ _ _ => rg_name nd (i := 3) rfl (.inl rfl) (.inr rfl)) (fun _ _ _ _ _ => rts_one (rt_cmp (o_ge hr.blk) s_ge (re_var 3) (re_op op_pow s_pow (re_int) (re_int)) (nomark _))) (fun _ _ _ _ _ => re_var 3) (by decide)) (ra_cons (re_var 2) (ra_cons (re_int) (ra_nil)))))) (rss_nil)))
theorem sc_law_draw : FnScope ["deck", "many", "cell", "found"] ["deck", "many"] (defScope (top 15)) := ⟨rfl, rfl, rfl, by decide +kernel, rfl, by decide +kernel, by decide +kernel⟩
theorem ok_law_draw (T : Tx K mg f fd) : FnG P w K mg base 1 (f 15) (fd 15) ["deck", "many"] (spD K 2 f_law_draw) :=
  fng_of (k := 0) (N := ["deck", "many", "cell", "found"]) (m := mDraw) T.d15 sc_law_draw fun X hP hw hK hm hb hN hE hc hfn hxe hr => by
    obtain ⟨_, _, _, _, _, _, _, _, _, ⟨_, _⟩, _⟩ := X
    cases hP; cases hw; cases hK; cases hm; cases hb; cases hN; cases hE; cases hc
    have nd := (sc_law_draw).nd
    exact ⟨_, pss_cons (ps_if (pt_cmpR (op_neD hr.un64) (pe_ix ix_list (pv 0) pe_int (fun _ _ => rfl)) (pe_lst pa_nil) (nomark _))
        (pss_cons (ps_set nd (i := 2) rfl (.inl rfl) (pe_ix ix_list (pe_ix ix_list (pv 0) pe_int (fun _ _ => rfl)) pe_int (fun _ _ => rfl)) (hf := .inl (hfn _)))
        (pss_cons (ps_asg (pe_op op_fdivB (pv 2) (pv 1)) (pg_sub (pe_ix ix_list (pv 0) pe_int (fun _ _ => rfl)) pe_int set_list))
        (pss_cons (ps_if (pt_cmpR op_lt (pv 2) (pv 1) (nomark _)) (pss_cons (ps_expr (pe_bm PySem.F.plainAttrs_list PySem.F.slot_list_pop PySem.F.type_list_pop mt_popAt (pe_ix ix_list (pv 0) pe_int (fun _ _ => rfl)) (pa_cons pe_int pa_nil))) pss_nil) pss_nil)
        (pss_cons (ps_ret (pe_op op_mod (pe_callTy call_int1 rfl T.n_int bo_int (pa_cons (pv 2) pa_nil)) (pv 1))) pss_nil)))) pss_nil)
      (pss_cons (ps_asg (pe_op op_add (pe_ix ix_list (pv 0) pe_int (fun _ _ => rfl)) pe_int) (pg_sub (pv 0) pe_int set_list))
      (pss_cons (ps_set nd (i := 3) rfl (.inl rfl) (pe_op op_mod (pe_callTy call_int1 rfl T.n_int bo_int (pa_cons (pe_op op_add (pe_ix ix_list (pv 0) pe_int (fun _ _ => rfl)) (pe_op op_mul pe_int (pe_ix ix_list (pv 0) pe_int (fun _ _ => rfl)))) pa_nil)) pe_int) (hf := .inl (hfn _)))
      (pss_cons (ps_set nd (i := 3) rfl (.inl rfl) (pe_op op_mod (pe_callTy call_int1 rfl T.n_int bo_int (pa_cons (pe_op op_add (pe_op op_add (pe_op op_mul (pv 3) (pv 3)) (pe_op op_mul pe_int (pe_ix ix_list (pv 0) pe_int (fun _ _ => rfl)))) pe_int) pa_nil)) pe_int) (hf := .inl (hfn _)))
      (pss_cons (ps_set nd (i := 3) rfl (.inl rfl) (pe_op op_mod (pe_callTy call_int1 rfl T.n_int bo_int (pa_cons (pe_op op_add (pe_op op_mul (pv 3) (pv 3)) (pe_ix ix_list (pv 0) pe_int (fun _ _ => rfl))) pa_nil)) pe_int) (hf := .inl (hfn _)))
      (pss_cons (ps_ret (pe_op op_mod (pe_callTy call_int1 rfl T.n_int bo_int (pa_cons (pe_op op_fdivB (pv 3) pe_int) pa_nil)) (pv 1))) pss_nil))))), draw_snd⟩
noncomputable def m_law_pick : MS := mSeq (mRet (mOp dIdx (mVar 1) (mCall 2 f_law_draw (mCons (mVar 0) (mCons (mBlt fLen (mCons (mVar 1) (mNil))) (mNil)))))) (mNext)
noncomputable def f_law_pick : DF := runF 2 m_law_pick
theorem sc_law_pick : FnScope ["deck", "items"] ["deck", "items"] (defScope (top 16)) := ⟨rfl, rfl, rfl, by decide +kernel, rfl, by decide +kernel, by decide +kernel⟩
theorem ok_law_pick (T : Tx K mg f fd) : FnG P w K mg base 2 (f 16) (fd 16) ["deck", "items"] (spD K 2 f_law_pick) :=
  fng_of (k := 1) (N := ["deck", "items"]) (m := m_law_pick) T.d16 sc_law_pick fun X hP hw hK hm hb hN hE hc hfn hxe hr => by
    obtain ⟨_, _, _, _, _, _, _, _, _, ⟨_, _⟩, _⟩ := X
    cases hP; cases hw; cases hK; cases hm; cases hb; cases hN; cases hE; cases hc
    have nd := (sc_law_pick).nd
    exact rss_cons (rs_ret (re_idx (re_var 1) (rc_call ((ok_law_draw T).up (by decide)) hr T.m15 T.k15 T.b15 (ra_cons (re_var 0) (ra_cons (re_len T.n_len (ra_cons (re_var 1) (ra_nil))) (ra_nil)))))) (rss_nil)
noncomputable def m_law_score : MS := mSeq (mSet 3 (mNewT)) (mSeq (mFor (iRange1 (mCons (mVar 1) (mNil))) (gN 4) (mSeq (mPut 3 (mTup (mCons (mCall 2 f_law_draw (mCons (mVar 0) (mCons (mVar 2) (mNil)))) (mCons (mOp dAdd (mC (.int 60)) (mCall 2 f_law_draw (mCons (mVar 0) (mCons (mC (.int 6)) (mNil))))) (mCons (mCall 2 f_law_draw (mCons (mVar 0) (mCons (mC (.int 3)) (mNil)))) (mNil))))) (mOp dAdd (mC (.int 1)) (mCall 2 f_law_draw (mCons (mVar 0) (mCons (mC (.int 9)) (mNil)))))) (mNext))) (mSeq (mRet (mBlt fTup (mCons (mLc (iLstD (mBlt fSorted (mCons (mList (mCons (mVar 3) (mNil))) (mNil)))) (gN 5) (mYes) (mOp dAdd (mVar 5) (mTup (mCons (mGetD (mVar 3) (mVar 5)) (mNil)))) [5]) (mNil)))) (mNext)))
noncomputable def f_law_score : DF := runF 6 m_law_score
theorem sc_law_score : FnScope ["deck", "many", "wide", "found", "turn", "key"] ["deck", "many", "wide"] (defScope (top 17)) := ⟨rfl, rfl, rfl, by decide +kernel, rfl, by decide +kernel, by decide +kernel⟩
theorem ok_law_score (T : Tx K mg f fd) : FnG P w K mg base 2 (f 17) (fd 17) ["deck", "many", "wide"] (spD K 3 f_law_score) :=
  fng_of (k := 1) (N := ["deck", "many", "wide", "found", "turn", "key"]) (m := m_law_score) T.d17 sc_law_score fun X hP hw hK hm hb hN hE hc hfn hxe hr => by
    obtain ⟨_, _, _, _, _, _, _, _, _, ⟨_, _⟩, _⟩ := X
    cases hP; cases hw; cases hK; cases hm; cases hb; cases hN; cases hE; cases hc
    have nd := (sc_law_score).nd
    exact rss_cons (rs_set nd (i := 3) rfl (.inr rfl) (re_newT) (hf := .inl (hfn _))) (rss_cons (rs_for (fun e s h => absurd h (hxe e s)) rfl (ri_range1 rfl T.n_range (ra_cons (re_var 1) (ra_nil))) (rg_name nd (i := 4) rfl (.inl rfl) (.inl (hfn _))) (rss_cons (rs_put 3 hr (re_tup (ra_cons (rc_call ((ok_law_draw T).up (by decide)) hr T.m15 T.k15 T.b15 (ra_cons (re_var 0) (ra_cons (re_var 2) (ra_nil)))) (ra_cons (re_op o_add s_add (re_int) (rc_call ((ok_law_draw T).up (by decide)) hr T.m15 T.k15 T.b15 (ra_cons (re_var 0) (ra_cons (re_int) (ra_nil))))) (ra_cons (rc_call ((ok_law_draw T).up (by decide)) hr T.m15 T.k15 T.b15 (ra_cons (re_var 0) (ra_cons (re_int) (ra_nil)))) (ra_nil))))) (re_op o_add s_add (re_int) (rc_call ((ok_law_draw T).up (by decide)) hr T.m15 T.k15 T.b15 (ra_cons (re_var 0) (ra_cons (re_int) (ra_nil)))))) (rss_nil))) (rss_cons (rs_ret (re_tuple T.n_tuple (ra_cons (re_lc (own := [("key", 5)]) rfl nd (ri_lst (re_sorted T.n_sorted (ra_cons (re_listA rfl T.n_list (ra_cons (re_var 3) (ra_nil))) (ra_nil)))) (blkOk_by (by dsimp only; decide +kernel)) (fun _ _ _ _ _ => rg_name nd (i := 5) rfl (.inl rfl) (.inr rfl)) (fun _ _ _ _ _ => rts_nil) (fun _ _ _ _ _ => re_op o_add s_add (re_var 5) (re_tup (ra_cons (re_getD hr.blk (re_var 3) (re_var 5)) (ra_nil)))) (by decide)) (ra_nil)))) (rss_nil)))
noncomputable def m_law_points : MS := mSeq (mRet (mBlt fSortSet (mCons (mLc (iTupD (mVar 0)) (gN 1) (mYes) (mCut (mVar 1) none (some (mC (.int 2)))) [1]) (mNil)))) (mNext)
noncomputable def f_law_points : DF := runF 2 m_law_points
theorem sc_law_points : FnScope ["score", "note"] ["score"] (defScope (top 18)) := ⟨rfl, rfl, rfl, by decide +kernel, rfl, by decide +kernel, by decide +kernel⟩
theorem ok_law_points (T : Tx K mg f fd) : FnG P w K mg base 1 (f 18) (fd 18) ["score"] (spD K 1 f_law_points) :=
  fng_of (k := 0) (N := ["score", "note"]) (m := m_law_points) T.d18 sc_law_points fun X hP hw hK hm hb hN hE hc hfn hxe hr => by
    obtain ⟨_, _, _, _, _, _, _, _, _, ⟨_, _⟩, _⟩ := X
    cases hP; cases hw; cases hK; cases hm; cases hb; cases hN; cases hE; cases hc
    have nd := (sc_law_points).nd
    exact rss_cons (rs_ret (re_sortSet hr rfl T.n_sorted T.n_set (ra_cons (re_lc (own := [("note", 1)]) rfl nd (ri_tup (re_var 0)) (blkOk_by (by dsimp only; decide +kernel)) (fun _ _ _ _ _ => rg_name nd (i := 1) rfl (.inl rfl) (.inr rfl)) (fun _ _ _ _ _ => rts_nil) (fun _ _ _ _ _ => re_cut (re_var 1) ro_none (ro_some (re_int))) (by decide)) (ra_nil)))) (rss_nil)
noncomputable def m_law_figure : MS := mSeq (mPar [3, 4, 5] (mCons (mLst (mNil)) (mCons (mOp dSub (mCall 2 f_law_draw (mCons (mVar 0) (mCons (mC (.int 9)) (mNil)))) (mC (.int 4))) (mCons (mOp dSub (mCall 2 f_law_draw (mCons (mVar 0) (mCons (mC (.int 90)) (mNil)))) (mC (.int 20))) (mNil))))) (mSeq (mFor (iRange1 (mCons (mVar 2) (mNil))) (gN 6) (mSeq (mSet 7 (mTup (mCons (mCall 2 f_law_draw (mCons (mVar 0) (mCons (mC (.int 8)) (mNil)))) (mCons (mOp dAdd (mC (.int 60)) (mCall 2 f_law_draw (mCons (mVar 0) (mCons (mC (.int 6)) (mNil))))) (mNil))))) (mSeq (mIf (mAnd (mB (mOp dNe (mVar 1) (mLst (mNil)))) (mB (mOp dGt (mCall 2 f_law_draw (mCons (mVar 0) (mCons (mC (.int 4)) (mNil)))) (mC (.int 0))))) (mSeq (mSet 7 (mCall 2 f_law_pick (mCons (mVar 0) (mCons (mVar 1) (mNil))))) (mNext)) (mNext)) (mSeq (mSet 7 (mTup (mCons (mOp dAdd (mOp dIdx (mVar 7) (mC (.int 0))) (mVar 4)) (mCons (mOp dSub (mOp dIdx (mVar 7) (mC (.int 1))) (mVar 5)) (mNil))))) (mSeq (mIf (mB (mOp dNinS (mVar 7) (mVar 3))) (mSeq (mDrop (mMeth 3 (mCons (mVar 7) (mNil)) fAppend)) (mNext)) (mNext)) (mNext)))))) (mSeq (mIf (mB (mOp dEq (mThaw 3 (mLc (iLstD (mVar 3)) (gN 7) (mB (mOp dNe (mOp dIdx (mVar 7) (mC (.int 0))) (mOp dIdx (mOp dIdx (mVar 3) (mC (.int 0))) (mC (.int 0))))) (mC (.int 1)) [7])) (mLst (mNil)))) (mSeq (mDrop (mMeth 3 (mCons (mTup (mCons (mOp dAdd (mOp dAdd (mOp dIdx (mOp dIdx (mVar 3) (mC (.int 0))) (mC (.int 0))) (mC (.int 1))) (mCall 2 f_law_draw (mCons (mVar 0) (mCons (mC (.int 2)) (mNil))))) (mCons (mOp dAdd (mOp dIdx (mOp dIdx (mVar 3) (mC (.int 0))) (mC (.int 1))) (mCall 2 f_law_draw (mCons (mVar 0) (mCons (mC (.int 3)) (mNil))))) (mNil)))) (mNil)) fAppend)) (mNext)) (mNext)) (mSeq (mRet (mBlt fTup (mCons (mBlt fSorted (mCons (mVar 3) (mNil))) (mNil)))) (mNext))))
noncomputable def f_law_figure : DF := runF 8 m_law_figure
theorem sc_law_figure : FnScope ["deck", "points", "many", "found", "far", "high", "turn", "point"] ["deck", "points", "many"] (defScope (top 19)) := ⟨rfl, rfl, rfl, by decide +kernel, rfl, by decide +kernel, by decide +kernel⟩
theorem ok_law_figure (T : Tx K mg f fd) : FnG P w K mg base 3 (f 19) (fd 19) ["deck", "points", "many"] (spD K 3 f_law_figure) :=
  fng_of (k := 2) (N := ["deck", "points", "many", "found", "far", "high", "turn", "point"]) (m := m_law_figure) T.d19 sc_law_figure fun X hP hw hK hm hb hN hE hc hfn hxe hr => by
    obtain ⟨_, _, _, _, _, _, _, _, _, ⟨_, _⟩, _⟩ := X
    cases hP; cases hw; cases hK; cases hm; cases hb; cases hN; cases hE; cases hc
    have nd := (sc_law_figure).nd
    exact rss_cons (rs_parC3 3 4 5 rfl nd (ra_cons (re_lst (ra_nil)) (ra_cons (re_op op_sub s_sub (rc_call ((ok_law_draw T).up (by decide)) hr T.m15 T.k15 T.b15 (ra_cons (re_var 0) (ra_cons (re_int) (ra_nil)))) (re_int)) (ra_cons (re_op op_sub s_sub (rc_call ((ok_law_draw T).up (by decide)) hr T.m15 T.k15 T.b15 (ra_cons (re_var 0) (ra_cons (re_int) (ra_nil)))) (re_int)) (ra_nil)))) rfl rfl rfl (.inr rfl) (.inl rfl) (.inl rfl) (.inl (hfn _)) (.inl (hfn _)) (.inl (hfn _))) (rss_cons (rs_for (fun e s h => absurd h (hxe e s)) rfl (ri_range1 rfl T.n_range (ra_cons (re_var 2) (ra_nil))) (rg_name nd (i := 6) rfl (.inl rfl) (.inl (hfn _))) (rss_cons (rs_set nd (i := 7) rfl (.inl rfl) (re_tup (ra_cons (rc_call ((ok_law_draw T).up (by decide)) hr T.m15 T.k15 T.b15 (ra_cons (re_var 0) (ra_cons (re_int) (ra_nil)))) (ra_cons (re_op o_add s_add (re_int) (rc_call ((ok_law_draw T).up (by decide)) hr T.m15 T.k15 T.b15 (ra_cons (re_var 0) (ra_cons (re_int) (ra_nil))))) (ra_nil)))) (hf := .inl (hfn _))) (rss_cons (rs_if (RW.rt (rw_and (rt_cmp (o_neq hr) s_ne (re_var 1) (re_lst (ra_nil)) (nomark _)) (rw_and1 (rt_cmp (o_gt hr) s_gt (rc_call ((ok_law_draw T).up (by decide)) hr T.m15 T.k15 T.b15 (ra_cons (re_var 0) (ra_cons (re_int) (ra_nil)))) (re_int) (nomark _))))) (rss_cons (rs_set nd (i := 7) rfl (.inl rfl) (rc_call ((ok_law_pick T).up (by decide)) hr T.m16 T.k16 T.b16 (ra_cons (re_var 0) (ra_cons (re_var 1) (ra_nil)))) (hf := .inl (hfn _))) (rss_nil)) (rss_nil)) (rss_cons (rs_set nd (i := 7) rfl (.inl rfl) (re_tup (ra_cons (re_op o_add s_add (re_idx (re_var 7) (re_int)) (re_var 4)) (ra_cons (re_op op_sub s_sub (re_idx (re_var 7) (re_int)) (re_var 5)) (ra_nil)))) (hf := .inl (hfn _))) (rss_cons (rs_if (rt_cmp (o_ninS hr) s_ninS (re_var 7) (re_var 3) (by rfl)) (rss_cons (rs_expr (re_append 3 (ra_cons (re_var 7) (ra_nil)))) (rss_nil)) (rss_nil)) (rss_nil)))))) (rss_cons (rs_if (rt_cmp (o_eqq hr) s_eq (re_thaw 3 (re_lc (own := [("point", 7)]) rfl nd (ri_lst (re_var 3)) (blkOk_by (by dsimp only; decide +kernel)) (fun _ _ _ _ _ => rg_name nd (i := 7) rfl (.inl rfl) (.inr rfl)) (fun _ _ _ _ _ => rts_one (rt_cmp (o_neq hr.blk) s_ne (re_idx (re_var 7) (re_int)) (re_idx (re_idx (re_var 3) (re_int)) (re_int)) (nomark _))) (fun _ _ _ _ _ => re_int) (by decide))) (re_lst (ra_nil)) (nomark _)) (rss_cons (rs_expr (re_append 3 (ra_cons (re_tup (ra_cons (re_op o_add s_add (re_op o_add s_add (re_idx (re_idx (re_var 3) (re_int)) (re_int)) (re_int)) (rc_call ((ok_law_draw T).up (by decide)) hr T.m15 T.k15 T.b15 (ra_cons (re_var 0) (ra_cons (re_int) (ra_nil))))) (ra_cons (re_op o_add s_add (re_idx (re_idx (re_var 3) (re_int)) (re_int)) (rc_call ((ok_law_draw T).up (by decide)) hr T.m15 T.k15 T.b15 (ra_cons (re_var 0) (ra_cons (re_int) (ra_nil))))) (ra_nil)))) (ra_nil)))) (rss_nil)) (rss_nil)) (rss_cons (rs_ret (re_tuple T.n_tuple (ra_cons (re_sorted T.n_sorted (ra_cons (re_var 3) (ra_nil))) (ra_nil)))) (rss_nil))))
noncomputable def m_law_ratio : MS := mSeq (mPar [2, 3] (mCons (mBlt fAbs (mCons (mVar 0) (mNil))) (mCons (mBlt fAbs (mCons (mVar 1) (mNil))) (mNil)))) (mSeq (mWhile (mB (mOp dGt (mVar 3) (mC (.int 0)))) (mSeq (mPar [2, 3] (mCons (mVar 3) (mCons (mOp dMod (mBlt fInt (mCons (mVar 2) (mNil))) (mVar 3)) (mNil)))) (mNext))) (mSeq (mSet 4 (mIte (mB (mOp dGt (mVar 1) (mC (.int 0)))) (mC (.int 1)) (mUn dNeg (mC (.int 1))))) (mSeq (mRet (mTup (mCons (mOp dFdiv (mOp dMul (mVar 4) (mVar 0)) (mVar 2)) (mCons (mOp dFdiv (mOp dMul (mVar 4) (mVar 1)) (mVar 2)) (mNil))))) (mNext))))
noncomputable def f_law_ratio : DF := runF 5 m_law_ratio
theorem sc_law_ratio : FnScope ["above", "below", "one", "two", "sign"] ["above", "below"] (defScope (top 20)) := ⟨rfl, rfl, rfl, by decide +kernel, rfl, by decide +kernel, by decide +kernel⟩
theorem ok_law_ratio (T : Tx K mg f fd) : FnG P w K mg base 1 (f 20) (fd 20) ["above", "below"] (spD K 2 f_law_ratio) :=
  fng_of (k := 0) (N := ["above", "below", "one", "two", "sign"]) (m := m_law_ratio) T.d20 sc_law_ratio fun X hP hw hK hm hb hN hE hc hfn hxe hr => by
    obtain ⟨_, _, _, _, _, _, _, _, _, ⟨_, _⟩, _⟩ := X
    cases hP; cases hw; cases hK; cases hm; cases hb; cases hN; cases hE; cases hc
    have nd := (sc_law_ratio).nd
    exact rss_cons (rs_par 2 3 rfl nd (ra_cons (re_abs T.n_abs (ra_cons (re_var 0) (ra_nil))) (ra_cons (re_abs T.n_abs (ra_cons (re_var 1) (ra_nil))) (ra_nil)))) (rss_cons (rs_while (fun e s h => absurd h (hxe e s)) (rt_cmp (o_gt hr) s_gt (re_var 3) (re_int) (nomark _)) (rss_cons (rs_par 2 3 rfl nd (ra_cons (re_var 3) (ra_cons (re_op op_mod s_mod (re_int1 T.n_int (ra_cons (re_var 2) (ra_nil))) (re_var 3)) (ra_nil)))) (rss_nil))) (rss_cons (rs_set nd (i := 4) rfl (.inl rfl) (re_ite (rt_cmp (o_gt hr) s_gt (re_var 1) (re_int) (nomark _)) (re_int) (re_neg (re_int))) (hf := .inl (hfn _))) (rss_cons (rs_ret (re_tup (ra_cons (re_op op_fdivC s_fdiv (re_op op_mulB s_mul (re_var 4) (re_var 0)) (re_var 2)) (ra_cons (re_op op_fdivC s_fdiv (re_op op_mulB s_mul (re_var 4) (re_var 1)) (re_var 2)) (ra_nil))))) (rss_nil))))
noncomputable def m_law_lands : MS := mSeq (mAsg (mVar 0) (gT 4 (gsC (gN 2) (gsC (gN 3) (gsC (gN 4) (gsC (gN 5) (gs0))))))) (mSeq (mPar [6, 7] (mCons (mOp dAdd (mOp dMul (mOp dMul (mOp dIdx (mVar 2) (mC (.int 0))) (mOp dIdx (mVar 1) (mC (.int 0)))) (mOp dIdx (mVar 3) (mC (.int 1)))) (mOp dMul (mOp dIdx (mVar 3) (mC (.int 0))) (mOp dIdx (mVar 2) (mC (.int 1))))) (mCons (mOp dMul (mOp dIdx (mVar 2) (mC (.int 1))) (mOp dIdx (mVar 3) (mC (.int 1)))) (mNil)))) (mSeq (mSet 8 (mTup (mCons (mOp dFdiv (mVar 6) (mVar 7)) (mCons (mOp dAdd (mOp dMul (mVar 4) (mOp dIdx (mVar 1) (mC (.int 1)))) (mVar 5)) (mNil))))) (mSeq (mIf (mOr (mB (mOp dNe (mOp dMod (mBlt fInt (mCons (mVar 6) (mNil))) (mVar 7)) (mC (.int 0)))) (mOr (mB (mOp dGt (mBlt fAbs (mCons (mOp dIdx (mVar 8) (mC (.int 0))) (mNil))) (mC (.int 9999)))) (mB (mOp dGt (mBlt fAbs (mCons (mOp dIdx (mVar 8) (mC (.int 1))) (mNil))) (mC (.int 9999)))))) (mSeq (mRet (mC .none)) (mNext)) (mNext)) (mSeq (mRet (mVar 8)) (mNext)))))
noncomputable def f_law_lands : DF := runF 9 m_law_lands
theorem sc_law_lands : FnScope ["move", "point", "q", "t", "e", "v", "above", "below", "goal"] ["move", "point"] (defScope (top 21)) := ⟨rfl, rfl, rfl, by decide +kernel, rfl, by decide +kernel, by decide +kernel⟩
theorem ok_law_lands (T : Tx K mg f fd) : FnG P w K mg base 1 (f 21) (fd 21) ["move", "point"] (spD K 2 f_law_lands) :=
  fng_of (k := 0) (N := ["move", "point", "q", "t", "e", "v", "above", "below", "goal"]) (m := m_law_lands) T.d21 sc_law_lands fun X hP hw hK hm hb hN hE hc hfn hxe hr => by
    obtain ⟨_, _, _, _, _, _, _, _, _, ⟨_, _⟩, _⟩ := X
    cases hP; cases hw; cases hK; cases hm; cases hb; cases hN; cases hE; cases hc
    have nd := (sc_law_lands).nd
    exact rss_cons (rs_asg (re_var 0) (rg_tup (rgs_cons (rg_name nd (i := 2) rfl (.inl rfl) (.inl (hfn _))) (rgs_cons (rg_name nd (i := 3) rfl (.inl rfl) (.inl (hfn _))) (rgs_cons (rg_name nd (i := 4) rfl (.inl rfl) (.inl (hfn _))) (rgs_cons (rg_name nd (i := 5) rfl (.inl rfl) (.inl (hfn _))) (rgs_nil))))) rfl rfl rfl)) (rss_cons (rs_par 6 7 rfl nd (ra_cons (re_op o_add s_add (re_op op_mulB s_mul (re_op op_mulB s_mul (re_idx (re_var 2) (re_int)) (re_idx (re_var 1) (re_int))) (re_idx (re_var 3) (re_int))) (re_op op_mulB s_mul (re_idx (re_var 3) (re_int)) (re_idx (re_var 2) (re_int)))) (ra_cons (re_op op_mulB s_mul (re_idx (re_var 2) (re_int)) (re_idx (re_var 3) (re_int))) (ra_nil)))) (rss_cons (rs_set nd (i := 8) rfl (.inl rfl) (re_tup (ra_cons (re_op op_fdivC s_fdiv (re_var 6) (re_var 7)) (ra_cons (re_op o_add s_add (re_op op_mulB s_mul (re_var 4) (re_idx (re_var 1) (re_int))) (re_var 5)) (ra_nil)))) (hf := .inl (hfn _))) (rss_cons (rs_if (RW.rt (rw_or (rt_cmp (o_neq hr) s_ne (re_op op_mod s_mod (re_int1 T.n_int (ra_cons (re_var 6) (ra_nil))) (re_var 7)) (re_int) (nomark _)) (rw_or (rt_cmp (o_gt hr) s_gt (re_abs T.n_abs (ra_cons (re_idx (re_var 8) (re_int)) (ra_nil))) (re_int) (nomark _)) (rw_or1 (rt_cmp (o_gt hr) s_gt (re_abs T.n_abs (ra_cons (re_idx (re_var 8) (re_int)) (ra_nil))) (re_int) (nomark _)))))) (rss_cons (rs_ret (re_non)) (rss_nil)) (rss_nil)) (rss_cons (rs_ret (re_var 8)) (rss_nil)))))
noncomputable def m_law_hits : MS := mSeq (mRet (mBlt fTup (mCons (mLc (iTupD (mVar 1)) (gN 3) (mB (mOp dInS (mCall 2 f_law_lands (mCons (mVar 2) (mCons (mVar 3) (mNil)))) (mVar 0))) (mVar 3) [3]) (mNil)))) (mNext)
noncomputable def f_law_hits : DF := runF 4 m_law_hits
theorem sc_law_hits : FnScope ["points", "figure", "move", "point"] ["points", "figure", "move"] (defScope (top 22)) := ⟨rfl, rfl, rfl, by decide +kernel, rfl, by decide +kernel, by decide +kernel⟩
theorem ok_law_hits (T : Tx K mg f fd) : FnG P w K mg base 2 (f 22) (fd 22) ["points", "figure", "move"] (spD K 3 f_law_hits) :=
  fng_of (k := 1) (N := ["points", "figure", "move", "point"]) (m := m_law_hits) T.d22 sc_law_hits fun X hP hw hK hm hb hN hE hc hfn hxe hr => by
    obtain ⟨_, _, _, _, _, _, _, _, _, ⟨_, _⟩, _⟩ := X
    cases hP; cases hw; cases hK; cases hm; cases hb; cases hN; cases hE; cases hc
    have nd := (sc_law_hits).nd
    exact rss_cons (rs_ret (re_tuple T.n_tuple (ra_cons (re_lc (own := [("point", 3)]) rfl nd (ri_tup (re_var 1)) (blkOk_by (by dsimp only; decide +kernel)) (fun _ _ _ _ _ => rg_name nd (i := 3) rfl (.inl rfl) (.inr rfl)) (fun _ _ _ _ _ => rts_one (rt_cmp (o_inS hr.blk) s_inS (rc_call ((ok_law_lands T).up (by decide)) hr.blk T.m21 T.k21 T.b21 (ra_cons (re_var 2) (ra_cons (re_var 3) (ra_nil)))) (re_var 0) (by rfl))) (fun _ _ _ _ _ => re_var 3) (by decide)) (ra_nil)))) (rss_nil)
noncomputable def m_law_move : MS := mSeq (mSet 3 (mCall 2 f_law_pick (mCons (mVar 0) (mCons (mLst (mCons (mTup (mCons (mC (.int 1)) (mCons (mC (.int 1)) (mNil)))) (mCons (mTup (mCons (mC (.int 1)) (mCons (mC (.int 1)) (mNil)))) (mCons (mTup (mCons (mUn dNeg (mC (.int 1))) (mCons (mC (.int 1)) (mNil)))) (mCons (mTup (mCons (mC (.int 2)) (mCons (mC (.int 1)) (mNil)))) (mCons (mTup (mCons (mC (.int 1)) (mCons (mC (.int 2)) (mNil)))) (mCons (mTup (mCons (mUn dNeg (mC (.int 1))) (mCons (mC (.int 2)) (mNil)))) (mCons (mTup (mCons (mC (.int 3)) (mCons (mC (.int 2)) (mNil)))) (mCons (mTup (mCons (mUn dNeg (mC (.int 2))) (mCons (mC (.int 3)) (mNil)))) (mCons (mTup (mCons (mC (.int 1)) (mCons (mC (.int 3)) (mNil)))) (mCons (mTup (mCons (mC (.int 7)) (mCons (mC (.int 5)) (mNil)))) (mNil)))))))))))) (mNil))))) (mSeq (mPar [4, 5, 6] (mCons (mCall 2 f_law_pick (mCons (mVar 0) (mCons (mLst (mCons (mC (.int 1)) (mCons (mC (.int 1)) (mCons (mUn dNeg (mC (.int 1))) (mNil))))) (mNil)))) (mCons (mCall 2 f_law_draw (mCons (mVar 0) (mCons (mC (.int 6)) (mNil)))) (mCons (mCall 2 f_law_pick (mCons (mVar 0) (mCons (mVar 2) (mNil)))) (mNil))))) (mSeq (mSet 7 (mIte (mB (mOp dNe (mVar 1) (mLst (mNil)))) (mCall 2 f_law_pick (mCons (mVar 0) (mCons (mVar 1) (mNil)))) (mTup (mCons (mC (.int 3)) (mCons (mC (.int 62)) (mNil)))))) (mSeq (mIf (mB (mOp dEq (mVar 5) (mC (.int 0)))) (mSeq (mSet 8 (mCall 2 f_law_ratio (mCons (mOp dSub (mCall 2 f_law_draw (mCons (mVar 0) (mCons (mC (.int 60)) (mNil)))) (mC (.int 30))) (mCons (mOp dAdd (mC (.int 1)) (mCall 2 f_law_draw (mCons (mVar 0) (mCons (mC (.int 6)) (mNil))))) (mNil))))) (mSeq (mRet (mTup (mCons (mVar 3) (mCons (mVar 8) (mCons (mVar 4) (mCons (mOp dSub (mCall 2 f_law_draw (mCons (mVar 0) (mCons (mC (.int 140)) (mNil)))) (mC (.int 10))) (mNil))))))) (mNext))) (mNext)) (mSeq (mIf (mB (mOp dEq (mVar 5) (mC (.int 1)))) (mSeq (mRet (mTup (mCons (mVar 3) (mCons (mTup (mCons (mCall 2 f_law_pick (mCons (mVar 0) (mCons (mLst (mCons (mC (.int 9999)) (mCons (mUn dNeg (mC (.int 9999))) (mCons (mC (.int 9990)) (mCons (mOp dPow (mC (.int 10)) (mC (.int 20))) (mNil)))))) (mNil)))) (mCons (mC (.int 1)) (mNil)))) (mCons (mVar 4) (mCons (mCall 2 f_law_pick (mCons (mVar 0) (mCons (mLst (mCons (mC (.int 0)) (mCons (mC (.int 9999)) (mCons (mUn dNeg (mC (.int 9950))) (mCons (mOp dPow (mC (.int 10)) (mC (.int 30))) (mNil)))))) (mNil)))) (mNil))))))) (mNext)) (mNext)) (mSeq (mRet (mTup (mCons (mVar 3) (mCons (mCall 2 f_law_ratio (mCons (mOp dSub (mOp dMul (mOp dIdx (mVar 7) (mC (.int 0))) (mOp dIdx (mVar 3) (mC (.int 1)))) (mOp dMul (mOp dIdx (mVar 3) (mC (.int 0))) (mOp dIdx (mVar 6) (mC (.int 0))))) (mCons (mOp dIdx (mVar 3) (mC (.int 1))) (mNil)))) (mCons (mVar 4) (mCons (mOp dSub (mOp dIdx (mVar 7) (mC (.int 1))) (mOp dMul (mVar 4) (mOp dIdx (mVar 6) (mC (.int 1))))) (mNil))))))) (mNext))))))
noncomputable def f_law_move : DF := runF 9 m_law_move
theorem sc_law_move : FnScope ["deck", "points", "figure", "q", "e", "way", "point", "goal", "t"] ["deck", "points", "figure"] (defScope (top 23)) := ⟨rfl, rfl, rfl, by decide +kernel, rfl, by decide +kernel, by decide +kernel⟩
theorem ok_law_move (T : Tx K mg f fd) : FnG P w K mg base 3 (f 23) (fd 23) ["deck", "points", "figure"] (spD K 3 f_law_move) :=
  fng_of (k := 2) (N := ["deck", "points", "figure", "q", "e", "way", "point", "goal", "t"]) (m := m_law_move) T.d23 sc_law_move fun X hP hw hK hm hb hN hE hc hfn hxe hr => by
    obtain ⟨_, _, _, _, _, _, _, _, _, ⟨_, _⟩, _⟩ := X
    cases hP; cases hw; cases hK; cases hm; cases hb; cases hN; cases hE; cases hc
    have nd := (sc_law_move).nd
    exact rss_cons (rs_set nd (i := 3) rfl (.inl rfl) (rc_call ((ok_law_pick T).up (by decide)) hr T.m16 T.k16 T.b16 (ra_cons (re_var 0) (ra_cons (re_lst (ra_cons (re_tup (ra_cons (re_int) (ra_cons (re_int) (ra_nil)))) (ra_cons (re_tup (ra_cons (re_int) (ra_cons (re_int) (ra_nil)))) (ra_cons (re_tup (ra_cons (re_neg (re_int)) (ra_cons (re_int) (ra_nil)))) (ra_cons (re_tup (ra_cons (re_int) (ra_cons (re_int) (ra_nil)))) (ra_cons (re_tup (ra_cons (re_int) (ra_cons (re_int) (ra_nil)))) (ra_cons (re_tup (ra_cons (re_neg (re_int)) (ra_cons (re_int) (ra_nil)))) (ra_cons (re_tup (ra_cons (re_int) (ra_cons (re_int) (ra_nil)))) (ra_cons (re_tup (ra_cons (re_neg (re_int)) (ra_cons (re_int) (ra_nil)))) (ra_cons (re_tup (ra_cons (re_int) (ra_cons (re_int) (ra_nil)))) (ra_cons (re_tup (ra_cons (re_int) (ra_cons (re_int) (ra_nil)))) (ra_nil)))))))))))) (ra_nil)))) (hf := .inl (hfn _))) (rss_cons (rs_par3 4 5 6 rfl nd (ra_cons (rc_call ((ok_law_pick T).up (by decide)) hr T.m16 T.k16 T.b16 (ra_cons (re_var 0) (ra_cons (re_lst (ra_cons (re_int) (ra_cons (re_int) (ra_cons (re_neg (re_int)) (ra_nil))))) (ra_nil)))) (ra_cons (rc_call ((ok_law_draw T).up (by decide)) hr T.m15 T.k15 T.b15 (ra_cons (re_var 0) (ra_cons (re_int) (ra_nil)))) (ra_cons (rc_call ((ok_law_pick T).up (by decide)) hr T.m16 T.k16 T.b16 (ra_cons (re_var 0) (ra_cons (re_var 2) (ra_nil)))) (ra_nil))))) (rss_cons (rs_set nd (i := 7) rfl (.inl rfl) (re_ite (rt_cmp (o_neq hr) s_ne (re_var 1) (re_lst (ra_nil)) (nomark _)) (rc_call ((ok_law_pick T).up (by decide)) hr T.m16 T.k16 T.b16 (ra_cons (re_var 0) (ra_cons (re_var 1) (ra_nil)))) (re_tup (ra_cons (re_int) (ra_cons (re_int) (ra_nil))))) (hf := .inl (hfn _))) (rss_cons (rs_if (rt_cmp (o_eqq hr) s_eq (re_var 5) (re_int) (nomark _)) (rss_cons (rs_set nd (i := 8) rfl (.inl rfl) (rc_call ((ok_law_ratio T).up (by decide)) hr T.m20 T.k20 T.b20 (ra_cons (re_op op_sub s_sub (rc_call ((ok_law_draw T).up (by decide)) hr T.m15 T.k15 T.b15 (ra_cons (re_var 0) (ra_cons (re_int) (ra_nil)))) (re_int)) (ra_cons (re_op o_add s_add (re_int) (rc_call ((ok_law_draw T).up (by decide)) hr T.m15 T.k15 T.b15 (ra_cons (re_var 0) (ra_cons (re_int) (ra_nil))))) (ra_nil)))) (hf := .inl (hfn _))) (rss_cons (rs_ret (re_tup (ra_cons (re_var 3) (ra_cons (re_var 8) (ra_cons (re_var 4) (ra_cons (re_op op_sub s_sub (rc_call ((ok_law_draw T).up (by decide)) hr T.m15 T.k15 T.b15 (ra_cons (re_var 0) (ra_cons (re_int) (ra_nil)))) (re_int)) (ra_nil))))))) (rss_nil))) (rss_nil)) (rss_cons (rs_if (rt_cmp (o_eqq hr) s_eq (re_var 5) (re_int) (nomark _)) (rss_cons (rs_ret (re_tup (ra_cons (re_var 3) (ra_cons (re_tup (ra_cons (rc_call ((ok_law_pick T).up (by decide)) hr T.m16 T.k16 T.b16 (ra_cons (re_var 0) (ra_cons (re_lst (ra_cons (re_int) (ra_cons (re_neg (re_int)) (ra_cons (re_int) (ra_cons (re_op op_pow s_pow (re_int) (re_int)) (ra_nil)))))) (ra_nil)))) (ra_cons (re_int) (ra_nil)))) (ra_cons (re_var 4) (ra_cons (rc_call ((ok_law_pick T).up (by decide)) hr T.m16 T.k16 T.b16 (ra_cons (re_var 0) (ra_cons (re_lst (ra_cons (re_int) (ra_cons (re_int) (ra_cons (re_neg (re_int)) (ra_cons (re_op op_pow s_pow (re_int) (re_int)) (ra_nil)))))) (ra_nil)))) (ra_nil))))))) (rss_nil)) (rss_nil)) (rss_cons (rs_ret (re_tup (ra_cons (re_var 3) (ra_cons (rc_call ((ok_law_ratio T).up (by decide)) hr T.m20 T.k20 T.b20 (ra_cons (re_op op_sub s_sub (re_op op_mulB s_mul (re_idx (re_var 7) (re_int)) (re_idx (re_var 3) (re_int))) (re_op op_mulB s_mul (re_idx (re_var 3) (re_int)) (re_idx (re_var 6) (re_int)))) (ra_cons (re_idx (re_var 3) (re_int)) (ra_nil)))) (ra_cons (re_var 4) (ra_cons (re_op op_sub s_sub (re_idx (re_var 7) (re_int)) (re_op op_mulB s_mul (re_var 4) (re_idx (re_var 6) (re_int)))) (ra_nil))))))) (rss_nil))))))
noncomputable def m_law : MS := mSeq (mSet 1 (mCall 1 f_law_deck (mCons (mVar 0) (mNil)))) (mSeq (mFor (iRange1 (mCons (mC (.int 4)) (mNil))) (gN 2) (mSeq (mSet 3 (mCall 3 f_law_score (mCons (mVar 1) (mCons (mCall 2 f_law_pick (mCons (mVar 1) (mCons (mLst (mCons (mC (.int 0)) (mCons (mC (.int 3)) (mCons (mC (.int 7)) (mCons (mC (.int 10)) (mNil)))))) (mNil)))) (mCons (mC (.int 8)) (mNil)))))) (mSeq (mSet 4 (mCall 1 f_law_points (mCons (mVar 3) (mNil)))) (mSeq (mSet 5 (mCall 3 f_law_figure (mCons (mVar 1) (mCons (mVar 4) (mCons (mOp dAdd (mC (.int 2)) (mCall 2 f_law_draw (mCons (mVar 1) (mCons (mC (.int 4)) (mNil))))) (mNil)))))) (mSeq (mSet 6 (mBlt fRepr (mCons (mLst (mCons (mVar 3) (mCons (mVar 5) (mNil)))) (mNil)))) (mSeq (mFor (iRange1 (mCons (mC (.int 4)) (mNil))) (gN 7) (mSeq (mSet 8 (mCall 3 f_law_move (mCons (mVar 1) (mCons (mVar 4) (mCons (mVar 5) (mNil)))))) (mSeq (mSet 9 (mCall 3 f_law_hits (mCons (mVar 4) (mCons (mVar 5) (mCons (mVar 8) (mNil)))))) (mSeq (mSet 10 (mLst (mCons (mCall 3 f_hits (mCons (mVar 3) (mCons (mVar 5) (mCons (mVar 8) (mNil))))) (mCons (mCallK 3 f_hits 0 3 [1, 2, 0] mNil (mCons (mVar 8) (mCons (mVar 3) (mCons (mVar 5) (mNil))))) (mNil))))) (mSeq (mIf (mB (mOp dNe (mBlt fRepr (mCons (mVar 10) (mNil))) (mBlt fRepr (mCons (mLst (mCons (mVar 9) (mCons (mVar 9) (mNil)))) (mNil))))) (mSeq (mRet (mC (.bool false))) (mNext)) (mNext)) (mNext)))))) (mSeq (mIf (mB (mOp dNe (mBlt fRepr (mCons (mLst (mCons (mVar 3) (mCons (mVar 5) (mNil)))) (mNil))) (mVar 6))) (mSeq (mRet (mC (.bool false))) (mNext)) (mNext)) (mNext)))))))) (mSeq (mRet (mC (.bool true))) (mNext)))
noncomputable def f_law : DF := runF 11 m_law
theorem sc_law : FnScope ["script", "deck", "turn", "score", "points", "figure", "known", "again", "move", "due", "told"] ["script"] (defScope (top 24)) := ⟨rfl, rfl, rfl, by decide +kernel, rfl, by decide +kernel, by decide +kernel⟩
theorem ok_law (T : Tx K mg f fd) : FnG P w K mg base 6 (f 24) (fd 24) ["script"] (spD K 1 f_law) :=
  fng_of (k := 5) (N := ["script", "deck", "turn", "score", "points", "figure", "known", "again", "move", "due", "told"]) (m := m_law) T.d24 sc_law fun X hP hw hK hm hb hN hE hc hfn hxe hr => by
    obtain ⟨_, _, _, _, _, _, _, _, _, ⟨_, _⟩, _⟩ := X
    cases hP; cases hw; cases hK; cases hm; cases hb; cases hN; cases hE; cases hc
    have nd := (sc_law).nd
    exact rss_cons (rs_set nd (i := 1) rfl (.inl rfl) (rc_call ((ok_law_deck T).up (by decide)) hr T.m14 T.k14 T.b14 (ra_cons (re_var 0) (ra_nil))) (hf := .inl (hfn _))) (rss_cons (rs_for (fun e s h => absurd h (hxe e s)) rfl (ri_range1 rfl T.n_range (ra_cons (re_int) (ra_nil))) (rg_name nd (i := 2) rfl (.inl rfl) (.inl (hfn _))) (rss_cons (rs_set nd (i := 3) rfl (.inl rfl) (rc_call ((ok_law_score T).up (by decide)) hr T.m17 T.k17 T.b17 (ra_cons (re_var 1) (ra_cons (rc_call ((ok_law_pick T).up (by decide)) hr T.m16 T.k16 T.b16 (ra_cons (re_var 1) (ra_cons (re_lst (ra_cons (re_int) (ra_cons (re_int) (ra_cons (re_int) (ra_cons (re_int) (ra_nil)))))) (ra_nil)))) (ra_cons (re_int) (ra_nil))))) (hf := .inl (hfn _))) (rss_cons (rs_set nd (i := 4) rfl (.inl rfl) (rc_call ((ok_law_points T).up (by decide)) hr T.m18 T.k18 T.b18 (ra_cons (re_var 3) (ra_nil))) (hf := .inl (hfn _))) (rss_cons (rs_set nd (i := 5) rfl (.inl rfl) (rc_call ((ok_law_figure T).up (by decide)) hr T.m19 T.k19 T.b19 (ra_cons (re_var 1) (ra_cons (re_var 4) (ra_cons (re_op o_add s_add (re_int) (rc_call ((ok_law_draw T).up (by decide)) hr T.m15 T.k15 T.b15 (ra_cons (re_var 1) (ra_cons (re_int) (ra_nil))))) (ra_nil))))) (hf := .inl (hfn _))) (rss_cons (rs_set nd (i := 6) rfl (.inl rfl) (re_repr hr T.n_repr (ra_cons (re_lst (ra_cons (re_var 3) (ra_cons (re_var 5) (ra_nil)))) (ra_nil))) (hf := .inl (hfn _))) (rss_cons (rs_for (fun e s h => absurd h (hxe e s)) rfl (ri_range1 rfl T.n_range (ra_cons (re_int) (ra_nil))) (rg_name nd (i := 7) rfl (.inl rfl) (.inl (hfn _))) (rss_cons (rs_set nd (i := 8) rfl (.inl rfl) (rc_call ((ok_law_move T).up (by decide)) hr T.m23 T.k23 T.b23 (ra_cons (re_var 1) (ra_cons (re_var 4) (ra_cons (re_var 5) (ra_nil))))) (hf := .inl (hfn _))) (rss_cons (rs_set nd (i := 9) rfl (.inl rfl) (rc_call ((ok_law_hits T).up (by decide)) hr T.m22 T.k22 T.b22 (ra_cons (re_var 4) (ra_cons (re_var 5) (ra_cons (re_var 8) (ra_nil))))) (hf := .inl (hfn _))) (rss_cons (rs_set nd (i := 10) rfl (.inl rfl) (re_lst (ra_cons (rc_call ((ok_hits T).up (by decide)) hr T.m12 T.k12 T.b12 (ra_cons (re_var 3) (ra_cons (re_var 5) (ra_cons (re_var 8) (ra_nil))))) (ra_cons (rc_callK0 ((ok_hits T).up (by decide)) hr T.m12 T.k12 T.kb12_0_move_score_figure (rk_cons (re_var 8) (rk_cons (re_var 3) (rk_cons (re_var 5) (rk_nil))))) (ra_nil)))) (hf := .inl (hfn _))) (rss_cons (rs_if (rt_cmp (o_neq hr) s_ne (re_repr hr T.n_repr (ra_cons (re_var 10) (ra_nil))) (re_repr hr T.n_repr (ra_cons (re_lst (ra_cons (re_var 9) (ra_cons (re_var 9) (ra_nil)))) (ra_nil))) (nomark _)) (rss_cons (rs_ret (re_bl)) (rss_nil)) (rss_nil)) (rss_nil)))))) (rss_cons (rs_if (rt_cmp (o_neq hr) s_ne (re_repr hr T.n_repr (ra_cons (re_lst (ra_cons (re_var 3) (ra_cons (re_var 5) (ra_nil)))) (ra_nil))) (re_var 6) (nomark _)) (rss_cons (rs_ret (re_bl)) (rss_nil)) (rss_nil)) (rss_nil)))))))) (rss_cons (rs_ret (re_bl)) (rss_nil)))
end
theorem all_mk {P : Program} {w : World} {K : PySem.W.Frag} {h : Heap} {mg : Str → Option Value} {fa : Addr} (X : K.In h) (G : h.Ns mainGlobals mg) (hfa : mg "law" = some (.ref fa))
    {f1 f2 f3 f6 f8 f10 f12 f14 f15 f16 f17 f18 f19 f20 f21 f22 f23 f24 : Addr} {od1 an1 od2 an2 od3 an3 od6 an6 od8 an8 od10 an10 od12 an12 od14 an14 od15 an15 od16 an16 od17 an17 od18 an18 od19 an19 od20 an20 od21 an21 od22 an22 od23 an23 od24 an24 : Option Addr} {sl1 sl2 sl3 sl6 sl8 sl10 sl12 sl14 sl15 sl16 sl17 sl18 sl19 sl20 sl21 sl22 sl23 sl24 : Array (Option Value)} {oc1 kV1 dc1 pm1 cd1 ct1 oc2 kV2 dc2 pm2 cd2 ct2 oc3 kV3 dc3 pm3 cd3 ct3 oc6 kV6 dc6 pm6 cd6 ct6 oc8 kV8 dc8 pm8 cd8 ct8 oc10 kV10 dc10 pm10 cd10 ct10 oc12 kV12 dc12 pm12 cd12 ct12 oc14 kV14 dc14 pm14 cd14 ct14 oc15 kV15 dc15 pm15 cd15 ct15 oc16 kV16 dc16 pm16 cd16 ct16 oc17 kV17 dc17 pm17 cd17 ct17 oc18 kV18 dc18 pm18 cd18 ct18 oc19 kV19 dc19 pm19 cd19 ct19 oc20 kV20 dc20 pm20 cd20 ct20 oc21 kV21 dc21 pm21 cd21 ct21 oc22 kV22 dc22 pm22 cd22 ct22 oc23 kV23 dc23 pm23 cd23 ct23 oc24 kV24 dc24 pm24 cd24 ct24 : Value} {t_MAX_FAR : Tok}
    (a1 : PySem.W.nsIn K mainGlobals "is_integer" = some (some (.ref f1))) (l1 : K.lookup f1 = some ⟨oc1, od1, .func (PySem.W.fnOf "is_integer" "is_integer" (defArgs (top 1)) (defBody (top 1)) (defScope (top 1)) .none kV1 dc1 pm1 an1 cd1 ct1), sl1⟩) (c1 : PySem.W.codeIn K cd1 "is_integer" = true) (k1 : PySem.W.keepIn K (.ref f1) = true)
    (a2 : PySem.W.nsIn K mainGlobals "is_within" = some (some (.ref f2))) (l2 : K.lookup f2 = some ⟨oc2, od2, .func (PySem.W.fnOf "is_within" "is_within" (defArgs (top 2)) (defBody (top 2)) (defScope (top 2)) .none kV2 dc2 pm2 an2 cd2 ct2), sl2⟩) (c2 : PySem.W.codeIn K cd2 "is_within" = true) (k2 : PySem.W.keepIn K (.ref f2) = true)
    (a3 : PySem.W.nsIn K mainGlobals "is_tuple_of" = some (some (.ref f3))) (l3 : K.lookup f3 = some ⟨oc3, od3, .func (PySem.W.fnOf "is_tuple_of" "is_tuple_of" (defArgs (top 3)) (defBody (top 3)) (defScope (top 3)) .none kV3 dc3 pm3 an3 cd3 ct3), sl3⟩) (c3 : PySem.W.codeIn K cd3 "is_tuple_of" = true) (k3 : PySem.W.keepIn K (.ref f3) = true)
    (a6 : PySem.W.nsIn K mainGlobals "is_point" = some (some (.ref f6))) (l6 : K.lookup f6 = some ⟨oc6, od6, .func (PySem.W.fnOf "is_point" "is_point" (defArgs (top 6)) (defBody (top 6)) (defScope (top 6)) .none kV6 dc6 pm6 an6 cd6 ct6), sl6⟩) (c6 : PySem.W.codeIn K cd6 "is_point" = true) (k6 : PySem.W.keepIn K (.ref f6) = true)
    (a8 : PySem.W.nsIn K mainGlobals "lands" = some (some (.ref f8))) (l8 : K.lookup f8 = some ⟨oc8, od8, .func (PySem.W.fnOf "lands" "lands" (defArgs (top 8)) (defBody (top 8)) (defScope (top 8)) .none kV8 dc8 pm8 an8 cd8 ct8), sl8⟩) (c8 : PySem.W.codeIn K cd8 "lands" = true) (k8 : PySem.W.keepIn K (.ref f8) = true)
    (a10 : PySem.W.nsIn K mainGlobals "points_of" = some (some (.ref f10))) (l10 : K.lookup f10 = some ⟨oc10, od10, .func (PySem.W.fnOf "points_of" "points_of" (defArgs (top 10)) (defBody (top 10)) (defScope (top 10)) .none kV10 dc10 pm10 an10 cd10 ct10), sl10⟩) (c10 : PySem.W.codeIn K cd10 "points_of" = true) (k10 : PySem.W.keepIn K (.ref f10) = true)
    (a12 : PySem.W.nsIn K mainGlobals "hits" = some (some (.ref f12))) (l12 : K.lookup f12 = some ⟨oc12, od12, .func (PySem.W.fnOf "hits" "hits" (defArgs (top 12)) (defBody (top 12)) (defScope (top 12)) .none kV12 dc12 pm12 an12 cd12 ct12), sl12⟩) (c12 : PySem.W.codeIn K cd12 "hits" = true) (k12 : PySem.W.keepIn K (.ref f12) = true)
    (a14 : PySem.W.nsIn K mainGlobals "_law_deck" = some (some (.ref f14))) (l14 : K.lookup f14 = some ⟨oc14, od14, .func (PySem.W.fnOf "_law_deck" "_law_deck" (defArgs (top 14)) (defBody (top 14)) (defScope (top 14)) .none kV14 dc14 pm14 an14 cd14 ct14), sl14⟩) (c14 : PySem.W.codeIn K cd14 "_law_deck" = true) (k14 : PySem.W.keepIn K (.ref f14) = true)
    (a15 : PySem.W.nsIn K mainGlobals "_law_draw" = some (some (.ref f15))) (l15 : K.lookup f15 = some ⟨oc15, od15, .func (PySem.W.fnOf "_law_draw" "_law_draw" (defArgs (top 15)) (defBody (top 15)) (defScope (top 15)) .none kV15 dc15 pm15 an15 cd15 ct15), sl15⟩) (c15 : PySem.W.codeIn K cd15 "_law_draw" = true) (k15 : PySem.W.keepIn K (.ref f15) = true)
    (a16 : PySem.W.nsIn K mainGlobals "_law_pick" = some (some (.ref f16))) (l16 : K.lookup f16 = some ⟨oc16, od16, .func (PySem.W.fnOf "_law_pick" "_law_pick" (defArgs (top 16)) (defBody (top 16)) (defScope (top 16)) .none kV16 dc16 pm16 an16 cd16 ct16), sl16⟩) (c16 : PySem.W.codeIn K cd16 "_law_pick" = true) (k16 : PySem.W.keepIn K (.ref f16) = true)
    (a17 : PySem.W.nsIn K mainGlobals "_law_score" = some (some (.ref f17))) (l17 : K.lookup f17 = some ⟨oc17, od17, .func (PySem.W.fnOf "_law_score" "_law_score" (defArgs (top 17)) (defBody (top 17)) (defScope (top 17)) .none kV17 dc17 pm17 an17 cd17 ct17), sl17⟩) (c17 : PySem.W.codeIn K cd17 "_law_score" = true) (k17 : PySem.W.keepIn K (.ref f17) = true)
    (a18 : PySem.W.nsIn K mainGlobals "_law_points" = some (some (.ref f18))) (l18 : K.lookup f18 = some ⟨oc18, od18, .func (PySem.W.fnOf "_law_points" "_law_points" (defArgs (top 18)) (defBody (top 18)) (defScope (top 18)) .none kV18 dc18 pm18 an18 cd18 ct18), sl18⟩) (c18 : PySem.W.codeIn K cd18 "_law_points" = true) (k18 : PySem.W.keepIn K (.ref f18) = true)
    (a19 : PySem.W.nsIn K mainGlobals "_law_figure" = some (some (.ref f19))) (l19 : K.lookup f19 = some ⟨oc19, od19, .func (PySem.W.fnOf "_law_figure" "_law_figure" (defArgs (top 19)) (defBody (top 19)) (defScope (top 19)) .none kV19 dc19 pm19 an19 cd19 ct19), sl19⟩) (c19 : PySem.W.codeIn K cd19 "_law_figure" = true) (k19 : PySem.W.keepIn K (.ref f19) = true)
    (a20 : PySem.W.nsIn K mainGlobals "_law_ratio" = some (some (.ref f20))) (l20 : K.lookup f20 = some ⟨oc20, od20, .func (PySem.W.fnOf "_law_ratio" "_law_ratio" (defArgs (top 20)) (defBody (top 20)) (defScope (top 20)) .none kV20 dc20 pm20 an20 cd20 ct20), sl20⟩) (c20 : PySem.W.codeIn K cd20 "_law_ratio" = true) (k20 : PySem.W.keepIn K (.ref f20) = true)
    (a21 : PySem.W.nsIn K mainGlobals "_law_lands" = some (some (.ref f21))) (l21 : K.lookup f21 = some ⟨oc21, od21, .func (PySem.W.fnOf "_law_lands" "_law_lands" (defArgs (top 21)) (defBody (top 21)) (defScope (top 21)) .none kV21 dc21 pm21 an21 cd21 ct21), sl21⟩) (c21 : PySem.W.codeIn K cd21 "_law_lands" = true) (k21 : PySem.W.keepIn K (.ref f21) = true)
    (a22 : PySem.W.nsIn K mainGlobals "_law_hits" = some (some (.ref f22))) (l22 : K.lookup f22 = some ⟨oc22, od22, .func (PySem.W.fnOf "_law_hits" "_law_hits" (defArgs (top 22)) (defBody (top 22)) (defScope (top 22)) .none kV22 dc22 pm22 an22 cd22 ct22), sl22⟩) (c22 : PySem.W.codeIn K cd22 "_law_hits" = true) (k22 : PySem.W.keepIn K (.ref f22) = true)
    (a23 : PySem.W.nsIn K mainGlobals "_law_move" = some (some (.ref f23))) (l23 : K.lookup f23 = some ⟨oc23, od23, .func (PySem.W.fnOf "_law_move" "_law_move" (defArgs (top 23)) (defBody (top 23)) (defScope (top 23)) .none kV23 dc23 pm23 an23 cd23 ct23), sl23⟩) (c23 : PySem.W.codeIn K cd23 "_law_move" = true) (k23 : PySem.W.keepIn K (.ref f23) = true)
    (a24 : PySem.W.nsIn K mainGlobals "law" = some (some (.ref f24))) (l24 : K.lookup f24 = some ⟨oc24, od24, .func (PySem.W.fnOf "law" "law" (defArgs (top 24)) (defBody (top 24)) (defScope (top 24)) .none kV24 dc24 pm24 an24 cd24 ct24), sl24⟩) (c24 : PySem.W.codeIn K cd24 "law" = true) (k24 : PySem.W.keepIn K (.ref f24) = true)
    (z_abs : PySem.W.nsIn K mainGlobals "abs" = some none)
    (z_bool : PySem.W.nsIn K mainGlobals "bool" = some none)
    (z_divmod : PySem.W.nsIn K mainGlobals "divmod" = some none)
    (z_int : PySem.W.nsIn K mainGlobals "int" = some none)
    (z_isinstance : PySem.W.nsIn K mainGlobals "isinstance" = some none)
    (z_len : PySem.W.nsIn K mainGlobals "len" = some none)
    (z_list : PySem.W.nsIn K mainGlobals "list" = some none)
    (z_range : PySem.W.nsIn K mainGlobals "range" = some none)
    (z_repr : PySem.W.nsIn K mainGlobals "repr" = some none)
    (z_set : PySem.W.nsIn K mainGlobals "set" = some none)
    (z_sorted : PySem.W.nsIn K mainGlobals "sorted" = some none)
    (z_tuple : PySem.W.nsIn K mainGlobals "tuple" = some none)
    (q_MAX_FAR : PySem.W.nsIn K mainGlobals "MAX_FAR" = some (some (.int 9999 t_MAX_FAR)))
    : ∃ fd : FuncData, (∀ (s : Shared) (v : Value), BindsTo s fd ⟨[v], []⟩ [("script", v)]) ∧ ∀ base : Heap, K.In base → base.Ns mainGlobals mg → FnG P w K mg base 6 fa fd ["script"] (spD K 1 f_law) := by
  have e := hfa.symm.trans (PySem.W.mg_of X G a24)
  cases e
  have F1 := fun_mk (st := top 1) l1 c1 k1
  have B1 := F1.binds (ps := ["value"]) fun _ _ _ _ _ _ us hl => match us, hl with | [_], _ => rfl
  have F2 := fun_mk (st := top 2) l2 c2 k2
  have B2 := F2.binds (ps := ["value", "low", "high"]) fun _ _ _ _ _ _ us hl => match us, hl with | [_, _, _], _ => rfl
  have F3 := fun_mk (st := top 3) l3 c3 k3
  have B3 := F3.binds (ps := ["value", "many"]) fun _ _ _ _ _ _ us hl => match us, hl with | [_, _], _ => rfl
  have F6 := fun_mk (st := top 6) l6 c6 k6
  have B6 := F6.binds (ps := ["value"]) fun _ _ _ _ _ _ us hl => match us, hl with | [_], _ => rfl
  have F8 := fun_mk (st := top 8) l8 c8 k8
  have B8 := F8.binds (ps := ["move", "point"]) fun _ _ _ _ _ _ us hl => match us, hl with | [_, _], _ => rfl
  have F10 := fun_mk (st := top 10) l10 c10 k10
  have B10 := F10.binds (ps := ["score"]) fun _ _ _ _ _ _ us hl => match us, hl with | [_], _ => rfl
  have F12 := fun_mk (st := top 12) l12 c12 k12
  have B12 := F12.binds (ps := ["score", "figure", "move"]) fun _ _ _ _ _ _ us hl => match us, hl with | [_, _, _], _ => rfl
  have F14 := fun_mk (st := top 14) l14 c14 k14
  have B14 := F14.binds (ps := ["script"]) fun _ _ _ _ _ _ us hl => match us, hl with | [_], _ => rfl
  have F15 := fun_mk (st := top 15) l15 c15 k15
  have B15 := F15.binds (ps := ["deck", "many"]) fun _ _ _ _ _ _ us hl => match us, hl with | [_, _], _ => rfl
  have F16 := fun_mk (st := top 16) l16 c16 k16
  have B16 := F16.binds (ps := ["deck", "items"]) fun _ _ _ _ _ _ us hl => match us, hl with | [_, _], _ => rfl
  have F17 := fun_mk (st := top 17) l17 c17 k17
  have B17 := F17.binds (ps := ["deck", "many", "wide"]) fun _ _ _ _ _ _ us hl => match us, hl with | [_, _, _], _ => rfl
  have F18 := fun_mk (st := top 18) l18 c18 k18
  have B18 := F18.binds (ps := ["score"]) fun _ _ _ _ _ _ us hl => match us, hl with | [_], _ => rfl
  have F19 := fun_mk (st := top 19) l19 c19 k19
  have B19 := F19.binds (ps := ["deck", "points", "many"]) fun _ _ _ _ _ _ us hl => match us, hl with | [_, _, _], _ => rfl
  have F20 := fun_mk (st := top 20) l20 c20 k20
  have B20 := F20.binds (ps := ["above", "below"]) fun _ _ _ _ _ _ us hl => match us, hl with | [_, _], _ => rfl
  have F21 := fun_mk (st := top 21) l21 c21 k21
  have B21 := F21.binds (ps := ["move", "point"]) fun _ _ _ _ _ _ us hl => match us, hl with | [_, _], _ => rfl
  have F22 := fun_mk (st := top 22) l22 c22 k22
  have B22 := F22.binds (ps := ["points", "figure", "move"]) fun _ _ _ _ _ _ us hl => match us, hl with | [_, _, _], _ => rfl
  have F23 := fun_mk (st := top 23) l23 c23 k23
  have B23 := F23.binds (ps := ["deck", "points", "figure"]) fun _ _ _ _ _ _ us hl => match us, hl with | [_, _, _], _ => rfl
  have F24 := fun_mk (st := top 24) l24 c24 k24
  have B24 := F24.binds (ps := ["script"]) fun _ _ _ _ _ _ us hl => match us, hl with | [_], _ => rfl
  have kb12_0_move_score_figure : KBinds K (PySem.W.fnOf "hits" "hits" (defArgs (top 12)) (defBody (top 12)) (defScope (top 12)) .none kV12 dc12 pm12 an12 cd12 ct12) ["score", "figure", "move"] ["move", "score", "figure"] (gP 0 3 [1, 2, 0]) (gP 0 3 [1, 2, 0]) := kb_mk (by decide) fun us ws h1 h2 => match us, ws, h1, h2 with | [], [_, _, _], _, _ => rfl
  let f : Nat → Addr := fun i => match i with | 1 => f1 | 2 => f2 | 3 => f3 | 6 => f6 | 8 => f8 | 10 => f10 | 12 => f12 | 14 => f14 | 15 => f15 | 16 => f16 | 17 => f17 | 18 => f18 | 19 => f19 | 20 => f20 | 21 => f21 | 22 => f22 | 23 => f23 | 24 => fa | _ => fa
  let fd : Nat → FuncData := fun i => match i with | 1 => PySem.W.fnOf "is_integer" "is_integer" (defArgs (top 1)) (defBody (top 1)) (defScope (top 1)) .none kV1 dc1 pm1 an1 cd1 ct1 | 2 => PySem.W.fnOf "is_within" "is_within" (defArgs (top 2)) (defBody (top 2)) (defScope (top 2)) .none kV2 dc2 pm2 an2 cd2 ct2 | 3 => PySem.W.fnOf "is_tuple_of" "is_tuple_of" (defArgs (top 3)) (defBody (top 3)) (defScope (top 3)) .none kV3 dc3 pm3 an3 cd3 ct3 | 6 => PySem.W.fnOf "is_point" "is_point" (defArgs (top 6)) (defBody (top 6)) (defScope (top 6)) .none kV6 dc6 pm6 an6 cd6 ct6 | 8 => PySem.W.fnOf "lands" "lands" (defArgs (top 8)) (defBody (top 8)) (defScope (top 8)) .none kV8 dc8 pm8 an8 cd8 ct8 | 10 => PySem.W.fnOf "points_of" "points_of" (defArgs (top 10)) (defBody (top 10)) (defScope (top 10)) .none kV10 dc10 pm10 an10 cd10 ct10 | 12 => PySem.W.fnOf "hits" "hits" (defArgs (top 12)) (defBody (top 12)) (defScope (top 12)) .none kV12 dc12 pm12 an12 cd12 ct12 | 14 => PySem.W.fnOf "_law_deck" "_law_deck" (defArgs (top 14)) (defBody (top 14)) (defScope (top 14)) .none kV14 dc14 pm14 an14 cd14 ct14 | 15 => PySem.W.fnOf "_law_draw" "_law_draw" (defArgs (top 15)) (defBody (top 15)) (defScope (top 15)) .none kV15 dc15 pm15 an15 cd15 ct15 | 16 => PySem.W.fnOf "_law_pick" "_law_pick" (defArgs (top 16)) (defBody (top 16)) (defScope (top 16)) .none kV16 dc16 pm16 an16 cd16 ct16 | 17 => PySem.W.fnOf "_law_score" "_law_score" (defArgs (top 17)) (defBody (top 17)) (defScope (top 17)) .none kV17 dc17 pm17 an17 cd17 ct17 | 18 => PySem.W.fnOf "_law_points" "_law_points" (defArgs (top 18)) (defBody (top 18)) (defScope (top 18)) .none kV18 dc18 pm18 an18 cd18 ct18 | 19 => PySem.W.fnOf "_law_figure" "_law_figure" (defArgs (top 19)) (defBody (top 19)) (defScope (top 19)) .none kV19 dc19 pm19 an19 cd19 ct19 | 20 => PySem.W.fnOf "_law_ratio" "_law_ratio" (defArgs (top 20)) (defBody (top 20)) (defScope (top 20)) .none kV20 dc20 pm20 an20 cd20 ct20 | 21 => PySem.W.fnOf "_law_lands" "_law_lands" (defArgs (top 21)) (defBody (top 21)) (defScope (top 21)) .none kV21 dc21 pm21 an21 cd21 ct21 | 22 => PySem.W.fnOf "_law_hits" "_law_hits" (defArgs (top 22)) (defBody (top 22)) (defScope (top 22)) .none kV22 dc22 pm22 an22 cd22 ct22 | 23 => PySem.W.fnOf "_law_move" "_law_move" (defArgs (top 23)) (defBody (top 23)) (defScope (top 23)) .none kV23 dc23 pm23 an23 cd23 ct23 | 24 => PySem.W.fnOf "law" "law" (defArgs (top 24)) (defBody (top 24)) (defScope (top 24)) .none kV24 dc24 pm24 an24 cd24 ct24 | _ => PySem.W.fnOf "law" "law" (defArgs (top 24)) (defBody (top 24)) (defScope (top 24)) .none kV24 dc24 pm24 an24 cd24 ct24
  have T : Tx K mg f fd := { n_abs := PySem.W.mg_none_of X G z_abs, n_bool := PySem.W.mg_none_of X G z_bool, n_divmod := PySem.W.mg_none_of X G z_divmod, n_int := PySem.W.mg_none_of X G z_int, n_isinstance := PySem.W.mg_none_of X G z_isinstance, n_len := PySem.W.mg_none_of X G z_len, n_list := PySem.W.mg_none_of X G z_list, n_range := PySem.W.mg_none_of X G z_range, n_repr := PySem.W.mg_none_of X G z_repr, n_set := PySem.W.mg_none_of X G z_set, n_sorted := PySem.W.mg_none_of X G z_sorted, n_tuple := PySem.W.mg_none_of X G z_tuple, c_MAX_FAR := ⟨_, PySem.W.mg_of X G q_MAX_FAR, ⟨_, rfl⟩⟩, d1 := F1, m1 := PySem.W.mg_of X G a1, k1 := k1, b1 := B1, d2 := F2, m2 := PySem.W.mg_of X G a2, k2 := k2, b2 := B2, d3 := F3, m3 := PySem.W.mg_of X G a3, k3 := k3, b3 := B3, d6 := F6, m6 := PySem.W.mg_of X G a6, k6 := k6, b6 := B6, d8 := F8, m8 := PySem.W.mg_of X G a8, k8 := k8, b8 := B8, d10 := F10, m10 := PySem.W.mg_of X G a10, k10 := k10, b10 := B10, d12 := F12, m12 := PySem.W.mg_of X G a12, k12 := k12, b12 := B12, d14 := F14, m14 := PySem.W.mg_of X G a14, k14 := k14, b14 := B14, d15 := F15, m15 := PySem.W.mg_of X G a15, k15 := k15, b15 := B15, d16 := F16, m16 := PySem.W.mg_of X G a16, k16 := k16, b16 := B16, d17 := F17, m17 := PySem.W.mg_of X G a17, k17 := k17, b17 := B17, d18 := F18, m18 := PySem.W.mg_of X G a18, k18 := k18, b18 := B18, d19 := F19, m19 := PySem.W.mg_of X G a19, k19 := k19, b19 := B19, d20 := F20, m20 := PySem.W.mg_of X G a20, k20 := k20, b20 := B20, d21 := F21, m21 := PySem.W.mg_of X G a21, k21 := k21, b21 := B21, d22 := F22, m22 := PySem.W.mg_of X G a22, k22 := k22, b22 := B22, d23 := F23, m23 := PySem.W.mg_of X G a23, k23 := k23, b23 := B23, d24 := F24, m24 := PySem.W.mg_of X G a24, k24 := k24, b24 := B24, kb12_0_move_score_figure := kb12_0_move_score_figure }
  exact ⟨PySem.W.fnOf "law" "law" (defArgs (top 24)) (defBody (top 24)) (defScope (top 24)) .none kV24 dc24 pm24 an24 cd24 ct24, fun s v => .of_eq rfl, fun base _ _ => ok_law T⟩
local macro_rules
  | `(tactic| array_get_dec) => `(tactic| first
    | with_reducible exact o_addI | with_reducible exact o_subI | with_reducible exact o_ltI | with_reducible exact o_gtI | with_reducible exact o_leI | with_reducible exact o_geI
    | with_reducible exact o_eqI | with_reducible exact o_neI | with_reducible exact o_negI | with_reducible exact o_isN | with_reducible exact o_notN | with_reducible exact o_isB | with_reducible exact o_notB
    | with_reducible exact o_len_l | with_reducible exact o_len_t | with_reducible exact o_tup_l | with_reducible exact o_tup_t | with_reducible exact o_absI | with_reducible exact o_intI | with_reducible exact o_intB
    | with_reducible exact o_gcd | with_reducible exact o_maxI | with_reducible exact o_minI | with_reducible exact o_revT | with_reducible exact o_revL | with_reducible exact o_cutT | with_reducible exact o_cutL
    | with_reducible exact o_idx0 | with_reducible exact o_idx1 | with_reducible exact o_idx2 | with_reducible exact o_idx3
    | with_reducible assumption
    | ((with_reducible apply o_mulL) <;> omega) | ((with_reducible apply o_mulR) <;> omega) | ((with_reducible apply o_mod) <;> omega) | ((with_reducible apply o_fdiv) <;> omega)
    | with_reducible exact o_isInt | with_reducible exact o_isBool | with_reducible exact o_isTup | with_reducible exact o_isLst | with_reducible exact o_isStr
    | ((with_reducible apply o_idxT); exact (by decide); exact rfl) | ((with_reducible apply o_idxL); exact (by decide); exact rfl)
    | with_reducible exact o_leT _ _ | with_reducible exact o_ltT _ _ | with_reducible exact o_eqT _ _ | with_reducible exact o_neT _ _
    | ((with_reducible apply o_addT2) <;> exact Nat.le_of_ble_eq_true rfl) | ((with_reducible apply o_addL2) <;> exact Nat.le_of_ble_eq_true rfl)
    | ((with_reducible apply dTup_le); exact Nat.le_of_ble_eq_true rfl) | ((with_reducible apply dLst_le); exact Nat.le_of_ble_eq_true rfl)
    | assumption)
local macro_rules
  | `(tactic| subst_eqs) => `(tactic| repeat first
    | with_reducible refine k_seq ?_ | with_reducible refine q_rt ?_ | with_reducible refine q_bk ?_ | with_reducible refine q_ct ?_
    | with_reducible refine k_if ?_ | with_reducible refine k_ret ?_ | with_reducible refine k_set ?_ | with_reducible refine k_next ?_ | with_reducible refine k_brk ?_ | with_reducible refine k_cnt ?_
    | with_reducible refine k_retN ?_ | with_reducible refine k_drop ?_ | with_reducible refine k_asg ?_ | with_reducible refine k_par ?_ | with_reducible refine k_for ?_ | with_reducible refine k_put ?_
    | with_reducible refine k_op ?_ | with_reducible refine k_un ?_ | with_reducible refine k_B ?_ | with_reducible refine k_and ?_ | with_reducible refine k_or ?_ | with_reducible refine k_not ?_
    | with_reducible refine k_andV ?_ | with_reducible refine k_orV ?_ | with_reducible refine k_notV ?_ | with_reducible refine k_ite ?_ | with_reducible refine k_cut ?_ | with_reducible refine k_cutS ?_ | with_reducible refine k_blt ?_
    | with_reducible refine k_call ?_ | with_reducible refine k_callK ?_ | with_reducible refine k_callL ?_ | with_reducible refine k_sortSC ?_ | with_reducible refine k_lc2 ?_ | with_reducible refine k_iT ?_ | with_reducible refine k_iL ?_ | with_reducible refine k_R1 ?_ | with_reducible refine k_R2 ?_
    | with_reducible refine k_getD ?_ | with_reducible refine k_inD ?_ | with_reducible refine k_en ?_ | with_reducible refine k_zip ?_ | with_reducible refine k_lc ?_ | with_reducible refine k_yes ?_ | with_reducible refine k_newT ?_ | with_reducible refine k_newK ?_
    | with_reducible refine k_disp ?_ | with_reducible refine k_list ?_ | with_reducible refine k_chain ?_ | with_reducible refine k_C ?_ | with_reducible refine k_nil ?_ | with_reducible refine k_cons ?_
    | with_reducible refine k_tup ?_ | with_reducible refine k_lst ?_ | with_reducible refine kPart.n ?_ | with_reducible refine kPart.sm ?_ | with_reducible refine kInt.mk ?_
    | ((with_reducible apply k_varD); exact rfl) | ((with_reducible apply k_varO); exact rfl) | ((with_reducible apply k_varB); exact rfl)
    | with_reducible refine kB.mk ?_ | with_reducible refine kNotV.mk ?_ | with_reducible refine kCond.t ?_ | with_reducible refine kCond.f ?_
    | with_reducible refine kAnd.t ?_ | with_reducible refine kAnd.f ?_ | with_reducible refine kOr.t ?_ | with_reducible refine kOr.f ?_
    | with_reducible refine kAndV.t ?_ | with_reducible refine kAndV.f ?_ | with_reducible refine kOrV.t ?_ | with_reducible refine kOrV.f ?_
    | ((with_reducible apply kOp.mk); exact rfl; exact rfl; array_get_dec) | ((with_reducible apply kUn.mk); exact rfl; array_get_dec) | ((with_reducible apply kBlt.mk); exact rfl; array_get_dec)
    | ((with_reducible apply kCut.mk); exact rfl; array_get_dec) | ((with_reducible apply kCutS.mk); exact rfl; array_get_dec) | ((with_reducible apply kData.mk); exact rfl; array_get_dec)
    | ((with_reducible apply kSet.d); exact Nat.le_of_ble_eq_true rfl; dsimp only [List.set]) | ((with_reducible apply kSet.o); exact Nat.le_of_ble_eq_true rfl; dsimp only [List.set]) | ((with_reducible apply kSet.b); exact Nat.le_of_ble_eq_true rfl; dsimp only [List.set])
    | ((with_reducible apply kSet.sl); exact rfl; exact Nat.le_of_ble_eq_true rfl; dsimp only [List.set])
    | ((with_reducible apply kAsg.mk); exact rfl; exact rfl; try dsimp only [put1, List.set]) | ((with_reducible apply kPar.mk); exact rfl; exact rfl; try dsimp only [put1, List.set])
    | ((with_reducible apply kPutA.mk); exact rfl) | ((with_reducible apply k_meth); exact rfl) | ((with_reducible apply kIT.mk); exact rfl) | ((with_reducible apply kIL.mk); exact rfl)
    | ((with_reducible apply kEn.t); exact rfl) | ((with_reducible apply kEn.l); exact rfl) | ((with_reducible apply kZip.t); exact rfl) | ((with_reducible apply kZip.l); exact rfl)
    | ((with_reducible apply kList.t); exact rfl) | ((with_reducible apply kList.d); exact rfl; exact rfl; exact rfl)
    | with_reducible refine k_disp ?_ | ((with_reducible apply kDisp.mk); exact rfl; exact rfl; exact Nat.le_of_ble_eq_true rfl)
    | ((with_reducible apply kR1.mk); omega; omega) | ((with_reducible apply kR2.mk); omega; omega; omega; omega)
    | with_reducible refine finQ.d ?_ | with_reducible refine finQ.o ?_ | with_reducible refine finQ.b ?_ | with_reducible refine finQ.nx ?_ | ((with_reducible apply finQ.s); exact rfl))
local macro_rules
  | `(tactic| and_intros) => `(tactic| repeat first
    | with_reducible refine k_seq ?_ | with_reducible refine q_nx ?_ | with_reducible refine q_rt ?_ | with_reducible refine q_bk ?_ | with_reducible refine q_ct ?_
    | with_reducible refine k_if ?_ | with_reducible refine k_ret ?_ | with_reducible refine k_set ?_ | with_reducible refine k_next ?_ | with_reducible refine k_brk ?_ | with_reducible refine k_cnt ?_
    | with_reducible refine k_retN ?_ | with_reducible refine k_drop ?_ | with_reducible refine k_asg ?_ | with_reducible refine k_par ?_ | with_reducible refine k_for ?_ | with_reducible refine k_put ?_
    | with_reducible refine k_op ?_ | with_reducible refine k_un ?_ | with_reducible refine k_B ?_ | with_reducible refine k_and ?_ | with_reducible refine k_or ?_ | with_reducible refine k_not ?_
    | with_reducible refine k_andV ?_ | with_reducible refine k_orV ?_ | with_reducible refine k_notV ?_ | with_reducible refine k_ite ?_ | with_reducible refine k_cut ?_ | with_reducible refine k_cutS ?_ | with_reducible refine k_blt ?_
    | with_reducible refine k_call ?_ | with_reducible refine k_callK ?_ | with_reducible refine k_callL ?_ | with_reducible refine k_sortSC ?_ | with_reducible refine k_lc2 ?_ | with_reducible refine k_iT ?_ | with_reducible refine k_iL ?_ | with_reducible refine k_R1 ?_ | with_reducible refine k_R2 ?_
    | with_reducible refine k_getD ?_ | with_reducible refine k_inD ?_ | with_reducible refine k_en ?_ | with_reducible refine k_zip ?_ | with_reducible refine k_lc ?_ | with_reducible refine k_yes ?_ | with_reducible refine k_newT ?_ | with_reducible refine k_newK ?_
    | with_reducible refine k_disp ?_ | with_reducible refine k_list ?_ | with_reducible refine k_chain ?_ | with_reducible refine k_C ?_ | with_reducible refine k_nil ?_ | with_reducible refine k_cons ?_
    | with_reducible refine k_tup ?_ | with_reducible refine k_lst ?_ | with_reducible refine kPart.n ?_ | with_reducible refine kPart.sm ?_ | with_reducible refine kInt.mk ?_
    | ((with_reducible apply k_varD); exact rfl) | ((with_reducible apply k_varO); exact rfl) | ((with_reducible apply k_varB); exact rfl)
    | with_reducible refine kB.mk ?_ | with_reducible refine kNotV.mk ?_ | with_reducible refine kCond.t ?_ | with_reducible refine kCond.f ?_
    | with_reducible refine kAnd.t ?_ | with_reducible refine kAnd.f ?_ | with_reducible refine kOr.t ?_ | with_reducible refine kOr.f ?_
    | with_reducible refine kAndV.t ?_ | with_reducible refine kAndV.f ?_ | with_reducible refine kOrV.t ?_ | with_reducible refine kOrV.f ?_
    | ((with_reducible apply kOp.mk); exact rfl; exact rfl; array_get_dec) | ((with_reducible apply kUn.mk); exact rfl; array_get_dec) | ((with_reducible apply kBlt.mk); exact rfl; array_get_dec)
    | ((with_reducible apply kCut.mk); exact rfl; array_get_dec) | ((with_reducible apply kCutS.mk); exact rfl; array_get_dec) | ((with_reducible apply kData.mk); exact rfl; array_get_dec)
    | ((with_reducible apply kSet.d); exact Nat.le_of_ble_eq_true rfl; dsimp only [List.set]) | ((with_reducible apply kSet.o); exact Nat.le_of_ble_eq_true rfl; dsimp only [List.set]) | ((with_reducible apply kSet.b); exact Nat.le_of_ble_eq_true rfl; dsimp only [List.set])
    | ((with_reducible apply kSet.sl); exact rfl; exact Nat.le_of_ble_eq_true rfl; dsimp only [List.set])
    | ((with_reducible apply kAsg.mk); exact rfl; exact rfl; try dsimp only [put1, List.set]) | ((with_reducible apply kPar.mk); exact rfl; exact rfl; try dsimp only [put1, List.set])
    | ((with_reducible apply kPutA.mk); exact rfl) | ((with_reducible apply k_meth); exact rfl) | ((with_reducible apply kIT.mk); exact rfl) | ((with_reducible apply kIL.mk); exact rfl)
    | ((with_reducible apply kEn.t); exact rfl) | ((with_reducible apply kEn.l); exact rfl) | ((with_reducible apply kZip.t); exact rfl) | ((with_reducible apply kZip.l); exact rfl)
    | ((with_reducible apply kList.t); exact rfl) | ((with_reducible apply kList.d); exact rfl; exact rfl; exact rfl)
    | with_reducible refine k_disp ?_ | ((with_reducible apply kDisp.mk); exact rfl; exact rfl; exact Nat.le_of_ble_eq_true rfl)
    | ((with_reducible apply kR1.mk); omega; omega) | ((with_reducible apply kR2.mk); omega; omega; omega; omega)
    | with_reducible refine finQ.d ?_ | with_reducible refine finQ.o ?_ | with_reducible refine finQ.b ?_ | with_reducible refine finQ.nx ?_ | ((with_reducible apply finQ.s); exact rfl))
/-! ## the law's own draws -/
theorem draw_gv (m : Int) (h0 : 0 < m) (h1 : m < 1267650600228229401496703205376) : Gv f_law_draw [.bx, .d (.int m)] fun r => ∃ v, r = .d (.int v) ∧ 0 ≤ v ∧ v < m := .of fun b => by
  refine ⟨_, (drawB b m).2, ?_, (drawB b m).1, rfl, ?_⟩
  · have e : mDraw (S.init 4 [.bx, .d (.int m)] b) = .ok (.rt (.d (.int (drawB b m).1))) { S.init 4 [.bx, .d (.int m)] b with b := (drawB b m).2 } := by
      have c : (4 : Nat) = 4 ∧ 0 < m ∧ m < 1267650600228229401496703205376 := ⟨rfl, h0, h1⟩
      exact if_pos c
    unfold f_law_draw runF
    rw [e]
    rfl
  · unfold drawB
    split
    · exact ⟨Int.emod_nonneg _ (by omega), Int.emod_lt_of_pos _ h0⟩
    · exact ⟨Int.emod_nonneg _ (by omega), Int.emod_lt_of_pos _ h0⟩
theorem pick_gv (ds : List D) (h0 : ds ≠ []) (h1 : ds.length ≤ 100000) : Gv f_law_pick [.bx, .d (.list ds)] fun r => ∃ d, r = .d d ∧ d ∈ ds := by
  have hp : 0 < ds.length := List.length_pos_iff.mpr h0
  unfold f_law_pick m_law_pick
  refine Gv.run (a0 := [some .bx, some (.d (.list ds))]) rfl fun b => ?_
  and_intros
  refine kCall.mk rfl rfl (draw_gv _ (by omega) (by omega)) ?_
  rintro _ b1 ⟨u, rfl, u0, u1⟩
  have hu : u.toNat < ds.length := by omega
  have hx : dIdx (.list ds) (.int u) = some (.d ds[u.toNat]) := o_idxL u0 (List.getElem?_eq_getElem hu)
  and_intros
  exact ⟨_, rfl, List.getElem_mem _⟩
theorem all_ints : ∀ l : List D, (∀ d ∈ l, ∃ i : Int, d = .int i) → ∃ ns, intsD? l = some ns
  | [], _ => ⟨[], rfl⟩
  | d :: r, h => by
    obtain ⟨i, rfl⟩ := h d List.mem_cons_self
    obtain ⟨ns, e⟩ := all_ints r fun x hx => h x (List.mem_cons_of_mem _ hx)
    exact ⟨i :: ns, by simp [intsD?, e]⟩
def markF : D → Option D
  | .int i => some (.int (3 * (if i < 0 then -i else i) + (if decide (i < 0) then 1 else 0)))
  | _ => none
def farF : D → Option D
  | .int i => if 1000000000000000 ≤ i then some (.int i) else none
  | _ => none
theorem pow_of (i : Int) (n : Nat) (h : i.natAbs < 2 ^ 64) (hn : n ≤ 1000000) : dPow (.int i) (.int n) = some (.d (.int (i ^ n))) := by
  have c : (0 : Int) ≤ (n : Int) ∧ (n : Int) ≤ 1000000 ∧ i.natAbs < 2 ^ 64 := ⟨by omega, by omega, h⟩
  refine (if_pos c).trans ?_
  rw [Int.toNat_natCast]
theorem p15 : dPow (.int 10) (.int 15) = some (.d (.int 1000000000000000)) := pow_of 10 15 (by decide) (by decide)
theorem p30 : dPow (.int 10) (.int 30) = some (.d (.int 1000000000000000000000000000000)) := pow_of 10 30 (by decide) (by decide)
theorem deck_ok (ns : List Int) (hl : ns.length ≤ 63) (b : Bx) (hb : b.c < 0) : OkF (f_law_deck [.d (.list (ns.map .int))] b) fun r _ => r = .bx := by
  have p15 := p15
  unfold f_law_deck m_law_deck
  refine k_run (a0 := [some (.d (.list (ns.map .int))), none, none, none]) rfl ?_
  and_intros
  refine kLc.pure markF rfl (Nat.le_trans (cut_len _ _ _) (by rw [List.length_map]; omega)) ?_ ?_
  · intro d hd
    obtain ⟨i, _, rfl⟩ := List.mem_map.mp (cut_mem hd)
    refine ⟨_, rfl, ?_⟩
    dsimp only [wipeA, List.set]
    and_intros
    refine ⟨fun _ => ?_, fun h => nomatch h⟩
    and_intros
    exact ⟨_, rfl, rfl, rfl, rfl⟩
  generalize hL : List.filterMap markF (cutG (List.map PyData.int ns) none (some 63)) = L
  have hI : ∀ d ∈ L, ∃ i : Int, d = .int i := fun d hd => by
    rw [← hL] at hd
    obtain ⟨e, _, he⟩ := List.mem_filterMap.mp hd
    unfold markF at he
    split at he
    · cases he; exact ⟨_, rfl⟩
    · cases he
  have hLl : L.length ≤ 10000 := by
    rw [← hL]
    refine Nat.le_trans (List.length_filterMap_le _ _) (Nat.le_trans (cut_len _ _ _) ?_)
    rw [List.length_map]; omega
  clear hL
  and_intros
  refine k_loop (I := fun r s => (∀ d ∈ r, ∃ i : Int, d = .int i) ∧ ∃ (st : Int) (x3 : Option D), s = ⟨[some (.d (.list (ns.map .int))), some (.d (.list L)), some (.d (.int st)), x3.map .d], b⟩) ?_ ?_ _ _ ⟨hI, _, none, rfl⟩
  · rintro d r s ⟨hd, st, x3, rfl⟩
    obtain ⟨i, rfl⟩ := hd d List.mem_cons_self
    refine ⟨_, rfl, ?_⟩
    dsimp only [List.set]
    and_intros
    exact ⟨fun x hx => hd x (List.mem_cons_of_mem _ hx), _, some _, rfl⟩
  · rintro s ⟨_, st, x3, rfl⟩
    and_intros
    refine k_box hb ?_
    and_intros
    refine kLc.pure farF (by cases x3 <;> rfl) hLl ?_ ?_
    · intro d hd
      obtain ⟨i, rfl⟩ := hI d hd
      refine ⟨_, rfl, ?_⟩
      dsimp only [wipeA, List.set]
      and_intros
      refine ⟨fun h => ?_, fun h => ?_⟩
      · and_intros
        exact ⟨_, rfl, rfl, rfl, if_pos (of_decide_eq_true h)⟩
      · exact ⟨rfl, rfl, if_neg (of_decide_eq_false h)⟩
    · and_intros
      obtain ⟨ms, hms⟩ := all_ints (L.filterMap farF) fun d hd => by
        obtain ⟨e, he, h2⟩ := List.mem_filterMap.mp hd
        obtain ⟨i, rfl⟩ := hI e he
        simp only [farF] at h2
        split at h2
        · cases h2; exact ⟨_, rfl⟩
        · cases h2
      refine kBox.mk hb hms fun b => ?_
      and_intros
      rfl

/-! ## what the program asks of values -/
theorem is_integer_gv (v : D) : Gv f_is_integer [.d v] (· = .d (.bool (isIntD v))) := by
  unfold f_is_integer m_is_integer
  refine Gv.run (a0 := [some (.d v)]) rfl fun b => ?_
  and_intros
  refine kAndV.of (fun c => ?_) (fun c => ?_)
  · and_intros
    cases v <;> simp_all [isIntB, isBoolB, isIntD]
  · and_intros
    cases v <;> simp_all [isIntB, isBoolB, isIntD]
theorem is_within_gv (v : D) (lo hi : Int) : Gv f_is_within [.d v, .d (.int lo), .d (.int hi)] (· = .d (.bool (within v lo hi))) := by
  unfold f_is_within m_is_within
  refine Gv.run (a0 := [some (.d v), some (.d (.int lo)), some (.d (.int hi))]) rfl fun b => ?_
  and_intros
  refine kCall.mk rfl rfl (is_integer_gv v) ?_
  rintro _ b1 rfl
  and_intros
  refine kAndV.of (fun c => ?_) (fun c => ?_)
  · obtain ⟨i, rfl⟩ : ∃ i, v = .int i := by
      cases v <;> simp [isIntD] at c
      exact ⟨_, rfl⟩
    and_intros
    refine kChain.mk rfl rfl o_leI (fun c2 => ?_) (fun c2 => ?_)
    · and_intros
      simp only [within, c2, Bool.false_and]
    · and_intros
      simp only [within, c2, Bool.true_and]
  · and_intros
    cases v <;> simp_all [isIntD, within]
theorem is_tuple_of_gv (v : D) (n : Nat) : Gv f_is_tuple_of [.d v, .d (.int n)] (· = .d (.bool (tupLen v n))) := by
  unfold f_is_tuple_of m_is_tuple_of
  refine Gv.run (a0 := [some (.d v), some (.d (.int n))]) rfl fun b => ?_
  and_intros
  refine kAndV.of (fun c => ?_) (fun c => ?_)
  · obtain ⟨ds, rfl⟩ := tup_of c
    and_intros
    have : ((ds.length : Int) == (n : Int)) = (ds.length == n) := by rw [Bool.eq_iff_iff]; simp; omega
    rw [this]; rfl
  · and_intros
    cases v <;> simp_all [isTupB, tupLen]

theorem fit_els {W : List D} {n k m : Nat} (hm : W.length ≤ m) (h : ∀ d ∈ W, Fit n k d) : Fit (m * (n + 2) + 3) (k + 1) (.tuple W) := fit_tup m hm h
theorem fit_cons {n k : Nat} {x : D} {W : List D} (hx : Fit n k x) (hW : ∀ d ∈ W, Fit n k d) : ∀ d ∈ x :: W, Fit n k d := fun d hd => by
  rcases List.mem_cons.mp hd with rfl | hd
  · exact hx
  · exact hW d hd
theorem fit_nil {n k : Nat} : ∀ d ∈ ([] : List D), Fit n k d := fun d hd => by simp at hd
theorem fit_app {n k : Nat} {L M : List D} (hL : ∀ d ∈ L, Fit n k d) (hM : ∀ d ∈ M, Fit n k d) : ∀ d ∈ L ++ M, Fit n k d := fun d hd => by
  rcases List.mem_append.mp hd with hd | hd
  · exact hL d hd
  · exact hM d hd

/-! ## fractions -/
def frD (r : Rat) : D := .tuple [.int r.num, .int (r.den : Int)]
def RB (N T : Nat) (r : Rat) : Prop := r.num.natAbs ≤ T ∧ r.den ≤ N
theorem RB.mono {N T N' T' : Nat} {r : Rat} (h : RB N T r) (h1 : N ≤ N') (h2 : T ≤ T') : RB N' T' r := ⟨Nat.le_trans h.1 h2, Nat.le_trans h.2 h1⟩
theorem dv_num (a b : Int) : (Rat.divInt a b).num.natAbs ≤ a.natAbs := by
  rw [Rat.num_divInt, Int.natAbs_ediv_of_dvd ?_]
  · refine Nat.le_trans (Nat.div_le_self _ _) ?_
    rw [Int.natAbs_mul]
    have h : b.sign.natAbs ≤ 1 := by
      rcases Int.lt_trichotomy b 0 with h | h | h
      · rw [Int.sign_eq_neg_one_of_neg h]; decide
      · rw [h]; decide
      · rw [Int.sign_eq_one_of_pos h]; decide
    exact Nat.le_trans (Nat.mul_le_mul_right _ h) (by omega)
  · exact Int.dvd_trans (Int.gcd_dvd_right ..) (Int.dvd_mul_left ..)
theorem dv_den (a b : Int) (hb : b ≠ 0) : (Rat.divInt a b).den ≤ b.natAbs := by
  rw [Rat.den_divInt, if_neg hb]
  exact Nat.div_le_self _ _
theorem fr_self (r : Rat) : Rat.divInt r.num (r.den : Int) = r := Rat.num_divInt_den r
theorem den0 (r : Rat) : (r.den : Int) ≠ 0 := by have := r.den_nz; omega
theorem mul_dv (r s : Rat) : Rat.divInt (r.num * s.num) ((r.den : Int) * s.den) = r * s := by
  have h := Rat.divInt_mul_divInt r.num s.num (d₁ := r.den) (d₂ := s.den)
  rw [fr_self, fr_self] at h
  exact h.symm
theorem add_dv (r s : Rat) : Rat.divInt (r.num * s.den + s.num * r.den) ((r.den : Int) * s.den) = r + s := by
  have h := Rat.divInt_add_divInt r.num s.num (d₁ := r.den) (d₂ := s.den) (den0 r) (den0 s)
  rw [fr_self, fr_self] at h
  exact h.symm
theorem RB.mul {N T M U : Nat} {r s : Rat} (h1 : RB N T r) (h2 : RB M U s) : RB (N * M) (T * U) (r * s) := by
  rw [← mul_dv r s]
  refine ⟨Nat.le_trans (dv_num _ _) ?_, Nat.le_trans (dv_den _ _ (Int.mul_ne_zero (den0 r) (den0 s))) ?_⟩
  · rw [Int.natAbs_mul]; exact Nat.mul_le_mul h1.1 h2.1
  · rw [Int.natAbs_mul]; exact Nat.mul_le_mul h1.2 h2.2
theorem RB.add {N T M U : Nat} {r s : Rat} (h1 : RB N T r) (h2 : RB M U s) : RB (N * M) (T * M + U * N) (r + s) := by
  rw [← add_dv r s]
  refine ⟨Nat.le_trans (dv_num _ _) ?_, Nat.le_trans (dv_den _ _ (Int.mul_ne_zero (den0 r) (den0 s))) ?_⟩
  · refine Nat.le_trans (Int.natAbs_add_le _ _) (Nat.add_le_add ?_ ?_)
    · rw [Int.natAbs_mul]; exact Nat.mul_le_mul h1.1 h2.2
    · rw [Int.natAbs_mul]; exact Nat.mul_le_mul h2.1 h1.2
  · rw [Int.natAbs_mul]; exact Nat.mul_le_mul h1.2 h2.2
/-- both divided by the greatest common divisor, with the sign of the second -/
theorem dv_pos (a b : Int) (hb : 0 < b) : a.fdiv ((Nat.gcd a.natAbs b.natAbs : Nat) : Int) = (Rat.divInt a b).num ∧ b.fdiv ((Nat.gcd a.natAbs b.natAbs : Nat) : Int) = ((Rat.divInt a b).den : Int) := by
  rw [Int.fdiv_eq_ediv_of_nonneg _ (by omega), Int.fdiv_eq_ediv_of_nonneg _ (by omega), Rat.num_divInt, Rat.den_divInt, if_neg (by omega), Int.sign_eq_one_of_pos hb, Int.one_mul]
  have e : b.gcd a = Nat.gcd a.natAbs b.natAbs := Nat.gcd_comm _ _
  rw [e]
  refine ⟨rfl, ?_⟩
  have hb' : (b.natAbs : Int) = b := by omega
  rw [Int.natCast_ediv, hb']
theorem dv_neg (a b : Int) (hb : b < 0) : a.fdiv (-((Nat.gcd a.natAbs b.natAbs : Nat) : Int)) = (Rat.divInt a b).num ∧ b.fdiv (-((Nat.gcd a.natAbs b.natAbs : Nat) : Int)) = ((Rat.divInt a b).den : Int) := by
  have h := dv_pos (-a) (-b) (by omega)
  rw [Int.natAbs_neg, Int.natAbs_neg, Rat.neg_divInt_neg] at h
  refine ⟨?_, ?_⟩
  · rw [← h.1, ← Int.neg_fdiv_neg, Int.neg_neg]
  · rw [← h.2, ← Int.neg_fdiv_neg, Int.neg_neg]
theorem gcd_bd (a b : Int) (hb : b ≠ 0) (h : b.natAbs ≤ 10 ^ 30) : 0 < ((Nat.gcd a.natAbs b.natAbs : Nat) : Int) ∧ ((Nat.gcd a.natAbs b.natAbs : Nat) : Int) < 1267650600228229401496703205376 := by
  have h1 : 0 < Nat.gcd a.natAbs b.natAbs := Nat.gcd_pos_of_pos_right _ (by omega)
  have h2 : Nat.gcd a.natAbs b.natAbs ≤ b.natAbs := Nat.gcd_le_right _ (by omega)
  have e : (10 : Nat) ^ 30 = 1000000000000000000000000000000 := by decide
  rw [e] at h
  omega
theorem law_ratio_gv (a b : Int) (hb : 0 < b) (h : b.natAbs ≤ 10 ^ 30) : Gv f_law_ratio [.d (.int a), .d (.int b)] (· = .d (frD (Rat.divInt a b))) := by
  obtain ⟨g0, g1⟩ := gcd_bd a b (by omega) h
  unfold f_law_ratio m_law_ratio
  refine Gv.run (a0 := [some (.d (.int a)), some (.d (.int b)), none, none, none]) rfl fun b1 => ?_
  and_intros
  have ha : (if a < 0 then -a else a) = (a.natAbs : Int) := by split <;> omega
  have hb' : (if b < 0 then -b else b) = (b.natAbs : Int) := by split <;> omega
  rw [ha, hb']
  refine k_while (I := fun n s => ∃ p q : Int, 0 ≤ p ∧ 0 ≤ q ∧ q.toNat = n ∧ Nat.gcd p.natAbs q.natAbs = Nat.gcd a.natAbs b.natAbs ∧ s = ⟨[some (.d (.int a)), some (.d (.int b)), some (.d (.int p)), some (.d (.int q)), none], b1⟩) b.natAbs ⟨_, _, by omega, by omega, by omega, by rw [Int.natAbs_natCast, Int.natAbs_natCast], rfl⟩ ?_
  rintro n s ⟨p, q, p0, q0, hq, hg, rfl⟩
  and_intros
  refine ⟨fun c4 => ?_, fun c4 => ?_⟩
  · have hq1 : 0 < q := by simpa using c4
    and_intros
    have hm0 := Int.emod_nonneg p (show q ≠ 0 by omega)
    have hm1 := Int.emod_lt_of_pos p hq1
    refine ⟨(p % q).toNat, by omega, q, p % q, q0, hm0, rfl, ?_, rfl⟩
    rw [← hg, Nat.gcd_comm p.natAbs q.natAbs]
    have e1 : (p % q).natAbs = p.natAbs % q.natAbs := by
      have h1 : p = (p.natAbs : Int) := by omega
      have h2 : q = (q.natAbs : Int) := by omega
      rw [h1, h2]
      simp
      rw [← Int.natCast_emod, Int.natAbs_natCast]
    rw [e1, Nat.gcd_comm q.natAbs (p.natAbs % q.natAbs)]
    exact (Nat.gcd_rec q.natAbs p.natAbs).symm
  · have hq0 : q = 0 := by
      have : ¬ 0 < q := by simpa using c4
      omega
    subst hq0
    have hp : p = ((Nat.gcd a.natAbs b.natAbs : Nat) : Int) := by
      have : p.natAbs = Nat.gcd a.natAbs b.natAbs := by rw [← hg]; simp
      omega
    and_intros
    refine kCond.of (fun c => ?_) (fun c => ?_)
    · have h1 := dv_pos a b hb
      and_intros
      rw [Int.fdiv_eq_ediv_of_nonneg _ (by omega), Int.fdiv_eq_ediv_of_nonneg _ (by omega)] at h1
      rw [Int.one_mul, Int.one_mul, hp, h1.1, h1.2]
      rfl
    · have := of_decide_eq_false c
      omega
theorem far100 {n : Nat} (h : n ≤ 10 ^ 90) : n < 10 ^ 100 := Nat.lt_of_le_of_lt h (by decide +kernel)
theorem den_bd {N M : Nat} {r s : Rat} (h1 : r.den ≤ N) (h2 : s.den ≤ M) (hN : N ≤ 10 ^ 15) (hM : M ≤ 10 ^ 15) : ((r.den : Int) * s.den).natAbs ≤ 10 ^ 30 := by
  rw [Int.natAbs_mul]
  exact Nat.le_trans (Nat.mul_le_mul (Nat.le_trans h1 hN) (Nat.le_trans h2 hM)) (by decide)
theorem den_100 {N : Nat} {r : Rat} (h1 : r.den ≤ N) (hN : N ≤ 10 ^ 15) : ((r.den : Nat) : Int).natAbs < 10 ^ 100 := Nat.lt_of_le_of_lt (Nat.le_trans h1 hN) (by decide +kernel)

/-! ## moves -/
structure Mv where
  q : Rat
  t : Rat
  e : Int
  v : Int
def mvD (m : Mv) : D := .tuple [frD m.q, frD m.t, .int m.e, .int m.v]
structure MB (Q N T : Nat) (m : Mv) : Prop where
  q0 : m.q ≠ 0
  e1 : m.e = 1 ∨ m.e = -1
  qb : RB Q Q m.q
  tb : RB N T m.t
  vb : m.v.natAbs ≤ T
theorem MB.mono {Q N T Q' N' T' : Nat} {m : Mv} (h : MB Q N T m) (h1 : Q ≤ Q') (h2 : N ≤ N') (h3 : T ≤ T') : MB Q' N' T' m := ⟨h.q0, h.e1, h.qb.mono h1 h1, h.tb.mono h2 h3, Nat.le_trans h.vb h3⟩
/-- the second one behind the first one -/
def Mv.then (m k : Mv) : Mv := ⟨k.q * m.q, k.q * m.t + k.t, k.e * m.e, k.e * m.v + k.v⟩
def Mv.back (m : Mv) : Mv := ⟨m.q⁻¹, -m.t * m.q⁻¹, m.e, -m.e * m.v⟩
def still : Mv := ⟨1, 0, 1, 0⟩
theorem MB.then {Q N T Q' N' T' : Nat} {m k : Mv} (hm : MB Q N T m) (hk : MB Q' N' T' k) (hN : 1 ≤ N) (hN' : 1 ≤ N') (hQ' : 1 ≤ Q') : MB (Q' * Q) (Q' * N * N') (Q' * T * N' + T' * (Q' * N)) (m.then k) := by
  refine ⟨?_, ?_, hk.qb.mul hm.qb, (hk.qb.mul hm.tb).add hk.tb, ?_⟩
  · have h1 := hm.q0
    have h2 := hk.q0
    show k.q * m.q ≠ 0
    intro h
    rcases Rat.mul_eq_zero.mp h with h | h
    · exact h2 h
    · exact h1 h
  · show k.e * m.e = 1 ∨ k.e * m.e = -1
    rcases hm.e1 with h | h <;> rcases hk.e1 with h' | h' <;> rw [h, h'] <;> decide
  · show (k.e * m.v + k.v).natAbs ≤ _
    have h1 : (k.e * m.v).natAbs = m.v.natAbs := by rcases hk.e1 with h | h <;> rw [h, Int.natAbs_mul] <;> simp
    refine Nat.le_trans (Int.natAbs_add_le _ _) (Nat.add_le_add ?_ ?_)
    · rw [h1]
      exact Nat.le_trans hm.vb (Nat.le_trans (Nat.le_mul_of_pos_left _ (by omega)) (Nat.le_mul_of_pos_right _ (by omega)))
    · exact Nat.le_trans hk.vb (Nat.le_mul_of_pos_right _ (Nat.mul_pos (by omega) (by omega)))
theorem den_inv (r : Rat) (h : r ≠ 0) : Rat.divInt (r.den : Int) r.num = r⁻¹ := by
  have := Rat.inv_divInt r.num r.den
  rw [fr_self] at this
  exact this.symm
theorem num0 {r : Rat} (h : r ≠ 0) : r.num ≠ 0 := by
  intro e
  exact h (Rat.num_eq_zero.mp e)
theorem back_t (m : Mv) (h : m.q ≠ 0) : Rat.divInt (-m.t.num * (m.q.den : Int)) ((m.t.den : Int) * m.q.num) = -m.t * m.q⁻¹ := by
  have e := Rat.divInt_mul_divInt (-m.t.num) (m.q.den : Int) (d₁ := (m.t.den : Int)) (d₂ := m.q.num)
  rw [← e, den_inv _ h]
  congr 1
  rw [← Rat.neg_divInt, fr_self]
theorem RB.inv {Q : Nat} {r : Rat} (h : RB Q Q r) (h0 : r ≠ 0) : RB Q Q r⁻¹ := by
  rw [← den_inv r h0]
  exact ⟨Nat.le_trans (dv_num _ _) (by have := h.2; omega), Nat.le_trans (dv_den _ _ (num0 h0)) h.1⟩
theorem MB.back {Q N T : Nat} {m : Mv} (h : MB Q N T m) (hQ : 1 ≤ Q) : MB Q (N * Q) (T * Q) m.back := by
  refine ⟨?_, h.e1, h.qb.inv h.q0, ?_, ?_⟩
  · show m.q⁻¹ ≠ 0
    have := h.q0
    intro e
    have : m.q * m.q⁻¹ = 1 := Rat.mul_inv_cancel _ this
    rw [e, Rat.mul_zero] at this
    exact absurd this (by decide)
  · have h1 : RB N T (-m.t) := ⟨by rw [show (-m.t).num = -m.t.num from rfl, Int.natAbs_neg]; exact h.tb.1, h.tb.2⟩
    exact h1.mul (h.qb.inv h.q0)
  · show (-m.e * m.v).natAbs ≤ _
    have h1 : (-m.e * m.v).natAbs = m.v.natAbs := by rcases h.e1 with h | h <;> rw [h, Int.natAbs_mul] <;> simp
    rw [h1]
    exact Nat.le_trans h.vb (Nat.le_mul_of_pos_right _ (by omega))
theorem mv_ext {m k : Mv} (h1 : m.q = k.q) (h2 : m.t = k.t) (h3 : m.e = k.e) (h4 : m.v = k.v) : m = k := by
  cases m; cases k; simp at h1 h2 h3 h4; subst h1 h2 h3 h4; rfl
theorem then_assoc (a b c : Mv) : (a.then b).then c = a.then (b.then c) := by
  refine mv_ext ?_ ?_ ?_ ?_ <;> simp only [Mv.then] <;> grind
theorem then_back {a : Mv} (h : a.q ≠ 0) (he : a.e = 1 ∨ a.e = -1) : a.then a.back = still := by
  have hi := Rat.mul_inv_cancel _ h
  have he2 : a.e * a.e = 1 := by rcases he with h | h <;> rw [h] <;> decide
  refine mv_ext ?_ ?_ ?_ ?_ <;> simp only [Mv.then, Mv.back, still] <;> grind
theorem back_then {a : Mv} (h : a.q ≠ 0) (he : a.e = 1 ∨ a.e = -1) : a.back.then a = still := by
  have hi := Rat.mul_inv_cancel _ h
  have he2 : a.e * a.e = 1 := by rcases he with h | h <;> rw [h] <;> decide
  refine mv_ext ?_ ?_ ?_ ?_ <;> simp only [Mv.then, Mv.back, still] <;> grind
theorem back_back {a : Mv} (h : a.q ≠ 0) (he : a.e = 1 ∨ a.e = -1) : a.back.back = a := by
  have hi := Rat.mul_inv_cancel _ h
  have hii := Rat.inv_inv a.q
  have he2 : a.e * a.e = 1 := by rcases he with h | h <;> rw [h] <;> decide
  refine mv_ext ?_ ?_ ?_ ?_ <;> simp only [Mv.back] <;> grind
theorem then_still (a : Mv) : a.then still = a := by
  refine mv_ext ?_ ?_ ?_ ?_ <;> simp only [Mv.then, still] <;> grind
theorem still_then (a : Mv) : still.then a = a := by
  refine mv_ext ?_ ?_ ?_ ?_ <;> simp only [Mv.then, still] <;> grind
theorem back_both {a b : Mv} (ha : a.q ≠ 0) (hb : b.q ≠ 0) (he : a.e = 1 ∨ a.e = -1) (hf : b.e = 1 ∨ b.e = -1) : (a.then b).back = b.back.then a.back := by
  have hi := Rat.mul_inv_cancel _ ha
  have hj := Rat.mul_inv_cancel _ hb
  have hx : (b.q * a.q)⁻¹ = b.q⁻¹ * a.q⁻¹ := Rat.inv_mul_rev _ _ |>.trans (Rat.mul_comm _ _)
  have he2 : b.e * b.e = 1 := by rcases hf with h | h <;> rw [h] <;> decide
  refine mv_ext ?_ ?_ ?_ ?_ <;> simp only [Mv.then, Mv.back, hx] <;> grind
theorem still_back : still.back = still := by
  refine mv_ext ?_ ?_ ?_ ?_ <;> simp only [Mv.back, still] <;> grind

theorem e_far {e : Int} (h : e = 1 ∨ e = -1) : e.natAbs < 10 ^ 100 := by
  rcases h with h | h <;> rw [h] <;> decide +kernel
theorem RB.low {N T : Nat} {r : Rat} (h : RB N T r) (hN : N ≤ 10 ^ 6) (hT : T ≤ 10 ^ 40) : RB (10 ^ 6) (10 ^ 40) r := h.mono hN hT

theorem dv1 (a : Int) : Rat.divInt a 1 = (a : Rat) := by
  have h := fr_self (a : Rat)
  exact h
theorem dv_whole (A B : Int) (hB : 0 < B) : ((Rat.divInt A B).den = 1 ↔ A % B = 0) ∧ (A % B = 0 → (Rat.divInt A B).num = A / B) := by
  have h1 : A % B = 0 → Rat.divInt A B = ((A / B : Int) : Rat) := fun h => by
    have e : A = (A / B) * B := (Int.ediv_mul_cancel (Int.dvd_of_emod_eq_zero h)).symm
    have := Rat.divInt_mul_right (n := A / B) (d := 1) (a := B) (by omega)
    rw [← e, Int.one_mul] at this
    rw [this]
    exact dv1 _
  refine ⟨⟨fun h => ?_, fun h => ?_⟩, fun h => ?_⟩
  · have e := fr_self (Rat.divInt A B)
    rw [h] at e
    have e2 := (Rat.divInt_eq_divInt_iff (by decide) (by omega)).mp e
    have : A = (Rat.divInt A B).num * B := by
      have h3 : A * ((1 : Nat) : Int) = A := Int.mul_one A
      exact h3.symm.trans e2.symm
    rw [this]
    exact Int.mul_emod_left _ _
  · rw [h1 h]; rfl
  · rw [h1 h]; rfl
theorem lin_dv (q t : Rat) (x : Int) : Rat.divInt (q.num * x * t.den + t.num * q.den) ((q.den : Int) * t.den) = q * x + t := by
  have h := Rat.divInt_add_divInt (q.num * x) t.num (d₁ := q.den) (d₂ := t.den) (den0 q) (den0 t)
  rw [fr_self] at h
  rw [← h]
  congr 1
  have h2 := Rat.divInt_mul_divInt q.num x (d₁ := q.den) (d₂ := 1)
  rw [fr_self, Int.mul_one] at h2
  rw [← h2, dv1]
def far (a : Int) : Prop := -9999 ≤ a ∧ a ≤ 9999
instance (a : Int) : Decidable (far a) := inferInstanceAs (Decidable (_ ∧ _))
theorem is_point_gv (a b : Int) : Gv f_is_point [.d (tI [a, b])] (· = .d (.bool (decide (far a ∧ far b)))) := by
  unfold f_is_point m_is_point
  refine Gv.run (a0 := [some (.d (tI [a, b]))]) rfl fun b0 => ?_
  and_intros
  refine kCall.mk rfl rfl (is_tuple_of_gv (tI [a, b]) 2) ?_
  rintro _ b1 rfl
  refine kAndV.of (fun _ => ?_) (fun c => absurd c (by simp [tupLen, tI]))
  unfold tI
  and_intros
  refine kCall.mk rfl rfl (is_within_gv (.int a) (-9999) 9999) ?_
  rintro _ b2 rfl
  refine kAndV.of (fun c => ?_) (fun c => ?_)
  · and_intros
    refine kCall.mk rfl rfl (is_within_gv (.int b) (-9999) 9999) ?_
    rintro _ b3 rfl
    and_intros
    have c' : far a := by simpa [within, far] using c
    simp [within, far, c']
    first | rfl | (unfold far at c'; simp [c'])
  · and_intros
    have c' : ¬ far a := by simpa [within, far] using c
    simp [c']
def landL (m : Mv) : List Int → Option (List Int)
  | [x, y] => if (m.q * x + m.t).den = 1 ∧ far (m.q * x + m.t).num ∧ far (m.e * y + m.v) then some [(m.q * x + m.t).num, m.e * y + m.v] else none
  | _ => none
def oD : Option (List Int) → D
  | some l => tI l
  | none => .none
def Pt (l : List Int) : Prop := ∃ x y, l = [x, y] ∧ far x ∧ far y
theorem landL_pt {m : Mv} {p p' : List Int} (h : landL m p = some p') : Pt p' := by
  unfold landL at h
  split at h
  · split at h
    · rename_i c
      cases h
      exact ⟨_, _, rfl, c.2⟩
    · cases h
  · cases h
theorem landL_then {m k : Mv} {p p' : List Int} (h : landL m p = some p') : landL k p' = landL (m.then k) p := by
  unfold landL at h
  split at h
  · rename_i x y
    split at h
    · rename_i c
      cases h
      have e : ((m.q * x + m.t).num : Rat) = m.q * x + m.t := by
        have := fr_self (m.q * x + m.t)
        rw [c.1] at this
        exact (dv1 _).symm.trans this
      have e1 : k.q * ((m.q * x + m.t).num : Rat) + k.t = (m.then k).q * x + (m.then k).t := by
        rw [e]; simp only [Mv.then]; grind
      have e2 : k.e * (m.e * y + m.v) + k.v = (m.then k).e * y + (m.then k).v := by
        simp only [Mv.then]; grind
      simp only [landL, e1, e2]
    · cases h
  · cases h
theorem lands_gv {Q N T : Nat} (m : Mv) (hm : MB Q N T m) (hQ : Q ≤ 20000) (hN : N ≤ 50000) (hT : T ≤ 10 ^ 40) {p : List Int} (hp : Pt p) : Gv f_lands [.d (mvD m), .d (tI p)] (· = .d (oD (landL m p))) := by
  obtain ⟨x, y, rfl, hx, hy⟩ := hp
  unfold far at hx hy
  have hd1 : m.t.num.natAbs ≤ 10 ^ 40 := Nat.le_trans hm.tb.1 hT
  have hd2 : m.t.den ≤ 50000 := Nat.le_trans hm.tb.2 hN
  have hd3 : m.q.num.natAbs ≤ 20000 := Nat.le_trans hm.qb.1 hQ
  have hd4 : m.q.den ≤ 20000 := Nat.le_trans hm.qb.2 hQ
  have hxx : x.natAbs ≤ 9999 := by omega
  have hyy : y.natAbs ≤ 9999 := by omega
  have m1 := o_mulX (i := m.q.num) (j := x) (Nat.lt_of_le_of_lt hd3 (by decide +kernel)) (Nat.lt_of_le_of_lt hxx (by decide +kernel))
  have m2 := o_mulX (i := m.q.num * x) (j := (m.t.den : Int)) (by rw [Int.natAbs_mul]; exact Nat.lt_of_le_of_lt (Nat.mul_le_mul hd3 hxx) (by decide +kernel)) (Nat.lt_of_le_of_lt hd2 (by decide +kernel))
  have m3 := o_mulX (i := m.t.num) (j := (m.q.den : Int)) (Nat.lt_of_le_of_lt hd1 (by decide +kernel)) (Nat.lt_of_le_of_lt hd4 (by decide +kernel))
  have m4 := o_mulX (i := (m.q.den : Int)) (j := (m.t.den : Int)) (Nat.lt_of_le_of_lt hd4 (by decide +kernel)) (Nat.lt_of_le_of_lt hd2 (by decide +kernel))
  have m5 := o_mulX (i := m.e) (j := y) (e_far hm.e1) (Nat.lt_of_le_of_lt hyy (by decide +kernel))
  have hB0 : 0 < (m.q.den : Int) * m.t.den := Int.mul_pos (by have := m.q.den_pos; omega) (by have := m.t.den_pos; omega)
  have hB1 : (m.q.den : Int) * m.t.den < 1073741824 := by
    have h := Nat.mul_le_mul hd4 hd2
    have e : ((m.q.den : Int) * m.t.den) = ((m.q.den * m.t.den : Nat) : Int) := (Int.natCast_mul _ _).symm
    rw [e]
    have e2 : (20000 : Nat) * 50000 = 1000000000 := by decide
    rw [e2] at h
    omega
  have dv := o_divmod (i := m.q.num * x * m.t.den + m.t.num * m.q.den) hB0 hB1
  obtain ⟨w1, w2⟩ := dv_whole (m.q.num * x * m.t.den + m.t.num * m.q.den) _ hB0
  rw [lin_dv] at w1 w2
  unfold f_lands m_lands
  refine Gv.run (a0 := [some (.d (mvD m)), some (.d (tI [x, y])), none, none, none, none, none, none, none, none, none, none, none]) rfl fun b => ?_
  unfold mvD frD
  show Ok _ _
  simp only [tI, List.map]
  and_intros
  refine kAnd.of (fun c => ?_) (fun c => ?_)
  · have c1 := of_decide_eq_true c
    and_intros
    refine kCall.mk rfl rfl (is_point_gv _ _) ?_
    rintro _ b1 rfl
    and_intros
    refine kCond.of (fun c2 => ?_) (fun c2 => ?_)
    · have c3 := of_decide_eq_true c2
      and_intros
      simp only [landL]
      rw [if_pos ⟨w1.mpr c1, by rw [w2 c1]; exact c3.1, c3.2⟩, w2 c1]
      rfl
    · have c3 := of_decide_eq_false c2
      and_intros
      simp only [landL]
      rw [if_neg fun h => c3 ⟨by rw [← w2 c1]; exact h.2.1, h.2.2⟩]
      rfl
  · have c1 := of_decide_eq_false c
    and_intros
    have c4 : ¬ (m.q * x + m.t).den = 1 := fun h => c1 (w1.mp h)
    simp only [landL]
    rw [if_neg fun h => c4 h.1]
    rfl
theorem tupI_pt {ns : List Int} (h : ns ≠ []) : tupI? (tI ns) = some ns := by
  cases ns with
  | nil => exact absurd rfl h
  | cons i r =>
    show (match intsD? ((i :: r).map .int) with | some (i :: r) => some (i :: r) | _ => none) = _
    rw [ints_of_ints]
theorem tupsI_pts : ∀ L : List (List Int), (∀ x ∈ L, x ≠ []) → tupsI? (L.map tI) = some L
  | [], _ => rfl
  | x :: L, h => by
    rw [List.map_cons, tupsI?, tupI_pt (h x List.mem_cons_self)]
    simp only
    rw [tupsI_pts L fun y hy => h y (List.mem_cons_of_mem _ hy)]
    rfl
theorem sorted_pts {L : List (List Int)} (h : ∀ x ∈ L, x ≠ []) : fSorted [.list (L.map tI)] = some (.o (.lst ((sortI L).map tI))) := by
  simp only [fSorted, tupsI_pts L h]
  rfl
theorem Pt.ne {l : List Int} (h : Pt l) : l ≠ [] := by
  obtain ⟨x, y, rfl, _⟩ := h
  simp

/-- a comprehension whose test or element calls -/
theorem kLc_filt {g : D → S → Option S} {c : MT} {m : ME} {vs : List Nat} {Q : R → S → Prop} {ds : List D} {a : List (Option R)} {b : Bx} (F : D → Option D) (h1 : noOwn a vs = true) (hl : ds.length ≤ 10000)
    (hs : ∀ d ∈ ds, ∀ b, ∃ s1, g d ⟨wipeA a vs, b⟩ = some s1 ∧ Ok (c s1) fun t s2 => (t = true → Ok (m s2) fun y s3 => ∃ z, take1 s3 y = some (z, s3) ∧ wipeA s3.a vs = wipeA a vs ∧ F d = some z) ∧ (t = false → wipeA s2.a vs = wipeA a vs ∧ F d = none))
    (q : ∀ b, Q (.o (.lst (ds.filterMap F))) ⟨a, b⟩) : kLc g c m vs Q ds ⟨a, b⟩ := by
  refine ⟨h1, ?_⟩
  refine k_lcL (fun r acc s => wipeA s.a vs = wipeA a vs ∧ ∃ done, ds = done ++ r ∧ acc = done.filterMap F) ?_ ?_ ds [] _ ⟨rfl, [], rfl, rfl⟩
  · rintro d r acc s ⟨hw, done, e, hd⟩
    have hm : d ∈ ds := by rw [e]; simp
    obtain ⟨s1, e1, h2⟩ := hs d hm s.b
    refine ⟨s1, by rw [hw]; exact e1, h2.mono ?_⟩
    rintro t s2 ⟨ht, hf⟩
    cases t with
    | false =>
      obtain ⟨k1, k3⟩ := hf rfl
      exact ⟨k1, done ++ [d], by rw [e]; simp, by rw [hd, List.filterMap_append]; simp [k3]⟩
    | true =>
      refine (ht rfl).mono ?_
      rintro y s3 ⟨z, e3, hw3, p⟩
      refine ⟨z, s3, e3, ?_, hw3, done ++ [d], by rw [e]; simp, by rw [hd, List.filterMap_append]; simp [p]⟩
      rw [hd]
      have hh : ds.length = done.length + (r.length + 1) := by rw [e]; simp
      have := List.length_filterMap_le F done
      omega
  · rintro acc s ⟨hw, done, e, hd⟩
    rw [List.append_nil] at e
    show Q (.o (.lst acc)) ⟨backA a s.a vs, s.b⟩
    rw [back_wipe hw, hd, ← e]
    exact q _

/-! ## the law's own leading, and hits -/
theorem law_lands_gv {Q N T : Nat} (m : Mv) (hm : MB Q N T m) (hQ : Q ≤ 20000) (hN : N ≤ 50000) (hT : T ≤ 10 ^ 40) {p : List Int} (hp : Pt p) : Gv f_law_lands [.d (mvD m), .d (tI p)] (· = .d (oD (landL m p))) := by
  obtain ⟨x, y, rfl, hx, hy⟩ := hp
  unfold far at hx hy
  have hd1 : m.t.num.natAbs ≤ 10 ^ 40 := Nat.le_trans hm.tb.1 hT
  have hd2 : m.t.den ≤ 50000 := Nat.le_trans hm.tb.2 hN
  have hd3 : m.q.num.natAbs ≤ 20000 := Nat.le_trans hm.qb.1 hQ
  have hd4 : m.q.den ≤ 20000 := Nat.le_trans hm.qb.2 hQ
  have hxx : x.natAbs ≤ 9999 := by omega
  have hyy : y.natAbs ≤ 9999 := by omega
  have m1 := o_mulX (i := m.q.num) (j := x) (Nat.lt_of_le_of_lt hd3 (by decide +kernel)) (Nat.lt_of_le_of_lt hxx (by decide +kernel))
  have m2 := o_mulX (i := m.q.num * x) (j := (m.t.den : Int)) (by rw [Int.natAbs_mul]; exact Nat.lt_of_le_of_lt (Nat.mul_le_mul hd3 hxx) (by decide +kernel)) (Nat.lt_of_le_of_lt hd2 (by decide +kernel))
  have m3 := o_mulX (i := m.t.num) (j := (m.q.den : Int)) (Nat.lt_of_le_of_lt hd1 (by decide +kernel)) (Nat.lt_of_le_of_lt hd4 (by decide +kernel))
  have m4 := o_mulX (i := (m.q.den : Int)) (j := (m.t.den : Int)) (Nat.lt_of_le_of_lt hd4 (by decide +kernel)) (Nat.lt_of_le_of_lt hd2 (by decide +kernel))
  have m5 := o_mulX (i := m.e) (j := y) (e_far hm.e1) (Nat.lt_of_le_of_lt hyy (by decide +kernel))
  have hB0 : 0 < (m.q.den : Int) * m.t.den := Int.mul_pos (by have := m.q.den_pos; omega) (by have := m.t.den_pos; omega)
  have hB1 : (m.q.den : Int) * m.t.den < 1073741824 := by
    have h := Nat.mul_le_mul hd4 hd2
    have e : ((m.q.den : Int) * m.t.den) = ((m.q.den * m.t.den : Nat) : Int) := (Int.natCast_mul _ _).symm
    rw [e]
    have e2 : (20000 : Nat) * 50000 = 1000000000 := by decide
    rw [e2] at h
    omega
  have d1 := o_fdiv (i := m.q.num * x * m.t.den + m.t.num * m.q.den) hB0 (by omega)
  have d2 := o_mod (i := m.q.num * x * m.t.den + m.t.num * m.q.den) hB0
  obtain ⟨w1, w2⟩ := dv_whole (m.q.num * x * m.t.den + m.t.num * m.q.den) _ hB0
  rw [lin_dv] at w1 w2
  unfold f_law_lands m_law_lands
  refine Gv.run (a0 := [some (.d (mvD m)), some (.d (tI [x, y])), none, none, none, none, none, none, none]) rfl fun b => ?_
  unfold mvD
  refine k_mid (fun s => ∃ b, s = ⟨[some (.d (.tuple [frD m.q, frD m.t, .int m.e, .int m.v])), some (.d (tI [x, y])), some (.d (frD m.q)), some (.d (frD m.t)), some (.d (.int m.e)), some (.d (.int m.v)), none, none, none], b⟩) ?_ ?_
  · and_intros
    exact ⟨rfl, _, rfl⟩
  rintro s ⟨b1, rfl⟩
  unfold frD
  simp only [tI, List.map]
  and_intros
  have hnone : ¬ ((m.q * x + m.t).den = 1 ∧ far (m.q * x + m.t).num ∧ far (m.e * y + m.v)) → oD (landL m [x, y]) = .none := fun h => by
    simp only [landL]
    rw [if_neg h]
    rfl
  refine kOr.of (fun c => ?_) (fun c => ?_)
  · have c1 : ¬ (m.q * x + m.t).den = 1 := fun h => by
      rw [w1.mp h] at c
      exact absurd c (by decide)
    and_intros
    rw [hnone fun h => c1 h.1]
  · have c0 : (m.q.num * x * m.t.den + m.t.num * m.q.den) % ((m.q.den : Int) * m.t.den) = 0 := by simpa using c
    have e1 := w2 c0
    have e0 := w1.mpr c0
    rw [← e1]
    and_intros
    refine kOr.of (fun c1 => ?_) (fun c1 => ?_)
    · have c2 := of_decide_eq_true c1
      and_intros
      rw [hnone fun h => by
        have h2 := h.2.1
        unfold far at h2
        split at c2 <;> omega]
    · have h1 : far (m.q * x + m.t).num := by
        have c2 := of_decide_eq_false c1
        unfold far
        split at c2 <;> omega
      and_intros
      refine kCond.of (fun c1 => ?_) (fun c1 => ?_)
      · have c2 := of_decide_eq_true c1
        and_intros
        rw [hnone fun h => by
          have h2 := h.2.2
          unfold far at h2
          split at c2 <;> omega]
      · have h2 : far (m.e * y + m.v) := by
          have c2 := of_decide_eq_false c1
          unfold far
          split at c2 <;> omega
        and_intros
        simp only [landL]
        rw [if_pos ⟨e0, h1, h2⟩]
        rfl
def hitB (ps : List (List Int)) (m : Mv) (p : List Int) : Bool := match landL m p with
  | none => false
  | some q => decide (q ∈ ps)
def hitF (ps : List (List Int)) (m : Mv) (d : D) : Option D := match tupI? d with
  | some p => if hitB ps m p = true then some d else none
  | none => none
theorem hitF_at {ps : List (List Int)} {m : Mv} {p : List Int} (h : p ≠ []) : hitF ps m (tI p) = if hitB ps m p = true then some (tI p) else none := by
  unfold hitF
  rw [tupI_pt h]
theorem hitF_all (ps : List (List Int)) (m : Mv) : ∀ A : List (List Int), (∀ p ∈ A, p ≠ []) → (A.map tI).filterMap (hitF ps m) = (A.filter (hitB ps m)).map tI
  | [], _ => rfl
  | p :: A, h => by
    have ih := hitF_all ps m A fun q hq => h q (List.mem_cons_of_mem _ hq)
    have e := hitF_at (ps := ps) (m := m) (h p List.mem_cons_self)
    rw [List.map_cons]
    by_cases c : hitB ps m p = true
    · rw [if_pos c] at e
      rw [List.filterMap_cons_some e, ih, List.filter_cons_of_pos c, List.map_cons]
    · rw [if_neg c] at e
      rw [List.filterMap_cons_none e, ih, List.filter_cons_of_neg c]
theorem hits_gv {Q N T : Nat} (m : Mv) (hm : MB Q N T m) (hQ : Q ≤ 20000) (hN : N ≤ 50000) (hT : T ≤ 10 ^ 40) {A : List (List Int)} (pA : ∀ p ∈ A, Pt p) (la : A.length ≤ 1000) {sc : D} {ps : List (List Int)} (gp : Gv f_points_of [.d sc] (· = .d (.tuple (ps.map tI)))) (hl : ps.length < 64) (hne : ∀ p ∈ ps, p ≠ []) :
    Gv f_hits [.d sc, .d (fgD A), .d (mvD m)] (· = .d (fgD (A.filter (hitB ps m)))) := by
  have hA0 : ∀ p ∈ A, p ≠ [] := fun p hp => (pA p hp).ne
  unfold f_hits m_hits
  refine Gv.run (a0 := [some (.d sc), some (.d (fgD A)), some (.d (mvD m)), none, none]) rfl fun b => ?_
  refine k_mid (fun s => ∃ b, s = ⟨[some (.d sc), some (.d (fgD A)), some (.d (mvD m)), some (.st ps), none], b⟩) ?_ ?_
  · refine k_setSet ?_
    and_intros
    refine kCall.mk rfl rfl gp ?_
    rintro _ b1 rfl
    and_intros
    exact ⟨_, _, ps, rfl, tupsI_pts ps hne, rfl, hl, rfl, _, rfl⟩
  rintro s ⟨b1, rfl⟩
  and_intros
  refine kLc_filt (hitF ps m) rfl (by rw [List.length_map]; omega) ?_ ?_
  · intro d hd b2
    obtain ⟨p, hp, rfl⟩ := List.mem_map.mp hd
    have e := hitF_at (ps := ps) (m := m) (hA0 p hp)
    have gl := lands_gv m hm hQ hN hT (pA p hp)
    refine ⟨_, rfl, ?_⟩
    refine k_B (k_inSet ?_)
    and_intros
    refine kCall.mk rfl rfl gl ?_
    rintro _ b3 rfl
    cases h : landL m p with
    | none =>
      have hb : hitB ps m p = false := by unfold hitB; rw [h]
      rw [hb] at e
      refine ⟨.none, ps, rfl, rfl, .inl ⟨rfl, ?_⟩⟩
      and_intros
      exact ⟨fun c => (nomatch c), fun _ => ⟨rfl, e⟩⟩
    | some q =>
      have hb : hitB ps m p = decide (q ∈ ps) := by unfold hitB; rw [h]
      rw [hb] at e
      refine ⟨tI q, ps, rfl, rfl, .inr ⟨q, tupI_pt (landL_pt h).ne, ?_⟩⟩
      and_intros
      refine ⟨fun c => ?_, fun c => ⟨rfl, by rw [e, c]; rfl⟩⟩
      and_intros
      exact ⟨_, rfl, rfl, by rw [e, c]; rfl⟩
  · intro b3
    rw [hitF_all ps m A hA0]
    and_intros
    rfl
theorem none_in (ds : List D) (hp : ∀ d ∈ ds, Pln 2 d) : dInS .none (.list ds) = some (.d (.bool (anyEqv .none ds))) := by
  unfold dInS
  rw [if_pos]
  exact (pln_none 0).eqk (pln_lst hp) (by decide) (by decide)
theorem in_none (ps : List (List Int)) : dInS .none (.list (ps.map tI)) = some (.d (.bool false)) := by
  rw [none_in (ps.map tI) fun d hd => by obtain ⟨p, _, rfl⟩ := List.mem_map.mp hd; exact (pln_tI p).mono (by decide)]
  have e : anyEqv .none (ps.map tI) = false := by
    unfold anyEqv
    refine List.any_eq_false.mpr fun d hd h => ?_
    obtain ⟨p, _, rfl⟩ := List.mem_map.mp hd
    exact absurd ((eqv_iff _ _ (nb_tI p) rfl).mp h) (by simp [tI])
  rw [e]
theorem in_pts (q : List Int) (ps : List (List Int)) : dInS (tI q) (.list (ps.map tI)) = some (.d (.bool (decide (q ∈ ps)))) := by
  have h1 : dInS (tI q) (.list (ps.map tI)) = some (.d (.bool (anyEqv (tI q) (ps.map tI)))) := by
    unfold dInS
    rw [if_pos]
    exact (pln_tI q).eqk (pln_lst (k := 1) fun d hd => by obtain ⟨p, _, rfl⟩ := List.mem_map.mp hd; exact pln_tI p) (by decide) (by decide)
  have e : anyEqv (tI q) (ps.map tI) = decide (q ∈ ps) := by
    unfold anyEqv
    rw [Bool.eq_iff_iff, decide_eq_true_eq, List.any_eq_true]
    constructor
    · rintro ⟨d, hd, h⟩
      obtain ⟨p, hp, rfl⟩ := List.mem_map.mp hd
      rw [eqv_tI] at h
      have := of_decide_eq_true h
      rw [← this]; exact hp
    · intro h
      exact ⟨tI q, List.mem_map.mpr ⟨q, h, rfl⟩, by rw [eqv_tI]; exact decide_eq_true rfl⟩
  rw [h1, e]
theorem law_hits_gv {Q N T : Nat} (m : Mv) (hm : MB Q N T m) (hQ : Q ≤ 20000) (hN : N ≤ 50000) (hT : T ≤ 10 ^ 40) {A : List (List Int)} (pA : ∀ p ∈ A, Pt p) (la : A.length ≤ 1000) (ps : List (List Int)) :
    Gv f_law_hits [.d (.list (ps.map tI)), .d (fgD A), .d (mvD m)] (· = .d (fgD (A.filter (hitB ps m)))) := by
  have hA0 : ∀ p ∈ A, p ≠ [] := fun p hp => (pA p hp).ne
  unfold f_law_hits m_law_hits
  refine Gv.run (a0 := [some (.d (.list (ps.map tI))), some (.d (fgD A)), some (.d (mvD m)), none]) rfl fun b => ?_
  have i1 := in_none ps
  and_intros
  refine kLc_filt (hitF ps m) rfl (by rw [List.length_map]; omega) ?_ ?_
  · intro d hd b2
    obtain ⟨p, hp, rfl⟩ := List.mem_map.mp hd
    have e := hitF_at (ps := ps) (m := m) (hA0 p hp)
    have gl := law_lands_gv m hm hQ hN hT (pA p hp)
    refine ⟨_, rfl, ?_⟩
    and_intros
    refine kCall.mk rfl rfl gl ?_
    rintro _ b3 rfl
    cases h : landL m p with
    | none =>
      have hb : hitB ps m p = false := by unfold hitB; rw [h]
      rw [hb] at e
      simp only [oD]
      and_intros
      exact ⟨fun c => (nomatch c), fun _ => ⟨rfl, e⟩⟩
    | some q =>
      have hb : hitB ps m p = decide (q ∈ ps) := by unfold hitB; rw [h]
      have i2 := in_pts q ps
      rw [hb] at e
      simp only [oD]
      and_intros
      refine ⟨fun c => ?_, fun c => ⟨rfl, by rw [e, c]; rfl⟩⟩
      and_intros
      exact ⟨_, rfl, rfl, by rw [e, c]; rfl⟩
  · intro b3
    rw [hitF_all ps m A hA0]
    and_intros
    rfl
/-! ## scores -/
structure Nt where
  a : Int
  b : Int
  c : Int
  d : Int
def noteD (n : Nt) : D := tI [n.a, n.b, n.c, n.d]
def NIn (n : Nt) : Prop := (0 ≤ n.a ∧ n.a ≤ 7) ∧ (0 ≤ n.b ∧ n.b ≤ 127) ∧ (0 ≤ n.c ∧ n.c ≤ 7) ∧ 1 ≤ n.d ∧ n.d ≤ 999
theorem fit_small {i : Int} (h1 : -10000 < i) (h2 : i < 10000) : Fit 6 0 (.int i) := (fit_int 5 (by decide) (by decide) (Nat.lt_of_lt_of_le (show i.natAbs < 10000 by omega) (by decide))).mono (by decide) (Nat.le_refl _)
/-! ## notes and scores that are drawn -/
def keyN (n : Nt) : List Key := [.inl n.a, .inl n.b, .inl n.c]
def numN (n : Nt) : List Int := [n.a, n.b, n.c]
structure DictN (l : List (List Key × D)) (m : Nat) : Prop where
  len : l.length ≤ m
  nod : (l.map (·.1)).Nodup
  ent : ∀ q ∈ l, ∃ n, NIn n ∧ q.1 = keyN n ∧ q.2 = .int n.d
theorem dictN_put {l : List (List Key × D)} {m : Nat} {n : Nt} (h : DictN l m) (hn : NIn n) : DictN (dPut l (keyN n) (.int n.d)) (m + 1) := by
  refine ⟨Nat.le_trans (dPut_len _ _ _) (Nat.succ_le_succ h.len), dPut_nodup h.nod, fun q hq => ?_⟩
  rcases dPut_key q hq with ⟨e1, e2⟩ | hq
  · exact ⟨n, hn, e1, e2⟩
  · exact h.ent q hq
theorem putT {l : List (List Key × D)} {ks : List D} {q : List Key} {v : D} (h : l.length ≤ 10000) (hk : keysOf ks = some q) : putC (.dT l) (.tuple ks) v = some (.dT (dPut l q v)) := by
  unfold putC
  simp only [hk]
  exact if_pos (Nat.lt_of_le_of_lt h (Nat.lt_of_lt_of_le (by decide) big))
theorem ints_map : ∀ ns : List Int, intsD? (ns.map .int) = some ns := ints_of_ints
theorem tupI_tI {ns : List Int} (h : ns ≠ []) : tupI? (tI ns) = some ns := by
  cases ns with
  | nil => exact absurd rfl h
  | cons i r =>
    show (match intsD? ((i :: r).map .int) with | some (i :: r) => some (i :: r) | _ => none) = _
    rw [ints_map]
theorem tupsI_map : ∀ L : List (List Int), (∀ x ∈ L, x ≠ []) → tupsI? (L.map tI) = some L
  | [], _ => rfl
  | x :: L, h => by
    rw [List.map_cons, tupsI?, tupI_tI (h x List.mem_cons_self)]
    simp only
    rw [tupsI_map L fun y hy => h y (List.mem_cons_of_mem _ hy)]
    rfl
theorem sorted_tI {L : List (List Int)} (h : ∀ x ∈ L, x ≠ []) : fSorted [.list (L.map tI)] = some (.o (.lst ((sortI L).map tI))) := by
  simp only [fSorted, tupsI_map L h]
  rfl
theorem keys_nums : ∀ l : List (List Key × D), (∀ q ∈ l, ∃ n, NIn n ∧ q.1 = keyN n ∧ q.2 = .int n.d) → ∃ L : List Nt, l = L.map (fun n => (keyN n, PyData.int n.d)) ∧ ∀ n ∈ L, NIn n
  | [], _ => ⟨[], rfl, by simp⟩
  | q :: l, h => by
    obtain ⟨n, h1, h2, h3⟩ := h q List.mem_cons_self
    obtain ⟨L, e, hL⟩ := keys_nums l fun r hr => h r (List.mem_cons_of_mem _ hr)
    refine ⟨n :: L, ?_, fun m hm => ?_⟩
    · rw [List.map_cons, e, ← h2, ← h3]
    · rcases List.mem_cons.mp hm with rfl | hm
      · exact h1
      · exact hL m hm
def Asc (L : List (List Int)) : Prop := L.Pairwise fun x y => HT.lexLt x y = true
theorem asc_sort {L : List (List Int)} (h : L.Nodup) : Asc (sortI L) := by
  have h1 : List.Pairwise (fun x y => HT.lexLt y x = false) (sortI L) := sortI_srtd L
  have h2 : (sortI L).Nodup := (sortI_perm L).nodup_iff.mpr h
  refine List.Pairwise.imp₂ (fun x y a b => ?_) h1 h2
  cases e : HT.lexLt x y with
  | true => rfl
  | false => exact absurd (lex_anti x y e a) b
/-- a score, as it is drawn -/
structure ScoreD (m : Nat) (d : D) (ns : List Nt) : Prop where
  eq : d = .tuple (ns.map noteD)
  len : ns.length ≤ m
  inn : ∀ n ∈ ns, NIn n
  asc : Asc (ns.map numN)
def backF (l : List (List Key × D)) : D → Option D
  | .tuple [.int a, .int b, .int c] => match dGetK l [.inl a, .inl b, .inl c] with
    | some v => some (.tuple [.int a, .int b, .int c, v])
    | none => none
  | _ => none
theorem back_list (l : List (List Key × D)) (hl : ∀ q ∈ l, ∃ n, NIn n ∧ q.1 = keyN n ∧ q.2 = .int n.d) : ∀ SL : List (List Int), (∀ x ∈ SL, ∃ n, x = numN n ∧ ∃ v, (keyN n, v) ∈ l) → ∃ ns : List Nt, (SL.map tI).filterMap (backF l) = ns.map noteD ∧ ns.map numN = SL ∧ ∀ n ∈ ns, NIn n
  | [], _ => ⟨[], rfl, rfl, by simp⟩
  | x :: SL, h => by
    obtain ⟨n, rfl, v, hv⟩ := h x List.mem_cons_self
    obtain ⟨ns, e1, e2, e3⟩ := back_list l hl SL fun y hy => h y (List.mem_cons_of_mem _ hy)
    obtain ⟨w, g1, g2⟩ := dGet_mem l _ hv
    obtain ⟨n', k1, k2, k3⟩ := hl _ g2
    simp only at k2 k3 g1
    have ea : n.a = n'.a ∧ n.b = n'.b ∧ n.c = n'.c := by
      simp only [keyN, List.cons.injEq, Sum.inl.injEq, and_true] at k2
      exact k2
    have eb : backF l (tI (numN n)) = some (noteD n') := by
      show (match dGetK l (keyN n) with | some v => some (PyData.tuple [.int n.a, .int n.b, .int n.c, v]) | none => none) = _
      rw [g1, k3, ea.1, ea.2.1, ea.2.2]
      rfl
    refine ⟨n' :: ns, ?_, ?_, fun m hm => ?_⟩
    · rw [List.map_cons, List.filterMap_cons_some eb, e1, List.map_cons]
    · rw [List.map_cons, e2]
      simp only [numN, ea.1, ea.2.1, ea.2.2]
    · rcases List.mem_cons.mp hm with rfl | hm
      · exact k1
      · exact e3 m hm
theorem law_score_gv (m : Nat) (hm : m ≤ 60) : Gv f_law_score [.bx, .d (.int m), .d (.int 8)] fun r => ∃ d ns, r = .d d ∧ ScoreD m d ns := by
  unfold f_law_score m_law_score
  refine Gv.run (a0 := [some .bx, some (.d (.int m)), some (.d (.int 8)), none, none, none]) rfl fun b => ?_
  and_intros
  rw [show ((m : Int)).toNat = m by omega]
  refine k_rng (I := fun k c s => ∃ (l : List (List Key × D)) (x4 : Option R) (t : Nat) (b : Bx), DictN l t ∧ t + c = m ∧ s = ⟨[some .bx, some (.d (.int m)), some (.d (.int 8)), some (.o (.dT l)), x4, none], b⟩) ?_ ?_ _ _ _ ⟨[], _, 0, _, ⟨Nat.le_refl _, by simp, by simp⟩, by omega, rfl⟩
  · rintro k c s ⟨l, x4, t, b, hd, ht, rfl⟩
    have hll : l.length ≤ 10000 := Nat.le_trans hd.len (by omega)
    refine ⟨_, rfl, ?_⟩
    dsimp only [List.set]
    and_intros
    refine kCall.mk rfl rfl (draw_gv 9 (by decide) (by decide)) ?_
    rintro _ b2 ⟨u, rfl, u0, u1⟩
    and_intros
    refine kCall.mk rfl rfl (draw_gv 8 (by decide) (by decide)) ?_
    rintro _ b3 ⟨x, rfl, x0, x1⟩
    and_intros
    refine kCall.mk rfl rfl (draw_gv 6 (by decide) (by decide)) ?_
    rintro _ b4 ⟨y, rfl, y0, y1⟩
    and_intros
    refine kCall.mk rfl rfl (draw_gv 3 (by decide) (by decide)) ?_
    rintro _ b5 ⟨z, rfl, z0, z1⟩
    and_intros
    refine kPut.mk rfl rfl (putT hll rfl) ?_
    and_intros
    exact ⟨_, _, t + 1, _, dictN_put (n := ⟨x, 60 + y, z, 1 + u⟩) hd ⟨⟨by show 0 ≤ x; omega, by show x ≤ 7; omega⟩, ⟨by show 0 ≤ 60 + y; omega, by show 60 + y ≤ 127; omega⟩, ⟨by show 0 ≤ z; omega, by show z ≤ 7; omega⟩, by show 1 ≤ 1 + u; omega, by show 1 + u ≤ 999; omega⟩, by omega, rfl⟩
  · rintro k s ⟨l, x4, t, b, hd, ht, rfl⟩
    obtain ⟨L, rfl, hL⟩ := keys_nums l hd.ent
    have hk : keysD (L.map fun n => (keyN n, PyData.int n.d)) = (L.map numN).map tI := by
      simp only [keysD, List.map_map]
      exact List.map_congr_left fun n _ => rfl
    have hs := sorted_tI (L := L.map numN) fun x hx => by
      obtain ⟨n, _, rfl⟩ := List.mem_map.mp hx
      simp [numN]
    rw [← hk] at hs
    have hmem : ∀ x ∈ sortI (L.map numN), ∃ n, x = numN n ∧ ∃ v, (keyN n, v) ∈ L.map fun n => (keyN n, PyData.int n.d) := fun x hx => by
      obtain ⟨n, hn, rfl⟩ := List.mem_map.mp ((sortI_perm _).mem_iff.mp hx)
      exact ⟨n, rfl, _, List.mem_map.mpr ⟨n, hn, rfl⟩⟩
    have hlen : (sortI (L.map numN)).length = L.length := by rw [(sortI_perm _).length_eq, List.length_map]
    have hLl : L.length ≤ m := by have := hd.len; rw [List.length_map] at this; omega
    and_intros
    refine kLc.pure (backF (L.map fun n => (keyN n, PyData.int n.d))) rfl (by rw [List.length_map, hlen]; omega) ?_ ?_
    · intro d hdm
      obtain ⟨x, hx, rfl⟩ := List.mem_map.mp hdm
      obtain ⟨n', rfl, v, hv⟩ := hmem x hx
      obtain ⟨w, g1, g2⟩ := dGet_mem _ _ hv
      refine ⟨_, rfl, ?_⟩
      dsimp only [wipeA, List.set]
      and_intros
      refine ⟨fun _ => ?_, fun h => nomatch h⟩
      have hg : getC (.dT (L.map fun n => (keyN n, PyData.int n.d))) (tI (numN n')) = some (some w) := by
        show some (dGetK _ (keyN n')) = _
        rw [g1]
      have hadd : dAdd (tI (numN n')) (.tuple [w]) = some (.d (.tuple [.int n'.a, .int n'.b, .int n'.c, w])) := o_addT2 (Nat.le_of_ble_eq_true rfl) (Nat.le_of_ble_eq_true rfl)
      and_intros
      refine kGetD.mk rfl hg ?_
      and_intros
      refine ⟨_, rfl, rfl, rfl, ?_⟩
      show (match dGetK _ (keyN n') with | some v => some (PyData.tuple [.int n'.a, .int n'.b, .int n'.c, v]) | none => none) = _
      rw [g1]
    · obtain ⟨ns, e1, e2, e3⟩ := back_list _ hd.ent _ hmem
      rw [e1]
      and_intros
      refine ⟨_, ns, rfl, rfl, ?_, e3, ?_⟩
      · have h1 : ns.length = (ns.map numN).length := (List.length_map ..).symm
        rw [h1, e2, hlen]; exact hLl
      · rw [e2]
        refine asc_sort ?_
        have h1 := hd.nod
        rw [List.map_map] at h1
        have h2 : (L.map keyN).Nodup := h1
        refine (List.pairwise_map.mpr ((List.pairwise_map.mp h2).imp fun {a b} hab e => hab ?_))
        simp only [numN, List.cons.injEq, and_true] at e
        simp only [keyN, e.1, e.2.1, e.2.2]
theorem fit_note {n : Nt} (h : NIn n) : Fit 35 1 (noteD n) := by
  obtain ⟨h1, h2, h3, h4⟩ := h
  refine (fit_tup (n := 6) (k := 0) 4 (by simp) fun d hd => ?_).mono (by decide) (by decide)
  simp only [List.map_cons, List.map_nil, List.mem_cons, List.not_mem_nil, or_false] at hd
  rcases hd with rfl | rfl | rfl | rfl
  all_goals exact fit_small (by omega) (by omega)

def ptN (n : Nt) : List Int := [n.a, n.b]
def ptsN (ns : List Nt) : List (List Int) := sortU (ns.map ptN)
theorem points_of_gv (ns : List Nt) (hl : ns.length ≤ 63) : Gv f_points_of [.d (.tuple (ns.map noteD))] (· = .d (.tuple ((ptsN ns).map tI))) := by
  unfold f_points_of m_points_of
  refine Gv.run (a0 := [some (.d (.tuple (ns.map noteD))), none]) rfl fun b => ?_
  and_intros
  refine kLc.pure (fun d => match d with
    | .tuple l => some (.tuple (cutG l none (some 2)))
    | _ => none) rfl (by rw [List.length_map]; omega) ?_ ?_
  · intro d hd
    obtain ⟨n, _, rfl⟩ := List.mem_map.mp hd
    refine ⟨_, rfl, ?_⟩
    dsimp only [wipeA, List.set]
    and_intros
    refine ⟨fun _ => ?_, fun h => nomatch h⟩
    unfold noteD tI
    and_intros
    exact ⟨_, rfl, rfl, rfl, rfl⟩
  · have e : (ns.map noteD).filterMap (fun d => match d with
        | .tuple l => some (.tuple (cutG l none (some 2)))
        | _ => none) = (ns.map ptN).map tI := by
      rw [List.filterMap_map, List.map_map, ← List.filterMap_eq_map]
      rfl
    rw [e]
    refine kSet'.mk (fST_tI (fun x hx => ?_) (by rw [List.length_map]; exact hl)) ?_
    · obtain ⟨n, _, rfl⟩ := List.mem_map.mp hx
      simp [ptN]
    · and_intros
      rfl
theorem law_points_gv (ns : List Nt) (hl : ns.length ≤ 63) : Gv f_law_points [.d (.tuple (ns.map noteD))] (· = .o (.lst ((ptsN ns).map tI))) := by
  unfold f_law_points m_law_points
  refine Gv.run (a0 := [some (.d (.tuple (ns.map noteD))), none]) rfl fun b => ?_
  and_intros
  refine kLc.pure (fun d => match d with
    | .tuple l => some (.tuple (cutG l none (some 2)))
    | _ => none) rfl (by rw [List.length_map]; omega) ?_ ?_
  · intro d hd
    obtain ⟨n, _, rfl⟩ := List.mem_map.mp hd
    refine ⟨_, rfl, ?_⟩
    dsimp only [wipeA, List.set]
    and_intros
    refine ⟨fun _ => ?_, fun h => nomatch h⟩
    unfold noteD tI
    and_intros
    exact ⟨_, rfl, rfl, rfl, rfl⟩
  · have e : (ns.map noteD).filterMap (fun d => match d with
        | .tuple l => some (.tuple (cutG l none (some 2)))
        | _ => none) = (ns.map ptN).map tI := by
      rw [List.filterMap_map, List.map_map, ← List.filterMap_eq_map]
      rfl
    rw [e]
    have h : fSortSet [.list ((ns.map ptN).map tI)] = some (.o (.lst ((ptsN ns).map tI))) := by
      show (fST ((ns.map ptN).map tI)).map (fun l => R.o (C.lst l)) = _
      rw [fST_tI (fun x hx => by obtain ⟨n, _, rfl⟩ := List.mem_map.mp hx; simp [ptN]) (by rw [List.length_map]; exact hl)]
      rfl
    and_intros
    rfl
/-! ## a figure -/
def PB (n m : Nat) (p : List Int) : Prop := ∃ x y, p = [x, y] ∧ x.natAbs ≤ n ∧ y.natAbs ≤ m
theorem ne_nil (ps : List (List Int)) : dNe (.list (ps.map tI)) (.list []) = some (.d (.bool (!decide (ps = [])))) := by
  rw [o_neP ((pln_lst (k := 1) fun d hd => by obtain ⟨p, _, rfl⟩ := List.mem_map.mp hd; exact pln_tI p).mono (by decide)) ((pln_lst (k := 0) (l := []) fun d hd => by cases hd).mono (by decide))]
  have : (!PyData.eqv (.list (ps.map tI)) (.list [])) = !decide (ps = []) := by
    cases ps <;> simp [PyData.eqv, PyData.eqvAll]
  rw [this]
theorem nin_pts (q : List Int) (ps : List (List Int)) : dNinS (tI q) (.list (ps.map tI)) = some (.d (.bool (!decide (q ∈ ps)))) := by
  have h1 : dNinS (tI q) (.list (ps.map tI)) = some (.d (.bool (!anyEqv (tI q) (ps.map tI)))) := by
    unfold dNinS
    rw [if_pos]
    exact (pln_tI q).eqk (pln_lst (k := 1) fun d hd => by obtain ⟨p, _, rfl⟩ := List.mem_map.mp hd; exact pln_tI p) (by decide) (by decide)
  have e : anyEqv (tI q) (ps.map tI) = decide (q ∈ ps) := by
    unfold anyEqv
    rw [Bool.eq_iff_iff, decide_eq_true_eq, List.any_eq_true]
    constructor
    · rintro ⟨d, hd, h⟩
      obtain ⟨p, hp, rfl⟩ := List.mem_map.mp hd
      rw [eqv_tI] at h
      have := of_decide_eq_true h
      rw [← this]; exact hp
    · intro h
      exact ⟨tI q, List.mem_map.mpr ⟨q, h, rfl⟩, by rw [eqv_tI]; exact decide_eq_true rfl⟩
  rw [h1, e]
def oneF (x0 : Int) : D → Option D
  | .tuple [.int x, _] => if x = x0 then none else some (.int 1)
  | _ => none
theorem oneF_ints (x0 : Int) : ∀ L : List (List Int), ∃ is, intsD? ((L.map tI).filterMap (oneF x0)) = some is
  | [] => ⟨[], rfl⟩
  | p :: L => by
    obtain ⟨is, e⟩ := oneF_ints x0 L
    rw [List.map_cons]
    cases h : oneF x0 (tI p) with
    | none => rw [List.filterMap_cons_none h]; exact ⟨is, e⟩
    | some d =>
      have : d = .int 1 := by
        unfold oneF at h
        split at h
        · split at h
          · cases h
          · cases h; rfl
        · cases h
      subst this
      rw [List.filterMap_cons_some h]
      refine ⟨1 :: is, ?_⟩
      show (intsD? ((L.map tI).filterMap (oneF x0))).map (1 :: ·) = _
      rw [e]
      rfl
theorem oneF_pln (x0 : Int) (L : List (List Int)) : ∀ d ∈ (L.map tI).filterMap (oneF x0), Pln 1 d := fun d hd => by
  obtain ⟨e, _, h⟩ := List.mem_filterMap.mp hd
  unfold oneF at h
  split at h
  · split at h
    · cases h
    · cases h; exact pln_int 1 1
  · cases h
theorem eq_empty {W : List D} (h : ∀ d ∈ W, Pln 1 d) : dEq (.list W) (.list []) = some (.d (.bool (decide (W = [])))) := by
  rw [o_eqP ((pln_lst h).mono (by decide)) ((pln_lst (k := 0) (l := []) fun d hd => by cases hd).mono (by decide))]
  have : PyData.eqv (.list W) (.list []) = decide (W = []) := by
    cases W <;> simp [PyData.eqv, PyData.eqvAll]
  rw [this]
theorem law_figure_gv (ps : List (List Int)) (many : Int) (h1 : 2 ≤ many) (h2 : many ≤ 5) (hps : ∀ p ∈ ps, PB 7 127 p) (hpl : ps.length ≤ 100) : Gv f_law_figure [.bx, .d (.list (ps.map tI)), .d (.int many)] fun r => ∃ A, r = .d (fgD A) ∧ (∀ p ∈ A, PB 20 300 p) ∧ A ≠ [] ∧ A.length ≤ 6 := by
  unfold f_law_figure m_law_figure
  refine Gv.run (a0 := [some .bx, some (.d (.list (ps.map tI))), some (.d (.int many)), none, none, none, none, none]) rfl fun b => ?_
  have nn := ne_nil ps
  and_intros
  refine kCall.mk rfl rfl (draw_gv 9 (by decide) (by decide)) ?_
  rintro _ b1 ⟨f, rfl, f0, f1⟩
  and_intros
  refine kCall.mk rfl rfl (draw_gv 90 (by decide) (by decide)) ?_
  rintro _ b2 ⟨g, rfl, g0, g1⟩
  and_intros
  refine k_rng (I := fun k c s => ∃ (L : List (List Int)) (t : Nat) (x6 x7 : Option D) (b : Bx), (∀ p ∈ L, PB 11 200 p) ∧ L.length ≤ t ∧ (0 < t → L ≠ []) ∧ t + c = many.toNat ∧ s = ⟨[some .bx, some (.d (.list (ps.map tI))), some (.d (.int many)), some (.o (.lst (L.map tI))), some (.d (.int (f - 4))), some (.d (.int (g - 20))), x6.map .d, x7.map .d], b⟩) ?_ ?_ _ _ _ ⟨[], 0, none, none, _, fun p hp => (nomatch hp), Nat.le_refl _, fun h => absurd h (by decide), by omega, rfl⟩
  · rintro k c s ⟨L, t, x6, x7, b, hL, hl, hne, ht, rfl⟩
    refine ⟨_, rfl, ?_⟩
    dsimp only [List.set]
    and_intros
    refine kCall.mk rfl rfl (draw_gv 8 (by decide) (by decide)) ?_
    rintro _ b3 ⟨x, rfl, x0, x1⟩
    and_intros
    refine kCall.mk rfl rfl (draw_gv 6 (by decide) (by decide)) ?_
    rintro _ b4 ⟨y, rfl, y0, y1⟩
    subst_eqs
    refine q_nx (k_mid (fun s => ∃ (x y : Int) (b : Bx), x.natAbs ≤ 7 ∧ y.natAbs ≤ 127 ∧ s = ⟨[some .bx, some (.d (.list (ps.map tI))), some (.d (.int many)), some (.o (.lst (L.map tI))), some (.d (.int (f - 4))), some (.d (.int (g - 20))), some (.d (.int k)), some (.d (tI [x, y]))], b⟩) ?_ ?_)
    · have keep : ∃ (x' y' : Int) (b : Bx), x'.natAbs ≤ 7 ∧ y'.natAbs ≤ 127 ∧ (⟨[some .bx, some (.d (.list (ps.map tI))), some (.d (.int many)), some (.o (.lst (L.map tI))), some (.d (.int (f - 4))), some (.d (.int (g - 20))), some (.d (.int k)), some (.d (tI [x, 60 + y]))], b4⟩ : S) = ⟨[some .bx, some (.d (.list (ps.map tI))), some (.d (.int many)), some (.o (.lst (L.map tI))), some (.d (.int (f - 4))), some (.d (.int (g - 20))), some (.d (.int k)), some (.d (tI [x', y']))], b⟩ := ⟨x, 60 + y, b4, by omega, by omega, rfl⟩
      and_intros
      refine kAnd.of (fun c1 => ?_) (fun c1 => ?_)
      · have hp0 : ps ≠ [] := by simpa using c1
        and_intros
        refine kCall.mk rfl rfl (draw_gv 4 (by decide) (by decide)) ?_
        rintro _ b5 ⟨u, rfl, u0, u1⟩
        and_intros
        refine kCond.of (fun c2 => ?_) (fun c2 => ?_)
        · and_intros
          refine kCall.mk rfl rfl (pick_gv (ps.map tI) (fun e => hp0 (List.map_eq_nil_iff.mp e)) (by rw [List.length_map]; omega)) ?_
          rintro _ b6 ⟨d, rfl, hd⟩
          obtain ⟨p, hp, rfl⟩ := List.mem_map.mp hd
          obtain ⟨x', y', rfl, hx, hy⟩ := hps p hp
          and_intros
          exact ⟨rfl, x', y', _, hx, hy, rfl⟩
        · and_intros
          exact ⟨rfl, x, 60 + y, _, by omega, by omega, rfl⟩
      · and_intros
        exact ⟨rfl, x, 60 + y, _, by omega, by omega, rfl⟩
    · rintro s ⟨x, y, b5, hx, hy, rfl⟩
      have i0 : dIdx (tI [x, y]) (.int 0) = some (.d (.int x)) := o_idx0
      have i1 : dIdx (tI [x, y]) (.int 1) = some (.d (.int y)) := o_idx1
      have hnin : dNinS (.tuple [.int (x + (f - 4)), .int (y - (g - 20))]) (.list (L.map tI)) = some (.d (.bool (!decide ([x + (f - 4), y - (g - 20)] ∈ L)))) := nin_pts [x + (f - 4), y - (g - 20)] L
      and_intros
      refine kCond.of (fun c1 => ?_) (fun c1 => ?_)
      · and_intros
        refine kMeth.mk rfl rfl (fAppend_lt (by rw [List.length_map]; omega)) ?_
        and_intros
        have e : L.map tI ++ [PyData.tuple [.int (x + (f - 4)), .int (y - (g - 20))]] = (L ++ [[x + (f - 4), y - (g - 20)]]).map tI := by
          rw [List.map_append]; rfl
        rw [e]
        refine ⟨_, t + 1, some _, some _, _, fun p hp => ?_, by rw [List.length_append]; exact Nat.succ_le_succ hl, fun _ => by simp, by omega, rfl⟩
        rcases List.mem_append.mp hp with hp | hp
        · exact hL p hp
        · simp at hp
          exact ⟨_, _, hp, by omega, by omega⟩
      · have hmem : [x + (f - 4), y - (g - 20)] ∈ L := by simpa using c1
        and_intros
        exact ⟨L, t + 1, some _, some _, _, hL, by omega, fun _ => List.ne_nil_of_mem hmem, by omega, rfl⟩
  · rintro k s ⟨L, t, x6, x7, b3, hL, hl, hne, ht, rfl⟩
    have hL0 : L ≠ [] := hne (by omega)
    obtain ⟨p0, L', rfl⟩ : ∃ p0 L', L = p0 :: L' := by
      cases L with
      | nil => exact absurd rfl hL0
      | cons p L' => exact ⟨p, L', rfl⟩
    obtain ⟨px0, py0, rfl, hx0, hy0⟩ := hL p0 List.mem_cons_self
    have j0 : dIdx (.list (([px0, py0] :: L').map tI)) (.int 0) = some (.d (tI [px0, py0])) := o_idxL (by decide) rfl
    have j1 : dIdx (tI [px0, py0]) (.int 0) = some (.d (.int px0)) := o_idx0
    have j2 : dIdx (tI [px0, py0]) (.int 1) = some (.d (.int py0)) := o_idx1
    obtain ⟨is, hi⟩ := oneF_ints px0 ([px0, py0] :: L')
    have heq := eq_empty (oneF_pln px0 ([px0, py0] :: L'))
    refine q_nx (k_mid (fun s => ∃ (A : List (List Int)) (x6 x7 : Option D) (b : Bx), (∀ p ∈ A, PB 20 300 p) ∧ A ≠ [] ∧ A.length ≤ 6 ∧ s = ⟨[some .bx, some (.d (.list (ps.map tI))), some (.d (.int many)), some (.o (.lst (A.map tI))), some (.d (.int (f - 4))), some (.d (.int (g - 20))), x6.map .d, x7.map .d], b⟩) ?_ ?_)
    · refine k_if (k_B (k_op (k_thaw rfl (by cases x6 <;> cases x7 <;> rfl) ?_)))
      dsimp only [List.set]
      and_intros
      refine kLc.pure (oneF px0) (by cases x7 <;> rfl) (by rw [List.length_map]; omega) ?_ ?_
      · intro d hd
        obtain ⟨p, hp, rfl⟩ := List.mem_map.mp hd
        obtain ⟨x, y, rfl, _⟩ := hL p hp
        have k0 : dIdx (tI [x, y]) (.int 0) = some (.d (.int x)) := o_idx0
        refine ⟨_, rfl, ?_⟩
        and_intros
        refine ⟨fun c => ?_, fun c => ⟨rfl, rfl, ?_⟩⟩
        · have : x ≠ px0 := by simpa using c
          and_intros
          exact ⟨_, rfl, rfl, rfl, if_neg this⟩
        · have : x = px0 := by simpa using c
          exact if_pos this
      · refine ⟨_, is, rfl, hi, ?_⟩
        generalize (([px0, py0] :: L').map tI).filterMap (oneF px0) = W at heq
        and_intros
        refine kCond.of (fun c => ?_) (fun c => ?_)
        · and_intros
          refine kCall.mk rfl rfl (draw_gv 2 (by decide) (by decide)) ?_
          rintro _ b4 ⟨u, rfl, u0, u1⟩
          and_intros
          refine kCall.mk rfl rfl (draw_gv 3 (by decide) (by decide)) ?_
          rintro _ b5 ⟨v, rfl, v0, v1⟩
          and_intros
          refine kMeth.mk rfl rfl (fAppend_lt (by rw [List.length_map]; omega)) ?_
          and_intros
          have e : ([px0, py0] :: L').map tI ++ [PyData.tuple [.int (px0 + 1 + u), .int (py0 + v)]] = (([px0, py0] :: L') ++ [[px0 + 1 + u, py0 + v]]).map tI := by
            rw [List.map_append]; rfl
          rw [e]
          refine ⟨rfl, _, x6, x7, _, fun p hp => ?_, by simp, by rw [List.length_append]; simp only [List.length_cons, List.length_nil] at hl ⊢; omega, rfl⟩
          rcases List.mem_append.mp hp with hp | hp
          · obtain ⟨x, y, e, h1, h2⟩ := hL p hp
            exact ⟨x, y, e, by omega, by omega⟩
          · simp at hp
            exact ⟨_, _, hp, by omega, by omega⟩
        · and_intros
          exact ⟨rfl, _, x6, x7, _, fun p hp => by
            obtain ⟨x, y, e, h1, h2⟩ := hL p hp
            exact ⟨x, y, e, by omega, by omega⟩, hL0, by omega, rfl⟩
    rintro s ⟨A, x6, x7, b4, hA, hA0, hAl, rfl⟩
    have hs := sorted_pts (L := A) fun p hp => by
      obtain ⟨x, y, rfl, _⟩ := hA p hp
      simp
    have hp := sortI_perm A
    and_intros
    refine ⟨sortI A, rfl, fun p h => hA p (hp.mem_iff.mp h), fun e => ?_, by rw [hp.length_eq]; exact hAl⟩
    rw [e] at hp
    exact hA0 hp.symm.eq_nil
/-! ## a move -/
theorem pick_tup (ds : List D) (h0 : ds ≠ []) (h1 : ds.length ≤ 100000) : Gv f_law_pick [.bx, .d (.tuple ds)] fun r => ∃ d, r = .d d ∧ d ∈ ds := by
  have hp : 0 < ds.length := List.length_pos_iff.mpr h0
  unfold f_law_pick m_law_pick
  refine Gv.run (a0 := [some .bx, some (.d (.tuple ds))]) rfl fun b => ?_
  and_intros
  refine kCall.mk rfl rfl (draw_gv _ (by omega) (by omega)) ?_
  rintro _ b1 ⟨u, rfl, u0, u1⟩
  have hu : u.toNat < ds.length := by omega
  have hx : dIdx (.tuple ds) (.int u) = some (.d ds[u.toNat]) := o_idxT u0 (List.getElem?_eq_getElem hu)
  and_intros
  exact ⟨_, rfl, List.getElem_mem _⟩
theorem q_of {d : D} (h : d ∈ ([.tuple [.int 1, .int 1], .tuple [.int 1, .int 1], .tuple [.int (-1), .int 1], .tuple [.int 2, .int 1], .tuple [.int 1, .int 2], .tuple [.int (-1), .int 2], .tuple [.int 3, .int 2], .tuple [.int (-2), .int 3], .tuple [.int 1, .int 3], .tuple [.int 7, .int 5]] : List D)) : ∃ r : Rat, d = frD r ∧ RB 7 7 r ∧ r ≠ 0 := by
  have key : ∀ (a b : Int) (r : Rat), r.num = a → (r.den : Int) = b → r.num.natAbs ≤ 7 → r.den ≤ 7 → r ≠ 0 → ∃ r : Rat, (.tuple [.int a, .int b] : D) = frD r ∧ RB 7 7 r ∧ r ≠ 0 := fun a b r h1 h2 h3 h4 h5 => ⟨r, by unfold frD; rw [h1, h2], ⟨h3, h4⟩, h5⟩
  simp only [List.mem_cons, List.not_mem_nil, or_false] at h
  rcases h with rfl | rfl | rfl | rfl | rfl | rfl | rfl | rfl | rfl | rfl
  · exact key 1 1 (Rat.divInt 1 1) (by decide +kernel) (by decide +kernel) (by decide +kernel) (by decide +kernel) (by decide +kernel)
  · exact key 1 1 (Rat.divInt 1 1) (by decide +kernel) (by decide +kernel) (by decide +kernel) (by decide +kernel) (by decide +kernel)
  · exact key (-1) 1 (Rat.divInt (-1) 1) (by decide +kernel) (by decide +kernel) (by decide +kernel) (by decide +kernel) (by decide +kernel)
  · exact key 2 1 (Rat.divInt 2 1) (by decide +kernel) (by decide +kernel) (by decide +kernel) (by decide +kernel) (by decide +kernel)
  · exact key 1 2 (Rat.divInt 1 2) (by decide +kernel) (by decide +kernel) (by decide +kernel) (by decide +kernel) (by decide +kernel)
  · exact key (-1) 2 (Rat.divInt (-1) 2) (by decide +kernel) (by decide +kernel) (by decide +kernel) (by decide +kernel) (by decide +kernel)
  · exact key 3 2 (Rat.divInt 3 2) (by decide +kernel) (by decide +kernel) (by decide +kernel) (by decide +kernel) (by decide +kernel)
  · exact key (-2) 3 (Rat.divInt (-2) 3) (by decide +kernel) (by decide +kernel) (by decide +kernel) (by decide +kernel) (by decide +kernel)
  · exact key 1 3 (Rat.divInt 1 3) (by decide +kernel) (by decide +kernel) (by decide +kernel) (by decide +kernel) (by decide +kernel)
  · exact key 7 5 (Rat.divInt 7 5) (by decide +kernel) (by decide +kernel) (by decide +kernel) (by decide +kernel) (by decide +kernel)
theorem p20 : dPow (.int 10) (.int 20) = some (.d (.int 100000000000000000000)) := pow_of 10 20 (by decide) (by decide)
theorem law_move_gv (ps : List (List Int)) (hps : ∀ p ∈ ps, PB 7 127 p) (hpl : ps.length ≤ 100) {A : List (List Int)} (hA : ∀ p ∈ A, PB 20 300 p) (hA0 : A ≠ []) (hAl : A.length ≤ 6) : Gv f_law_move [.bx, .d (.list (ps.map tI)), .d (fgD A)] fun r => ∃ m, r = .d (mvD m) ∧ MB 20000 50000 (10 ^ 40) m := by
  have nn := ne_nil ps
  have p20 := p20
  have p30 := p30
  unfold f_law_move m_law_move
  refine Gv.run (a0 := [some .bx, some (.d (.list (ps.map tI))), some (.d (.tuple (A.map tI))), none, none, none, none, none, none]) rfl fun b => ?_
  and_intros
  refine kCall.mk rfl rfl (pick_gv _ (by simp) (by simp)) ?_
  rintro _ b1 ⟨d, rfl, hd⟩
  obtain ⟨q, rfl, hq, hq0⟩ := q_of hd
  and_intros
  refine kCall.mk rfl rfl (pick_gv _ (by simp) (by simp)) ?_
  rintro _ b2 ⟨d, rfl, hd⟩
  obtain ⟨e, rfl, he⟩ : ∃ e : Int, d = .int e ∧ (e = 1 ∨ e = -1) := by
    simp only [List.mem_cons, List.not_mem_nil, or_false] at hd
    rcases hd with rfl | rfl | rfl
    · exact ⟨1, rfl, .inl rfl⟩
    · exact ⟨1, rfl, .inl rfl⟩
    · exact ⟨-1, rfl, .inr rfl⟩
  and_intros
  refine kCall.mk rfl rfl (draw_gv 6 (by decide) (by decide)) ?_
  rintro _ b3 ⟨way, rfl, w0, w1⟩
  and_intros
  refine kCall.mk rfl rfl (pick_tup (A.map tI) (fun z => hA0 (List.map_eq_nil_iff.mp z)) (by rw [List.length_map]; omega)) ?_
  rintro _ b4 ⟨d, rfl, hd⟩
  obtain ⟨p, hp, rfl⟩ := List.mem_map.mp hd
  obtain ⟨x, y, rfl, hx, hy⟩ := hA p hp
  have hqd : 1 ≤ (q.den : Int) ∧ (q.den : Int) ≤ 7 := by
    have := q.den_pos
    have := hq.2
    omega
  have hqn : q.num.natAbs ≤ 7 := hq.1
  have mk : ∀ (t : Rat) (v : Int) (N T : Nat), RB N T t → N ≤ 50000 → T ≤ 10 ^ 40 → v.natAbs ≤ 10 ^ 40 → MB 20000 50000 (10 ^ 40) ⟨q, t, e, v⟩ := fun t v N T h h1 h2 h3 => ⟨hq0, he, hq.mono (by decide) (by decide), h.mono h1 h2, h3⟩
  subst_eqs
  refine q_nx (k_mid (fun s => ∃ (gx gy : Int) (b : Bx), gx.natAbs ≤ 7 ∧ gy.natAbs ≤ 127 ∧ s = ⟨[some .bx, some (.d (.list (ps.map tI))), some (.d (.tuple (A.map tI))), some (.d (frD q)), some (.d (.int e)), some (.d (.int way)), some (.d (tI [x, y])), some (.d (tI [gx, gy])), none], b⟩) ?_ ?_)
  · and_intros
    refine kCond.of (fun c => ?_) (fun c => ?_)
    · have hp0 : ps ≠ [] := by simpa using c
      and_intros
      refine kCall.mk rfl rfl (pick_gv (ps.map tI) (fun e => hp0 (List.map_eq_nil_iff.mp e)) (by rw [List.length_map]; omega)) ?_
      rintro _ b6 ⟨d, rfl, hd⟩
      obtain ⟨p, hp, rfl⟩ := List.mem_map.mp hd
      obtain ⟨x', y', rfl, hx, hy⟩ := hps p hp
      and_intros
      exact ⟨rfl, x', y', _, hx, hy, rfl⟩
    · and_intros
      exact ⟨rfl, 3, 62, _, by decide, by decide, rfl⟩
  rintro s ⟨gx, gy, b5, hgx, hgy, rfl⟩
  have i1 : dIdx (tI [gx, gy]) (.int 0) = some (.d (.int gx)) := o_idx0
  have i2 : dIdx (tI [gx, gy]) (.int 1) = some (.d (.int gy)) := o_idx1
  have i3 : dIdx (tI [x, y]) (.int 0) = some (.d (.int x)) := o_idx0
  have i4 : dIdx (tI [x, y]) (.int 1) = some (.d (.int y)) := o_idx1
  have i5 : dIdx (frD q) (.int 0) = some (.d (.int q.num)) := o_idx0
  have i6 : dIdx (frD q) (.int 1) = some (.d (.int (q.den : Int))) := o_idx1
  have m1 := o_mulX (i := gx) (j := (q.den : Int)) (Nat.lt_of_le_of_lt hgx (by decide +kernel)) (Nat.lt_of_le_of_lt (show ((q.den : Int)).natAbs ≤ 7 by omega) (by decide +kernel))
  have m2 := o_mulX (i := q.num) (j := x) (Nat.lt_of_le_of_lt hqn (by decide +kernel)) (Nat.lt_of_le_of_lt hx (by decide +kernel))
  have m3 := o_mulX (i := e) (j := y) (e_far he) (Nat.lt_of_le_of_lt hy (by decide +kernel))
  have e40 : (300000 : Nat) ≤ 10 ^ 40 := by decide +kernel
  and_intros
  refine kCond.of (fun c => ?_) (fun c => ?_)
  · and_intros
    refine kCall.mk rfl rfl (draw_gv 60 (by decide) (by decide)) ?_
    rintro _ b6 ⟨u, rfl, u0, u1⟩
    and_intros
    refine kCall.mk rfl rfl (draw_gv 6 (by decide) (by decide)) ?_
    rintro _ b7 ⟨z, rfl, z0, z1⟩
    and_intros
    refine kCall.mk rfl rfl (law_ratio_gv (u - 30) (1 + z) (by omega) (Nat.le_trans (show (1 + z).natAbs ≤ 6 by omega) (by decide +kernel))) ?_
    rintro _ b8 rfl
    and_intros
    refine kCall.mk rfl rfl (draw_gv 140 (by decide) (by decide)) ?_
    rintro _ b9 ⟨v, rfl, v0, v1⟩
    and_intros
    exact ⟨⟨q, _, e, v - 10⟩, rfl, mk _ _ 6 30 ⟨Nat.le_trans (dv_num _ _) (by omega), Nat.le_trans (dv_den _ _ (by omega)) (by omega)⟩ (by decide) (Nat.le_trans (by decide) e40) (Nat.le_trans (show (v - 10).natAbs ≤ 300000 by omega) e40)⟩
  · and_intros
    refine kCond.of (fun c2 => ?_) (fun c2 => ?_)
    · and_intros
      refine kCall.mk rfl rfl (pick_gv _ (by simp) (by simp)) ?_
      rintro _ b6 ⟨d, rfl, hd⟩
      obtain ⟨z, rfl, hz⟩ : ∃ z : Int, d = .int z ∧ z.natAbs ≤ 10 ^ 40 := by
        simp only [List.mem_cons, List.not_mem_nil, or_false] at hd
        rcases hd with rfl | rfl | rfl | rfl <;> exact ⟨_, rfl, by decide +kernel⟩
      and_intros
      refine kCall.mk rfl rfl (pick_gv _ (by simp) (by simp)) ?_
      rintro _ b7 ⟨d, rfl, hd⟩
      obtain ⟨v, rfl, hv⟩ : ∃ v : Int, d = .int v ∧ v.natAbs ≤ 10 ^ 40 := by
        simp only [List.mem_cons, List.not_mem_nil, or_false] at hd
        rcases hd with rfl | rfl | rfl | rfl <;> exact ⟨_, rfl, by decide +kernel⟩
      and_intros
      exact ⟨⟨q, (z : Rat), e, v⟩, rfl, mk _ _ 1 (10 ^ 40) ⟨hz, Nat.le_refl 1⟩ (by decide) (Nat.le_refl _) hv⟩
    · and_intros
      refine kCall.mk rfl rfl (law_ratio_gv (gx * (q.den : Int) - q.num * x) (q.den : Int) (by omega) (Nat.le_trans (show ((q.den : Int)).natAbs ≤ 7 by omega) (by decide +kernel))) ?_
      rintro _ b8 rfl
      and_intros
      have hrb : RB 7 1000 (Rat.divInt (gx * (q.den : Int) - q.num * x) (q.den : Int)) := by
        refine ⟨Nat.le_trans (dv_num _ _) ?_, Nat.le_trans (dv_den _ _ (by omega)) (show ((q.den : Int)).natAbs ≤ 7 by omega)⟩
        refine Nat.le_trans (Int.natAbs_sub_le _ _) ?_
        rw [Int.natAbs_mul, Int.natAbs_mul]
        have h1 := Nat.mul_le_mul hgx (show ((q.den : Int)).natAbs ≤ 7 by omega)
        have h2 := Nat.mul_le_mul hqn hx
        omega
      refine ⟨⟨q, Rat.divInt (gx * (q.den : Int) - q.num * x) (q.den : Int), e, gy - e * y⟩, rfl, mk _ _ 7 1000 hrb (by decide) (Nat.le_trans (by decide) e40) (Nat.le_trans ?_ e40)⟩
      rcases he with rfl | rfl <;> omega
/-! ## the whole -/
theorem fit_pb {A : List (List Int)} (h : ∀ p ∈ A, PB 20 300 p) (hl : A.length ≤ 6) : Fit 2000 4 (fgD A) := by
  have hi : ∀ i : Int, i.natAbs ≤ 300 → Fit 12 0 (.int i) := fun i hi => (fit_int 11 (by decide) (by decide) (Nat.lt_of_le_of_lt hi (by decide))).mono (by decide) (by decide)
  refine (fit_tup (n := 31) (k := 1) 6 (by rw [List.length_map]; exact hl) fun d hd => ?_).mono (by decide) (by decide)
  obtain ⟨p, hp, rfl⟩ := List.mem_map.mp hd
  obtain ⟨x, y, rfl, h1, h2⟩ := h p hp
  exact fit_tup 2 (Nat.le_refl _) (fit_cons (hi x (by omega)) (fit_cons (hi y h2) fit_nil))
theorem law_ok (ns : List Int) (hl : ns.length ≤ 63) : OkF (f_law [.d (.list (ns.map .int))] ⟨[], 0, -1⟩) fun r _ => r = .d (.bool true) := by
  unfold f_law m_law
  refine k_run (a0 := [some (.d (.list (ns.map .int))), none, none, none, none, none, none, none, none, none, none]) rfl ?_
  and_intros
  refine kCall.at1 rfl rfl (deck_ok ns hl _ (by decide)) ?_
  rintro _ b1 rfl
  generalize PyData.list (ns.map .int) = sc
  and_intros
  refine k_rng (I := fun k c s => ∃ x2 x3 x4 x5 x6 x7 x8 x9 x10 b, s = ⟨[some (.d sc), some .bx, x2, x3, x4, x5, x6, x7, x8, x9, x10], b⟩) ?_ ?_ _ _ _ ⟨_, _, _, _, _, _, _, _, _, _, rfl⟩
  · rintro k c s ⟨x2, x3, x4, x5, x6, x7, x8, x9, x10, b2, rfl⟩
    refine ⟨_, rfl, ?_⟩
    dsimp only [List.set]
    and_intros
    refine kCall.mk rfl rfl (pick_gv _ (by simp) (by simp)) ?_
    rintro _ b3 ⟨d, rfl, hd⟩
    obtain ⟨m, rfl, hm⟩ : ∃ m : Nat, d = .int (m : Int) ∧ m ≤ 10 := by
      simp only [List.mem_cons, List.not_mem_nil, or_false] at hd
      rcases hd with rfl | rfl | rfl | rfl
      · exact ⟨0, rfl, by decide⟩
      · exact ⟨3, rfl, by decide⟩
      · exact ⟨7, rfl, by decide⟩
      · exact ⟨10, rfl, by decide⟩
    and_intros
    refine kCall.mk rfl rfl (law_score_gv m (by omega)) ?_
    rintro _ b4 ⟨d, nt, rfl, hS⟩
    obtain ⟨rfl, hSl, hSn, _⟩ := hS
    have gpl := law_points_gv nt (by omega)
    have gp := points_of_gv nt (by omega)
    have hps : ∀ p ∈ ptsN nt, PB 7 127 p := fun p hp => by
      obtain ⟨n, hn, rfl⟩ := List.mem_map.mp (mem_sortU.mp hp)
      obtain ⟨h1, h2, _⟩ := hSn n hn
      exact ⟨_, _, rfl, by omega, by omega⟩
    have hpl : (ptsN nt).length ≤ 10 := Nat.le_trans (sortU_len _) (by rw [List.length_map]; omega)
    have hne : ∀ p ∈ ptsN nt, p ≠ [] := fun p hp => by
      obtain ⟨x, y, rfl, _⟩ := hps p hp
      simp
    generalize ptsN nt = ps at gpl gp hps hpl hne
    and_intros
    refine kCall.mk rfl rfl gpl ?_
    rintro _ b5 rfl
    and_intros
    refine kCall.mk rfl rfl (draw_gv 4 (by decide) (by decide)) ?_
    rintro _ b6 ⟨u, rfl, u0, u1⟩
    and_intros
    refine kCall.mk rfl rfl (law_figure_gv ps (2 + u) (by omega) (by omega) hps (by omega)) ?_
    rintro _ b7 ⟨A, rfl, hA, hA0, hAl⟩
    have ftS : Fit 2000 4 (.tuple (nt.map noteD)) := (fit_tup 10 (by rw [List.length_map]; omega) fun d hd => by
      obtain ⟨n, hn, rfl⟩ := List.mem_map.mp hd
      exact fit_note (hSn n hn)).mono (by decide) (by decide)
    have ft : Fit 5000 5 (.list [.tuple (nt.map noteD), fgD A]) := (fit_lst 2 (Nat.le_refl _) (fit_cons ftS (fit_cons (fit_pb hA hAl) fit_nil))).mono (by decide) (by decide)
    have pA : ∀ p ∈ A, Pt p := fun p hp => by
      obtain ⟨x, y, e, h1, h2⟩ := hA p hp
      exact ⟨x, y, e, by unfold far; omega, by unfold far; omega⟩
    have gm := law_move_gv ps hps (by omega) hA hA0 hAl
    clear ftS gpl
    generalize PyData.tuple (nt.map noteD) = SC at ft gp
    have rp := ft.rp (by decide) (by decide)
    have ne1 := o_neS ft.cps
    generalize (PyData.list [SC, fgD A]).shown = KN at rp ne1
    and_intros
    refine k_rng (I := fun k' c s => ∃ x7 x8 x9 x10 b, s = ⟨[some (.d sc), some .bx, some (.d (.int k)), some (.d SC), some (.d (.list (ps.map tI))), some (.d (fgD A)), some (.d (.str KN)), x7, x8, x9, x10], b⟩) ?_ ?_ _ _ _ ⟨_, _, _, _, _, rfl⟩
    · rintro k' c' s ⟨x7, x8, x9, x10, b8, rfl⟩
      refine ⟨_, rfl, ?_⟩
      dsimp only [List.set]
      and_intros
      refine kCall.mk rfl rfl gm ?_
      rintro _ b9 ⟨mv, rfl, hmv⟩
      have glh := law_hits_gv mv hmv (Nat.le_refl _) (Nat.le_refl _) (Nat.le_refl _) pA (by omega) ps
      have gh := hits_gv mv hmv (Nat.le_refl _) (Nat.le_refl _) (Nat.le_refl _) pA (by omega) gp (by omega) hne
      have fH := fit_pb (A := A.filter (hitB ps mv)) (fun p hp => hA p (List.mem_filter.mp hp).1) (Nat.le_trans (List.length_filter_le ..) hAl)
      have ft2 : Fit 5000 5 (.list [fgD (A.filter (hitB ps mv)), fgD (A.filter (hitB ps mv))]) := (fit_lst 2 (Nat.le_refl _) (fit_cons fH (fit_cons fH fit_nil))).mono (by decide) (by decide)
      have rp2 := ft2.rp (by decide) (by decide)
      have ne2 := o_neS ft2.cps
      generalize fgD (A.filter (hitB ps mv)) = HD at glh gh rp2 ne2
      generalize (PyData.list [HD, HD]).shown = K2 at rp2 ne2
      and_intros
      refine kCall.mk rfl rfl glh ?_
      rintro _ b10 rfl
      and_intros
      refine kCall.mk rfl rfl gh ?_
      rintro _ b11 rfl
      and_intros
      refine kCallK.mk rfl rfl rfl rfl rfl gh ?_
      rintro _ b12 rfl
      and_intros
      exact ⟨_, _, _, _, _, rfl⟩
    · rintro k' s ⟨x7, x8, x9, x10, b8, rfl⟩
      and_intros
      exact ⟨_, _, _, _, _, _, _, _, _, _, rfl⟩
  · rintro k s ⟨x2, x3, x4, x5, x6, x7, x8, x9, x10, b2, rfl⟩
    and_intros
    rfl
theorem law_true : ∀ ns : List Int, ns.length ≤ 63 → ∃ b, f_law [.d (.list (ns.map .int))] ⟨[], 0, -1⟩ = .ok (.d (.bool true)) b := fun ns hl => by
  obtain ⟨r, b, e, rfl⟩ := (law_ok ns hl).get
  exact ⟨b, e⟩

end K17
open PySem PySem.W PyProof.Rows
set_option maxRecDepth 100000 in
set_option maxHeartbeats 0 in
theorem PySem.Challenge.cw_heardagain_k17_hits_by_leading_holds : PySem.Challenge.rw_heardagain_k17_hits_by_leading.Holds := by
  w_on; o_law; k_head; (case hw => w_witness2)
  k_fill
  refine Qz.walk_end (l := PySem.Challenge.rw_heardagain_k17_hits_by_leading) (g := K17.f_law) (x := "script") (k := 6) rfl rfl ⟨rfl, by decide, by decide⟩ (by decide +kernel) (fun w h Y => PySem.W.kIn_of Y) ?F ?T
  case F =>
    intro w mg fa h KX G hmg
    refine' K17.all_mk KX G hmg ?a1 ?l1 ?c1 ?k1 ?a2 ?l2 ?c2 ?k2 ?a3 ?l3 ?c3 ?k3 ?a6 ?l6 ?c6 ?k6 ?a8 ?l8 ?c8 ?k8 ?a10 ?l10 ?c10 ?k10 ?a12 ?l12 ?c12 ?k12 ?a14 ?l14 ?c14 ?k14 ?a15 ?l15 ?c15 ?k15 ?a16 ?l16 ?c16 ?k16 ?a17 ?l17 ?c17 ?k17 ?a18 ?l18 ?c18 ?k18 ?a19 ?l19 ?c19 ?k19 ?a20 ?l20 ?c20 ?k20 ?a21 ?l21 ?c21 ?k21 ?a22 ?l22 ?c22 ?k22 ?a23 ?l23 ?c23 ?k23 ?a24 ?l24 ?c24 ?k24 ?z_abs ?z_bool ?z_divmod ?z_int ?z_isinstance ?z_len ?z_list ?z_range ?z_repr ?z_set ?z_sorted ?z_tuple ?q_MAX_FAR
    (case a1 => k_is); (case l1 => k_is); (case c1 => k_is); (case k1 => k_is); (case a2 => k_is); (case l2 => k_is); (case c2 => k_is); (case k2 => k_is); (case a3 => k_is); (case l3 => k_is); (case c3 => k_is); (case k3 => k_is); (case a6 => k_is); (case l6 => k_is); (case c6 => k_is); (case k6 => k_is); (case a8 => k_is); (case l8 => k_is); (case c8 => k_is); (case k8 => k_is); (case a10 => k_is); (case l10 => k_is); (case c10 => k_is); (case k10 => k_is); (case a12 => k_is); (case l12 => k_is); (case c12 => k_is); (case k12 => k_is); (case a14 => k_is); (case l14 => k_is); (case c14 => k_is); (case k14 => k_is); (case a15 => k_is); (case l15 => k_is); (case c15 => k_is); (case k15 => k_is); (case a16 => k_is); (case l16 => k_is); (case c16 => k_is); (case k16 => k_is); (case a17 => k_is); (case l17 => k_is); (case c17 => k_is); (case k17 => k_is); (case a18 => k_is); (case l18 => k_is); (case c18 => k_is); (case k18 => k_is); (case a19 => k_is); (case l19 => k_is); (case c19 => k_is); (case k19 => k_is); (case a20 => k_is); (case l20 => k_is); (case c20 => k_is); (case k20 => k_is); (case a21 => k_is); (case l21 => k_is); (case c21 => k_is); (case k21 => k_is); (case a22 => k_is); (case l22 => k_is); (case c22 => k_is); (case k22 => k_is); (case a23 => k_is); (case l23 => k_is); (case c23 => k_is); (case k23 => k_is); (case a24 => k_is); (case l24 => k_is); (case c24 => k_is); (case k24 => k_is); (case z_abs => k_is); (case z_bool => k_is); (case z_divmod => k_is); (case z_int => k_is); (case z_isinstance => k_is); (case z_len => k_is); (case z_list => k_is); (case z_range => k_is); (case z_repr => k_is); (case z_set => k_is); (case z_sorted => k_is); (case z_tuple => k_is); (case q_MAX_FAR => k_is)
  case T => exact K17.law_true

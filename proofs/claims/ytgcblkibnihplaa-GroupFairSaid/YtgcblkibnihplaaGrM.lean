/- Groups (layer 11), ahead of their landing: how pressure is divided: plain mathematics, no program is named here. -/
import Derived.Test.YtgcblkibnihplaaRows2
namespace Go.Mine
open Go Go.RowKit

/-- The first of the greatest that are above 0, as it is sought: its place (-1: none) and its size. -/
def bsD (f : Nat → Int) : Nat → Int × Int
  | 0 => (-1, 0)
  | k + 1 => if (bsD f k).2 < f k then ((k : Int), f k) else bsD f k
theorem bsD_is (f : Nat → Int) : ∀ k, (bsD f k = (-1, 0) ∧ ∀ i, i < k → f i ≤ 0) ∨ ∃ b : Nat, b < k ∧ bsD f k = ((b : Int), f b) ∧ 0 < f b ∧ ∀ i, i < k → f i ≤ f b
  | 0 => .inl ⟨rfl, fun i hi => by omega⟩
  | k + 1 => by
    unfold bsD
    rcases bsD_is f k with ⟨h1, h2⟩ | ⟨b, hb, h1, h2, h3⟩
    · rw [h1]
      by_cases h : (0 : Int) < f k
      · rw [if_pos h]
        refine .inr ⟨k, by omega, rfl, h, fun i hi => ?_⟩
        by_cases e : i = k
        · rw [e]; exact Int.le_refl _
        · have := h2 i (by omega); omega
      · rw [if_neg h]
        refine .inl ⟨rfl, fun i hi => ?_⟩
        by_cases e : i = k
        · rw [e]; omega
        · exact h2 i (by omega)
    · rw [h1]
      by_cases h : f b < f k
      · rw [if_pos h]
        refine .inr ⟨k, by omega, rfl, by omega, fun i hi => ?_⟩
        by_cases e : i = k
        · rw [e]; exact Int.le_refl _
        · have := h3 i (by omega); omega
      · rw [if_neg h]
        refine .inr ⟨b, by omega, rfl, h2, fun i hi => ?_⟩
        by_cases e : i = k
        · rw [e]; omega
        · exact h3 i (by omega)
def incD (o : Nat → Int) (b : Nat) : Nat → Int := fun i => if i = b then o i + 1 else o i
/-- Which group loses the next frame: excesses E, charges C, m groups, o taken already. -/
def stpD (E C : Nat → Int) (m : Nat) (o : Nat → Int) : Option Nat :=
  if 0 ≤ (bsD (fun i => E i - o i) m).1 then some (bsD (fun i => E i - o i) m).1.toNat
  else if 0 ≤ (bsD (fun i => C i - o i) m).1 then some (bsD (fun i => C i - o i) m).1.toNat else none
/-- What is taken when n frames have to be. -/
def itD (E C : Nat → Int) (m : Nat) : Nat → Nat → Int
  | 0 => fun _ => 0
  | n + 1 => match stpD E C m (itD E C m n) with
    | none => itD E C m n
    | some b => incD (itD E C m n) b
def sumD (o : Nat → Int) : Nat → Int
  | 0 => 0
  | k + 1 => sumD o k + o k
theorem sumD_inc (o : Nat → Int) (b : Nat) : ∀ m, sumD (incD o b) m = sumD o m + if b < m then 1 else 0
  | 0 => by simp [sumD]
  | m + 1 => by
    have ih := sumD_inc o b m
    show sumD (incD o b) m + incD o b m = sumD o m + o m + _
    rw [ih]
    unfold incD
    by_cases h1 : b < m
    · rw [if_pos h1, if_neg (by omega), if_pos (by omega)]; omega
    · by_cases h2 : m = b
      · rw [if_neg h1, if_pos h2, if_pos (by omega)]; omega
      · rw [if_neg h1, if_neg h2, if_neg (by omega)]; omega
theorem sumD_le {a b : Nat → Int} : ∀ {m : Nat}, (∀ i, i < m → a i ≤ b i) → sumD a m ≤ sumD b m
  | 0, _ => Int.le_refl _
  | m + 1, h => by
    have h1 := sumD_le (m := m) fun i hi => h i (by omega)
    have h2 := h m (by omega)
    show sumD a m + a m ≤ sumD b m + b m
    omega
theorem sumD_eq {a b : Nat → Int} {m : Nat} (h : ∀ i, i < m → a i = b i) : sumD a m = sumD b m :=
  Int.le_antisymm (sumD_le fun i hi => Int.le_of_eq (h i hi)) (sumD_le fun i hi => Int.le_of_eq (h i hi).symm)
section
variable {E C : Nat → Int} {m : Nat} {o : Nat → Int}
/-- The next one: of the excesses while there are some, then of the charges; none if nothing is left. -/
theorem stpD_is (hEC : ∀ i, i < m → E i ≤ C i) : (∃ b, stpD E C m o = some b ∧ b < m ∧ 0 < E b - o b ∧ ∀ i, i < m → E i - o i ≤ E b - o b) ∨
    (∃ b, stpD E C m o = some b ∧ b < m ∧ (∀ i, i < m → E i ≤ o i) ∧ 0 < C b - o b ∧ ∀ i, i < m → C i - o i ≤ C b - o b) ∨ (stpD E C m o = none ∧ ∀ i, i < m → C i ≤ o i) := by
  unfold stpD
  rcases bsD_is (fun i => E i - o i) m with ⟨h1, h2⟩ | ⟨b, hb, h1, h2, h3⟩
  · rw [h1, if_neg (by decide)]
    rcases bsD_is (fun i => C i - o i) m with ⟨h4, h5⟩ | ⟨b, hb, h4, h5, h6⟩
    · rw [h4, if_neg (by decide)]
      exact .inr (.inr ⟨rfl, fun i hi => by have h9 : C i - o i ≤ 0 := h5 i hi; omega⟩)
    · rw [h4, if_pos (by show (0 : Int) ≤ (b : Int); omega)]
      exact .inr (.inl ⟨b, by simp, hb, fun i hi => by have h9 : E i - o i ≤ 0 := h2 i hi; omega, h5, h6⟩)
  · rw [h1, if_pos (by show (0 : Int) ≤ (b : Int); omega)]
    exact .inl ⟨b, by simp, hb, h2, h3⟩
/-- What holds of what is taken. -/
structure DvI (E C : Nat → Int) (m : Nat) (o : Nat → Int) : Prop where
  lo : ∀ i, i < m → 0 ≤ o i ∧ o i ≤ C i
  ph : (∀ i, i < m → o i ≤ E i) ∨ ∀ i, i < m → E i ≤ o i
  fair : (∀ i, i < m → o i ≤ E i) → ∀ i j, i < m → j < m → 0 < o i → E j - o j ≤ E i - o i + 1
theorem DvI.zero (hE : ∀ i, i < m → 0 ≤ E i ∧ E i ≤ C i) : DvI E C m (fun _ => 0) :=
  ⟨fun i hi => ⟨Int.le_refl _, by have := hE i hi; omega⟩, .inl fun i hi => (hE i hi).1, fun _ i j _ _ h => absurd h (by decide)⟩
theorem DvI.step (hE : ∀ i, i < m → 0 ≤ E i ∧ E i ≤ C i) (h : DvI E C m o) : (stpD E C m o = none ∧ ∀ i, i < m → o i = C i) ∨ ∃ b, stpD E C m o = some b ∧ b < m ∧ DvI E C m (incD o b) := by
  rcases stpD_is (o := o) (fun i hi => (hE i hi).2) with ⟨b, h1, hb, h2, h3⟩ | ⟨b, h1, hb, h2, h3, h4⟩ | ⟨h1, h2⟩
  · refine .inr ⟨b, h1, hb, ?_⟩
    have hin : ∀ i, i < m → o i ≤ E i := by
      rcases h.ph with h4 | h4
      · exact h4
      · have := h4 b hb; omega
    have hin2 : ∀ i, i < m → incD o b i ≤ E i := fun i hi => by
      unfold incD
      by_cases e : i = b
      · rw [if_pos e, e]; omega
      · rw [if_neg e]; exact hin i hi
    refine ⟨fun i hi => ?_, .inl hin2, fun _ i j hi hj h5 => ?_⟩
    · have h6 := h.lo i hi
      have h7 := hin2 i hi
      have h8 := (hE i hi).2
      unfold incD at *
      by_cases e : i = b
      · rw [if_pos e] at *; omega
      · rw [if_neg e] at *; omega
    · unfold incD at *
      have h9 := h3 j hj
      by_cases e : i = b
      · rw [if_pos e] at *
        by_cases e2 : j = b
        · rw [if_pos e2, e2, e]; omega
        · rw [if_neg e2, e]; omega
      · rw [if_neg e] at *
        have h10 := h.fair hin i j hi hj h5
        by_cases e2 : j = b
        · rw [if_pos e2]; omega
        · rw [if_neg e2]; omega
  · refine .inr ⟨b, h1, hb, fun i hi => ?_, .inr fun i hi => ?_, fun h5 => ?_⟩
    · have h6 := h.lo i hi
      unfold incD
      by_cases e : i = b
      · rw [if_pos e, e]; rw [e] at h6; omega
      · rw [if_neg e]; exact h6
    · have := h2 i hi
      unfold incD
      by_cases e : i = b
      · rw [if_pos e]; omega
      · rw [if_neg e]; exact this
    · have := h5 b hb
      have h6 := h2 b hb
      unfold incD at this
      rw [if_pos rfl] at this
      omega
  · exact .inl ⟨h1, fun i hi => by have := h.lo i hi; have := h2 i hi; omega⟩
theorem itD_inv (hE : ∀ i, i < m → 0 ≤ E i ∧ E i ≤ C i) : ∀ n, DvI E C m (itD E C m n)
  | 0 => DvI.zero hE
  | n + 1 => by
    have ih := itD_inv hE n
    show DvI E C m (match stpD E C m (itD E C m n) with | none => itD E C m n | some b => incD (itD E C m n) b)
    rcases ih.step hE with ⟨h1, -⟩ | ⟨b, h1, -, h2⟩
    · rw [h1]; exact ih
    · rw [h1]; exact h2
/-- As many as are asked for, or all. -/
theorem itD_sum (hE : ∀ i, i < m → 0 ≤ E i ∧ E i ≤ C i) : ∀ n : Nat, sumD (itD E C m n) m = min (n : Int) (sumD C m)
  | 0 => by
    have h0 : ∀ k, sumD (fun _ => 0) k = 0 := fun k => by
      induction k with
      | zero => rfl
      | succ k ih => show sumD (fun _ => 0) k + 0 = 0; rw [ih]; rfl
    have h1 : sumD (fun _ => 0) m ≤ sumD C m := sumD_le fun i hi => by have := hE i hi; omega
    rw [h0] at h1
    show sumD (fun _ => 0) m = _
    rw [h0]
    omega
  | n + 1 => by
    have ih := itD_sum hE n
    have hi := itD_inv hE n
    have hle : sumD (itD E C m (n + 1)) m ≤ sumD C m := sumD_le fun i hi2 => ((itD_inv hE (n + 1)).lo i hi2).2
    have e : itD E C m (n + 1) = match stpD E C m (itD E C m n) with | none => itD E C m n | some b => incD (itD E C m n) b := rfl
    rcases hi.step hE with ⟨h1, h2⟩ | ⟨b, h1, hb, -⟩
    · rw [h1] at e
      have e : itD E C m (n + 1) = itD E C m n := e
      have h3 : sumD (itD E C m n) m = sumD C m := sumD_eq h2
      rw [e, h3]
      omega
    · rw [h1] at e
      have e : itD E C m (n + 1) = incD (itD E C m n) b := e
      rw [e, sumD_inc, if_pos hb, ih] at hle
      rw [e, sumD_inc, if_pos hb, ih]
      omega
/-- Nothing more is taken once nothing is left. -/
theorem itD_stop {n : Nat} (h : stpD E C m (itD E C m n) = none) : ∀ k, itD E C m (n + k) = itD E C m n
  | 0 => rfl
  | k + 1 => by
    have ih := itD_stop h k
    show (match stpD E C m (itD E C m (n + k)) with | none => itD E C m (n + k) | some b => incD (itD E C m (n + k)) b) = _
    rw [ih, h]
end
end Go.Mine

/- Layer 14: pauses of writers, as plain mathematics. -/
import Derived.Test.YtgeicbkhhmlceaaBase
namespace Go.Mine
open Go Go.RowKit
/-- A number of frames. -/
def cT (n : Int) : Bool := decide (0 ≤ n) && decide (n ≤ 64)
theorem cT_iff {n : Int} : cT n = true ↔ 0 ≤ n ∧ n ≤ 64 := by simp [cT]
theorem cT_t {n : Int} (h0 : 0 ≤ n) (h1 : n ≤ 64) : cT n = true := cT_iff.2 ⟨h0, h1⟩
theorem cT_1 {n : Int} (h : ¬0 ≤ n) : cT n = false := by
  cases e : cT n
  · rfl
  · exact absurd (cT_iff.1 e).1 h
theorem cT_2 {n : Int} (h : ¬n ≤ 64) : cT n = false := by
  cases e : cT n
  · rfl
  · exact absurd (cT_iff.1 e).2 h
/-- Writers are not held up; the position; what is rounded up; the pause. -/
def fT (d n : Int) : Bool := cT d && (cT n && decide (2 * d ≤ n))
def qT (d n : Int) : Int := (n - d) * 512 / n
def pT (d n : Int) : Int := bif fT d n then 256 else bif cT d && (cT n && decide (d < n)) then qT d n else 0
def cdT (a s : Int) : Int := (a + s - 1) / s
def miT (a b : Int) : Int := min a b
def uT (d n r k : Int) : Int :=
  bif cT d && (cT n && (cT k && decide (1 ≤ r))) then (bif fT d n || decide (k = 0) then 0 else bif decide (pT d n = 0) then 64 else miT (cdT (k * 65536) (miT r 1000000 * pT d n)) 64) else 64
theorem fT_ways (d n : Int) : (fT d n = false ∧ cT d = false) ∨ (fT d n = false ∧ cT d = true ∧ cT n = false) ∨ (cT d = true ∧ cT n = true ∧ fT d n = decide (2 * d ≤ n)) := by
  unfold fT
  cases cT d
  · exact .inl ⟨rfl, rfl⟩
  · cases cT n
    · exact .inr (.inl ⟨rfl, rfl, rfl⟩)
    · exact .inr (.inr ⟨rfl, rfl, rfl⟩)
theorem fT_t {d n : Int} (h : fT d n = true) : cT d = true ∧ cT n = true ∧ 2 * d ≤ n := by
  unfold fT at h
  simpa using h
theorem fT_f {d n : Int} (h : fT d n = false) (h1 : cT d = true) (h2 : cT n = true) : n < 2 * d := by
  unfold fT at h
  simpa [h1, h2] using h
theorem pT_ways (d n : Int) : (fT d n = true ∧ pT d n = 256) ∨ (fT d n = false ∧ pT d n = 0 ∧ cT d = false) ∨ (fT d n = false ∧ pT d n = 0 ∧ cT d = true ∧ cT n = false) ∨ (fT d n = false ∧ pT d n = 0 ∧ cT d = true ∧ cT n = true ∧ n ≤ d) ∨
    (fT d n = false ∧ pT d n = qT d n ∧ cT d = true ∧ cT n = true ∧ d < n) := by
  cases hf : fT d n
  · unfold pT
    rw [hf]
    cases cT d
    · exact .inr (.inl ⟨rfl, rfl, rfl⟩)
    · cases cT n
      · exact .inr (.inr (.inl ⟨rfl, rfl, rfl, rfl⟩))
      · by_cases h : d < n
        · exact .inr (.inr (.inr (.inr ⟨rfl, by simp [h], rfl, rfl, h⟩)))
        · exact .inr (.inr (.inr (.inl ⟨rfl, by simp [h], rfl, rfl, by omega⟩)))
  · exact .inl ⟨rfl, by unfold pT; rw [hf]; rfl⟩
theorem qT_b {d n : Int} (hd : 0 ≤ d) (hn : n ≤ 64) (h : d < n) : 0 ≤ (n - d) * 512 ∧ (n - d) * 512 ≤ 32768 ∧ 1 ≤ n ∧ 0 ≤ qT d n ∧ qT d n ≤ 512 := by
  refine ⟨by omega, by omega, by omega, Int.ediv_nonneg (by omega) (by omega), ?_⟩
  unfold qT
  have := Int.ediv_le_ediv (c := n) (by omega) (show (n - d) * 512 ≤ n * 512 by omega)
  rwa [Int.mul_ediv_cancel_left _ (by omega)] at this
theorem pT_b (d n : Int) : 0 ≤ pT d n ∧ pT d n ≤ 512 := by
  rcases pT_ways d n with ⟨-, e⟩ | ⟨-, e, -⟩ | ⟨-, e, -⟩ | ⟨-, e, -⟩ | ⟨-, e, h1, h2, h⟩
  any_goals (rw [e]; omega)
  rw [e]
  exact (qT_b (cT_iff.1 h1).1 (cT_iff.1 h2).2 h).2.2.2
theorem uT_ways (d n r k : Int) : (uT d n r k = 64 ∧ cT d = false) ∨ (uT d n r k = 64 ∧ cT d = true ∧ cT n = false) ∨ (uT d n r k = 64 ∧ cT d = true ∧ cT n = true ∧ cT k = false) ∨
    (uT d n r k = 64 ∧ cT d = true ∧ cT n = true ∧ cT k = true ∧ ¬1 ≤ r) ∨ (uT d n r k = 0 ∧ cT d = true ∧ cT n = true ∧ cT k = true ∧ 1 ≤ r ∧ fT d n = true) ∨
    (uT d n r k = 0 ∧ cT d = true ∧ cT n = true ∧ cT k = true ∧ 1 ≤ r ∧ fT d n = false ∧ k = 0) ∨ (uT d n r k = 64 ∧ cT d = true ∧ cT n = true ∧ cT k = true ∧ 1 ≤ r ∧ fT d n = false ∧ ¬k = 0 ∧ pT d n = 0) ∨
    (uT d n r k = miT (cdT (k * 65536) (miT r 1000000 * pT d n)) 64 ∧ cT d = true ∧ cT n = true ∧ cT k = true ∧ 1 ≤ r ∧ fT d n = false ∧ ¬k = 0 ∧ ¬pT d n = 0) := by
  unfold uT
  cases cT d
  · exact .inl ⟨rfl, rfl⟩
  cases cT n
  · exact .inr (.inl ⟨rfl, rfl, rfl⟩)
  cases cT k
  · exact .inr (.inr (.inl ⟨rfl, rfl, rfl, rfl⟩))
  by_cases hr : 1 ≤ r
  · cases fT d n
    · by_cases hk : k = 0
      · exact .inr (.inr (.inr (.inr (.inr (.inl ⟨by simp [hr, hk], rfl, rfl, rfl, hr, rfl, hk⟩)))))
      · by_cases hp : pT d n = 0
        · exact .inr (.inr (.inr (.inr (.inr (.inr (.inl ⟨by simp [hr, hk, hp], rfl, rfl, rfl, hr, rfl, hk, hp⟩))))))
        · exact .inr (.inr (.inr (.inr (.inr (.inr (.inr ⟨by simp [hr, hk, hp], rfl, rfl, rfl, hr, rfl, hk, hp⟩))))))
    · exact .inr (.inr (.inr (.inr (.inl ⟨by simp [hr], rfl, rfl, rfl, hr, rfl⟩))))
  · exact .inr (.inr (.inr (.inl ⟨by simp [hr], rfl, rfl, rfl, hr⟩)))
/-- Rounded up: by the rest. -/
theorem cdT_mod {a s : Int} (_ : 0 ≤ a) (h1 : 0 < s) : cdT a s = if 0 < a % s then a / s + 1 else a / s := by
  have e := Int.emod_add_mul_ediv a s
  have m0 := Int.emod_nonneg a (show s ≠ 0 by omega)
  have m1 := Int.emod_lt_of_pos a h1
  unfold cdT
  generalize a % s = m at *
  generalize a / s = q at *
  split
  · rw [show a + s - 1 = (m - 1) + s * (q + 1) from by rw [Int.mul_add, Int.mul_one]; omega, Int.add_mul_ediv_left _ _ (by omega), Int.ediv_eq_zero_of_lt (by omega) (by omega)]
    omega
  · rw [show a + s - 1 = (s - 1) + s * q from by omega, Int.add_mul_ediv_left _ _ (by omega), Int.ediv_eq_zero_of_lt (by omega) (by omega)]
    omega
/-- It is the least number whose product reaches a. -/
theorem cdT_le {a s q : Int} (h1 : 0 < s) : cdT a s ≤ q ↔ a ≤ q * s := by
  unfold cdT
  rw [← Int.lt_add_one_iff, Int.ediv_lt_iff_lt_mul h1, Int.add_mul, Int.one_mul]
  omega
theorem cdT_n {a s : Int} (h0 : 0 ≤ a) (h1 : 0 < s) : 0 ≤ cdT a s := Int.ediv_nonneg (by omega) (by omega)
theorem cdT_mono {a b s t : Int} (h0 : 0 ≤ b) (h : a ≤ b) (h1 : 0 < s) (h2 : s ≤ t) : cdT a t ≤ cdT b s := by
  rw [cdT_le (by omega)]
  have h3 := (cdT_le (a := b) (q := cdT b s) h1).1 (Int.le_refl _)
  exact Int.le_trans h (Int.le_trans h3 (Int.mul_le_mul_of_nonneg_left h2 (cdT_n h0 h1)))
theorem cdT_hi {a s : Int} (h1 : 0 < s) : a ≤ cdT a s * s := (cdT_le h1).1 (Int.le_refl _)
theorem cdT_lo {a s : Int} (h1 : 0 < s) : (cdT a s - 1) * s < a := by
  have := mt (cdT_le (a := a) (q := cdT a s - 1) h1).2 (by omega)
  omega
end Go.Mine

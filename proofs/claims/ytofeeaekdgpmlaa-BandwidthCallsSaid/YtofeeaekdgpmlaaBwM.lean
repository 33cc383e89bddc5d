/- Measured speeds (layer 12) as plain mathematics: measures, what is noted; no program is named here. -/
import Derived.Test.YtofeeaekdgpmlaaBase
namespace Go.Mine
open Go Go.RowKit

/-- A measure: average, stamp, done. -/
structure Me where
  a : Int
  s : Int
  d : Int
abbrev meV (x : Me) : Value := .agg #[.int .i64 x.a, .int .i64 x.s, .int .i64 x.d]
abbrev cM (x : Me) : Array Value := #[.int .i64 x.a, .int .i64 x.s, .int .i64 x.d]
/-- n is from a to b. -/
def frB (n a b : Int) : Bool := decide (a ≤ n ∧ n ≤ b)
theorem frB_t {n a b : Int} (h1 : a ≤ n) (h2 : n ≤ b) : frB n a b = true := decide_eq_true ⟨h1, h2⟩
theorem frB_1 {n a b : Int} (h1 : ¬a ≤ n) : frB n a b = false := decide_eq_false fun h => h1 h.1
theorem frB_2 {n a b : Int} (h1 : ¬n ≤ b) : frB n a b = false := decide_eq_false fun h => h1 h.2
theorem frB_iff {n a b : Int} : frB n a b = true ↔ a ≤ n ∧ n ≤ b := decide_eq_true_iff
/-- A right measure. -/
def okM (x : Me) : Bool := frB x.a 0 256000000 && frB x.d 0 256000000 && frB x.s 0 1000000
theorem okM_iff {x : Me} : okM x = true ↔ (0 ≤ x.a ∧ x.a ≤ 256000000) ∧ (0 ≤ x.d ∧ x.d ≤ 256000000) ∧ (0 ≤ x.s ∧ x.s ≤ 1000000) := by
  unfold okM
  rw [Bool.and_eq_true, Bool.and_eq_true, frB_iff, frB_iff, frB_iff]
  constructor
  · rintro ⟨⟨h1, h2⟩, h3⟩; exact ⟨h1, h2, h3⟩
  · rintro ⟨h1, h2, h3⟩; exact ⟨⟨h1, h2⟩, h3⟩
theorem okM_no {x : Me} (h : ¬((0 ≤ x.a ∧ x.a ≤ 256000000) ∧ (0 ≤ x.d ∧ x.d ≤ 256000000) ∧ (0 ≤ x.s ∧ x.s ≤ 1000000))) : okM x = false := by
  rw [Bool.eq_false_iff]
  exact fun e => h (okM_iff.1 e)
theorem okM_cases (a s d : Int) : (okM ⟨a, s, d⟩ = false ∧ ¬0 ≤ a) ∨ (okM ⟨a, s, d⟩ = false ∧ 0 ≤ a ∧ ¬a ≤ 256000000) ∨ (okM ⟨a, s, d⟩ = false ∧ 0 ≤ a ∧ a ≤ 256000000 ∧ ¬0 ≤ d) ∨
    (okM ⟨a, s, d⟩ = false ∧ 0 ≤ a ∧ a ≤ 256000000 ∧ 0 ≤ d ∧ ¬d ≤ 256000000) ∨ (okM ⟨a, s, d⟩ = false ∧ 0 ≤ a ∧ a ≤ 256000000 ∧ 0 ≤ d ∧ d ≤ 256000000 ∧ ¬0 ≤ s) ∨
    (okM ⟨a, s, d⟩ = false ∧ 0 ≤ a ∧ a ≤ 256000000 ∧ 0 ≤ d ∧ d ≤ 256000000 ∧ 0 ≤ s ∧ ¬s ≤ 1000000) ∨ (okM ⟨a, s, d⟩ = true ∧ 0 ≤ a ∧ a ≤ 256000000 ∧ 0 ≤ d ∧ d ≤ 256000000 ∧ 0 ≤ s ∧ s ≤ 1000000) := by
  by_cases h1 : 0 ≤ a
  · by_cases h2 : a ≤ 256000000
    · by_cases h3 : 0 ≤ d
      · by_cases h4 : d ≤ 256000000
        · by_cases h5 : 0 ≤ s
          · by_cases h6 : s ≤ 1000000
            · exact .inr (.inr (.inr (.inr (.inr (.inr ⟨okM_iff.2 ⟨⟨h1, h2⟩, ⟨h3, h4⟩, h5, h6⟩, h1, h2, h3, h4, h5, h6⟩)))))
            · exact .inr (.inr (.inr (.inr (.inr (.inl ⟨okM_no fun h => h6 h.2.2.2, h1, h2, h3, h4, h5, h6⟩)))))
          · exact .inr (.inr (.inr (.inr (.inl ⟨okM_no fun h => h5 h.2.2.1, h1, h2, h3, h4, h5⟩))))
        · exact .inr (.inr (.inr (.inl ⟨okM_no fun h => h4 h.2.1.2, h1, h2, h3, h4⟩)))
      · exact .inr (.inr (.inl ⟨okM_no fun h => h3 h.2.1.1, h1, h2, h3⟩))
    · exact .inr (.inl ⟨okM_no fun h => h2 h.1.2, h1, h2⟩)
  · exact .inl ⟨okM_no fun h => h1 h.1.1, h1⟩
/-- The program's way to the same. -/
theorem okM_ways (x : Me) : (okM x = false ∧ frB x.a 0 256000000 = false) ∨ (okM x = false ∧ frB x.a 0 256000000 = true ∧ frB x.d 0 256000000 = false) ∨ (okM x = frB x.s 0 1000000 ∧ frB x.a 0 256000000 = true ∧ frB x.d 0 256000000 = true) := by
  unfold okM
  cases frB x.a 0 256000000 <;> cases frB x.d 0 256000000 <;> simp
/-- The time is right, and so is the number of pages. -/
def rgM (x : Me) (n p : Int) : Bool := frB n x.s 1000000 && frB p 0 64
theorem rgM_cases {x : Me} {n p : Int} (h : rgM x n p = false) : ¬x.s ≤ n ∨ (x.s ≤ n ∧ ¬n ≤ 1000000) ∨ (x.s ≤ n ∧ n ≤ 1000000 ∧ ¬0 ≤ p) ∨ (x.s ≤ n ∧ n ≤ 1000000 ∧ 0 ≤ p ∧ ¬p ≤ 64) := by
  by_cases h1 : x.s ≤ n
  · by_cases h2 : n ≤ 1000000
    · by_cases h3 : 0 ≤ p
      · by_cases h4 : p ≤ 64
        · unfold rgM at h
          rw [frB_t h1 h2, frB_t h3 h4] at h
          cases h
        · exact .inr (.inr (.inr ⟨h1, h2, h3, h4⟩))
      · exact .inr (.inr (.inl ⟨h1, h2, h3⟩))
    · exact .inr (.inl ⟨h1, h2⟩)
  · exact .inl h1
theorem rgM_t {x : Me} {n p : Int} (h : rgM x n p = true) : (x.s ≤ n ∧ n ≤ 1000000) ∧ 0 ≤ p ∧ p ≤ 64 := by
  unfold rgM at h
  rw [Bool.and_eq_true, frB_iff, frB_iff] at h
  exact h
/-- How many are done when p pages more are. -/
def dnM (x : Me) (p : Int) : Int := min (x.d + p) 256000000
def avM (x : Me) (n p : Int) : Int := min ((3 * x.a + dnM x p * 256 / (n - x.s)) / 4) 256000000
/-- What noting p pages at n makes of x: y, and the error. -/
def NtR (x : Me) (n p : Int) (y : Me) (e : Int) : Prop :=
  (okM x = false ∧ y = x ∧ e = 1) ∨ (okM x = true ∧ rgM x n p = false ∧ y = x ∧ e = 2) ∨
  (okM x = true ∧ rgM x n p = true ∧ n - x.s < 16 ∧ y = ⟨x.a, x.s, dnM x p⟩ ∧ e = 0) ∨ (okM x = true ∧ rgM x n p = true ∧ 16 ≤ n - x.s ∧ y = ⟨avM x n p, n, 0⟩ ∧ e = 0)
theorem NtR.some (x : Me) (n p : Int) : ∃ y e, NtR x n p y e := by
  cases h1 : okM x
  · exact ⟨_, _, .inl ⟨h1, rfl, rfl⟩⟩
  · cases h2 : rgM x n p
    · exact ⟨_, _, .inr (.inl ⟨h1, h2, rfl, rfl⟩)⟩
    · by_cases h3 : n - x.s < 16
      · exact ⟨_, _, .inr (.inr (.inl ⟨h1, h2, h3, rfl, rfl⟩))⟩
      · exact ⟨_, _, .inr (.inr (.inr ⟨h1, h2, by omega, rfl, rfl⟩))⟩
/-- What begins at n. -/
def StR (n : Int) (y : Me) (e : Int) : Prop := (frB n 0 1000000 = true ∧ y = ⟨256, n, 0⟩ ∧ e = 0) ∨ (frB n 0 1000000 = false ∧ y = ⟨0, 0, 0⟩ ∧ e = 2)
theorem StR.some (n : Int) : ∃ y e, StR n y e := by
  cases h1 : frB n 0 1000000
  · exact ⟨_, _, .inr ⟨h1, rfl, rfl⟩⟩
  · exact ⟨_, _, .inl ⟨h1, rfl, rfl⟩⟩
/-- The rate. -/
def rtM (x : Me) : Int := match okM x with | true => max x.a 1 | false => 1
/-- The numbers that the walk meets: they wrap nowhere. -/
theorem num_dn {d p : Int} (d0 : 0 ≤ d) (d1 : d ≤ 256000000) (p0 : 0 ≤ p) (p1 : p ≤ 64) : IntKind.i64.wrap (d + p) = d + p := IntWalk.i64_in _ (by omega)
theorem num_256 {D : Int} (h0 : 0 ≤ D) (h1 : D ≤ 256000000) : IntKind.i64.wrap (D * 256) = D * 256 := IntWalk.i64_in _ (by omega)
theorem num_3 {a : Int} (h0 : 0 ≤ a) (h1 : a ≤ 256000000) : IntKind.i64.wrap (3 * a) = 3 * a := IntWalk.i64_in _ (by omega)
theorem num_tk {n s : Int} (h0 : 0 ≤ s) (h1 : s ≤ n) (h2 : n ≤ 1000000) : IntKind.i64.wrap (n - s) = n - s := IntWalk.i64_in _ (by omega)
theorem num_dnw {d p : Int} (d0 : 0 ≤ d) (d1 : d ≤ 256000000) (p0 : 0 ≤ p) (p1 : p ≤ 64) : wrap64 (d + p) = d + p := IntWalk.wrap64_in _ (by omega)
theorem num_256w {D : Int} (h0 : 0 ≤ D) (h1 : D ≤ 256000000) : wrap64 (D * 256) = D * 256 := IntWalk.wrap64_in _ (by omega)
theorem num_3w {a : Int} (h0 : 0 ≤ a) (h1 : a ≤ 256000000) : wrap64 (3 * a) = 3 * a := IntWalk.wrap64_in _ (by omega)
theorem num_tkw {n s : Int} (h0 : 0 ≤ s) (h1 : s ≤ n) (h2 : n ≤ 1000000) : wrap64 (n - s) = n - s := IntWalk.wrap64_in _ (by omega)
theorem quo_le {X t : Int} (h0 : 0 ≤ X) (ht : 16 ≤ t) : 0 ≤ X / t ∧ X / t ≤ X := ⟨Int.ediv_nonneg h0 (by omega), Int.ediv_le_self _ h0⟩
end Go.Mine

/- Choosing between two sectors: plain facts, and the calls that rest on them. -/
import Derived.Test.YtbcakadefineiaaIno5
namespace Go.Proofs.Ytbcakadefineiaa
open Go.RowKit Go.Mine

section
variable {a b s : ByteArray} {f q z x : Int}
/-- The first one is taken: it is good, and the second one is none, or no newer. -/
theorem ch_first (ha : dOK a f = true) (hs : dOK b f = false ∨ ¬ dQ a f < dQ b f) : chB a b f = false := by
  unfold chB
  rcases hs with h | h
  · rw [h, Bool.false_and]
  · rw [ha]; simp [h]
theorem ch_second (hb : dOK b f = true) (hs : dOK a f = false ∨ dQ a f < dQ b f) : chB a b f = true := by
  unfold chB
  rcases hs with h | h <;> rw [hb] <;> simp [h]
theorem choose_first (w : World) (ha : dOK a f = true) (hv : dQ a f = q ∧ dZ a f = z ∧ dB a f = x) (hs : dOK b f = false ∨ ¬ dQ a f < dQ b f) :
    Calls Try.prog 15 #[.string a, .string b, .int .i64 f] w (RetG (.tuple #[inoV q z x, .int .i64 0, .bool true]) w) := by
  obtain ⟨rfl, rfl, rfl⟩ := hv
  have h := ch_first ha hs
  exact (choose_all a b f w).mono fun _ _ k => retG_of (by simp [chQ, chZ, chX, chI, chO, h, ha]) k
theorem choose_second (w : World) (hb : dOK b f = true) (hv : dQ b f = q ∧ dZ b f = z ∧ dB b f = x) (hs : dOK a f = false ∨ dQ a f < dQ b f) :
    Calls Try.prog 15 #[.string a, .string b, .int .i64 f] w (RetG (.tuple #[inoV q z x, .int .i64 1, .bool true]) w) := by
  obtain ⟨rfl, rfl, rfl⟩ := hv
  have h := ch_second hb hs
  exact (choose_all a b f w).mono fun _ _ k => retG_of (by simp [chQ, chZ, chX, chI, chO, h]) k
end
theorem valid_mk {q z b : Int} (h : 0 ≤ q ∧ q ≤ 65535 ∧ 0 ≤ z ∧ z ≤ 128 ∧ 0 ≤ b ∧ b ≤ 255) : validI q z b = true := by
  simp only [validI, withB, Bool.and_eq_true, decide_eq_true_eq]
  omega
theorem file_mk {f : Int} (h : 0 ≤ f ∧ f ≤ 7) : withB f 7 = true := by simpa [withB] using h

theorem torn_c0 (q z b q' z' b' f : Int) (w : World) : Calls Try.prog 20 #[.string (secS q z b f), .string (secS q' z' b' f), .int .i64 0] w (RetG (.tuple #[.string (mixS q' z' b' q z b f), .int .i64 0]) w) :=
  (torn_all _ _ 0 w).mono fun _ _ k => retG_of (by rw [torn_0.1, torn_0.2]) k
theorem torn_c1 (q z b q' z' b' f : Int) (w : World) : Calls Try.prog 20 #[.string (secS q z b f), .string (secS q' z' b' f), .int .i64 1] w (RetG (.tuple #[.string (mixS q z b q' z' b' f), .int .i64 0]) w) :=
  (torn_all _ _ 1 w).mono fun _ _ k => retG_of (by rw [torn_1.1, torn_1.2]) k
end Go.Proofs.Ytbcakadefineiaa

/- Groups (layer 11): what another charge makes of a list; what the laws want. -/
import Derived.Test.YtgcblkibnihplaaGp7
import Derived.Test.YtgcblkibnihplaaGp8
namespace Go.Proofs.Ytgcblkibnihplaa
open Go.RowKit Go.Mine

theorem chgL_len (L : List Gp) (t : Nat) (y : Int) : (chgL L t y).length = L.length := List.length_set ..
theorem chgL_at {L : List Gp} {t : Nat} (h : t < L.length) (y : Int) : (chgL L t y).getD t zG = ⟨(L.getD t zG).l, (L.getD t zG).p, (L.getD t zG).c + y⟩ := by
  unfold chgL; simp [List.getD, h]
theorem chgL_ne {L : List Gp} {t j : Nat} (h : j ≠ t) (y : Int) : (chgL L t y).getD j zG = L.getD j zG := by
  unfold chgL; simp [List.getD, List.getElem?_set, Ne.symm h]
theorem ok_chg {L : List Gp} {t : Nat} {y : Int} (hok : okG L = true) (h : t < L.length) (h0 : 0 ≤ (L.getD t zG).c + y) (h1 : (L.getD t zG).c + y ≤ 64) : okG (chgL L t y) = true := by
  refine okG_iff.2 ⟨by rw [chgL_len]; exact (okG_iff.1 hok).1, fun x hx => ?_⟩
  obtain ⟨j, hj, rfl⟩ := List.getElem_of_mem hx
  rw [← gD hj]
  rw [chgL_len] at hj
  by_cases e : j = t
  · subst e
    rw [chgL_at h]
    obtain ⟨a1, a2, a3, a4, a5, a6⟩ := okG_at hok h
    exact ⟨a1, a2, a3, a4, h0, h1⟩
  · rw [chgL_ne e]
    exact okG_at hok hj
theorem divide_s {B : Nat} {v : Value} {L : List Gp} {k : Nat} {w : World} (h : RowE 33 3 encG w B v L) (hok : okG L = true) (hk : k ≤ 900) : Calls Try.prog 9 #[v, .int .i64 ((k : Int) + 1)] w (RetDv (divD L (k + 1)) L.length w) := by
  have h1 := divide_p (k := k + 1) h hok (by omega)
  rwa [show ((k + 1 : Nat) : Int) = (k : Int) + 1 from by omega] at h1
/-- One frame more is one of one group more, or none. -/
theorem divD_more {L : List Gp} (h : okG L = true) (n i : Nat) : divD L (n + 1) i = divD L n i ∨ divD L (n + 1) i = divD L n i + 1 := by
  have e : divD L (n + 1) = nxD (excF L) (chgF L) L.length (divD L n) := itD_nx _ _ _ _
  rw [e]
  rcases divD_step h n with ⟨h1, -⟩ | ⟨b, -, h1⟩
  · rw [h1]; exact .inl rfl
  · rw [h1]
    unfold incD
    by_cases e : i = b
    · rw [if_pos e]; exact .inr rfl
    · rw [if_neg e]; exact .inl rfl
theorem divD_sum {L : List Gp} (h : okG L = true) (n : Nat) : sumD (divD L n) L.length = min (n : Int) (sumD (chgF L) L.length) := itD_sum (exc_ok h) n
end Go.Proofs.Ytgcblkibnihplaa

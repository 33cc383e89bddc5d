/- Groups (layer 11): what another charge makes of a list; what the laws want. -/
import Derived.Test.YtgcblkibnihplaaGp7
import Derived.Test.YtgcblkibnihplaaGp8
namespace Go.Proofs.Ytgcblkibnihplaa
open Go.RowKit Go.Mine

theorem chgL_len (L : List Gp) (t : Nat) (y : Int) : (chgL L t y).length = L.length := List.length_set ..
theorem chgL_at {L : List Gp} {t : Nat} (h : t < L.length) (y : Int) : (chgL L t y).getD t zG = ⟨(L.getD t zG).l, (L.getD t zG).p, (L.getD t zG).c + y⟩ := by
  unfold chgL; simp [List.getD, h]
theorem chgL_ne {L : List Gp} {t j : Nat} (h : j ≠ t) (y : Int) : (chgL L t y).getD j zG = L.getD j zG := by
  unfold chgL; simp [List.getD, List.getElem?_set, Ne.symm h]
theorem ok_chg {L : List Gp} {t : Nat} {y : Int} (hok : okG L = true) (h : t < L.length) (h0 : 0 ≤ (L.getD t zG).c + y) (h1 : (L.getD t zG).c + y ≤ 64) : okG (chgL L t y) = true := by
  refine okG_iff.2 ⟨by rw [chgL_len]; exact (okG_iff.1 hok).1, fun x hx => ?_⟩
  obtain ⟨j, hj, rfl⟩ := List.getElem_of_mem hx
  rw [← gD hj]
  rw [chgL_len] at hj
  by_cases e : j = t
  · subst e
    rw [chgL_at h]
    obtain ⟨a1, a2, a3, a4, a5, a6⟩ := okG_at hok h
    exact ⟨a1, a2, a3, a4, h0, h1⟩
  · rw [chgL_ne e]
    exact okG_at hok hj
end Go.Proofs.Ytgcblkibnihplaa

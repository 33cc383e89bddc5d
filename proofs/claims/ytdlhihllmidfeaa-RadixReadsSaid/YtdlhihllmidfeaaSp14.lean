/- The law's sameEntries at two rows of one list. -/
import Derived.Test.YtdlhihllmidfeaaSp8
import Derived.BigQuiet
namespace Go.Proofs.Ytdlhihllmidfeaa
open Go.RowKit Go.Mine

set_option maxHeartbeats 2000000 in
theorem sameEnt_q {T U : TypeId} {B C : Nat} (u v : Value) (L : List En) (w : World) (R : RowE T 3 encE w B u L) (S : RowE U 3 encE w C v L) (hL : L.length ≤ 1000) :
    Calls Try.prog 23 #[u, v] w (RetG (.bool true) w) := by
  obtain ⟨a, n, c, rfl, hn, hc⟩ := RowE.ents R
  obtain ⟨a2, n2, c2, rfl, hn2, hc2⟩ := RowE.ents S
  obtain rfl : n = n2 := hn.trans hn2.symm
  have HC := Lib.hid hc
  have HC2 := Lib.hid hc2
  have hnl : n ≤ 1000 := by rw [hn]; exact hL
  clear R S hL hc hc2 hn hn2
  go_enter Try.func23, Try.ntmps23
  go_wp2_with fail
  go_loopw [5] (fun iv wr => ∃ k : Nat, iv = .int .i64 k ∧ k ≤ n ∧ Grew w wr) (fun iv _ => n - (intOf iv).toNat)
  case atStart => exact ⟨0, rfl, by omega, Grew.refl _⟩
  case round =>
    obtain ⟨k, rfl, hk, G⟩ := hrel
    by_cases hlt : k < n
    · obtain ⟨g, rfl, hg, -, c0, c1, c2⟩ := HC.out k hlt
      obtain ⟨g2, rfl, hg2, -, d0, d1, d2⟩ := HC2.out k hlt
      obtain ⟨⟨ix, y, z⟩, hx⟩ : ∃ x, L.getD k (0, (0, 0)) = x := ⟨_, rfl⟩
      rw [hx] at c0 c1 c2 d0 d1 d2
      have e0 := (G.cells.1 _ _ hg).trans c0
      have e1 := (G.cells.1 _ _ hg).trans c1
      have e2 := (G.cells.1 _ _ hg).trans c2
      have f0 := (G.cells.1 _ _ hg2).trans d0
      have f1 := (G.cells.1 _ _ hg2).trans d1
      have f2 := (G.cells.1 _ _ hg2).trans d2
      have hk0 : (0 : Int) ≤ (k : Int) := by omega
      have hk1 : (k : Int) < (n : Int) := by omega
      have lg := Nat.lt_of_lt_of_le hg G.size
      have lg2 := Nat.lt_of_lt_of_le hg2 G.size
      clear c0 c1 c2 d0 d1 d2 hx hg hg2
      go_wp2
      go_quiet (fail)
      go_wp2_with fail
      go_roundw
      case rel => exact ⟨k + 1, by go_num, by omega, G.drewN _⟩
      case measure => simp [intOf]; omega
    · have hkn : k = n := by omega
      subst hkn
      go_wp2
      go_ret
      exact ⟨rfl, G⟩
end Go.Proofs.Ytdlhihllmidfeaa

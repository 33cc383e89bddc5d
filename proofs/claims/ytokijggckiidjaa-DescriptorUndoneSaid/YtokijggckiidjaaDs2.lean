/- right of the reference (layer 18). mkds2.py writes this text. -/
import Derived.Test.YtokijggckiidjaaDs1
import Derived.Test.YtokijggckiidjaaOdd
import Derived.Test.YtokijggckiidjaaInsM
namespace Go.Mine
open Go Go.RowKit
theorem and3 {g : Int} (h1 : 1 ≤ g) (h2 : g ≤ 7) : (bits .and .i64 g 3 != 0) = !decide (g = 4) := by
  have : g = 1 ∨ g = 2 ∨ g = 3 ∨ g = 4 ∨ g = 5 ∨ g = 6 ∨ g = 7 := by omega
  rcases this with rfl | rfl | rfl | rfl | rfl | rfl | rfl <;> decide
end Go.Mine
namespace Go.Proofs.Ytokijggckiidjaa
open Go.ChangeShapes Go.WideShapes Go.ChangeAt Go.RowKit Go.Mine
set_option maxHeartbeats 4000000 in
theorem right_q {x : Ds} {b : Bool} {w : World} (hb : rtD x = b) : Calls Try.prog 35 #[dsV x] w (RetG (.bool b) w) := by
  obtain ⟨f, g, o, c, r⟩ := x
  have HB := Lib.hid hb
  have HN : Hid (¬((0 ≤ f ∧ f ≤ 7) ∧ (1 ≤ g ∧ g ≤ 7 ∧ g ≠ 4) ∧ (0 ≤ o ∧ o ≤ 128) ∧ 0 ≤ c ∧ c ≤ 1000000) → rtD ⟨f, g, o, c, r⟩ = false) := Lib.hid fun h => rtD_no h
  have HY : Hid (((0 ≤ f ∧ f ≤ 7) ∧ (1 ≤ g ∧ g ≤ 7 ∧ g ≠ 4) ∧ (0 ≤ o ∧ o ≤ 128) ∧ 0 ≤ c ∧ c ≤ 1000000) → rtD ⟨f, g, o, c, r⟩ = true) := Lib.hid fun h => rtD_iff.2 h
  have HG := Lib.hid ((Grew.refl w).alloc (.cells #[.int .i64 f, .int .i64 g, .int .i64 o, .int .i64 c, .int .i64 r] 34))
  clear hb
  by_cases h10 : 0 ≤ f
  · skip
    by_cases h11 : f < 8
    · skip
      by_cases h12 : 1 ≤ g
      · skip
        by_cases h13 : g ≤ 7
        · skip
          have ha := and3 (g := g) (by omega) (by omega)
          by_cases h4 : g = 4
          · rw [decide_eq_true h4, Bool.not_true] at ha
            have HE : Hid (b = false) := Lib.hid (HB.out.symm.trans (HN.out (by omega)))
            clear HN HY h4
            go_enter Try.func35, Try.ntmps35
            go_wp2
            go_ret
            exact ⟨ret_bool HE.out.symm, HG.out⟩
          · rw [decide_eq_false h4, Bool.not_false] at ha
            by_cases h15 : 0 ≤ o
            · skip
              by_cases h16 : o ≤ 128
              · skip
                by_cases h17 : 0 ≤ c
                · skip
                  by_cases h18 : c ≤ 1000000
                  · skip
                    have HE : Hid (b = true) := Lib.hid (HB.out.symm.trans (HY.out (by omega)))
                    clear HN HY
                    go_enter Try.func35, Try.ntmps35
                    go_wp2
                    go_ret
                    exact ⟨ret_bool HE.out.symm, HG.out⟩
                  · skip
                    have HE : Hid (b = false) := Lib.hid (HB.out.symm.trans (HN.out (by omega)))
                    clear HN HY
                    go_enter Try.func35, Try.ntmps35
                    go_wp2
                    go_ret
                    exact ⟨ret_bool HE.out.symm, HG.out⟩
                · skip
                  have HE : Hid (b = false) := Lib.hid (HB.out.symm.trans (HN.out (by omega)))
                  clear HN HY
                  go_enter Try.func35, Try.ntmps35
                  go_wp2
                  go_ret
                  exact ⟨ret_bool HE.out.symm, HG.out⟩
              · skip
                have HE : Hid (b = false) := Lib.hid (HB.out.symm.trans (HN.out (by omega)))
                clear HN HY
                go_enter Try.func35, Try.ntmps35
                go_wp2
                go_ret
                exact ⟨ret_bool HE.out.symm, HG.out⟩
            · skip
              have HE : Hid (b = false) := Lib.hid (HB.out.symm.trans (HN.out (by omega)))
              clear HN HY
              go_enter Try.func35, Try.ntmps35
              go_wp2
              go_ret
              exact ⟨ret_bool HE.out.symm, HG.out⟩
        · skip
          have HE : Hid (b = false) := Lib.hid (HB.out.symm.trans (HN.out (by omega)))
          clear HN HY
          go_enter Try.func35, Try.ntmps35
          go_wp2
          go_ret
          exact ⟨ret_bool HE.out.symm, HG.out⟩
      · skip
        have HE : Hid (b = false) := Lib.hid (HB.out.symm.trans (HN.out (by omega)))
        clear HN HY
        go_enter Try.func35, Try.ntmps35
        go_wp2
        go_ret
        exact ⟨ret_bool HE.out.symm, HG.out⟩
    · skip
      have HE : Hid (b = false) := Lib.hid (HB.out.symm.trans (HN.out (by omega)))
      clear HN HY
      go_enter Try.func35, Try.ntmps35
      go_wp2
      go_ret
      exact ⟨ret_bool HE.out.symm, HG.out⟩
  · skip
    have HE : Hid (b = false) := Lib.hid (HB.out.symm.trans (HN.out (by omega)))
    clear HN HY
    go_enter Try.func35, Try.ntmps35
    go_wp2
    go_ret
    exact ⟨ret_bool HE.out.symm, HG.out⟩
end Go.Proofs.Ytokijggckiidjaa

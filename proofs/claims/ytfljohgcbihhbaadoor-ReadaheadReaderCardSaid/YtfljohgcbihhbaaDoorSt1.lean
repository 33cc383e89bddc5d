/- The contracts of package stream: one stream (layer 6). -/
import Derived.Test.YtfljohgcbihhbaaDoorRows
import Derived.Test.YtfljohgcbihhbaaDoorStM
import Derived.Deep.QuietTactic
import Derived.BigQuiet
import Derived.IntWalk
namespace Go.Proofs.YtfljohgcbihhbaaDoor
open Go.RowKit Go.Mine

theorem isAccess_any (a b : Int) (w : World) : Calls Tryd.prog 55 #[.int .i64 a, .int .i64 b] w (RetS (.bool (accB a b)) w) := by
  go_enter Tryd.func55, Tryd.ntmps55
  go_wp2
  all_goals go_ret
  all_goals exact ⟨ret_bool (by unfold accB AccP; first | exact decide_eq_decide.2 (by omega) | exact (decide_eq_false (by omega)).symm), rfl⟩
theorem isCount_any (n : Int) (w : World) : Calls Tryd.prog 62 #[.int .i64 n] w (RetS (.bool (cntB n)) w) := by
  go_enter Tryd.func62, Tryd.ntmps62
  go_wp2
  all_goals go_ret
  all_goals exact ⟨ret_bool (by unfold cntB; first | exact decide_eq_decide.2 (by omega) | exact (decide_eq_false (by omega)).symm), rfl⟩
theorem isStep_any (d l : Int) (w : World) (h0 : -1000 ≤ d) (h1 : d ≤ 1000) : Calls Tryd.prog 63 #[.int .i64 d, .int .i64 l] w (RetS (.bool (stpB d l)) w) := by
  go_enter Tryd.func63, Tryd.ntmps63
  go_wp2
  all_goals go_ret
  all_goals exact ⟨ret_bool (by unfold stpB StpP; first | exact decide_eq_decide.2 (by omega) | exact (decide_eq_false (by omega)).symm), rfl⟩
theorem canBe_any (x : Str) (k : Int) (w : World) : Calls Tryd.prog 75 #[strV x, .int .i64 k] w (RetG (.bool (canB x k)) w) := by
  have G : Grew w (w.alloc (.cells (csS x) 29)) := (Grew.refl _).alloc _
  cases h1 : (x.k == 1)
  all_goals
    cases h2 : (x.k == k)
    all_goals
      go_enter Tryd.func75, Tryd.ntmps75
      go_wp2
      go_ret
      exact ⟨ret_bool (by simp at h1 h2; simp [canB, h1, h2]), G⟩
theorem goesForward_any (x : Str) (a b : Int) (w : World) (hb : 0 ≤ x.b ∧ x.b ≤ 256) : Calls Tryd.prog 68 #[strV x, .int .i64 a, .int .i64 b] w (RetG (.bool (fwdB x a b)) w) := by
  obtain ⟨b0, b1⟩ := hb
  have O := Own.new w 29 (csS x)
  have HF := Lib.hid (show fwdB x a b = (canB x 2 && (decide (a = x.b) || decide (a = x.b - 1)) && decide (x.b < b)) from by rw [Bool.eq_iff_iff]; simp [fwdB, canB, and_assoc])
  cases h0 : canB x 2
  all_goals
    cases h1 : (a == x.b)
    all_goals
      cases h2 : (a == x.b - 1)
      all_goals
        go_enter Tryd.func68, Tryd.ntmps68
        go_wp2_with fail
        with_reducible refine (canBe_any _ _ _).mono ?_
        rw [h0]
        rintro e w1 ⟨rfl, g1⟩
        have P := O.grew g1
        have G : Grew w w1 := ((Grew.refl w).alloc _).trans g1
        obtain ⟨p0, p1, p2, p3, p4, p5⟩ := P.six
        go_wp2
        go_ret
        exact ⟨ret_bool (by rw [HF.out, h0]; simp at h1 h2; simp [h1, h2]), G⟩
theorem goesBackward_any (x : Str) (a b : Int) (w : World) (hb : 0 ≤ x.a ∧ x.a ≤ 256) : Calls Tryd.prog 70 #[strV x, .int .i64 a, .int .i64 b] w (RetG (.bool (bwdB x a b)) w) := by
  obtain ⟨b0, b1⟩ := hb
  have O := Own.new w 29 (csS x)
  have HF := Lib.hid (show bwdB x a b = (canB x 3 && (decide (b = x.a) || decide (b = x.a + 1)) && decide (a < x.a)) from by rw [Bool.eq_iff_iff]; simp [bwdB, canB, and_assoc])
  cases h0 : canB x 3
  all_goals
    cases h1 : (b == x.a)
    all_goals
      cases h2 : (b == x.a + 1)
      all_goals
        go_enter Tryd.func70, Tryd.ntmps70
        go_wp2_with fail
        with_reducible refine (canBe_any _ _ _).mono ?_
        rw [h0]
        rintro e w1 ⟨rfl, g1⟩
        have P := O.grew g1
        have G : Grew w w1 := ((Grew.refl w).alloc _).trans g1
        obtain ⟨p0, p1, p2, p3, p4, p5⟩ := P.six
        go_wp2
        go_ret
        exact ⟨ret_bool (by rw [HF.out, h0]; simp at h1 h2; simp [h1, h2]), G⟩
theorem strides_any (x : Str) (a b : Int) (w : World) (hx : 0 ≤ x.a ∧ x.a < x.b ∧ x.b ≤ 256) (ha : 0 ≤ a ∧ a < b ∧ b ≤ 256) : Calls Tryd.prog 71 #[strV x, .int .i64 a, .int .i64 b] w (RetG (.bool (sdB x a b)) w) := by
  obtain ⟨x0, x1, x2⟩ := hx
  obtain ⟨a0, a1, a2⟩ := ha
  have O := Own.new w 29 (csS x)
  have G0 : Grew w (w.alloc (.cells (csS x) 29)) := (Grew.refl _).alloc _
  have HF := Lib.hid (show sdB x a b = (!(decide (x.k = 4) && !decide (a - x.a = x.d)) && (canB x 4 && (stpB (a - x.a) (x.b - x.a) && stpB (a - x.a) (b - a)))) from by
    rw [Bool.eq_iff_iff]
    simp only [sdB, canB, stpB, decide_eq_true_eq, Bool.and_eq_true, Bool.not_eq_true', Bool.and_eq_false_iff, decide_eq_false_iff_not, Bool.not_eq_false']
    constructor
    · rintro ⟨h, h'⟩
      refine ⟨?_, ?_, h'⟩
      · by_cases e : x.k = 4
        · right; rcases h with h | h <;> omega
        · exact .inl e
      · rcases h with h | h
        · exact .inl h
        · exact .inr h.1
    · rintro ⟨h, h', h2⟩
      refine ⟨?_, h2⟩
      rcases h' with h' | h'
      · exact .inl h'
      · exact .inr ⟨h', by rcases h with h | h <;> omega⟩)
  cases h1 : (x.k == 4)
  case true =>
    cases h2 : (a - x.a != x.d)
    case true =>
      go_enter Tryd.func71, Tryd.ntmps71
      go_wp2
      go_ret
      exact ⟨ret_bool (by rw [HF.out]; simp at h1 h2; simp [h1, h2]), G0⟩
    case false =>
      cases h0 : canB x 4
      all_goals
        cases h3 : stpB (a - x.a) (x.b - x.a)
        all_goals
          go_enter Tryd.func71, Tryd.ntmps71
          go_wp2_with fail
          with_reducible refine (canBe_any _ _ _).mono ?_
          rw [h0]
          rintro e w1 ⟨rfl, g1⟩
          have P := O.grew g1
          have G : Grew w w1 := ((Grew.refl w).alloc _).trans g1
          obtain ⟨p0, p1, p2, p3, p4, p5⟩ := P.six
          go_wp2_with (go_at_call 63; (with_reducible refine (isStep_any _ _ _ (by omega) (by omega)).mono ?_); (first | rw [h3] | skip); rintro e w2 ⟨rfl, rfl⟩)
          go_ret
          exact ⟨ret_bool (by rw [HF.out, h0, h3]; simp at h1 h2; simp [h1, h2]), G⟩
  case false =>
    cases h0 : canB x 4
    all_goals
      cases h3 : stpB (a - x.a) (x.b - x.a)
      all_goals
        go_enter Tryd.func71, Tryd.ntmps71
        go_wp2_with fail
        with_reducible refine (canBe_any _ _ _).mono ?_
        rw [h0]
        rintro e w1 ⟨rfl, g1⟩
        have P := O.grew g1
        have G : Grew w w1 := ((Grew.refl w).alloc _).trans g1
        obtain ⟨p0, p1, p2, p3, p4, p5⟩ := P.six
        go_wp2_with (go_at_call 63; (with_reducible refine (isStep_any _ _ _ (by omega) (by omega)).mono ?_); (first | rw [h3] | skip); rintro e w2 ⟨rfl, rfl⟩)
        go_ret
        exact ⟨ret_bool (by rw [HF.out, h0, h3]; simp at h1; simp [h1]), G⟩
theorem grown_any (x : Str) (k d a b : Int) (w : World) (h : 0 ≤ x.h ∧ x.h ≤ 1000000) : Calls Tryd.prog 69 #[strV x, .int .i64 k, .int .i64 d, .int .i64 a, .int .i64 b] w (RetG (strV (grwF x k d a b)) w) := by
  obtain ⟨b0, b1⟩ := h
  have HM := Lib.hid (show minH x.h = min (x.h + 1) 1000000 from rfl)
  have GN : ∀ y : Array Value, Grew w ((w.alloc (.cells (csS x) 29)).alloc (.cells y 29)) := fun y => ((Grew.refl w).alloc _).alloc _
  go_enter Tryd.func69, Tryd.ntmps69
  go_wp2
  · refine bodyPost_ret (v := strV ⟨k, a, b, d, 1000000, x.t⟩) (by simp [results, Tryd.results69, go_sem]) rfl ⟨?_, GN _⟩
    exact ret_val (by rw [show grwF x k d a b = ⟨k, a, b, d, 1000000, x.t⟩ from Str.eq rfl rfl rfl rfl (by show min (x.h + 1) 1000000 = 1000000; omega) rfl])
  · refine bodyPost_ret (v := strV ⟨k, a, b, d, x.h + 1, x.t⟩) (by simp [results, Tryd.results69, go_sem]) rfl ⟨?_, GN _⟩
    exact ret_val (by rw [show grwF x k d a b = ⟨k, a, b, d, x.h + 1, x.t⟩ from Str.eq rfl rfl rfl rfl (by show min (x.h + 1) 1000000 = x.h + 1; omega) rfl])
end Go.Proofs.YtfljohgcbihhbaaDoor

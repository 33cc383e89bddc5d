/- Layer 12: isWithin, Check, Rate, Start, of the program and of the reference. -/
import Derived.Test.YtofeeaekdgpmlaaBwM
import Derived.Test.YtofeeaekdgpmlaaTape
namespace Go.Proofs.Ytofeeaekdgpmlaa
open Go.RowKit Go.Mine

theorem isWithin_p {n l m : Int} {b : Bool} {w : World} (hb : frB n l m = b) : Calls Try.prog 18 #[.int .i64 n, .int .i64 l, .int .i64 m] w (RetS (.bool b) w) := by
  have HB := Lib.hid hb
  clear hb
  by_cases t1 : l ≤ n
  · by_cases t2 : n ≤ m
    · have HE : Hid (b = true) := Lib.hid (by rw [← HB.out]; exact frB_t t1 t2)
      go_enter Try.func18, Try.ntmps18
      go_wp2
      go_ret
      exact ⟨ret_bool HE.out.symm, rfl⟩
    · have HE : Hid (b = false) := Lib.hid (by rw [← HB.out]; exact frB_2 t2)
      go_enter Try.func18, Try.ntmps18
      go_wp2
      go_ret
      exact ⟨ret_bool HE.out.symm, rfl⟩
  · have HE : Hid (b = false) := Lib.hid (by rw [← HB.out]; exact frB_1 t1)
    go_enter Try.func18, Try.ntmps18
    go_wp2
    go_ret
    exact ⟨ret_bool HE.out.symm, rfl⟩
theorem check_p {x : Me} {b : Bool} {w : World} (hb : okM x = b) : Calls Try.prog 12 #[meV x] w (RetG (.bool b) w) := by
  have HB := Lib.hid hb
  clear hb
  have HW := Lib.hid (okM_ways x)
  obtain ⟨a, s, d⟩ := x
  have HG := Lib.hid ((Grew.refl w).alloc (.cells #[.int .i64 a, .int .i64 s, .int .i64 d] 28))
  rcases HW.out with ⟨e, h1⟩ | ⟨e, h1, h2⟩ | ⟨e, h1, h2⟩
  · have HE : Hid (b = false) := Lib.hid (HB.out.symm.trans e)
    have H1 := Lib.hid h1
    clear h1 e HW
    go_enter Try.func12, Try.ntmps12
    go_wp2_with fail
    with_reducible refine (isWithin_p H1.out).mono ?_
    rintro e w1 ⟨rfl, rfl⟩
    go_wp2
    go_ret
    exact ⟨ret_bool HE.out.symm, HG.out⟩
  · have HE : Hid (b = false) := Lib.hid (HB.out.symm.trans e)
    have H1 := Lib.hid h1
    have H2 := Lib.hid h2
    clear h1 h2 e HW
    go_enter Try.func12, Try.ntmps12
    go_wp2_with fail
    with_reducible refine (isWithin_p H1.out).mono ?_
    rintro e w1 ⟨rfl, rfl⟩
    go_wp2_with fail
    with_reducible refine (isWithin_p H2.out).mono ?_
    rintro e w1 ⟨rfl, rfl⟩
    go_wp2
    go_ret
    exact ⟨ret_bool HE.out.symm, HG.out⟩
  · have HE : Hid (frB s 0 1000000 = b) := Lib.hid (e.symm.trans HB.out)
    have H1 := Lib.hid h1
    have H2 := Lib.hid h2
    clear h1 h2 e HW
    go_enter Try.func12, Try.ntmps12
    go_wp2_with fail
    with_reducible refine (isWithin_p H1.out).mono ?_
    rintro e w1 ⟨rfl, rfl⟩
    go_wp2_with fail
    with_reducible refine (isWithin_p H2.out).mono ?_
    rintro e w1 ⟨rfl, rfl⟩
    go_wp2_with fail
    with_reducible refine (isWithin_p HE.out).mono ?_
    rintro e w1 ⟨rfl, rfl⟩
    go_wp2
    go_ret
    exact ⟨rfl, HG.out⟩
set_option maxHeartbeats 4000000 in
theorem check_q {x : Me} {b : Bool} {w : World} (hb : okM x = b) : Calls Try.prog 13 #[meV x] w (RetG (.bool b) w) := by
  have HB := Lib.hid hb
  clear hb
  obtain ⟨a, s, d⟩ := x
  have HW := Lib.hid (okM_cases a s d)
  have HG := Lib.hid ((Grew.refl w).alloc (.cells #[.int .i64 a, .int .i64 s, .int .i64 d] 28))
  rcases HW.out with ⟨e, h1⟩ | ⟨e, h1, h2⟩ | ⟨e, h1, h2, h3⟩ | ⟨e, h1, h2, h3, h4⟩ | ⟨e, h1, h2, h3, h4, h5⟩ | ⟨e, h1, h2, h3, h4, h5, h6⟩ | ⟨e, h1, h2, h3, h4, h5, h6⟩
  all_goals
    have HE := Lib.hid (HB.out.symm.trans e)
    clear e HW HB
    go_enter Try.func13, Try.ntmps13
    go_wp2
    go_ret
    exact ⟨ret_bool HE.out.symm, HG.out⟩
theorem rate_p {x : Me} {r : Int} {w : World} (hr : rtM x = r) : Calls Try.prog 14 #[meV x] w (RetG (.int .i64 r) w) := by
  have HR := Lib.hid hr
  clear hr
  obtain ⟨a, s, d⟩ := x
  have HO := Lib.hid (Own.new w 28 #[.int .i64 a, .int .i64 s, .int .i64 d])
  have HG := Lib.hid ((Grew.refl w).alloc (.cells #[.int .i64 a, .int .i64 s, .int .i64 d] 28))
  cases h : okM ⟨a, s, d⟩
  · have HE : Hid (r = 1) := Lib.hid (by rw [← HR.out]; unfold rtM; rw [h])
    have HK := Lib.hid h
    clear h HR
    go_enter Try.func14, Try.ntmps14
    go_wp2_with fail
    with_reducible refine (check_p HK.out).mono ?_
    rintro e w1 ⟨rfl, g1⟩
    go_wp2
    go_ret
    exact ⟨ret_int HE.out.symm, HG.out.trans g1⟩
  · have HE : Hid (r = max a 1) := Lib.hid (by rw [← HR.out]; unfold rtM; rw [h])
    have HK := Lib.hid h
    clear h HR
    go_enter Try.func14, Try.ntmps14
    go_wp2_with fail
    with_reducible refine (check_p HK.out).mono ?_
    rintro e w1 ⟨rfl, g1⟩
    obtain ⟨a0, a1, a2, a3, a4, a5⟩ := (HO.out.grew g1).three
    have HG1 := Lib.hid (HG.out.trans g1)
    clear g1
    go_wp2
    all_goals
      go_ret
      exact ⟨ret_int (by rw [HE.out]; omega), HG1.out⟩
theorem rate_q {x : Me} {r : Int} {w : World} (hr : rtM x = r) : Calls Try.prog 15 #[meV x] w (RetG (.int .i64 r) w) := by
  have HR := Lib.hid hr
  clear hr
  obtain ⟨a, s, d⟩ := x
  have HO := Lib.hid (Own.new w 28 #[.int .i64 a, .int .i64 s, .int .i64 d])
  have HG := Lib.hid ((Grew.refl w).alloc (.cells #[.int .i64 a, .int .i64 s, .int .i64 d] 28))
  cases h : okM ⟨a, s, d⟩
  · have HE : Hid (r = 1) := Lib.hid (by rw [← HR.out]; unfold rtM; rw [h])
    have HK := Lib.hid h
    clear h HR
    go_enter Try.func15, Try.ntmps15
    go_wp2_with fail
    with_reducible refine (check_q HK.out).mono ?_
    rintro e w1 ⟨rfl, g1⟩
    go_wp2
    go_ret
    exact ⟨ret_int HE.out.symm, HG.out.trans g1⟩
  · have HE : Hid (r = max a 1) := Lib.hid (by rw [← HR.out]; unfold rtM; rw [h])
    have HK := Lib.hid h
    clear h HR
    go_enter Try.func15, Try.ntmps15
    go_wp2_with fail
    with_reducible refine (check_q HK.out).mono ?_
    rintro e w1 ⟨rfl, g1⟩
    obtain ⟨a0, a1, a2, a3, a4, a5⟩ := (HO.out.grew g1).three
    have HG1 := Lib.hid (HG.out.trans g1)
    clear g1
    go_wp2
    all_goals
      go_ret
      exact ⟨ret_int (by rw [HE.out]; omega), HG1.out⟩
theorem start_p {n e : Int} {y : Me} {w : World} (h : StR n y e) : Calls Try.prog 8 #[.int .i64 n] w (RetG (.tuple #[meV y, .int .i64 e]) w) := by
  rcases h with ⟨h1, rfl, rfl⟩ | ⟨h1, rfl, rfl⟩
  · have H1 := Lib.hid h1
    clear h1
    go_enter Try.func8, Try.ntmps8
    go_wp2_with fail
    with_reducible refine (isWithin_p H1.out).mono ?_
    rintro e w1 ⟨rfl, rfl⟩
    go_wp2
    have OE := Own.new w 28 #[.int .i64 256, .int .i64 n, .int .i64 0]
    have GE := (Grew.refl w).alloc (.cells #[.int .i64 256, .int .i64 n, .int .i64 0] 28)
    obtain ⟨b0, b1, b2, b3, b4, b5⟩ := OE.three
    refine bodyPost_ret (v := .tuple #[meV ⟨256, n, 0⟩, .int .i64 0]) (by simp [results, Try.results8, go_sem, b0, b1, b2]) rfl ⟨rfl, ?_⟩
    exact GE
  · have H1 := Lib.hid h1
    clear h1
    go_enter Try.func8, Try.ntmps8
    go_wp2_with fail
    with_reducible refine (isWithin_p H1.out).mono ?_
    rintro e w1 ⟨rfl, rfl⟩
    go_wp2
    have OE := Own.new w 28 #[.int .i64 0, .int .i64 0, .int .i64 0]
    have GE := (Grew.refl w).alloc (.cells #[.int .i64 0, .int .i64 0, .int .i64 0] 28)
    obtain ⟨b0, b1, b2, b3, b4, b5⟩ := OE.three
    refine bodyPost_ret (v := .tuple #[meV ⟨0, 0, 0⟩, .int .i64 2]) (by simp [results, Try.results8, go_sem, b0, b1, b2]) rfl ⟨rfl, ?_⟩
    exact GE
theorem start_q {n e : Int} {y : Me} {w : World} (h : StR n y e) : Calls Try.prog 9 #[.int .i64 n] w (RetG (.tuple #[meV y, .int .i64 e]) w) := by
  rcases h with ⟨h1, rfl, rfl⟩ | ⟨h1, rfl, rfl⟩
  · obtain ⟨h2, h3⟩ := frB_iff.1 h1
    clear h1
    go_enter Try.func9, Try.ntmps9
    go_wp2
    have OE := Own.new w 28 #[.int .i64 256, .int .i64 n, .int .i64 0]
    have GE := (Grew.refl w).alloc (.cells #[.int .i64 256, .int .i64 n, .int .i64 0] 28)
    obtain ⟨b0, b1, b2, b3, b4, b5⟩ := OE.three
    refine bodyPost_ret (v := .tuple #[meV ⟨256, n, 0⟩, .int .i64 0]) (by simp [results, Try.results9, go_sem, b0, b1, b2]) rfl ⟨rfl, ?_⟩
    exact GE
  · have HN : ¬0 ≤ n ∨ (0 ≤ n ∧ ¬n ≤ 1000000) := by
      by_cases h2 : 0 ≤ n
      · exact .inr ⟨h2, fun h3 => by rw [frB_t h2 h3] at h1; cases h1⟩
      · exact .inl h2
    clear h1
    rcases HN with h2 | ⟨h2, h3⟩
    all_goals
      go_enter Try.func9, Try.ntmps9
      go_wp2
      have OE := Own.new w 28 #[.int .i64 0, .int .i64 0, .int .i64 0]
      have GE := (Grew.refl w).alloc (.cells #[.int .i64 0, .int .i64 0, .int .i64 0] 28)
      obtain ⟨b0, b1, b2, b3, b4, b5⟩ := OE.three
      refine bodyPost_ret (v := .tuple #[meV ⟨0, 0, 0⟩, .int .i64 2]) (by simp [results, Try.results9, go_sem, b0, b1, b2]) rfl ⟨rfl, ?_⟩
      exact GE
end Go.Proofs.Ytofeeaekdgpmlaa

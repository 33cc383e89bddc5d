/- isFrom, opens, isAt, isRight, hasProc of the program (layer 18). mkdp1.py writes this text. -/
import Derived.Test.YtokijggckiidjaaDpM
namespace Go.Proofs.Ytokijggckiidjaa
open Go.ChangeShapes Go.WideShapes Go.ChangeAt Go.RowKit Go.Mine
theorem isFrom_p {n l u : Int} {b : Bool} {w : World} (hb : inD n l u = b) : Calls Try.prog 42 #[.int .i64 n, .int .i64 l, .int .i64 u] w (RetS (.bool b) w) := by
  have HB := Lib.hid hb
  clear hb
  by_cases t1 : l ≤ n
  · by_cases t2 : n ≤ u
    · have HE : Hid (b = true) := Lib.hid (HB.out.symm.trans (inD_iff.2 ⟨t1, t2⟩))
      go_enter Try.func42, Try.ntmps42
      go_wp2
      go_ret
      exact ⟨ret_bool HE.out.symm, rfl⟩
    · have HE : Hid (b = false) := Lib.hid (HB.out.symm.trans (inD_no fun h => t2 h.2))
      go_enter Try.func42, Try.ntmps42
      go_wp2
      go_ret
      exact ⟨ret_bool HE.out.symm, rfl⟩
  · have HE : Hid (b = false) := Lib.hid (HB.out.symm.trans (inD_no fun h => t1 h.1))
    go_enter Try.func42, Try.ntmps42
    go_wp2
    go_ret
    exact ⟨ret_bool HE.out.symm, rfl⟩

theorem opens_p {x : Ds} {b : Bool} {w : World} (hb : opB x = b) : Calls Try.prog 48 #[dsV x] w (RetG (.bool b) w) := by
  obtain ⟨f, g, o, c, r⟩ := x
  have HB := Lib.hid hb
  have HG := Lib.hid ((Grew.refl w).alloc (.cells #[.int .i64 f, .int .i64 g, .int .i64 o, .int .i64 c, .int .i64 r] 34))
  obtain ⟨z0, z1, z2, z3, z4⟩ := (Mine.Own.new w 34 #[.int .i64 f, .int .i64 g, .int .i64 o, .int .i64 c, .int .i64 r]).fiveD
  clear hb

  cases q1 : inD f 0 7
  · have HE : Hid (b = false) := Lib.hid (HB.out.symm.trans (show (inD f 0 7 && flD g) = false by rw [q1]; rfl))
    have Q1 := Lib.hid (isFrom_p (w := w.alloc (.cells #[.int .i64 f, .int .i64 g, .int .i64 o, .int .i64 c, .int .i64 r] 34)) q1)
    clear q1
    go_enter Try.func48, Try.ntmps48
    go_wp2_with fail
    with_reducible refine Q1.out.mono ?_
    rintro e9 w1 ⟨rfl, rfl⟩
    go_wp2
    go_ret
    exact ⟨ret_bool HE.out.symm, HG.out⟩
  have Q1 := Lib.hid (isFrom_p (w := w.alloc (.cells #[.int .i64 f, .int .i64 g, .int .i64 o, .int .i64 c, .int .i64 r] 34)) q1)
  have HF : Hid (b = flD g) := Lib.hid (HB.out.symm.trans (show (inD f 0 7 && flD g) = flD g by rw [q1, Bool.true_and]))
  clear q1
  cases q2 : inD g 1 7
  · have HE : Hid (b = false) := Lib.hid (HF.out.trans (decide_eq_false fun h => by rw [inD_iff.2 ⟨h.1, h.2.1⟩] at q2; cases q2))
    have Q2 := Lib.hid (isFrom_p (w := w.alloc (.cells #[.int .i64 f, .int .i64 g, .int .i64 o, .int .i64 c, .int .i64 r] 34)) q2)
    clear q2
    go_enter Try.func48, Try.ntmps48
    go_wp2_with fail
    with_reducible refine Q1.out.mono ?_
    rintro e9 w1 ⟨rfl, rfl⟩
    go_wp2_with fail
    with_reducible refine Q2.out.mono ?_
    rintro e9 w1 ⟨rfl, rfl⟩
    go_wp2
    go_ret
    exact ⟨ret_bool HE.out.symm, HG.out⟩
  have Q2 := Lib.hid (isFrom_p (w := w.alloc (.cells #[.int .i64 f, .int .i64 g, .int .i64 o, .int .i64 c, .int .i64 r] 34)) q2)
  have Q3 := inD_iff.1 q2
  clear q2
  by_cases h4 : g = 4
  · have HE : Hid (b = false) := Lib.hid (HF.out.trans (decide_eq_false fun h => h.2.2 h4))
    subst h4
    clear Q3
    go_enter Try.func48, Try.ntmps48
    go_wp2_with fail
    with_reducible refine Q1.out.mono ?_
    rintro e9 w1 ⟨rfl, rfl⟩
    go_wp2_with fail
    with_reducible refine Q2.out.mono ?_
    rintro e9 w1 ⟨rfl, rfl⟩
    go_wp2
    go_ret
    exact ⟨ret_bool HE.out.symm, HG.out⟩
  · have HE : Hid (b = true) := Lib.hid (HF.out.trans (decide_eq_true ⟨Q3.1, Q3.2, h4⟩))
    have h5 : (g == 4) = false := by simpa using h4
    have h6 : (g != 4) = true := by simpa using h4
    clear h4 Q3
    go_enter Try.func48, Try.ntmps48
    go_wp2_with fail
    with_reducible refine Q1.out.mono ?_
    rintro e9 w1 ⟨rfl, rfl⟩
    go_wp2_with fail
    with_reducible refine Q2.out.mono ?_
    rintro e9 w1 ⟨rfl, rfl⟩
    go_wp2
    go_ret
    exact ⟨ret_bool HE.out.symm, HG.out⟩
theorem isAt_p {x : Ds} {b : Bool} {w : World} (hb : atB x = b) : Calls Try.prog 49 #[dsV x] w (RetG (.bool b) w) := by
  obtain ⟨f, g, o, c, r⟩ := x
  have HB := Lib.hid hb
  have HG := Lib.hid ((Grew.refl w).alloc (.cells #[.int .i64 f, .int .i64 g, .int .i64 o, .int .i64 c, .int .i64 r] 34))
  obtain ⟨z0, z1, z2, z3, z4⟩ := (Mine.Own.new w 34 #[.int .i64 f, .int .i64 g, .int .i64 o, .int .i64 c, .int .i64 r]).fiveD
  clear hb

  cases q1 : inD o 0 128
  · have HE : Hid (b = false) := Lib.hid (HB.out.symm.trans (show (inD o 0 128 && inD c 0 1000000) = false by rw [q1]; rfl))
    have Q1 := Lib.hid (isFrom_p (w := w.alloc (.cells #[.int .i64 f, .int .i64 g, .int .i64 o, .int .i64 c, .int .i64 r] 34)) q1)
    clear q1
    go_enter Try.func49, Try.ntmps49
    go_wp2_with fail
    with_reducible refine Q1.out.mono ?_
    rintro e9 w1 ⟨rfl, rfl⟩
    go_wp2
    go_ret
    exact ⟨ret_bool HE.out.symm, HG.out⟩
  have Q1 := Lib.hid (isFrom_p (w := w.alloc (.cells #[.int .i64 f, .int .i64 g, .int .i64 o, .int .i64 c, .int .i64 r] 34)) q1)
  have HF : Hid (b = inD c 0 1000000) := Lib.hid (HB.out.symm.trans (show (inD o 0 128 && inD c 0 1000000) = inD c 0 1000000 by rw [q1, Bool.true_and]))
  clear q1
  obtain ⟨b2, q2⟩ : ∃ b2, inD c 0 1000000 = b2 := ⟨_, rfl⟩
  have HE : Hid (b = b2) := Lib.hid (HF.out.trans q2)
  have Q2 := Lib.hid (isFrom_p (w := w.alloc (.cells #[.int .i64 f, .int .i64 g, .int .i64 o, .int .i64 c, .int .i64 r] 34)) q2)
  clear q2
  go_enter Try.func49, Try.ntmps49
  go_wp2_with fail
  with_reducible refine Q1.out.mono ?_
  rintro e9 w1 ⟨rfl, rfl⟩
  go_wp2_with fail
  with_reducible refine Q2.out.mono ?_
  rintro e9 w1 ⟨rfl, rfl⟩
  go_wp2
  go_ret
  exact ⟨ret_bool HE.out.symm, HG.out⟩
theorem run_eqlDs (w : World) (x y : Ds) : (binOp .eql 34 (dsV x) (dsV y)).run Try.prog w = .ok (.bool (decide (x = y))) w := by
  obtain ⟨a, b, c, d, e⟩ := x
  obtain ⟨a', b', c', d', e'⟩ := y
  go_simp
  by_cases h1 : a = a' <;> by_cases h2 : b = b' <;> by_cases h3 : c = c' <;> by_cases h4 : d = d' <;> by_cases h5 : e = e' <;> simp [h1, h2, h3, h4, h5]
theorem isRight_p {x : Ds} {b : Bool} {w : World} (hb : rgB x = b) : Calls Try.prog 44 #[dsV x] w (RetG (.bool b) w) := by
  obtain ⟨f, g, o, c, r⟩ := x
  have HB := Lib.hid hb
  have HG := Lib.hid ((Grew.refl w).alloc (.cells #[.int .i64 f, .int .i64 g, .int .i64 o, .int .i64 c, .int .i64 r] 34))
  obtain ⟨z0, z1, z2, z3, z4⟩ := (Mine.Own.new w 34 #[.int .i64 f, .int .i64 g, .int .i64 o, .int .i64 c, .int .i64 r]).fiveD
  clear hb

  have HY := Lib.hid (Mine.Own.new w 34 #[.int .i64 f, .int .i64 g, .int .i64 o, .int .i64 c, .int .i64 r])
  by_cases hz : (⟨f, g, o, c, r⟩ : Ds) = zDs
  · have HE : Hid (b = true) := Lib.hid (HB.out.symm.trans (rgB_z hz))
    have he : ∀ w : World, (binOp .eql 34 (dsV ⟨f, g, o, c, r⟩) (dsV zDs)).run Try.prog w = .ok (.bool true) w := fun w => (run_eqlDs w _ _).trans (by rw [decide_eq_true hz])
    dsimp only [dsV, zDs] at he
    clear hz
    go_enter Try.func44, Try.ntmps44
    go_wp2
    go_ret
    exact ⟨ret_bool HE.out.symm, HG.out⟩
  have he : ∀ w : World, (binOp .eql 34 (dsV ⟨f, g, o, c, r⟩) (dsV zDs)).run Try.prog w = .ok (.bool false) w := fun w => (run_eqlDs w _ _).trans (by rw [decide_eq_false hz])
  dsimp only [dsV, zDs] at he
  by_cases h0 : 0 < r
  rotate_left
  · have HE : Hid (b = false) := Lib.hid (HB.out.symm.trans (rgB_0 hz h0))
    clear hz
    go_enter Try.func44, Try.ntmps44
    go_wp2
    go_ret
    exact ⟨ret_bool HE.out.symm, HG.out⟩
  have HF : Hid (b = (opB ⟨f, g, o, c, r⟩ && atB ⟨f, g, o, c, r⟩)) := Lib.hid (HB.out.symm.trans ((rgB_r hz h0).trans (rtD_b _)))
  clear hz
  obtain ⟨b1, q1⟩ : ∃ b1, opB ⟨f, g, o, c, r⟩ = b1 := ⟨_, rfl⟩
  have Q1 := Lib.hid (opens_p (w := w.alloc (.cells #[.int .i64 f, .int .i64 g, .int .i64 o, .int .i64 c, .int .i64 r] 34)) q1)
  rw [q1] at HF
  clear q1
  cases b1
  · have HE : Hid (b = false) := Lib.hid (HF.out.trans (Bool.false_and _))
    go_enter Try.func44, Try.ntmps44
    go_wp2_with fail
    with_reducible refine Q1.out.mono ?_
    rintro e9 w1 ⟨rfl, g1⟩
    have HG1 := Lib.hid (HG.out.trans g1)
    clear g1
    go_wp2
    go_ret
    exact ⟨ret_bool HE.out.symm, HG1.out⟩
  obtain ⟨b2, q2⟩ : ∃ b2, atB ⟨f, g, o, c, r⟩ = b2 := ⟨_, rfl⟩
  have HE : Hid (b = b2) := Lib.hid (HF.out.trans (by rw [q2]; exact Bool.true_and _))
  have Q2 := Lib.hid q2
  clear q2 HF
  go_enter Try.func44, Try.ntmps44
  go_wp2_with fail
  with_reducible refine Q1.out.mono ?_
  rintro e9 w1 ⟨rfl, g1⟩
  have HG1 := Lib.hid (HG.out.trans g1)
  have HY1 := Lib.hid (HY.out.grew g1)
  clear z0 z1 z2 z3 z4 g1 Q1
  obtain ⟨z0, z1, z2, z3, z4⟩ := HY1.out.fiveD
  have Q3 := Lib.hid (isAt_p (w := w1) Q2.out)
  go_wp2_with fail
  with_reducible refine Q3.out.mono ?_
  rintro e9 w2 ⟨rfl, g2⟩
  have HG2 := Lib.hid (HG1.out.trans g2)
  clear z0 z1 z2 z3 z4 g2 Q3
  go_wp2
  go_ret
  exact ⟨ret_bool HE.out.symm, HG2.out⟩
theorem hasProc_p {a : Value} {b' : Option Addr} {N cb : Nat} {p : Int} {bb : Bool} {w : World} (hN : N ≤ 1000) (hb : inD p 0 ((N : Int) - 1) = bb) : Calls Try.prog 47 #[.agg #[a, .slice b' N cb], .int .i64 p] w (RetG (.bool bb) w) := by
  have HG := Lib.hid ((Grew.refl w).alloc (.cells #[a, .slice b' N cb] 29))
  have Q1 := Lib.hid (isFrom_p (w := w.alloc (.cells #[a, .slice b' N cb] 29)) hb)
  have hw : IntKind.i64.wrap ((N : Int) - 1) = (N : Int) - 1 := IntWalk.i64_in _ (by omega)
  clear hb hN
  go_enter Try.func47, Try.ntmps47
  go_wp2_with fail
  with_reducible refine Q1.out.mono ?_
  rintro e9 w1 ⟨rfl, rfl⟩
  go_wp2
  go_ret
  exact ⟨rfl, HG.out⟩
end Go.Proofs.Ytokijggckiidjaa

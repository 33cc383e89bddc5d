/- GroupSteps holds: when one frame more is to be reclaimed, one group loses one more, and no other loses less. -/
import Derived.Test.YtgcblkibnihplaaGl0
import Derived.StillTailTactics
namespace Go.Proofs.Ytgcblkibnihplaa
open Go.ChangeShapes Go.WideShapes Go.ChangeAt Go.RowKit Go.Mine

set_option maxRecDepth 100000 in
set_option maxHeartbeats 8000000 in
theorem gstep_core (A : Option Addr) (c : Nat) (xs : List Int) (nn : Int) (w : World) (hr : IntRow w A xs) (hm : xs.length ≤ maxLen) (hw : (Lit.int .i64 nn).wf = true) :
    Calls Try.prog 5 #[.slice A xs.length c, .int .i64 nn] w (RetG (.bool true) w) := by
  have tp := Tp.made hr hm c 25
  have gA := (Grew.refl w).alloc (.cells #[.slice A xs.length c, .int .i64 0] 25)
  have hbw : w.heap.size + 1 ≤ (w.alloc (.cells #[.slice A xs.length c, .int .i64 0] 25)).heap.size := by simp
  clear hr hm hw
  generalize hX : xs.length = X at *
  clear hX
  go_enter Try.func5, Try.ntmps5
  go_wp2_with fail
  with_reducible refine (groups_x _ _ _ tp hbw).mono ?_
  rintro e w1 ⟨v1, L, rfl, hL1, hL4, R1, T1, G1⟩
  obtain ⟨a1, c1, rfl, -⟩ := R1.gps
  obtain ⟨N, hN⟩ : ∃ N, L.length = N := ⟨_, rfl⟩
  have HN := Lib.hid hN
  have HR1 := Lib.hid (R1.wider hbw)
  have HG1 := Lib.hid (gA.past G1 (Nat.le_refl _))
  have HL1000 : Hid (L.length ≤ 1000) := Lib.hid (by omega)
  rw [hN] at hL1 hL4 HR1 ⊢
  clear R1 G1 gA tp hN T1
  go_wp2_with fail
  with_reducible refine (cut_any nn 80 _ (by omega) (by omega)).mono ?_
  rintro e w3 ⟨rfl, rfl⟩
  obtain ⟨k0, k1⟩ := cut_lt nn 80 (by omega)
  generalize cut nn 80 = k at *
  obtain ⟨K, rfl⟩ := Int.eq_ofNat_of_zero_le k0
  have hK : K < 80 := by omega
  clear k0 k1
  cases hok : okG L
  · have HO := Lib.hid hok
    clear hok
    go_wp2_with fail
    with_reducible refine (divide_no HR1.out HL1000.out HO.out).mono ?_
    rintro e w4 ⟨rfl, g4⟩
    have HR4 := Lib.hid (HR1.out.grew g4)
    have HG4 := Lib.hid (HG1.out.trans g4)
    clear g4
    go_wp2_with fail
    with_reducible refine (divide_no HR4.out HL1000.out HO.out).mono ?_
    rintro e w5 ⟨rfl, g5⟩
    have HR5 := Lib.hid (HR4.out.grew g5)
    have HG5 := Lib.hid (HG4.out.trans g5)
    clear g5
    go_wp2_with fail
    with_reducible refine (check_p HR5.out HL1000.out HO.out).mono ?_
    rintro e w6 ⟨rfl, g6⟩
    have HG6 := Lib.hid (HG5.out.trans g6)
    clear g6
    go_wp2_with fail
    with_reducible refine (awake_any _).mono ?_
    rintro e w7 ⟨rfl, g7⟩
    go_wp2
    go_ret
    exact ⟨rfl, HG6.out.trans g7⟩
  · have HO := Lib.hid hok
    clear hok
    go_wp2_with fail
    with_reducible refine (divide_p (k := K) HR1.out HO.out (by omega)).mono ?_
    intro e w4 h
    obtain ⟨ga, ca, rfl, hga, ha, g4⟩ := h.split
    rw [HN.out] at ha ⊢
    have HA4 := Lib.hid ha
    have HR4 := Lib.hid (HR1.out.grew g4)
    have HG4 := Lib.hid (HG1.out.trans g4)
    clear h g4 ha
    go_wp2_with fail
    with_reducible refine (divide_s (k := K) HR4.out HO.out (by omega)).mono ?_
    intro e w5 h
    obtain ⟨gb, cb, rfl, hgb, hb, g5⟩ := h.split
    rw [HN.out] at hb ⊢
    have HB5 := Lib.hid hb
    have HA5 := Lib.hid (fun j (hj : j < N) => (g5.cells.1 ga j hga).trans (HA4.out j hj))
    have HR5 := Lib.hid (HR4.out.grew g5)
    have HG5 := Lib.hid (HG4.out.trans g5)
    have hga5 := Nat.lt_of_lt_of_le hga g5.size
    clear h g5 hb HA4 HR4 HG4 hga
    go_wp2_with fail
    with_reducible refine (check_p HR5.out HL1000.out HO.out).mono ?_
    rintro e w6 ⟨rfl, g6⟩
    have HA6 := Lib.hid (fun j (hj : j < N) => (g6.cells.1 ga j hga5).trans (HA5.out j hj))
    have HB6 := Lib.hid (fun j (hj : j < N) => (g6.cells.1 gb j hgb).trans (HB5.out j hj))
    have HR6 := Lib.hid (HR5.out.grew g6)
    have HG6 := Lib.hid (HG5.out.trans g6)
    have hga6 := Nat.lt_of_lt_of_le hga5 g6.size
    have hgb6 := Nat.lt_of_lt_of_le hgb g6.size
    clear g6 HA5 HB5 HR5 HG5 hga5 hgb
    go_wp2_with fail
    go_loopw [9, 10, 11] (fun av mv iv wr => ∃ (i : Nat) (al mo : Int), av = .int .i64 al ∧ mv = .int .i64 mo ∧ iv = .int .i64 i ∧ i ≤ N ∧ 0 ≤ al ∧ al ≤ 64 * (i : Int) ∧ 0 ≤ mo ∧ mo ≤ (i : Int) ∧ Hid (al = sumD (chgF L) i) ∧ Hid (mo = sumD (divD L (K + 1)) i - sumD (divD L K) i) ∧ Grew w6 wr) (fun _ _ iv _ => N - (intOf iv).toNat)
    case atStart => exact ⟨0, 0, 0, rfl, rfl, rfl, by omega, by omega, by omega, by omega, by omega, Lib.hid rfl, Lib.hid rfl, Grew.refl _⟩
    case round =>
      obtain ⟨i, al, mo, rfl, rfl, rfl, hi, al0, al1, mo0, mo1, HAL, HMO, G⟩ := hrel
      obtain ⟨wo, rfl⟩ : ∃ wo : World, wo = wr := ⟨_, rfl⟩
      have HG := Lib.hid (HG6.out.trans G)
      have HG0 := Lib.hid G
      by_cases hlt : i < N
      · have hiL : i < L.length := by rw [HN.out]; exact hlt
        obtain ⟨-, g, rfl, -, hg, -, -, x2⟩ := (HR6.out.grew G).gat hiL
        have xa := (G.cells.1 ga i hga6).trans (HA6.out i hlt)
        have xb := (G.cells.1 gb i hgb6).trans (HB6.out i hlt)
        obtain ⟨da0, da1⟩ := divD_b HO.out K i (by omega)
        have hmore := divD_more HO.out K i
        obtain ⟨b1, b2, b3, b4, b5, b6⟩ := okG_at HO.out hiL
        have HS1 : Hid (sumD (chgF L) (i + 1) = sumD (chgF L) i + (L.getD i zG).c) := Lib.hid rfl
        have HS2 : Hid (sumD (divD L (K + 1)) (i + 1) = sumD (divD L (K + 1)) i + divD L (K + 1) i) := Lib.hid rfl
        have HS3 : Hid (sumD (divD L K) (i + 1) = sumD (divD L K) i + divD L K i) := Lib.hid rfl
        generalize divD L (K + 1) i = bi at *
        generalize divD L K i = ai at *
        generalize (L.getD i zG).c = ci at *
        have hi0 : (0 : Int) ≤ (i : Int) := by omega
        have hi1 : (i : Int) < (N : Int) := by omega
        clear b1 b2 b3 b4 hiL G
        go_upto_region 13 with fail
        have n1 : IntKind.i64.wrap (bi - ai) = bi - ai := IntWalk.i64_in _ (by omega)
        have n2 : IntKind.i64.wrap (mo + (bi - ai)) = mo + (bi - ai) := IntWalk.i64_in _ (by omega)
        go_quiet (fail)
        revert nq; intro nq1
        have ya : (wo.drewN nq1).cell? ⟨ga, i, none⟩ = some (.int .i64 ai) := xa
        have yb : (wo.drewN nq1).cell? ⟨gb, i, none⟩ = some (.int .i64 bi) := xb
        have HG1' := Lib.hid (HG0.out.drewN nq1)
        clear xa xb x2
        go_upto_region 14 with fail
        generalize World.drewN wo nq1 = wd at *
        have n3 : IntKind.i64.wrap (ai + 1) = ai + 1 := IntWalk.i64_in _ (by omega)
        have t1 : ¬ bi < ai := by omega
        have t1b : decide (bi < ai) = false := decide_eq_false t1
        have t2b : decide (ai + 1 < bi) = false := decide_eq_false (by omega)
        go_quiet (fail)
        revert nq; intro nq2
        have HG2' := Lib.hid (HG1'.out.drewN nq2)
        go_wp2_with fail
        go_roundw
        case rel => exact ⟨i + 1, al + ci, mo + (bi - ai), rfl, rfl, by go_num, by omega, by omega, by omega, by omega, by omega, Lib.hid (by rw [HS1.out, ← HAL.out]), Lib.hid (by have e1 := HS2.out; have e2 := HS3.out; have e3 := HMO.out; omega), HG2'.out⟩
        case measure => simp [intOf] <;> omega
      · obtain rfl : i = N := by omega
        have e1 := divD_sum HO.out (K + 1)
        have e2 := divD_sum HO.out K
        rw [HN.out] at e1 e2
        have e3 := HAL.out
        have e4 := HMO.out
        rw [← e3] at e1 e2
        have hcase : (mo = 1 ∧ (K : Int) < al) ∨ (mo = 0 ∧ ¬(K : Int) < al) := by
          by_cases h : (K : Int) < al
          · exact .inl ⟨by omega, h⟩
          · exact .inr ⟨by omega, h⟩
        clear e1 e2 e3 e4 HAL HMO G
        rcases hcase with ⟨rfl, hc⟩ | ⟨rfl, hc⟩
        · go_wp2_with fail
          with_reducible refine (awake_any _).mono ?_
          rintro e w9 ⟨rfl, g9⟩
          go_wp2
          go_ret
          exact ⟨by simp, HG.out.trans g9⟩
        · go_wp2_with fail
          with_reducible refine (awake_any _).mono ?_
          rintro e w9 ⟨rfl, g9⟩
          go_wp2
          go_ret
          exact ⟨by simp, HG.out.trans g9⟩

theorem Try.own : ownKnob Try.prog.godebug = none := by kernel_rfl
theorem Try.laidOut : laidOutB Try.prog = true := by kernel_rfl

theorem groupSteps_contract (W : World) (base : Nat) (args : Array Value) (H : Type) (enc : TypeId × Value → H) (ds : List (DataW H)) (p : List MemPlace)
    (hval : ∀ (j : Nat) t v, Try.f5.params[j]? = some t → args[j]? = some v → Value.okWide Try.prog W .any base t v)
    (hA : DataW.TrodAll enc Try.prog W 0 (fun _ => true) true Try.f5.params.toList args.toList ds p) :
    (∃ d0 d1, ds = [d0, d1]) ∧ Calls Try.prog 5 args W fun e W' => e = .returned (.bool true) ∧ Below W.heap.size W W' := by
  rw [Try.params5] at hval hA
  obtain ⟨v0, v1, d0, d1, p0, p1, ha, hd, hp, h0, h1⟩ := args_2 hA
  subst ha hd
  obtain ⟨A0, c0, xs0, rfl, hr0, hm0⟩ := open_introw Try.underlying22 Try.underlying3 (by kernel_rfl) (hval 0 _ _ rfl rfl) h0
  obtain ⟨n1, rfl, -, -, hw1⟩ := open_int Try.underlying3 (hval 1 _ _ rfl rfl) h1
  exact ⟨⟨_, _, rfl⟩, (gstep_core A0 c0 xs0 n1 W hr0 hm0 hw1).mono fun _ _ h => h⟩

set_option maxRecDepth 100000 in
theorem groupSteps_lifted (os : Os) (started : os.Started) (H : Type) (enc : TypeId × Value → H) :
    ReturnsInHanded {} Try.checked os 5 .any (Rows.groupStepsSpec.pre6 enc Try.prog Try.f5 Rows.groupStepsRow.domain false) (Rows.groupStepsSpec.post enc Try.prog Try.f5 false true false false) := by
  refine returnsInHanded_of_change (C := Try.checked) Try.own started (by kernel_rfl) Try.func5
    (ChangeSpec.witness6 (enc := enc) (C := Try.checked) false ⟨#[], #[.slice none 0 0, .int .i64 0], []⟩ 8 (by kernel_rfl) (by kernel_rfl) (by kernel_rfl) (by kernel_rfl)) ?_
  intro W base args ds gs before hval hW _ _
  obtain ⟨p, q, hA, hV, hrest⟩ := id hW
  obtain ⟨⟨d0, d1, rfl⟩, hc⟩ := groupSteps_contract W base args H enc ds p hval hA
  obtain ⟨rfl, -⟩ := trodVars_none hV
  refine hc.mono fun e W' ⟨he, hb⟩ => ⟨_, he, ?_⟩
  exact law_close (tb := 4) Try.laidOut (by rw [Try.params5]; decide +kernel) Try.underlying4 rfl rfl hW rfl rfl rfl hb

theorem groupSteps_holds : Rows.GroupStepsSaid :=
  OpenClaim.holds_of_wide 5 Try.f5 rfl rfl rfl rfl rfl rfl rfl ⟨rfl, rfl, rfl, rfl, rfl⟩ rfl rfl rfl rfl rfl (by kernel_rfl) Try.func5 (by kernel_rfl)
    (of_decide_eq_true (by kernel_rfl)) (by unfold Func.isWrapper; first | (rw [if_pos (by decide +kernel)]; kernel_rfl) | (rw [if_neg (by decide +kernel)]; exact ⟨rfl, rfl⟩))
    (fun os started H enc _ => groupSteps_lifted os started H enc)
end Go.Proofs.Ytgcblkibnihplaa

/- GroupLimits holds: frames can be charged just if nothing is over the limit then, and Over tells how many have to be taken back before. -/
import Derived.Test.YtgcblkibnihplaaGl0
import Derived.StillTailTactics
namespace Go.Proofs.Ytgcblkibnihplaa
open Go.ChangeShapes Go.WideShapes Go.ChangeAt Go.RowKit Go.Mine

set_option maxRecDepth 100000 in
set_option maxHeartbeats 8000000 in
theorem glim_core (A : Option Addr) (c : Nat) (xs : List Int) (nn : Int) (w : World) (hr : IntRow w A xs) (hm : xs.length ≤ maxLen) (hw : (Lit.int .i64 nn).wf = true) :
    Calls Try.prog 6 #[.slice A xs.length c, .int .i64 nn] w (RetG (.bool true) w) := by
  have tp := Tp.made hr hm c 25
  have gA := (Grew.refl w).alloc (.cells #[.slice A xs.length c, .int .i64 0] 25)
  have hbw : w.heap.size + 1 ≤ (w.alloc (.cells #[.slice A xs.length c, .int .i64 0] 25)).heap.size := by simp
  clear hr hm hw
  generalize hX : xs.length = X at *
  clear hX
  go_enter Try.func6, Try.ntmps6
  go_wp2_with fail
  with_reducible refine (groups_x _ _ _ tp hbw).mono ?_
  rintro e w1 ⟨v1, L, rfl, hL1, hL4, R1, T1, G1⟩
  obtain ⟨a1, c1, rfl, -⟩ := R1.gps
  obtain ⟨N, hN⟩ : ∃ N, L.length = N := ⟨_, rfl⟩
  have HN := Lib.hid hN
  have hB0 : w.heap.size < w.heap.size + 1 := Nat.lt_succ_self _
  have HR1 := Lib.hid (R1.wider hbw)
  have HG1 := Lib.hid (gA.past G1 (Nat.le_refl _))
  rw [hN] at hL1 hL4 HR1 ⊢
  clear R1 G1 gA tp hN
  go_wp2_with fail
  with_reducible refine (next_x _ _ _ _ (by omega) (by omega) T1).mono ?_
  rintro e w2 ⟨q, q0, q1, rfl, -, g2⟩
  obtain ⟨i, rfl⟩ := Int.eq_ofNat_of_zero_le q0
  have hiN : i < N := by omega
  have HR2 := Lib.hid (HR1.out.past g2 hB0)
  have HG2 := Lib.hid (HG1.out.past g2 (Nat.le_refl _))
  clear g2 T1 HR1 HG1 q0
  go_wp2_with fail
  with_reducible refine (cut_any nn 30 _ (by omega) (by omega)).mono ?_
  rintro e w3 ⟨rfl, rfl⟩
  obtain ⟨k0, k1⟩ := cut_lt nn 30 (by omega)
  generalize cut nn 30 = k at *
  have hiL : i < L.length := by rw [HN.out]; exact hiN
  have HIL := Lib.hid hiL
  cases hok : okG L
  · have HO := Lib.hid hok
    clear hok
    go_wp2_with fail
    with_reducible refine (check_p HR2.out (by rw [HN.out]; omega) HO.out).mono ?_
    rintro e w4 ⟨rfl, g4⟩
    have HG4 := Lib.hid (HG2.out.trans g4)
    clear g4
    go_wp2_with fail
    with_reducible refine (awake_any _).mono ?_
    rintro e w5 ⟨rfl, g5⟩
    go_wp2
    go_ret
    exact ⟨rfl, HG4.out.trans g5⟩
  · obtain ⟨b1, b2, b3, b4, b5, b6⟩ := okG_at hok hiL
    have HO := Lib.hid hok
    have HL1000 : Hid (L.length ≤ 1000) := Lib.hid (by rw [HN.out]; omega)
    have hi0 : (0 : Int) ≤ (i : Int) := by omega
    have hi1 : (i : Int) < (N : Int) := by omega
    clear hok hiL
    go_wp2_with fail
    with_reducible refine (check_p HR2.out HL1000.out HO.out).mono ?_
    rintro e w4 ⟨rfl, g4⟩
    have HR4 := Lib.hid (HR2.out.grew g4)
    have HG4 := Lib.hid (HG2.out.trans g4)
    clear g4 HR2 HG2
    by_cases hx : (L.getD i zG).c + k ≤ (L.getD i zG).l
    · have HX := Lib.hid hx
      have hov : ovX L i k = 0 := by unfold ovX; omega
      have HOV := Lib.hid hov
      clear hx hov b1 b2 b3 b4 b5 b6
      go_wp2_with fail
      with_reducible refine (over_p HR4.out HO.out HIL.out k0 (by omega) HOV.out).mono ?_
      rintro e w5 ⟨rfl, g5⟩
      have HR5 := Lib.hid (HR4.out.grew g5)
      have HG5 := Lib.hid (HG4.out.trans g5)
      clear g5 HR4 HG4
      go_wp2_with fail
      with_reducible refine (charge_p HR5.out HO.out HIL.out k0 (by omega) HX.out).mono ?_
      rintro e w6 ⟨v6, rfl, -, g6⟩
      have HG6 := Lib.hid (HG5.out.trans g6)
      clear g6 HR5 HG5
      go_wp2_with fail
      with_reducible refine (awake_any _).mono ?_
      rintro e w7 ⟨rfl, g7⟩
      go_wp2
      go_ret
      exact ⟨rfl, HG6.out.trans g7⟩
    · have HX := Lib.hid hx
      obtain ⟨x, hxx⟩ : ∃ x, (L.getD i zG).c + k - (L.getD i zG).l = x := ⟨_, rfl⟩
      have hov : ovX L i k = x := by unfold ovX; omega
      have hx0 : 0 < x := by omega
      have HOV := Lib.hid hov
      clear hx hov
      have hz1 : (x == 0) = false := by simp; omega
      go_wp2_with fail
      with_reducible refine (over_p HR4.out HO.out HIL.out k0 (by omega) HOV.out).mono ?_
      rintro e w5 ⟨rfl, g5⟩
      have HR5 := Lib.hid (HR4.out.grew g5)
      have HG5 := Lib.hid (HG4.out.trans g5)
      clear g5 HR4 HG4
      go_wp2_with fail
      with_reducible refine (charge_no HR5.out HO.out HIL.out k0 (by omega) (Int.not_le.2 HX.out)).mono ?_
      rintro e w6 ⟨rfl, g6⟩
      obtain ⟨-, g, rfl, -, hg, d0, d1, d2⟩ := (HR5.out.grew g6).gat HIL.out
      have HR6 := Lib.hid (HR5.out.grew g6)
      have HG6 := Lib.hid (HG5.out.trans g6)
      clear g6 HR5 HG5
      by_cases ho : x ≤ (L.getD i zG).c
      · have HU := Lib.hid ho
        have HOK2 := Lib.hid (ok_chg (y := -x) HO.out HIL.out (by omega) (by omega))
        have HIL2 : Hid (i < (chgL L i (-x)).length) := Lib.hid (by rw [chgL_len]; exact HIL.out)
        have HY : Hid ((chgL L i (-x)).getD i zG = ⟨(L.getD i zG).l, (L.getD i zG).p, (L.getD i zG).c + -x⟩) := Lib.hid (chgL_at HIL.out _)
        have HX2 : Hid (((chgL L i (-x)).getD i zG).c + k ≤ ((chgL L i (-x)).getD i zG).l) := Lib.hid (by rw [HY.out]; show (L.getD i zG).c + -x + k ≤ (L.getD i zG).l; omega)
        have HZL : Hid ((chgL (chgL L i (-x)) i k).length = N) := Lib.hid (by rw [chgL_len, chgL_len, HN.out])
        have HZ : Hid (((chgL (chgL L i (-x)) i k).getD i zG).c = (L.getD i zG).l) := Lib.hid (by rw [chgL_at HIL2.out, HY.out]; show (L.getD i zG).c + -x + k = (L.getD i zG).l; omega)
        have hx64 : x ≤ 64 := by omega
        obtain ⟨xc, hxc⟩ : ∃ xc, (L.getD i zG).c = xc := ⟨_, rfl⟩
        rw [hxc] at d2 ho
        clear hxx b1 b2 b3 b4 b5 b6 hxc d0 d1
        go_wp2_with fail
        with_reducible refine (uncharge_p HR6.out HO.out HIL.out (by omega) hx64 HU.out).mono ?_
        rintro e w7 ⟨v7, rfl, R7, g7⟩
        have HR7 := Lib.hid R7
        have HQ7 := Lib.hid (HR6.out.grew g7)
        have HG7 := Lib.hid (HG6.out.trans g7)
        clear R7 g7 HR6 HG6 d2
        go_wp2_with fail
        with_reducible refine (charge_p HR7.out HOK2.out HIL2.out k0 (by omega) HX2.out).mono ?_
        rintro e w8 ⟨v8, rfl, R8, g8⟩
        obtain ⟨a8, c8, rfl, -⟩ := R8.gps
        obtain ⟨-, gz, rfl, -, hgz, -, -, z2⟩ := R8.gat (k := i) (by rw [HZL.out]; exact hiN)
        obtain ⟨-, g', e', -, hg', y0, -, -⟩ := (HQ7.out.grew g8).gat HIL.out
        injection e' with e'
        injection e' with e'
        subst e'
        rw [HZ.out] at z2
        rw [HZL.out]
        generalize (L.getD i zG).l = xl at *
        have HG8 := Lib.hid (HG7.out.trans g8)
        clear R8 g8 HG7 HR7 HQ7
        go_upto_region 14 with fail
        have HG9 := Lib.hid HG8.out.drew
        go_still_tail 27, (by kernel_rfl)
        change wpList _ _ _ _ _ w8.drew
        go_wp2_with fail
        with_reducible refine (awake_any _).mono ?_
        rintro e w9 ⟨rfl, g9⟩
        have HG10 := Lib.hid (HG9.out.trans g9)
        clear g9
        go_wp2
        go_ret
        exact ⟨by simp, HG10.out⟩
      · obtain ⟨xc, hxc⟩ : ∃ xc, (L.getD i zG).c = xc := ⟨_, rfl⟩
        rw [hxc] at d2 ho
        clear hxx b1 b2 b3 b4 b5 b6 hxc d0 d1
        go_wp2_with fail
        with_reducible refine (awake_any _).mono ?_
        rintro e w7 ⟨rfl, g7⟩
        go_wp2
        go_ret
        exact ⟨rfl, HG6.out.trans g7⟩

theorem Try.own : ownKnob Try.prog.godebug = none := by kernel_rfl
theorem Try.laidOut : laidOutB Try.prog = true := by kernel_rfl

theorem groupLimits_contract (W : World) (base : Nat) (args : Array Value) (H : Type) (enc : TypeId × Value → H) (ds : List (DataW H)) (p : List MemPlace)
    (hval : ∀ (j : Nat) t v, Try.f6.params[j]? = some t → args[j]? = some v → Value.okWide Try.prog W .any base t v)
    (hA : DataW.TrodAll enc Try.prog W 0 (fun _ => true) true Try.f6.params.toList args.toList ds p) :
    (∃ d0 d1, ds = [d0, d1]) ∧ Calls Try.prog 6 args W fun e W' => e = .returned (.bool true) ∧ Below W.heap.size W W' := by
  rw [Try.params6] at hval hA
  obtain ⟨v0, v1, d0, d1, p0, p1, ha, hd, hp, h0, h1⟩ := args_2 hA
  subst ha hd
  obtain ⟨A0, c0, xs0, rfl, hr0, hm0⟩ := open_introw Try.underlying22 Try.underlying3 (by kernel_rfl) (hval 0 _ _ rfl rfl) h0
  obtain ⟨n1, rfl, -, -, hw1⟩ := open_int Try.underlying3 (hval 1 _ _ rfl rfl) h1
  exact ⟨⟨_, _, rfl⟩, (glim_core A0 c0 xs0 n1 W hr0 hm0 hw1).mono fun _ _ h => h⟩

set_option maxRecDepth 100000 in
theorem groupLimits_lifted (os : Os) (started : os.Started) (H : Type) (enc : TypeId × Value → H) :
    ReturnsInHanded {} Try.checked os 6 .any (Rows.groupLimitsSpec.pre6 enc Try.prog Try.f6 Rows.groupLimitsRow.domain false) (Rows.groupLimitsSpec.post enc Try.prog Try.f6 false true false false) := by
  refine returnsInHanded_of_change (C := Try.checked) Try.own started (by kernel_rfl) Try.func6
    (ChangeSpec.witness6 (enc := enc) (C := Try.checked) false ⟨#[], #[.slice none 0 0, .int .i64 0], []⟩ 8 (by kernel_rfl) (by kernel_rfl) (by kernel_rfl) (by kernel_rfl)) ?_
  intro W base args ds gs before hval hW _ _
  obtain ⟨p, q, hA, hV, hrest⟩ := id hW
  obtain ⟨⟨d0, d1, rfl⟩, hc⟩ := groupLimits_contract W base args H enc ds p hval hA
  obtain ⟨rfl, -⟩ := trodVars_none hV
  refine hc.mono fun e W' ⟨he, hb⟩ => ⟨_, he, ?_⟩
  exact law_close (tb := 4) Try.laidOut (by rw [Try.params6]; decide +kernel) Try.underlying4 rfl rfl hW rfl rfl rfl hb

theorem groupLimits_holds : Rows.GroupLimitsSaid :=
  OpenClaim.holds_of_wide 6 Try.f6 rfl rfl rfl rfl rfl rfl rfl ⟨rfl, rfl, rfl, rfl, rfl⟩ rfl rfl rfl rfl rfl (by kernel_rfl) Try.func6 (by kernel_rfl)
    (of_decide_eq_true (by kernel_rfl)) (by unfold Func.isWrapper; first | (rw [if_pos (by decide +kernel)]; kernel_rfl) | (rw [if_neg (by decide +kernel)]; exact ⟨rfl, rfl⟩))
    (fun os started H enc _ => groupLimits_lifted os started H enc)
end Go.Proofs.Ytgcblkibnihplaa

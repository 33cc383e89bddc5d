/- AgingCalls holds: what lists of dirty files become, which files are due, and the errors, are those of the document's answer. -/
import Derived.Test.YtmdechoajmbhoaaAg6
import Derived.Test.YtmdechoajmbhoaaAg7
namespace Go.Mine
open Go Go.RowKit
theorem RdS.at1 {w : World} {B : Nat} {L : List Int} {a : Option Addr} {n c : Nat} (h : RdS 1 enc1 w B (.slice a n c) L) {k : Nat} (hk : k < L.length) : ∃ g o, a = some ⟨g, o, none⟩ ∧ B ≤ g ∧ g < w.heap.size ∧ w.cell? ⟨g, o + k, none⟩ = some (.int .i64 (L.getD k 0)) := by
  obtain ⟨g, o, e, hB, hg, hc⟩ := h.at_ hk
  refine ⟨g, o, e, hB, hg, ?_⟩
  have := hc 0 (by omega)
  rw [getD_get hk]
  rw [Nat.mul_one, Nat.add_zero] at this
  exact this
theorem addX_len (L : List Du) (f n : Int) : (addX L f n).1.length ≤ L.length + 1 := by
  unfold addX
  cases okA L <;> cases fileB f <;> cases (tickB n && decide (lstA L ≤ n)) <;> cases hasA L f <;> simp
theorem remX_len (L : List Du) (f : Int) : (remX L f).1.length ≤ L.length + 1 := by
  have := outA_len L f
  unfold remX
  cases okA L <;> cases fileB f <;> cases hasA L f <;> simp <;> omega
theorem agaX_len (L : List Du) (f n : Int) : (agaX L f n).1.length ≤ L.length + 1 := by
  have := outA_len L f
  unfold agaX
  cases okA L <;> cases fileB f <;> cases (tickB n && decide (lstA L ≤ n)) <;> cases hasA L f <;> simp <;> omega
/-- Two ticks; the list; a tape. -/
def AgCut (w : World) (v : Value) (L : List Du) (v6 v7 : Value) (wx : World) : Prop := ∃ n a : Int, v6 = .int .i64 n ∧ v7 = .int .i64 a ∧ RdS 2 enc2 wx (w.heap.size + 1) v L ∧ Tp (w.heap.size + 1) wx w.heap.size ∧ Grew w wx
end Go.Mine
namespace Go.Proofs.Ytmdechoajmbhoaa
open Go.ChangeShapes Go.WideShapes Go.ChangeAt Go.RowKit Go.Mine

set_option maxRecDepth 100000 in
set_option maxHeartbeats 16000000 in
theorem calls_core (A : Option Addr) (c : Nat) (xs : List Int) (w : World) (hr : IntRow w A xs) (hm : xs.length ≤ maxLen) :
    Calls Try.prog 3 #[.slice A xs.length c] w (RetG (.bool true) w) := by
  have tp := Tp.made hr hm c 25
  have gA := (Grew.refl w).alloc (.cells #[.slice A xs.length c, .int .i64 0] 25)
  have hbw : w.heap.size + 1 ≤ (w.alloc (.cells #[.slice A xs.length c, .int .i64 0] 25)).heap.size := by simp
  have hB0 : w.heap.size < w.heap.size + 1 := Nat.lt_succ_self _
  clear hr hm
  generalize hX : xs.length = X at *
  clear hX
  go_enter Try.func3, Try.ntmps3
  go_wp2_with fail
  with_reducible refine (drawn_x _ _ _ tp hbw).mono ?_
  rintro e w1 ⟨v, L, rfl, hl5, R1, T1, g1⟩
  have HG1 := Lib.hid (gA.past g1 (Nat.le_refl _))
  have HR1 := Lib.hid (R1.wider hbw)
  have hb1 := Nat.le_trans hbw g1.size
  have hl5b := Lib.hid hl5
  clear gA tp g1 R1 hbw hl5
  go_wp2_with fail
  with_reducible refine (next_x _ _ _ _ (by omega) (by omega) T1).mono ?_
  rintro e w2 ⟨q2, a0, a1, rfl, T2, g2⟩
  go_wp2_with fail
  with_reducible refine (next_x _ _ _ _ (by omega) (by omega) T2).mono ?_
  rintro e w3 ⟨q3, b0, b1, rfl, T3, g3⟩
  go_wp2_with fail
  with_reducible refine (next_x _ _ _ _ (by omega) (by omega) T3).mono ?_
  rintro e w4 ⟨q4, c0, c1, rfl, T4, g4⟩
  go_wp2_with fail
  with_reducible refine (next_x _ _ _ _ (by omega) (by omega) T4).mono ?_
  rintro e w5 ⟨q5, d0, d1, rfl, T5, g5⟩
  have g25 := grown_trans (grown_trans (grown_trans g2 g3) g4) g5
  have HG5 := Lib.hid (HG1.out.past g25 (Nat.le_refl _))
  have HR5 := Lib.hid (HR1.out.past g25 hB0)
  have hb5 := Nat.le_trans hb1 g25.size
  clear g2 g3 g4 g5 g25 T1 T2 T3 T4 HG1 HR1 hb1
  go_upto_if 43 with fail
  go_cut [6, 7] from 43 to 47 (AgCut w v L)
  case first =>
    by_cases hq : q5 = 0
    · subst hq
      go_wp2_with fail
      with_reducible refine (odd_x _ _ _ T5 (by omega)).mono ?_
      rintro e w6 ⟨z1, rfl, T6, g6⟩
      have hb6 := Nat.le_trans hb5 g6.size
      go_wp2_with fail
      with_reducible refine (odd_x _ _ _ T6 (by omega)).mono ?_
      rintro e w7 ⟨z2, rfl, T7, g7⟩
      have g67 := grown_trans g6 g7
      have HG7 := Lib.hid (HG5.out.past g67 (Nat.le_refl _))
      have HR7 := Lib.hid (HR5.out.past g67 hB0)
      clear g6 g7 g67 HG5 HR5
      go_wp2_with fail
      go_meet
      exact ⟨_, _, rfl, rfl, HR7.out, T7, HG7.out⟩
    · have e0 : (q5 == 0) = false := by simpa using hq
      go_wp2_with fail
      go_meet
      exact ⟨_, _, rfl, rfl, HR5.out, T5, HG5.out⟩
  case rest =>
    obtain ⟨now, age, rfl, rfl, R, T, G⟩ := hcut
    have HR0 := Lib.hid R
    have HG0 := Lib.hid G
    have hbx := Nat.succ_le_of_lt T.lt
    clear R G T T5 HG5 HR5 hb5 d0 d1 b0 b1 c0 c1
    obtain ⟨f, hf⟩ : ∃ f, q2 - 1 = f := ⟨_, rfl⟩
    try rw [hf]
    clear hf a0 a1
    have hl2 : L.length ≤ 500 := by have := hl5b.out; omega
    have hl1 : L.length ≤ 1000 := by omega
    have HA1 := Lib.hid (show (addX L f now).1.length ≤ 1000 by have := addX_len L f now; omega)
    have HA2 := Lib.hid (show (remX L f).1.length ≤ 1000 by have := remX_len L f; omega)
    have HA3 := Lib.hid (show (agaX L f now).1.length ≤ 1000 by have := agaX_len L f now; omega)
    have HA4 := Lib.hid (show (expX L now age).length ≤ 1000 by unfold expX; cases okA L <;> cases tickB now <;> cases tickB age <;> simp; have := dueL_len L (now - age); omega)
    obtain ⟨⟨la, ea⟩, hxa⟩ : ∃ x, addX L f now = x := ⟨_, rfl⟩
    obtain ⟨⟨lc, ec⟩, hxc⟩ : ∃ x, remX L f = x := ⟨_, rfl⟩
    obtain ⟨⟨lu, eu⟩, hxu⟩ : ∃ x, agaX L f now = x := ⟨_, rfl⟩
    obtain ⟨P, hxp⟩ : ∃ x, expX L now age = x := ⟨_, rfl⟩
    obtain ⟨⟨xo, xb⟩, hxo⟩ : ∃ x, oldX L = x := ⟨_, rfl⟩
    obtain ⟨kb, hkb⟩ : ∃ x, okA L = x := ⟨_, rfl⟩
    rw [hxa] at HA1
    rw [hxc] at HA2
    rw [hxu] at HA3
    rw [hxp] at HA4
    simp only at HA1 HA2 HA3
    have HXA := Lib.hid hxa
    have HXC := Lib.hid hxc
    have HXU := Lib.hid hxu
    have HXP := Lib.hid hxp
    have HXO := Lib.hid hxo
    have HKB := Lib.hid hkb
    have HL2 := Lib.hid hl2
    have HL1 := Lib.hid hl1
    clear hxa hxc hxu hxp hxo hkb hl2 hl1 hl5b
    go_wp2_with fail
    with_reducible refine (add_p HR0.out hbx HL2.out).mono ?_
    rw [HXA.out]
    rintro e y1 ⟨va, rfl, R9, g⟩
    have HR1 := Lib.hid (HR0.out.grew g)
    have HA1 := Lib.hid R9
    have HG1 := Lib.hid (HG0.out.trans g)
    have hbx1 := Nat.le_trans hbx g.size
    clear g HR0 HG0 hbx R9
    go_wp2_with fail
    with_reducible refine (add_q HR1.out hbx1 HL2.out).mono ?_
    rw [HXA.out]
    rintro e y2 ⟨vb, rfl, R9, g⟩
    have HR2 := Lib.hid (HR1.out.grew g)
    have HA2 := Lib.hid (HA1.out.grew g)
    have HB2 := Lib.hid R9
    have HG2 := Lib.hid (HG1.out.trans g)
    have hbx2 := Nat.le_trans hbx1 g.size
    clear g HR1 HA1 HG1 hbx1 R9
    go_wp2_with fail
    with_reducible refine (remove_p HR2.out hbx2 HL2.out).mono ?_
    rw [HXC.out]
    rintro e y3 ⟨vc, rfl, R9, g⟩
    have HR3 := Lib.hid (HR2.out.grew g)
    have HA3 := Lib.hid (HA2.out.grew g)
    have HB3 := Lib.hid (HB2.out.grew g)
    have HC3 := Lib.hid R9
    have HG3 := Lib.hid (HG2.out.trans g)
    have hbx3 := Nat.le_trans hbx2 g.size
    clear g HR2 HA2 HB2 HG2 hbx2 R9
    go_wp2_with fail
    with_reducible refine (remove_q HR3.out hbx3 HL2.out).mono ?_
    rw [HXC.out]
    rintro e y4 ⟨vd, rfl, R9, g⟩
    have HR4 := Lib.hid (HR3.out.grew g)
    have HA4 := Lib.hid (HA3.out.grew g)
    have HB4 := Lib.hid (HB3.out.grew g)
    have HC4 := Lib.hid (HC3.out.grew g)
    have HD4 := Lib.hid R9
    have HG4 := Lib.hid (HG3.out.trans g)
    have hbx4 := Nat.le_trans hbx3 g.size
    clear g HR3 HA3 HB3 HC3 HG3 hbx3 R9
    go_wp2_with fail
    with_reducible refine (again_p HR4.out hbx4 HL2.out).mono ?_
    rw [HXU.out]
    rintro e y5 ⟨vu, rfl, R9, g⟩
    have HR5 := Lib.hid (HR4.out.grew g)
    have HA5 := Lib.hid (HA4.out.grew g)
    have HB5 := Lib.hid (HB4.out.grew g)
    have HC5 := Lib.hid (HC4.out.grew g)
    have HD5 := Lib.hid (HD4.out.grew g)
    have HU5 := Lib.hid R9
    have HG5 := Lib.hid (HG4.out.trans g)
    have hbx5 := Nat.le_trans hbx4 g.size
    clear g HR4 HA4 HB4 HC4 HD4 HG4 hbx4 R9
    go_wp2_with fail
    with_reducible refine (again_q HR5.out hbx5 HL2.out).mono ?_
    rw [HXU.out]
    rintro e y6 ⟨vv, rfl, R9, g⟩
    have HR6 := Lib.hid (HR5.out.grew g)
    have HA6 := Lib.hid (HA5.out.grew g)
    have HB6 := Lib.hid (HB5.out.grew g)
    have HC6 := Lib.hid (HC5.out.grew g)
    have HD6 := Lib.hid (HD5.out.grew g)
    have HU6 := Lib.hid (HU5.out.grew g)
    have HV6 := Lib.hid R9
    have HG6 := Lib.hid (HG5.out.trans g)
    have hbx6 := Nat.le_trans hbx5 g.size
    clear g HR5 HA5 HB5 HC5 HD5 HU5 HG5 hbx5 R9
    go_wp2_with fail
    with_reducible refine (expired_p HR6.out HL1.out).mono ?_
    rw [HXP.out]
    rintro e y7 ⟨vp, rfl, R9, g⟩
    have HR7 := Lib.hid (HR6.out.grew g)
    have HA7 := Lib.hid (HA6.out.grew g)
    have HB7 := Lib.hid (HB6.out.grew g)
    have HC7 := Lib.hid (HC6.out.grew g)
    have HD7 := Lib.hid (HD6.out.grew g)
    have HU7 := Lib.hid (HU6.out.grew g)
    have HV7 := Lib.hid (HV6.out.grew g)
    have HP7 := Lib.hid (R9.wider hbx6)
    have HG7 := Lib.hid (HG6.out.trans g)
    have hbx7 := Nat.le_trans hbx6 g.size
    clear g HR6 HA6 HB6 HC6 HD6 HU6 HV6 HG6 hbx6 R9
    go_wp2_with fail
    with_reducible refine (expired_q HR7.out HL1.out).mono ?_
    rw [HXP.out]
    rintro e y8 ⟨vq, rfl, R9, g⟩
    have HR8 := Lib.hid (HR7.out.grew g)
    have HA8 := Lib.hid (HA7.out.grew g)
    have HB8 := Lib.hid (HB7.out.grew g)
    have HC8 := Lib.hid (HC7.out.grew g)
    have HD8 := Lib.hid (HD7.out.grew g)
    have HU8 := Lib.hid (HU7.out.grew g)
    have HV8 := Lib.hid (HV7.out.grew g)
    have HP8 := Lib.hid (HP7.out.grew g)
    have HQ8 := Lib.hid (R9.wider hbx7)
    have HG8 := Lib.hid (HG7.out.trans g)
    have hbx8 := Nat.le_trans hbx7 g.size
    clear g HR7 HA7 HB7 HC7 HD7 HU7 HV7 HP7 HG7 hbx7 R9
    go_wp2_with fail
    with_reducible refine (oldest_p HR8.out HL1.out HXO.out).mono ?_
    rintro e y9 ⟨rfl, g⟩
    have HR9 := Lib.hid (HR8.out.grew g)
    have HA9 := Lib.hid (HA8.out.grew g)
    have HB9 := Lib.hid (HB8.out.grew g)
    have HC9 := Lib.hid (HC8.out.grew g)
    have HD9 := Lib.hid (HD8.out.grew g)
    have HU9 := Lib.hid (HU8.out.grew g)
    have HV9 := Lib.hid (HV8.out.grew g)
    have HP9 := Lib.hid (HP8.out.grew g)
    have HQ9 := Lib.hid (HQ8.out.grew g)
    have HG9 := Lib.hid (HG8.out.trans g)
    have hbx9 := Nat.le_trans hbx8 g.size
    clear g HR8 HA8 HB8 HC8 HD8 HU8 HV8 HP8 HQ8 HG8 hbx8
    go_wp2_with fail
    with_reducible refine (oldest_q HR9.out HL1.out HXO.out).mono ?_
    rintro e y10 ⟨rfl, g⟩
    have HR10 := Lib.hid (HR9.out.grew g)
    have HA10 := Lib.hid (HA9.out.grew g)
    have HB10 := Lib.hid (HB9.out.grew g)
    have HC10 := Lib.hid (HC9.out.grew g)
    have HD10 := Lib.hid (HD9.out.grew g)
    have HU10 := Lib.hid (HU9.out.grew g)
    have HV10 := Lib.hid (HV9.out.grew g)
    have HP10 := Lib.hid (HP9.out.grew g)
    have HQ10 := Lib.hid (HQ9.out.grew g)
    have HG10 := Lib.hid (HG9.out.trans g)
    have hbx10 := Nat.le_trans hbx9 g.size
    clear g HR9 HA9 HB9 HC9 HD9 HU9 HV9 HP9 HQ9 HG9 hbx9
    obtain ⟨ap, cp, rfl, -, -⟩ := HP10.out.slice
    obtain ⟨aq, cq, rfl, -, -⟩ := HQ10.out.slice
    obtain ⟨N, hN⟩ : ∃ N, P.length = N := ⟨_, rfl⟩
    have HN := Lib.hid hN
    rw [hN] at HA4 HP10 HQ10 ⊢
    have hN1 : N ≤ 1000 := HA4.out
    clear hN
    go_wp2_with fail
    go_loopw [26] (fun iv wr => ∃ i : Nat, iv = .int .i64 i ∧ i ≤ N ∧ Grew y10 wr) (fun iv _ => N - (intOf iv).toNat)
    case atStart => exact ⟨0, rfl, by omega, Grew.refl _⟩
    case round =>
      obtain ⟨i, rfl, hi, G⟩ := hrel
      obtain ⟨wo, rfl⟩ : ∃ wo : World, wo = wr := ⟨_, rfl⟩
      by_cases hlt : i < N
      · have hiL : i < P.length := by rw [HN.out]; exact hlt
        obtain ⟨g, o, rfl, -, hg, p0⟩ := (HP10.out.grew G).at1 hiL
        obtain ⟨g', o', rfl, -, hg', p1⟩ := (HQ10.out.grew G).at1 hiL
        generalize P.getD i 0 = z at *
        have hi0 : (0 : Int) ≤ (i : Int) := by omega
        have hi1 : (i : Int) < (N : Int) := by omega
        have HG := Lib.hid G
        clear G
        go_wp2
        go_quiet (fail)
        revert nq; intro nq1
        go_wp2
        exact ⟨⟨i + 1, by go_num, by omega, HG.out.drewN _⟩, by simp [intOf] <;> omega⟩
      · obtain rfl : i = N := by omega
        have HR11 := Lib.hid (HR10.out.grew G)
        have HA11 := Lib.hid (HA10.out.grew G)
        have HB11 := Lib.hid (HB10.out.grew G)
        have HC11 := Lib.hid (HC10.out.grew G)
        have HD11 := Lib.hid (HD10.out.grew G)
        have HU11 := Lib.hid (HU10.out.grew G)
        have HV11 := Lib.hid (HV10.out.grew G)
        have HG11 := Lib.hid (HG10.out.trans G)
        clear G HP10 HQ10 HG10 HR10 HA10 HB10 HC10 HD10 HU10 HV10
        go_wp2_with fail
        with_reducible refine (check_p HR11.out HL1.out HKB.out).mono ?_
        rintro e z12 ⟨rfl, g⟩
        have HR12 := Lib.hid (HR11.out.grew g)
        have HA12 := Lib.hid (HA11.out.grew g)
        have HB12 := Lib.hid (HB11.out.grew g)
        have HC12 := Lib.hid (HC11.out.grew g)
        have HD12 := Lib.hid (HD11.out.grew g)
        have HU12 := Lib.hid (HU11.out.grew g)
        have HV12 := Lib.hid (HV11.out.grew g)
        have HG12 := Lib.hid (HG11.out.trans g)
        clear g HG11
        go_wp2_with fail
        with_reducible refine (check_q HR12.out HL1.out HKB.out).mono ?_
        rintro e z13 ⟨rfl, g⟩
        have HA13 := Lib.hid (HA12.out.grew g)
        have HB13 := Lib.hid (HB12.out.grew g)
        have HC13 := Lib.hid (HC12.out.grew g)
        have HD13 := Lib.hid (HD12.out.grew g)
        have HU13 := Lib.hid (HU12.out.grew g)
        have HV13 := Lib.hid (HV12.out.grew g)
        have HG13 := Lib.hid (HG12.out.trans g)
        clear g HG12
        go_wp2_with fail
        with_reducible refine (same_q HA13.out HB13.out HA1.out).mono ?_
        rintro e z14 ⟨rfl, g⟩
        have HC14 := Lib.hid (HC13.out.grew g)
        have HD14 := Lib.hid (HD13.out.grew g)
        have HU14 := Lib.hid (HU13.out.grew g)
        have HV14 := Lib.hid (HV13.out.grew g)
        have HG14 := Lib.hid (HG13.out.trans g)
        clear g HG13
        go_wp2_with fail
        with_reducible refine (same_q HC14.out HD14.out HA2.out).mono ?_
        rintro e z15 ⟨rfl, g⟩
        have HU15 := Lib.hid (HU14.out.grew g)
        have HV15 := Lib.hid (HV14.out.grew g)
        have HG15 := Lib.hid (HG14.out.trans g)
        clear g HG14
        go_wp2_with fail
        with_reducible refine (same_q HU15.out HV15.out HA3.out).mono ?_
        rintro e z16 ⟨rfl, g⟩
        have HG16 := Lib.hid (HG15.out.trans g)
        clear g HG15
        go_wp2_with fail
        with_reducible refine (awake_any _).mono ?_
        rintro e z17 ⟨rfl, g⟩
        have HG17 := Lib.hid (HG16.out.trans g)
        clear g HG16
        go_wp2
        go_ret
        exact ⟨by simp, HG17.out⟩

theorem Try.own : ownKnob Try.prog.godebug = none := by kernel_rfl
theorem Try.laidOut : laidOutB Try.prog = true := by kernel_rfl

theorem agingCalls_contract (W : World) (base : Nat) (args : Array Value) (H : Type) (enc : TypeId × Value → H) (ds : List (DataW H)) (p : List MemPlace)
    (hval : ∀ (j : Nat) t v, Try.f3.params[j]? = some t → args[j]? = some v → Value.okWide Try.prog W .any base t v)
    (hA : DataW.TrodAll enc Try.prog W 0 (fun _ => true) true Try.f3.params.toList args.toList ds p) :
    (∃ d0, ds = [d0]) ∧ Calls Try.prog 3 args W fun e W' => e = .returned (.bool true) ∧ Below W.heap.size W W' := by
  rw [Try.params3] at hval hA
  obtain ⟨v0, d0, p0, ha, hd, hp, h0⟩ := args_1 hA
  subst ha hd
  obtain ⟨A0, c0, xs0, rfl, hr0, hm0⟩ := open_introw Try.underlying22 Try.underlying3 (by kernel_rfl) (hval 0 _ _ rfl rfl) h0
  exact ⟨⟨_, rfl⟩, (calls_core A0 c0 xs0 W hr0 hm0).mono fun _ _ h => h⟩

set_option maxRecDepth 100000 in
theorem agingCalls_lifted (os : Os) (started : os.Started) (H : Type) (enc : TypeId × Value → H) :
    ReturnsInHanded {} Try.checked os 3 .any (Rows.agingCallsSpec.pre6 enc Try.prog Try.f3 Rows.agingCallsRow.domain false) (Rows.agingCallsSpec.post enc Try.prog Try.f3 false true false false) := by
  refine returnsInHanded_of_change (C := Try.checked) Try.own started (by kernel_rfl) Try.func3
    (ChangeSpec.witness6 (enc := enc) (C := Try.checked) false ⟨#[], #[.slice none 0 0], []⟩ 8 (by kernel_rfl) (by kernel_rfl) (by kernel_rfl) (by kernel_rfl)) ?_
  intro W base args ds gs before hval hW _ _
  obtain ⟨p, q, hA, hV, hrest⟩ := id hW
  obtain ⟨⟨d0, rfl⟩, hc⟩ := agingCalls_contract W base args H enc ds p hval hA
  obtain ⟨rfl, -⟩ := trodVars_none hV
  refine hc.mono fun e W' ⟨he, hb⟩ => ⟨_, he, ?_⟩
  exact law_close (tb := 4) Try.laidOut (by rw [Try.params3]; decide +kernel) Try.underlying4 rfl rfl hW rfl rfl rfl hb

theorem agingCalls_holds : Rows.AgingCallsSaid :=
  OpenClaim.holds_of_wide 3 Try.f3 rfl rfl rfl rfl rfl rfl rfl ⟨rfl, rfl, rfl, rfl, rfl⟩ rfl rfl rfl rfl rfl (by kernel_rfl) Try.func3 (by kernel_rfl)
    (of_decide_eq_true (by kernel_rfl)) (by unfold Func.isWrapper; first | (rw [if_pos (by decide +kernel)]; kernel_rfl) | (rw [if_neg (by decide +kernel)]; exact ⟨rfl, rfl⟩))
    (fun os started H enc _ => agingCalls_lifted os started H enc)
end Go.Proofs.Ytmdechoajmbhoaa

/- ZoneCalls holds: which zones are right, what Take and Give answer, and what is free, low and wanted, at any zones. -/
import Derived.Test.YtphccdfdknihdaaZm2
namespace Go.Mine
open Go Go.RowKit
theorem tak_small {u : Bool} {L : List Zo} {p : Int} (h : SmZ L) : SmZ (takX u L p).1 := by
  cases hr : okB L
  · rw [takX_1 hr]; exact h
  · exact ok_small (ok_take hr)
theorem giv_small {L : List Zo} {f : Int} (h : SmZ L) : SmZ (givX L f).1 := by
  cases hr : okB L
  · rw [givX_1 hr]; exact h
  · exact ok_small (ok_give hr)
end Go.Mine
namespace Go.Proofs.Ytphccdfdknihdaa
open Go.ChangeShapes Go.WideShapes Go.ChangeAt Go.RowKit Go.Mine

set_option maxRecDepth 100000 in
set_option maxHeartbeats 16000000 in
theorem zcal_core (A : Option Addr) (c : Nat) (xs : List Int) (w : World) (hr : IntRow w A xs) (hm : xs.length ≤ maxLen) :
    Calls Try.prog 3 #[.slice A xs.length c] w (RetG (.bool true) w) := by
  have tp := Tp.made hr hm c 25
  have gA := (Grew.refl w).alloc (.cells #[.slice A xs.length c, .int .i64 0] 25)
  have hbw : w.heap.size + 1 ≤ (w.alloc (.cells #[.slice A xs.length c, .int .i64 0] 25)).heap.size := by simp
  clear hr hm
  generalize hX : xs.length = X at *
  clear hX
  go_enter Try.func3, Try.ntmps3
  go_wp2_with fail
  with_reducible refine (drawn_x tp hbw).mono ?_
  rintro e w1 ⟨v1, L, rfl, hsm, Z1, T1, G1⟩
  have HSM := Lib.hid hsm
  have HZ1 : Hid (ZsR w1 (fun g => w.heap.size + 1 ≤ g) v1 L) := Lib.hid (Z1.mono fun g h _ => Nat.le_trans hbw h)
  have HT1 := Lib.hid T1
  have HG1 := Lib.hid (gA.past G1 (Nat.le_refl _))
  clear Z1 T1 G1 gA tp hbw hsm
  go_wp2_with fail
  with_reducible refine (next_x _ _ _ _ (by omega) (by omega) HT1.out).mono ?_
  rintro e w2 ⟨q2, a0, a1, rfl, t2, g2⟩
  go_wp2_with fail
  with_reducible refine (next_x _ _ _ _ (by omega) (by omega) t2).mono ?_
  rintro e w3 ⟨q3, b0, b1, rfl, t3, g3⟩
  replace g3 := grown_trans g2 g3
  clear t2 g2
  go_wp2_with fail
  with_reducible refine (next_x _ _ _ _ (by omega) (by omega) t3).mono ?_
  rintro e w4 ⟨q4, c0, c1, rfl, t4, g4⟩
  replace g4 := grown_trans g3 g4
  clear t3 g3
  go_wp2_with fail
  with_reducible refine (next_x _ _ _ _ (by omega) (by omega) t4).mono ?_
  rintro e w5 ⟨q5, d0, d1, rfl, t5, g5⟩
  replace g5 := grown_trans g4 g5
  clear t4 g4
  have HZ5 := Lib.hid (past_r HZ1.out g5 (fun x hx _ => by have h : w.heap.size + 1 ≤ x := hx; omega))
  have HT5 := Lib.hid t5
  have HG5 := Lib.hid (HG1.out.past g5 (Nat.le_refl _))
  clear t5 g5 HZ1 HT1 HG1
  have hw6 : w.heap.size + 1 ≤ w5.heap.size := by have := HT5.out.lt; omega
  by_cases h5 : q5 = 0
  · subst h5
    go_wp2_with fail
    with_reducible refine (odd_x _ _ _ HT5.out hw6).mono ?_
    rintro e w6 ⟨f, rfl, t6, g6⟩
    have HZ6 := Lib.hid (past_r HZ5.out g6 (fun x hx _ => by have h : w.heap.size + 1 ≤ x := hx; omega))
    have HG6 := Lib.hid (HG5.out.past g6 (Nat.le_refl _))
    clear t6 g6
    go_wp2_with fail
    with_reducible refine (take_p HZ6.out HSM.out).mono ?_
    rintro e w7 ⟨v7, rfl, Y7, G7⟩
    have HZ7 := Lib.hid (HZ6.out.grew G7)
    have HG7 := Lib.hid (HG6.out.trans G7)
    have HY7 := Lib.hid Y7
    clear Y7 G7
    go_wp2_with fail
    with_reducible refine (take_q HZ7.out HSM.out).mono ?_
    rintro e w8 ⟨v8, rfl, Y8, G8⟩
    have HZ8 := Lib.hid (HZ7.out.grew G8)
    have HG8 := Lib.hid (HG7.out.trans G8)
    have HY7b := Lib.hid (HY7.out.grew G8)
    have HY8 := Lib.hid Y8
    clear Y8 G8 HY7
    go_wp2_with fail
    with_reducible refine (give_p HZ8.out HSM.out).mono ?_
    rintro e w9 ⟨v9, rfl, Y9, G9⟩
    have HZ9 := Lib.hid (HZ8.out.grew G9)
    have HG9 := Lib.hid (HG8.out.trans G9)
    have HY7c := Lib.hid (HY7b.out.grew G9)
    have HY8b := Lib.hid (HY8.out.grew G9)
    have HY9 := Lib.hid Y9
    clear Y9 G9 HY7b HY8
    go_wp2_with fail
    with_reducible refine (give_q HZ9.out HSM.out).mono ?_
    rintro e w10 ⟨v10, rfl, Y10, G10⟩
    have HZ10 := Lib.hid (HZ9.out.grew G10)
    have HG10 := Lib.hid (HG9.out.trans G10)
    have HY7d := Lib.hid (HY7c.out.grew G10)
    have HY8c := Lib.hid (HY8b.out.grew G10)
    have HY9b := Lib.hid (HY9.out.grew G10)
    have HY10 := Lib.hid Y10
    clear Y10 G10 HY7c HY8b HY9
    obtain ⟨rr, hrr⟩ : ∃ rr, okB L = rr := ⟨_, rfl⟩
    obtain ⟨x1, hx1⟩ : ∃ x, freX L = x := ⟨_, rfl⟩
    obtain ⟨x2, hx2⟩ : ∃ x, lowX L = x := ⟨_, rfl⟩
    obtain ⟨x3, hx3⟩ : ∃ x, wanX L = x := ⟨_, rfl⟩
    have HRR := Lib.hid hrr
    have HX1 := Lib.hid hx1
    have HX2 := Lib.hid hx2
    have HX3 := Lib.hid hx3
    clear hrr hx1 hx2 hx3
    have HT10 := HY7d
    have HU10 := HY8c
    have HV10 := HY9b
    have HW10 := HY10
    have HS1 := Lib.hid (tak_small (u := q4 == 0) (p := q2 - 1) HSM.out)
    have HS2 := Lib.hid (giv_small (f := f) HSM.out)
    generalize takX (q4 == 0) L (q2 - 1) = XT at *
    generalize givX L (f) = XG at *
    obtain ⟨L1, f1, e1⟩ := XT
    obtain ⟨L2, e2⟩ := XG
    go_wp2_with fail
    with_reducible refine (check_p HZ10.out HSM.out HRR.out).mono ?_
    rintro e w11 ⟨rfl, G11⟩
    have HZ11 := Lib.hid (HZ10.out.grew G11)
    have HG11 := Lib.hid (HG10.out.trans G11)
    have HT11 := Lib.hid (HT10.out.grew G11)
    have HU11 := Lib.hid (HU10.out.grew G11)
    have HV11 := Lib.hid (HV10.out.grew G11)
    have HW11 := Lib.hid (HW10.out.grew G11)
    clear G11 HT10 HU10 HV10 HW10
    go_wp2_with fail
    with_reducible refine (check_q HZ11.out HSM.out HRR.out).mono ?_
    rintro e w12 ⟨rfl, G12⟩
    have HZ12 := Lib.hid (HZ11.out.grew G12)
    have HG12 := Lib.hid (HG11.out.trans G12)
    have HT12 := Lib.hid (HT11.out.grew G12)
    have HU12 := Lib.hid (HU11.out.grew G12)
    have HV12 := Lib.hid (HV11.out.grew G12)
    have HW12 := Lib.hid (HW11.out.grew G12)
    clear G12 HT11 HU11 HV11 HW11
    go_wp2_with fail
    with_reducible refine (same_q HT12.out HU12.out HS1.out).mono ?_
    rintro e w13 ⟨rfl, G13⟩
    have HZ13 := Lib.hid (HZ12.out.grew G13)
    have HG13 := Lib.hid (HG12.out.trans G13)
    have HT13 := Lib.hid (HT12.out.grew G13)
    have HU13 := Lib.hid (HU12.out.grew G13)
    have HV13 := Lib.hid (HV12.out.grew G13)
    have HW13 := Lib.hid (HW12.out.grew G13)
    clear G13 HT12 HU12 HV12 HW12
    go_wp2_with fail
    with_reducible refine (same_q HV13.out HW13.out HS2.out).mono ?_
    rintro e w14 ⟨rfl, G14⟩
    have HZ14 := Lib.hid (HZ13.out.grew G14)
    have HG14 := Lib.hid (HG13.out.trans G14)
    have HT14 := Lib.hid (HT13.out.grew G14)
    have HU14 := Lib.hid (HU13.out.grew G14)
    have HV14 := Lib.hid (HV13.out.grew G14)
    have HW14 := Lib.hid (HW13.out.grew G14)
    clear G14 HT13 HU13 HV13 HW13
    go_wp2_with fail
    with_reducible refine (free_p HZ14.out HSM.out HX1.out).mono ?_
    rintro e w15 ⟨rfl, G15⟩
    have HZ15 := Lib.hid (HZ14.out.grew G15)
    have HG15 := Lib.hid (HG14.out.trans G15)
    clear G15
    go_wp2_with fail
    with_reducible refine (free_q HZ15.out HSM.out HX1.out).mono ?_
    rintro e w16 ⟨rfl, G16⟩
    have HZ16 := Lib.hid (HZ15.out.grew G16)
    have HG16 := Lib.hid (HG15.out.trans G16)
    clear G16
    go_wp2_with fail
    with_reducible refine (low_p HZ16.out HSM.out HX2.out).mono ?_
    rintro e w17 ⟨rfl, G17⟩
    have HZ17 := Lib.hid (HZ16.out.grew G17)
    have HG17 := Lib.hid (HG16.out.trans G17)
    clear G17
    go_wp2_with fail
    with_reducible refine (low_q HZ17.out HSM.out HX2.out).mono ?_
    rintro e w18 ⟨rfl, G18⟩
    have HZ18 := Lib.hid (HZ17.out.grew G18)
    have HG18 := Lib.hid (HG17.out.trans G18)
    clear G18
    go_wp2_with fail
    with_reducible refine (want_p HZ18.out HSM.out HX3.out).mono ?_
    rintro e w19 ⟨rfl, G19⟩
    have HZ19 := Lib.hid (HZ18.out.grew G19)
    have HG19 := Lib.hid (HG18.out.trans G19)
    clear G19
    go_wp2_with fail
    with_reducible refine (want_q HZ19.out HSM.out HX3.out).mono ?_
    rintro e w20 ⟨rfl, G20⟩
    have HZ20 := Lib.hid (HZ19.out.grew G20)
    have HG20 := Lib.hid (HG19.out.trans G20)
    clear G20
    go_wp2_with fail
    with_reducible refine (awake_any _).mono ?_
    rintro e w21 ⟨rfl, G21⟩
    have HG21 := Lib.hid (HG20.out.trans G21)
    clear G21
    go_wp2
    go_ret
    exact ⟨by simp, HG21.out⟩
  · have hq5 : (q5 == 0) = false := by simpa using h5
    have HZ6 := HZ5
    have HG6 := HG5
    go_wp2_with fail
    with_reducible refine (take_p HZ6.out HSM.out).mono ?_
    rintro e w7 ⟨v7, rfl, Y7, G7⟩
    have HZ7 := Lib.hid (HZ6.out.grew G7)
    have HG7 := Lib.hid (HG6.out.trans G7)
    have HY7 := Lib.hid Y7
    clear Y7 G7
    go_wp2_with fail
    with_reducible refine (take_q HZ7.out HSM.out).mono ?_
    rintro e w8 ⟨v8, rfl, Y8, G8⟩
    have HZ8 := Lib.hid (HZ7.out.grew G8)
    have HG8 := Lib.hid (HG7.out.trans G8)
    have HY7b := Lib.hid (HY7.out.grew G8)
    have HY8 := Lib.hid Y8
    clear Y8 G8 HY7
    go_wp2_with fail
    with_reducible refine (give_p HZ8.out HSM.out).mono ?_
    rintro e w9 ⟨v9, rfl, Y9, G9⟩
    have HZ9 := Lib.hid (HZ8.out.grew G9)
    have HG9 := Lib.hid (HG8.out.trans G9)
    have HY7c := Lib.hid (HY7b.out.grew G9)
    have HY8b := Lib.hid (HY8.out.grew G9)
    have HY9 := Lib.hid Y9
    clear Y9 G9 HY7b HY8
    go_wp2_with fail
    with_reducible refine (give_q HZ9.out HSM.out).mono ?_
    rintro e w10 ⟨v10, rfl, Y10, G10⟩
    have HZ10 := Lib.hid (HZ9.out.grew G10)
    have HG10 := Lib.hid (HG9.out.trans G10)
    have HY7d := Lib.hid (HY7c.out.grew G10)
    have HY8c := Lib.hid (HY8b.out.grew G10)
    have HY9b := Lib.hid (HY9.out.grew G10)
    have HY10 := Lib.hid Y10
    clear Y10 G10 HY7c HY8b HY9
    obtain ⟨rr, hrr⟩ : ∃ rr, okB L = rr := ⟨_, rfl⟩
    obtain ⟨x1, hx1⟩ : ∃ x, freX L = x := ⟨_, rfl⟩
    obtain ⟨x2, hx2⟩ : ∃ x, lowX L = x := ⟨_, rfl⟩
    obtain ⟨x3, hx3⟩ : ∃ x, wanX L = x := ⟨_, rfl⟩
    have HRR := Lib.hid hrr
    have HX1 := Lib.hid hx1
    have HX2 := Lib.hid hx2
    have HX3 := Lib.hid hx3
    clear hrr hx1 hx2 hx3
    have HT10 := HY7d
    have HU10 := HY8c
    have HV10 := HY9b
    have HW10 := HY10
    have HS1 := Lib.hid (tak_small (u := q4 == 0) (p := q2 - 1) HSM.out)
    have HS2 := Lib.hid (giv_small (f := 1 + q3) HSM.out)
    generalize takX (q4 == 0) L (q2 - 1) = XT at *
    generalize givX L (1 + q3) = XG at *
    obtain ⟨L1, f1, e1⟩ := XT
    obtain ⟨L2, e2⟩ := XG
    go_wp2_with fail
    with_reducible refine (check_p HZ10.out HSM.out HRR.out).mono ?_
    rintro e w11 ⟨rfl, G11⟩
    have HZ11 := Lib.hid (HZ10.out.grew G11)
    have HG11 := Lib.hid (HG10.out.trans G11)
    have HT11 := Lib.hid (HT10.out.grew G11)
    have HU11 := Lib.hid (HU10.out.grew G11)
    have HV11 := Lib.hid (HV10.out.grew G11)
    have HW11 := Lib.hid (HW10.out.grew G11)
    clear G11 HT10 HU10 HV10 HW10
    go_wp2_with fail
    with_reducible refine (check_q HZ11.out HSM.out HRR.out).mono ?_
    rintro e w12 ⟨rfl, G12⟩
    have HZ12 := Lib.hid (HZ11.out.grew G12)
    have HG12 := Lib.hid (HG11.out.trans G12)
    have HT12 := Lib.hid (HT11.out.grew G12)
    have HU12 := Lib.hid (HU11.out.grew G12)
    have HV12 := Lib.hid (HV11.out.grew G12)
    have HW12 := Lib.hid (HW11.out.grew G12)
    clear G12 HT11 HU11 HV11 HW11
    go_wp2_with fail
    with_reducible refine (same_q HT12.out HU12.out HS1.out).mono ?_
    rintro e w13 ⟨rfl, G13⟩
    have HZ13 := Lib.hid (HZ12.out.grew G13)
    have HG13 := Lib.hid (HG12.out.trans G13)
    have HT13 := Lib.hid (HT12.out.grew G13)
    have HU13 := Lib.hid (HU12.out.grew G13)
    have HV13 := Lib.hid (HV12.out.grew G13)
    have HW13 := Lib.hid (HW12.out.grew G13)
    clear G13 HT12 HU12 HV12 HW12
    go_wp2_with fail
    with_reducible refine (same_q HV13.out HW13.out HS2.out).mono ?_
    rintro e w14 ⟨rfl, G14⟩
    have HZ14 := Lib.hid (HZ13.out.grew G14)
    have HG14 := Lib.hid (HG13.out.trans G14)
    have HT14 := Lib.hid (HT13.out.grew G14)
    have HU14 := Lib.hid (HU13.out.grew G14)
    have HV14 := Lib.hid (HV13.out.grew G14)
    have HW14 := Lib.hid (HW13.out.grew G14)
    clear G14 HT13 HU13 HV13 HW13
    go_wp2_with fail
    with_reducible refine (free_p HZ14.out HSM.out HX1.out).mono ?_
    rintro e w15 ⟨rfl, G15⟩
    have HZ15 := Lib.hid (HZ14.out.grew G15)
    have HG15 := Lib.hid (HG14.out.trans G15)
    clear G15
    go_wp2_with fail
    with_reducible refine (free_q HZ15.out HSM.out HX1.out).mono ?_
    rintro e w16 ⟨rfl, G16⟩
    have HZ16 := Lib.hid (HZ15.out.grew G16)
    have HG16 := Lib.hid (HG15.out.trans G16)
    clear G16
    go_wp2_with fail
    with_reducible refine (low_p HZ16.out HSM.out HX2.out).mono ?_
    rintro e w17 ⟨rfl, G17⟩
    have HZ17 := Lib.hid (HZ16.out.grew G17)
    have HG17 := Lib.hid (HG16.out.trans G17)
    clear G17
    go_wp2_with fail
    with_reducible refine (low_q HZ17.out HSM.out HX2.out).mono ?_
    rintro e w18 ⟨rfl, G18⟩
    have HZ18 := Lib.hid (HZ17.out.grew G18)
    have HG18 := Lib.hid (HG17.out.trans G18)
    clear G18
    go_wp2_with fail
    with_reducible refine (want_p HZ18.out HSM.out HX3.out).mono ?_
    rintro e w19 ⟨rfl, G19⟩
    have HZ19 := Lib.hid (HZ18.out.grew G19)
    have HG19 := Lib.hid (HG18.out.trans G19)
    clear G19
    go_wp2_with fail
    with_reducible refine (want_q HZ19.out HSM.out HX3.out).mono ?_
    rintro e w20 ⟨rfl, G20⟩
    have HZ20 := Lib.hid (HZ19.out.grew G20)
    have HG20 := Lib.hid (HG19.out.trans G20)
    clear G20
    go_wp2_with fail
    with_reducible refine (awake_any _).mono ?_
    rintro e w21 ⟨rfl, G21⟩
    have HG21 := Lib.hid (HG20.out.trans G21)
    clear G21
    go_wp2
    go_ret
    exact ⟨by simp, HG21.out⟩

theorem Try.own : ownKnob Try.prog.godebug = none := by kernel_rfl
theorem Try.laidOut : laidOutB Try.prog = true := by kernel_rfl

theorem zoneCalls_contract (W : World) (base : Nat) (args : Array Value) (H : Type) (enc : TypeId × Value → H) (ds : List (DataW H)) (p : List MemPlace)
    (hval : ∀ (j : Nat) t v, Try.f3.params[j]? = some t → args[j]? = some v → Value.okWide Try.prog W .any base t v)
    (hA : DataW.TrodAll enc Try.prog W 0 (fun _ => true) true Try.f3.params.toList args.toList ds p) :
    (∃ d0, ds = [d0]) ∧ Calls Try.prog 3 args W fun e W' => e = .returned (.bool true) ∧ Below W.heap.size W W' := by
  rw [Try.params3] at hval hA
  obtain ⟨v0, d0, p0, ha, hd, hp, h0⟩ := args_1 hA
  subst ha hd
  obtain ⟨A0, c0, xs0, rfl, hr0, hm0⟩ := open_introw Try.underlying22 Try.underlying3 (by kernel_rfl) (hval 0 _ _ rfl rfl) h0
  exact ⟨⟨_, rfl⟩, (zcal_core A0 c0 xs0 W hr0 hm0).mono fun _ _ h => h⟩

set_option maxRecDepth 100000 in
theorem zoneCalls_lifted (os : Os) (started : os.Started) (H : Type) (enc : TypeId × Value → H) :
    ReturnsInHanded {} Try.checked os 3 .any (Rows.zoneCallsSpec.pre6 enc Try.prog Try.f3 Rows.zoneCallsRow.domain false) (Rows.zoneCallsSpec.post enc Try.prog Try.f3 false true false false) := by
  refine returnsInHanded_of_change (C := Try.checked) Try.own started (by kernel_rfl) Try.func3
    (ChangeSpec.witness6 (enc := enc) (C := Try.checked) false ⟨#[], #[.slice none 0 0], []⟩ 8 (by kernel_rfl) (by kernel_rfl) (by kernel_rfl) (by kernel_rfl)) ?_
  intro W base args ds gs before hval hW _ _
  obtain ⟨p, q, hA, hV, hrest⟩ := id hW
  obtain ⟨⟨d0, rfl⟩, hc⟩ := zoneCalls_contract W base args H enc ds p hval hA
  obtain ⟨rfl, -⟩ := trodVars_none hV
  refine hc.mono fun e W' ⟨he, hb⟩ => ⟨_, he, ?_⟩
  exact law_close (tb := 4) Try.laidOut (by rw [Try.params3]; decide +kernel) Try.underlying4 rfl rfl hW rfl rfl rfl hb

theorem zoneCalls_holds : Rows.ZoneCallsSaid :=
  OpenClaim.holds_of_wide 3 Try.f3 rfl rfl rfl rfl rfl rfl rfl ⟨rfl, rfl, rfl, rfl, rfl⟩ rfl rfl rfl rfl rfl (by kernel_rfl) Try.func3 (by kernel_rfl)
    (of_decide_eq_true (by kernel_rfl)) (by unfold Func.isWrapper; first | (rw [if_pos (by decide +kernel)]; kernel_rfl) | (rw [if_neg (by decide +kernel)]; exact ⟨rfl, rfl⟩))
    (fun os started H enc _ => zoneCalls_lifted os started H enc)
end Go.Proofs.Ytphccdfdknihdaa

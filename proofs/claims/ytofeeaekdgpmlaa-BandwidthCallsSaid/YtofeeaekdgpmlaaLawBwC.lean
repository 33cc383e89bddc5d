/- BandwidthCalls holds: what measures become, and the errors, are those of the document's answer. -/
import Derived.Test.YtofeeaekdgpmlaaBw3
import Derived.Test.YtofeeaekdgpmlaaBw4
import Derived.Test.YtofeeaekdgpmlaaOdd
namespace Go.Mine
open Go Go.RowKit
/-- Some measure of the law's own in block g; a tape; nothing that was there has turned. -/
def BwCut (w : World) (T : TypeId) (g : Nat) (wx : World) : Prop := ∃ a s d : Int, Own wx g T #[.int .i64 a, .int .i64 s, .int .i64 d] ∧ Tp (w.heap.size + 1) wx w.heap.size ∧ Grew w wx
/-- .. and two numbers. -/
def BwCut2 (w : World) (T : TypeId) (g : Nat) (v5 v6 : Value) (wx : World) : Prop := ∃ n p : Int, v5 = .int .i64 n ∧ v6 = .int .i64 p ∧ BwCut w T g wx
end Go.Mine
namespace Go.Proofs.Ytofeeaekdgpmlaa
open Go.ChangeShapes Go.WideShapes Go.ChangeAt Go.RowKit Go.Mine

set_option maxRecDepth 100000 in
set_option maxHeartbeats 8000000 in
theorem bcalls_core (A : Option Addr) (c : Nat) (xs : List Int) (w : World) (hr : IntRow w A xs) (hm : xs.length ≤ maxLen) :
    Calls Try.prog 3 #[.slice A xs.length c] w (RetG (.bool true) w) := by
  have tp := Tp.made hr hm c 25
  have gA := (Grew.refl w).alloc (.cells #[.slice A xs.length c, .int .i64 0] 25)
  have hbw : w.heap.size + 1 ≤ (w.alloc (.cells #[.slice A xs.length c, .int .i64 0] 25)).heap.size := by simp
  have hB0 : w.heap.size < w.heap.size + 1 := Nat.lt_succ_self _
  clear hr hm
  generalize hX : xs.length = X at *
  clear hX
  go_enter Try.func3, Try.ntmps3
  go_wp2_with fail
  with_reducible refine (next_x _ _ _ _ (by omega) (by omega) tp).mono ?_
  rintro e w1 ⟨a, a0, a1, rfl, T1, g1⟩
  have HG1 := Lib.hid (gA.past g1 (Nat.le_refl _))
  have hb1 := Nat.le_trans hbw g1.size
  clear gA tp g1 a0 a1 hbw
  go_wp2_with fail
  with_reducible refine (next_x _ _ _ _ (by omega) (by omega) T1).mono ?_
  rintro e w2 ⟨s, s0, s1, rfl, T2, g2⟩
  have HG2 := Lib.hid (HG1.out.past g2 (Nat.le_refl _))
  have hb2 := Nat.le_trans hb1 g2.size
  clear g2 T1 HG1 hb1 s0 s1
  go_wp2_with fail
  with_reducible refine (next_x _ _ _ _ (by omega) (by omega) T2).mono ?_
  rintro e w3 ⟨d, d0, d1, rfl, T3, g3⟩
  have HG3 := Lib.hid (HG2.out.past g3 (Nat.le_refl _))
  have hb3 := Nat.le_trans hb2 g3.size
  clear g3 T2 HG2 hb2 d0 d1
  have O3 := Own.new w3 28 #[.int .i64 a, .int .i64 s, .int .i64 d]
  have T4 := T3.alloc (.cells #[.int .i64 a, .int .i64 s, .int .i64 d] 28)
  have HG4 := Lib.hid (HG3.out.alloc (.cells #[.int .i64 a, .int .i64 s, .int .i64 d] 28))
  go_wp2_with fail
  with_reducible refine (next_x _ _ _ _ (by omega) (by omega) T4).mono ?_
  rintro e w5 ⟨q, q0, q1, rfl, T5, g5⟩
  have O5 := O3.past g5 (by omega)
  have HG5 := Lib.hid (HG4.out.past g5 (Nat.le_refl _))
  have hl5 := O5.lt
  clear g5 T3 T4 O3 HG3 HG4
  generalize w3.heap.size = gm at *
  have hgm : w.heap.size + 1 ≤ gm := hb3
  have hgs : w.heap.size ≤ gm := by omega
  go_upto_block 0 with fail
  go_cut [] from 27 to 51 (BwCut w 28 gm)
  case first =>
    by_cases h0 : q = 0
    · subst h0
      go_wp2_with fail
      with_reducible refine (odd_x _ _ _ T5 (by omega)).mono ?_
      rintro e w6 ⟨z, rfl, T6, g6⟩
      have O6 := O5.past g6 (by omega)
      have HG6 := Lib.hid (HG5.out.past g6 (Nat.le_refl _))
      obtain ⟨m0, m1, m2, m3, m4, m5⟩ := O6.three
      have hl6 := O6.lt
      clear g6 T5 O5 HG5
      go_wp2_with fail
      go_meet
      exact ⟨_, _, _, O6.set 0 (.int .i64 z), T6.set (p := ⟨gm, 0, none⟩) (by omega) (.int .i64 z), HG6.out.set (p := ⟨gm, 0, none⟩) (by omega) (.int .i64 z)⟩
    · have e0 : (q == 0) = false := by simpa using h0
      by_cases h1 : q = 1
      · subst h1
        go_wp2_with fail
        with_reducible refine (odd_x _ _ _ T5 (by omega)).mono ?_
        rintro e w6 ⟨z, rfl, T6, g6⟩
        have O6 := O5.past g6 (by omega)
        have HG6 := Lib.hid (HG5.out.past g6 (Nat.le_refl _))
        obtain ⟨m0, m1, m2, m3, m4, m5⟩ := O6.three
        have hl6 := O6.lt
        clear g6 T5 O5 HG5
        go_wp2_with fail
        go_meet
        exact ⟨_, _, _, O6.set 1 (.int .i64 z), T6.set (p := ⟨gm, 1, none⟩) (by omega) (.int .i64 z), HG6.out.set (p := ⟨gm, 1, none⟩) (by omega) (.int .i64 z)⟩
      · have e1 : (q == 1) = false := by simpa using h1
        by_cases h2 : q = 2
        · subst h2
          go_wp2_with fail
          with_reducible refine (odd_x _ _ _ T5 (by omega)).mono ?_
          rintro e w6 ⟨z, rfl, T6, g6⟩
          have O6 := O5.past g6 (by omega)
          have HG6 := Lib.hid (HG5.out.past g6 (Nat.le_refl _))
          obtain ⟨m0, m1, m2, m3, m4, m5⟩ := O6.three
          have hl6 := O6.lt
          clear g6 T5 O5 HG5
          go_wp2_with fail
          go_meet
          exact ⟨_, _, _, O6.set 2 (.int .i64 z), T6.set (p := ⟨gm, 2, none⟩) (by omega) (.int .i64 z), HG6.out.set (p := ⟨gm, 2, none⟩) (by omega) (.int .i64 z)⟩
        · have e2 : (q == 2) = false := by simpa using h2
          by_cases h3 : q = 3
          · subst h3
            go_wp2_with fail
            with_reducible refine (next_x _ _ _ _ (by omega) (by omega) T5).mono ?_
            rintro e w6 ⟨z, z0, z1, rfl, T6, g6⟩
            have O6 := O5.past g6 (by omega)
            have HG6 := Lib.hid (HG5.out.past g6 (Nat.le_refl _))
            clear g6 T5 O5 HG5
            go_wp2_with fail
            with_reducible refine (next_x _ _ _ _ (by omega) (by omega) T6).mono ?_
            rintro e w7 ⟨y, y0, y1, rfl, T7, g7⟩
            have O7 := O6.past g7 (by omega)
            have HG7 := Lib.hid (HG6.out.past g7 (Nat.le_refl _))
            obtain ⟨m0, m1, m2, m3, m4, m5⟩ := O7.three
            have hl7 := O7.lt
            have ny : IntKind.i64.wrap (256000000 - y) = 256000000 - y := IntWalk.i64_in _ (by omega)
            have nz : IntKind.i64.wrap (256000000 - z) = 256000000 - z := IntWalk.i64_in _ (by omega)
            clear g7 T6 O6 HG6
            go_wp2_with fail
            go_meet
            exact ⟨256000000 - z, s, 256000000 - y, (O7.set 0 (.int .i64 (256000000 - z))).set 2 (.int .i64 (256000000 - y)), (T7.set (p := ⟨gm, 0, none⟩) (by omega) (.int .i64 (256000000 - z))).set (p := ⟨gm, 2, none⟩) (by omega) (.int .i64 (256000000 - y)), (HG7.out.set (p := ⟨gm, 0, none⟩) (by omega) (.int .i64 (256000000 - z))).set (p := ⟨gm, 2, none⟩) (by omega) (.int .i64 (256000000 - y))⟩
          · have e3 : (q == 3) = false := by simpa using h3
            clear h0 h1 h2 h3
            go_wp2_with fail
            go_meet
            exact ⟨_, _, _, O5, T5, HG5.out⟩
  case rest =>
    clear T5 O5 HG5 hl5
    obtain ⟨a, s, d, O, T, G⟩ := hcut
    obtain ⟨m0, m1, m2, m3, m4, m5⟩ := O.three
    have hl := O.lt
    have HO := Lib.hid O.drew
    have HG := Lib.hid G.drew
    have TT := T.drew
    clear O G T
    go_upto_region 12 with fail
    go_region_held3 (fun w' => w'.cell? ⟨gm, 1, none⟩ = some (.int .i64 s))
      (repeat (first | (with_reducible assumption) | (with_reducible refine far_drew ?_)))
      (first
        | (go_at_call 6; (with_reducible refine (next_x _ _ 40 _ (by omega) (by omega) TT).mono ?_); rintro e w7 ⟨q7, q70, q71, rfl, T7, g7⟩; replace HO := Lib.hid (HO.out.past g7 (by omega)); replace HG := Lib.hid (HG.out.past g7 (Nat.le_refl _)); clear g7 m0 m1 m2 m3 m4 m5; obtain ⟨m0, m1, m2, m3, m4, m5⟩ := HO.out.three)
        | (go_at_call 6; (with_reducible refine (next_x _ _ 70 _ (by omega) (by omega) T7).mono ?_); rintro e w8 ⟨q8, q80, q81, rfl, T8, g8⟩; replace HO := Lib.hid (HO.out.past g8 (by omega)); replace HG := Lib.hid (HG.out.past g8 (Nat.le_refl _)); clear g8 T7 m0 m1 m2 m3 m4 m5; obtain ⟨m0, m1, m2, m3, m4, m5⟩ := HO.out.three))
    clear hl
    have hl := HO.out.lt
    go_wp2_with fail
    with_reducible refine (next_x _ _ _ _ (by omega) (by omega) T8).mono ?_
    rintro e w9 ⟨q9, q90, q91, rfl, T9, g9⟩
    have HO9 := Lib.hid (HO.out.past g9 (by omega))
    have HG9 := Lib.hid (HG.out.past g9 (Nat.le_refl _))
    have hl9 := HO9.out.lt
    clear g9 T8 HO HG hl m0 m1 m2 m3 m4 m5
    go_upto_if 63 with fail
    go_cut [5, 6] (BwCut2 w 28 gm)
    case first =>
      by_cases h0 : q9 = 0
      · subst h0
        go_wp2_with fail
        with_reducible refine (odd_x _ _ _ T9 (by omega)).mono ?_
        rintro e w10 ⟨z, rfl, T10, g10⟩
        have HO10 := Lib.hid (HO9.out.past g10 (by omega))
        have HG10 := Lib.hid (HG9.out.past g10 (Nat.le_refl _))
        have hl10 := HO10.out.lt
        clear g10 T9 HO9 HG9
        go_wp2_with fail
        with_reducible refine (odd_x _ _ _ T10 (by omega)).mono ?_
        rintro e w11 ⟨y, rfl, T11, g11⟩
        have HO11 := Lib.hid (HO10.out.past g11 (by omega))
        have HG11 := Lib.hid (HG10.out.past g11 (Nat.le_refl _))
        clear g11 T10 HO10 HG10
        go_wp2_with fail
        go_meet
        exact ⟨z, y, rfl, rfl, a, s, d, HO11.out, T11, HG11.out⟩
      · have e0 : (q9 == 0) = false := by simpa using h0
        clear h0
        go_wp2_with fail
        go_meet
        exact ⟨_, _, rfl, rfl, a, s, d, HO9.out, T9, HG9.out⟩
    case rest =>
      clear T9 HO9 HG9 hl9
      obtain ⟨n, p, rfl, rfl, a, s, d, O, T, G⟩ := hcut
      obtain ⟨⟨xa, xs', xd⟩, x, hx⟩ := StR.some n
      obtain ⟨⟨ya, ys, yd⟩, y, hy⟩ := NtR.some ⟨a, s, d⟩ n p
      obtain ⟨ok, hok⟩ : ∃ ok, okM ⟨a, s, d⟩ = ok := ⟨_, rfl⟩
      obtain ⟨rt, hrt⟩ : ∃ rt, rtM ⟨a, s, d⟩ = rt := ⟨_, rfl⟩
      have HX := Lib.hid hx
      have HY := Lib.hid hy
      have HK := Lib.hid hok
      have HR := Lib.hid hrt
      have HO := Lib.hid O
      have HG := Lib.hid G
      have hl := O.lt
      clear hx hy hok hrt O G T
      go_wp2_with fail
      with_reducible refine (start_p HX.out).mono ?_
      rintro e w1 ⟨rfl, g1⟩
      replace HO := Lib.hid ((HO.out.grew g1).alloc (.cells #[.int .i64 xa, .int .i64 xs', .int .i64 xd] 28))
      replace HG := Lib.hid ((HG.out.trans g1).alloc (.cells #[.int .i64 xa, .int .i64 xs', .int .i64 xd] 28))
      have P1 := Lib.hid (Own.new w1 28 #[.int .i64 xa, .int .i64 xs', .int .i64 xd])
      clear g1 hl
      have hl := HO.out.lt
      go_wp2_with fail
      with_reducible refine (start_q HX.out).mono ?_
      rintro e w2 ⟨rfl, g2⟩
      replace HO := Lib.hid ((HO.out.grew g2).alloc (.cells #[.int .i64 xa, .int .i64 xs', .int .i64 xd] 28))
      replace HG := Lib.hid ((HG.out.trans g2).alloc (.cells #[.int .i64 xa, .int .i64 xs', .int .i64 xd] 28))
      replace P1 := Lib.hid ((P1.out.grew g2).alloc (.cells #[.int .i64 xa, .int .i64 xs', .int .i64 xd] 28))
      have P2 := Lib.hid (Own.new w2 28 #[.int .i64 xa, .int .i64 xs', .int .i64 xd])
      clear g2 hl
      have hl := HO.out.lt
      obtain ⟨m0, m1, m2, m3, m4, m5⟩ := HO.out.three
      go_wp2_with fail
      with_reducible refine (note_p HY.out).mono ?_
      rintro e w3 ⟨rfl, g3⟩
      replace HO := Lib.hid ((HO.out.grew g3).alloc (.cells #[.int .i64 ya, .int .i64 ys, .int .i64 yd] 28))
      replace HG := Lib.hid ((HG.out.trans g3).alloc (.cells #[.int .i64 ya, .int .i64 ys, .int .i64 yd] 28))
      replace P1 := Lib.hid ((P1.out.grew g3).alloc (.cells #[.int .i64 ya, .int .i64 ys, .int .i64 yd] 28))
      replace P2 := Lib.hid ((P2.out.grew g3).alloc (.cells #[.int .i64 ya, .int .i64 ys, .int .i64 yd] 28))
      have P3 := Lib.hid (Own.new w3 28 #[.int .i64 ya, .int .i64 ys, .int .i64 yd])
      clear g3 hl m0 m1 m2 m3 m4 m5
      have hl := HO.out.lt
      obtain ⟨m0, m1, m2, m3, m4, m5⟩ := HO.out.three
      go_wp2_with fail
      with_reducible refine (note_q HY.out).mono ?_
      rintro e w4 ⟨rfl, g4⟩
      replace HO := Lib.hid ((HO.out.grew g4).alloc (.cells #[.int .i64 ya, .int .i64 ys, .int .i64 yd] 28))
      replace HG := Lib.hid ((HG.out.trans g4).alloc (.cells #[.int .i64 ya, .int .i64 ys, .int .i64 yd] 28))
      replace P1 := Lib.hid ((P1.out.grew g4).alloc (.cells #[.int .i64 ya, .int .i64 ys, .int .i64 yd] 28))
      replace P2 := Lib.hid ((P2.out.grew g4).alloc (.cells #[.int .i64 ya, .int .i64 ys, .int .i64 yd] 28))
      replace P3 := Lib.hid ((P3.out.grew g4).alloc (.cells #[.int .i64 ya, .int .i64 ys, .int .i64 yd] 28))
      have P4 := Lib.hid (Own.new w4 28 #[.int .i64 ya, .int .i64 ys, .int .i64 yd])
      clear g4 hl m0 m1 m2 m3 m4 m5
      have hl := HO.out.lt
      go_upto_region 19 with fail
      generalize w1.heap.size = b1 at *
      generalize w2.heap.size = b2 at *
      generalize w3.heap.size = b3 at *
      generalize w4.heap.size = b4 at *
      generalize World.alloc w4 _ = wz at *
      replace HO := Lib.hid HO.out.drew
      replace HG := Lib.hid HG.out.drew
      replace P1 := Lib.hid P1.out.drew
      replace P2 := Lib.hid P2.out.drew
      replace P3 := Lib.hid P3.out.drew
      replace P4 := Lib.hid P4.out.drew
      obtain ⟨m0, m1, m2, -⟩ := HO.out.three
      obtain ⟨p10, p11, p12, -⟩ := P1.out.three
      obtain ⟨p20, p21, p22, -⟩ := P2.out.three
      obtain ⟨p30, p31, p32, -⟩ := P3.out.three
      obtain ⟨p40, p41, p42, -⟩ := P4.out.three
      go_region_held3 (fun w' => w'.cell? ⟨gm, 0, none⟩ = some (.int .i64 a) ∧ w'.cell? ⟨gm, 1, none⟩ = some (.int .i64 s) ∧ w'.cell? ⟨gm, 2, none⟩ = some (.int .i64 d) ∧ w'.cell? ⟨b1, 0, none⟩ = some (.int .i64 xa) ∧ w'.cell? ⟨b1, 1, none⟩ = some (.int .i64 xs') ∧ w'.cell? ⟨b1, 2, none⟩ = some (.int .i64 xd) ∧ w'.cell? ⟨b2, 0, none⟩ = some (.int .i64 xa) ∧ w'.cell? ⟨b2, 1, none⟩ = some (.int .i64 xs') ∧ w'.cell? ⟨b2, 2, none⟩ = some (.int .i64 xd) ∧ w'.cell? ⟨b3, 0, none⟩ = some (.int .i64 ya) ∧ w'.cell? ⟨b3, 1, none⟩ = some (.int .i64 ys) ∧ w'.cell? ⟨b3, 2, none⟩ = some (.int .i64 yd) ∧ w'.cell? ⟨b4, 0, none⟩ = some (.int .i64 ya) ∧ w'.cell? ⟨b4, 1, none⟩ = some (.int .i64 ys) ∧ w'.cell? ⟨b4, 2, none⟩ = some (.int .i64 yd))
        (refine ⟨?_, ?_, ?_, ?_, ?_, ?_, ?_, ?_, ?_, ?_, ?_, ?_, ?_, ?_, ?_⟩ <;> (repeat (first | (with_reducible assumption) | (with_reducible refine far_drew ?_))))
        (first
          | (go_at_call 12; (with_reducible refine (check_p HK.out).mono ?_); rintro e vx ⟨rfl, g⟩; replace HO := Lib.hid (HO.out.grew g); replace HG := Lib.hid (HG.out.trans g); replace P1 := Lib.hid (P1.out.grew g); replace P2 := Lib.hid (P2.out.grew g); replace P3 := Lib.hid (P3.out.grew g); replace P4 := Lib.hid (P4.out.grew g); clear g m0 m1 m2 p10 p11 p12 p20 p21 p22 p30 p31 p32 p40 p41 p42; obtain ⟨m0, m1, m2, -⟩ := HO.out.three; obtain ⟨p10, p11, p12, -⟩ := P1.out.three; obtain ⟨p20, p21, p22, -⟩ := P2.out.three; obtain ⟨p30, p31, p32, -⟩ := P3.out.three; obtain ⟨p40, p41, p42, -⟩ := P4.out.three)
          | (go_at_call 13; (with_reducible refine (check_q HK.out).mono ?_); rintro e vx ⟨rfl, g⟩; replace HO := Lib.hid (HO.out.grew g); replace HG := Lib.hid (HG.out.trans g); replace P1 := Lib.hid (P1.out.grew g); replace P2 := Lib.hid (P2.out.grew g); replace P3 := Lib.hid (P3.out.grew g); replace P4 := Lib.hid (P4.out.grew g); clear g m0 m1 m2 p10 p11 p12 p20 p21 p22 p30 p31 p32 p40 p41 p42; obtain ⟨m0, m1, m2, -⟩ := HO.out.three; obtain ⟨p10, p11, p12, -⟩ := P1.out.three; obtain ⟨p20, p21, p22, -⟩ := P2.out.three; obtain ⟨p30, p31, p32, -⟩ := P3.out.three; obtain ⟨p40, p41, p42, -⟩ := P4.out.three)
          | (go_at_call 14; (with_reducible refine (rate_p HR.out).mono ?_); rintro e vx ⟨rfl, g⟩; replace HO := Lib.hid (HO.out.grew g); replace HG := Lib.hid (HG.out.trans g); replace P1 := Lib.hid (P1.out.grew g); replace P2 := Lib.hid (P2.out.grew g); replace P3 := Lib.hid (P3.out.grew g); replace P4 := Lib.hid (P4.out.grew g); clear g m0 m1 m2 p10 p11 p12 p20 p21 p22 p30 p31 p32 p40 p41 p42; obtain ⟨m0, m1, m2, -⟩ := HO.out.three; obtain ⟨p10, p11, p12, -⟩ := P1.out.three; obtain ⟨p20, p21, p22, -⟩ := P2.out.three; obtain ⟨p30, p31, p32, -⟩ := P3.out.three; obtain ⟨p40, p41, p42, -⟩ := P4.out.three)
          | (go_at_call 15; (with_reducible refine (rate_q HR.out).mono ?_); rintro e vx ⟨rfl, g⟩; replace HO := Lib.hid (HO.out.grew g); replace HG := Lib.hid (HG.out.trans g); replace P1 := Lib.hid (P1.out.grew g); replace P2 := Lib.hid (P2.out.grew g); replace P3 := Lib.hid (P3.out.grew g); replace P4 := Lib.hid (P4.out.grew g); clear g m0 m1 m2 p10 p11 p12 p20 p21 p22 p30 p31 p32 p40 p41 p42; obtain ⟨m0, m1, m2, -⟩ := HO.out.three; obtain ⟨p10, p11, p12, -⟩ := P1.out.three; obtain ⟨p20, p21, p22, -⟩ := P2.out.three; obtain ⟨p30, p31, p32, -⟩ := P3.out.three; obtain ⟨p40, p41, p42, -⟩ := P4.out.three)
          | (go_at_call 16; (with_reducible refine (awake_any _).mono ?_); rintro e vx ⟨rfl, g⟩; replace HO := Lib.hid (HO.out.grew g); replace HG := Lib.hid (HG.out.trans g); replace P1 := Lib.hid (P1.out.grew g); replace P2 := Lib.hid (P2.out.grew g); replace P3 := Lib.hid (P3.out.grew g); replace P4 := Lib.hid (P4.out.grew g); clear g m0 m1 m2 p10 p11 p12 p20 p21 p22 p30 p31 p32 p40 p41 p42; obtain ⟨m0, m1, m2, -⟩ := HO.out.three; obtain ⟨p10, p11, p12, -⟩ := P1.out.three; obtain ⟨p20, p21, p22, -⟩ := P2.out.three; obtain ⟨p30, p31, p32, -⟩ := P3.out.three; obtain ⟨p40, p41, p42, -⟩ := P4.out.three))
      go_wp2
      go_ret
      exact ⟨by simp, HG.out⟩

theorem Try.own : ownKnob Try.prog.godebug = none := by kernel_rfl
theorem Try.laidOut : laidOutB Try.prog = true := by kernel_rfl

theorem bandwidthCalls_contract (W : World) (base : Nat) (args : Array Value) (H : Type) (enc : TypeId × Value → H) (ds : List (DataW H)) (p : List MemPlace)
    (hval : ∀ (j : Nat) t v, Try.f3.params[j]? = some t → args[j]? = some v → Value.okWide Try.prog W .any base t v)
    (hA : DataW.TrodAll enc Try.prog W 0 (fun _ => true) true Try.f3.params.toList args.toList ds p) :
    (∃ d0, ds = [d0]) ∧ Calls Try.prog 3 args W fun e W' => e = .returned (.bool true) ∧ Below W.heap.size W W' := by
  rw [Try.params3] at hval hA
  obtain ⟨v0, d0, p0, ha, hd, hp, h0⟩ := args_1 hA
  subst ha hd
  obtain ⟨A0, c0, xs0, rfl, hr0, hm0⟩ := open_introw Try.underlying22 Try.underlying3 (by kernel_rfl) (hval 0 _ _ rfl rfl) h0
  exact ⟨⟨_, rfl⟩, (bcalls_core A0 c0 xs0 W hr0 hm0).mono fun _ _ h => h⟩

set_option maxRecDepth 100000 in
theorem bandwidthCalls_lifted (os : Os) (started : os.Started) (H : Type) (enc : TypeId × Value → H) :
    ReturnsInHanded {} Try.checked os 3 .any (Rows.bandwidthCallsSpec.pre6 enc Try.prog Try.f3 Rows.bandwidthCallsRow.domain false) (Rows.bandwidthCallsSpec.post enc Try.prog Try.f3 false true false false) := by
  refine returnsInHanded_of_change (C := Try.checked) Try.own started (by kernel_rfl) Try.func3
    (ChangeSpec.witness6 (enc := enc) (C := Try.checked) false ⟨#[], #[.slice none 0 0], []⟩ 8 (by kernel_rfl) (by kernel_rfl) (by kernel_rfl) (by kernel_rfl)) ?_
  intro W base args ds gs before hval hW _ _
  obtain ⟨p, q, hA, hV, hrest⟩ := id hW
  obtain ⟨⟨d0, rfl⟩, hc⟩ := bandwidthCalls_contract W base args H enc ds p hval hA
  obtain ⟨rfl, -⟩ := trodVars_none hV
  refine hc.mono fun e W' ⟨he, hb⟩ => ⟨_, he, ?_⟩
  exact law_close (tb := 4) Try.laidOut (by rw [Try.params3]; decide +kernel) Try.underlying4 rfl rfl hW rfl rfl rfl hb

theorem bandwidthCalls_holds : Rows.BandwidthCallsSaid :=
  OpenClaim.holds_of_wide 3 Try.f3 rfl rfl rfl rfl rfl rfl rfl ⟨rfl, rfl, rfl, rfl, rfl⟩ rfl rfl rfl rfl rfl (by kernel_rfl) Try.func3 (by kernel_rfl)
    (of_decide_eq_true (by kernel_rfl)) (by unfold Func.isWrapper; first | (rw [if_pos (by decide +kernel)]; kernel_rfl) | (rw [if_neg (by decide +kernel)]; exact ⟨rfl, rfl⟩))
    (fun os started H enc _ => bandwidthCalls_lifted os started H enc)
end Go.Proofs.Ytofeeaekdgpmlaa

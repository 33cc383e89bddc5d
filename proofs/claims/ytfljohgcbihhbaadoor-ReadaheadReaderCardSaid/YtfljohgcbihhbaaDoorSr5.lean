/- The reference's Matches whole, Check, better (layer 6): contracts. -/
import Derived.Test.YtfljohgcbihhbaaDoorSr3
import Derived.Test.YtfljohgcbihhbaaDoorSr4
import Derived.Test.YtfljohgcbihhbaaDoorStG
namespace Go.Proofs.YtfljohgcbihhbaaDoor
open Go.RowKit Go.Mine

theorem rmatches_any (x : Str) (a b : Int) (w : World) : Calls Tryd.prog 45 #[strV x, .int .i64 a, .int .i64 b] w (RetG (.tuple #[strV (becF x a b), .bool (mtcB x a b)]) w) := by
  cases h0 : rgtB x
  case false =>
    rw [becF_no (by rw [h0]; rfl), mtcB_no (by rw [h0]; rfl)]
    go_enter Tryd.func45, Tryd.ntmps45
    go_upto_region 1 with fail
    have gA : Grew w ((w.alloc (.cells (csS x) 29)).alloc (.cells z6 29)) := ((Grew.refl w).alloc _).alloc _
    have X := (Own.new w 29 (csS x)).alloc (.cells z6 29)
    have R := Own.new2 w (.cells (csS x) 29) 29 z6
    generalize World.alloc (World.alloc w _) _ = w0 at *
    obtain ⟨X0, X1, X2, X3, X4, X5, X6, X7, X8, X9, X10, X11⟩ := X.sixA
    obtain ⟨R0, R1, R2, R3, R4, R5, R6, R7, R8, R9, R10, R11⟩ := R.sixA
    go_wp2_with fail
    with_reducible refine (rRight_v _ _ h0).mono ?_
    rintro e w1 ⟨rfl, g_w1⟩
    have s_w1 : Grew w0 w1 := by first | exact g_w1 | exact ((Grew.refl _).alloc _).trans g_w1 | exact (((Grew.refl _).alloc _).alloc _).trans g_w1 | exact (Grew.refl _).drew.trans g_w1 | exact ((Grew.refl _).alloc _).drew.trans g_w1 | exact ((Grew.refl _).drewN _).trans g_w1
    have z_w1 := s_w1.size
    replace X := X.grew s_w1
    clear X0 X1 X2 X3 X4 X5 X6 X7 X8 X9 X10 X11
    have l_X_w1 := X.lt
    replace R := R.grew s_w1
    clear R0 R1 R2 R3 R4 R5 R6 R7 R8 R9 R10 R11
    have l_R_w1 := R.lt
    obtain ⟨X0, X1, X2, X3, X4, X5, X6, X7, X8, X9, X10, X11⟩ := X.sixA
    obtain ⟨R0, R1, R2, R3, R4, R5, R6, R7, R8, R9, R10, R11⟩ := R.sixA
    replace gA := gA.trans s_w1
    clear g_w1 s_w1
    go_wp2
    generalize hw : World.setCell _ _ _ = wz
    replace R := R.store6 rfl hw
    replace gA := gA.far6 hw (by omega)
    clear R0 R1 R2 R3 R4 R5 R6 R7 R8 R9 R10 R11
    obtain ⟨R0, R1, R2, R3, R4, R5, R6, R7, R8, R9, R10, R11⟩ := R.sixA
    refine bodyPost_ret (v := .tuple #[strV x, .bool false]) (by simp [results, Tryd.results45, go_sem, R0, R1, R2, R3, R4, R5]) rfl ⟨rfl, ?_⟩
    exact gA
  case true =>
    cases h1 : accB a b
    case false =>
      rw [becF_no (by rw [h1]; simp), mtcB_no (by rw [h1]; simp)]
      go_enter Tryd.func45, Tryd.ntmps45
      go_upto_region 1 with fail
      have gA : Grew w ((w.alloc (.cells (csS x) 29)).alloc (.cells z6 29)) := ((Grew.refl w).alloc _).alloc _
      have X := (Own.new w 29 (csS x)).alloc (.cells z6 29)
      have R := Own.new2 w (.cells (csS x) 29) 29 z6
      generalize World.alloc (World.alloc w _) _ = w0 at *
      obtain ⟨X0, X1, X2, X3, X4, X5, X6, X7, X8, X9, X10, X11⟩ := X.sixA
      obtain ⟨R0, R1, R2, R3, R4, R5, R6, R7, R8, R9, R10, R11⟩ := R.sixA
      go_wp2_with fail
      with_reducible refine (rRight_v _ _ h0).mono ?_
      rintro e w1 ⟨rfl, g_w1⟩
      have s_w1 : Grew w0 w1 := by first | exact g_w1 | exact ((Grew.refl _).alloc _).trans g_w1 | exact (((Grew.refl _).alloc _).alloc _).trans g_w1 | exact (Grew.refl _).drew.trans g_w1 | exact ((Grew.refl _).alloc _).drew.trans g_w1 | exact ((Grew.refl _).drewN _).trans g_w1
      have z_w1 := s_w1.size
      replace X := X.grew s_w1
      clear X0 X1 X2 X3 X4 X5 X6 X7 X8 X9 X10 X11
      have l_X_w1 := X.lt
      replace R := R.grew s_w1
      clear R0 R1 R2 R3 R4 R5 R6 R7 R8 R9 R10 R11
      have l_R_w1 := R.lt
      obtain ⟨X0, X1, X2, X3, X4, X5, X6, X7, X8, X9, X10, X11⟩ := X.sixA
      obtain ⟨R0, R1, R2, R3, R4, R5, R6, R7, R8, R9, R10, R11⟩ := R.sixA
      replace gA := gA.trans s_w1
      clear g_w1 s_w1
      go_wp2_with (go_at_call 32; (with_reducible refine (rAccess_v _ _ _ h1).mono ?_); rintro e w2 ⟨rfl, rfl⟩)
      generalize hw : World.setCell _ _ _ = wz
      replace R := R.store6 rfl hw
      replace gA := gA.far6 hw (by omega)
      clear R0 R1 R2 R3 R4 R5 R6 R7 R8 R9 R10 R11
      obtain ⟨R0, R1, R2, R3, R4, R5, R6, R7, R8, R9, R10, R11⟩ := R.sixA
      refine bodyPost_ret (v := .tuple #[strV x, .bool false]) (by simp [results, Tryd.results45, go_sem, R0, R1, R2, R3, R4, R5]) rfl ⟨rfl, ?_⟩
      exact gA
    case true =>
      cases e1 : x.k == 1
      · exact rmatches_f x a b w h0 h1 e1
      · exact rmatches_t x a b w h0 h1 e1
set_option maxHeartbeats 1000000 in
theorem rcheck_any (a : Option Addr) (n cp : Nat) (f : Nat → Str) (w : World) (hn : n ≤ 1000000) (hr : Rd w a n f) :
    Calls Tryd.prog 44 #[.slice a n cp] w (RetG (.bool (chkB f n)) w) := by
  have HR := Lib.hid hr
  clear hr
  by_cases h4 : n ≤ 4
  · have HC := Lib.hid (show chkB f n = ckN f n from by simp [chkB, h4])
    go_enter Tryd.func44, Tryd.ntmps44
    go_wp2
    go_loopw [3] (fun i wr => ∃ k : Nat, k ≤ n ∧ i = .int .i64 k ∧ ckN f k = true ∧ Grew w wr) (fun i _ => n - (intOf i).toNat)
    case atStart => exact ⟨0, by omega, rfl, rfl, Grew.refl _⟩
    case round =>
      obtain ⟨k, hk, rfl, hh, G⟩ := hrel
      have HH := Lib.hid hh
      clear hh
      by_cases hlt : k < n
      · obtain ⟨g, rfl, hg, he⟩ := HR.out k hlt
        obtain ⟨p0, p1, p2, p3, p4, p5⟩ := he.grew G hg
        have HX := Lib.hid (show ckN f (k + 1) = (rgtB (f k) && !hasN f (f k).t k) from by rw [ckN, HH.out, Bool.true_and])
        have HP := Lib.hid (he.grew G hg)
        clear he
        obtain ⟨x, hx⟩ : ∃ x, f k = x := ⟨_, rfl⟩
        rw [hx] at p0 p1 p2 p3 p4 p5 HX HP
        clear hx
        cases hb : rgtB x
        · have HB := Lib.hid (show ckN f (k + 1) = false from by rw [HX.out, hb]; rfl)
          go_wp2_with fail
          with_reducible refine (rRight_v _ _ hb).mono ?_
          rintro e w2 ⟨rfl, g2⟩
          go_wp2
          go_ret
          exact ⟨ret_bool (by rw [HC.out, ckN_mono HB.out n (by omega)]), G.trans g2⟩
        · have HB := Lib.hid (show ckN f (k + 1) = !hasN f x.t k from by rw [HX.out, hb]; rfl)
          go_wp2_with fail
          with_reducible refine (rRight_v _ _ hb).mono ?_
          rintro e w2 ⟨rfl, g2⟩
          have G2 := G.trans g2
          have hg2 : g < wr.heap.size := Nat.lt_of_lt_of_le hg G.size
          have HQ := Lib.hid (ElS.grew HP.out g2 hg2)
          clear p0 p1 p2 p3 p4 p5
          go_wp2
          obtain ⟨wo, rfl⟩ : ∃ wo : World, wo = w2 := ⟨_, rfl⟩
          go_loopw [4] (fun i wr => ∃ j : Nat, j ≤ k ∧ i = .int .i64 j ∧ hasN f x.t j = false ∧ Grew wo wr) (fun i _ => k - (intOf i).toNat)
          case atStart => exact ⟨0, by omega, rfl, rfl, Grew.refl _⟩
          case round =>
            obtain ⟨j, hj, rfl, hhj, Gj⟩ := hrel
            have HHj := Lib.hid hhj
            clear hhj
            obtain ⟨p0, p1, p2, p3, p4, p5⟩ := ElS.grew HQ.out Gj (Nat.lt_of_lt_of_le hg G2.size)
            by_cases hltj : j < k
            · obtain ⟨g', e', -, hej⟩ := HR.out j (by omega)
              obtain rfl : g = g' := by injection e' with e'; injection e'
              have hjn : j < n := by omega
              obtain ⟨q0, q1, q2, q3, q4, q5⟩ := hej.grew (G2.trans Gj) hg
              have HJ := Lib.hid (show hasN f x.t (j + 1) = ((f j).t == x.t) from by rw [hasN, HHj.out, Bool.false_or])
              clear hej e'
              generalize f j = z at *
              cases hz : z.t == x.t
              · go_wp2
                go_quiet (fail)
                go_wp2
                exact ⟨⟨j + 1, by omega, by go_num, by rw [HJ.out, hz], Gj.drewN _⟩, by simp [intOf]; omega⟩
              · go_wp2
                go_quiet (fail)
                go_wp2
                go_ret
                exact ⟨ret_bool (by rw [HC.out, ckN_mono (show ckN f (k + 1) = false from by rw [HB.out, hasN_mono (show hasN f x.t (j + 1) = true from by rw [HJ.out, hz]) k (by omega)]; rfl) n (by omega)]), G2.trans (Gj.drewN _)⟩
            · have hjk : j = k := by omega
              subst hjk
              go_wp2
              exact ⟨⟨j + 1, by omega, by go_num, by rw [HB.out, HHj.out]; rfl, G2.trans Gj⟩, by simp [intOf]; omega⟩
      · have hkn : k = n := by omega
        subst hkn
        go_wp2
        go_ret
        exact ⟨ret_bool (by rw [HC.out, HH.out]), G⟩
  · go_enter Tryd.func44, Tryd.ntmps44
    go_wp2
    go_ret
    exact ⟨ret_bool (by simp [chkB, h4]), Grew.refl _⟩
def btB (x y : Str) : Bool := decide (0 < clmI x y)
theorem cmpI_cases (a b : Int) : (a < b ∧ cmpI a b = -1) ∨ (a = b ∧ cmpI a b = 0) ∨ (b < a ∧ cmpI a b = 1) := by
  unfold cmpI
  by_cases h : a < b
  · left; exact ⟨h, if_pos h⟩
  · by_cases h2 : b < a
    · right; right; exact ⟨h2, by rw [if_neg h, if_pos h2]⟩
    · right; left; exact ⟨by omega, by rw [if_neg h, if_neg h2]⟩
theorem better_any (x y : Str) (w : World) (hx : RgtP x) (hy : RgtP y) : Calls Tryd.prog 46 #[strV x, strV y] w (RetG (.bool (btB x y)) w) := by
  have G : Grew w ((w.alloc (.cells (csS x) 29)).alloc (.cells (csS y) 29)) := ((Grew.refl _).alloc _).alloc _
  obtain ⟨-, hx0, -, -, -, hx1, -⟩ := hx
  obtain ⟨-, hy0, -, -, -, hy1, -⟩ := hy
  have HB := Lib.hid (show btB x y = decide (x.h > y.h ∨ (x.h = y.h ∧ x.t > y.t)) from by
    refine decide_eq_decide.2 ?_
    rcases cmpI_cases x.h y.h with ⟨h, e⟩ | ⟨h, e⟩ | ⟨h, e⟩ <;> rcases cmpI_cases x.t y.t with ⟨h', e'⟩ | ⟨h', e'⟩ | ⟨h', e'⟩ <;> (rw [clmI, e, e']; constructor <;> intro h2 <;> first | omega | decide | (exact absurd h2 (by decide))))
  have HX := Lib.hid hx1
  have HY := Lib.hid hy1
  clear hx1 hy1
  cases k1 : x.k == 1
  all_goals
    cases k2 : y.k == 1
    all_goals
      cases eh : x.h != y.h
      all_goals
        have P1 := Lib.hid k1
        have P2 := Lib.hid k2
        have P3 := Lib.hid eh
        go_enter Tryd.func46, Tryd.ntmps46
        go_wp2
        go_ret
        have p1 := P1.out
        have p2 := P2.out
        have p3 := P3.out
        have px := HX.out
        have py := HY.out
        simp only [beq_iff_eq, beq_eq_false_iff_ne, bne_iff_ne, bne_eq_false_iff_eq] at p1 p2 p3
        refine ⟨ret_bool ?_, G⟩
        rw [HB.out]
        first
          | (exact decide_eq_decide.2 (by omega))
          | (exact (decide_eq_false (by omega)).symm)
          | (exact (decide_eq_true (by omega)).symm)
end Go.Proofs.YtfljohgcbihhbaaDoor

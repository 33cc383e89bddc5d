/- GroupAccounts holds: charges are what was charged and not taken back, and never above the limits. -/
import Derived.Test.YtgcblkibnihplaaGl0
import Derived.StillTailTactics
namespace Go.Mine
open Go Go.RowKit
/-- What is to be had: the charges of three groups. -/
abbrev hvG (L : List Gp) : Array Value := #[.int .i64 (L.getD 0 zG).c, .int .i64 (L.getD 1 zG).c, .int .i64 (L.getD 2 zG).c]
theorem hv_at {L : List Gp} {i : Nat} (h : i < 3) : (hvG L)[i]? = some (.int .i64 (L.getD i zG).c) := by
  rcases (show i = 0 ∨ i = 1 ∨ i = 2 by omega) with rfl | rfl | rfl <;> rfl
/-- Groups and their accounts in memory. -/
def AccI (T U : TypeId) (hb B b : Nat) (w0 : World) (v : Value) (wx : World) : Prop := ∃ (L : List Gp) (a : Option Addr) (c : Nat), v = .slice a 3 c ∧ okG L = true ∧ L.length = 3 ∧ RowE T 3 encG wx B (.slice a 3 c) L ∧ (Value.slice a 3 c).ownBlock ≠ some hb ∧ Own wx hb U (hvG L) ∧ Tp B wx b ∧ Grew w0 wx
end Go.Mine
namespace Go.Proofs.Ytgcblkibnihplaa
open Go.ChangeShapes Go.WideShapes Go.ChangeAt Go.RowKit Go.Mine

theorem hv_chg {L : List Gp} {i : Nat} {y : Int} (h : i < L.length) (h3 : L.length = 3) : (hvG L).setIfInBounds i (.int .i64 ((L.getD i zG).c + y)) = hvG (chgL L i y) := by
  have e1 := chgL_at h y
  rcases (show i = 0 ∨ i = 1 ∨ i = 2 by omega) with rfl | rfl | rfl
  · show (#[_, _, _] : Array Value) = #[_, _, _]
    rw [e1, chgL_ne (show 1 ≠ 0 by decide), chgL_ne (show 2 ≠ 0 by decide)]
  · show (#[_, _, _] : Array Value) = #[_, _, _]
    rw [e1, chgL_ne (show 0 ≠ 1 by decide), chgL_ne (show 2 ≠ 1 by decide)]
  · show (#[_, _, _] : Array Value) = #[_, _, _]
    rw [e1, chgL_ne (show 0 ≠ 2 by decide), chgL_ne (show 1 ≠ 2 by decide)]
def AccCut (hb B b : Nat) (w0 : World) (v4 _v9 _v10 _v11 _v12 : Value) (wx : World) : Prop := AccI 33 37 hb B b w0 v4 wx
set_option maxRecDepth 100000 in
set_option maxHeartbeats 16000000 in
theorem gacc_core (A : Option Addr) (c : Nat) (xs : List Int) (w : World) (hr : IntRow w A xs) (hm : xs.length ≤ maxLen) :
    Calls Try.prog 4 #[.slice A xs.length c] w (RetG (.bool true) w) := by
  have tp := Tp.made hr hm c 25
  have gA := (Grew.refl w).alloc (.cells #[.slice A xs.length c, .int .i64 0] 25)
  have hbw : w.heap.size + 1 ≤ (w.alloc (.cells #[.slice A xs.length c, .int .i64 0] 25)).heap.size := by simp
  clear hr hm
  generalize hX : xs.length = X at *
  clear hX
  go_enter Try.func4, Try.ntmps4
  go_wp2_with fail
  with_reducible refine (next_x _ _ _ _ (by omega) (by omega) tp).mono ?_
  rintro e w1 ⟨q1, a0, a1, rfl, T1, g1⟩
  go_wp2_with fail
  with_reducible refine (next_x _ _ _ _ (by omega) (by omega) T1).mono ?_
  rintro e w2 ⟨q2, b0, b1, rfl, T2, g2⟩
  go_wp2_with fail
  with_reducible refine (next_x _ _ _ _ (by omega) (by omega) T2).mono ?_
  rintro e w3 ⟨q3, c0, c1, rfl, T3, g3⟩
  have g13 := grown_trans (grown_trans g1 g2) g3
  have hs3 := g13.size
  have G3 := gA.past g13 (Nat.le_refl _)
  have R0 : RowE 33 3 encG (w3.alloc (.cells #[.int .i64 (1 + q1), .int .i64 0, .int .i64 0, .int .i64 (1 + q2), .int .i64 0, .int .i64 0, .int .i64 (1 + q3), .int .i64 0, .int .i64 0] 33)) w3.heap.size (.slice (some ⟨w3.heap.size, 0, none⟩) 3 3) [⟨1 + q1, 0, 0⟩, ⟨1 + q2, 0, 0⟩, ⟨1 + q3, 0, 0⟩] := RowE.lit w3 _ rfl rfl (show 3 ≤ maxLen by decide) (Nat.le_refl _)
  have HR0 := Lib.hid ((R0.alloc (.cells #[.int .i64 0, .int .i64 0, .int .i64 0] 37)).wider (show w.heap.size + 1 ≤ w3.heap.size by omega))
  have HH0 := Lib.hid (Own.new2 w3 (.cells #[.int .i64 (1 + q1), .int .i64 0, .int .i64 0, .int .i64 (1 + q2), .int .i64 0, .int .i64 0, .int .i64 (1 + q3), .int .i64 0, .int .i64 0] 33) 37 #[.int .i64 0, .int .i64 0, .int .i64 0])
  have HT0 := Lib.hid ((T3.alloc (.cells #[.int .i64 (1 + q1), .int .i64 0, .int .i64 0, .int .i64 (1 + q2), .int .i64 0, .int .i64 0, .int .i64 (1 + q3), .int .i64 0, .int .i64 0] 33)).alloc (.cells #[.int .i64 0, .int .i64 0, .int .i64 0] 37))
  have HG0 := Lib.hid ((G3.alloc (.cells #[.int .i64 (1 + q1), .int .i64 0, .int .i64 0, .int .i64 (1 + q2), .int .i64 0, .int .i64 0, .int .i64 (1 + q3), .int .i64 0, .int .i64 0] 33)).alloc (.cells #[.int .i64 0, .int .i64 0, .int .i64 0] 37))
  have hok0 : okG [⟨1 + q1, 0, 0⟩, ⟨1 + q2, 0, 0⟩, ⟨1 + q3, 0, 0⟩] = true := okG_iff.2 ⟨⟨Nat.le_add_left 1 2, Nat.le_succ 3⟩, fun x hx => by
    rcases List.mem_cons.1 hx with rfl | hx
    · exact ⟨by show 1 ≤ 1 + q1; omega, by show 1 + q1 ≤ 64; omega, Int.le_refl _, by show 0 ≤ 1 + q1; omega, Int.le_refl _, by show (0 : Int) ≤ 64; decide⟩
    · rcases List.mem_cons.1 hx with rfl | hx
      · exact ⟨by show 1 ≤ 1 + q2; omega, by show 1 + q2 ≤ 64; omega, Int.le_refl _, by show 0 ≤ 1 + q2; omega, Int.le_refl _, by show (0 : Int) ≤ 64; decide⟩
      · rcases List.mem_cons.1 hx with rfl | hx
        · exact ⟨by show 1 ≤ 1 + q3; omega, by show 1 + q3 ≤ 64; omega, Int.le_refl _, by show 0 ≤ 1 + q3; omega, Int.le_refl _, by show (0 : Int) ≤ 64; decide⟩
        · exact absurd hx (by simp)⟩
  have HOK0 := Lib.hid hok0
  clear R0 T1 T2 T3 g1 g2 g3 g13 gA tp hok0 G3
  go_wp2_with fail
  go_loopw [4, 6] (fun xv nv wr => ∃ n : Nat, nv = .int .i64 n ∧ n ≤ 30 ∧ AccI 33 37 (w3.heap.size + 1) (w.heap.size + 1) w.heap.size w xv wr) (fun _ nv _ => 30 - (intOf nv).toNat)
  case atStart => exact ⟨0, rfl, by omega, _, _, _, rfl, HOK0.out, rfl, HR0.out, (by intro e; have e : some w3.heap.size = some (w3.heap.size + 1) := e; injection e with e; omega), HH0.out, HT0.out, HG0.out⟩
  case round =>
    obtain ⟨n, rfl, hn, L, a, cc, rfl, hok, hL3, R, hne, O, T, G⟩ := hrel
    obtain ⟨wo, rfl⟩ : ∃ wo : World, wo = wr := ⟨_, rfl⟩
    have HOK := Lib.hid hok
    have HL3 := Lib.hid hL3
    have HNE := Lib.hid hne
    have hs3i : w.heap.size + 1 ≤ w3.heap.size := by omega
    clear HR0 HH0 HT0 HG0 HOK0 hok hL3 hne
    by_cases hlt : n < 30
    · have hlti : (n : Int) < 30 := by omega
      go_wp2_with fail
      with_reducible refine (end_x _ _ _ T).mono ?_
      rintro e w4 ⟨q, rfl, T4, g4⟩
      have HR4 := Lib.hid (R.grew g4)
      have HO4 := Lib.hid (O.grew g4)
      have HG4 := Lib.hid (G.trans g4)
      clear R O G T g4
      cases q
      · go_wp2_with fail
        with_reducible refine (next_x _ _ _ _ (by omega) (by omega) T4).mono ?_
        rintro e w5 ⟨q5, d0, d1, rfl, T5, g5⟩
        go_wp2_with fail
        with_reducible refine (next_x _ _ _ _ (by omega) (by omega) T5).mono ?_
        rintro e w6 ⟨k, k0, k1, rfl, T6, g6⟩
        go_wp2_with fail
        with_reducible refine (next_x _ _ _ _ (by omega) (by omega) T6).mono ?_
        rintro e w7 ⟨q7, f0, f1, rfl, T7, g7⟩
        have g57 := grown_trans (grown_trans g5 g6) g7
        obtain ⟨i, rfl⟩ := Int.eq_ofNat_of_zero_le d0
        have hi3 : i < 3 := by omega
        have HR7 := Lib.hid (HR4.out.past g57 (Nat.lt_succ_self _))
        have HO7 := Lib.hid (HO4.out.past g57 (by omega))
        have HG7 := Lib.hid (HG4.out.past g57 (Nat.le_refl _))
        have HT7 := Lib.hid T7
        have hbs : w3.heap.size + 1 < w7.heap.size := HO7.out.lt
        have HIL : Hid (i < L.length) := Lib.hid (by rw [HL3.out]; exact hi3)
        have hi0 : (0 : Int) ≤ (i : Int) := by omega
        have hi1 : (i : Int) < 3 := by omega
        have HB := Lib.hid (okG_at HOK.out HIL.out)
        clear T4 T5 T6 T7 g5 g6 g7 g57 HR4 HO4 HG4 d0 d1
        go_upto_if 44 with fail
        go_cut [4, 9, 10, 11, 12] from 44 to 98 (AccCut (w3.heap.size + 1) (w.heap.size + 1) w.heap.size w)
        case first =>
          by_cases hq : q7 = 0
          · subst hq
            by_cases hx : (L.getD i zG).c + k ≤ (L.getD i zG).l
            · have HX := Lib.hid hx
              clear hx
              go_wp2_with fail
              with_reducible refine (charge_p HR7.out HOK.out HIL.out k0 (by omega) HX.out).mono ?_
              rintro e w8 ⟨v8, rfl, R8, g8⟩
              obtain ⟨a8, cc8, rfl, -⟩ := R8.gps
              have hl8 : (chgL L i (k)).length = 3 := by rw [chgL_len, HL3.out]
              rw [hl8] at R8 ⊢
              have hne8 : (Value.slice a8 3 cc8).ownBlock ≠ some (w3.heap.size + 1) := fun e => by have := R8.above _ e; omega
              have R8' := R8.wider (show w.heap.size + 1 ≤ w7.heap.size by omega)
              have O8 := HO7.out.grew g8
              have T8 := HT7.out.grew g8
              have G8 := HG7.out.trans g8
              obtain ⟨-, g, ea, -, hg, y0, -, -⟩ := (HR7.out.grew g8).gat HIL.out
              subst ea
              have hc := (O8.cell i).trans (hv_at hi3)
              have hf := O8.frozen i
              have HV := Lib.hid (hv_chg (y := k) HIL.out HL3.out)
              have HL8 := Lib.hid hl8
              have HNE8 := Lib.hid hne8
              have hcb : 0 ≤ (L.getD i zG).c ∧ (L.getD i zG).c ≤ 64 := HB.out.2.2.2.2
              have hx9 := HX.out
              have HOK2 : Hid (okG (chgL L i (k)) = true) := Lib.hid (by have h9 := HB.out; unfold OkP at h9; exact ok_chg HOK.out HIL.out (by omega) (by omega))
              obtain ⟨ci, hci⟩ : ∃ ci, (L.getD i zG).c = ci := ⟨_, rfl⟩
              obtain ⟨li, hli⟩ : ∃ li, (L.getD i zG).l = li := ⟨_, rfl⟩
              rw [hci] at hc HV hcb hx9
              try rw [hli] at hx9
              rw [hli] at y0
              clear hci hli R8 hl8 hne8 g8 HB HX HR7 HO7 HG7 HT7 HNE
              generalize chgL L i (k) = M at *
              have hf8 : w8.frozen? ⟨w3.heap.size + 1, i, none⟩ = false := hf
              go_upto_region 10 with fail
              have n1 : IntKind.i64.wrap (ci + k) = ci + k := IntWalk.i64_in _ (by omega)
              have t1 : decide (ci + k ≤ li) = true := decide_eq_true hx9
              go_quiet (fail)
              revert nq; intro nq1
              have z1 : (w8.drewN nq1).cell? ⟨w3.heap.size + 1, i, none⟩ = some (.int .i64 ci) := hc
              have z2 : (w8.drewN nq1).frozen? ⟨w3.heap.size + 1, i, none⟩ = false := hf
              have R9 := R8'.drewN nq1
              have O9 := O8.drewN nq1
              have T9 := T8.drewN nq1
              have G9 := G8.drewN nq1
              clear hc hf hf8 y0 R8' O8 T8 G8
              generalize World.drewN w8 nq1 = w9 at *
              have l9 := O9.lt
              go_wp2_with fail
              go_meet
              have O10 := O9.set i (.int .i64 (ci + k))
              rw [HV.out] at O10
              exact ⟨M, a8, cc8, rfl, HOK2.out, HL8.out, R9.set (p := ⟨w3.heap.size + 1, i, none⟩) HNE8.out _, HNE8.out, O10, T9.set (p := ⟨w3.heap.size + 1, i, none⟩) (by show w.heap.size + 1 ≤ w3.heap.size + 1; omega) _, G9.set (p := ⟨w3.heap.size + 1, i, none⟩) (by show w.heap.size ≤ w3.heap.size + 1; omega) _⟩
            · have HX : Hid ((L.getD i zG).l < (L.getD i zG).c + k) := Lib.hid (Int.not_le.1 hx)
              clear hx
              go_wp2_with fail
              with_reducible refine (charge_no HR7.out HOK.out HIL.out k0 (by omega) (Int.not_le.2 HX.out)).mono ?_
              rintro e w8 ⟨rfl, g8⟩
              have R8 := HR7.out.grew g8
              have O8 := HO7.out.grew g8
              have T8 := HT7.out.grew g8
              have G8 := HG7.out.trans g8
              obtain ⟨-, g, ea, -, hg, y0, -, -⟩ := R8.gat HIL.out
              subst ea
              have hc := (O8.cell i).trans (hv_at hi3)
              have hcb : 0 ≤ (L.getD i zG).c ∧ (L.getD i zG).c ≤ 64 := HB.out.2.2.2.2
              have hx9 := HX.out
              obtain ⟨ci, hci⟩ : ∃ ci, (L.getD i zG).c = ci := ⟨_, rfl⟩
              obtain ⟨li, hli⟩ : ∃ li, (L.getD i zG).l = li := ⟨_, rfl⟩
              rw [hci] at hc hcb hx9
              try rw [hli] at hx9
              rw [hli] at y0
              clear hci hli g8 HB HX HR7 HO7 HG7 HT7
              go_upto_region 10 with fail
              have n1 : IntKind.i64.wrap (ci + k) = ci + k := IntWalk.i64_in _ (by omega)
              have t1 : decide (ci + k ≤ li) = false := decide_eq_false (by omega)
              go_quiet (fail)
              revert nq; intro nq1
              have R9 := R8.drewN nq1
              have O9 := O8.drewN nq1
              have T9 := T8.drewN nq1
              have G9 := G8.drewN nq1
              clear hc y0 R8 O8 T8 G8
              generalize World.drewN w8 nq1 = w9 at *
              go_wp2_with fail
              go_meet
              exact ⟨L, _, cc, rfl, HOK.out, HL3.out, R9, HNE.out, O9, T9, G9⟩
          · have hq2 : (q7 == 0) = false := by simp [hq]
            by_cases hx : k ≤ (L.getD i zG).c
            · have HX := Lib.hid hx
              clear hx hq
              go_wp2_with fail
              with_reducible refine (uncharge_p HR7.out HOK.out HIL.out k0 (by omega) HX.out).mono ?_
              rintro e w8 ⟨v8, rfl, R8, g8⟩
              obtain ⟨a8, cc8, rfl, -⟩ := R8.gps
              have hl8 : (chgL L i (-k)).length = 3 := by rw [chgL_len, HL3.out]
              rw [hl8] at R8 ⊢
              have hne8 : (Value.slice a8 3 cc8).ownBlock ≠ some (w3.heap.size + 1) := fun e => by have := R8.above _ e; omega
              have R8' := R8.wider (show w.heap.size + 1 ≤ w7.heap.size by omega)
              have O8 := HO7.out.grew g8
              have T8 := HT7.out.grew g8
              have G8 := HG7.out.trans g8
              obtain ⟨-, g, ea, -, hg, y0, -, -⟩ := (HR7.out.grew g8).gat HIL.out
              subst ea
              have hc := (O8.cell i).trans (hv_at hi3)
              have hf := O8.frozen i
              have HV := Lib.hid (hv_chg (y := -k) HIL.out HL3.out)
              have HL8 := Lib.hid hl8
              have HNE8 := Lib.hid hne8
              have hcb : 0 ≤ (L.getD i zG).c ∧ (L.getD i zG).c ≤ 64 := HB.out.2.2.2.2
              have hx9 := HX.out
              have HOK2 : Hid (okG (chgL L i (-k)) = true) := Lib.hid (by have h9 := HB.out; unfold OkP at h9; exact ok_chg HOK.out HIL.out (by omega) (by omega))
              obtain ⟨ci, hci⟩ : ∃ ci, (L.getD i zG).c = ci := ⟨_, rfl⟩
              obtain ⟨li, hli⟩ : ∃ li, (L.getD i zG).l = li := ⟨_, rfl⟩
              rw [hci] at hc HV hcb hx9
              try rw [hli] at hx9
              rw [hli] at y0
              clear hci hli R8 hl8 hne8 g8 HB HX HR7 HO7 HG7 HT7 HNE
              generalize chgL L i (-k) = M at *
              have l9 := O8.lt
              go_wp2_with fail
              go_meet
              have O10 := O8.set i (.int .i64 (ci - k))
              rw [Int.sub_eq_add_neg, HV.out, ← Int.sub_eq_add_neg] at O10
              exact ⟨M, a8, cc8, rfl, HOK2.out, HL8.out, R8'.set (p := ⟨w3.heap.size + 1, i, none⟩) HNE8.out _, HNE8.out, O10, T8.set (p := ⟨w3.heap.size + 1, i, none⟩) (by show w.heap.size + 1 ≤ w3.heap.size + 1; omega) _, G8.set (p := ⟨w3.heap.size + 1, i, none⟩) (by show w.heap.size ≤ w3.heap.size + 1; omega) _⟩
            · have HX : Hid ((L.getD i zG).c < k) := Lib.hid (Int.not_le.1 hx)
              clear hx hq
              go_wp2_with fail
              with_reducible refine (uncharge_no HR7.out HOK.out HIL.out k0 (by omega) (Int.not_le.2 HX.out)).mono ?_
              rintro e w8 ⟨rfl, g8⟩
              have R8 := HR7.out.grew g8
              have O8 := HO7.out.grew g8
              have T8 := HT7.out.grew g8
              have G8 := HG7.out.trans g8
              obtain ⟨-, g, ea, -, hg, y0, -, -⟩ := R8.gat HIL.out
              subst ea
              have hc := (O8.cell i).trans (hv_at hi3)
              have hcb : 0 ≤ (L.getD i zG).c ∧ (L.getD i zG).c ≤ 64 := HB.out.2.2.2.2
              have hx9 := HX.out
              obtain ⟨ci, hci⟩ : ∃ ci, (L.getD i zG).c = ci := ⟨_, rfl⟩
              obtain ⟨li, hli⟩ : ∃ li, (L.getD i zG).l = li := ⟨_, rfl⟩
              rw [hci] at hc hcb hx9
              try rw [hli] at hx9
              rw [hli] at y0
              clear hci hli g8 HB HX HR7 HO7 HG7 HT7
              go_wp2_with fail
              go_meet
              exact ⟨L, _, cc, rfl, HOK.out, HL3.out, R8, HNE.out, O8, T8, G8⟩
        case rest =>
          clear HR7 HO7 HG7 HT7 HB HIL
          obtain ⟨M, aM, cM, rfl, hokM, hlM, RM, hneM, OM, TM, GM⟩ := hcut
          obtain ⟨-, gM, ea, -, hgM, -, -, x0⟩ := RM.gat (k := 0) (by rw [hlM]; decide)
          obtain ⟨-, g', e1, -, -, -, -, x1⟩ := RM.gat (k := 1) (by rw [hlM]; decide)
          obtain ⟨-, g'', e2, -, -, -, -, x2⟩ := RM.gat (k := 2) (by rw [hlM]; decide)
          subst ea
          injection e1 with e1
          injection e1 with e1
          subst e1
          injection e2 with e2
          injection e2 with e2
          subst e2
          have HRM := Lib.hid RM
          have HOM := Lib.hid OM
          have HTM := Lib.hid TM
          have HGM := Lib.hid GM
          have HOKM := Lib.hid hokM
          have HLM := Lib.hid hlM
          have HNEM := Lib.hid hneM
          obtain ⟨h0, h1, h2, -, -, -⟩ := OM.three
          replace x0 := (show World.cell? _ ⟨gM, 2, none⟩ = some (Value.int .i64 (M.getD 0 zG).c) from x0)
          replace x1 := (show World.cell? _ ⟨gM, 5, none⟩ = some (Value.int .i64 (M.getD 1 zG).c) from x1)
          replace x2 := (show World.cell? _ ⟨gM, 8, none⟩ = some (Value.int .i64 (M.getD 2 zG).c) from x2)
          generalize (M.getD 0 zG).c = m0 at *
          generalize (M.getD 1 zG).c = m1 at *
          generalize (M.getD 2 zG).c = m2 at *
          have p0 : (m0 != m0) = false := by simp
          have p1 : (m1 != m1) = false := by simp
          have p2 : (m2 != m2) = false := by simp
          clear RM OM TM GM hokM hlM hneM
          go_upto_region 21 with fail
          go_quiet (fail)
          revert nq; intro nq1
          go_wp2_with fail
          go_roundw
          case rel => exact ⟨n + 1, by go_num, by omega, M, _, cM, rfl, HOKM.out, HLM.out, HRM.out.drewN nq1, HNEM.out, HOM.out.drewN nq1, HTM.out.drewN nq1, HGM.out.drewN nq1⟩
          case measure => simp [intOf] <;> omega
      · go_wp2_with fail
        with_reducible refine (awake_any _).mono ?_
        rintro e w5 ⟨rfl, g5⟩
        go_wp2
        go_ret
        exact ⟨rfl, HG4.out.trans g5⟩
    · obtain rfl : n = 30 := by omega
      rw [show ((30 : Nat) : Int) = 30 from rfl]
      go_wp2_with fail
      with_reducible refine (awake_any _).mono ?_
      rintro e w5 ⟨rfl, g5⟩
      go_wp2
      go_ret
      exact ⟨rfl, G.trans g5⟩

theorem Try.own : ownKnob Try.prog.godebug = none := by kernel_rfl
theorem Try.laidOut : laidOutB Try.prog = true := by kernel_rfl

theorem groupAccounts_contract (W : World) (base : Nat) (args : Array Value) (H : Type) (enc : TypeId × Value → H) (ds : List (DataW H)) (p : List MemPlace)
    (hval : ∀ (j : Nat) t v, Try.f4.params[j]? = some t → args[j]? = some v → Value.okWide Try.prog W .any base t v)
    (hA : DataW.TrodAll enc Try.prog W 0 (fun _ => true) true Try.f4.params.toList args.toList ds p) :
    (∃ d0, ds = [d0]) ∧ Calls Try.prog 4 args W fun e W' => e = .returned (.bool true) ∧ Below W.heap.size W W' := by
  rw [Try.params4] at hval hA
  obtain ⟨v0, d0, p0, ha, hd, hp, h0⟩ := args_1 hA
  subst ha hd
  obtain ⟨A0, c0, xs0, rfl, hr0, hm0⟩ := open_introw Try.underlying22 Try.underlying3 (by kernel_rfl) (hval 0 _ _ rfl rfl) h0
  exact ⟨⟨_, rfl⟩, (gacc_core A0 c0 xs0 W hr0 hm0).mono fun _ _ h => h⟩

set_option maxRecDepth 100000 in
theorem groupAccounts_lifted (os : Os) (started : os.Started) (H : Type) (enc : TypeId × Value → H) :
    ReturnsInHanded {} Try.checked os 4 .any (Rows.groupAccountsSpec.pre6 enc Try.prog Try.f4 Rows.groupAccountsRow.domain false) (Rows.groupAccountsSpec.post enc Try.prog Try.f4 false true false false) := by
  refine returnsInHanded_of_change (C := Try.checked) Try.own started (by kernel_rfl) Try.func4
    (ChangeSpec.witness6 (enc := enc) (C := Try.checked) false ⟨#[], #[.slice none 0 0], []⟩ 8 (by kernel_rfl) (by kernel_rfl) (by kernel_rfl) (by kernel_rfl)) ?_
  intro W base args ds gs before hval hW _ _
  obtain ⟨p, q, hA, hV, hrest⟩ := id hW
  obtain ⟨⟨d0, rfl⟩, hc⟩ := groupAccounts_contract W base args H enc ds p hval hA
  obtain ⟨rfl, -⟩ := trodVars_none hV
  refine hc.mono fun e W' ⟨he, hb⟩ => ⟨_, he, ?_⟩
  exact law_close (tb := 4) Try.laidOut (by rw [Try.params4]; decide +kernel) Try.underlying4 rfl rfl hW rfl rfl rfl hb

theorem groupAccounts_holds : Rows.GroupAccountsSaid :=
  OpenClaim.holds_of_wide 4 Try.f4 rfl rfl rfl rfl rfl rfl rfl ⟨rfl, rfl, rfl, rfl, rfl⟩ rfl rfl rfl rfl rfl (by kernel_rfl) Try.func4 (by kernel_rfl)
    (of_decide_eq_true (by kernel_rfl)) (by unfold Func.isWrapper; first | (rw [if_pos (by decide +kernel)]; kernel_rfl) | (rw [if_neg (by decide +kernel)]; exact ⟨rfl, rfl⟩))
    (fun os started H enc _ => groupAccounts_lifted os started H enc)
end Go.Proofs.Ytgcblkibnihplaa

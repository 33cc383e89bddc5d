/- ReadaheadReader holds: a sequential reader that is sure has each page ahead before it reaches it, none twice and none behind the end. -/
import Derived.Test.YtfljohgcbihhbaaDoorRa10
import Derived.Test.YtfljohgcbihhbaaDoorRdM
import Derived.Test.YtfljohgcbihhbaaDoorMapSet
import Derived.Deep.RegionHeld3
import Derived.Test.YtfljohgcbihhbaaDoorCards
import Derived.Test.YtfljohgcbihhbaaDoorTie
import Derived.ProofKit
import Derived.OpenShut
import Derived.SevenTiedAt
import Derived.Stop.Joined
namespace Go.Proofs.YtfljohgcbihhbaaDoor
open Go.ChangeShapes Go.WideShapes Go.ChangeAt Go.RowKit Go.Mine

theorem zeroE (w : World) : (zeroValue 4).run Tryd.prog w = .ok (.bool false) w := by kernel_rfl
abbrev Ahd (w : World) (b n : Nat) (f : Int → Bool) (sz : Nat) : Prop := BSet Tryd.prog 3 4 w b n f sz
/-- What is kept from access to access. -/
def RdRel (w : World) (sw sm : Nat) (en cn : Int) (v5 v7 v10 : Value) (wr : World) : Prop :=
  ∃ (p : Int) (L : List Str) (x : Wn) (sb : Bool) (f : Int → Bool) (N sz : Nat) (r : Value), r = v7 ∧ v5 = .int .i64 p ∧ v10 = .bool sb ∧ p ≤ en ∧ RdSt en cn p L x sb f ∧ RowN 29 wr (sm + 1) r L ∧
    Own wr sw 32 (csW x) ∧ Ahd wr sm N f sz ∧ (N : Int) ≤ 8 * p ∧ Grew w wr
/-- What stands behind the Plan of an access. -/
def RdCut (w : World) (g sw sm : Nat) (z : Str) (x x' : Wn) (PL : List Int) (N sz : Nat) (f : Int → Bool) (vL : Value) (v16 v17 v18 : Value) (wx : World) : Prop :=
  ∃ (h : Nat) (r : Value), v16 = .pointer (some ⟨h, 0, none⟩) ∧ r = v17 ∧ v18 = .int .i64 0 ∧ sm < h ∧ Own wx h 32 (csW x') ∧ RowE 3 1 enc1 wx (sm + 1) r PL ∧ ElS wx g 0 z ∧ g < wx.heap.size ∧
    RowN 29 wx (sm + 1) vL [z] ∧ Own wx sw 32 (csW x) ∧ Ahd wx sm N f sz ∧ Grew w wx
theorem ElS.zero {w : World} {g : Nat} {z : Str} (h : ElS w g 0 z) : w.cell? ⟨g, 0, none⟩ = some (.int .i64 z.k) ∧ w.cell? ⟨g, 1, none⟩ = some (.int .i64 z.a) ∧ w.cell? ⟨g, 2, none⟩ = some (.int .i64 z.b) ∧ w.cell? ⟨g, 3, none⟩ = some (.int .i64 z.d) ∧ w.cell? ⟨g, 4, none⟩ = some (.int .i64 z.h) ∧ w.cell? ⟨g, 5, none⟩ = some (.int .i64 z.t) := h
theorem rowI_at {w : World} {B n c k : Nat} {a : Option Addr} {L : List Int} (h : RowE 3 1 enc1 w B (.slice a n c) L) (hk : k < L.length) : ∃ g, a = some ⟨g, 0, none⟩ ∧ w.cell? ⟨g, k, none⟩ = some (.int .i64 (L.getD k 0)) := by
  obtain ⟨a', n', c', e, hn, hv⟩ := h.ints
  injection e with e1 e2 e3
  subst e1
  obtain ⟨g, hg, -, -, hc⟩ := hv k (by omega)
  exact ⟨g, hg, hc⟩
set_option maxRecDepth 100000 in
set_option maxHeartbeats 4000000 in
theorem reader_core (A : Option Addr) (c : Nat) (xs : List Int) (w : World) (hr : IntRow w A xs) (hm : xs.length ≤ maxLen) (hZ : Sz w) :
    Calls Tryd.prog 4 #[.slice A xs.length c] w (RetG (.bool true) w) := by
  have tp := Tp.made hr hm c 25
  clear hr
  generalize hX : xs.length = X at *
  clear hX
  have hmm := @run_makeMap Tryd.prog
  have HMM := Lib.hid hmm
  go_enter Tryd.func4, Tryd.ntmps4
  go_wp2_with fail
  have G0 : w.grownBy (w.alloc (.cells #[.slice A X c, .int .i64 0] 25)) (some w.heap.size) := grown_alloc (grown_refl _ _) _
  generalize World.alloc w _ = w0 at *
  have hsz0 : w.heap.size + 1 ≤ w0.heap.size := tp.lt
  with_reducible refine (next_x _ _ _ _ (by omega) (by omega) tp).mono ?_
  rintro e w1 ⟨n1, a0, a1, rfl, T1, g1⟩
  have G1 := (Grew.refl w).past (grown_trans G0 g1) (Nat.le_refl _)
  clear tp G0 g1 hsz0 w0
  go_wp2_with fail
  with_reducible refine (next_x _ _ _ _ (by omega) (by omega) T1).mono ?_
  rintro e w2 ⟨n2, b0, b1, rfl, T2, g2⟩
  have G2 := G1.past g2 (Nat.le_refl _)
  clear T1 G1 g2
  go_wp2_with fail
  with_reducible refine (next_x _ _ _ _ (by omega) (by omega) T2).mono ?_
  rintro e w3 ⟨n3, c0, c1, rfl, T3, g3⟩
  have G3 := G2.past g3 (Nat.le_refl _)
  clear T2 G2 g3 T3
  obtain ⟨en, hen⟩ : ∃ en, 4 + n1 = en := ⟨_, rfl⟩
  obtain ⟨cn, hcn⟩ : ∃ cn, 1 + n3 = cn := ⟨_, rfl⟩
  obtain ⟨sw, hsw⟩ : ∃ sw, w3.heap.size = sw := ⟨_, rfl⟩
  have hws : w.heap.size ≤ sw := by rw [← hsw]; exact G3.size
  have W0 : Own ((w3.alloc (.cells z3 32)).alloc (.map #[] 0)) sw 32 (csW zW) := hsw ▸ (Own.new w3 _ _).alloc _
  have M0 : Ahd ((w3.alloc (.cells z3 32)).alloc (.map #[] 0)) (sw + 1) 0 (fun _ => false) 0 := by
    have h := BSet.made (w3.alloc (.cells z3 32)) Tryd.prog 3 4
    rw [World.size_alloc, hsw] at h
    exact h
  have G4 : Grew w ((w3.alloc (.cells z3 32)).alloc (.map #[] 0)) := (G3.alloc _).alloc _
  clear G3
  go_wp2_with fail
  go_loopw [5, 7, 10] (RdRel w sw (sw + 1) en cn) (fun v5 _ _ _ => (en - intOf v5).toNat)
  case atStart =>
    clear hmm HMM
    exact ⟨n2, [], zW, false, fun _ => false, 0, 0, _, rfl, rfl, rfl, by omega, ⟨by omega, .inl ⟨rfl, rfl, rfl⟩, .inl ⟨rfl, rfl, rfl, fun _ => rfl⟩⟩, ⟨RowE.nil _ _, fun _ => rfl⟩, W0, M0, by omega, G4⟩
  case round =>
    clear hmm HMM W0 M0 G4
    obtain ⟨p, L, x, sb, f, N, sz, r, rfl, rfl, rfl, hpe, hR, R, W, M, hN, G⟩ := hrel
    obtain ⟨wo, rfl⟩ : ∃ wo : World, wo = wr := ⟨_, rfl⟩
    by_cases hlt : p < en
    · obtain ⟨tt, htt⟩ : ∃ tt, min (p + cn) en = tt := ⟨_, rfl⟩
      have hp0 : 0 ≤ p := hR.1
      obtain ⟨er0, fi0, z, hfl, hz, hk, hb, ht, hh, hs⟩ := rd_feed hR (show p < tt by omega) (show tt ≤ 63 by omega)
      obtain ⟨hpe0, hah, S, m, hPL, hm8, hS, hSm, hfS, hR2⟩ := rd_plan hR hlt (by omega) (by omega) (by omega) htt.symm hz hk hb ht hh hs
      obtain ⟨hmi, hln⟩ := rd_milds hR
      obtain ⟨x', hx'⟩ : ∃ x', plW x z p tt en = x' := ⟨_, rfl⟩
      rw [hx'] at hR2
      have htt1 : tt ≤ en := by omega
      have htt0 : p < tt := by omega
      have E0 := Lib.hid er0
      have F0 := Lib.hid fi0
      have FL := Lib.hid hfl
      have ZR := Lib.hid hz
      have PE := Lib.hid hpe0
      have AH := Lib.hid hah
      have PL := Lib.hid hPL
      have XW := Lib.hid hx'
      have FS := Lib.hid hfS
      have R2 := Lib.hid hR2
      have MI := Lib.hid hmi
      have TT := Lib.hid htt
      have SM := Lib.hid hSm
      have HRW := Lib.hid R
      have HM := Lib.hid M
      have HG := Lib.hid G
      have HLN := Lib.hid hln
      clear er0 fi0 hfl hz hk hb ht hh hs hpe0 hah hPL hx' hfS hR2 hmi htt hSm R M G hln hR
      go_upto_region 10 with fail
      rw [show (if en < p + cn then en else p + cn) = tt from by have := TT.out; split <;> omega]
      obtain ⟨wv, hwv⟩ : ∃ wv : World, wv = wo := ⟨_, rfl⟩
      go_wp2_with fail
      with_reducible refine (feed_L _ _ _ _ HRW.out HLN.out MI.out FL.out F0.out E0.out).mono ?_
      rintro e w5 ⟨v5, rfl, R5, g5⟩
      have hsm : sw + 1 < wo.heap.size := HM.out.lt
      obtain ⟨a, c5, rfl, -⟩ := R5.rd
      obtain ⟨g, hag, hgB, hg, he⟩ := rowN_at R5 (p := 0) (by simp)
      subst hag
      rw [show ([z] : List Str).getD 0 zS = z from rfl] at he
      have HR5 := Lib.hid (R5.wider (show sw + 1 + 1 ≤ wo.heap.size from hsm))
      have HW5 := Lib.hid (HRW.out.grew g5)
      replace W := W.grew g5
      replace HM := Lib.hid (HM.out.grew g5)
      replace HG := Lib.hid (HG.out.trans g5)
      have HE := Lib.hid he
      have hgs : sw + 1 < g := by omega
      clear R5 g5 hsm HRW hwv wv he hgB HLN MI FL F0 E0
      rw [show ([z] : List Str).length = 1 from rfl]
      go_wp2_with fail
      go_loopw [15] (fun iv wr => ∃ j : Int, iv = .int .i64 j ∧ p ≤ j ∧ j ≤ tt ∧ w5 = wr) (fun iv _ => (tt - intOf iv).toNat)
      case atStart => exact ⟨p, rfl, Int.le_refl _, by omega, rfl⟩
      case round =>
        obtain ⟨j, rfl, hj0, hj1, rfl⟩ := hrel
        by_cases hjt : j < tt
        · cases sb
          · go_wp2
            go_roundw
            case rel => exact ⟨j + 1, by go_num, by omega, by omega, by first | rfl | trivial⟩
            case measure => simp [intOf]; omega
          · have hl := HM.out.look Tryd.underlying3 Tryd.underlying4 Tryd.underlying43 (zeroE _) (x := j) (WalkArith.wf_i64 (by omega))
            rw [AH.out rfl j hj0 hjt] at hl
            go_wp2
            go_roundw
            case rel => exact ⟨j + 1, by go_num, by omega, by omega, by first | rfl | trivial⟩
            case measure => simp [intOf]; omega
        · have hje : tt = j := by omega
          subst hje
          clear hj0 hj1 hjt hgs
          obtain ⟨p0, p1, p2, p3, p4, p5⟩ := ElS.zero HE.out
          obtain ⟨q0, q1, q2, q3, q4, q5⟩ := W.three
          have HG5 := Lib.hid hg
          have HWW := Lib.hid W
          have hsm5 : sw + 1 < w5.heap.size := HM.out.lt
          have MZ := Lib.hid (rgt_mild ZR.out)
          clear hg W HW5
          go_upto_region 18 with fail
          go_cut [16, 17, 18] from 74 to 92 (RdCut w g sw (sw + 1) z x x' (runL S m) N sz f (.slice (some ⟨g, 0, none⟩) 1 c5))
          case first =>
            go_region_held3 (fun w' => w'.cell? ⟨sw, 0, none⟩ = some (.int .i64 x.s) ∧ w'.cell? ⟨sw, 1, none⟩ = some (.int .i64 x.n) ∧ w'.cell? ⟨sw, 2, none⟩ = some (.int .i64 x.y) ∧ w'.cell? ⟨g, 0, none⟩ = some (.int .i64 z.k) ∧ w'.cell? ⟨g, 1, none⟩ = some (.int .i64 z.a) ∧ w'.cell? ⟨g, 2, none⟩ = some (.int .i64 z.b) ∧ w'.cell? ⟨g, 3, none⟩ = some (.int .i64 z.d) ∧ w'.cell? ⟨g, 4, none⟩ = some (.int .i64 z.h) ∧ w'.cell? ⟨g, 5, none⟩ = some (.int .i64 z.t))
              (refine ⟨?_, ?_, ?_, ?_, ?_, ?_, ?_, ?_, ?_⟩ <;> (repeat (first | with_reducible assumption | with_reducible refine far_drew ?_ | with_reducible refine far_alloc ?_ | with_reducible refine far_cell ne1 ?_ | with_reducible refine far_cell ne2 ?_)))
              (first
                | (go_at_call 9
                   first
                    | (have k1 : Grew w5 w5.drew := (Grew.refl w5).drew
                       (with_reducible refine (plan_q x z p tt en _ MZ.out (hZ.grew (HG.out.trans k1)) XW.out PL.out PE.out).mono ?_))
                    | (have k1 : Grew w5 (w5.alloc (.cells z3 32)).drew := ((Grew.refl w5).alloc _).drew
                       have O1 := (Own.new w5 32 z3).drew
                       (with_reducible refine (plan_q x z p tt en _ MZ.out (hZ.grew (HG.out.trans k1)) XW.out PL.out PE.out).mono ?_))
                   rintro e w8 ⟨vp, rfl, RP, g8⟩
                   have RP1 := Lib.hid RP
                   have k2 := k1.trans g8
                   have E8 := HE.out.grew k2 HG5.out
                   have W8 := HWW.out.grew k2
                   have ne1 : w5.heap.size ≠ g := (by have := HG5.out; omega)
                   have ne2 : w5.heap.size ≠ sw := (by omega)
                   have K2 := Lib.hid k2
                   have K8 := Lib.hid g8
                   clear RP g8 p0 p1 p2 p3 p4 p5 q0 q1 q2 q3 q4 q5 k1 k2
                   obtain ⟨p0, p1, p2, p3, p4, p5⟩ := ElS.zero E8
                   obtain ⟨q0, q1, q2, q3, q4, q5⟩ := W8.three
                   first
                    | (with_reducible replace O1 := O1.grew K8.out
                       obtain ⟨o0, o1, o2, o3, o4, o5⟩ := O1.three)
                    | skip))
            all_goals go_wp2
            all_goals go_meet
            · have k := K2.out.trans ((Grew.refl w8).alloc (.cells (csW x') 32))
              have hs8 : w5.heap.size ≤ w8.heap.size := K2.out.size
              exact ⟨_, _, rfl, rfl, rfl, by omega, Own.new w8 _ _, (RP1.out.grew ((Grew.refl w8).alloc (.cells (csW x') 32))).wider (show sw + 1 + 1 ≤ w5.heap.size from hsm5), HE.out.grew k HG5.out, Nat.lt_of_lt_of_le HG5.out k.size, HR5.out.grew k, HWW.out.grew k, HM.out.grew k, HG.out.trans k⟩
            · generalize hw14 : World.setCell _ _ _ = wx
              have k := K2.out.far3 hw14 (Nat.le_refl _)
              exact ⟨_, _, rfl, rfl, rfl, hsm5, O1.store3 hw14, (RP1.out.far3 hw14 (by show w5.heap.size < (w5.alloc (.cells z3 32)).heap.size; rw [World.size_alloc]; omega)).wider (show sw + 1 + 1 ≤ (w5.alloc (.cells z3 32)).heap.size by rw [World.size_alloc]; omega), HE.out.grew k HG5.out, Nat.lt_of_lt_of_le HG5.out k.size, HR5.out.grew k, HWW.out.grew k, HM.out.grew k, HG.out.trans k⟩
          case rest =>
            clear HE HG5 HR5 HWW HM HG p0 p1 p2 p3 p4 p5 q0 q1 q2 q3 q4 q5 hsm5
            obtain ⟨h, r', rfl, rfl, rfl, hsh, O, RP, HE, hg, HR5, W, M, G⟩ := hcut
            obtain ⟨ap, cp, rfl⟩ := RP.len
            rw [runL_len] at RP ⊢
            have HO := Lib.hid O
            have HRP := Lib.hid RP
            have HE2 := Lib.hid HE
            have HR6 := Lib.hid HR5
            have HW6 := Lib.hid W
            have HM6 := Lib.hid M
            have HG6 := Lib.hid G
            have m8 : (m : Int) ≤ 8 := by omega
            clear O RP HE HR5 W M G PE MZ XW PL
            go_wp2_with fail
            go_loopw [19] (fun iv wr => ∃ (j sz : Nat), iv = .int .i64 j ∧ j ≤ m ∧ Ahd wr (sw + 1) (N + j) (addF f S j) sz ∧ RowE 3 1 enc1 wr (sw + 1 + 1) (.slice ap m cp) (runL S m) ∧ RowN 29 wr (sw + 1 + 1) (.slice (some ⟨g, 0, none⟩) 1 c5) [z] ∧
              Own wr sw 32 (csW x) ∧ Own wr h 32 (csW x') ∧ Grew w wr) (fun iv _ => m - (intOf iv).toNat)
            case atStart => exact ⟨0, sz, rfl, by omega, by rw [addF_zero]; exact HM6.out, HRP.out, HR6.out, HW6.out, HO.out, HG6.out⟩
            case round =>
              clear HO HRP HE2 HR6 HW6 HM6 HG6
              obtain ⟨j, sz2, rfl, hj, M, RP, R, W, O, G⟩ := hrel
              obtain ⟨wi, rfl⟩ : ∃ wi : World, wi = wr := ⟨_, rfl⟩
              by_cases hjm : j < m
              · have hrp := rowI_at RP (k := j) (by rw [runL_len]; exact hjm)
                rw [runL_at hjm] at hrp
                obtain ⟨gp, rfl, x0⟩ := hrp
                have hfj := FS.out j hjm
                have hSe := SM.out (by omega)
                obtain ⟨pg, hpg⟩ : ∃ pg, S + (j : Int) = pg := ⟨_, rfl⟩
                have hwf : (Lit.int .i64 pg).wf = true := WalkArith.wf_i64 (by omega)
                have hl := M.look Tryd.underlying3 Tryd.underlying4 Tryd.underlying43 (zeroE _) (x := pg) hwf
                rw [show addF f S j pg = false from by unfold addF; rw [← hpg, hfj]; exact decide_eq_false (by omega)] at hl
                obtain ⟨w6, hst, M6, g6⟩ := BSet.store M Tryd.underlying3 Tryd.underlying4 Tryd.underlying43 (by unfold maxLen; omega) (x := pg) hwf
                rw [hpg] at x0 hfj
                have M7 := Lib.hid (BSet.congr M6 (g := addF f S (j + 1)) (fun y _ => by rw [← hpg]; exact addF_succ f S j y) rfl)
                have R7 := Lib.hid (R.past g6 (by omega))
                have RP7 := Lib.hid (RP.past g6 (by omega))
                have W7 := Lib.hid (W.past g6 (by omega))
                have O7 := Lib.hid (O.past g6 (by omega))
                have G7 := Lib.hid (G.past g6 (by omega))
                have i0 : (0 : Int) ≤ (j : Int) := by omega
                have i1 : (j : Int) < (m : Int) := by omega
                have q0 : tt ≤ pg := by omega
                have q1 : pg < en := by omega
                have q2 : ¬pg < tt := by omega
                have q3 : ¬en ≤ pg := by omega
                clear M RP R W O G M6 g6 hfj hpg hSe
                go_wp2
                go_roundw
                case rel => exact ⟨j + 1, _, by go_num, by omega, M7.out, RP7.out, R7.out, W7.out, O7.out, G7.out⟩
                case measure => simp [intOf]; omega
              · have hje : m = j := by omega
                subst hje
                obtain ⟨g', hg', -, hg2, he⟩ := rowN_at R (p := 0) (by simp)
                injection hg' with hg'
                injection hg' with hg'
                subst hg'
                rw [show ([z] : List Str).getD 0 zS = z from rfl] at he
                have hgw : sw < wi.heap.size := W.lt
                have hnw : h ≠ sw := by omega
                obtain ⟨o0, o1, o2, o3, o4, o5⟩ := O.three
                obtain ⟨y0, y1, y2, y3, y4, y5⟩ := W.three
                have HE := Lib.hid he
                have HM := Lib.hid M
                have HRr := Lib.hid R
                have HW := Lib.hid W
                have HGw := Lib.hid G
                have HG2 := Lib.hid hg2
                clear M RP R W O G he hg2
                go_upto_region 27 with fail
                go_region
                go_upto_region 28 with fail
                generalize hw14 : World.setCell (World.setCell (World.setCell wi _ _) _ _) _ _ = wx
                have gx : wi.grownBy wx (some sw) := by
                  rw [← hw14]
                  exact grown_set (p := ⟨sw, 2, none⟩) (grown_set (p := ⟨sw, 1, none⟩) (grown_set (p := ⟨sw, 0, none⟩) (grown_refl _ _) (.inl rfl) _) (.inl rfl) _) (.inl rfl) _
                have R8 : RowN 29 wx (sw + 1 + 1) (.slice (some ⟨g, 0, none⟩) 1 c5) [z] := HRr.out.past gx (by omega)
                have W8 := HW.out.store3 hw14
                have M8 : Ahd wx (sw + 1) (N + m) (addF f S m) sz2 := BSet.kept HM.out gx (fun e => by injection e with e; omega)
                have G8 := HGw.out.past gx hws
                obtain ⟨g', hg', -, hg2, he⟩ := rowN_at R8 (p := 0) (by simp)
                injection hg' with hg'
                injection hg' with hg'
                subst hg'
                rw [show ([z] : List Str).getD 0 zS = z from rfl] at he
                obtain ⟨bs, hbs⟩ : ∃ bs, sureB z = bs := ⟨_, rfl⟩
                have BS := Lib.hid hbs
                clear hbs hg2 HE HM HRr HW HGw HG2 gx hw14 o0 o1 o2 o3 o4 o5 y0 y1 y2 y3 y4 y5
                have R9 := Lib.hid (RowN.drew R8)
                have W9 := Lib.hid (Own.drew W8)
                have M9 := Lib.hid (BSet.drewN M8 1)
                have G9 := Lib.hid (Grew.drew G8)
                clear R8 W8 M8 G8
                obtain ⟨p0, p1, p2, p3, p4, p5⟩ := ElS.zero (show ElS wx.drew g 0 z from he)
                clear he
                go_wp2_with fail
                with_reducible refine (sure_q z _ (rgt_mild ZR.out) BS.out).mono ?_
                rintro e w9 ⟨rfl, g9⟩
                clear p0 p1 p2 p3 p4 p5
                go_wp2
                go_roundw
                case rel =>
                  refine ⟨tt, [z], x', bs, addF f S m, N + m, sz2, _, rfl, rfl, rfl, htt1, by rw [← BS.out]; exact R2.out, R9.out.grew g9, W9.out.grew g9, BSet.grew (show Ahd wx.drew (sw + 1) (N + m) (addF f S m) sz2 from M9.out) g9, by omega, G9.out.trans g9⟩
                case measure => simp [intOf]; omega
    · go_wp2_with fail
      with_reducible refine (awake_any _ (hZ.grew G)).mono ?_
      rintro e w5 ⟨rfl, g5⟩
      go_wp2
      go_ret
      exact ⟨rfl, G.trans g5⟩

theorem Tryd.own : ownKnob Tryd.prog.godebug = none := by kernel_rfl
theorem Tryd.laidOut : laidOutB Tryd.prog = true := by kernel_rfl

theorem readaheadReader_contract (W : World) (base : Nat) (args : Array Value) (H : Type) (enc : TypeId × Value → H) (ds : List (DataW H)) (p : List MemPlace)
    (hval : ∀ (j : Nat) t v, Tryd.f4.params[j]? = some t → args[j]? = some v → Value.okWide Tryd.prog W .any base t v)
    (hA : DataW.TrodAll enc Tryd.prog W 0 (fun _ => true) true Tryd.f4.params.toList args.toList ds p) (hL : laidMetH Tryd.prog [("pagecache/readahead.sizes", Rows.laid_pagecache_readahead_sizes)] W) :
    (∃ d0, ds = [d0]) ∧ Calls Tryd.prog 4 args W fun e W' => e = .returned (.bool true) ∧ Below W.heap.size W W' := by
  rw [Tryd.params4] at hval hA
  obtain ⟨v0, d0, p0, ha, hd, hp, h0⟩ := args_1 hA
  subst ha hd
  obtain ⟨A0, c0, xs0, rfl, hr0, hm0⟩ := open_introw Tryd.underlying22 Tryd.underlying3 (by kernel_rfl) (hval 0 _ _ rfl rfl) h0
  exact ⟨⟨_, rfl⟩, (reader_core A0 c0 xs0 W hr0 hm0 (of_laid hL)).mono fun _ _ h => h⟩

set_option maxRecDepth 100000 in
theorem readaheadReader_lifted (os : Os) (started : os.Started) (H : Type) (enc : TypeId × Value → H) :
    ReturnsInHanded {} Tryd.checked os 4 .any (fun w args => (Rows.readaheadReaderSpec.pre enc Tryd.prog Tryd.f4 Rows.readaheadReaderRow.domain false w args ∧ laidMetH Tryd.prog [("pagecache/readahead.sizes", Rows.laid_pagecache_readahead_sizes)] w) ∧ sizedMet enc Tryd.prog Tryd.f4 (OpenSpec.ofChange Rows.readaheadReaderSpec) false w args)
      (Rows.readaheadReaderSpec.post enc Tryd.prog Tryd.f4 false true false false) := by
  refine returnsInHanded_of_change_and (C := Tryd.checked) (X := fun w _ => laidMetH Tryd.prog [("pagecache/readahead.sizes", Rows.laid_pagecache_readahead_sizes)] w) (fun _ _ _ hh h => h.of_heap hh) Tryd.own started (by kernel_rfl) Tryd.func4
    (ChangeSpec.witness_shaped (enc := enc) (C := Tryd.checked) (os := os) (X := fun w _ => laidMetH Tryd.prog [("pagecache/readahead.sizes", Rows.laid_pagecache_readahead_sizes)] w) false (World.laidAll Tryd.prog os [("pagecache/readahead.sizes", Rows.laid_pagecache_readahead_sizes)]) #[.slice none 0 0] 8 (World.laidAll_os _ _ _)
      (World.shaped_of_ZipB (by kernel_rfl) (by kernel_rfl)) (by kernel_rfl) (by kernel_rfl) (by kernel_rfl)
      (by rw [MakeChecks.laidMetH_plain _ _ _ (by kernel_rfl)]; exact laidMet_laidAll _ (by kernel_rfl) (by kernel_rfl))) ?_
  intro W base args ds gs before hval hW _ _ hL _
  obtain ⟨p, q, hA, hV, hrest⟩ := id hW
  obtain ⟨⟨d0, rfl⟩, hc⟩ := readaheadReader_contract W base args H enc ds p hval hA hL
  obtain ⟨rfl, -⟩ := trodVars_none hV
  refine hc.mono fun e W' ⟨he, hb⟩ => ⟨_, he, ?_⟩
  exact law_close (tb := 4) Tryd.laidOut (by rw [Tryd.params4]; decide +kernel) Tryd.underlying4 rfl rfl hW rfl rfl rfl hb

theorem readaheadReader_holds : Rows.ReadaheadReaderSaid :=
  OpenClaim.holds_of_wide 4 Tryd.f4 rfl rfl rfl rfl rfl rfl rfl ⟨rfl, rfl, rfl, rfl, rfl⟩ rfl rfl rfl rfl rfl (by kernel_rfl) Tryd.func4 (by kernel_rfl)
    (of_decide_eq_true (by kernel_rfl)) (by unfold Func.isWrapper; first | (rw [if_pos (by decide +kernel)]; kernel_rfl) | (rw [if_neg (by decide +kernel)]; exact ⟨rfl, rfl⟩))
    (fun os started H enc _ => readaheadReader_lifted os started H enc)
theorem readaheadReader_card : Rows.ReadaheadReaderCardSaid :=
  Claim7.holds_tied_plain_at .later [] [.data] true (true, "bbe472f733f79f83881be3010bf559a9cc438f3dc1f5b568f2096c7ff7523005") false readaheadReader_holds (fun _ h => by cases h) (by kernel_rfl) (fun _ h => by cases h) readaheadReader_row_tie rfl ⟨rfl, rfl⟩ (by kernel_rfl) rfl
    (fun f fn hf hfn => by
      obtain rfl : f = 4 := Option.some.inj ((show Tryd.prog.funcNamed "pagecache/pagecachelaw07.ReadaheadReader" = some 4 by kernel_rfl).symm.trans hf) |>.symm
      obtain rfl : fn = Tryd.f4 := (Option.some.inj (Tryd.func4.symm.trans hfn)).symm
      exact ⟨by kernel_rfl, fun j t ht => by
        rw [Tryd.params4] at ht
        have hm : t ∈ [22] := by simpa using Array.mem_of_getElem? ht
        have hall : ([22].all fun u => !Tryd.prog.wantsStandIn u) = true := by kernel_rfl
        exact (show Tryd.prog.wantsStandIn t = false by simpa using List.all_eq_true.1 hall t hm)⟩)
    (by kernel_rfl)
end Go.Proofs.YtfljohgcbihhbaaDoor

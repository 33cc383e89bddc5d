/- Dirty files by age (layer 15): the package is awake; a drawn list. -/
import Derived.Test.YtmdechoajmbhoaaAg5
import Derived.Test.YtmdechoajmbhoaaOdd
namespace Go.Mine
open Go Go.RowKit
theorem RowE.p2len {T : TypeId} {w : World} {B : Nat} {a : Option Addr} {n c : Nat} {L : List Du} (h : RowE T 2 enc2 w B (.slice a n c) L) : n = L.length := by
  obtain ⟨a', c', e⟩ := h.len
  injection e
/-- A whole pair is stored. -/
theorem RowE.put2 {T : TypeId} {w : World} {B g n c k : Nat} {L : List Du} (h : RowE T 2 enc2 w B (.slice (some ⟨g, 0, none⟩) n c) L) (hk : k < L.length) (x y : Int) :
    RowE T 2 enc2 ((w.setCell ⟨g, k * 2, none⟩ (.int .i64 x)).setCell ⟨g, k * 2 + 1, none⟩ (.int .i64 y)) B (.slice (some ⟨g, 0, none⟩) n c) (L.set k (x, y)) := by
  have e := h.p2len
  subst e
  have h1 := RowE.stored h (k * 2 + 0) (.int .i64 x) (L' := L.set k (x, L[k].2)) (List.length_set ..) (fm_setZ enc2_len L k hk 0 _ (x, L[k].2) (by omega) rfl)
  have h1' : RowE T 2 enc2 (w.setCell ⟨g, k * 2, none⟩ (.int .i64 x)) B (.slice (some ⟨g, 0, none⟩) (L.set k (x, L[k].2)).length c) (L.set k (x, L[k].2)) := by rw [List.length_set]; exact h1
  have hk2 : k < (L.set k (x, L[k].2)).length := by rw [List.length_set]; exact hk
  have h2 := RowE.stored h1' (k * 2 + 1) (.int .i64 y) (L' := L.set k (x, y)) (by rw [List.length_set, List.length_set]) (by
    rw [fm_setZ enc2_len _ k hk2 1 (.int .i64 y) (x, y) (by omega) (by rw [List.getElem_set_self]; rfl), List.set_set])
  rw [List.length_set] at h2
  exact h2
theorem aw1 : addX [] 2 3 = ([(2, 3)], 0) := by decide +kernel
theorem aw2 : addX [(2, 3)] 1 5 = ([(2, 3), (1, 5)], 0) := by decide +kernel
theorem aw3 : expX [(2, 3), (1, 5)] 7 4 = [2] := by decide +kernel
theorem aw4 : oldX [(2, 3), (1, 5)] = (2, true) := by decide +kernel
theorem aw5 : agaX [(2, 3), (1, 5)] 2 6 = ([(1, 5), (2, 6)], 0) := by decide +kernel
theorem aw6 : remX [(1, 5), (2, 6)] 1 = ([(2, 6)], 0) := by decide +kernel
theorem aw7 : okA [(2, 6)] = true := by decide +kernel
theorem aw8 : okA [(-1, 0)] = false := by decide +kernel
end Go.Mine
namespace Go.Proofs.Ytmdechoajmbhoaa
open Go.RowKit Go.Mine

set_option maxRecDepth 100000 in
set_option maxHeartbeats 4000000 in
theorem awake_any (w : World) : Calls Try.prog 22 #[] w (RetG (.bool true) w) := by
  have h0 : RdS 2 enc2 w 0 (.slice none 0 0) ([] : List Du) := RdS.nil _ _ _ _ (Nat.zero_le _)
  go_enter Try.func22, Try.ntmps22
  go_wp2_with fail
  with_reducible refine (add_p h0 (Nat.zero_le _) (Nat.zero_le _)).mono ?_
  rw [aw1]
  rintro e w1 ⟨v1, rfl, R1, g1⟩
  go_wp2_with fail
  with_reducible refine (add_p R1 (Nat.zero_le _) (Nat.le_trans (Nat.le_refl 1) (by decide))).mono ?_
  rw [aw2]
  rintro e w2 ⟨v2, rfl, R2, g2⟩
  have HG2 := Lib.hid (g1.trans g2)
  clear h0 R1 g1 g2
  go_wp2_with fail
  with_reducible refine (expired_p R2 (Nat.le_trans (Nat.le_refl 2) (by decide))).mono ?_
  rw [aw3]
  rintro e w3 ⟨v3, rfl, R3, g3⟩
  have HR3 := Lib.hid (R2.grew g3)
  have HX3 := Lib.hid (R3.wider (Nat.zero_le _))
  have HG3 := Lib.hid (HG2.out.trans g3)
  clear R2 R3 g3
  go_wp2_with fail
  with_reducible refine (oldest_p HR3.out (Nat.le_trans (Nat.le_refl 2) (by decide)) aw4).mono ?_
  rintro e w4 ⟨rfl, g4⟩
  have HR4 := Lib.hid (HR3.out.grew g4)
  have HX4 := Lib.hid (HX3.out.grew g4)
  have HG4 := Lib.hid (HG3.out.trans g4)
  clear HR3 HX3 HG3 g4
  go_wp2_with fail
  with_reducible refine (again_p HR4.out (Nat.zero_le _) (Nat.le_trans (Nat.le_refl 2) (by decide))).mono ?_
  rw [aw5]
  rintro e w5 ⟨v5, rfl, R5, g5⟩
  have HR5 := Lib.hid R5
  have HX5 := Lib.hid (HX4.out.grew g5)
  have HG5 := Lib.hid (HG4.out.trans g5)
  clear HR4 HX4 HG4 R5 g5
  go_wp2_with fail
  with_reducible refine (remove_p HR5.out (Nat.zero_le _) (Nat.le_trans (Nat.le_refl 2) (by decide))).mono ?_
  rw [aw6]
  rintro e w6 ⟨v6, rfl, R6, g6⟩
  obtain ⟨a3, c3, rfl⟩ : ∃ a c, v3 = .slice a 1 c := by obtain ⟨a, c, e, -, -⟩ := HX5.out.slice; exact ⟨a, c, e⟩
  obtain ⟨x3, o3, rfl, -, hx3, cx3⟩ := (HX5.out.grew g6).at_ (k := 0) (Nat.succ_pos _)
  have dx3 : w6.cell? ⟨x3, o3, none⟩ = some (.int .i64 2) := cx3 0 (by decide)
  obtain ⟨a5, c5, rfl⟩ : ∃ a c, v5 = .slice a 2 c := by obtain ⟨a, c, e, -, -⟩ := HR5.out.slice; exact ⟨a, c, e⟩
  obtain ⟨x5, o5, rfl, -, hx5, cx5, -⟩ := (HR5.out.grew g6).at2 (k := 0) (Nat.succ_pos _)
  have dx5 : w6.cell? ⟨x5, o5, none⟩ = some (.int .i64 1) := cx5
  obtain ⟨a6, c6, rfl⟩ : ∃ a c, v6 = .slice a 1 c := by obtain ⟨a, c, e, -, -⟩ := R6.slice; exact ⟨a, c, e⟩
  have HR6 := Lib.hid R6
  have HG6 := Lib.hid (HG5.out.trans g6)
  have HZ : Hid (RdS 2 enc2 (w6.alloc (.cells #[.int .i64 (-1), .int .i64 0] 44)) 0 (.slice (some ⟨w6.heap.size, 0, none⟩) 1 1) [(-1, 0)]) := Lib.hid (RowE.rdS (T := 44) enc2_len (RowE.lit w6 _ rfl rfl (show 1 ≤ maxLen by decide) (Nat.zero_le _)))
  clear cx3 cx5 HX5 HR5 HG5 R6 g6
  go_wp2_with fail
  with_reducible refine (check_p HR6.out (Nat.le_trans (Nat.le_refl 1) (by decide)) aw7).mono ?_
  rintro e w7 ⟨rfl, g7⟩
  have HG7 := Lib.hid ((HG6.out.trans g7).alloc (.cells #[.int .i64 (-1), .int .i64 0] 44))
  have HZ7 : Hid (RdS 2 enc2 (w7.alloc (.cells #[.int .i64 (-1), .int .i64 0] 44)) 0 (.slice (some ⟨w7.heap.size, 0, none⟩) 1 1) [(-1, 0)]) := Lib.hid (RowE.rdS (T := 44) enc2_len (RowE.lit w7 _ rfl rfl (show 1 ≤ maxLen by decide) (Nat.zero_le _)))
  clear HZ HR6 HG6 g7
  go_wp2_with fail
  with_reducible refine (check_p HZ7.out (Nat.le_trans (Nat.le_refl 1) (by decide)) aw8).mono ?_
  rintro e w8 ⟨rfl, g8⟩
  have HG8 := Lib.hid (HG7.out.trans g8)
  clear g8
  go_wp2
  go_ret
  exact ⟨rfl, HG8.out⟩
/-- Some list, in a row of its own. -/
def RetDd (B b : Nat) (w : World) (e : Ending) (w' : World) : Prop := ∃ v L, e = .returned v ∧ L.length ≤ 5 ∧ RdS 2 enc2 w' w.heap.size v L ∧ Tp B w' b ∧ w.grownBy w' (some b)
set_option maxRecDepth 100000 in
set_option maxHeartbeats 4000000 in
theorem drawn_x (B b : Nat) (w : World) (ht : Tp B w b) (hbw : B ≤ w.heap.size) : Calls Try.prog 6 #[.pointer (some ⟨b, 0, none⟩)] w (RetDd B b w) := by
  have hb := ht.ltB
  go_enter Try.func6, Try.ntmps6
  go_wp2_with fail
  with_reducible refine (next_x _ _ _ _ (by omega) (by omega) ht).mono ?_
  rintro e w1 ⟨q, q0, q1, rfl, T1, g1⟩
  obtain ⟨m, rfl⟩ := Int.eq_ofNat_of_zero_le q0
  go_wp2_with fail
  go_loopw [3, 4, 5] (fun v at_ k wr => ∃ (N : Nat) (z : Int) (L : List Du) (r : Value), r = v ∧ at_ = .int .i64 z ∧ k = .int .i64 N ∧ N + L.length ≤ 5 ∧ 0 ≤ z ∧ z ≤ 3 * (L.length : Int) ∧ RowE 44 2 enc2 wr w.heap.size r L ∧ Tp B wr b ∧ w.grownBy wr (some b)) (fun _ _ k _ => (intOf k).toNat)
  case atStart => exact ⟨m, 0, [], _, rfl, rfl, rfl, by simp; omega, by omega, by simp, RowE.nil _ _, T1, g1⟩
  case round =>
    clear T1 g1 q0 q1
    obtain ⟨N, z, L, v, rfl, rfl, rfl, hN5, hz0, hz1, R, T, g⟩ := hrel
    obtain ⟨wo, rfl⟩ : ∃ wo : World, wo = wr := ⟨_, rfl⟩
    have hsz := g.size
    rcases N with _ | N
    · rw [show ((0 : Nat) : Int) = 0 from rfl]
      obtain ⟨a, c, rfl⟩ := R.len
      have HR := Lib.hid R
      have HG := Lib.hid g
      clear R g
      cases L with
      | nil =>
        rw [List.length_nil] at *
        go_wp2
        go_ret
        exact ⟨_, [], rfl, Nat.zero_le _, RowE.rdS enc2_len HR.out, T, HG.out⟩
      | cons x L =>
        obtain ⟨p, hp⟩ : ∃ p, L.length = p := ⟨_, rfl⟩
        have hln : (x :: L).length = p + 1 := by rw [List.length_cons, hp]
        have HLN := Lib.hid hln
        rw [hln] at hN5 HR ⊢
        have hp5 : p + 1 ≤ 5 := by omega
        clear hp hz0 hz1 hln hN5
        go_wp2_with fail
        with_reducible refine (next_x _ _ _ _ (by omega) (by omega) T).mono ?_
        rintro e w2 ⟨q2, a0, a1, rfl, T2, g2⟩
        have HR2 := Lib.hid (HR.out.past g2 (by omega))
        have HG2 := Lib.hid (grown_trans HG.out g2)
        have hs2 := HG2.out.size
        clear T g2 HR HG
        by_cases hq : q2 = 0
        · subst hq
          have hpi0 : (1 : Int) ≤ (p : Int) + 1 := by omega
          have hpi1 : (p : Int) + 1 ≤ 1000000 := by omega
          go_wp2_with fail
          with_reducible refine (next_x _ _ _ _ hpi0 hpi1 T2).mono ?_
          rintro e w3 ⟨q3, b0, b1, rfl, T3, g3⟩
          have hs3 := Nat.le_trans hs2 g3.size
          obtain ⟨k, rfl⟩ := Int.eq_ofNat_of_zero_le b0
          go_wp2_with fail
          with_reducible refine (odd_x _ _ _ T3 (by omega)).mono ?_
          rintro e w4 ⟨z1, rfl, T4, g4⟩
          have hs4 := Nat.le_trans hs3 g4.size
          go_wp2_with fail
          with_reducible refine (odd_x _ _ _ T4 (by omega)).mono ?_
          rintro e w5 ⟨z2, rfl, T5, g5⟩
          have g35 := grown_trans (grown_trans g3 g4) g5
          have HR5 := Lib.hid (HR2.out.past g35 (by omega))
          have HG5 := Lib.hid (grown_trans HG2.out g35)
          rcases HR5.out.shape enc2_len with ⟨e9, -⟩ | ⟨gr, cap, e9, hBg, hg, -, -, -, hfr⟩
          · cases e9
          · injection e9 with e8 e9 e10
            subst e8
            have f0 := hfr (k * 2)
            have f1 := hfr (k * 2 + 1)
            have hkl : k < (x :: L).length := by rw [HLN.out]; omega
            have HPUT := Lib.hid (HR5.out.put2 hkl z1 z2)
            have HTP := Lib.hid ((T5.set (p := ⟨gr, k * 2, none⟩) (show B ≤ gr by omega) (.int .i64 z1)).set (p := ⟨gr, k * 2 + 1, none⟩) (show B ≤ gr by omega) (.int .i64 z2))
            have HGP := Lib.hid (grown_set (grown_set HG5.out (p := ⟨gr, k * 2, none⟩) (.inr hBg) (.int .i64 z1)) (p := ⟨gr, k * 2 + 1, none⟩) (.inr hBg) (.int .i64 z2))
            have hk0 : (0 : Int) ≤ (k : Int) := by omega
            have hk1 : (k : Int) < (p : Int) + 1 := by omega
            obtain ⟨gq, oq, e7, -, -, d0, d1⟩ := (RowE.rdS enc2_len HR5.out).at2 hkl
            injection e7 with e7
            injection e7 with e7 e6
            subst e7 e6
            rw [Nat.zero_add] at d0 d1
            clear g35 g3 g4 g5 T3 T4 T5 hfr HR2 HG2 e9 e10
            go_wp2
            go_ret
            exact ⟨_, (x :: L).set k (z1, z2), rfl, by rw [List.length_set, HLN.out]; exact hp5, RowE.rdS enc2_len HPUT.out, HTP.out, HGP.out⟩
        · have hq0 : (q2 == 0) = false := by simp [hq]
          go_wp2
          go_ret
          exact ⟨_, x :: L, rfl, by rw [HLN.out]; exact hp5, RowE.rdS enc2_len HR2.out, T2, HG2.out⟩
    · go_wp2_with fail
      with_reducible refine (next_x _ _ _ _ (by omega) (by omega) T).mono ?_
      rintro e w2 ⟨q2, a0, a1, rfl, T2, g2⟩
      go_wp2_with fail
      with_reducible refine (next_x _ _ _ _ (by omega) (by omega) T2).mono ?_
      rintro e w3 ⟨q3, b0, b1, rfl, T3, g3⟩
      have g23 := grown_trans g2 g3
      have HR3 := Lib.hid (R.past g23 (by omega))
      have HG3 := Lib.hid (grown_trans g g23)
      have hs3 := HG3.out.size
      have hx6 : L.length < 1000000 := by omega
      have hzz : ∀ o, w.heap.size ≤ (w3.alloc o).heap.size := fun o => by simp; omega
      clear R T g T2 g2 g3 g23
      go_wp2_with (at_builtin; go_loud (refine wpList_append_row _ rfl _ _ 26 rfl w.heap.size info_due Try.underlying26 (by decide) (by decide) enc2_len v L rfl (HR3.out.alloc _) _ _ (q3, z + q2) rfl (Own.new _ _ _) enc2_one hx6 (by decide) (hzz _) ?_; intro g7 cap w7 R7 G7 o7))
      have HR7 := Lib.hid R7
      have T7 := Tp.keptA (T3.alloc _) G7 (B := w.heap.size) (fun x e => HR3.out.above x e) hbw
      have HG7 := Lib.hid (grown_above (grown_alloc HG3.out _) G7 (fun x e => HR3.out.above x e))
      clear o7 G7 R7
      go_roundw
      case rel => exact ⟨N, z + q2, L ++ [(q3, z + q2)], _, rfl, by go_num, by go_num, by simp; omega, by omega, by simp; omega, HR7.out, T7, HG7.out⟩
      case measure => simp [intOf] <;> omega
end Go.Proofs.Ytmdechoajmbhoaa

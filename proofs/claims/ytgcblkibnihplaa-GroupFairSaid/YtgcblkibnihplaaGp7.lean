/- The made groups (layer 11). -/
import Derived.Test.YtgcblkibnihplaaGp6
import Derived.Test.YtgcblkibnihplaaOdd
namespace Go.Proofs.Ytgcblkibnihplaa
open Go.RowKit Go.Mine

/-- Some groups, one to four, in a row of its own. -/
def RetGs (B b : Nat) (w : World) (e : Ending) (w' : World) : Prop := ∃ v L, e = .returned v ∧ 1 ≤ L.length ∧ L.length ≤ 4 ∧ RowE 33 3 encG w' w.heap.size v L ∧ Tp B w' b ∧ w.grownBy w' (some b)
set_option maxRecDepth 100000 in
set_option maxHeartbeats 4000000 in
theorem groups_x (B b : Nat) (w : World) (ht : Tp B w b) (hbw : B ≤ w.heap.size) : Calls Try.prog 7 #[.pointer (some ⟨b, 0, none⟩)] w (RetGs B b w) := by
  have hb := ht.ltB
  go_enter Try.func7, Try.ntmps7
  go_wp2_with fail
  with_reducible refine (next_x _ _ _ _ (by omega) (by omega) ht).mono ?_
  rintro e w1 ⟨q, q0, q1, rfl, T1, g1⟩
  obtain ⟨m, rfl⟩ := Int.eq_ofNat_of_zero_le q0
  go_wp2_with fail
  go_loopw [3, 4] (fun v k wr => ∃ (N : Nat) (L : List Gp) (r : Value), r = v ∧ k = .int .i64 N ∧ 1 ≤ N + L.length ∧ N + L.length ≤ 4 ∧ RowE 33 3 encG wr w.heap.size r L ∧ Tp B wr b ∧ w.grownBy wr (some b)) (fun _ k _ => (intOf k).toNat)
  case atStart => exact ⟨m + 1, [], _, rfl, by go_num, by simp, by simp; omega, RowE.nil _ _, T1, g1⟩
  case round =>
    clear T1 g1 q0 q1
    obtain ⟨N, L, v, rfl, rfl, hN1, hN4, R, T, g⟩ := hrel
    obtain ⟨wo, rfl⟩ : ∃ wo : World, wo = wr := ⟨_, rfl⟩
    have hsz := g.size
    by_cases hp : 0 < N
    · have hp2 : (0 : Int) < (N : Int) := by omega
      go_wp2_with fail
      with_reducible refine (next_x _ _ _ _ (by omega) (by omega) T).mono ?_
      rintro e w2 ⟨q2, a0, a1, rfl, T2, g2⟩
      go_wp2_with fail
      with_reducible refine (next_x _ _ _ _ (by omega) (by omega) T2).mono ?_
      rintro e w3 ⟨q3, b0, b1, rfl, T3, g3⟩
      have G23 := grown_trans g2 g3
      have HR3 := Lib.hid (R.past G23 (by omega))
      have HG3 := Lib.hid (grown_trans g G23)
      have hs3 := HG3.out.size
      have X := Own.new w3 33 #[.int .i64 (1 + q2), .int .i64 0, .int .i64 q3]
      have HR4 := Lib.hid (HR3.out.alloc (.cells #[.int .i64 (1 + q2), .int .i64 0, .int .i64 q3] 33))
      have T4 := T3.alloc (.cells #[.int .i64 (1 + q2), .int .i64 0, .int .i64 q3] 33)
      have HG4 := Lib.hid (grown_alloc HG3.out (.cells #[.int .i64 (1 + q2), .int .i64 0, .int .i64 q3] 33))
      have hvlt := HR3.out.lt
      clear R T g T2 g2 g3 G23 HR3
      go_upto_region 6 with fail
      generalize hw4 : World.alloc w3 _ = w4 at *
      clear hw4
      obtain ⟨sx, hsx⟩ : ∃ sx, w3.heap.size = sx := ⟨_, rfl⟩
      rw [hsx] at X hs3 hvlt ⊢
      have l_X := X.lt
      clear HG3 T3 hsx
      obtain ⟨x0, x1, x2, f0, f1, f2⟩ := X.three
      have hn1 : 1 ≤ 1 + q2 + 1 := by omega
      have hn2 : 1 + q2 + 1 ≤ 1000000 := by omega
      obtain ⟨li, hli⟩ : ∃ li, 1 + q2 = li := ⟨_, rfl⟩
      rw [hli] at hn1 hn2 x0 X ⊢
      have hl1 : -1000 ≤ li ∧ li ≤ 1000 := by omega
      clear hli a0 a1
      go_wp2_with fail
      with_reducible refine (next_x _ _ _ _ hn1 hn2 T4).mono ?_
      rintro e w5 ⟨q5, c0, c1, rfl, T5, g5⟩
      have hbx : sx ≠ b := by omega
      replace X := X.keptN g5 (fun e => hbx (by injection e with e; exact e.symm))
      have HR5 := Lib.hid (HR4.out.past g5 (by omega))
      have HG5 := Lib.hid (grown_trans HG4.out g5)
      clear x0 x1 x2 f0 f1 f2 T4 g5 HR4 HG4
      obtain ⟨x0, x1, x2, f0, f1, f2⟩ := X.three
      have l_X5 := X.lt
      have HV := Lib.hid hvlt
      clear hvlt
      go_upto_region 7 with fail
      have X6 : Own _ sx 33 #[.int .i64 li, .int .i64 q5, .int .i64 q3] := X.set 1 (.int .i64 q5)
      have HR6 := Lib.hid (HR5.out.set (p := ⟨sx, 1, none⟩) (fun e => by have := HV.out sx e; omega) (.int .i64 q5))
      have T6 := T5.set (p := ⟨sx, 1, none⟩) (by show B ≤ sx; omega) (.int .i64 q5)
      have HG6 := Lib.hid (grown_set HG5.out (p := ⟨sx, 1, none⟩) (.inr hs3) (.int .i64 q5))
      clear x0 x1 x2 f0 f1 f2 X T5 HR5 HG5
      generalize World.setCell w5 ⟨sx, 1, none⟩ _ = w6 at *
      obtain ⟨x0, x1, x2, -, -, -⟩ := X6.three
      have l_X6 := X6.lt
      have hx6 : L.length < 1000000 := by omega
      have hs6 := HG6.out.size
      have hz6 : ∀ o, w.heap.size ≤ (w6.alloc o).heap.size := fun o => by simp; omega
      go_wp2_with (at_builtin; go_loud (refine wpList_append_row _ rfl _ _ 26 rfl w.heap.size info_grp Try.underlying26 (by decide) (by decide) encG_len v L rfl (HR6.out.alloc _) _ _ ⟨li, q5, q3⟩ rfl (Own.new _ _ _) encG_one hx6 (by decide) (hz6 _) ?_; intro g7 cap w7 R7 G7 o7))
      have HR7 := Lib.hid R7
      have T7 := Tp.keptA (T6.alloc _) G7 (B := w.heap.size) (fun x e => HR6.out.above x e) hbw
      have HG7 := Lib.hid (grown_above (grown_alloc HG6.out _) G7 (fun x e => HR6.out.above x e))
      clear o7 G7 R7
      go_roundw
      case rel => exact ⟨N - 1, L ++ [⟨li, q5, q3⟩], _, rfl, by go_num, by simp; omega, by simp; omega, HR7.out, T7, HG7.out⟩
      case measure => simp [intOf]; omega
    · obtain rfl : N = 0 := by omega
      have hl1 : 1 ≤ L.length := by omega
      have hl4 : L.length ≤ 4 := by omega
      obtain ⟨a, c, rfl, -⟩ := R.gps
      have HR := Lib.hid R
      have HG := Lib.hid g
      clear R g
      rw [show ((0 : Nat) : Int) = 0 from rfl]
      go_wp2_with fail
      with_reducible refine (next_x _ _ _ _ (by omega) (by omega) T).mono ?_
      rintro e w2 ⟨q2, a0, a1, rfl, T2, g2⟩
      have HR2 := Lib.hid (HR.out.past g2 (by omega))
      have HG2 := Lib.hid (grown_trans HG.out g2)
      have hs2 := HG2.out.size
      clear T g2 HR HG
      by_cases hq : q2 = 0
      · subst hq
        go_wp2_with fail
        with_reducible refine (odd_x _ _ _ T2 (by omega)).mono ?_
        rintro e w3 ⟨z, rfl, T3, g3⟩
        have HR3 := Lib.hid (HR2.out.past g3 (by omega))
        have HG3 := Lib.hid (grown_trans HG2.out g3)
        obtain ⟨-, g, rfl, hBg, hg, d0, -, -⟩ := HR3.out.gat (k := 0) (by omega)
        obtain ⟨g', e', hfr⟩ := HR3.out.gfree (by omega)
        injection e' with e'
        injection e' with e'
        subst e'
        have hf0 := hfr 0
        obtain ⟨n, hn⟩ : ∃ n, L.length = n := ⟨_, rfl⟩
        have HN := Lib.hid hn
        have HRR : Hid (RowE 33 3 encG (w3.setCell ⟨g, 0, none⟩ (.int .i64 z)) w.heap.size (.slice (some ⟨g, 0, none⟩) L.length c) (L.set 0 ⟨z, (L.getD 0 zG).p, (L.getD 0 zG).c⟩)) := Lib.hid (HR3.out.gset (k := 0) (r := 0) (u := .int .i64 z) (x := ⟨z, (L.getD 0 zG).p, (L.getD 0 zG).c⟩) (by omega) (by omega) rfl)
        have HTT := Lib.hid (T3.set (p := ⟨g, 0, none⟩) (by show B ≤ g; omega) (.int .i64 z))
        have HGG := Lib.hid (grown_set HG3.out (p := ⟨g, 0, none⟩) (.inr hBg) (.int .i64 z))
        rw [hn] at HRR hl1 hl4 ⊢
        have hn0 : (0 : Int) < (n : Int) := by omega
        rw [Nat.zero_mul] at d0
        clear hfr hn g3 T3
        go_wp2
        go_ret
        exact ⟨_, _, rfl, by rw [List.length_set, HN.out]; exact hl1, by rw [List.length_set, HN.out]; exact hl4, HRR.out, HTT.out, HGG.out⟩
      · have hq0 : (q2 == 0) = false := by simp [hq]
        go_wp2
        go_ret
        exact ⟨_, L, rfl, hl1, hl4, HR2.out, T2, HG2.out⟩
end Go.Proofs.Ytgcblkibnihplaa

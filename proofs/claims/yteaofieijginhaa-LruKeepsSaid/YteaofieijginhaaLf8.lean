/- The made lists of frames (layer 8): some right lists, whatever the tape. -/
import Derived.Test.YteaofieijginhaaLf6
namespace Go.Proofs.Yteaofieijginhaa
open Go.RowKit Go.Mine

/-- It returns some right lists, in new rows. -/
def RetMl (B b : Nat) (w : World) (e : Ending) (w' : World) : Prop := ∃ va vi vr x, e = .returned (lruV va vi vr) ∧ OkP x ∧ LnP 12 x ∧ LrR w' w.heap.size va vi vr x ∧ Tp B w' b ∧ w.grownBy w' (some b)
def MlSt (w : World) (s2 B b k : Nat) (wr : World) : Prop := ∃ (x : Lr) (a3 : Option Addr) (c3 : Nat) (a4 : Option Addr) (c4 : Nat) (a5 : Option Addr) (c5 : Nat), OkP x ∧ LnP k x ∧ LrR wr (s2 + 2) (.slice a3 x.a.length c3) (.slice a4 x.i.length c4) (.slice a5 x.r.length c5) x ∧
  Own wr s2 27 n3 ∧ Own wr (s2 + 1) 27 #[.slice a3 x.a.length c3, .slice a4 x.i.length c4, .slice a5 x.r.length c5] ∧ Tp B wr b ∧ w.grownBy wr (some b)
theorem LrR.past {w w' : World} {B b : Nat} {va vi vr : Value} {x : Lr} (h : LrR w B va vi vr x) (g : w.grownBy w' (some b)) (hb : b < B) : LrR w' B va vi vr x := ⟨h.a.past g hb, h.i.past g hb, h.r.past g hb⟩
theorem LrR.far3 {w w' : World} {B b : Nat} {va vi vr x y z : Value} {q : Lr} (h : LrR w B va vi vr q) (hw : ((w.setCell ⟨b, 0, none⟩ x).setCell ⟨b, 1, none⟩ y).setCell ⟨b, 2, none⟩ z = w') (hb : b < B) : LrR w' B va vi vr q := ⟨h.a.far3 hw hb, h.i.far3 hw hb, h.r.far3 hw hb⟩
theorem grown3 {a w w' : World} {r : Option Nat} {b : Nat} {x y z : Value} (h : a.grownBy w r) (hw : ((w.setCell ⟨b, 0, none⟩ x).setCell ⟨b, 1, none⟩ y).setCell ⟨b, 2, none⟩ z = w') (hb : a.heap.size ≤ b) : a.grownBy w' r := by
  rw [← hw]
  exact grown_set (p := ⟨b, 2, none⟩) (grown_set (p := ⟨b, 1, none⟩) (grown_set (p := ⟨b, 0, none⟩) h (.inr hb) x) (.inr hb) y) (.inr hb) z
set_option maxRecDepth 100000 in
set_option maxHeartbeats 4000000 in
theorem lru_x (B b : Nat) (w : World) (ht : Tp B w b) (hbw : B ≤ w.heap.size) : Calls Try.prog 29 #[.pointer (some ⟨b, 0, none⟩)] w (RetMl B b w) := by
  have hb := ht.ltB
  obtain ⟨s2, hs2⟩ : ∃ s2, w.heap.size = s2 := ⟨_, rfl⟩
  have S : Own ((w.alloc (.cells n3 27)).alloc (.cells n3 27)) s2 27 n3 := hs2 ▸ (Own.new w 27 n3).alloc _
  have X : Own ((w.alloc (.cells n3 27)).alloc (.cells n3 27)) (s2 + 1) 27 n3 := hs2 ▸ Own.new2 w (.cells n3 27) 27 n3
  have T0 := (ht.alloc (.cells n3 27)).alloc (.cells n3 27)
  have G0 : w.grownBy ((w.alloc (.cells n3 27)).alloc (.cells n3 27)) (some b) := grown_alloc (grown_alloc (grown_refl _ _) _) _
  have HS2 := Lib.hid hs2
  go_enter Try.func29, Try.ntmps29
  try rw [hs2]
  go_wp2_with fail
  with_reducible refine (next_x _ _ _ _ (by omega) (by omega) T0).mono ?_
  rintro e w1 ⟨q, q0, q1, rfl, T1, g1⟩
  replace S := S.past g1 (by omega)
  replace X := X.past g1 (by omega)
  have G1 := grown_trans G0 g1
  obtain ⟨N0, rfl⟩ := Int.eq_ofNat_of_zero_le q0
  clear T0 G0 g1
  go_wp2_with fail
  go_loopw [4] (fun nv wr => ∃ N : Nat, nv = .int .i64 N ∧ N ≤ 12 ∧ MlSt w s2 B b (12 - N) wr) (fun nv _ => (intOf nv).toNat)
  case atStart => exact ⟨N0, rfl, by omega, ⟨[], [], []⟩, none, 0, none, 0, none, 0, ⟨by simp, by simp, by simp, List.Pairwise.nil⟩, ⟨by simp, by simp⟩, ⟨RowE.nil _ _, RowE.nil _ _, RowE.nil _ _⟩, S, X, T1, G1⟩
  case round =>
    clear S X T1 G1
    obtain ⟨N, rfl, hN, x, a3, c3, a4, c4, a5, c5, hok, hln, R, S, X, T, G⟩ := hrel
    obtain ⟨wo, rfl⟩ : ∃ wo : World, wo = wr := ⟨_, rfl⟩
    by_cases h0 : N = 0
    · subst h0
      rw [show ((0 : Nat) : Int) = 0 from rfl]
      have HR := Lib.hid R
      have HOK := Lib.hid hok
      have HLN := Lib.hid hln
      obtain ⟨x0, x1, x2, x3, x4, x5⟩ := X.three
      obtain ⟨s0, s1, s2', s3, s4, s5⟩ := S.three
      clear R hok hln
      go_wp2
      generalize hw : World.setCell _ _ _ = wz
      have RS := S.store3 hw
      obtain ⟨u0, u1, u2, u3, u4, u5⟩ := RS.three
      refine bodyPost_ret (v := lruV (.slice a3 x.a.length c3) (.slice a4 x.i.length c4) (.slice a5 x.r.length c5)) (by simp [results, Try.results29, go_sem, u0, u1, u2]) rfl ⟨_, _, _, x, rfl, HOK.out, HLN.out, (HR.out.far3 hw (by omega)).wider (by have := HS2.out; omega), T.far3 hw (by have := HS2.out; omega), grown3 G hw (by have := HS2.out; omega)⟩
    · obtain ⟨m, rfl⟩ : ∃ m, N = m + 1 := ⟨N - 1, by omega⟩
      have hN0 : (0 : Int) < (m : Int) + 1 := by omega
      have hN1 : (m : Int) ≤ 12 := by omega
      have hN2 : (0 : Int) ≤ (m : Int) := by omega
      go_upto_block 1 with fail
      go_cut [5] from 12 to 49 (fun _ wx => MlSt w s2 B b (12 - (m + 1) + 1) wx)
      case first =>
        go_wp2_with fail
        with_reducible refine (next_x _ _ _ _ (by omega) (by omega) T).mono ?_
        rintro e w3 ⟨q, q0, q1, rfl, T3, g3⟩
        replace R := R.past g3 (by omega)
        replace S := S.past g3 (by omega)
        replace X := X.past g3 (by omega)
        replace G := grown_trans G g3
        clear T g3
        go_wp2_with fail
        with_reducible refine (next_x _ _ _ _ (by omega) (by omega) T3).mono ?_
        rintro e w4 ⟨v, v0, v1, rfl, T4, g4⟩
        replace R := R.past g4 (by omega)
        replace S := S.past g4 (by omega)
        replace X := X.past g4 (by omega)
        replace G := grown_trans G g4
        clear T3 g4
        obtain ⟨f, hf⟩ : ∃ f, 1 + q = f := ⟨_, rfl⟩
        obtain ⟨x0, x1, x2, x3, x4, x5⟩ := X.three
        have HR := Lib.hid R
        have HOK := Lib.hid hok
        have HLN := Lib.hid hln
        have hsz : s2 + 2 ≤ w4.heap.size := X.lt
        have HSM := Lib.hid (hln.sm (by omega))
        clear R hok hln
        have hv : v = 0 ∨ v = 1 ∨ v = 2 ∨ v = 3 ∨ v = 4 := by omega
        rcases hv with rfl | rfl | rfl | rfl | rfl
        · obtain ⟨y, hy⟩ : ∃ y, addX x f false = y := ⟨_, rfl⟩
          obtain ⟨er, he⟩ : ∃ er, addE x f = er := ⟨_, rfl⟩
          have HY := Lib.hid hy
          have HE := Lib.hid he
          clear hy he
          go_wp2_with fail
          with_reducible refine (add_q _ _ _ x f false _ HR.out HSM.out hsz HY.out HE.out).mono ?_
          rintro e w5 ⟨va, vi, vr, rfl, R5, g5⟩
          obtain ⟨b3, d3, rfl⟩ := R5.a.len
          obtain ⟨b4, d4, rfl⟩ := R5.i.len
          obtain ⟨b5, d5, rfl⟩ := R5.r.len
          have HR5 := Lib.hid R5
          replace X := X.grew g5
          replace S := S.grew g5
          have T5 := T4.grew g5
          have G5 := grown_trans G (grown_row g5.grown)
          clear R5 g5 x0 x1 x2 x3 x4 x5
          obtain ⟨x0, x1, x2, x3, x4, x5⟩ := X.three
          go_wp2
          go_meet
          generalize hw : World.setCell _ _ _ = wz
          exact ⟨y, b3, d3, b4, d4, b5, d5, by rw [← HY.out]; exact ok_add HOK.out, by rw [← HY.out]; exact ln_add HLN.out, HR5.out.far3 hw (by omega), S.far3 hw (show s2 ≠ s2 + 1 by omega), X.store3 hw, T5.far3 hw (by have := HS2.out; omega), grown3 G5 hw (by have := HS2.out; omega)⟩
        · obtain ⟨y, hy⟩ : ∃ y, addX x f false = y := ⟨_, rfl⟩
          obtain ⟨er, he⟩ : ∃ er, addE x f = er := ⟨_, rfl⟩
          have HY := Lib.hid hy
          have HE := Lib.hid he
          clear hy he
          go_wp2_with fail
          with_reducible refine (add_q _ _ _ x f false _ HR.out HSM.out hsz HY.out HE.out).mono ?_
          rintro e w5 ⟨va, vi, vr, rfl, R5, g5⟩
          obtain ⟨b3, d3, rfl⟩ := R5.a.len
          obtain ⟨b4, d4, rfl⟩ := R5.i.len
          obtain ⟨b5, d5, rfl⟩ := R5.r.len
          have HR5 := Lib.hid R5
          replace X := X.grew g5
          replace S := S.grew g5
          have T5 := T4.grew g5
          have G5 := grown_trans G (grown_row g5.grown)
          clear R5 g5 x0 x1 x2 x3 x4 x5
          obtain ⟨x0, x1, x2, x3, x4, x5⟩ := X.three
          go_wp2
          go_meet
          generalize hw : World.setCell _ _ _ = wz
          exact ⟨y, b3, d3, b4, d4, b5, d5, by rw [← HY.out]; exact ok_add HOK.out, by rw [← HY.out]; exact ln_add HLN.out, HR5.out.far3 hw (by omega), S.far3 hw (show s2 ≠ s2 + 1 by omega), X.store3 hw, T5.far3 hw (by have := HS2.out; omega), grown3 G5 hw (by have := HS2.out; omega)⟩
        · obtain ⟨y, hy⟩ : ∃ y, addX x f true = y := ⟨_, rfl⟩
          obtain ⟨er, he⟩ : ∃ er, addE x f = er := ⟨_, rfl⟩
          have HY := Lib.hid hy
          have HE := Lib.hid he
          clear hy he
          go_wp2_with fail
          with_reducible refine (add_q _ _ _ x f true _ HR.out HSM.out hsz HY.out HE.out).mono ?_
          rintro e w5 ⟨va, vi, vr, rfl, R5, g5⟩
          obtain ⟨b3, d3, rfl⟩ := R5.a.len
          obtain ⟨b4, d4, rfl⟩ := R5.i.len
          obtain ⟨b5, d5, rfl⟩ := R5.r.len
          have HR5 := Lib.hid R5
          replace X := X.grew g5
          replace S := S.grew g5
          have T5 := T4.grew g5
          have G5 := grown_trans G (grown_row g5.grown)
          clear R5 g5 x0 x1 x2 x3 x4 x5
          obtain ⟨x0, x1, x2, x3, x4, x5⟩ := X.three
          go_wp2
          go_meet
          generalize hw : World.setCell _ _ _ = wz
          exact ⟨y, b3, d3, b4, d4, b5, d5, by rw [← HY.out]; exact ok_add HOK.out, by rw [← HY.out]; exact ln_add HLN.out, HR5.out.far3 hw (by omega), S.far3 hw (show s2 ≠ s2 + 1 by omega), X.store3 hw, T5.far3 hw (by have := HS2.out; omega), grown3 G5 hw (by have := HS2.out; omega)⟩
        · obtain ⟨y, hy⟩ : ∃ y, touX x f = y := ⟨_, rfl⟩
          obtain ⟨er, he⟩ : ∃ er, remE x f = er := ⟨_, rfl⟩
          have HY := Lib.hid hy
          have HE := Lib.hid he
          clear hy he
          go_wp2_with fail
          with_reducible refine (tou_q _ _ _ x f _ HR.out HSM.out hsz HY.out HE.out).mono ?_
          rintro e w5 ⟨va, vi, vr, rfl, R5, g5⟩
          obtain ⟨b3, d3, rfl⟩ := R5.a.len
          obtain ⟨b4, d4, rfl⟩ := R5.i.len
          obtain ⟨b5, d5, rfl⟩ := R5.r.len
          have HR5 := Lib.hid R5
          replace X := X.grew g5
          replace S := S.grew g5
          have T5 := T4.grew g5
          have G5 := grown_trans G (grown_row g5.grown)
          clear R5 g5 x0 x1 x2 x3 x4 x5
          obtain ⟨x0, x1, x2, x3, x4, x5⟩ := X.three
          go_wp2
          go_meet
          generalize hw : World.setCell _ _ _ = wz
          exact ⟨y, b3, d3, b4, d4, b5, d5, by rw [← HY.out]; exact (ok_tou HOK.out).1, by rw [← HY.out]; exact ln_tou HLN.out, HR5.out.far3 hw (by omega), S.far3 hw (show s2 ≠ s2 + 1 by omega), X.store3 hw, T5.far3 hw (by have := HS2.out; omega), grown3 G5 hw (by have := HS2.out; omega)⟩
        · obtain ⟨y, hy⟩ : ∃ y, remX x f = y := ⟨_, rfl⟩
          obtain ⟨er, he⟩ : ∃ er, remE x f = er := ⟨_, rfl⟩
          have HY := Lib.hid hy
          have HE := Lib.hid he
          clear hy he
          go_wp2_with fail
          with_reducible refine (rem_q _ _ _ x f _ HR.out HSM.out hsz HY.out HE.out).mono ?_
          rintro e w5 ⟨va, vi, vr, rfl, R5, g5⟩
          obtain ⟨b3, d3, rfl⟩ := R5.a.len
          obtain ⟨b4, d4, rfl⟩ := R5.i.len
          obtain ⟨b5, d5, rfl⟩ := R5.r.len
          have HR5 := Lib.hid R5
          replace X := X.grew g5
          replace S := S.grew g5
          have T5 := T4.grew g5
          have G5 := grown_trans G (grown_row g5.grown)
          clear R5 g5 x0 x1 x2 x3 x4 x5
          obtain ⟨x0, x1, x2, x3, x4, x5⟩ := X.three
          go_wp2
          go_meet
          generalize hw : World.setCell _ _ _ = wz
          exact ⟨y, b3, d3, b4, d4, b5, d5, by rw [← HY.out]; exact ok_rem HOK.out, by rw [← HY.out]; exact ln_rem HLN.out, HR5.out.far3 hw (by omega), S.far3 hw (show s2 ≠ s2 + 1 by omega), X.store3 hw, T5.far3 hw (by have := HS2.out; omega), grown3 G5 hw (by have := HS2.out; omega)⟩
      case rest =>
        clear S X T G R
        have HF := Lib.hid (show MlSt w s2 B b (12 - m) wc from by rw [show 12 - m = 12 - (m + 1) + 1 from by omega]; exact hcut)
        clear hcut
        go_wp2
        exact ⟨⟨m, rfl, by omega, HF.out⟩, by simp [intOf]; try omega⟩
end Go.Proofs.Yteaofieijginhaa

/- DescriptorCalls holds: what each call makes of descriptors, and returns, and which error there is, are those of the document's answer. mkdsc18.py writes this text. -/
import Derived.Test.YtokijggckiidjaaDsL
import Derived.Deep.CutBlock
import Derived.Deep.RegionHeld3
namespace Go.Proofs.Ytokijggckiidjaa
open Go.ChangeShapes Go.WideShapes Go.ChangeAt Go.RowKit Go.Mine
set_option maxRecDepth 100000 in
set_option maxHeartbeats 16000000 in
theorem calls_core (A : Option Addr) (c : Nat) (xs : List Int) (w : World) (hr : IntRow w A xs) (hm : xs.length ≤ maxLen) :
    Calls Try.prog 3 #[.slice A xs.length c] w (RetG (.bool true) w) := by
  have tp := Tp.made hr hm c 25
  have gA := (Grew.refl w).alloc (.cells #[.slice A xs.length c, .int .i64 0] 25)
  have hbw : w.heap.size + 1 ≤ (w.alloc (.cells #[.slice A xs.length c, .int .i64 0] 25)).heap.size := by simp
  clear hr hm
  generalize hX : xs.length = X at *
  clear hX
  go_enter Try.func3, Try.ntmps3
  go_wp2_with fail
  with_reducible refine (drawn_x tp hbw).mono ?_
  rintro e w1 ⟨a, v, d, rfl, sm, D, T, g1⟩
  have HSM := Lib.hid sm.sm
  have htl := sm.sm.t
  have hrl := Lib.hid sm.sm.r
  have hol := sm.sm.o
  obtain ⟨ad, cd, rfl, -, -⟩ := D.rd.o.slice
  obtain ⟨vd, ed, rfl, -, -⟩ := D.rd.t.slice
  obtain ⟨m, hm⟩ : ∃ m, d.o.length = m := ⟨_, rfl⟩
  obtain ⟨N, hN⟩ : ∃ N, d.t.length = N := ⟨_, rfl⟩
  have hN3 : N ≤ 3 := by rw [← hN]; exact sm.t3
  have hb1 := g1.size
  have HT := Lib.hid T
  rw [hm, hN] at D ⊢
  have HB : Hid (BxL w (w.heap.size + 1) ([] : List Bx) [(.slice ad m cd, .slice vd N ed, d)] w1) := Lib.hid ⟨fun e he => absurd he (by simp), by simp, fun e he => by rw [List.mem_singleton.1 he]; exact D.mono fun x hx => ⟨by omega, by simp⟩, gA.past g1 (Nat.le_refl _), by omega, by omega⟩
  replace HT := Lib.hid (HT.out.alloc (.cells #[.slice ad m cd, .slice vd N ed] 29))
  clear hm hN gA tp g1 D T hbw sm hb1
  replace HB := Lib.hid (HB.out.push 29 #[.slice ad m cd, .slice vd N ed])
  go_upto_region 3 with fail
  generalize World.alloc w1 _ = w11 at *
  generalize w1.heap.size = g4 at *
  replace HB := Lib.hid (show BxL w (w.heap.size + 1) ([(g4, 29, #[.slice ad m cd, .slice vd N ed])] : List Bx) [(.slice ad m cd, .slice vd N ed, d)] w11 from HB.out)
  have nN : IntKind.i64.wrap ((N : Int) + 2) = (N : Int) + 2 := IntWalk.i64_in _ (by omega)
  obtain ⟨x0, x1, -, -⟩ := (HB.out.own (g4, 29, #[.slice ad m cd, .slice vd N ed]) (by simp)).1.two
  go_wp2_with fail
  with_reducible refine (next_x _ _ _ _ (by omega) (by omega) HT.out).mono ?_
  rintro e w12 ⟨q1, q1a, q1b, rfl, T, g⟩
  replace HB := Lib.hid (HB.out.next g (Nat.lt_succ_self _) (Nat.le_refl _))
  replace HT := Lib.hid T
  clear g T
  go_wp2_with fail
  with_reducible refine (next_x _ _ _ _ (by omega) (by omega) HT.out).mono ?_
  rintro e w13 ⟨q2, q2a, q2b, rfl, T, g⟩
  replace HB := Lib.hid (HB.out.next g (Nat.lt_succ_self _) (Nat.le_refl _))
  replace HT := Lib.hid T
  clear g T
  go_wp2_with fail
  with_reducible refine (next_x _ _ _ _ (by omega) (by omega) HT.out).mono ?_
  rintro e w14 ⟨q3, q3a, q3b, rfl, T, g⟩
  replace HB := Lib.hid (HB.out.next g (Nat.lt_succ_self _) (Nat.le_refl _))
  replace HT := Lib.hid T
  clear g T
  have hw1 : IntKind.i64.wrap (q1 - 1) = q1 - 1 := IntWalk.i64_in _ (by omega)
  have hw2 : IntKind.i64.wrap (q2 - 1) = q2 - 1 := IntWalk.i64_in _ (by omega)
  have hw3 : IntKind.i64.wrap (q3 - 1) = q3 - 1 := IntWalk.i64_in _ (by omega)
  go_wp2_with fail
  with_reducible refine (next_x _ _ _ _ (by omega) (by omega) HT.out).mono ?_
  rintro e w15 ⟨q4, q4a, q4b, rfl, T, g⟩
  replace HB := Lib.hid (HB.out.next g (Nat.lt_succ_self _) (Nat.le_refl _))
  replace HT := Lib.hid T
  clear g T
  go_wp2_with fail
  with_reducible refine (next_x _ _ _ _ (by omega) (by omega) HT.out).mono ?_
  rintro e w16 ⟨q5, q5a, q5b, rfl, T, g⟩
  replace HB := Lib.hid (HB.out.next g (Nat.lt_succ_self _) (Nat.le_refl _))
  replace HT := Lib.hid T
  clear g T
  go_wp2_with fail
  with_reducible refine (next_x _ _ _ _ (by omega) (by omega) HT.out).mono ?_
  rintro e w17 ⟨q6, q6a, q6b, rfl, T, g⟩
  replace HB := Lib.hid (HB.out.next g (Nat.lt_succ_self _) (Nat.le_refl _))
  replace HT := Lib.hid T
  clear g T
  go_wp2_with fail
  with_reducible refine (next_x _ _ _ _ (by omega) (by omega) HT.out).mono ?_
  rintro e w18 ⟨q7, q7a, q7b, rfl, T, g⟩
  replace HB := Lib.hid (HB.out.next g (Nat.lt_succ_self _) (Nat.le_refl _))
  replace HT := Lib.hid T
  clear g T
  obtain ⟨p, hp⟩ : ∃ p, q1 - 1 = p := ⟨_, rfl⟩
  rw [hp] at hw1
  clear nN x0 x1
  go_upto_block 0 with fail
  go_cut [6, 7, 8, 10] from 54 to 65 (fun v6 v7 v8 v10 wx => ∃ fd n f c : Int, v6 = .int .i64 fd ∧ v7 = .int .i64 n ∧ v8 = .int .i64 f ∧ v10 = .int .i64 c ∧ Hid (BxL w (w.heap.size + 1) ([(g4, 29, #[.slice ad m cd, .slice vd N ed])] : List Bx) [(.slice ad m cd, .slice vd N ed, d)] wx) ∧ Hid (Tp (w.heap.size + 1) wx w.heap.size))
  case first =>
    by_cases e0 : q7 = 0
    · subst e0
      have hbw := HB.out.hl
      go_wp2_with fail
      with_reducible refine (odd_x _ _ _ HT.out hbw).mono ?_
      rintro e w19 ⟨z1, rfl, T, g⟩
      replace HB := Lib.hid (HB.out.next g (Nat.lt_succ_self _) (Nat.le_refl _))
      replace HT := Lib.hid T
      clear g T hbw
      have hbw := HB.out.hl
      go_wp2_with fail
      with_reducible refine (odd_x _ _ _ HT.out hbw).mono ?_
      rintro e w20 ⟨z2, rfl, T, g⟩
      replace HB := Lib.hid (HB.out.next g (Nat.lt_succ_self _) (Nat.le_refl _))
      replace HT := Lib.hid T
      clear g T hbw
      go_wp2_with fail
      go_meet
      exact ⟨_, _, _, _, rfl, rfl, rfl, rfl, HB, HT⟩
    have n0 : (q7 == 0) = false := by simpa using e0
    by_cases e1 : q7 = 1
    · subst e1
      have hbw := HB.out.hl
      go_wp2_with fail
      with_reducible refine (odd_x _ _ _ HT.out hbw).mono ?_
      rintro e w21 ⟨z1, rfl, T, g⟩
      replace HB := Lib.hid (HB.out.next g (Nat.lt_succ_self _) (Nat.le_refl _))
      replace HT := Lib.hid T
      clear g T hbw
      have hbw := HB.out.hl
      go_wp2_with fail
      with_reducible refine (odd_x _ _ _ HT.out hbw).mono ?_
      rintro e w22 ⟨z2, rfl, T, g⟩
      replace HB := Lib.hid (HB.out.next g (Nat.lt_succ_self _) (Nat.le_refl _))
      replace HT := Lib.hid T
      clear g T hbw
      go_wp2_with fail
      go_meet
      exact ⟨_, _, _, _, rfl, rfl, rfl, rfl, HB, HT⟩
    have n1 : (q7 == 1) = false := by simpa using e1
    go_wp2_with fail
    go_meet
    exact ⟨_, _, _, _, rfl, rfl, rfl, rfl, HB, HT⟩
  case rest =>
    clear HB HT
    obtain ⟨fd, n, f, c, rfl, rfl, rfl, rfl, HB, HT⟩ := hcut
    clear q1a q1b q2a q2b q3a q3b q4a q4b q5a q5b q6a q6b q7a q7b hw2 hw3
    go_wp2_with fail
    with_reducible refine (next_x _ _ _ _ (by omega) (by omega) HT.out).mono ?_
    rintro e w23 ⟨q8, q8a, q8b, rfl, T, g⟩
    replace HB := Lib.hid (HB.out.next g (Nat.lt_succ_self _) (Nat.le_refl _))
    replace HT := Lib.hid T
    clear g T
    go_wp2_with fail
    with_reducible refine (next_x _ _ _ _ (by omega) (by omega) HT.out).mono ?_
    rintro e w24 ⟨q9, q9a, q9b, rfl, T, g⟩
    replace HB := Lib.hid (HB.out.next g (Nat.lt_succ_self _) (Nat.le_refl _))
    replace HT := Lib.hid T
    clear g T
    have hw8 : IntKind.i64.wrap (q8 - 2) = q8 - 2 := IntWalk.i64_in _ (by omega)
    have hw9 : IntKind.i64.wrap (q9 - 1) = q9 - 1 := IntWalk.i64_in _ (by omega)
    replace HB := Lib.hid (HB.out.push 34 #[.int .i64 1, .int .i64 0, .int .i64 (q8 - 2), .int .i64 (q9 - 1), .int .i64 5])
    go_upto_region 11 with fail
    generalize World.alloc w24 _ = w25 at *
    generalize w24.heap.size = g11 at *
    replace HB := Lib.hid (show BxL w (w.heap.size + 1) ([(g11, 34, #[.int .i64 1, .int .i64 0, .int .i64 (q8 - 2), .int .i64 (q9 - 1), .int .i64 5]), (g4, 29, #[.slice ad m cd, .slice vd N ed])] : List Bx) [(.slice ad m cd, .slice vd N ed, d)] w25 from HB.out)
    clear HT q8a q8b q9a q9b hw8 hw9
    obtain ⟨X1, hX1⟩ : ∃ x, opnD d p ⟨f, q5, 0, c, 1⟩ = x := ⟨_, rfl⟩
    have HX1 := Lib.hid hX1
    have SX1 : Hid (SmX X1.1) := Lib.hid (by rw [← hX1]; exact opnD_sm HSM.out p rfl)
    clear hX1
    obtain ⟨X2, hX2⟩ : ∃ x, dupD d p fd = x := ⟨_, rfl⟩
    have HX2 := Lib.hid hX2
    have SX2 : Hid (SmX X2.1) := Lib.hid (by rw [← hX2]; exact dupD_sm HSM.out p fd)
    clear hX2
    obtain ⟨X3, hX3⟩ : ∃ x, frkD d p n = x := ⟨_, rfl⟩
    have HX3 := Lib.hid hX3
    have SX3 : Hid (SmX X3.1) := Lib.hid (by rw [← hX3]; exact frkD_sm HSM.out p n)
    clear hX3
    obtain ⟨X4, hX4⟩ : ∃ x, clsD d p fd = x := ⟨_, rfl⟩
    have HX4 := Lib.hid hX4
    have SX4 : Hid (SmX X4.1) := Lib.hid (by rw [← hX4]; exact clsD_sm HSM.out p fd)
    clear hX4
    obtain ⟨X6, hX6⟩ : ∃ x, updD d n ⟨1, 0, q8 - 2, q9 - 1, 5⟩ = x := ⟨_, rfl⟩
    have HX6 := Lib.hid hX6
    have SX6 : Hid (SmX X6.1) := Lib.hid (by rw [← hX6]; exact updD_sm HSM.out n _)
    clear hX6
    obtain ⟨X7, hX7⟩ : ∃ x, nwD p = x := ⟨_, rfl⟩
    have HX7 := Lib.hid hX7
    have SX7 : Hid (SmX X7.1) := Lib.hid (by rw [← hX7]; exact nwD_sm p)
    clear hX7
    obtain ⟨⟨li, ly, le⟩, hX5⟩ : ∃ x, lkD d p fd = x := ⟨_, rfl⟩
    have HX5 := Lib.hid hX5
    obtain ⟨bb, hbb⟩ : ∃ x, okD d = x := ⟨_, rfl⟩
    have HBB := Lib.hid hbb
    clear hX5 hbb hN3
    obtain ⟨x0, x1, -, -⟩ := (HB.out.own (g4, 29, #[.slice ad m cd, .slice vd N ed]) (by simp)).1.two
    have hD : DdP _ _ (.slice ad m cd) (.slice vd N ed) (d) := HB.out.dd (.slice ad m cd, .slice vd N ed, d) (by simp)
    go_wp2_with fail
    with_reducible refine (open_p hD hol htl hrl HX1.out).mono ?_
    rintro e w26 ⟨a26, v26, rfl, D, g⟩
    obtain ⟨a26s, c26, rfl, -, -⟩ := D.rd.o.slice
    obtain ⟨v26s, e26, rfl, -, -⟩ := D.rd.t.slice
    replace HB := Lib.hid (HB.out.add g D)
    replace HB := Lib.hid (show BxL w (w.heap.size + 1) ([(g11, 34, #[.int .i64 1, .int .i64 0, .int .i64 (q8 - 2), .int .i64 (q9 - 1), .int .i64 5]), (g4, 29, #[.slice ad m cd, .slice vd N ed])] : List Bx) [(.slice a26s X1.1.o.length c26, .slice v26s X1.1.t.length e26, X1.1), (.slice ad m cd, .slice vd N ed, d)] w26 from HB.out)
    clear g D hD x0 x1
    replace HB := Lib.hid (HB.out.push 29 #[.slice a26s X1.1.o.length c26, .slice v26s X1.1.t.length e26])
    go_upto_region 12 with fail
    generalize World.alloc w26 _ = w27 at *
    generalize w26.heap.size = g12 at *
    replace HB := Lib.hid (show BxL w (w.heap.size + 1) ([(g12, 29, #[.slice a26s X1.1.o.length c26, .slice v26s X1.1.t.length e26]), (g11, 34, #[.int .i64 1, .int .i64 0, .int .i64 (q8 - 2), .int .i64 (q9 - 1), .int .i64 5]), (g4, 29, #[.slice ad m cd, .slice vd N ed])] : List Bx) [(.slice a26s X1.1.o.length c26, .slice v26s X1.1.t.length e26, X1.1), (.slice ad m cd, .slice vd N ed, d)] w27 from HB.out)
    obtain ⟨x0, x1, -, -⟩ := (HB.out.own (g4, 29, #[.slice ad m cd, .slice vd N ed]) (by simp)).1.two
    have hD : DdP _ _ (.slice ad m cd) (.slice vd N ed) (d) := HB.out.dd (.slice ad m cd, .slice vd N ed, d) (by simp)
    go_wp2_with fail
    with_reducible refine (open_q hD hol htl HX1.out).mono ?_
    rintro e w28 ⟨a28, v28, rfl, D, g⟩
    obtain ⟨a28s, c28, rfl, -, -⟩ := D.rd.o.slice
    obtain ⟨v28s, e28, rfl, -, -⟩ := D.rd.t.slice
    replace HB := Lib.hid (HB.out.add g D)
    replace HB := Lib.hid (show BxL w (w.heap.size + 1) ([(g12, 29, #[.slice a26s X1.1.o.length c26, .slice v26s X1.1.t.length e26]), (g11, 34, #[.int .i64 1, .int .i64 0, .int .i64 (q8 - 2), .int .i64 (q9 - 1), .int .i64 5]), (g4, 29, #[.slice ad m cd, .slice vd N ed])] : List Bx) [(.slice a28s X1.1.o.length c28, .slice v28s X1.1.t.length e28, X1.1), (.slice a26s X1.1.o.length c26, .slice v26s X1.1.t.length e26, X1.1), (.slice ad m cd, .slice vd N ed, d)] w28 from HB.out)
    clear g D hD x0 x1
    replace HB := Lib.hid (HB.out.push 29 #[.slice a28s X1.1.o.length c28, .slice v28s X1.1.t.length e28])
    go_upto_region 13 with fail
    generalize World.alloc w28 _ = w29 at *
    generalize w28.heap.size = g15 at *
    replace HB := Lib.hid (show BxL w (w.heap.size + 1) ([(g15, 29, #[.slice a28s X1.1.o.length c28, .slice v28s X1.1.t.length e28]), (g12, 29, #[.slice a26s X1.1.o.length c26, .slice v26s X1.1.t.length e26]), (g11, 34, #[.int .i64 1, .int .i64 0, .int .i64 (q8 - 2), .int .i64 (q9 - 1), .int .i64 5]), (g4, 29, #[.slice ad m cd, .slice vd N ed])] : List Bx) [(.slice a28s X1.1.o.length c28, .slice v28s X1.1.t.length e28, X1.1), (.slice a26s X1.1.o.length c26, .slice v26s X1.1.t.length e26, X1.1), (.slice ad m cd, .slice vd N ed, d)] w29 from HB.out)
    obtain ⟨x0, x1, -, -⟩ := (HB.out.own (g4, 29, #[.slice ad m cd, .slice vd N ed]) (by simp)).1.two
    have hD : DdP _ _ (.slice ad m cd) (.slice vd N ed) (d) := HB.out.dd (.slice ad m cd, .slice vd N ed, d) (by simp)
    go_wp2_with fail
    with_reducible refine (dup_p hD hol htl hrl HX2.out).mono ?_
    rintro e w30 ⟨a30, v30, rfl, D, g⟩
    obtain ⟨a30s, c30, rfl, -, -⟩ := D.rd.o.slice
    obtain ⟨v30s, e30, rfl, -, -⟩ := D.rd.t.slice
    replace HB := Lib.hid (HB.out.add g D)
    replace HB := Lib.hid (show BxL w (w.heap.size + 1) ([(g15, 29, #[.slice a28s X1.1.o.length c28, .slice v28s X1.1.t.length e28]), (g12, 29, #[.slice a26s X1.1.o.length c26, .slice v26s X1.1.t.length e26]), (g11, 34, #[.int .i64 1, .int .i64 0, .int .i64 (q8 - 2), .int .i64 (q9 - 1), .int .i64 5]), (g4, 29, #[.slice ad m cd, .slice vd N ed])] : List Bx) [(.slice a30s X2.1.o.length c30, .slice v30s X2.1.t.length e30, X2.1), (.slice a28s X1.1.o.length c28, .slice v28s X1.1.t.length e28, X1.1), (.slice a26s X1.1.o.length c26, .slice v26s X1.1.t.length e26, X1.1), (.slice ad m cd, .slice vd N ed, d)] w30 from HB.out)
    clear g D hD x0 x1
    replace HB := Lib.hid (HB.out.push 29 #[.slice a30s X2.1.o.length c30, .slice v30s X2.1.t.length e30])
    go_upto_region 14 with fail
    generalize World.alloc w30 _ = w31 at *
    generalize w30.heap.size = g18 at *
    replace HB := Lib.hid (show BxL w (w.heap.size + 1) ([(g18, 29, #[.slice a30s X2.1.o.length c30, .slice v30s X2.1.t.length e30]), (g15, 29, #[.slice a28s X1.1.o.length c28, .slice v28s X1.1.t.length e28]), (g12, 29, #[.slice a26s X1.1.o.length c26, .slice v26s X1.1.t.length e26]), (g11, 34, #[.int .i64 1, .int .i64 0, .int .i64 (q8 - 2), .int .i64 (q9 - 1), .int .i64 5]), (g4, 29, #[.slice ad m cd, .slice vd N ed])] : List Bx) [(.slice a30s X2.1.o.length c30, .slice v30s X2.1.t.length e30, X2.1), (.slice a28s X1.1.o.length c28, .slice v28s X1.1.t.length e28, X1.1), (.slice a26s X1.1.o.length c26, .slice v26s X1.1.t.length e26, X1.1), (.slice ad m cd, .slice vd N ed, d)] w31 from HB.out)
    obtain ⟨x0, x1, -, -⟩ := (HB.out.own (g4, 29, #[.slice ad m cd, .slice vd N ed]) (by simp)).1.two
    have hD : DdP _ _ (.slice ad m cd) (.slice vd N ed) (d) := HB.out.dd (.slice ad m cd, .slice vd N ed, d) (by simp)
    go_wp2_with fail
    with_reducible refine (dup_q hD hol htl HX2.out).mono ?_
    rintro e w32 ⟨a32, v32, rfl, D, g⟩
    obtain ⟨a32s, c32, rfl, -, -⟩ := D.rd.o.slice
    obtain ⟨v32s, e32, rfl, -, -⟩ := D.rd.t.slice
    replace HB := Lib.hid (HB.out.add g D)
    replace HB := Lib.hid (show BxL w (w.heap.size + 1) ([(g18, 29, #[.slice a30s X2.1.o.length c30, .slice v30s X2.1.t.length e30]), (g15, 29, #[.slice a28s X1.1.o.length c28, .slice v28s X1.1.t.length e28]), (g12, 29, #[.slice a26s X1.1.o.length c26, .slice v26s X1.1.t.length e26]), (g11, 34, #[.int .i64 1, .int .i64 0, .int .i64 (q8 - 2), .int .i64 (q9 - 1), .int .i64 5]), (g4, 29, #[.slice ad m cd, .slice vd N ed])] : List Bx) [(.slice a32s X2.1.o.length c32, .slice v32s X2.1.t.length e32, X2.1), (.slice a30s X2.1.o.length c30, .slice v30s X2.1.t.length e30, X2.1), (.slice a28s X1.1.o.length c28, .slice v28s X1.1.t.length e28, X1.1), (.slice a26s X1.1.o.length c26, .slice v26s X1.1.t.length e26, X1.1), (.slice ad m cd, .slice vd N ed, d)] w32 from HB.out)
    clear g D hD x0 x1
    replace HB := Lib.hid (HB.out.push 29 #[.slice a32s X2.1.o.length c32, .slice v32s X2.1.t.length e32])
    go_upto_region 15 with fail
    generalize World.alloc w32 _ = w33 at *
    generalize w32.heap.size = g21 at *
    replace HB := Lib.hid (show BxL w (w.heap.size + 1) ([(g21, 29, #[.slice a32s X2.1.o.length c32, .slice v32s X2.1.t.length e32]), (g18, 29, #[.slice a30s X2.1.o.length c30, .slice v30s X2.1.t.length e30]), (g15, 29, #[.slice a28s X1.1.o.length c28, .slice v28s X1.1.t.length e28]), (g12, 29, #[.slice a26s X1.1.o.length c26, .slice v26s X1.1.t.length e26]), (g11, 34, #[.int .i64 1, .int .i64 0, .int .i64 (q8 - 2), .int .i64 (q9 - 1), .int .i64 5]), (g4, 29, #[.slice ad m cd, .slice vd N ed])] : List Bx) [(.slice a32s X2.1.o.length c32, .slice v32s X2.1.t.length e32, X2.1), (.slice a30s X2.1.o.length c30, .slice v30s X2.1.t.length e30, X2.1), (.slice a28s X1.1.o.length c28, .slice v28s X1.1.t.length e28, X1.1), (.slice a26s X1.1.o.length c26, .slice v26s X1.1.t.length e26, X1.1), (.slice ad m cd, .slice vd N ed, d)] w33 from HB.out)
    obtain ⟨x0, x1, -, -⟩ := (HB.out.own (g12, 29, #[.slice a26s X1.1.o.length c26, .slice v26s X1.1.t.length e26]) (by simp)).1.two
    obtain ⟨y0, y1, -, -⟩ := (HB.out.own (g15, 29, #[.slice a28s X1.1.o.length c28, .slice v28s X1.1.t.length e28]) (by simp)).1.two
    have hD1 : DdP _ _ (.slice a26s X1.1.o.length c26) (.slice v26s X1.1.t.length e26) (X1.1) := HB.out.dd (.slice a26s X1.1.o.length c26, .slice v26s X1.1.t.length e26, X1.1) (by simp)
    have hD2 : DdP _ _ (.slice a28s X1.1.o.length c28) (.slice v28s X1.1.t.length e28) (X1.1) := HB.out.dd (.slice a28s X1.1.o.length c28, .slice v28s X1.1.t.length e28, X1.1) (by simp)
    go_wp2_with fail
    with_reducible refine (same_q hD1.rd hD2.rd SX1.out.o SX1.out.t SX1.out.r).mono ?_
    rintro e w34 ⟨rfl, g⟩
    replace HB := Lib.hid (HB.out.grew g)
    clear g hD1 hD2 x0 x1 y0 y1
    obtain ⟨x0, x1, -, -⟩ := (HB.out.own (g18, 29, #[.slice a30s X2.1.o.length c30, .slice v30s X2.1.t.length e30]) (by simp)).1.two
    obtain ⟨y0, y1, -, -⟩ := (HB.out.own (g21, 29, #[.slice a32s X2.1.o.length c32, .slice v32s X2.1.t.length e32]) (by simp)).1.two
    have hD1 : DdP _ _ (.slice a30s X2.1.o.length c30) (.slice v30s X2.1.t.length e30) (X2.1) := HB.out.dd (.slice a30s X2.1.o.length c30, .slice v30s X2.1.t.length e30, X2.1) (by simp)
    have hD2 : DdP _ _ (.slice a32s X2.1.o.length c32) (.slice v32s X2.1.t.length e32) (X2.1) := HB.out.dd (.slice a32s X2.1.o.length c32, .slice v32s X2.1.t.length e32, X2.1) (by simp)
    go_wp2_with fail
    with_reducible refine (same_q hD1.rd hD2.rd SX2.out.o SX2.out.t SX2.out.r).mono ?_
    rintro e w35 ⟨rfl, g⟩
    replace HB := Lib.hid (HB.out.grew g)
    clear g hD1 hD2 x0 x1 y0 y1
    go_upto_region 17 with fail
    obtain ⟨x0, x1, -, -⟩ := (HB.out.own (g4, 29, #[.slice ad m cd, .slice vd N ed]) (by simp)).1.two
    have hD : DdP _ _ (.slice ad m cd) (.slice vd N ed) (d) := HB.out.dd (.slice ad m cd, .slice vd N ed, d) (by simp)
    go_wp2_with fail
    with_reducible refine (fork_p hD hol htl hrl HX3.out).mono ?_
    rintro e w36 ⟨a36, v36, rfl, D, g⟩
    obtain ⟨a36s, c36, rfl, -, -⟩ := D.rd.o.slice
    obtain ⟨v36s, e36, rfl, -, -⟩ := D.rd.t.slice
    replace HB := Lib.hid (HB.out.add g D)
    replace HB := Lib.hid (show BxL w (w.heap.size + 1) ([(g21, 29, #[.slice a32s X2.1.o.length c32, .slice v32s X2.1.t.length e32]), (g18, 29, #[.slice a30s X2.1.o.length c30, .slice v30s X2.1.t.length e30]), (g15, 29, #[.slice a28s X1.1.o.length c28, .slice v28s X1.1.t.length e28]), (g12, 29, #[.slice a26s X1.1.o.length c26, .slice v26s X1.1.t.length e26]), (g11, 34, #[.int .i64 1, .int .i64 0, .int .i64 (q8 - 2), .int .i64 (q9 - 1), .int .i64 5]), (g4, 29, #[.slice ad m cd, .slice vd N ed])] : List Bx) [(.slice a36s X3.1.o.length c36, .slice v36s X3.1.t.length e36, X3.1), (.slice a32s X2.1.o.length c32, .slice v32s X2.1.t.length e32, X2.1), (.slice a30s X2.1.o.length c30, .slice v30s X2.1.t.length e30, X2.1), (.slice a28s X1.1.o.length c28, .slice v28s X1.1.t.length e28, X1.1), (.slice a26s X1.1.o.length c26, .slice v26s X1.1.t.length e26, X1.1), (.slice ad m cd, .slice vd N ed, d)] w36 from HB.out)
    clear g D hD x0 x1
    obtain ⟨y0, y1, y2, y3⟩ := (HB.out.own (g12, 29, #[.slice a26s X1.1.o.length c26, .slice v26s X1.1.t.length e26]) (by simp)).1.two
    go_upto_region 18 with fail
    generalize hw : World.setCell (World.setCell w36 _ _) _ _ = w37
    replace HB := Lib.hid (show BxL w (w.heap.size + 1) ([(g21, 29, #[.slice a32s X2.1.o.length c32, .slice v32s X2.1.t.length e32]), (g18, 29, #[.slice a30s X2.1.o.length c30, .slice v30s X2.1.t.length e30]), (g15, 29, #[.slice a28s X1.1.o.length c28, .slice v28s X1.1.t.length e28]), (g12, 29, #[.slice a36s X3.1.o.length c36, .slice v36s X3.1.t.length e36]), (g11, 34, #[.int .i64 1, .int .i64 0, .int .i64 (q8 - 2), .int .i64 (q9 - 1), .int .i64 5]), (g4, 29, #[.slice ad m cd, .slice vd N ed])] : List Bx) [(.slice a36s X3.1.o.length c36, .slice v36s X3.1.t.length e36, X3.1), (.slice a32s X2.1.o.length c32, .slice v32s X2.1.t.length e32, X2.1), (.slice a30s X2.1.o.length c30, .slice v30s X2.1.t.length e30, X2.1), (.slice a28s X1.1.o.length c28, .slice v28s X1.1.t.length e28, X1.1), (.slice a26s X1.1.o.length c26, .slice v26s X1.1.t.length e26, X1.1), (.slice ad m cd, .slice vd N ed, d)] w37 from BxL.put (l1 := [(g21, 29, #[.slice a32s X2.1.o.length c32, .slice v32s X2.1.t.length e32]), (g18, 29, #[.slice a30s X2.1.o.length c30, .slice v30s X2.1.t.length e30]), (g15, 29, #[.slice a28s X1.1.o.length c28, .slice v28s X1.1.t.length e28])]) (l2 := [(g11, 34, #[.int .i64 1, .int .i64 0, .int .i64 (q8 - 2), .int .i64 (q9 - 1), .int .i64 5]), (g4, 29, #[.slice ad m cd, .slice vd N ed])]) HB.out hw)
    clear hw y0 y1 y2 y3
    obtain ⟨x0, x1, -, -⟩ := (HB.out.own (g4, 29, #[.slice ad m cd, .slice vd N ed]) (by simp)).1.two
    have hD : DdP _ _ (.slice ad m cd) (.slice vd N ed) (d) := HB.out.dd (.slice ad m cd, .slice vd N ed, d) (by simp)
    go_wp2_with fail
    with_reducible refine (fork_q hD hol htl HX3.out).mono ?_
    rintro e w38 ⟨a38, v38, rfl, D, g⟩
    obtain ⟨a38s, c38, rfl, -, -⟩ := D.rd.o.slice
    obtain ⟨v38s, e38, rfl, -, -⟩ := D.rd.t.slice
    replace HB := Lib.hid (HB.out.add g D)
    replace HB := Lib.hid (show BxL w (w.heap.size + 1) ([(g21, 29, #[.slice a32s X2.1.o.length c32, .slice v32s X2.1.t.length e32]), (g18, 29, #[.slice a30s X2.1.o.length c30, .slice v30s X2.1.t.length e30]), (g15, 29, #[.slice a28s X1.1.o.length c28, .slice v28s X1.1.t.length e28]), (g12, 29, #[.slice a36s X3.1.o.length c36, .slice v36s X3.1.t.length e36]), (g11, 34, #[.int .i64 1, .int .i64 0, .int .i64 (q8 - 2), .int .i64 (q9 - 1), .int .i64 5]), (g4, 29, #[.slice ad m cd, .slice vd N ed])] : List Bx) [(.slice a38s X3.1.o.length c38, .slice v38s X3.1.t.length e38, X3.1), (.slice a36s X3.1.o.length c36, .slice v36s X3.1.t.length e36, X3.1), (.slice a32s X2.1.o.length c32, .slice v32s X2.1.t.length e32, X2.1), (.slice a30s X2.1.o.length c30, .slice v30s X2.1.t.length e30, X2.1), (.slice a28s X1.1.o.length c28, .slice v28s X1.1.t.length e28, X1.1), (.slice a26s X1.1.o.length c26, .slice v26s X1.1.t.length e26, X1.1), (.slice ad m cd, .slice vd N ed, d)] w38 from HB.out)
    clear g D hD x0 x1
    obtain ⟨y0, y1, y2, y3⟩ := (HB.out.own (g15, 29, #[.slice a28s X1.1.o.length c28, .slice v28s X1.1.t.length e28]) (by simp)).1.two
    go_upto_region 19 with fail
    generalize hw : World.setCell (World.setCell w38 _ _) _ _ = w39
    replace HB := Lib.hid (show BxL w (w.heap.size + 1) ([(g21, 29, #[.slice a32s X2.1.o.length c32, .slice v32s X2.1.t.length e32]), (g18, 29, #[.slice a30s X2.1.o.length c30, .slice v30s X2.1.t.length e30]), (g15, 29, #[.slice a38s X3.1.o.length c38, .slice v38s X3.1.t.length e38]), (g12, 29, #[.slice a36s X3.1.o.length c36, .slice v36s X3.1.t.length e36]), (g11, 34, #[.int .i64 1, .int .i64 0, .int .i64 (q8 - 2), .int .i64 (q9 - 1), .int .i64 5]), (g4, 29, #[.slice ad m cd, .slice vd N ed])] : List Bx) [(.slice a38s X3.1.o.length c38, .slice v38s X3.1.t.length e38, X3.1), (.slice a36s X3.1.o.length c36, .slice v36s X3.1.t.length e36, X3.1), (.slice a32s X2.1.o.length c32, .slice v32s X2.1.t.length e32, X2.1), (.slice a30s X2.1.o.length c30, .slice v30s X2.1.t.length e30, X2.1), (.slice a28s X1.1.o.length c28, .slice v28s X1.1.t.length e28, X1.1), (.slice a26s X1.1.o.length c26, .slice v26s X1.1.t.length e26, X1.1), (.slice ad m cd, .slice vd N ed, d)] w39 from BxL.put (l1 := [(g21, 29, #[.slice a32s X2.1.o.length c32, .slice v32s X2.1.t.length e32]), (g18, 29, #[.slice a30s X2.1.o.length c30, .slice v30s X2.1.t.length e30])]) (l2 := [(g12, 29, #[.slice a36s X3.1.o.length c36, .slice v36s X3.1.t.length e36]), (g11, 34, #[.int .i64 1, .int .i64 0, .int .i64 (q8 - 2), .int .i64 (q9 - 1), .int .i64 5]), (g4, 29, #[.slice ad m cd, .slice vd N ed])]) HB.out hw)
    clear hw y0 y1 y2 y3
    obtain ⟨x0, x1, -, -⟩ := (HB.out.own (g4, 29, #[.slice ad m cd, .slice vd N ed]) (by simp)).1.two
    have hD : DdP _ _ (.slice ad m cd) (.slice vd N ed) (d) := HB.out.dd (.slice ad m cd, .slice vd N ed, d) (by simp)
    go_wp2_with fail
    with_reducible refine (close_p hD hol htl hrl HX4.out).mono ?_
    rintro e w40 ⟨a40, v40, rfl, D, g⟩
    obtain ⟨a40s, c40, rfl, -, -⟩ := D.rd.o.slice
    obtain ⟨v40s, e40, rfl, -, -⟩ := D.rd.t.slice
    replace HB := Lib.hid (HB.out.add g D)
    replace HB := Lib.hid (show BxL w (w.heap.size + 1) ([(g21, 29, #[.slice a32s X2.1.o.length c32, .slice v32s X2.1.t.length e32]), (g18, 29, #[.slice a30s X2.1.o.length c30, .slice v30s X2.1.t.length e30]), (g15, 29, #[.slice a38s X3.1.o.length c38, .slice v38s X3.1.t.length e38]), (g12, 29, #[.slice a36s X3.1.o.length c36, .slice v36s X3.1.t.length e36]), (g11, 34, #[.int .i64 1, .int .i64 0, .int .i64 (q8 - 2), .int .i64 (q9 - 1), .int .i64 5]), (g4, 29, #[.slice ad m cd, .slice vd N ed])] : List Bx) [(.slice a40s X4.1.o.length c40, .slice v40s X4.1.t.length e40, X4.1), (.slice a38s X3.1.o.length c38, .slice v38s X3.1.t.length e38, X3.1), (.slice a36s X3.1.o.length c36, .slice v36s X3.1.t.length e36, X3.1), (.slice a32s X2.1.o.length c32, .slice v32s X2.1.t.length e32, X2.1), (.slice a30s X2.1.o.length c30, .slice v30s X2.1.t.length e30, X2.1), (.slice a28s X1.1.o.length c28, .slice v28s X1.1.t.length e28, X1.1), (.slice a26s X1.1.o.length c26, .slice v26s X1.1.t.length e26, X1.1), (.slice ad m cd, .slice vd N ed, d)] w40 from HB.out)
    clear g D hD x0 x1
    obtain ⟨y0, y1, y2, y3⟩ := (HB.out.own (g18, 29, #[.slice a30s X2.1.o.length c30, .slice v30s X2.1.t.length e30]) (by simp)).1.two
    go_upto_region 20 with fail
    generalize hw : World.setCell (World.setCell w40 _ _) _ _ = w41
    replace HB := Lib.hid (show BxL w (w.heap.size + 1) ([(g21, 29, #[.slice a32s X2.1.o.length c32, .slice v32s X2.1.t.length e32]), (g18, 29, #[.slice a40s X4.1.o.length c40, .slice v40s X4.1.t.length e40]), (g15, 29, #[.slice a38s X3.1.o.length c38, .slice v38s X3.1.t.length e38]), (g12, 29, #[.slice a36s X3.1.o.length c36, .slice v36s X3.1.t.length e36]), (g11, 34, #[.int .i64 1, .int .i64 0, .int .i64 (q8 - 2), .int .i64 (q9 - 1), .int .i64 5]), (g4, 29, #[.slice ad m cd, .slice vd N ed])] : List Bx) [(.slice a40s X4.1.o.length c40, .slice v40s X4.1.t.length e40, X4.1), (.slice a38s X3.1.o.length c38, .slice v38s X3.1.t.length e38, X3.1), (.slice a36s X3.1.o.length c36, .slice v36s X3.1.t.length e36, X3.1), (.slice a32s X2.1.o.length c32, .slice v32s X2.1.t.length e32, X2.1), (.slice a30s X2.1.o.length c30, .slice v30s X2.1.t.length e30, X2.1), (.slice a28s X1.1.o.length c28, .slice v28s X1.1.t.length e28, X1.1), (.slice a26s X1.1.o.length c26, .slice v26s X1.1.t.length e26, X1.1), (.slice ad m cd, .slice vd N ed, d)] w41 from BxL.put (l1 := [(g21, 29, #[.slice a32s X2.1.o.length c32, .slice v32s X2.1.t.length e32])]) (l2 := [(g15, 29, #[.slice a38s X3.1.o.length c38, .slice v38s X3.1.t.length e38]), (g12, 29, #[.slice a36s X3.1.o.length c36, .slice v36s X3.1.t.length e36]), (g11, 34, #[.int .i64 1, .int .i64 0, .int .i64 (q8 - 2), .int .i64 (q9 - 1), .int .i64 5]), (g4, 29, #[.slice ad m cd, .slice vd N ed])]) HB.out hw)
    clear hw y0 y1 y2 y3
    obtain ⟨x0, x1, -, -⟩ := (HB.out.own (g4, 29, #[.slice ad m cd, .slice vd N ed]) (by simp)).1.two
    have hD : DdP _ _ (.slice ad m cd) (.slice vd N ed) (d) := HB.out.dd (.slice ad m cd, .slice vd N ed, d) (by simp)
    go_wp2_with fail
    with_reducible refine (close_q hD hol htl HX4.out).mono ?_
    rintro e w42 ⟨a42, v42, rfl, D, g⟩
    obtain ⟨a42s, c42, rfl, -, -⟩ := D.rd.o.slice
    obtain ⟨v42s, e42, rfl, -, -⟩ := D.rd.t.slice
    replace HB := Lib.hid (HB.out.add g D)
    replace HB := Lib.hid (show BxL w (w.heap.size + 1) ([(g21, 29, #[.slice a32s X2.1.o.length c32, .slice v32s X2.1.t.length e32]), (g18, 29, #[.slice a40s X4.1.o.length c40, .slice v40s X4.1.t.length e40]), (g15, 29, #[.slice a38s X3.1.o.length c38, .slice v38s X3.1.t.length e38]), (g12, 29, #[.slice a36s X3.1.o.length c36, .slice v36s X3.1.t.length e36]), (g11, 34, #[.int .i64 1, .int .i64 0, .int .i64 (q8 - 2), .int .i64 (q9 - 1), .int .i64 5]), (g4, 29, #[.slice ad m cd, .slice vd N ed])] : List Bx) [(.slice a42s X4.1.o.length c42, .slice v42s X4.1.t.length e42, X4.1), (.slice a40s X4.1.o.length c40, .slice v40s X4.1.t.length e40, X4.1), (.slice a38s X3.1.o.length c38, .slice v38s X3.1.t.length e38, X3.1), (.slice a36s X3.1.o.length c36, .slice v36s X3.1.t.length e36, X3.1), (.slice a32s X2.1.o.length c32, .slice v32s X2.1.t.length e32, X2.1), (.slice a30s X2.1.o.length c30, .slice v30s X2.1.t.length e30, X2.1), (.slice a28s X1.1.o.length c28, .slice v28s X1.1.t.length e28, X1.1), (.slice a26s X1.1.o.length c26, .slice v26s X1.1.t.length e26, X1.1), (.slice ad m cd, .slice vd N ed, d)] w42 from HB.out)
    clear g D hD x0 x1
    obtain ⟨y0, y1, y2, y3⟩ := (HB.out.own (g21, 29, #[.slice a32s X2.1.o.length c32, .slice v32s X2.1.t.length e32]) (by simp)).1.two
    go_upto_region 21 with fail
    generalize hw : World.setCell (World.setCell w42 _ _) _ _ = w43
    replace HB := Lib.hid (show BxL w (w.heap.size + 1) ([(g21, 29, #[.slice a42s X4.1.o.length c42, .slice v42s X4.1.t.length e42]), (g18, 29, #[.slice a40s X4.1.o.length c40, .slice v40s X4.1.t.length e40]), (g15, 29, #[.slice a38s X3.1.o.length c38, .slice v38s X3.1.t.length e38]), (g12, 29, #[.slice a36s X3.1.o.length c36, .slice v36s X3.1.t.length e36]), (g11, 34, #[.int .i64 1, .int .i64 0, .int .i64 (q8 - 2), .int .i64 (q9 - 1), .int .i64 5]), (g4, 29, #[.slice ad m cd, .slice vd N ed])] : List Bx) [(.slice a42s X4.1.o.length c42, .slice v42s X4.1.t.length e42, X4.1), (.slice a40s X4.1.o.length c40, .slice v40s X4.1.t.length e40, X4.1), (.slice a38s X3.1.o.length c38, .slice v38s X3.1.t.length e38, X3.1), (.slice a36s X3.1.o.length c36, .slice v36s X3.1.t.length e36, X3.1), (.slice a32s X2.1.o.length c32, .slice v32s X2.1.t.length e32, X2.1), (.slice a30s X2.1.o.length c30, .slice v30s X2.1.t.length e30, X2.1), (.slice a28s X1.1.o.length c28, .slice v28s X1.1.t.length e28, X1.1), (.slice a26s X1.1.o.length c26, .slice v26s X1.1.t.length e26, X1.1), (.slice ad m cd, .slice vd N ed, d)] w43 from BxL.put (l1 := []) (l2 := [(g18, 29, #[.slice a40s X4.1.o.length c40, .slice v40s X4.1.t.length e40]), (g15, 29, #[.slice a38s X3.1.o.length c38, .slice v38s X3.1.t.length e38]), (g12, 29, #[.slice a36s X3.1.o.length c36, .slice v36s X3.1.t.length e36]), (g11, 34, #[.int .i64 1, .int .i64 0, .int .i64 (q8 - 2), .int .i64 (q9 - 1), .int .i64 5]), (g4, 29, #[.slice ad m cd, .slice vd N ed])]) HB.out hw)
    clear hw y0 y1 y2 y3
    obtain ⟨x0, x1, -, -⟩ := (HB.out.own (g12, 29, #[.slice a36s X3.1.o.length c36, .slice v36s X3.1.t.length e36]) (by simp)).1.two
    obtain ⟨y0, y1, -, -⟩ := (HB.out.own (g15, 29, #[.slice a38s X3.1.o.length c38, .slice v38s X3.1.t.length e38]) (by simp)).1.two
    have hD1 : DdP _ _ (.slice a36s X3.1.o.length c36) (.slice v36s X3.1.t.length e36) (X3.1) := HB.out.dd (.slice a36s X3.1.o.length c36, .slice v36s X3.1.t.length e36, X3.1) (by simp)
    have hD2 : DdP _ _ (.slice a38s X3.1.o.length c38) (.slice v38s X3.1.t.length e38) (X3.1) := HB.out.dd (.slice a38s X3.1.o.length c38, .slice v38s X3.1.t.length e38, X3.1) (by simp)
    go_wp2_with fail
    with_reducible refine (same_q hD1.rd hD2.rd SX3.out.o SX3.out.t SX3.out.r).mono ?_
    rintro e w44 ⟨rfl, g⟩
    replace HB := Lib.hid (HB.out.grew g)
    clear g hD1 hD2 x0 x1 y0 y1
    obtain ⟨x0, x1, -, -⟩ := (HB.out.own (g18, 29, #[.slice a40s X4.1.o.length c40, .slice v40s X4.1.t.length e40]) (by simp)).1.two
    obtain ⟨y0, y1, -, -⟩ := (HB.out.own (g21, 29, #[.slice a42s X4.1.o.length c42, .slice v42s X4.1.t.length e42]) (by simp)).1.two
    have hD1 : DdP _ _ (.slice a40s X4.1.o.length c40) (.slice v40s X4.1.t.length e40) (X4.1) := HB.out.dd (.slice a40s X4.1.o.length c40, .slice v40s X4.1.t.length e40, X4.1) (by simp)
    have hD2 : DdP _ _ (.slice a42s X4.1.o.length c42) (.slice v42s X4.1.t.length e42) (X4.1) := HB.out.dd (.slice a42s X4.1.o.length c42, .slice v42s X4.1.t.length e42, X4.1) (by simp)
    go_wp2_with fail
    with_reducible refine (same_q hD1.rd hD2.rd SX4.out.o SX4.out.t SX4.out.r).mono ?_
    rintro e w45 ⟨rfl, g⟩
    replace HB := Lib.hid (HB.out.grew g)
    clear g hD1 hD2 x0 x1 y0 y1
    go_upto_region 23 with fail
    obtain ⟨x0, x1, -, -⟩ := (HB.out.own (g4, 29, #[.slice ad m cd, .slice vd N ed]) (by simp)).1.two
    have hD : DdP _ _ (.slice ad m cd) (.slice vd N ed) (d) := HB.out.dd (.slice ad m cd, .slice vd N ed, d) (by simp)
    go_wp2_with fail
    with_reducible refine (lookup_p hD.rd hol htl HX5.out).mono ?_
    rintro e w46 ⟨rfl, g⟩
    replace HB := Lib.hid (HB.out.grew g)
    clear g hD x0 x1
    replace HB := Lib.hid (HB.out.push 34 #[.int .i64 ly.f, .int .i64 ly.g, .int .i64 ly.o, .int .i64 ly.c, .int .i64 ly.r])
    go_upto_region 24 with fail
    generalize World.alloc w46 _ = w47 at *
    generalize w46.heap.size = g26 at *
    replace HB := Lib.hid (show BxL w (w.heap.size + 1) ([(g26, 34, #[.int .i64 ly.f, .int .i64 ly.g, .int .i64 ly.o, .int .i64 ly.c, .int .i64 ly.r]), (g21, 29, #[.slice a42s X4.1.o.length c42, .slice v42s X4.1.t.length e42]), (g18, 29, #[.slice a40s X4.1.o.length c40, .slice v40s X4.1.t.length e40]), (g15, 29, #[.slice a38s X3.1.o.length c38, .slice v38s X3.1.t.length e38]), (g12, 29, #[.slice a36s X3.1.o.length c36, .slice v36s X3.1.t.length e36]), (g11, 34, #[.int .i64 1, .int .i64 0, .int .i64 (q8 - 2), .int .i64 (q9 - 1), .int .i64 5]), (g4, 29, #[.slice ad m cd, .slice vd N ed])] : List Bx) [(.slice a42s X4.1.o.length c42, .slice v42s X4.1.t.length e42, X4.1), (.slice a40s X4.1.o.length c40, .slice v40s X4.1.t.length e40, X4.1), (.slice a38s X3.1.o.length c38, .slice v38s X3.1.t.length e38, X3.1), (.slice a36s X3.1.o.length c36, .slice v36s X3.1.t.length e36, X3.1), (.slice a32s X2.1.o.length c32, .slice v32s X2.1.t.length e32, X2.1), (.slice a30s X2.1.o.length c30, .slice v30s X2.1.t.length e30, X2.1), (.slice a28s X1.1.o.length c28, .slice v28s X1.1.t.length e28, X1.1), (.slice a26s X1.1.o.length c26, .slice v26s X1.1.t.length e26, X1.1), (.slice ad m cd, .slice vd N ed, d)] w47 from HB.out)
    obtain ⟨x0, x1, -, -⟩ := (HB.out.own (g4, 29, #[.slice ad m cd, .slice vd N ed]) (by simp)).1.two
    have hD : DdP _ _ (.slice ad m cd) (.slice vd N ed) (d) := HB.out.dd (.slice ad m cd, .slice vd N ed, d) (by simp)
    go_wp2_with fail
    with_reducible refine (lookup_q hD.rd hol htl HX5.out).mono ?_
    rintro e w48 ⟨rfl, g⟩
    replace HB := Lib.hid (HB.out.grew g)
    clear g hD x0 x1
    replace HB := Lib.hid (HB.out.push 34 #[.int .i64 ly.f, .int .i64 ly.g, .int .i64 ly.o, .int .i64 ly.c, .int .i64 ly.r])
    go_upto_region 25 with fail
    generalize World.alloc w48 _ = w49 at *
    generalize w48.heap.size = g27 at *
    replace HB := Lib.hid (show BxL w (w.heap.size + 1) ([(g27, 34, #[.int .i64 ly.f, .int .i64 ly.g, .int .i64 ly.o, .int .i64 ly.c, .int .i64 ly.r]), (g26, 34, #[.int .i64 ly.f, .int .i64 ly.g, .int .i64 ly.o, .int .i64 ly.c, .int .i64 ly.r]), (g21, 29, #[.slice a42s X4.1.o.length c42, .slice v42s X4.1.t.length e42]), (g18, 29, #[.slice a40s X4.1.o.length c40, .slice v40s X4.1.t.length e40]), (g15, 29, #[.slice a38s X3.1.o.length c38, .slice v38s X3.1.t.length e38]), (g12, 29, #[.slice a36s X3.1.o.length c36, .slice v36s X3.1.t.length e36]), (g11, 34, #[.int .i64 1, .int .i64 0, .int .i64 (q8 - 2), .int .i64 (q9 - 1), .int .i64 5]), (g4, 29, #[.slice ad m cd, .slice vd N ed])] : List Bx) [(.slice a42s X4.1.o.length c42, .slice v42s X4.1.t.length e42, X4.1), (.slice a40s X4.1.o.length c40, .slice v40s X4.1.t.length e40, X4.1), (.slice a38s X3.1.o.length c38, .slice v38s X3.1.t.length e38, X3.1), (.slice a36s X3.1.o.length c36, .slice v36s X3.1.t.length e36, X3.1), (.slice a32s X2.1.o.length c32, .slice v32s X2.1.t.length e32, X2.1), (.slice a30s X2.1.o.length c30, .slice v30s X2.1.t.length e30, X2.1), (.slice a28s X1.1.o.length c28, .slice v28s X1.1.t.length e28, X1.1), (.slice a26s X1.1.o.length c26, .slice v26s X1.1.t.length e26, X1.1), (.slice ad m cd, .slice vd N ed, d)] w49 from HB.out)
    obtain ⟨z0, z1, z2, z3, z4⟩ := (HB.out.own (g11, 34, #[.int .i64 1, .int .i64 0, .int .i64 (q8 - 2), .int .i64 (q9 - 1), .int .i64 5]) (by simp)).1.fiveD
    dsimp only at z0 z1 z2 z3 z4
    obtain ⟨x0, x1, -, -⟩ := (HB.out.own (g4, 29, #[.slice ad m cd, .slice vd N ed]) (by simp)).1.two
    have hD : DdP _ _ (.slice ad m cd) (.slice vd N ed) (d) := HB.out.dd (.slice ad m cd, .slice vd N ed, d) (by simp)
    go_wp2_with fail
    with_reducible refine (update_p (y := ⟨1, 0, q8 - 2, q9 - 1, 5⟩) hD hol htl hrl HX6.out).mono ?_
    rintro e w50 ⟨a50, v50, rfl, D, g⟩
    obtain ⟨a50s, c50, rfl, -, -⟩ := D.rd.o.slice
    obtain ⟨v50s, e50, rfl, -, -⟩ := D.rd.t.slice
    replace HB := Lib.hid (HB.out.add g D)
    replace HB := Lib.hid (show BxL w (w.heap.size + 1) ([(g27, 34, #[.int .i64 ly.f, .int .i64 ly.g, .int .i64 ly.o, .int .i64 ly.c, .int .i64 ly.r]), (g26, 34, #[.int .i64 ly.f, .int .i64 ly.g, .int .i64 ly.o, .int .i64 ly.c, .int .i64 ly.r]), (g21, 29, #[.slice a42s X4.1.o.length c42, .slice v42s X4.1.t.length e42]), (g18, 29, #[.slice a40s X4.1.o.length c40, .slice v40s X4.1.t.length e40]), (g15, 29, #[.slice a38s X3.1.o.length c38, .slice v38s X3.1.t.length e38]), (g12, 29, #[.slice a36s X3.1.o.length c36, .slice v36s X3.1.t.length e36]), (g11, 34, #[.int .i64 1, .int .i64 0, .int .i64 (q8 - 2), .int .i64 (q9 - 1), .int .i64 5]), (g4, 29, #[.slice ad m cd, .slice vd N ed])] : List Bx) [(.slice a50s X6.1.o.length c50, .slice v50s X6.1.t.length e50, X6.1), (.slice a42s X4.1.o.length c42, .slice v42s X4.1.t.length e42, X4.1), (.slice a40s X4.1.o.length c40, .slice v40s X4.1.t.length e40, X4.1), (.slice a38s X3.1.o.length c38, .slice v38s X3.1.t.length e38, X3.1), (.slice a36s X3.1.o.length c36, .slice v36s X3.1.t.length e36, X3.1), (.slice a32s X2.1.o.length c32, .slice v32s X2.1.t.length e32, X2.1), (.slice a30s X2.1.o.length c30, .slice v30s X2.1.t.length e30, X2.1), (.slice a28s X1.1.o.length c28, .slice v28s X1.1.t.length e28, X1.1), (.slice a26s X1.1.o.length c26, .slice v26s X1.1.t.length e26, X1.1), (.slice ad m cd, .slice vd N ed, d)] w50 from HB.out)
    clear g D hD x0 x1
    obtain ⟨y0, y1, y2, y3⟩ := (HB.out.own (g12, 29, #[.slice a36s X3.1.o.length c36, .slice v36s X3.1.t.length e36]) (by simp)).1.two
    go_upto_region 26 with fail
    generalize hw : World.setCell (World.setCell w50 _ _) _ _ = w51
    replace HB := Lib.hid (show BxL w (w.heap.size + 1) ([(g27, 34, #[.int .i64 ly.f, .int .i64 ly.g, .int .i64 ly.o, .int .i64 ly.c, .int .i64 ly.r]), (g26, 34, #[.int .i64 ly.f, .int .i64 ly.g, .int .i64 ly.o, .int .i64 ly.c, .int .i64 ly.r]), (g21, 29, #[.slice a42s X4.1.o.length c42, .slice v42s X4.1.t.length e42]), (g18, 29, #[.slice a40s X4.1.o.length c40, .slice v40s X4.1.t.length e40]), (g15, 29, #[.slice a38s X3.1.o.length c38, .slice v38s X3.1.t.length e38]), (g12, 29, #[.slice a50s X6.1.o.length c50, .slice v50s X6.1.t.length e50]), (g11, 34, #[.int .i64 1, .int .i64 0, .int .i64 (q8 - 2), .int .i64 (q9 - 1), .int .i64 5]), (g4, 29, #[.slice ad m cd, .slice vd N ed])] : List Bx) [(.slice a50s X6.1.o.length c50, .slice v50s X6.1.t.length e50, X6.1), (.slice a42s X4.1.o.length c42, .slice v42s X4.1.t.length e42, X4.1), (.slice a40s X4.1.o.length c40, .slice v40s X4.1.t.length e40, X4.1), (.slice a38s X3.1.o.length c38, .slice v38s X3.1.t.length e38, X3.1), (.slice a36s X3.1.o.length c36, .slice v36s X3.1.t.length e36, X3.1), (.slice a32s X2.1.o.length c32, .slice v32s X2.1.t.length e32, X2.1), (.slice a30s X2.1.o.length c30, .slice v30s X2.1.t.length e30, X2.1), (.slice a28s X1.1.o.length c28, .slice v28s X1.1.t.length e28, X1.1), (.slice a26s X1.1.o.length c26, .slice v26s X1.1.t.length e26, X1.1), (.slice ad m cd, .slice vd N ed, d)] w51 from BxL.put (l1 := [(g27, 34, #[.int .i64 ly.f, .int .i64 ly.g, .int .i64 ly.o, .int .i64 ly.c, .int .i64 ly.r]), (g26, 34, #[.int .i64 ly.f, .int .i64 ly.g, .int .i64 ly.o, .int .i64 ly.c, .int .i64 ly.r]), (g21, 29, #[.slice a42s X4.1.o.length c42, .slice v42s X4.1.t.length e42]), (g18, 29, #[.slice a40s X4.1.o.length c40, .slice v40s X4.1.t.length e40]), (g15, 29, #[.slice a38s X3.1.o.length c38, .slice v38s X3.1.t.length e38])]) (l2 := [(g11, 34, #[.int .i64 1, .int .i64 0, .int .i64 (q8 - 2), .int .i64 (q9 - 1), .int .i64 5]), (g4, 29, #[.slice ad m cd, .slice vd N ed])]) HB.out hw)
    clear hw y0 y1 y2 y3
    clear z0 z1 z2 z3 z4
    obtain ⟨z0, z1, z2, z3, z4⟩ := (HB.out.own (g11, 34, #[.int .i64 1, .int .i64 0, .int .i64 (q8 - 2), .int .i64 (q9 - 1), .int .i64 5]) (by simp)).1.fiveD
    dsimp only at z0 z1 z2 z3 z4
    obtain ⟨x0, x1, -, -⟩ := (HB.out.own (g4, 29, #[.slice ad m cd, .slice vd N ed]) (by simp)).1.two
    have hD : DdP _ _ (.slice ad m cd) (.slice vd N ed) (d) := HB.out.dd (.slice ad m cd, .slice vd N ed, d) (by simp)
    go_wp2_with fail
    with_reducible refine (update_q (y := ⟨1, 0, q8 - 2, q9 - 1, 5⟩) hD hol htl HX6.out).mono ?_
    rintro e w52 ⟨a52, v52, rfl, D, g⟩
    obtain ⟨a52s, c52, rfl, -, -⟩ := D.rd.o.slice
    obtain ⟨v52s, e52, rfl, -, -⟩ := D.rd.t.slice
    replace HB := Lib.hid (HB.out.add g D)
    replace HB := Lib.hid (show BxL w (w.heap.size + 1) ([(g27, 34, #[.int .i64 ly.f, .int .i64 ly.g, .int .i64 ly.o, .int .i64 ly.c, .int .i64 ly.r]), (g26, 34, #[.int .i64 ly.f, .int .i64 ly.g, .int .i64 ly.o, .int .i64 ly.c, .int .i64 ly.r]), (g21, 29, #[.slice a42s X4.1.o.length c42, .slice v42s X4.1.t.length e42]), (g18, 29, #[.slice a40s X4.1.o.length c40, .slice v40s X4.1.t.length e40]), (g15, 29, #[.slice a38s X3.1.o.length c38, .slice v38s X3.1.t.length e38]), (g12, 29, #[.slice a50s X6.1.o.length c50, .slice v50s X6.1.t.length e50]), (g11, 34, #[.int .i64 1, .int .i64 0, .int .i64 (q8 - 2), .int .i64 (q9 - 1), .int .i64 5]), (g4, 29, #[.slice ad m cd, .slice vd N ed])] : List Bx) [(.slice a52s X6.1.o.length c52, .slice v52s X6.1.t.length e52, X6.1), (.slice a50s X6.1.o.length c50, .slice v50s X6.1.t.length e50, X6.1), (.slice a42s X4.1.o.length c42, .slice v42s X4.1.t.length e42, X4.1), (.slice a40s X4.1.o.length c40, .slice v40s X4.1.t.length e40, X4.1), (.slice a38s X3.1.o.length c38, .slice v38s X3.1.t.length e38, X3.1), (.slice a36s X3.1.o.length c36, .slice v36s X3.1.t.length e36, X3.1), (.slice a32s X2.1.o.length c32, .slice v32s X2.1.t.length e32, X2.1), (.slice a30s X2.1.o.length c30, .slice v30s X2.1.t.length e30, X2.1), (.slice a28s X1.1.o.length c28, .slice v28s X1.1.t.length e28, X1.1), (.slice a26s X1.1.o.length c26, .slice v26s X1.1.t.length e26, X1.1), (.slice ad m cd, .slice vd N ed, d)] w52 from HB.out)
    clear g D hD x0 x1
    obtain ⟨y0, y1, y2, y3⟩ := (HB.out.own (g15, 29, #[.slice a38s X3.1.o.length c38, .slice v38s X3.1.t.length e38]) (by simp)).1.two
    go_upto_region 27 with fail
    generalize hw : World.setCell (World.setCell w52 _ _) _ _ = w53
    replace HB := Lib.hid (show BxL w (w.heap.size + 1) ([(g27, 34, #[.int .i64 ly.f, .int .i64 ly.g, .int .i64 ly.o, .int .i64 ly.c, .int .i64 ly.r]), (g26, 34, #[.int .i64 ly.f, .int .i64 ly.g, .int .i64 ly.o, .int .i64 ly.c, .int .i64 ly.r]), (g21, 29, #[.slice a42s X4.1.o.length c42, .slice v42s X4.1.t.length e42]), (g18, 29, #[.slice a40s X4.1.o.length c40, .slice v40s X4.1.t.length e40]), (g15, 29, #[.slice a52s X6.1.o.length c52, .slice v52s X6.1.t.length e52]), (g12, 29, #[.slice a50s X6.1.o.length c50, .slice v50s X6.1.t.length e50]), (g11, 34, #[.int .i64 1, .int .i64 0, .int .i64 (q8 - 2), .int .i64 (q9 - 1), .int .i64 5]), (g4, 29, #[.slice ad m cd, .slice vd N ed])] : List Bx) [(.slice a52s X6.1.o.length c52, .slice v52s X6.1.t.length e52, X6.1), (.slice a50s X6.1.o.length c50, .slice v50s X6.1.t.length e50, X6.1), (.slice a42s X4.1.o.length c42, .slice v42s X4.1.t.length e42, X4.1), (.slice a40s X4.1.o.length c40, .slice v40s X4.1.t.length e40, X4.1), (.slice a38s X3.1.o.length c38, .slice v38s X3.1.t.length e38, X3.1), (.slice a36s X3.1.o.length c36, .slice v36s X3.1.t.length e36, X3.1), (.slice a32s X2.1.o.length c32, .slice v32s X2.1.t.length e32, X2.1), (.slice a30s X2.1.o.length c30, .slice v30s X2.1.t.length e30, X2.1), (.slice a28s X1.1.o.length c28, .slice v28s X1.1.t.length e28, X1.1), (.slice a26s X1.1.o.length c26, .slice v26s X1.1.t.length e26, X1.1), (.slice ad m cd, .slice vd N ed, d)] w53 from BxL.put (l1 := [(g27, 34, #[.int .i64 ly.f, .int .i64 ly.g, .int .i64 ly.o, .int .i64 ly.c, .int .i64 ly.r]), (g26, 34, #[.int .i64 ly.f, .int .i64 ly.g, .int .i64 ly.o, .int .i64 ly.c, .int .i64 ly.r]), (g21, 29, #[.slice a42s X4.1.o.length c42, .slice v42s X4.1.t.length e42]), (g18, 29, #[.slice a40s X4.1.o.length c40, .slice v40s X4.1.t.length e40])]) (l2 := [(g12, 29, #[.slice a50s X6.1.o.length c50, .slice v50s X6.1.t.length e50]), (g11, 34, #[.int .i64 1, .int .i64 0, .int .i64 (q8 - 2), .int .i64 (q9 - 1), .int .i64 5]), (g4, 29, #[.slice ad m cd, .slice vd N ed])]) HB.out hw)
    clear hw y0 y1 y2 y3
    clear z0 z1 z2 z3 z4
    obtain ⟨u0, u1, u2, u3, u4⟩ := (HB.out.own (g26, 34, #[.int .i64 ly.f, .int .i64 ly.g, .int .i64 ly.o, .int .i64 ly.c, .int .i64 ly.r]) (by simp)).1.fiveD
    obtain ⟨v0, v1, v2, v3, v4⟩ := (HB.out.own (g27, 34, #[.int .i64 ly.f, .int .i64 ly.g, .int .i64 ly.o, .int .i64 ly.c, .int .i64 ly.r]) (by simp)).1.fiveD
    obtain ⟨x0, x1, -, -⟩ := (HB.out.own (g12, 29, #[.slice a50s X6.1.o.length c50, .slice v50s X6.1.t.length e50]) (by simp)).1.two
    obtain ⟨y0, y1, -, -⟩ := (HB.out.own (g15, 29, #[.slice a52s X6.1.o.length c52, .slice v52s X6.1.t.length e52]) (by simp)).1.two
    obtain ⟨z0, z1, -, -⟩ := (HB.out.own (g4, 29, #[.slice ad m cd, .slice vd N ed]) (by simp)).1.two
    have hnn : ∀ w : World, (binOp .neq 34 (dsV ly) (dsV ly)).run Try.prog w = .ok (.bool false) w := fun w => run_nn w ly
    dsimp only [dsV] at hnn
    have hD2 : DdP _ _ (.slice a52s X6.1.o.length c52) (.slice v52s X6.1.t.length e52) (X6.1) := HB.out.dd (.slice a52s X6.1.o.length c52, .slice v52s X6.1.t.length e52, X6.1) (by simp)
    have hD1 : DdP _ _ (.slice a50s X6.1.o.length c50) (.slice v50s X6.1.t.length e50) (X6.1) := HB.out.dd (.slice a50s X6.1.o.length c50, .slice v50s X6.1.t.length e50, X6.1) (by simp)
    have hD : DdP _ _ (.slice ad m cd) (.slice vd N ed) (d) := HB.out.dd (.slice ad m cd, .slice vd N ed, d) (by simp)
    replace hD1 := hD1.rd.grew (Grew.refl _).drew
    replace hD2 := hD2.rd.grew (Grew.refl _).drew
    replace hD := hD.rd.grew (Grew.refl _).drew
    have hs1 := SX6.out.o
    have hs2 := SX6.out.t
    have hs3 := SX6.out.r
    replace HB := Lib.hid (HB.out.grew (Grew.refl _).drew)
    go_upto_region 27 with fail
    refine wp_region_held_drew (S := fun w' => w'.cell? ⟨g26, 0, none⟩ = some (.int .i64 ly.f) ∧ w'.cell? ⟨g26, 1, none⟩ = some (.int .i64 ly.g) ∧ w'.cell? ⟨g26, 2, none⟩ = some (.int .i64 ly.o) ∧ w'.cell? ⟨g26, 3, none⟩ = some (.int .i64 ly.c) ∧ w'.cell? ⟨g26, 4, none⟩ = some (.int .i64 ly.r) ∧ w'.cell? ⟨g27, 0, none⟩ = some (.int .i64 ly.f) ∧ w'.cell? ⟨g27, 1, none⟩ = some (.int .i64 ly.g) ∧ w'.cell? ⟨g27, 2, none⟩ = some (.int .i64 ly.o) ∧ w'.cell? ⟨g27, 3, none⟩ = some (.int .i64 ly.c) ∧ w'.cell? ⟨g27, 4, none⟩ = some (.int .i64 ly.r) ∧ w'.cell? ⟨g12, 0, none⟩ = some (.slice a50s X6.1.o.length c50) ∧ w'.cell? ⟨g12, 1, none⟩ = some (.slice v50s X6.1.t.length e50) ∧ w'.cell? ⟨g15, 0, none⟩ = some (.slice a52s X6.1.o.length c52) ∧ w'.cell? ⟨g15, 1, none⟩ = some (.slice v52s X6.1.t.length e52) ∧ w'.cell? ⟨g4, 0, none⟩ = some (.slice ad m cd) ∧ w'.cell? ⟨g4, 1, none⟩ = some (.slice vd N ed)) (by kernel_rfl) ?_ (fun hHeld => ?_)
    · (try dsimp only); (refine ⟨?_, ?_, ?_, ?_, ?_, ?_, ?_, ?_, ?_, ?_, ?_, ?_, ?_, ?_, ?_, ?_⟩ <;> (repeat (first | (with_reducible assumption) | (with_reducible refine far_drew ?_))))
    first | refine wpAnyH_take (i := 0) (v := undef) rfl (by kernel_rfl) (by kernel_rfl) (by kernel_rfl) (fun _ _ _ h => h) (Or.inr ⟨by rfl, rfl⟩) (by assumption) ?_ | (refine' wpAnyH_take (i := 0) (v := _) rfl (by kernel_rfl) (by kernel_rfl) (by kernel_rfl) (fun _ _ _ h => h) (Or.inl ⟨by rfl, ?hy0k⟩) (by assumption) ?rest0k; case hy0k => (intro w hSw; (try dsimp only at hSw); (first | (go_simp; done) | (go_simp; with_reducible rfl))))
    try simp only [Act.put, List.setIfInBounds_toArray, List.set_cons_zero, List.set_cons_succ, List.getElem_toArray, List.getElem_cons_zero]
    first | refine wpAnyH_take (i := 1) (v := undef) rfl (by kernel_rfl) (by kernel_rfl) (by kernel_rfl) (fun _ _ _ h => h) (Or.inr ⟨by rfl, rfl⟩) (by assumption) ?_ | (refine' wpAnyH_take (i := 1) (v := _) rfl (by kernel_rfl) (by kernel_rfl) (by kernel_rfl) (fun _ _ _ h => h) (Or.inl ⟨by rfl, ?hy1k⟩) (by assumption) ?rest1k; case hy1k => (intro w hSw; (try dsimp only at hSw); (first | (go_simp; done) | (go_simp; with_reducible rfl))))
    try simp only [Act.put, List.setIfInBounds_toArray, List.set_cons_zero, List.set_cons_succ, List.getElem_toArray, List.getElem_cons_zero, List.getElem_cons_succ]
    first | refine wpAnyH_take (i := 2) (v := undef) rfl (by kernel_rfl) (by kernel_rfl) (by kernel_rfl) (fun _ _ _ h => h) (Or.inr ⟨by rfl, rfl⟩) (by assumption) ?_ | (refine' wpAnyH_take (i := 2) (v := _) rfl (by kernel_rfl) (by kernel_rfl) (by kernel_rfl) (fun _ _ _ h => h) (Or.inl ⟨by rfl, ?hy2k⟩) (by assumption) ?rest2k; case hy2k => (intro w hSw; (try dsimp only at hSw); (first | (go_simp; done) | (go_simp; with_reducible rfl))))
    try simp only [Act.put, List.setIfInBounds_toArray, List.set_cons_zero, List.set_cons_succ, List.getElem_toArray, List.getElem_cons_zero, List.getElem_cons_succ]
    first | refine wpAnyH_take (i := 3) (v := undef) rfl (by kernel_rfl) (by kernel_rfl) (by kernel_rfl) (fun _ _ _ h => h) (Or.inr ⟨by rfl, rfl⟩) (by assumption) ?_ | (refine' wpAnyH_take (i := 3) (v := _) rfl (by kernel_rfl) (by kernel_rfl) (by kernel_rfl) (fun _ _ _ h => h) (Or.inl ⟨by rfl, ?hy3k⟩) (by assumption) ?rest3k; case hy3k => (intro w hSw; (try dsimp only at hSw); (first | (go_simp; done) | (go_simp; with_reducible rfl))))
    try simp only [Act.put, List.setIfInBounds_toArray, List.set_cons_zero, List.set_cons_succ, List.getElem_toArray, List.getElem_cons_zero, List.getElem_cons_succ]
    first | refine wpAnyH_take (i := 4) (v := undef) rfl (by kernel_rfl) (by kernel_rfl) (by kernel_rfl) (fun _ _ _ h => h) (Or.inr ⟨by rfl, rfl⟩) (by assumption) ?_ | (refine' wpAnyH_take (i := 4) (v := _) rfl (by kernel_rfl) (by kernel_rfl) (by kernel_rfl) (fun _ _ _ h => h) (Or.inl ⟨by rfl, ?hy4k⟩) (by assumption) ?rest4k; case hy4k => (intro w hSw; (try dsimp only at hSw); (first | (go_simp; done) | (go_simp; with_reducible rfl))))
    try simp only [Act.put, List.setIfInBounds_toArray, List.set_cons_zero, List.set_cons_succ, List.getElem_toArray, List.getElem_cons_zero, List.getElem_cons_succ]
    first | refine wpAnyH_take (i := 5) (v := undef) rfl (by kernel_rfl) (by kernel_rfl) (by kernel_rfl) (fun _ _ _ h => h) (Or.inr ⟨by rfl, rfl⟩) (by assumption) ?_ | (refine' wpAnyH_take (i := 5) (v := _) rfl (by kernel_rfl) (by kernel_rfl) (by kernel_rfl) (fun _ _ _ h => h) (Or.inl ⟨by rfl, ?hy5k⟩) (by assumption) ?rest5k; case hy5k => (intro w hSw; (try dsimp only at hSw); (first | (go_simp; done) | (go_simp; with_reducible rfl))))
    try simp only [Act.put, List.setIfInBounds_toArray, List.set_cons_zero, List.set_cons_succ, List.getElem_toArray, List.getElem_cons_zero, List.getElem_cons_succ]
    first | refine wpAnyH_take (i := 6) (v := undef) rfl (by kernel_rfl) (by kernel_rfl) (by kernel_rfl) (fun _ _ _ h => h) (Or.inr ⟨by rfl, rfl⟩) (by assumption) ?_ | (refine' wpAnyH_take (i := 6) (v := _) rfl (by kernel_rfl) (by kernel_rfl) (by kernel_rfl) (fun _ _ _ h => h) (Or.inl ⟨by rfl, ?hy6k⟩) (by assumption) ?rest6k; case hy6k => (intro w hSw; (try dsimp only at hSw); (first | (go_simp; done) | (go_simp; with_reducible rfl))))
    try simp only [Act.put, List.setIfInBounds_toArray, List.set_cons_zero, List.set_cons_succ, List.getElem_toArray, List.getElem_cons_zero, List.getElem_cons_succ]
    first | refine wpAnyH_take (i := 7) (v := undef) rfl (by kernel_rfl) (by kernel_rfl) (by kernel_rfl) (fun _ _ _ h => h) (Or.inr ⟨by rfl, rfl⟩) (by assumption) ?_ | (refine' wpAnyH_take (i := 7) (v := _) rfl (by kernel_rfl) (by kernel_rfl) (by kernel_rfl) (fun _ _ _ h => h) (Or.inl ⟨by rfl, ?hy7k⟩) (by assumption) ?rest7k; case hy7k => (intro w hSw; (try dsimp only at hSw); (first | (go_simp; done) | (go_simp; with_reducible rfl))))
    try simp only [Act.put, List.setIfInBounds_toArray, List.set_cons_zero, List.set_cons_succ, List.getElem_toArray, List.getElem_cons_zero, List.getElem_cons_succ]
    first | refine wpAnyH_take (i := 8) (v := undef) rfl (by kernel_rfl) (by kernel_rfl) (by kernel_rfl) (fun _ _ _ h => h) (Or.inr ⟨by rfl, rfl⟩) (by assumption) ?_ | (refine' wpAnyH_take (i := 8) (v := _) rfl (by kernel_rfl) (by kernel_rfl) (by kernel_rfl) (fun _ _ _ h => h) (Or.inl ⟨by rfl, ?hy8k⟩) (by assumption) ?rest8k; case hy8k => (intro w hSw; (try dsimp only at hSw); (first | (go_simp; done) | (go_simp; with_reducible rfl))))
    try simp only [Act.put, List.setIfInBounds_toArray, List.set_cons_zero, List.set_cons_succ, List.getElem_toArray, List.getElem_cons_zero, List.getElem_cons_succ]
    first | refine wpAnyH_take (i := 9) (v := undef) rfl (by kernel_rfl) (by kernel_rfl) (by kernel_rfl) (fun _ _ _ h => h) (Or.inr ⟨by rfl, rfl⟩) (by assumption) ?_ | (refine' wpAnyH_take (i := 9) (v := _) rfl (by kernel_rfl) (by kernel_rfl) (by kernel_rfl) (fun _ _ _ h => h) (Or.inl ⟨by rfl, ?hy9k⟩) (by assumption) ?rest9k; case hy9k => (intro w hSw; (try dsimp only at hSw); (first | (go_simp; done) | (go_simp; with_reducible rfl))))
    try simp only [Act.put, List.setIfInBounds_toArray, List.set_cons_zero, List.set_cons_succ, List.getElem_toArray, List.getElem_cons_zero, List.getElem_cons_succ]
    first | refine wpAnyH_take (i := 10) (v := undef) rfl (by kernel_rfl) (by kernel_rfl) (by kernel_rfl) (fun _ _ _ h => h) (Or.inr ⟨by rfl, rfl⟩) (by assumption) ?_ | (refine' wpAnyH_take (i := 10) (v := _) rfl (by kernel_rfl) (by kernel_rfl) (by kernel_rfl) (fun _ _ _ h => h) (Or.inl ⟨by rfl, ?hy10k⟩) (by assumption) ?rest10k; case hy10k => (intro w hSw; (try dsimp only at hSw); (first | (go_simp; done) | (go_simp; with_reducible rfl))))
    try simp only [Act.put, List.setIfInBounds_toArray, List.set_cons_zero, List.set_cons_succ, List.getElem_toArray, List.getElem_cons_zero, List.getElem_cons_succ]
    first | refine wpAnyH_take (i := 11) (v := undef) rfl (by kernel_rfl) (by kernel_rfl) (by kernel_rfl) (fun _ _ _ h => h) (Or.inr ⟨by rfl, rfl⟩) (by assumption) ?_ | (refine' wpAnyH_take (i := 11) (v := _) rfl (by kernel_rfl) (by kernel_rfl) (by kernel_rfl) (fun _ _ _ h => h) (Or.inl ⟨by rfl, ?hy11k⟩) (by assumption) ?rest11k; case hy11k => (intro w hSw; (try dsimp only at hSw); (first | (go_simp; done) | (go_simp; with_reducible rfl))))
    try simp only [Act.put, List.setIfInBounds_toArray, List.set_cons_zero, List.set_cons_succ, List.getElem_toArray, List.getElem_cons_zero, List.getElem_cons_succ]
    first | refine wpAnyH_take (i := 12) (v := undef) rfl (by kernel_rfl) (by kernel_rfl) (by kernel_rfl) (fun _ _ _ h => h) (Or.inr ⟨by rfl, rfl⟩) (by assumption) ?_ | (refine' wpAnyH_take (i := 12) (v := _) rfl (by kernel_rfl) (by kernel_rfl) (by kernel_rfl) (fun _ _ _ h => h) (Or.inl ⟨by rfl, ?hy12k⟩) (by assumption) ?rest12k; case hy12k => (intro w hSw; (try dsimp only at hSw); (first | (go_simp; done) | (go_simp; with_reducible rfl))))
    try simp only [Act.put, List.setIfInBounds_toArray, List.set_cons_zero, List.set_cons_succ, List.getElem_toArray, List.getElem_cons_zero, List.getElem_cons_succ]
    first | refine wpAnyH_take (i := 13) (v := undef) rfl (by kernel_rfl) (by kernel_rfl) (by kernel_rfl) (fun _ _ _ h => h) (Or.inr ⟨by rfl, rfl⟩) (by assumption) ?_ | (refine' wpAnyH_take (i := 13) (v := _) rfl (by kernel_rfl) (by kernel_rfl) (by kernel_rfl) (fun _ _ _ h => h) (Or.inl ⟨by rfl, ?hy13k⟩) (by assumption) ?rest13k; case hy13k => (intro w hSw; (try dsimp only at hSw); (first | (go_simp; done) | (go_simp; with_reducible rfl))))
    try simp only [Act.put, List.setIfInBounds_toArray, List.set_cons_zero, List.set_cons_succ, List.getElem_toArray, List.getElem_cons_zero, List.getElem_cons_succ]
    first | refine wpAnyH_take (i := 14) (v := undef) rfl (by kernel_rfl) (by kernel_rfl) (by kernel_rfl) (fun _ _ _ h => h) (Or.inr ⟨by rfl, rfl⟩) (by assumption) ?_ | (refine' wpAnyH_take (i := 14) (v := _) rfl (by kernel_rfl) (by kernel_rfl) (by kernel_rfl) (fun _ _ _ h => h) (Or.inl ⟨by rfl, ?hy14k⟩) (by assumption) ?rest14k; case hy14k => (intro w hSw; (try dsimp only at hSw); (first | (go_simp; done) | (go_simp; with_reducible rfl))))
    try simp only [Act.put, List.setIfInBounds_toArray, List.set_cons_zero, List.set_cons_succ, List.getElem_toArray, List.getElem_cons_zero, List.getElem_cons_succ]
    first | refine wpAnyH_take (i := 15) (v := undef) rfl (by kernel_rfl) (by kernel_rfl) (by kernel_rfl) (fun _ _ _ h => h) (Or.inr ⟨by rfl, rfl⟩) (by assumption) ?_ | (refine' wpAnyH_take (i := 15) (v := _) rfl (by kernel_rfl) (by kernel_rfl) (by kernel_rfl) (fun _ _ _ h => h) (Or.inl ⟨by rfl, ?hy15k⟩) (by assumption) ?rest15k; case hy15k => (intro w hSw; (try dsimp only at hSw); (first | (go_simp; done) | (go_simp; with_reducible rfl))))
    try simp only [Act.put, List.setIfInBounds_toArray, List.set_cons_zero, List.set_cons_succ, List.getElem_toArray, List.getElem_cons_zero, List.getElem_cons_succ]
    first | refine wpAnyH_take (i := 16) (v := undef) rfl (by kernel_rfl) (by kernel_rfl) (by kernel_rfl) (fun _ _ _ h => h) (Or.inr ⟨by rfl, rfl⟩) (by assumption) ?_ | (refine' wpAnyH_take (i := 16) (v := _) rfl (by kernel_rfl) (by kernel_rfl) (by kernel_rfl) (fun _ _ _ h => h) (Or.inl ⟨by rfl, ?hy16k⟩) (by assumption) ?rest16k; case hy16k => (intro w hSw; (try dsimp only at hSw); (first | (go_simp; done) | (go_simp; with_reducible rfl))))
    try simp only [Act.put, List.setIfInBounds_toArray, List.set_cons_zero, List.set_cons_succ, List.getElem_toArray, List.getElem_cons_zero, List.getElem_cons_succ]
    first | refine wpAnyH_take (i := 17) (v := undef) rfl (by kernel_rfl) (by kernel_rfl) (by kernel_rfl) (fun _ _ _ h => h) (Or.inr ⟨by rfl, rfl⟩) (by assumption) ?_ | (refine' wpAnyH_take (i := 17) (v := _) rfl (by kernel_rfl) (by kernel_rfl) (by kernel_rfl) (fun _ _ _ h => h) (Or.inl ⟨by rfl, ?hy17k⟩) (by assumption) ?rest17k; case hy17k => (intro w hSw; (try dsimp only at hSw); (first | (go_simp; done) | (go_simp; with_reducible rfl))))
    try simp only [Act.put, List.setIfInBounds_toArray, List.set_cons_zero, List.set_cons_succ, List.getElem_toArray, List.getElem_cons_zero, List.getElem_cons_succ]
    first | refine wpAnyH_take (i := 18) (v := undef) rfl (by kernel_rfl) (by kernel_rfl) (by kernel_rfl) (fun _ _ _ h => h) (Or.inr ⟨by rfl, rfl⟩) (by assumption) ?_ | (refine' wpAnyH_take (i := 18) (v := _) rfl (by kernel_rfl) (by kernel_rfl) (by kernel_rfl) (fun _ _ _ h => h) (Or.inl ⟨by rfl, ?hy18k⟩) (by assumption) ?rest18k; case hy18k => (intro w hSw; (try dsimp only at hSw); (first | (go_simp; done) | (go_simp; with_reducible rfl))))
    try simp only [Act.put, List.setIfInBounds_toArray, List.set_cons_zero, List.set_cons_succ, List.getElem_toArray, List.getElem_cons_zero, List.getElem_cons_succ]
    first | refine wpAnyH_take (i := 19) (v := undef) rfl (by kernel_rfl) (by kernel_rfl) (by kernel_rfl) (fun _ _ _ h => h) (Or.inr ⟨by rfl, rfl⟩) (by assumption) ?_ | (refine' wpAnyH_take (i := 19) (v := _) rfl (by kernel_rfl) (by kernel_rfl) (by kernel_rfl) (fun _ _ _ h => h) (Or.inl ⟨by rfl, ?hy19k⟩) (by assumption) ?rest19k; case hy19k => (intro w hSw; (try dsimp only at hSw); (first | (go_simp; done) | (go_simp; with_reducible rfl))))
    try simp only [Act.put, List.setIfInBounds_toArray, List.set_cons_zero, List.set_cons_succ, List.getElem_toArray, List.getElem_cons_zero, List.getElem_cons_succ]
    first | refine wpAnyH_take (i := 20) (v := undef) rfl (by kernel_rfl) (by kernel_rfl) (by kernel_rfl) (fun _ _ _ h => h) (Or.inr ⟨by rfl, rfl⟩) (by assumption) ?_ | (refine' wpAnyH_take (i := 20) (v := _) rfl (by kernel_rfl) (by kernel_rfl) (by kernel_rfl) (fun _ _ _ h => h) (Or.inl ⟨by rfl, ?hy20k⟩) (by assumption) ?rest20k; case hy20k => (intro w hSw; (try dsimp only at hSw); (first | (go_simp; done) | (go_simp; with_reducible rfl))))
    try simp only [Act.put, List.setIfInBounds_toArray, List.set_cons_zero, List.set_cons_succ, List.getElem_toArray, List.getElem_cons_zero, List.getElem_cons_succ]
    refine wpAnyH_ready (rs := [21]) (by kernel_rfl) (by simp) ?_
    refine AllReadyH.cons rfl (fun K hK => ?_) AllReadyH.nil
    try simp only [Act.put, List.setIfInBounds_toArray, List.set_cons_zero, List.set_cons_succ, List.getElem_toArray, List.getElem_cons_zero, List.getElem_cons_succ]
    go_simp; go_at_call 14; (with_reducible refine (same_q hD1 hD2 hs1 hs2 hs3).mono ?_); rintro e t1 ⟨rfl, g⟩; replace HB := Lib.hid (HB.out.grew g); replace hD := hD.grew g; replace u0 := (g.cells.1 _ _ (World.block_lt_of_cell? _ _ u0)).trans u0; replace u1 := (g.cells.1 _ _ (World.block_lt_of_cell? _ _ u1)).trans u1; replace u2 := (g.cells.1 _ _ (World.block_lt_of_cell? _ _ u2)).trans u2; replace u3 := (g.cells.1 _ _ (World.block_lt_of_cell? _ _ u3)).trans u3; replace u4 := (g.cells.1 _ _ (World.block_lt_of_cell? _ _ u4)).trans u4; replace v0 := (g.cells.1 _ _ (World.block_lt_of_cell? _ _ v0)).trans v0; replace v1 := (g.cells.1 _ _ (World.block_lt_of_cell? _ _ v1)).trans v1; replace v2 := (g.cells.1 _ _ (World.block_lt_of_cell? _ _ v2)).trans v2; replace v3 := (g.cells.1 _ _ (World.block_lt_of_cell? _ _ v3)).trans v3; replace v4 := (g.cells.1 _ _ (World.block_lt_of_cell? _ _ v4)).trans v4; replace x0 := (g.cells.1 _ _ (World.block_lt_of_cell? _ _ x0)).trans x0; replace x1 := (g.cells.1 _ _ (World.block_lt_of_cell? _ _ x1)).trans x1; replace y0 := (g.cells.1 _ _ (World.block_lt_of_cell? _ _ y0)).trans y0; replace y1 := (g.cells.1 _ _ (World.block_lt_of_cell? _ _ y1)).trans y1; replace z0 := (g.cells.1 _ _ (World.block_lt_of_cell? _ _ z0)).trans z0; replace z1 := (g.cells.1 _ _ (World.block_lt_of_cell? _ _ z1)).trans z1; clear g hD1 hD2
    refine hK.out _ _ ?_ (fun hHeld => ?_)
    · (try dsimp only); (refine ⟨?_, ?_, ?_, ?_, ?_, ?_, ?_, ?_, ?_, ?_, ?_, ?_, ?_, ?_, ?_, ?_⟩ <;> (repeat (first | (with_reducible assumption) | (with_reducible refine far_drew ?_))))
    clear hK K
    try simp only [Act.put, List.setIfInBounds_toArray, List.set_cons_zero, List.set_cons_succ, List.getElem_toArray, List.getElem_cons_zero, List.getElem_cons_succ]
    first | refine wpAnyH_take (i := 22) (v := undef) rfl (by kernel_rfl) (by kernel_rfl) (by kernel_rfl) (fun _ _ _ h => h) (Or.inr ⟨by rfl, rfl⟩) (by assumption) ?_ | (refine' wpAnyH_take (i := 22) (v := _) rfl (by kernel_rfl) (by kernel_rfl) (by kernel_rfl) (fun _ _ _ h => h) (Or.inl ⟨by rfl, ?hy22k⟩) (by assumption) ?rest22k; case hy22k => (intro w hSw; (try dsimp only at hSw); (first | (go_simp; done) | (go_simp; with_reducible rfl))))
    try simp only [Act.put, List.setIfInBounds_toArray, List.set_cons_zero, List.set_cons_succ, List.getElem_toArray, List.getElem_cons_zero, List.getElem_cons_succ]
    first | refine wpAnyH_take (i := 23) (v := undef) rfl (by kernel_rfl) (by kernel_rfl) (by kernel_rfl) (fun _ _ _ h => h) (Or.inr ⟨by rfl, rfl⟩) (by assumption) ?_ | (refine' wpAnyH_take (i := 23) (v := _) rfl (by kernel_rfl) (by kernel_rfl) (by kernel_rfl) (fun _ _ _ h => h) (Or.inl ⟨by rfl, ?hy23k⟩) (by assumption) ?rest23k; case hy23k => (intro w hSw; (try dsimp only at hSw); (first | (go_simp; done) | (go_simp; with_reducible rfl))))
    try simp only [Act.put, List.setIfInBounds_toArray, List.set_cons_zero, List.set_cons_succ, List.getElem_toArray, List.getElem_cons_zero, List.getElem_cons_succ]
    first | refine wpAnyH_take (i := 24) (v := undef) rfl (by kernel_rfl) (by kernel_rfl) (by kernel_rfl) (fun _ _ _ h => h) (Or.inr ⟨by rfl, rfl⟩) (by assumption) ?_ | (refine' wpAnyH_take (i := 24) (v := _) rfl (by kernel_rfl) (by kernel_rfl) (by kernel_rfl) (fun _ _ _ h => h) (Or.inl ⟨by rfl, ?hy24k⟩) (by assumption) ?rest24k; case hy24k => (intro w hSw; (try dsimp only at hSw); (first | (go_simp; done) | (go_simp; with_reducible rfl))))
    try simp only [Act.put, List.setIfInBounds_toArray, List.set_cons_zero, List.set_cons_succ, List.getElem_toArray, List.getElem_cons_zero, List.getElem_cons_succ]
    first | refine wpAnyH_take (i := 25) (v := undef) rfl (by kernel_rfl) (by kernel_rfl) (by kernel_rfl) (fun _ _ _ h => h) (Or.inr ⟨by rfl, rfl⟩) (by assumption) ?_ | (refine' wpAnyH_take (i := 25) (v := _) rfl (by kernel_rfl) (by kernel_rfl) (by kernel_rfl) (fun _ _ _ h => h) (Or.inl ⟨by rfl, ?hy25k⟩) (by assumption) ?rest25k; case hy25k => (intro w hSw; (try dsimp only at hSw); (first | (go_simp; done) | (go_simp; with_reducible rfl))))
    try simp only [Act.put, List.setIfInBounds_toArray, List.set_cons_zero, List.set_cons_succ, List.getElem_toArray, List.getElem_cons_zero, List.getElem_cons_succ]
    first | refine wpAnyH_take (i := 27) (v := undef) rfl (by kernel_rfl) (by kernel_rfl) (by kernel_rfl) (fun _ _ _ h => h) (Or.inr ⟨by rfl, rfl⟩) (by assumption) ?_ | (refine' wpAnyH_take (i := 27) (v := _) rfl (by kernel_rfl) (by kernel_rfl) (by kernel_rfl) (fun _ _ _ h => h) (Or.inl ⟨by rfl, ?hy27k⟩) (by assumption) ?rest27k; case hy27k => (intro w hSw; (try dsimp only at hSw); (first | (go_simp; done) | (go_simp; with_reducible rfl))))
    try simp only [Act.put, List.setIfInBounds_toArray, List.set_cons_zero, List.set_cons_succ, List.getElem_toArray, List.getElem_cons_zero, List.getElem_cons_succ]
    refine wpAnyH_ready (rs := [26]) (by kernel_rfl) (by simp) ?_
    refine AllReadyH.cons rfl (fun K hK => ?_) AllReadyH.nil
    try simp only [Act.put, List.setIfInBounds_toArray, List.set_cons_zero, List.set_cons_succ, List.getElem_toArray, List.getElem_cons_zero, List.getElem_cons_succ]
    go_simp; go_at_call 23; (with_reducible refine (check_p hD hol htl HBB.out).mono ?_); rintro e t2 ⟨rfl, g⟩; replace HB := Lib.hid (HB.out.grew g); replace hD := hD.grew g; replace u0 := (g.cells.1 _ _ (World.block_lt_of_cell? _ _ u0)).trans u0; replace u1 := (g.cells.1 _ _ (World.block_lt_of_cell? _ _ u1)).trans u1; replace u2 := (g.cells.1 _ _ (World.block_lt_of_cell? _ _ u2)).trans u2; replace u3 := (g.cells.1 _ _ (World.block_lt_of_cell? _ _ u3)).trans u3; replace u4 := (g.cells.1 _ _ (World.block_lt_of_cell? _ _ u4)).trans u4; replace v0 := (g.cells.1 _ _ (World.block_lt_of_cell? _ _ v0)).trans v0; replace v1 := (g.cells.1 _ _ (World.block_lt_of_cell? _ _ v1)).trans v1; replace v2 := (g.cells.1 _ _ (World.block_lt_of_cell? _ _ v2)).trans v2; replace v3 := (g.cells.1 _ _ (World.block_lt_of_cell? _ _ v3)).trans v3; replace v4 := (g.cells.1 _ _ (World.block_lt_of_cell? _ _ v4)).trans v4; replace x0 := (g.cells.1 _ _ (World.block_lt_of_cell? _ _ x0)).trans x0; replace x1 := (g.cells.1 _ _ (World.block_lt_of_cell? _ _ x1)).trans x1; replace y0 := (g.cells.1 _ _ (World.block_lt_of_cell? _ _ y0)).trans y0; replace y1 := (g.cells.1 _ _ (World.block_lt_of_cell? _ _ y1)).trans y1; replace z0 := (g.cells.1 _ _ (World.block_lt_of_cell? _ _ z0)).trans z0; replace z1 := (g.cells.1 _ _ (World.block_lt_of_cell? _ _ z1)).trans z1; clear g
    refine hK.out _ _ ?_ (fun hHeld => ?_)
    · (try dsimp only); (refine ⟨?_, ?_, ?_, ?_, ?_, ?_, ?_, ?_, ?_, ?_, ?_, ?_, ?_, ?_, ?_, ?_⟩ <;> (repeat (first | (with_reducible assumption) | (with_reducible refine far_drew ?_))))
    clear hK K
    try simp only [Act.put, List.setIfInBounds_toArray, List.set_cons_zero, List.set_cons_succ, List.getElem_toArray, List.getElem_cons_zero, List.getElem_cons_succ]
    refine wpAnyH_ready (rs := [28]) (by kernel_rfl) (by simp) ?_
    refine AllReadyH.cons rfl (fun K hK => ?_) AllReadyH.nil
    try simp only [Act.put, List.setIfInBounds_toArray, List.set_cons_zero, List.set_cons_succ, List.getElem_toArray, List.getElem_cons_zero, List.getElem_cons_succ]
    go_simp; go_at_call 24; (with_reducible refine (check_q hD hol htl HBB.out).mono ?_); rintro e t3 ⟨rfl, g⟩; replace HB := Lib.hid (HB.out.grew g); replace hD := hD.grew g; replace u0 := (g.cells.1 _ _ (World.block_lt_of_cell? _ _ u0)).trans u0; replace u1 := (g.cells.1 _ _ (World.block_lt_of_cell? _ _ u1)).trans u1; replace u2 := (g.cells.1 _ _ (World.block_lt_of_cell? _ _ u2)).trans u2; replace u3 := (g.cells.1 _ _ (World.block_lt_of_cell? _ _ u3)).trans u3; replace u4 := (g.cells.1 _ _ (World.block_lt_of_cell? _ _ u4)).trans u4; replace v0 := (g.cells.1 _ _ (World.block_lt_of_cell? _ _ v0)).trans v0; replace v1 := (g.cells.1 _ _ (World.block_lt_of_cell? _ _ v1)).trans v1; replace v2 := (g.cells.1 _ _ (World.block_lt_of_cell? _ _ v2)).trans v2; replace v3 := (g.cells.1 _ _ (World.block_lt_of_cell? _ _ v3)).trans v3; replace v4 := (g.cells.1 _ _ (World.block_lt_of_cell? _ _ v4)).trans v4; replace x0 := (g.cells.1 _ _ (World.block_lt_of_cell? _ _ x0)).trans x0; replace x1 := (g.cells.1 _ _ (World.block_lt_of_cell? _ _ x1)).trans x1; replace y0 := (g.cells.1 _ _ (World.block_lt_of_cell? _ _ y0)).trans y0; replace y1 := (g.cells.1 _ _ (World.block_lt_of_cell? _ _ y1)).trans y1; replace z0 := (g.cells.1 _ _ (World.block_lt_of_cell? _ _ z0)).trans z0; replace z1 := (g.cells.1 _ _ (World.block_lt_of_cell? _ _ z1)).trans z1; clear g hD
    refine hK.out _ _ ?_ (fun hHeld => ?_)
    · (try dsimp only); (refine ⟨?_, ?_, ?_, ?_, ?_, ?_, ?_, ?_, ?_, ?_, ?_, ?_, ?_, ?_, ?_, ?_⟩ <;> (repeat (first | (with_reducible assumption) | (with_reducible refine far_drew ?_))))
    clear hK K
    try simp only [Act.put, List.setIfInBounds_toArray, List.set_cons_zero, List.set_cons_succ, List.getElem_toArray, List.getElem_cons_zero, List.getElem_cons_succ]
    first | refine wpAnyH_take (i := 29) (v := undef) rfl (by kernel_rfl) (by kernel_rfl) (by kernel_rfl) (fun _ _ _ h => h) (Or.inr ⟨by rfl, rfl⟩) (by assumption) ?_ | (refine' wpAnyH_take (i := 29) (v := _) rfl (by kernel_rfl) (by kernel_rfl) (by kernel_rfl) (fun _ _ _ h => h) (Or.inl ⟨by rfl, ?hy29k⟩) (by assumption) ?rest29k; case hy29k => (intro w hSw; (try dsimp only at hSw); (first | (go_simp; done) | (go_simp; with_reducible rfl))))
    try simp only [Act.put, List.setIfInBounds_toArray, List.set_cons_zero, List.set_cons_succ, List.getElem_toArray, List.getElem_cons_zero, List.getElem_cons_succ]
    first | refine wpAnyH_take (i := 30) (v := undef) rfl (by kernel_rfl) (by kernel_rfl) (by kernel_rfl) (fun _ _ _ h => h) (Or.inr ⟨by rfl, rfl⟩) (by assumption) ?_ | (refine' wpAnyH_take (i := 30) (v := _) rfl (by kernel_rfl) (by kernel_rfl) (by kernel_rfl) (fun _ _ _ h => h) (Or.inl ⟨by rfl, ?hy30k⟩) (by assumption) ?rest30k; case hy30k => (intro w hSw; (try dsimp only at hSw); (first | (go_simp; done) | (go_simp; with_reducible rfl))))
    try simp only [Act.put, List.setIfInBounds_toArray, List.set_cons_zero, List.set_cons_succ, List.getElem_toArray, List.getElem_cons_zero, List.getElem_cons_succ]
    refine wpAnyH_done (by kernel_rfl) ?_ _
    clear u0 u1 u2 u3 u4 v0 v1 v2 v3 v4 x0 x1 y0 y1 z0 z1 hnn
    replace HB := Lib.hid (show BxL w (w.heap.size + 1) ([(g27, 34, #[.int .i64 ly.f, .int .i64 ly.g, .int .i64 ly.o, .int .i64 ly.c, .int .i64 ly.r]), (g26, 34, #[.int .i64 ly.f, .int .i64 ly.g, .int .i64 ly.o, .int .i64 ly.c, .int .i64 ly.r]), (g21, 29, #[.slice a42s X4.1.o.length c42, .slice v42s X4.1.t.length e42]), (g18, 29, #[.slice a40s X4.1.o.length c40, .slice v40s X4.1.t.length e40]), (g15, 29, #[.slice a52s X6.1.o.length c52, .slice v52s X6.1.t.length e52]), (g12, 29, #[.slice a50s X6.1.o.length c50, .slice v50s X6.1.t.length e50]), (g11, 34, #[.int .i64 1, .int .i64 0, .int .i64 (q8 - 2), .int .i64 (q9 - 1), .int .i64 5]), (g4, 29, #[.slice ad m cd, .slice vd N ed])] : List Bx) [(.slice a52s X6.1.o.length c52, .slice v52s X6.1.t.length e52, X6.1), (.slice a50s X6.1.o.length c50, .slice v50s X6.1.t.length e50, X6.1), (.slice a42s X4.1.o.length c42, .slice v42s X4.1.t.length e42, X4.1), (.slice a40s X4.1.o.length c40, .slice v40s X4.1.t.length e40, X4.1), (.slice a38s X3.1.o.length c38, .slice v38s X3.1.t.length e38, X3.1), (.slice a36s X3.1.o.length c36, .slice v36s X3.1.t.length e36, X3.1), (.slice a32s X2.1.o.length c32, .slice v32s X2.1.t.length e32, X2.1), (.slice a30s X2.1.o.length c30, .slice v30s X2.1.t.length e30, X2.1), (.slice a28s X1.1.o.length c28, .slice v28s X1.1.t.length e28, X1.1), (.slice a26s X1.1.o.length c26, .slice v26s X1.1.t.length e26, X1.1), (.slice ad m cd, .slice vd N ed, d)] t3 from HB.out)
    go_upto_region 29 with fail
    go_wp2_with fail
    with_reducible refine (new_p HX7.out).mono ?_
    rintro e w54 ⟨a54, v54, rfl, D, g⟩
    replace D := D.mono (q := pW (pS (w.heap.size + 1) (([(g27, 34, #[.int .i64 ly.f, .int .i64 ly.g, .int .i64 ly.o, .int .i64 ly.c, .int .i64 ly.r]), (g26, 34, #[.int .i64 ly.f, .int .i64 ly.g, .int .i64 ly.o, .int .i64 ly.c, .int .i64 ly.r]), (g21, 29, #[.slice a42s X4.1.o.length c42, .slice v42s X4.1.t.length e42]), (g18, 29, #[.slice a40s X4.1.o.length c40, .slice v40s X4.1.t.length e40]), (g15, 29, #[.slice a52s X6.1.o.length c52, .slice v52s X6.1.t.length e52]), (g12, 29, #[.slice a50s X6.1.o.length c50, .slice v50s X6.1.t.length e50]), (g11, 34, #[.int .i64 1, .int .i64 0, .int .i64 (q8 - 2), .int .i64 (q9 - 1), .int .i64 5]), (g4, 29, #[.slice ad m cd, .slice vd N ed])] : List Bx).map (·.1))) t3) (fun z hz => .inr (hz.resolve_left id))
    obtain ⟨a54s, c54, rfl, -, -⟩ := D.rd.o.slice
    obtain ⟨v54s, e54, rfl, -, -⟩ := D.rd.t.slice
    replace HB := Lib.hid (HB.out.add g D)
    replace HB := Lib.hid (show BxL w (w.heap.size + 1) ([(g27, 34, #[.int .i64 ly.f, .int .i64 ly.g, .int .i64 ly.o, .int .i64 ly.c, .int .i64 ly.r]), (g26, 34, #[.int .i64 ly.f, .int .i64 ly.g, .int .i64 ly.o, .int .i64 ly.c, .int .i64 ly.r]), (g21, 29, #[.slice a42s X4.1.o.length c42, .slice v42s X4.1.t.length e42]), (g18, 29, #[.slice a40s X4.1.o.length c40, .slice v40s X4.1.t.length e40]), (g15, 29, #[.slice a52s X6.1.o.length c52, .slice v52s X6.1.t.length e52]), (g12, 29, #[.slice a50s X6.1.o.length c50, .slice v50s X6.1.t.length e50]), (g11, 34, #[.int .i64 1, .int .i64 0, .int .i64 (q8 - 2), .int .i64 (q9 - 1), .int .i64 5]), (g4, 29, #[.slice ad m cd, .slice vd N ed])] : List Bx) [(.slice a54s X7.1.o.length c54, .slice v54s X7.1.t.length e54, X7.1), (.slice a52s X6.1.o.length c52, .slice v52s X6.1.t.length e52, X6.1), (.slice a50s X6.1.o.length c50, .slice v50s X6.1.t.length e50, X6.1), (.slice a42s X4.1.o.length c42, .slice v42s X4.1.t.length e42, X4.1), (.slice a40s X4.1.o.length c40, .slice v40s X4.1.t.length e40, X4.1), (.slice a38s X3.1.o.length c38, .slice v38s X3.1.t.length e38, X3.1), (.slice a36s X3.1.o.length c36, .slice v36s X3.1.t.length e36, X3.1), (.slice a32s X2.1.o.length c32, .slice v32s X2.1.t.length e32, X2.1), (.slice a30s X2.1.o.length c30, .slice v30s X2.1.t.length e30, X2.1), (.slice a28s X1.1.o.length c28, .slice v28s X1.1.t.length e28, X1.1), (.slice a26s X1.1.o.length c26, .slice v26s X1.1.t.length e26, X1.1), (.slice ad m cd, .slice vd N ed, d)] w54 from HB.out)
    clear g D
    obtain ⟨y0, y1, y2, y3⟩ := (HB.out.own (g12, 29, #[.slice a50s X6.1.o.length c50, .slice v50s X6.1.t.length e50]) (by simp)).1.two
    go_upto_region 30 with fail
    generalize hw : World.setCell (World.setCell w54 _ _) _ _ = w55
    replace HB := Lib.hid (show BxL w (w.heap.size + 1) ([(g27, 34, #[.int .i64 ly.f, .int .i64 ly.g, .int .i64 ly.o, .int .i64 ly.c, .int .i64 ly.r]), (g26, 34, #[.int .i64 ly.f, .int .i64 ly.g, .int .i64 ly.o, .int .i64 ly.c, .int .i64 ly.r]), (g21, 29, #[.slice a42s X4.1.o.length c42, .slice v42s X4.1.t.length e42]), (g18, 29, #[.slice a40s X4.1.o.length c40, .slice v40s X4.1.t.length e40]), (g15, 29, #[.slice a52s X6.1.o.length c52, .slice v52s X6.1.t.length e52]), (g12, 29, #[.slice a54s X7.1.o.length c54, .slice v54s X7.1.t.length e54]), (g11, 34, #[.int .i64 1, .int .i64 0, .int .i64 (q8 - 2), .int .i64 (q9 - 1), .int .i64 5]), (g4, 29, #[.slice ad m cd, .slice vd N ed])] : List Bx) [(.slice a54s X7.1.o.length c54, .slice v54s X7.1.t.length e54, X7.1), (.slice a52s X6.1.o.length c52, .slice v52s X6.1.t.length e52, X6.1), (.slice a50s X6.1.o.length c50, .slice v50s X6.1.t.length e50, X6.1), (.slice a42s X4.1.o.length c42, .slice v42s X4.1.t.length e42, X4.1), (.slice a40s X4.1.o.length c40, .slice v40s X4.1.t.length e40, X4.1), (.slice a38s X3.1.o.length c38, .slice v38s X3.1.t.length e38, X3.1), (.slice a36s X3.1.o.length c36, .slice v36s X3.1.t.length e36, X3.1), (.slice a32s X2.1.o.length c32, .slice v32s X2.1.t.length e32, X2.1), (.slice a30s X2.1.o.length c30, .slice v30s X2.1.t.length e30, X2.1), (.slice a28s X1.1.o.length c28, .slice v28s X1.1.t.length e28, X1.1), (.slice a26s X1.1.o.length c26, .slice v26s X1.1.t.length e26, X1.1), (.slice ad m cd, .slice vd N ed, d)] w55 from BxL.put (l1 := [(g27, 34, #[.int .i64 ly.f, .int .i64 ly.g, .int .i64 ly.o, .int .i64 ly.c, .int .i64 ly.r]), (g26, 34, #[.int .i64 ly.f, .int .i64 ly.g, .int .i64 ly.o, .int .i64 ly.c, .int .i64 ly.r]), (g21, 29, #[.slice a42s X4.1.o.length c42, .slice v42s X4.1.t.length e42]), (g18, 29, #[.slice a40s X4.1.o.length c40, .slice v40s X4.1.t.length e40]), (g15, 29, #[.slice a52s X6.1.o.length c52, .slice v52s X6.1.t.length e52])]) (l2 := [(g11, 34, #[.int .i64 1, .int .i64 0, .int .i64 (q8 - 2), .int .i64 (q9 - 1), .int .i64 5]), (g4, 29, #[.slice ad m cd, .slice vd N ed])]) HB.out hw)
    clear hw y0 y1 y2 y3
    go_wp2_with fail
    with_reducible refine (new_q HX7.out).mono ?_
    rintro e w56 ⟨a56, v56, rfl, D, g⟩
    replace D := D.mono (q := pW (pS (w.heap.size + 1) (([(g27, 34, #[.int .i64 ly.f, .int .i64 ly.g, .int .i64 ly.o, .int .i64 ly.c, .int .i64 ly.r]), (g26, 34, #[.int .i64 ly.f, .int .i64 ly.g, .int .i64 ly.o, .int .i64 ly.c, .int .i64 ly.r]), (g21, 29, #[.slice a42s X4.1.o.length c42, .slice v42s X4.1.t.length e42]), (g18, 29, #[.slice a40s X4.1.o.length c40, .slice v40s X4.1.t.length e40]), (g15, 29, #[.slice a52s X6.1.o.length c52, .slice v52s X6.1.t.length e52]), (g12, 29, #[.slice a54s X7.1.o.length c54, .slice v54s X7.1.t.length e54]), (g11, 34, #[.int .i64 1, .int .i64 0, .int .i64 (q8 - 2), .int .i64 (q9 - 1), .int .i64 5]), (g4, 29, #[.slice ad m cd, .slice vd N ed])] : List Bx).map (·.1))) w55) (fun z hz => .inr (hz.resolve_left id))
    obtain ⟨a56s, c56, rfl, -, -⟩ := D.rd.o.slice
    obtain ⟨v56s, e56, rfl, -, -⟩ := D.rd.t.slice
    replace HB := Lib.hid (HB.out.add g D)
    replace HB := Lib.hid (show BxL w (w.heap.size + 1) ([(g27, 34, #[.int .i64 ly.f, .int .i64 ly.g, .int .i64 ly.o, .int .i64 ly.c, .int .i64 ly.r]), (g26, 34, #[.int .i64 ly.f, .int .i64 ly.g, .int .i64 ly.o, .int .i64 ly.c, .int .i64 ly.r]), (g21, 29, #[.slice a42s X4.1.o.length c42, .slice v42s X4.1.t.length e42]), (g18, 29, #[.slice a40s X4.1.o.length c40, .slice v40s X4.1.t.length e40]), (g15, 29, #[.slice a52s X6.1.o.length c52, .slice v52s X6.1.t.length e52]), (g12, 29, #[.slice a54s X7.1.o.length c54, .slice v54s X7.1.t.length e54]), (g11, 34, #[.int .i64 1, .int .i64 0, .int .i64 (q8 - 2), .int .i64 (q9 - 1), .int .i64 5]), (g4, 29, #[.slice ad m cd, .slice vd N ed])] : List Bx) [(.slice a56s X7.1.o.length c56, .slice v56s X7.1.t.length e56, X7.1), (.slice a54s X7.1.o.length c54, .slice v54s X7.1.t.length e54, X7.1), (.slice a52s X6.1.o.length c52, .slice v52s X6.1.t.length e52, X6.1), (.slice a50s X6.1.o.length c50, .slice v50s X6.1.t.length e50, X6.1), (.slice a42s X4.1.o.length c42, .slice v42s X4.1.t.length e42, X4.1), (.slice a40s X4.1.o.length c40, .slice v40s X4.1.t.length e40, X4.1), (.slice a38s X3.1.o.length c38, .slice v38s X3.1.t.length e38, X3.1), (.slice a36s X3.1.o.length c36, .slice v36s X3.1.t.length e36, X3.1), (.slice a32s X2.1.o.length c32, .slice v32s X2.1.t.length e32, X2.1), (.slice a30s X2.1.o.length c30, .slice v30s X2.1.t.length e30, X2.1), (.slice a28s X1.1.o.length c28, .slice v28s X1.1.t.length e28, X1.1), (.slice a26s X1.1.o.length c26, .slice v26s X1.1.t.length e26, X1.1), (.slice ad m cd, .slice vd N ed, d)] w56 from HB.out)
    clear g D
    obtain ⟨y0, y1, y2, y3⟩ := (HB.out.own (g15, 29, #[.slice a52s X6.1.o.length c52, .slice v52s X6.1.t.length e52]) (by simp)).1.two
    go_upto_region 31 with fail
    generalize hw : World.setCell (World.setCell w56 _ _) _ _ = w57
    replace HB := Lib.hid (show BxL w (w.heap.size + 1) ([(g27, 34, #[.int .i64 ly.f, .int .i64 ly.g, .int .i64 ly.o, .int .i64 ly.c, .int .i64 ly.r]), (g26, 34, #[.int .i64 ly.f, .int .i64 ly.g, .int .i64 ly.o, .int .i64 ly.c, .int .i64 ly.r]), (g21, 29, #[.slice a42s X4.1.o.length c42, .slice v42s X4.1.t.length e42]), (g18, 29, #[.slice a40s X4.1.o.length c40, .slice v40s X4.1.t.length e40]), (g15, 29, #[.slice a56s X7.1.o.length c56, .slice v56s X7.1.t.length e56]), (g12, 29, #[.slice a54s X7.1.o.length c54, .slice v54s X7.1.t.length e54]), (g11, 34, #[.int .i64 1, .int .i64 0, .int .i64 (q8 - 2), .int .i64 (q9 - 1), .int .i64 5]), (g4, 29, #[.slice ad m cd, .slice vd N ed])] : List Bx) [(.slice a56s X7.1.o.length c56, .slice v56s X7.1.t.length e56, X7.1), (.slice a54s X7.1.o.length c54, .slice v54s X7.1.t.length e54, X7.1), (.slice a52s X6.1.o.length c52, .slice v52s X6.1.t.length e52, X6.1), (.slice a50s X6.1.o.length c50, .slice v50s X6.1.t.length e50, X6.1), (.slice a42s X4.1.o.length c42, .slice v42s X4.1.t.length e42, X4.1), (.slice a40s X4.1.o.length c40, .slice v40s X4.1.t.length e40, X4.1), (.slice a38s X3.1.o.length c38, .slice v38s X3.1.t.length e38, X3.1), (.slice a36s X3.1.o.length c36, .slice v36s X3.1.t.length e36, X3.1), (.slice a32s X2.1.o.length c32, .slice v32s X2.1.t.length e32, X2.1), (.slice a30s X2.1.o.length c30, .slice v30s X2.1.t.length e30, X2.1), (.slice a28s X1.1.o.length c28, .slice v28s X1.1.t.length e28, X1.1), (.slice a26s X1.1.o.length c26, .slice v26s X1.1.t.length e26, X1.1), (.slice ad m cd, .slice vd N ed, d)] w57 from BxL.put (l1 := [(g27, 34, #[.int .i64 ly.f, .int .i64 ly.g, .int .i64 ly.o, .int .i64 ly.c, .int .i64 ly.r]), (g26, 34, #[.int .i64 ly.f, .int .i64 ly.g, .int .i64 ly.o, .int .i64 ly.c, .int .i64 ly.r]), (g21, 29, #[.slice a42s X4.1.o.length c42, .slice v42s X4.1.t.length e42]), (g18, 29, #[.slice a40s X4.1.o.length c40, .slice v40s X4.1.t.length e40])]) (l2 := [(g12, 29, #[.slice a54s X7.1.o.length c54, .slice v54s X7.1.t.length e54]), (g11, 34, #[.int .i64 1, .int .i64 0, .int .i64 (q8 - 2), .int .i64 (q9 - 1), .int .i64 5]), (g4, 29, #[.slice ad m cd, .slice vd N ed])]) HB.out hw)
    clear hw y0 y1 y2 y3
    obtain ⟨x0, x1, -, -⟩ := (HB.out.own (g12, 29, #[.slice a54s X7.1.o.length c54, .slice v54s X7.1.t.length e54]) (by simp)).1.two
    obtain ⟨y0, y1, -, -⟩ := (HB.out.own (g15, 29, #[.slice a56s X7.1.o.length c56, .slice v56s X7.1.t.length e56]) (by simp)).1.two
    have hD1 : DdP _ _ (.slice a54s X7.1.o.length c54) (.slice v54s X7.1.t.length e54) (X7.1) := HB.out.dd (.slice a54s X7.1.o.length c54, .slice v54s X7.1.t.length e54, X7.1) (by simp)
    have hD2 : DdP _ _ (.slice a56s X7.1.o.length c56) (.slice v56s X7.1.t.length e56) (X7.1) := HB.out.dd (.slice a56s X7.1.o.length c56, .slice v56s X7.1.t.length e56, X7.1) (by simp)
    go_wp2_with fail
    with_reducible refine (same_q hD1.rd hD2.rd SX7.out.o SX7.out.t SX7.out.r).mono ?_
    rintro e w58 ⟨rfl, g⟩
    replace HB := Lib.hid (HB.out.grew g)
    clear g hD1 hD2 x0 x1 y0 y1
    go_wp2_with fail
    with_reducible refine (awake_x _).mono ?_
    rintro e t9 ⟨rfl, g⟩
    have HG := Lib.hid (HB.out.g.trans g)
    clear g
    go_wp2
    go_ret
    exact ⟨by simp, HG.out⟩

theorem Try.own : ownKnob Try.prog.godebug = none := by kernel_rfl
theorem Try.laidOut : laidOutB Try.prog = true := by kernel_rfl

theorem descriptorCalls_contract (W : World) (base : Nat) (args : Array Value) (H : Type) (enc : TypeId × Value → H) (ds : List (DataW H)) (p : List MemPlace)
    (hval : ∀ (j : Nat) t v, Try.f3.params[j]? = some t → args[j]? = some v → Value.okWide Try.prog W .any base t v)
    (hA : DataW.TrodAll enc Try.prog W 0 (fun _ => true) true Try.f3.params.toList args.toList ds p) :
    (∃ d0, ds = [d0]) ∧ Calls Try.prog 3 args W fun e W' => e = .returned (.bool true) ∧ Below W.heap.size W W' := by
  rw [Try.params3] at hval hA
  obtain ⟨v0, d0, p0, ha, hd, hp, h0⟩ := args_1 hA
  subst ha hd
  obtain ⟨A0, c0, xs0, rfl, hr0, hm0⟩ := open_introw Try.underlying22 Try.underlying3 (by kernel_rfl) (hval 0 _ _ rfl rfl) h0
  exact ⟨⟨_, rfl⟩, (calls_core A0 c0 xs0 W hr0 hm0).mono fun _ _ h => h⟩

set_option maxRecDepth 100000 in
theorem descriptorCalls_lifted (os : Os) (started : os.Started) (H : Type) (enc : TypeId × Value → H) :
    ReturnsInHanded {} Try.checked os 3 .any (Rows.descriptorCallsSpec.pre6 enc Try.prog Try.f3 Rows.descriptorCallsRow.domain false) (Rows.descriptorCallsSpec.post enc Try.prog Try.f3 false true false false) := by
  refine returnsInHanded_of_change (C := Try.checked) Try.own started (by kernel_rfl) Try.func3
    (ChangeSpec.witness6 (enc := enc) (C := Try.checked) false ⟨#[], #[.slice none 0 0], []⟩ 8 (by kernel_rfl) (by kernel_rfl) (by kernel_rfl) (by kernel_rfl)) ?_
  intro W base args ds gs before hval hW _ _
  obtain ⟨p, q, hA, hV, hrest⟩ := id hW
  obtain ⟨⟨d0, rfl⟩, hc⟩ := descriptorCalls_contract W base args H enc ds p hval hA
  obtain ⟨rfl, -⟩ := trodVars_none hV
  refine hc.mono fun e W' ⟨he, hb⟩ => ⟨_, he, ?_⟩
  exact law_close (tb := 4) Try.laidOut (by rw [Try.params3]; decide +kernel) Try.underlying4 rfl rfl hW rfl rfl rfl hb

theorem descriptorCalls_holds : Rows.DescriptorCallsSaid :=
  OpenClaim.holds_of_wide 3 Try.f3 rfl rfl rfl rfl rfl rfl rfl ⟨rfl, rfl, rfl, rfl, rfl⟩ rfl rfl rfl rfl rfl (by kernel_rfl) Try.func3 (by kernel_rfl)
    (of_decide_eq_true (by kernel_rfl)) (by unfold Func.isWrapper; first | (rw [if_pos (by decide +kernel)]; kernel_rfl) | (rw [if_neg (by decide +kernel)]; exact ⟨rfl, rfl⟩))
    (fun os started H enc _ => descriptorCalls_lifted os started H enc)
end Go.Proofs.Ytokijggckiidjaa

/- DescriptorApart holds: what one process opens, duplicates and closes changes no descriptor of another process. mkdsp18.py writes this text. -/
import Derived.Test.YtokijggckiidjaaDsV
import Derived.Deep.CutBlock
import Derived.RegionTactic
namespace Go.Proofs.Ytokijggckiidjaa
open Go.ChangeShapes Go.WideShapes Go.ChangeAt Go.RowKit Go.Mine
set_option maxRecDepth 100000 in
set_option maxHeartbeats 16000000 in
theorem apart_core (A : Option Addr) (c : Nat) (xs : List Int) (w : World) (hr : IntRow w A xs) (hm : xs.length ≤ maxLen) :
    Calls Try.prog 6 #[.slice A xs.length c] w (RetG (.bool true) w) := by
  have tp := Tp.made hr hm c 25
  have gA := (Grew.refl w).alloc (.cells #[.slice A xs.length c, .int .i64 0] 25)
  have hbw : w.heap.size + 1 ≤ (w.alloc (.cells #[.slice A xs.length c, .int .i64 0] 25)).heap.size := by simp
  clear hr hm
  generalize hX : xs.length = X at *
  clear hX
  go_enter Try.func6, Try.ntmps6
  go_wp2_with fail
  with_reducible refine (made_x tp hbw).mono ?_
  rintro e w1 ⟨a, v, d, rfl, ok, ht3, D, T, g1⟩
  have HOK := Lib.hid ok
  have htl := ok.sm.t
  have hrl := Lib.hid ok.sm.r
  have hol := ok.sm.o
  obtain ⟨ad, cd, rfl, -, -⟩ := D.rd.o.slice
  obtain ⟨vd, ed, rfl, -, -⟩ := D.rd.t.slice
  obtain ⟨m, hm⟩ : ∃ m, d.o.length = m := ⟨_, rfl⟩
  obtain ⟨N, hN⟩ : ∃ N, d.t.length = N := ⟨_, rfl⟩
  have HN := Lib.hid hN
  have HMM := Lib.hid hm
  have hN3 : N ≤ 3 := by rw [← hN]; exact ht3
  have hb1 := g1.size
  have HT := Lib.hid T
  rw [hm, hN] at D ⊢
  have HB : Hid (BxL w (w.heap.size + 1) ([] : List Bx) [(.slice ad m cd, .slice vd N ed, d)] w1) := Lib.hid ⟨fun e he => absurd he (by simp), by simp, fun e he => by rw [List.mem_singleton.1 he]; exact D.mono fun x hx => ⟨by omega, by simp⟩, gA.past g1 (Nat.le_refl _), by omega, by omega⟩
  replace HT := Lib.hid (HT.out.alloc (.cells #[.slice ad m cd, .slice vd N ed] 29))
  clear hm hN gA tp g1 D T hbw ok hb1 ht3
  replace HB := Lib.hid (HB.out.push 29 #[.slice ad m cd, .slice vd N ed])
  go_upto_region 3 with fail
  generalize World.alloc w1 _ = w11 at *
  generalize w1.heap.size = g4 at *
  replace HB := Lib.hid (show BxL w (w.heap.size + 1) ([(g4, 29, #[.slice ad m cd, .slice vd N ed])] : List Bx) [(.slice ad m cd, .slice vd N ed, d)] w11 from HB.out)
  obtain ⟨x0, x1, -, -⟩ := (HB.out.own (g4, 29, #[.slice ad m cd, .slice vd N ed]) (by simp)).1.two
  by_cases h2 : N < 2
  · go_wp2_with fail
    with_reducible refine (awake_x _).mono ?_
    rintro e w90 ⟨rfl, g⟩
    have HG := Lib.hid (HB.out.g.trans g)
    clear g
    go_wp2
    go_ret
    exact ⟨by simp, HG.out⟩
  have H2 : Hid (2 ≤ d.t.length) := Lib.hid (by rw [HN.out]; omega)
  have n2 : decide (N < 2) = false := decide_eq_false h2
  have n3 : decide ((N : Int) < 2) = false := decide_eq_false (by omega)
  clear h2
  go_upto_region 5 with fail
  replace HT := Lib.hid (HT.out.alloc (.cells #[.slice ad m cd, .slice vd N ed] 29))
  replace HB := Lib.hid (HB.out.push 29 #[.slice ad m cd, .slice vd N ed])
  go_upto_region 6 with fail
  generalize World.alloc w11 _ = w12 at *
  generalize w11.heap.size = g5 at *
  replace HB := Lib.hid (show BxL w (w.heap.size + 1) ([(g5, 29, #[.slice ad m cd, .slice vd N ed]), (g4, 29, #[.slice ad m cd, .slice vd N ed])] : List Bx) [(.slice ad m cd, .slice vd N ed, d)] w12 from HB.out)
  clear x0 x1 n2 n3
  have HAP := Lib.hid (AprD.refl HOK.out)
  have HD5 : Hid (BxL w (w.heap.size + 1) ([(g5, 29, #[.slice ad m cd, .slice vd N ed]), (g4, 29, #[.slice ad m cd, .slice vd N ed])] : List Bx) [(.slice ad m cd, .slice vd N ed, d), (.slice ad m cd, .slice vd N ed, d)] w12) := Lib.hid ⟨HB.out.own, HB.out.nd, fun e he => by rcases List.mem_cons.1 he with rfl | he; exact HB.out.dd _ (List.mem_cons_self ..); exact HB.out.dd e he, HB.out.g, HB.out.hl, HB.out.h0⟩
  replace HD5 : Hid (BxL w (w.heap.size + 1) ([(g5, 29, #[.slice ad d.o.length cd, .slice vd d.t.length ed]), (g4, 29, #[.slice ad m cd, .slice vd N ed])] : List Bx) [(.slice ad d.o.length cd, .slice vd d.t.length ed, d), (.slice ad m cd, .slice vd N ed, d)] w12) := by have h := HD5; have e1 := HMM.out; have e2 := HN.out; rw [e1, e2]; exact h
  go_wp2_with fail
  go_loopw [6] (fun iv wr => ∃ (n : Nat) (x : Dd) (ax vx : Option Addr) (cx ex : Nat), iv = .int .i64 n ∧ n ≤ 6 ∧ Hid (AprD d x) ∧ Hid (BxL w (w.heap.size + 1) ([(g5, 29, #[.slice ax x.o.length cx, .slice vx x.t.length ex]), (g4, 29, #[.slice ad m cd, .slice vd N ed])] : List Bx) [(.slice ax x.o.length cx, .slice vx x.t.length ex, x), (.slice ad m cd, .slice vd N ed, d)] wr) ∧ Hid (Tp (w.heap.size + 1) wr w.heap.size)) (fun iv _ => 6 - (intOf iv).toNat)
  case atStart => exact ⟨0, d, ad, vd, cd, ed, rfl, Nat.zero_le _, HAP, HD5, HT⟩
  case round =>
    clear HAP HD5 HB HT
    obtain ⟨n, x, ax, vx, cx, ex, rfl, hn, HAP, HB, HT⟩ := hrel
    obtain ⟨wo, rfl⟩ : ∃ wo : World, wo = wr := ⟨_, rfl⟩
    by_cases hlt : n < 6
    · have hlt2 : (n : Int) < 6 := by omega
      go_wp2_with fail
      with_reducible refine (next_x _ _ _ _ (by omega) (by omega) HT.out).mono ?_
      rintro e w13 ⟨q, qa, qb, rfl, T, g⟩
      replace HB := Lib.hid (HB.out.next g (Nat.lt_succ_self _) (Nat.le_refl _))
      replace HT := Lib.hid T
      clear g T
      by_cases e0 : q = 0
      · subst e0
        go_upto_region 11 with fail
        replace HB := Lib.hid (HB.out.grew (Grew.refl _).drew)
        replace HT := Lib.hid (HT.out.grew (Grew.refl _).drew)
        obtain ⟨x0, x1, x2, x3⟩ := (HB.out.own (g5, 29, #[.slice ax x.o.length cx, .slice vx x.t.length ex]) (List.mem_cons_self ..)).1.two
        dsimp only at x0 x1 x2 x3
        refine wp_region_any (by kernel_rfl) ?_
        refine wpAny_take (i := 1) (oi := ⟨some 35, _, _, _, _, _⟩) (v := ?vvo1) rfl (by kernel_rfl) (by kernel_rfl) (by kernel_rfl) (fun _ _ _ h => h) (Or.inl ⟨by rfl, ?yyo1⟩) ?rro1
        case yyo1 => (intro w; go_simp; (try with_reducible rfl))
        try simp only [Act.put, List.setIfInBounds_toArray, List.set_cons_zero, List.set_cons_succ]
        refine wpAny_ready (rs := [0, 2]) (by kernel_rfl) (by simp) ?_
        refine AllReady.cons (o := ⟨some 34, _, _, _, _, _⟩) rfl (fun K hK => ?sto2_0) (AllReady.cons (o := ⟨some 36, _, _, _, _, _⟩) rfl (fun K hK => ?sto2_1) AllReady.nil)
        case sto2_0 =>
          go_simp
          refine hK _ _ ?_
          clear hK K
          try simp only [Act.put, List.setIfInBounds_toArray, List.set_cons_zero, List.set_cons_succ]
          refine wpAny_ready (rs := [2]) (by kernel_rfl) (by simp) ?_
          refine AllReady.cons (o := ⟨some 36, _, _, _, _, _⟩) rfl (fun K hK => ?sto3_0) AllReady.nil
          case sto3_0 =>
            go_simp
            with_reducible refine (next_x _ _ _ _ (by omega) (by omega) HT.out).mono ?_
            rintro e tq1 ⟨q1, q1a, q1b, rfl, T, g⟩
            replace HB := Lib.hid (HB.out.next g (Nat.lt_succ_self _) (Nat.le_refl _))
            replace HT := Lib.hid T
            clear g T x0 x1 x2 x3
            obtain ⟨x0, x1, x2, x3⟩ := (HB.out.own (g5, 29, #[.slice ax x.o.length cx, .slice vx x.t.length ex]) (List.mem_cons_self ..)).1.two
            dsimp only
            refine hK _ _ ?_
            clear hK K
            try simp only [Act.put, List.setIfInBounds_toArray, List.set_cons_zero, List.set_cons_succ]
            refine wpAny_ready (rs := [3]) (by kernel_rfl) (by simp) ?_
            refine AllReady.cons (o := ⟨some 37, _, _, _, _, _⟩) rfl (fun K hK => ?sto4_0) AllReady.nil
            case sto4_0 =>
              go_simp
              have hD : DdP _ _ (.slice ax x.o.length cx) (.slice vx x.t.length ex) x := HB.out.dd (_, _, x) (List.mem_cons_self ..)
              have hsm := HAP.out.ok.sm
              have ho9 := hsm.o
              have ht9 := hsm.t
              have hr9 := Lib.hid hsm.r
              obtain ⟨Y, hY⟩ : ∃ Y, opnD x 0 ⟨q1, 3, 0, 0, 1⟩ = Y := ⟨_, rfl⟩
              have HY := Lib.hid hY
              have HAP2 : Hid (AprD d Y.1) := Lib.hid (by rw [← HY.out]; exact HAP.out.opn H2.out rfl)
              with_reducible refine (open_p (p := 0) (f := q1) (g := 3) (c := 0) hD ho9 ht9 hr9 HY.out).mono ?_
              rintro e t9 ⟨a9, v9, rfl, D, g⟩
              obtain ⟨a7, c7, rfl, -, -⟩ := D.rd.o.slice
              obtain ⟨v7, e7, rfl, -, -⟩ := D.rd.t.slice
              replace HB := Lib.hid (HB.out.add g D)
              replace HT := Lib.hid (HT.out.grew g)
              clear g D hD hY hsm ho9 ht9 hr9 x0 x1 x2 x3
              obtain ⟨x0, x1, x2, x3⟩ := (HB.out.own (g5, 29, #[.slice ax x.o.length cx, .slice vx x.t.length ex]) (List.mem_cons_self ..)).1.two
              dsimp only at x0 x1 x2 x3
              dsimp only
              refine hK _ _ ?_
              clear hK K
              try simp only [Act.put, List.setIfInBounds_toArray, List.set_cons_zero, List.set_cons_succ]
              refine wpAny_take (i := 4) (oi := ⟨some 33, _, _, _, _, _⟩) (v := ?vvo5) rfl (by kernel_rfl) (by kernel_rfl) (by kernel_rfl) (fun _ _ _ h => h) (Or.inl ⟨by rfl, ?yyo5⟩) ?rro5
              case yyo5 => (intro w; go_simp; (try with_reducible rfl))
              try simp only [Act.put, List.setIfInBounds_toArray, List.set_cons_zero, List.set_cons_succ]
              refine wpAny_take (i := 5) (oi := ⟨some 38, _, _, _, _, _⟩) (v := ?vvo6) rfl (by kernel_rfl) (by kernel_rfl) (by kernel_rfl) (fun _ _ _ h => h) (Or.inl ⟨by rfl, ?yyo6⟩) ?rro6
              case yyo6 => (intro w; go_simp; (try with_reducible rfl))
              try simp only [Act.put, List.setIfInBounds_toArray, List.set_cons_zero, List.set_cons_succ]
              refine wpAny_take (i := 6) (oi := ⟨some 39, _, _, _, _, _⟩) (v := ?vvo7) rfl (by kernel_rfl) (by kernel_rfl) (by kernel_rfl) (fun _ _ _ h => h) (Or.inl ⟨by rfl, ?yyo7⟩) ?rro7
              case yyo7 => (intro w; go_simp; (try with_reducible rfl))
              try simp only [Act.put, List.setIfInBounds_toArray, List.set_cons_zero, List.set_cons_succ]
              refine wpAny_take (i := 7) (oi := ⟨some 40, _, _, _, _, _⟩) (v := ?vvo8) rfl (by kernel_rfl) (by kernel_rfl) (by kernel_rfl) (fun _ _ _ h => h) (Or.inl ⟨by rfl, ?yyo8⟩) ?rro8
              case yyo8 => (intro w; go_simp; (try with_reducible rfl))
              try simp only [Act.put, List.setIfInBounds_toArray, List.set_cons_zero, List.set_cons_succ]
              refine wpAny_ready (rs := [8]) (by kernel_rfl) (by simp) ?_
              refine AllReady.cons (o := ⟨none, _, _, _, _, _⟩) rfl (fun K hK => ?sto9_0) AllReady.nil
              case sto9_0 =>
                go_simp
                refine hK _ _ ?_
                clear hK K
                try simp only [Act.put, List.setIfInBounds_toArray, List.set_cons_zero, List.set_cons_succ]
                refine wpAny_done (by kernel_rfl) ?_ _
                (first | go_wp2_with fail | skip)
                generalize hw : World.setCell (World.setCell t9 _ _) _ _ = wE
                have hlo := (HB.out.own _ (List.mem_cons_self ..)).2
                replace HT := Lib.hid (HT.out.put2 hw hlo)
                replace HB := Lib.hid (BxL.put (l1 := []) HB.out hw)
                replace HB : Hid (BxL w (w.heap.size + 1) ([(g5, 29, #[.slice a7 Y.1.o.length c7, .slice v7 Y.1.t.length e7]), (g4, 29, #[.slice ad m cd, .slice vd N ed])] : List Bx) [(.slice a7 Y.1.o.length c7, .slice v7 Y.1.t.length e7, Y.1), (.slice ad m cd, .slice vd N ed, d)] wE) := Lib.hid (HB.out.less (fun e he => by rcases List.mem_cons.1 he with rfl | he; exact List.mem_cons_self ..; exact List.mem_cons.2 (.inr (List.mem_cons.2 (.inr he)))))
                clear hw hlo x0 x1 x2 x3
                go_roundw
                case rel => exact ⟨n + 1, Y.1, a7, v7, c7, e7, by go_num, by omega, HAP2, HB, HT⟩
                case measure => simp [intOf] <;> omega
        case sto2_1 =>
          go_simp
          with_reducible refine (next_x _ _ _ _ (by omega) (by omega) HT.out).mono ?_
          rintro e tq1 ⟨q1, q1a, q1b, rfl, T, g⟩
          replace HB := Lib.hid (HB.out.next g (Nat.lt_succ_self _) (Nat.le_refl _))
          replace HT := Lib.hid T
          clear g T x0 x1 x2 x3
          obtain ⟨x0, x1, x2, x3⟩ := (HB.out.own (g5, 29, #[.slice ax x.o.length cx, .slice vx x.t.length ex]) (List.mem_cons_self ..)).1.two
          dsimp only
          refine hK _ _ ?_
          clear hK K
          try simp only [Act.put, List.setIfInBounds_toArray, List.set_cons_zero, List.set_cons_succ]
          refine wpAny_ready (rs := [0]) (by kernel_rfl) (by simp) ?_
          refine AllReady.cons (o := ⟨some 34, _, _, _, _, _⟩) rfl (fun K hK => ?sto10_0) AllReady.nil
          case sto10_0 =>
            go_simp
            refine hK _ _ ?_
            clear hK K
            try simp only [Act.put, List.setIfInBounds_toArray, List.set_cons_zero, List.set_cons_succ]
            refine wpAny_ready (rs := [3]) (by kernel_rfl) (by simp) ?_
            refine AllReady.cons (o := ⟨some 37, _, _, _, _, _⟩) rfl (fun K hK => ?sto11_0) AllReady.nil
            case sto11_0 =>
              go_simp
              have hD : DdP _ _ (.slice ax x.o.length cx) (.slice vx x.t.length ex) x := HB.out.dd (_, _, x) (List.mem_cons_self ..)
              have hsm := HAP.out.ok.sm
              have ho9 := hsm.o
              have ht9 := hsm.t
              have hr9 := Lib.hid hsm.r
              obtain ⟨Y, hY⟩ : ∃ Y, opnD x 0 ⟨q1, 3, 0, 0, 1⟩ = Y := ⟨_, rfl⟩
              have HY := Lib.hid hY
              have HAP2 : Hid (AprD d Y.1) := Lib.hid (by rw [← HY.out]; exact HAP.out.opn H2.out rfl)
              with_reducible refine (open_p (p := 0) (f := q1) (g := 3) (c := 0) hD ho9 ht9 hr9 HY.out).mono ?_
              rintro e t9 ⟨a9, v9, rfl, D, g⟩
              obtain ⟨a7, c7, rfl, -, -⟩ := D.rd.o.slice
              obtain ⟨v7, e7, rfl, -, -⟩ := D.rd.t.slice
              replace HB := Lib.hid (HB.out.add g D)
              replace HT := Lib.hid (HT.out.grew g)
              clear g D hD hY hsm ho9 ht9 hr9 x0 x1 x2 x3
              obtain ⟨x0, x1, x2, x3⟩ := (HB.out.own (g5, 29, #[.slice ax x.o.length cx, .slice vx x.t.length ex]) (List.mem_cons_self ..)).1.two
              dsimp only at x0 x1 x2 x3
              dsimp only
              refine hK _ _ ?_
              clear hK K
              try simp only [Act.put, List.setIfInBounds_toArray, List.set_cons_zero, List.set_cons_succ]
              refine wpAny_take (i := 4) (oi := ⟨some 33, _, _, _, _, _⟩) (v := ?vvo12) rfl (by kernel_rfl) (by kernel_rfl) (by kernel_rfl) (fun _ _ _ h => h) (Or.inl ⟨by rfl, ?yyo12⟩) ?rro12
              case yyo12 => (intro w; go_simp; (try with_reducible rfl))
              try simp only [Act.put, List.setIfInBounds_toArray, List.set_cons_zero, List.set_cons_succ]
              refine wpAny_take (i := 5) (oi := ⟨some 38, _, _, _, _, _⟩) (v := ?vvo13) rfl (by kernel_rfl) (by kernel_rfl) (by kernel_rfl) (fun _ _ _ h => h) (Or.inl ⟨by rfl, ?yyo13⟩) ?rro13
              case yyo13 => (intro w; go_simp; (try with_reducible rfl))
              try simp only [Act.put, List.setIfInBounds_toArray, List.set_cons_zero, List.set_cons_succ]
              refine wpAny_take (i := 6) (oi := ⟨some 39, _, _, _, _, _⟩) (v := ?vvo14) rfl (by kernel_rfl) (by kernel_rfl) (by kernel_rfl) (fun _ _ _ h => h) (Or.inl ⟨by rfl, ?yyo14⟩) ?rro14
              case yyo14 => (intro w; go_simp; (try with_reducible rfl))
              try simp only [Act.put, List.setIfInBounds_toArray, List.set_cons_zero, List.set_cons_succ]
              refine wpAny_take (i := 7) (oi := ⟨some 40, _, _, _, _, _⟩) (v := ?vvo15) rfl (by kernel_rfl) (by kernel_rfl) (by kernel_rfl) (fun _ _ _ h => h) (Or.inl ⟨by rfl, ?yyo15⟩) ?rro15
              case yyo15 => (intro w; go_simp; (try with_reducible rfl))
              try simp only [Act.put, List.setIfInBounds_toArray, List.set_cons_zero, List.set_cons_succ]
              refine wpAny_ready (rs := [8]) (by kernel_rfl) (by simp) ?_
              refine AllReady.cons (o := ⟨none, _, _, _, _, _⟩) rfl (fun K hK => ?sto16_0) AllReady.nil
              case sto16_0 =>
                go_simp
                refine hK _ _ ?_
                clear hK K
                try simp only [Act.put, List.setIfInBounds_toArray, List.set_cons_zero, List.set_cons_succ]
                refine wpAny_done (by kernel_rfl) ?_ _
                (first | go_wp2_with fail | skip)
                generalize hw : World.setCell (World.setCell t9 _ _) _ _ = wE
                have hlo := (HB.out.own _ (List.mem_cons_self ..)).2
                replace HT := Lib.hid (HT.out.put2 hw hlo)
                replace HB := Lib.hid (BxL.put (l1 := []) HB.out hw)
                replace HB : Hid (BxL w (w.heap.size + 1) ([(g5, 29, #[.slice a7 Y.1.o.length c7, .slice v7 Y.1.t.length e7]), (g4, 29, #[.slice ad m cd, .slice vd N ed])] : List Bx) [(.slice a7 Y.1.o.length c7, .slice v7 Y.1.t.length e7, Y.1), (.slice ad m cd, .slice vd N ed, d)] wE) := Lib.hid (HB.out.less (fun e he => by rcases List.mem_cons.1 he with rfl | he; exact List.mem_cons_self ..; exact List.mem_cons.2 (.inr (List.mem_cons.2 (.inr he)))))
                clear hw hlo x0 x1 x2 x3
                go_roundw
                case rel => exact ⟨n + 1, Y.1, a7, v7, c7, e7, by go_num, by omega, HAP2, HB, HT⟩
                case measure => simp [intOf] <;> omega
      have n0 : (q == 0) = false := by simpa using e0
      by_cases e1 : q = 1
      · subst e1
        go_upto_region 13 with fail
        replace HB := Lib.hid (HB.out.grew (Grew.refl _).drew)
        replace HT := Lib.hid (HT.out.grew (Grew.refl _).drew)
        obtain ⟨x0, x1, x2, x3⟩ := (HB.out.own (g5, 29, #[.slice ax x.o.length cx, .slice vx x.t.length ex]) (List.mem_cons_self ..)).1.two
        dsimp only at x0 x1 x2 x3
        refine wp_region_any (by kernel_rfl) ?_
        refine wpAny_take (i := 1) (oi := ⟨some 45, _, _, _, _, _⟩) (v := ?vvp1) rfl (by kernel_rfl) (by kernel_rfl) (by kernel_rfl) (fun _ _ _ h => h) (Or.inl ⟨by rfl, ?yyp1⟩) ?rrp1
        case yyp1 => (intro w; go_simp; (try with_reducible rfl))
        try simp only [Act.put, List.setIfInBounds_toArray, List.set_cons_zero, List.set_cons_succ]
        refine wpAny_ready (rs := [0, 2]) (by kernel_rfl) (by simp) ?_
        refine AllReady.cons (o := ⟨some 44, _, _, _, _, _⟩) rfl (fun K hK => ?stp2_0) (AllReady.cons (o := ⟨some 46, _, _, _, _, _⟩) rfl (fun K hK => ?stp2_1) AllReady.nil)
        case stp2_0 =>
          go_simp
          refine hK _ _ ?_
          clear hK K
          try simp only [Act.put, List.setIfInBounds_toArray, List.set_cons_zero, List.set_cons_succ]
          refine wpAny_ready (rs := [2]) (by kernel_rfl) (by simp) ?_
          refine AllReady.cons (o := ⟨some 46, _, _, _, _, _⟩) rfl (fun K hK => ?stp3_0) AllReady.nil
          case stp3_0 =>
            go_simp
            with_reducible refine (next_x _ _ _ _ (by omega) (by omega) HT.out).mono ?_
            rintro e tq1 ⟨q1, q1a, q1b, rfl, T, g⟩
            replace HB := Lib.hid (HB.out.next g (Nat.lt_succ_self _) (Nat.le_refl _))
            replace HT := Lib.hid T
            clear g T x0 x1 x2 x3
            obtain ⟨x0, x1, x2, x3⟩ := (HB.out.own (g5, 29, #[.slice ax x.o.length cx, .slice vx x.t.length ex]) (List.mem_cons_self ..)).1.two
            dsimp only
            refine hK _ _ ?_
            clear hK K
            try simp only [Act.put, List.setIfInBounds_toArray, List.set_cons_zero, List.set_cons_succ]
            refine wpAny_ready (rs := [3]) (by kernel_rfl) (by simp) ?_
            refine AllReady.cons (o := ⟨some 47, _, _, _, _, _⟩) rfl (fun K hK => ?stp4_0) AllReady.nil
            case stp4_0 =>
              go_simp
              have hD : DdP _ _ (.slice ax x.o.length cx) (.slice vx x.t.length ex) x := HB.out.dd (_, _, x) (List.mem_cons_self ..)
              have hsm := HAP.out.ok.sm
              have ho9 := hsm.o
              have ht9 := hsm.t
              have hr9 := Lib.hid hsm.r
              obtain ⟨Y, hY⟩ : ∃ Y, dupD x 0 q1 = Y := ⟨_, rfl⟩
              have HY := Lib.hid hY
              have HAP2 : Hid (AprD d Y.1) := Lib.hid (by rw [← HY.out]; exact HAP.out.dup q1)
              with_reducible refine (dup_p (p := 0) (q := q1) hD ho9 ht9 hr9 HY.out).mono ?_
              rintro e t9 ⟨a9, v9, rfl, D, g⟩
              obtain ⟨a7, c7, rfl, -, -⟩ := D.rd.o.slice
              obtain ⟨v7, e7, rfl, -, -⟩ := D.rd.t.slice
              replace HB := Lib.hid (HB.out.add g D)
              replace HT := Lib.hid (HT.out.grew g)
              clear g D hD hY hsm ho9 ht9 hr9 x0 x1 x2 x3
              obtain ⟨x0, x1, x2, x3⟩ := (HB.out.own (g5, 29, #[.slice ax x.o.length cx, .slice vx x.t.length ex]) (List.mem_cons_self ..)).1.two
              dsimp only at x0 x1 x2 x3
              dsimp only
              refine hK _ _ ?_
              clear hK K
              try simp only [Act.put, List.setIfInBounds_toArray, List.set_cons_zero, List.set_cons_succ]
              refine wpAny_take (i := 4) (oi := ⟨some 43, _, _, _, _, _⟩) (v := ?vvp5) rfl (by kernel_rfl) (by kernel_rfl) (by kernel_rfl) (fun _ _ _ h => h) (Or.inl ⟨by rfl, ?yyp5⟩) ?rrp5
              case yyp5 => (intro w; go_simp; (try with_reducible rfl))
              try simp only [Act.put, List.setIfInBounds_toArray, List.set_cons_zero, List.set_cons_succ]
              refine wpAny_take (i := 5) (oi := ⟨some 48, _, _, _, _, _⟩) (v := ?vvp6) rfl (by kernel_rfl) (by kernel_rfl) (by kernel_rfl) (fun _ _ _ h => h) (Or.inl ⟨by rfl, ?yyp6⟩) ?rrp6
              case yyp6 => (intro w; go_simp; (try with_reducible rfl))
              try simp only [Act.put, List.setIfInBounds_toArray, List.set_cons_zero, List.set_cons_succ]
              refine wpAny_take (i := 6) (oi := ⟨some 49, _, _, _, _, _⟩) (v := ?vvp7) rfl (by kernel_rfl) (by kernel_rfl) (by kernel_rfl) (fun _ _ _ h => h) (Or.inl ⟨by rfl, ?yyp7⟩) ?rrp7
              case yyp7 => (intro w; go_simp; (try with_reducible rfl))
              try simp only [Act.put, List.setIfInBounds_toArray, List.set_cons_zero, List.set_cons_succ]
              refine wpAny_take (i := 7) (oi := ⟨some 50, _, _, _, _, _⟩) (v := ?vvp8) rfl (by kernel_rfl) (by kernel_rfl) (by kernel_rfl) (fun _ _ _ h => h) (Or.inl ⟨by rfl, ?yyp8⟩) ?rrp8
              case yyp8 => (intro w; go_simp; (try with_reducible rfl))
              try simp only [Act.put, List.setIfInBounds_toArray, List.set_cons_zero, List.set_cons_succ]
              refine wpAny_ready (rs := [8]) (by kernel_rfl) (by simp) ?_
              refine AllReady.cons (o := ⟨none, _, _, _, _, _⟩) rfl (fun K hK => ?stp9_0) AllReady.nil
              case stp9_0 =>
                go_simp
                refine hK _ _ ?_
                clear hK K
                try simp only [Act.put, List.setIfInBounds_toArray, List.set_cons_zero, List.set_cons_succ]
                refine wpAny_done (by kernel_rfl) ?_ _
                (first | go_wp2_with fail | skip)
                generalize hw : World.setCell (World.setCell t9 _ _) _ _ = wE
                have hlo := (HB.out.own _ (List.mem_cons_self ..)).2
                replace HT := Lib.hid (HT.out.put2 hw hlo)
                replace HB := Lib.hid (BxL.put (l1 := []) HB.out hw)
                replace HB : Hid (BxL w (w.heap.size + 1) ([(g5, 29, #[.slice a7 Y.1.o.length c7, .slice v7 Y.1.t.length e7]), (g4, 29, #[.slice ad m cd, .slice vd N ed])] : List Bx) [(.slice a7 Y.1.o.length c7, .slice v7 Y.1.t.length e7, Y.1), (.slice ad m cd, .slice vd N ed, d)] wE) := Lib.hid (HB.out.less (fun e he => by rcases List.mem_cons.1 he with rfl | he; exact List.mem_cons_self ..; exact List.mem_cons.2 (.inr (List.mem_cons.2 (.inr he)))))
                clear hw hlo x0 x1 x2 x3
                go_roundw
                case rel => exact ⟨n + 1, Y.1, a7, v7, c7, e7, by go_num, by omega, HAP2, HB, HT⟩
                case measure => simp [intOf] <;> omega
        case stp2_1 =>
          go_simp
          with_reducible refine (next_x _ _ _ _ (by omega) (by omega) HT.out).mono ?_
          rintro e tq1 ⟨q1, q1a, q1b, rfl, T, g⟩
          replace HB := Lib.hid (HB.out.next g (Nat.lt_succ_self _) (Nat.le_refl _))
          replace HT := Lib.hid T
          clear g T x0 x1 x2 x3
          obtain ⟨x0, x1, x2, x3⟩ := (HB.out.own (g5, 29, #[.slice ax x.o.length cx, .slice vx x.t.length ex]) (List.mem_cons_self ..)).1.two
          dsimp only
          refine hK _ _ ?_
          clear hK K
          try simp only [Act.put, List.setIfInBounds_toArray, List.set_cons_zero, List.set_cons_succ]
          refine wpAny_ready (rs := [0]) (by kernel_rfl) (by simp) ?_
          refine AllReady.cons (o := ⟨some 44, _, _, _, _, _⟩) rfl (fun K hK => ?stp10_0) AllReady.nil
          case stp10_0 =>
            go_simp
            refine hK _ _ ?_
            clear hK K
            try simp only [Act.put, List.setIfInBounds_toArray, List.set_cons_zero, List.set_cons_succ]
            refine wpAny_ready (rs := [3]) (by kernel_rfl) (by simp) ?_
            refine AllReady.cons (o := ⟨some 47, _, _, _, _, _⟩) rfl (fun K hK => ?stp11_0) AllReady.nil
            case stp11_0 =>
              go_simp
              have hD : DdP _ _ (.slice ax x.o.length cx) (.slice vx x.t.length ex) x := HB.out.dd (_, _, x) (List.mem_cons_self ..)
              have hsm := HAP.out.ok.sm
              have ho9 := hsm.o
              have ht9 := hsm.t
              have hr9 := Lib.hid hsm.r
              obtain ⟨Y, hY⟩ : ∃ Y, dupD x 0 q1 = Y := ⟨_, rfl⟩
              have HY := Lib.hid hY
              have HAP2 : Hid (AprD d Y.1) := Lib.hid (by rw [← HY.out]; exact HAP.out.dup q1)
              with_reducible refine (dup_p (p := 0) (q := q1) hD ho9 ht9 hr9 HY.out).mono ?_
              rintro e t9 ⟨a9, v9, rfl, D, g⟩
              obtain ⟨a7, c7, rfl, -, -⟩ := D.rd.o.slice
              obtain ⟨v7, e7, rfl, -, -⟩ := D.rd.t.slice
              replace HB := Lib.hid (HB.out.add g D)
              replace HT := Lib.hid (HT.out.grew g)
              clear g D hD hY hsm ho9 ht9 hr9 x0 x1 x2 x3
              obtain ⟨x0, x1, x2, x3⟩ := (HB.out.own (g5, 29, #[.slice ax x.o.length cx, .slice vx x.t.length ex]) (List.mem_cons_self ..)).1.two
              dsimp only at x0 x1 x2 x3
              dsimp only
              refine hK _ _ ?_
              clear hK K
              try simp only [Act.put, List.setIfInBounds_toArray, List.set_cons_zero, List.set_cons_succ]
              refine wpAny_take (i := 4) (oi := ⟨some 43, _, _, _, _, _⟩) (v := ?vvp12) rfl (by kernel_rfl) (by kernel_rfl) (by kernel_rfl) (fun _ _ _ h => h) (Or.inl ⟨by rfl, ?yyp12⟩) ?rrp12
              case yyp12 => (intro w; go_simp; (try with_reducible rfl))
              try simp only [Act.put, List.setIfInBounds_toArray, List.set_cons_zero, List.set_cons_succ]
              refine wpAny_take (i := 5) (oi := ⟨some 48, _, _, _, _, _⟩) (v := ?vvp13) rfl (by kernel_rfl) (by kernel_rfl) (by kernel_rfl) (fun _ _ _ h => h) (Or.inl ⟨by rfl, ?yyp13⟩) ?rrp13
              case yyp13 => (intro w; go_simp; (try with_reducible rfl))
              try simp only [Act.put, List.setIfInBounds_toArray, List.set_cons_zero, List.set_cons_succ]
              refine wpAny_take (i := 6) (oi := ⟨some 49, _, _, _, _, _⟩) (v := ?vvp14) rfl (by kernel_rfl) (by kernel_rfl) (by kernel_rfl) (fun _ _ _ h => h) (Or.inl ⟨by rfl, ?yyp14⟩) ?rrp14
              case yyp14 => (intro w; go_simp; (try with_reducible rfl))
              try simp only [Act.put, List.setIfInBounds_toArray, List.set_cons_zero, List.set_cons_succ]
              refine wpAny_take (i := 7) (oi := ⟨some 50, _, _, _, _, _⟩) (v := ?vvp15) rfl (by kernel_rfl) (by kernel_rfl) (by kernel_rfl) (fun _ _ _ h => h) (Or.inl ⟨by rfl, ?yyp15⟩) ?rrp15
              case yyp15 => (intro w; go_simp; (try with_reducible rfl))
              try simp only [Act.put, List.setIfInBounds_toArray, List.set_cons_zero, List.set_cons_succ]
              refine wpAny_ready (rs := [8]) (by kernel_rfl) (by simp) ?_
              refine AllReady.cons (o := ⟨none, _, _, _, _, _⟩) rfl (fun K hK => ?stp16_0) AllReady.nil
              case stp16_0 =>
                go_simp
                refine hK _ _ ?_
                clear hK K
                try simp only [Act.put, List.setIfInBounds_toArray, List.set_cons_zero, List.set_cons_succ]
                refine wpAny_done (by kernel_rfl) ?_ _
                (first | go_wp2_with fail | skip)
                generalize hw : World.setCell (World.setCell t9 _ _) _ _ = wE
                have hlo := (HB.out.own _ (List.mem_cons_self ..)).2
                replace HT := Lib.hid (HT.out.put2 hw hlo)
                replace HB := Lib.hid (BxL.put (l1 := []) HB.out hw)
                replace HB : Hid (BxL w (w.heap.size + 1) ([(g5, 29, #[.slice a7 Y.1.o.length c7, .slice v7 Y.1.t.length e7]), (g4, 29, #[.slice ad m cd, .slice vd N ed])] : List Bx) [(.slice a7 Y.1.o.length c7, .slice v7 Y.1.t.length e7, Y.1), (.slice ad m cd, .slice vd N ed, d)] wE) := Lib.hid (HB.out.less (fun e he => by rcases List.mem_cons.1 he with rfl | he; exact List.mem_cons_self ..; exact List.mem_cons.2 (.inr (List.mem_cons.2 (.inr he)))))
                clear hw hlo x0 x1 x2 x3
                go_roundw
                case rel => exact ⟨n + 1, Y.1, a7, v7, c7, e7, by go_num, by omega, HAP2, HB, HT⟩
                case measure => simp [intOf] <;> omega
      have n1 : (q == 1) = false := by simpa using e1
      have e2 : q = 2 := by omega
      subst e2
      go_upto_region 15 with fail
      replace HB := Lib.hid (HB.out.grew (Grew.refl _).drew)
      replace HT := Lib.hid (HT.out.grew (Grew.refl _).drew)
      obtain ⟨x0, x1, x2, x3⟩ := (HB.out.own (g5, 29, #[.slice ax x.o.length cx, .slice vx x.t.length ex]) (List.mem_cons_self ..)).1.two
      dsimp only at x0 x1 x2 x3
      refine wp_region_any (by kernel_rfl) ?_
      refine wpAny_take (i := 1) (oi := ⟨some 55, _, _, _, _, _⟩) (v := ?vvr1) rfl (by kernel_rfl) (by kernel_rfl) (by kernel_rfl) (fun _ _ _ h => h) (Or.inl ⟨by rfl, ?yyr1⟩) ?rrr1
      case yyr1 => (intro w; go_simp; (try with_reducible rfl))
      try simp only [Act.put, List.setIfInBounds_toArray, List.set_cons_zero, List.set_cons_succ]
      refine wpAny_ready (rs := [0, 2]) (by kernel_rfl) (by simp) ?_
      refine AllReady.cons (o := ⟨some 54, _, _, _, _, _⟩) rfl (fun K hK => ?str2_0) (AllReady.cons (o := ⟨some 56, _, _, _, _, _⟩) rfl (fun K hK => ?str2_1) AllReady.nil)
      case str2_0 =>
        go_simp
        refine hK _ _ ?_
        clear hK K
        try simp only [Act.put, List.setIfInBounds_toArray, List.set_cons_zero, List.set_cons_succ]
        refine wpAny_ready (rs := [2]) (by kernel_rfl) (by simp) ?_
        refine AllReady.cons (o := ⟨some 56, _, _, _, _, _⟩) rfl (fun K hK => ?str3_0) AllReady.nil
        case str3_0 =>
          go_simp
          with_reducible refine (next_x _ _ _ _ (by omega) (by omega) HT.out).mono ?_
          rintro e tq1 ⟨q1, q1a, q1b, rfl, T, g⟩
          replace HB := Lib.hid (HB.out.next g (Nat.lt_succ_self _) (Nat.le_refl _))
          replace HT := Lib.hid T
          clear g T x0 x1 x2 x3
          obtain ⟨x0, x1, x2, x3⟩ := (HB.out.own (g5, 29, #[.slice ax x.o.length cx, .slice vx x.t.length ex]) (List.mem_cons_self ..)).1.two
          dsimp only
          refine hK _ _ ?_
          clear hK K
          try simp only [Act.put, List.setIfInBounds_toArray, List.set_cons_zero, List.set_cons_succ]
          refine wpAny_ready (rs := [3]) (by kernel_rfl) (by simp) ?_
          refine AllReady.cons (o := ⟨some 57, _, _, _, _, _⟩) rfl (fun K hK => ?str4_0) AllReady.nil
          case str4_0 =>
            go_simp
            have hD : DdP _ _ (.slice ax x.o.length cx) (.slice vx x.t.length ex) x := HB.out.dd (_, _, x) (List.mem_cons_self ..)
            have hsm := HAP.out.ok.sm
            have ho9 := hsm.o
            have ht9 := hsm.t
            have hr9 := Lib.hid hsm.r
            obtain ⟨Y, hY⟩ : ∃ Y, clsD x 0 q1 = Y := ⟨_, rfl⟩
            have HY := Lib.hid hY
            have HAP2 : Hid (AprD d Y.1) := Lib.hid (by rw [← HY.out]; exact HAP.out.cls H2.out q1)
            with_reducible refine (close_p (p := 0) (q := q1) hD ho9 ht9 hr9 HY.out).mono ?_
            rintro e t9 ⟨a9, v9, rfl, D, g⟩
            obtain ⟨a7, c7, rfl, -, -⟩ := D.rd.o.slice
            obtain ⟨v7, e7, rfl, -, -⟩ := D.rd.t.slice
            replace HB := Lib.hid (HB.out.add g D)
            replace HT := Lib.hid (HT.out.grew g)
            clear g D hD hY hsm ho9 ht9 hr9 x0 x1 x2 x3
            obtain ⟨x0, x1, x2, x3⟩ := (HB.out.own (g5, 29, #[.slice ax x.o.length cx, .slice vx x.t.length ex]) (List.mem_cons_self ..)).1.two
            dsimp only at x0 x1 x2 x3
            dsimp only
            refine hK _ _ ?_
            clear hK K
            try simp only [Act.put, List.setIfInBounds_toArray, List.set_cons_zero, List.set_cons_succ]
            refine wpAny_take (i := 4) (oi := ⟨some 53, _, _, _, _, _⟩) (v := ?vvr5) rfl (by kernel_rfl) (by kernel_rfl) (by kernel_rfl) (fun _ _ _ h => h) (Or.inl ⟨by rfl, ?yyr5⟩) ?rrr5
            case yyr5 => (intro w; go_simp; (try with_reducible rfl))
            try simp only [Act.put, List.setIfInBounds_toArray, List.set_cons_zero, List.set_cons_succ]
            refine wpAny_take (i := 5) (oi := ⟨some 58, _, _, _, _, _⟩) (v := ?vvr6) rfl (by kernel_rfl) (by kernel_rfl) (by kernel_rfl) (fun _ _ _ h => h) (Or.inl ⟨by rfl, ?yyr6⟩) ?rrr6
            case yyr6 => (intro w; go_simp; (try with_reducible rfl))
            try simp only [Act.put, List.setIfInBounds_toArray, List.set_cons_zero, List.set_cons_succ]
            refine wpAny_take (i := 6) (oi := ⟨some 59, _, _, _, _, _⟩) (v := ?vvr7) rfl (by kernel_rfl) (by kernel_rfl) (by kernel_rfl) (fun _ _ _ h => h) (Or.inl ⟨by rfl, ?yyr7⟩) ?rrr7
            case yyr7 => (intro w; go_simp; (try with_reducible rfl))
            try simp only [Act.put, List.setIfInBounds_toArray, List.set_cons_zero, List.set_cons_succ]
            refine wpAny_take (i := 7) (oi := ⟨some 60, _, _, _, _, _⟩) (v := ?vvr8) rfl (by kernel_rfl) (by kernel_rfl) (by kernel_rfl) (fun _ _ _ h => h) (Or.inl ⟨by rfl, ?yyr8⟩) ?rrr8
            case yyr8 => (intro w; go_simp; (try with_reducible rfl))
            try simp only [Act.put, List.setIfInBounds_toArray, List.set_cons_zero, List.set_cons_succ]
            refine wpAny_ready (rs := [8]) (by kernel_rfl) (by simp) ?_
            refine AllReady.cons (o := ⟨none, _, _, _, _, _⟩) rfl (fun K hK => ?str9_0) AllReady.nil
            case str9_0 =>
              go_simp
              refine hK _ _ ?_
              clear hK K
              try simp only [Act.put, List.setIfInBounds_toArray, List.set_cons_zero, List.set_cons_succ]
              refine wpAny_done (by kernel_rfl) ?_ _
              (first | go_wp2_with fail | skip)
              generalize hw : World.setCell (World.setCell t9 _ _) _ _ = wE
              have hlo := (HB.out.own _ (List.mem_cons_self ..)).2
              replace HT := Lib.hid (HT.out.put2 hw hlo)
              replace HB := Lib.hid (BxL.put (l1 := []) HB.out hw)
              replace HB : Hid (BxL w (w.heap.size + 1) ([(g5, 29, #[.slice a7 Y.1.o.length c7, .slice v7 Y.1.t.length e7]), (g4, 29, #[.slice ad m cd, .slice vd N ed])] : List Bx) [(.slice a7 Y.1.o.length c7, .slice v7 Y.1.t.length e7, Y.1), (.slice ad m cd, .slice vd N ed, d)] wE) := Lib.hid (HB.out.less (fun e he => by rcases List.mem_cons.1 he with rfl | he; exact List.mem_cons_self ..; exact List.mem_cons.2 (.inr (List.mem_cons.2 (.inr he)))))
              clear hw hlo x0 x1 x2 x3
              go_roundw
              case rel => exact ⟨n + 1, Y.1, a7, v7, c7, e7, by go_num, by omega, HAP2, HB, HT⟩
              case measure => simp [intOf] <;> omega
      case str2_1 =>
        go_simp
        with_reducible refine (next_x _ _ _ _ (by omega) (by omega) HT.out).mono ?_
        rintro e tq1 ⟨q1, q1a, q1b, rfl, T, g⟩
        replace HB := Lib.hid (HB.out.next g (Nat.lt_succ_self _) (Nat.le_refl _))
        replace HT := Lib.hid T
        clear g T x0 x1 x2 x3
        obtain ⟨x0, x1, x2, x3⟩ := (HB.out.own (g5, 29, #[.slice ax x.o.length cx, .slice vx x.t.length ex]) (List.mem_cons_self ..)).1.two
        dsimp only
        refine hK _ _ ?_
        clear hK K
        try simp only [Act.put, List.setIfInBounds_toArray, List.set_cons_zero, List.set_cons_succ]
        refine wpAny_ready (rs := [0]) (by kernel_rfl) (by simp) ?_
        refine AllReady.cons (o := ⟨some 54, _, _, _, _, _⟩) rfl (fun K hK => ?str10_0) AllReady.nil
        case str10_0 =>
          go_simp
          refine hK _ _ ?_
          clear hK K
          try simp only [Act.put, List.setIfInBounds_toArray, List.set_cons_zero, List.set_cons_succ]
          refine wpAny_ready (rs := [3]) (by kernel_rfl) (by simp) ?_
          refine AllReady.cons (o := ⟨some 57, _, _, _, _, _⟩) rfl (fun K hK => ?str11_0) AllReady.nil
          case str11_0 =>
            go_simp
            have hD : DdP _ _ (.slice ax x.o.length cx) (.slice vx x.t.length ex) x := HB.out.dd (_, _, x) (List.mem_cons_self ..)
            have hsm := HAP.out.ok.sm
            have ho9 := hsm.o
            have ht9 := hsm.t
            have hr9 := Lib.hid hsm.r
            obtain ⟨Y, hY⟩ : ∃ Y, clsD x 0 q1 = Y := ⟨_, rfl⟩
            have HY := Lib.hid hY
            have HAP2 : Hid (AprD d Y.1) := Lib.hid (by rw [← HY.out]; exact HAP.out.cls H2.out q1)
            with_reducible refine (close_p (p := 0) (q := q1) hD ho9 ht9 hr9 HY.out).mono ?_
            rintro e t9 ⟨a9, v9, rfl, D, g⟩
            obtain ⟨a7, c7, rfl, -, -⟩ := D.rd.o.slice
            obtain ⟨v7, e7, rfl, -, -⟩ := D.rd.t.slice
            replace HB := Lib.hid (HB.out.add g D)
            replace HT := Lib.hid (HT.out.grew g)
            clear g D hD hY hsm ho9 ht9 hr9 x0 x1 x2 x3
            obtain ⟨x0, x1, x2, x3⟩ := (HB.out.own (g5, 29, #[.slice ax x.o.length cx, .slice vx x.t.length ex]) (List.mem_cons_self ..)).1.two
            dsimp only at x0 x1 x2 x3
            dsimp only
            refine hK _ _ ?_
            clear hK K
            try simp only [Act.put, List.setIfInBounds_toArray, List.set_cons_zero, List.set_cons_succ]
            refine wpAny_take (i := 4) (oi := ⟨some 53, _, _, _, _, _⟩) (v := ?vvr12) rfl (by kernel_rfl) (by kernel_rfl) (by kernel_rfl) (fun _ _ _ h => h) (Or.inl ⟨by rfl, ?yyr12⟩) ?rrr12
            case yyr12 => (intro w; go_simp; (try with_reducible rfl))
            try simp only [Act.put, List.setIfInBounds_toArray, List.set_cons_zero, List.set_cons_succ]
            refine wpAny_take (i := 5) (oi := ⟨some 58, _, _, _, _, _⟩) (v := ?vvr13) rfl (by kernel_rfl) (by kernel_rfl) (by kernel_rfl) (fun _ _ _ h => h) (Or.inl ⟨by rfl, ?yyr13⟩) ?rrr13
            case yyr13 => (intro w; go_simp; (try with_reducible rfl))
            try simp only [Act.put, List.setIfInBounds_toArray, List.set_cons_zero, List.set_cons_succ]
            refine wpAny_take (i := 6) (oi := ⟨some 59, _, _, _, _, _⟩) (v := ?vvr14) rfl (by kernel_rfl) (by kernel_rfl) (by kernel_rfl) (fun _ _ _ h => h) (Or.inl ⟨by rfl, ?yyr14⟩) ?rrr14
            case yyr14 => (intro w; go_simp; (try with_reducible rfl))
            try simp only [Act.put, List.setIfInBounds_toArray, List.set_cons_zero, List.set_cons_succ]
            refine wpAny_take (i := 7) (oi := ⟨some 60, _, _, _, _, _⟩) (v := ?vvr15) rfl (by kernel_rfl) (by kernel_rfl) (by kernel_rfl) (fun _ _ _ h => h) (Or.inl ⟨by rfl, ?yyr15⟩) ?rrr15
            case yyr15 => (intro w; go_simp; (try with_reducible rfl))
            try simp only [Act.put, List.setIfInBounds_toArray, List.set_cons_zero, List.set_cons_succ]
            refine wpAny_ready (rs := [8]) (by kernel_rfl) (by simp) ?_
            refine AllReady.cons (o := ⟨none, _, _, _, _, _⟩) rfl (fun K hK => ?str16_0) AllReady.nil
            case str16_0 =>
              go_simp
              refine hK _ _ ?_
              clear hK K
              try simp only [Act.put, List.setIfInBounds_toArray, List.set_cons_zero, List.set_cons_succ]
              refine wpAny_done (by kernel_rfl) ?_ _
              (first | go_wp2_with fail | skip)
              generalize hw : World.setCell (World.setCell t9 _ _) _ _ = wE
              have hlo := (HB.out.own _ (List.mem_cons_self ..)).2
              replace HT := Lib.hid (HT.out.put2 hw hlo)
              replace HB := Lib.hid (BxL.put (l1 := []) HB.out hw)
              replace HB : Hid (BxL w (w.heap.size + 1) ([(g5, 29, #[.slice a7 Y.1.o.length c7, .slice v7 Y.1.t.length e7]), (g4, 29, #[.slice ad m cd, .slice vd N ed])] : List Bx) [(.slice a7 Y.1.o.length c7, .slice v7 Y.1.t.length e7, Y.1), (.slice ad m cd, .slice vd N ed, d)] wE) := Lib.hid (HB.out.less (fun e he => by rcases List.mem_cons.1 he with rfl | he; exact List.mem_cons_self ..; exact List.mem_cons.2 (.inr (List.mem_cons.2 (.inr he)))))
              clear hw hlo x0 x1 x2 x3
              go_roundw
              case rel => exact ⟨n + 1, Y.1, a7, v7, c7, e7, by go_num, by omega, HAP2, HB, HT⟩
              case measure => simp [intOf] <;> omega
    · obtain rfl : n = 6 := by omega
      rw [show ((6 : Nat) : Int) = 6 from rfl]
      go_upto_region 16 with fail
      go_wp2_with fail
      go_loopw [7] (fun iv wr => ∃ n : Nat, iv = .int .i64 n ∧ n ≤ 16 ∧ Hid (BxL w (w.heap.size + 1) ([(g5, 29, #[.slice ax x.o.length cx, .slice vx x.t.length ex]), (g4, 29, #[.slice ad m cd, .slice vd N ed])] : List Bx) [(.slice ax x.o.length cx, .slice vx x.t.length ex, x), (.slice ad m cd, .slice vd N ed, d)] wr)) (fun iv _ => 16 - (intOf iv).toNat)
      case atStart => exact ⟨0, rfl, Nat.zero_le _, HB⟩
      case round =>
        clear HB HT
        obtain ⟨n, rfl, hn, HB⟩ := hrel
        obtain ⟨wo, rfl⟩ : ∃ wo : World, wo = wr := ⟨_, rfl⟩
        by_cases hlt : n < 16
        · have hlt2 : (n : Int) < 16 := by omega
          have hlk := HAP.out.lk HOK.out H2.out hlt
          obtain ⟨⟨i1, y1, e1⟩, hX1⟩ : ∃ z, lkD d 1 n = z := ⟨_, rfl⟩
          obtain ⟨⟨i2, y2, e2⟩, hX2⟩ : ∃ z, lkD x 1 n = z := ⟨_, rfl⟩
          rw [hX1, hX2] at hlk
          dsimp only at hlk
          obtain ⟨k1, k2, k3, k4, k5, k6⟩ := hlk
          subst k1 k2
          have K3 := Lib.hid k3
          have K4 := Lib.hid k4
          have K5 := Lib.hid k5
          have K6 := Lib.hid k6
          clear k3 k4 k5 k6
          have HX1 := Lib.hid hX1
          have HX2 := Lib.hid hX2
          have ho9 := HAP.out.ok.sm.o
          have ht9 := HAP.out.ok.sm.t
          clear hX1 hX2
          obtain ⟨x0, x1, -, -⟩ := (HB.out.own (g4, 29, #[.slice ad m cd, .slice vd N ed]) (by simp)).1.two
          have hD : DdP _ _ (.slice ad m cd) (.slice vd N ed) (d) := HB.out.dd (.slice ad m cd, .slice vd N ed, d) (by simp)
          go_wp2_with fail
          with_reducible refine (lookup_p hD.rd hol htl HX1.out).mono ?_
          rintro e w14 ⟨rfl, g⟩
          replace HB := Lib.hid (HB.out.grew g)
          clear g hD x0 x1
          replace HB := Lib.hid (HB.out.push 34 #[.int .i64 y1.f, .int .i64 y1.g, .int .i64 y1.o, .int .i64 y1.c, .int .i64 y1.r])
          go_upto_region 20 with fail
          generalize World.alloc w14 _ = w15 at *
          generalize w14.heap.size = g9 at *
          replace HB := Lib.hid (show BxL w (w.heap.size + 1) ([(g9, 34, #[.int .i64 y1.f, .int .i64 y1.g, .int .i64 y1.o, .int .i64 y1.c, .int .i64 y1.r]), (g5, 29, #[.slice ax x.o.length cx, .slice vx x.t.length ex]), (g4, 29, #[.slice ad m cd, .slice vd N ed])] : List Bx) [(.slice ax x.o.length cx, .slice vx x.t.length ex, x), (.slice ad m cd, .slice vd N ed, d)] w15 from HB.out)
          obtain ⟨x0, x1, -, -⟩ := (HB.out.own (g5, 29, #[.slice ax x.o.length cx, .slice vx x.t.length ex]) (by simp)).1.two
          have hD : DdP _ _ (.slice ax x.o.length cx) (.slice vx x.t.length ex) (x) := HB.out.dd (.slice ax x.o.length cx, .slice vx x.t.length ex, x) (by simp)
          go_wp2_with fail
          with_reducible refine (lookup_p hD.rd ho9 ht9 HX2.out).mono ?_
          rintro e w16 ⟨rfl, g⟩
          replace HB := Lib.hid (HB.out.grew g)
          clear g hD x0 x1
          replace HB := Lib.hid (HB.out.push 34 #[.int .i64 y2.f, .int .i64 y2.g, .int .i64 y2.o, .int .i64 y2.c, .int .i64 y2.r])
          go_upto_region 21 with fail
          generalize World.alloc w16 _ = w17 at *
          generalize w16.heap.size = g12 at *
          replace HB := Lib.hid (show BxL w (w.heap.size + 1) ([(g12, 34, #[.int .i64 y2.f, .int .i64 y2.g, .int .i64 y2.o, .int .i64 y2.c, .int .i64 y2.r]), (g9, 34, #[.int .i64 y1.f, .int .i64 y1.g, .int .i64 y1.o, .int .i64 y1.c, .int .i64 y1.r]), (g5, 29, #[.slice ax x.o.length cx, .slice vx x.t.length ex]), (g4, 29, #[.slice ad m cd, .slice vd N ed])] : List Bx) [(.slice ax x.o.length cx, .slice vx x.t.length ex, x), (.slice ad m cd, .slice vd N ed, d)] w17 from HB.out)
          obtain ⟨u0, u1, u2, u3, u4⟩ := (HB.out.own (g9, 34, #[.int .i64 y1.f, .int .i64 y1.g, .int .i64 y1.o, .int .i64 y1.c, .int .i64 y1.r]) (by simp)).1.fiveD
          obtain ⟨v0, v1, v2, v3, v4⟩ := (HB.out.own (g12, 34, #[.int .i64 y2.f, .int .i64 y2.g, .int .i64 y2.o, .int .i64 y2.c, .int .i64 y2.r]) (by simp)).1.fiveD
          rw [K3.out] at v0
          rw [K4.out] at v1
          rw [K5.out] at v2
          rw [K6.out] at v3
          go_wp2_with fail
          go_roundw
          case rel => exact ⟨n + 1, by go_num, by omega, Lib.hid HB.out.tail.tail⟩
          case measure => simp [intOf] <;> omega
        · obtain rfl : n = 16 := by omega
          rw [show ((16 : Nat) : Int) = 16 from rfl]
          go_wp2_with fail
          with_reducible refine (awake_x _).mono ?_
          rintro e w90 ⟨rfl, g⟩
          have HG := Lib.hid (HB.out.g.trans g)
          clear g
          go_wp2
          go_ret
          exact ⟨by simp, HG.out⟩

theorem Try.own : ownKnob Try.prog.godebug = none := by kernel_rfl
theorem Try.laidOut : laidOutB Try.prog = true := by kernel_rfl

theorem descriptorApart_contract (W : World) (base : Nat) (args : Array Value) (H : Type) (enc : TypeId × Value → H) (ds : List (DataW H)) (p : List MemPlace)
    (hval : ∀ (j : Nat) t v, Try.f6.params[j]? = some t → args[j]? = some v → Value.okWide Try.prog W .any base t v)
    (hA : DataW.TrodAll enc Try.prog W 0 (fun _ => true) true Try.f6.params.toList args.toList ds p) :
    (∃ d0, ds = [d0]) ∧ Calls Try.prog 6 args W fun e W' => e = .returned (.bool true) ∧ Below W.heap.size W W' := by
  rw [Try.params6] at hval hA
  obtain ⟨v0, d0, p0, ha, hd, hp, h0⟩ := args_1 hA
  subst ha hd
  obtain ⟨A0, c0, xs0, rfl, hr0, hm0⟩ := open_introw Try.underlying22 Try.underlying3 (by kernel_rfl) (hval 0 _ _ rfl rfl) h0
  exact ⟨⟨_, rfl⟩, (apart_core A0 c0 xs0 W hr0 hm0).mono fun _ _ h => h⟩

set_option maxRecDepth 100000 in
theorem descriptorApart_lifted (os : Os) (started : os.Started) (H : Type) (enc : TypeId × Value → H) :
    ReturnsInHanded {} Try.checked os 6 .any (Rows.descriptorApartSpec.pre6 enc Try.prog Try.f6 Rows.descriptorApartRow.domain false) (Rows.descriptorApartSpec.post enc Try.prog Try.f6 false true false false) := by
  refine returnsInHanded_of_change (C := Try.checked) Try.own started (by kernel_rfl) Try.func6
    (ChangeSpec.witness6 (enc := enc) (C := Try.checked) false ⟨#[], #[.slice none 0 0], []⟩ 8 (by kernel_rfl) (by kernel_rfl) (by kernel_rfl) (by kernel_rfl)) ?_
  intro W base args ds gs before hval hW _ _
  obtain ⟨p, q, hA, hV, hrest⟩ := id hW
  obtain ⟨⟨d0, rfl⟩, hc⟩ := descriptorApart_contract W base args H enc ds p hval hA
  obtain ⟨rfl, -⟩ := trodVars_none hV
  refine hc.mono fun e W' ⟨he, hb⟩ => ⟨_, he, ?_⟩
  exact law_close (tb := 4) Try.laidOut (by rw [Try.params6]; decide +kernel) Try.underlying4 rfl rfl hW rfl rfl rfl hb

theorem descriptorApart_holds : Rows.DescriptorApartSaid :=
  OpenClaim.holds_of_wide 6 Try.f6 rfl rfl rfl rfl rfl rfl rfl ⟨rfl, rfl, rfl, rfl, rfl⟩ rfl rfl rfl rfl rfl (by kernel_rfl) Try.func6 (by kernel_rfl)
    (of_decide_eq_true (by kernel_rfl)) (by unfold Func.isWrapper; first | (rw [if_pos (by decide +kernel)]; kernel_rfl) | (rw [if_neg (by decide +kernel)]; exact ⟨rfl, rfl⟩))
    (fun os started H enc _ => descriptorApart_lifted os started H enc)
end Go.Proofs.Ytokijggckiidjaa

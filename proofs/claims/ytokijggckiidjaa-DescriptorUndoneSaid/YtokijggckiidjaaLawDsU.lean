/- DescriptorUndone holds: a descriptor that is opened, or duplicated, and closed again leaves everything as it was. mkdsu18.py writes this text. -/
import Derived.Test.YtokijggckiidjaaDsU
import Derived.Deep.CutBlock
import Derived.Deep.RegionHeld3
namespace Go.Proofs.Ytokijggckiidjaa
open Go.ChangeShapes Go.WideShapes Go.ChangeAt Go.RowKit Go.Mine
set_option maxRecDepth 100000 in
set_option maxHeartbeats 16000000 in
theorem undone_core (A : Option Addr) (c : Nat) (xs : List Int) (w : World) (hr : IntRow w A xs) (hm : xs.length ≤ maxLen) :
    Calls Try.prog 5 #[.slice A xs.length c] w (RetG (.bool true) w) := by
  have tp := Tp.made hr hm c 25
  have gA := (Grew.refl w).alloc (.cells #[.slice A xs.length c, .int .i64 0] 25)
  have hbw : w.heap.size + 1 ≤ (w.alloc (.cells #[.slice A xs.length c, .int .i64 0] 25)).heap.size := by simp
  clear hr hm
  generalize hX : xs.length = X at *
  clear hX
  go_enter Try.func5, Try.ntmps5
  go_wp2_with fail
  with_reducible refine (made_x tp hbw).mono ?_
  rintro e w1 ⟨a, v, d, rfl, ok, ht3, D, T, g1⟩
  have HOK := Lib.hid ok
  have HSM := Lib.hid ok.sm
  have htl := ok.sm.t
  have hrl := Lib.hid ok.sm.r
  have hol := ok.sm.o
  have ht1 := ok.t1
  obtain ⟨ad, cd, rfl, -, -⟩ := D.rd.o.slice
  obtain ⟨vd, ed, rfl, -, -⟩ := D.rd.t.slice
  obtain ⟨m, hm⟩ : ∃ m, d.o.length = m := ⟨_, rfl⟩
  obtain ⟨N, hN⟩ : ∃ N, d.t.length = N := ⟨_, rfl⟩
  have hN3 : N ≤ 3 := by rw [← hN]; exact ht3
  have hN1 : 1 ≤ N := by rw [← hN]; exact ht1
  have hb1 := g1.size
  have HT := Lib.hid T
  rw [hm, hN] at D ⊢
  have HB : Hid (BxL w (w.heap.size + 1) ([] : List Bx) [(.slice ad m cd, .slice vd N ed, d)] w1) := Lib.hid ⟨fun e he => absurd he (by simp), by simp, fun e he => by rw [List.mem_singleton.1 he]; exact D.mono fun x hx => ⟨by omega, by simp⟩, gA.past g1 (Nat.le_refl _), by omega, by omega⟩
  replace HT := Lib.hid (HT.out.alloc (.cells #[.slice ad m cd, .slice vd N ed] 29))
  clear hm hN gA tp g1 D T hbw ok hb1 ht3 ht1
  replace HB := Lib.hid (HB.out.push 29 #[.slice ad m cd, .slice vd N ed])
  go_upto_region 3 with fail
  generalize World.alloc w1 _ = w11 at *
  generalize w1.heap.size = g4 at *
  replace HB := Lib.hid (show BxL w (w.heap.size + 1) ([(g4, 29, #[.slice ad m cd, .slice vd N ed])] : List Bx) [(.slice ad m cd, .slice vd N ed, d)] w11 from HB.out)
  obtain ⟨x0, x1, -, -⟩ := (HB.out.own (g4, 29, #[.slice ad m cd, .slice vd N ed]) (by simp)).1.two
  have hN1i : (1 : Int) ≤ (N : Int) := by omega
  have hNb : (N : Int) ≤ 1000000 := by omega
  go_wp2_with fail
  with_reducible refine (next_x _ _ _ _ hN1i hNb HT.out).mono ?_
  rintro e w12 ⟨p, pa, pb, rfl, T, g⟩
  replace HB := Lib.hid (HB.out.next g (Nat.lt_succ_self _) (Nat.le_refl _))
  replace HT := Lib.hid T
  clear g T
  clear x0 x1 pa pb
  go_upto_region 4 with fail
  go_cut [6, 7, 8] from 25 to 38 (fun v6 v7 v8 wx => ∃ (fi fl cu : Int) (g6 : Nat) (X : Dd × Int × Int) (a6 v6' : Option Addr) (c6 e6 : Nat), v6 = .pointer (some ⟨g6, 0, none⟩) ∧ v7 = .int .i64 X.2.1 ∧ v8 = .int .i64 X.2.2 ∧ Hid (opnD d p ⟨fi, fl, 0, cu, 1⟩ = X) ∧ Hid (BxL w (w.heap.size + 1) ([(g6, 29, #[.slice a6 X.1.o.length c6, .slice v6' X.1.t.length e6]), (g4, 29, #[.slice ad m cd, .slice vd N ed])] : List Bx) [(.slice a6 X.1.o.length c6, .slice v6' X.1.t.length e6, X.1), (.slice ad m cd, .slice vd N ed, d)] wx) ∧ Hid (Tp (w.heap.size + 1) wx w.heap.size))
  case first =>
    have HB0 := HB
    have HT0 := HT
    replace HB := Lib.hid (HB.out.grew (Grew.refl _).drew)
    replace HT := Lib.hid (HT.out.grew (Grew.refl _).drew)
    obtain ⟨x0, x1, -, -⟩ := (HB.out.own (g4, 29, #[.slice ad m cd, .slice vd N ed]) (by simp)).1.two
    refine wp_region_held_drew (S := (fun w' => w'.cell? ⟨g4, 0, none⟩ = some (.slice ad m cd) ∧ w'.cell? ⟨g4, 1, none⟩ = some (.slice vd N ed))) (by kernel_rfl) ?_ (fun hHeld => ?_)
    · (try dsimp only); (refine ⟨?_, ?_⟩ <;> (repeat (first | (with_reducible assumption) | (with_reducible refine far_drew ?_) | (with_reducible refine far_alloc ?_) | (with_reducible refine far_cell hne ?_))))
    first | refine wpAnyH_take (i := 0) (v := undef) rfl (by kernel_rfl) (by kernel_rfl) (by kernel_rfl) (fun _ _ _ h => h) (Or.inr ⟨by rfl, rfl⟩) (by assumption) ?_ | (refine' wpAnyH_take (i := 0) (v := _) rfl (by kernel_rfl) (by kernel_rfl) (by kernel_rfl) (fun _ _ _ h => h) (Or.inl ⟨by rfl, ?hyo1⟩) (by assumption) ?resto1; case hyo1 => (intro w hSw; (try dsimp only at hSw); (first | (go_simp; done) | (go_simp; with_reducible rfl))))
    try simp only [Act.put, List.setIfInBounds_toArray, List.set_cons_zero, List.set_cons_succ, List.getElem_toArray, List.getElem_cons_zero]
    first | refine wpAnyH_take (i := 1) (v := undef) rfl (by kernel_rfl) (by kernel_rfl) (by kernel_rfl) (fun _ _ _ h => h) (Or.inr ⟨by rfl, rfl⟩) (by assumption) ?_ | (refine' wpAnyH_take (i := 1) (v := _) rfl (by kernel_rfl) (by kernel_rfl) (by kernel_rfl) (fun _ _ _ h => h) (Or.inl ⟨by rfl, ?hyo2⟩) (by assumption) ?resto2; case hyo2 => (intro w hSw; (try dsimp only at hSw); (first | (go_simp; done) | (go_simp; with_reducible rfl))))
    try simp only [Act.put, List.setIfInBounds_toArray, List.set_cons_zero, List.set_cons_succ, List.getElem_toArray, List.getElem_cons_zero, List.getElem_cons_succ]
    first | refine wpAnyH_take (i := 2) (v := undef) rfl (by kernel_rfl) (by kernel_rfl) (by kernel_rfl) (fun _ _ _ h => h) (Or.inr ⟨by rfl, rfl⟩) (by assumption) ?_ | (refine' wpAnyH_take (i := 2) (v := _) rfl (by kernel_rfl) (by kernel_rfl) (by kernel_rfl) (fun _ _ _ h => h) (Or.inl ⟨by rfl, ?hyo3⟩) (by assumption) ?resto3; case hyo3 => (intro w hSw; (try dsimp only at hSw); (first | (go_simp; done) | (go_simp; with_reducible rfl))))
    try simp only [Act.put, List.setIfInBounds_toArray, List.set_cons_zero, List.set_cons_succ, List.getElem_toArray, List.getElem_cons_zero, List.getElem_cons_succ]
    first | refine wpAnyH_take (i := 4) (v := undef) rfl (by kernel_rfl) (by kernel_rfl) (by kernel_rfl) (fun _ _ _ h => h) (Or.inr ⟨by rfl, rfl⟩) (by assumption) ?_ | (refine' wpAnyH_take (i := 4) (v := _) rfl (by kernel_rfl) (by kernel_rfl) (by kernel_rfl) (fun _ _ _ h => h) (Or.inl ⟨by rfl, ?hyo4⟩) (by assumption) ?resto4; case hyo4 => (intro w hSw; (try dsimp only at hSw); (first | (go_simp; done) | (go_simp; with_reducible rfl))))
    try simp only [Act.put, List.setIfInBounds_toArray, List.set_cons_zero, List.set_cons_succ, List.getElem_toArray, List.getElem_cons_zero, List.getElem_cons_succ]
    first | refine wpAnyH_take (i := 7) (v := undef) rfl (by kernel_rfl) (by kernel_rfl) (by kernel_rfl) (fun _ _ _ h => h) (Or.inr ⟨by rfl, rfl⟩) (by assumption) ?_ | (refine' wpAnyH_take (i := 7) (v := _) rfl (by kernel_rfl) (by kernel_rfl) (by kernel_rfl) (fun _ _ _ h => h) (Or.inl ⟨by rfl, ?hyo5⟩) (by assumption) ?resto5; case hyo5 => (intro w hSw; (try dsimp only at hSw); (first | (go_simp; done) | (go_simp; with_reducible rfl))))
    try simp only [Act.put, List.setIfInBounds_toArray, List.set_cons_zero, List.set_cons_succ, List.getElem_toArray, List.getElem_cons_zero, List.getElem_cons_succ]
    refine wpAnyH_ready (rs := [3, 14]) (by kernel_rfl) (by simp) ?_
    refine AllReadyH.cons rfl (fun K hK => ?sto6_0) (AllReadyH.cons rfl (fun K hK => ?sto6_1) AllReadyH.nil)
    case sto6_0 =>
      try simp only [Act.put, List.setIfInBounds_toArray, List.set_cons_zero, List.set_cons_succ, List.getElem_toArray, List.getElem_cons_zero, List.getElem_cons_succ]
      go_simp
      with_reducible refine (next_x _ _ _ _ (by omega) (by omega) HT.out).mono ?_
      rintro e tq1 ⟨q1, q1a, q1b, rfl, T, g⟩
      replace HB := Lib.hid (HB.out.next g (Nat.lt_succ_self _) (Nat.le_refl _))
      replace HT := Lib.hid T
      clear g T x0 x1
      obtain ⟨x0, x1, -, -⟩ := (HB.out.own (g4, 29, #[.slice ad m cd, .slice vd N ed]) (by simp)).1.two
      dsimp only
      refine hK.out _ _ ?_ (fun hHeld => ?_)
      · (try dsimp only); (refine ⟨?_, ?_⟩ <;> (repeat (first | (with_reducible assumption) | (with_reducible refine far_drew ?_) | (with_reducible refine far_alloc ?_) | (with_reducible refine far_cell hne ?_))))
      clear hK K
      refine wpAnyH_ready (rs := [5, 14]) (by kernel_rfl) (by simp) ?_
      refine AllReadyH.cons rfl (fun K hK => ?sto7_0) (AllReadyH.cons rfl (fun K hK => ?sto7_1) AllReadyH.nil)
      case sto7_0 =>
        try simp only [Act.put, List.setIfInBounds_toArray, List.set_cons_zero, List.set_cons_succ, List.getElem_toArray, List.getElem_cons_zero, List.getElem_cons_succ]
        go_simp
        with_reducible refine (next_x _ _ _ _ (by omega) (by omega) HT.out).mono ?_
        rintro e tq2 ⟨q2, q2a, q2b, rfl, T, g⟩
        replace HB := Lib.hid (HB.out.next g (Nat.lt_succ_self _) (Nat.le_refl _))
        replace HT := Lib.hid T
        clear g T x0 x1
        obtain ⟨x0, x1, -, -⟩ := (HB.out.own (g4, 29, #[.slice ad m cd, .slice vd N ed]) (by simp)).1.two
        have hw2 : IntKind.i64.wrap (1 + q2) = 1 + q2 := IntWalk.i64_in _ (by omega)
        dsimp only
        refine hK.out _ _ ?_ (fun hHeld => ?_)
        · (try dsimp only); (refine ⟨?_, ?_⟩ <;> (repeat (first | (with_reducible assumption) | (with_reducible refine far_drew ?_) | (with_reducible refine far_alloc ?_) | (with_reducible refine far_cell hne ?_))))
        clear hK K
        first | refine wpAnyH_take (i := 6) (v := undef) rfl (by kernel_rfl) (by kernel_rfl) (by kernel_rfl) (fun _ _ _ h => h) (Or.inr ⟨by rfl, rfl⟩) (by assumption) ?_ | (refine' wpAnyH_take (i := 6) (v := _) rfl (by kernel_rfl) (by kernel_rfl) (by kernel_rfl) (fun _ _ _ h => h) (Or.inl ⟨by rfl, ?hyo8⟩) (by assumption) ?resto8; case hyo8 => (intro w hSw; (try dsimp only at hSw); (first | (go_simp; done) | (go_simp; with_reducible rfl))))
        try simp only [Act.put, List.setIfInBounds_toArray, List.set_cons_zero, List.set_cons_succ, List.getElem_toArray, List.getElem_cons_zero, List.getElem_cons_succ]
        refine wpAnyH_ready (rs := [8, 14]) (by kernel_rfl) (by simp) ?_
        refine AllReadyH.cons rfl (fun K hK => ?sto9_0) (AllReadyH.cons rfl (fun K hK => ?sto9_1) AllReadyH.nil)
        case sto9_0 =>
          try simp only [Act.put, List.setIfInBounds_toArray, List.set_cons_zero, List.set_cons_succ, List.getElem_toArray, List.getElem_cons_zero, List.getElem_cons_succ]
          go_simp
          with_reducible refine (next_x _ _ _ _ (by omega) (by omega) HT.out).mono ?_
          rintro e tq3 ⟨q3, q3a, q3b, rfl, T, g⟩
          replace HB := Lib.hid (HB.out.next g (Nat.lt_succ_self _) (Nat.le_refl _))
          replace HT := Lib.hid T
          clear g T x0 x1
          obtain ⟨x0, x1, -, -⟩ := (HB.out.own (g4, 29, #[.slice ad m cd, .slice vd N ed]) (by simp)).1.two
          dsimp only
          refine hK.out _ _ ?_ (fun hHeld => ?_)
          · (try dsimp only); (refine ⟨?_, ?_⟩ <;> (repeat (first | (with_reducible assumption) | (with_reducible refine far_drew ?_) | (with_reducible refine far_alloc ?_) | (with_reducible refine far_cell hne ?_))))
          clear hK K
          refine wpAnyH_ready (rs := [9, 14]) (by kernel_rfl) (by simp) ?_
          refine AllReadyH.cons rfl (fun K hK => ?sto10_0) (AllReadyH.cons rfl (fun K hK => ?sto10_1) AllReadyH.nil)
          case sto10_0 =>
            try simp only [Act.put, List.setIfInBounds_toArray, List.set_cons_zero, List.set_cons_succ, List.getElem_toArray, List.getElem_cons_zero, List.getElem_cons_succ]
            go_simp
            have hD : DdP _ _ (.slice ad m cd) (.slice vd N ed) d := HB.out.dd (_, _, d) (by simp)
            with_reducible refine (open_p (p := p) (f := q1) (g := 1 + q2) (c := q3) hD hol htl hrl rfl).mono ?_
            rintro e t9 ⟨a9, v9, rfl, D, g⟩
            clear hD
            obtain ⟨a6, c6, rfl, -, -⟩ := D.rd.o.slice
            obtain ⟨v6, e6, rfl, -, -⟩ := D.rd.t.slice
            replace HB := Lib.hid (HB.out.add g D)
            replace HT := Lib.hid (HT.out.grew g)
            clear g D x0 x1
            obtain ⟨x0, x1, -, -⟩ := (HB.out.own (g4, 29, #[.slice ad m cd, .slice vd N ed]) (by simp)).1.two
            dsimp only
            refine hK.out _ _ ?_ (fun hHeld => ?_)
            · (try dsimp only); (refine ⟨?_, ?_⟩ <;> (repeat (first | (with_reducible assumption) | (with_reducible refine far_drew ?_) | (with_reducible refine far_alloc ?_) | (with_reducible refine far_cell hne ?_))))
            clear hK K
            first | refine wpAnyH_take (i := 10) (v := undef) rfl (by kernel_rfl) (by kernel_rfl) (by kernel_rfl) (fun _ _ _ h => h) (Or.inr ⟨by rfl, rfl⟩) (by assumption) ?_ | (refine' wpAnyH_take (i := 10) (v := _) rfl (by kernel_rfl) (by kernel_rfl) (by kernel_rfl) (fun _ _ _ h => h) (Or.inl ⟨by rfl, ?hyo11⟩) (by assumption) ?resto11; case hyo11 => (intro w hSw; (try dsimp only at hSw); (first | (go_simp; done) | (go_simp; with_reducible rfl))))
            try simp only [Act.put, List.setIfInBounds_toArray, List.set_cons_zero, List.set_cons_succ, List.getElem_toArray, List.getElem_cons_zero, List.getElem_cons_succ]
            first | refine wpAnyH_take (i := 11) (v := undef) rfl (by kernel_rfl) (by kernel_rfl) (by kernel_rfl) (fun _ _ _ h => h) (Or.inr ⟨by rfl, rfl⟩) (by assumption) ?_ | (refine' wpAnyH_take (i := 11) (v := _) rfl (by kernel_rfl) (by kernel_rfl) (by kernel_rfl) (fun _ _ _ h => h) (Or.inl ⟨by rfl, ?hyo12⟩) (by assumption) ?resto12; case hyo12 => (intro w hSw; (try dsimp only at hSw); (first | (go_simp; done) | (go_simp; with_reducible rfl))))
            try simp only [Act.put, List.setIfInBounds_toArray, List.set_cons_zero, List.set_cons_succ, List.getElem_toArray, List.getElem_cons_zero, List.getElem_cons_succ]
            first | refine wpAnyH_take (i := 12) (v := undef) rfl (by kernel_rfl) (by kernel_rfl) (by kernel_rfl) (fun _ _ _ h => h) (Or.inr ⟨by rfl, rfl⟩) (by assumption) ?_ | (refine' wpAnyH_take (i := 12) (v := _) rfl (by kernel_rfl) (by kernel_rfl) (by kernel_rfl) (fun _ _ _ h => h) (Or.inl ⟨by rfl, ?hyo13⟩) (by assumption) ?resto13; case hyo13 => (intro w hSw; (try dsimp only at hSw); (first | (go_simp; done) | (go_simp; with_reducible rfl))))
            try simp only [Act.put, List.setIfInBounds_toArray, List.set_cons_zero, List.set_cons_succ, List.getElem_toArray, List.getElem_cons_zero, List.getElem_cons_succ]
            first | refine wpAnyH_take (i := 13) (v := undef) rfl (by kernel_rfl) (by kernel_rfl) (by kernel_rfl) (fun _ _ _ h => h) (Or.inr ⟨by rfl, rfl⟩) (by assumption) ?_ | (refine' wpAnyH_take (i := 13) (v := _) rfl (by kernel_rfl) (by kernel_rfl) (by kernel_rfl) (fun _ _ _ h => h) (Or.inl ⟨by rfl, ?hyo14⟩) (by assumption) ?resto14; case hyo14 => (intro w hSw; (try dsimp only at hSw); (first | (go_simp; done) | (go_simp; with_reducible rfl))))
            try simp only [Act.put, List.setIfInBounds_toArray, List.set_cons_zero, List.set_cons_succ, List.getElem_toArray, List.getElem_cons_zero, List.getElem_cons_succ]
            refine wpAnyH_ready (rs := [14]) (by kernel_rfl) (by simp) ?_
            refine AllReadyH.cons rfl (fun K hK => ?_) AllReadyH.nil
            try simp only [Act.put, List.setIfInBounds_toArray, List.set_cons_zero, List.set_cons_succ, List.getElem_toArray, List.getElem_cons_zero, List.getElem_cons_succ]
            go_simp
            have HBp := HB
            have HTp := HT
            replace HB := Lib.hid (HB.out.push 29 #[.slice none 0 0, .slice none 0 0])
            replace HT := Lib.hid (HT.out.alloc (.cells #[.slice none 0 0, .slice none 0 0] 29))
            refine hK.out _ _ ?_ (fun hHeld => ?_)
            · (try dsimp only); (refine ⟨?_, ?_⟩ <;> (repeat (first | (with_reducible assumption) | (with_reducible refine far_drew ?_) | (with_reducible refine far_alloc ?_) | (with_reducible refine far_cell hne ?_))))
            clear hK K
            refine wpAnyH_ready (rs := [15]) (by kernel_rfl) (by simp) ?_
            refine AllReadyH.cons rfl (fun K hK => ?_) AllReadyH.nil
            try simp only [Act.put, List.getElem_toArray, List.getElem_cons_zero, List.getElem_cons_succ]
            have hne := BxL.ne01 HB.out
            dsimp only at hne
            obtain ⟨y0, y1, y2, y3⟩ := (HB.out.own (_, 29, #[.slice none 0 0, .slice none 0 0]) (List.mem_cons_self ..)).1.two
            go_simp
            refine hK.out _ _ ?_ (fun hHeld => ?_)
            · (try dsimp only); (refine ⟨?_, ?_⟩ <;> (repeat (first | (with_reducible assumption) | (with_reducible refine far_drew ?_) | (with_reducible refine far_alloc ?_) | (with_reducible refine far_cell hne ?_))))
            clear hK K
            first | refine wpAnyH_take (i := 16) (v := undef) rfl (by kernel_rfl) (by kernel_rfl) (by kernel_rfl) (fun _ _ _ h => h) (Or.inr ⟨by rfl, rfl⟩) (by assumption) ?_ | (refine' wpAnyH_take (i := 16) (v := _) rfl (by kernel_rfl) (by kernel_rfl) (by kernel_rfl) (fun _ _ _ h => h) (Or.inl ⟨by rfl, ?hyo15⟩) (by assumption) ?resto15; case hyo15 => (intro w hSw; (try dsimp only at hSw); (first | (go_simp; done) | (go_simp; with_reducible rfl))))
            try simp only [Act.put, List.setIfInBounds_toArray, List.set_cons_zero, List.set_cons_succ, List.getElem_toArray, List.getElem_cons_zero, List.getElem_cons_succ]
            first | refine wpAnyH_take (i := 17) (v := undef) rfl (by kernel_rfl) (by kernel_rfl) (by kernel_rfl) (fun _ _ _ h => h) (Or.inr ⟨by rfl, rfl⟩) (by assumption) ?_ | (refine' wpAnyH_take (i := 17) (v := _) rfl (by kernel_rfl) (by kernel_rfl) (by kernel_rfl) (fun _ _ _ h => h) (Or.inl ⟨by rfl, ?hyo16⟩) (by assumption) ?resto16; case hyo16 => (intro w hSw; (try dsimp only at hSw); (first | (go_simp; done) | (go_simp; with_reducible rfl))))
            try simp only [Act.put, List.setIfInBounds_toArray, List.set_cons_zero, List.set_cons_succ, List.getElem_toArray, List.getElem_cons_zero, List.getElem_cons_succ]
            refine wpAnyH_done (by kernel_rfl) ?_ _
            (first | go_wp2_with fail | skip)
            replace HB := Lib.hid (HBp.out.push 29 #[.slice a6 (opnD d p ⟨q1, 1 + q2, 0, q3, 1⟩).1.o.length c6, .slice v6 (opnD d p ⟨q1, 1 + q2, 0, q3, 1⟩).1.t.length e6])
            replace HT := Lib.hid (HTp.out.alloc (.cells #[.slice a6 (opnD d p ⟨q1, 1 + q2, 0, q3, 1⟩).1.o.length c6, .slice v6 (opnD d p ⟨q1, 1 + q2, 0, q3, 1⟩).1.t.length e6] 29))
            clear HBp HTp
            go_meet
            exact ⟨q1, 1 + q2, q3, _, _, a6, v6, c6, e6, rfl, rfl, rfl, Lib.hid rfl, HB, HT⟩
          case sto10_1 =>
            try simp only [Act.put, List.setIfInBounds_toArray, List.set_cons_zero, List.set_cons_succ, List.getElem_toArray, List.getElem_cons_zero, List.getElem_cons_succ]
            go_simp
            have HBp := HB
            have HTp := HT
            replace HB := Lib.hid (HB.out.push 29 #[.slice none 0 0, .slice none 0 0])
            replace HT := Lib.hid (HT.out.alloc (.cells #[.slice none 0 0, .slice none 0 0] 29))
            refine hK.out _ _ ?_ (fun hHeld => ?_)
            · (try dsimp only); (refine ⟨?_, ?_⟩ <;> (repeat (first | (with_reducible assumption) | (with_reducible refine far_drew ?_) | (with_reducible refine far_alloc ?_) | (with_reducible refine far_cell hne ?_))))
            clear hK K
            refine wpAnyH_ready (rs := [9]) (by kernel_rfl) (by simp) ?_
            refine AllReadyH.cons rfl (fun K hK => ?_) AllReadyH.nil
            try simp only [Act.put, List.setIfInBounds_toArray, List.set_cons_zero, List.set_cons_succ, List.getElem_toArray, List.getElem_cons_zero, List.getElem_cons_succ]
            go_simp
            have hD : DdP _ _ (.slice ad m cd) (.slice vd N ed) d := HB.out.dd (_, _, d) (by simp)
            with_reducible refine (open_p (p := p) (f := q1) (g := 1 + q2) (c := q3) hD hol htl hrl rfl).mono ?_
            rintro e t9 ⟨a9, v9, rfl, D, g⟩
            clear hD
            obtain ⟨a6, c6, rfl, -, -⟩ := D.rd.o.slice
            obtain ⟨v6, e6, rfl, -, -⟩ := D.rd.t.slice
            replace HB := Lib.hid (HB.out.add g D)
            replace HT := Lib.hid (HT.out.grew g)
            clear g D x0 x1
            obtain ⟨x0, x1, -, -⟩ := (HB.out.own (g4, 29, #[.slice ad m cd, .slice vd N ed]) (by simp)).1.two
            dsimp only
            refine hK.out _ _ ?_ (fun hHeld => ?_)
            · (try dsimp only); (refine ⟨?_, ?_⟩ <;> (repeat (first | (with_reducible assumption) | (with_reducible refine far_drew ?_) | (with_reducible refine far_alloc ?_) | (with_reducible refine far_cell hne ?_))))
            clear hK K
            first | refine wpAnyH_take (i := 10) (v := undef) rfl (by kernel_rfl) (by kernel_rfl) (by kernel_rfl) (fun _ _ _ h => h) (Or.inr ⟨by rfl, rfl⟩) (by assumption) ?_ | (refine' wpAnyH_take (i := 10) (v := _) rfl (by kernel_rfl) (by kernel_rfl) (by kernel_rfl) (fun _ _ _ h => h) (Or.inl ⟨by rfl, ?hyo17⟩) (by assumption) ?resto17; case hyo17 => (intro w hSw; (try dsimp only at hSw); (first | (go_simp; done) | (go_simp; with_reducible rfl))))
            try simp only [Act.put, List.setIfInBounds_toArray, List.set_cons_zero, List.set_cons_succ, List.getElem_toArray, List.getElem_cons_zero, List.getElem_cons_succ]
            first | refine wpAnyH_take (i := 11) (v := undef) rfl (by kernel_rfl) (by kernel_rfl) (by kernel_rfl) (fun _ _ _ h => h) (Or.inr ⟨by rfl, rfl⟩) (by assumption) ?_ | (refine' wpAnyH_take (i := 11) (v := _) rfl (by kernel_rfl) (by kernel_rfl) (by kernel_rfl) (fun _ _ _ h => h) (Or.inl ⟨by rfl, ?hyo18⟩) (by assumption) ?resto18; case hyo18 => (intro w hSw; (try dsimp only at hSw); (first | (go_simp; done) | (go_simp; with_reducible rfl))))
            try simp only [Act.put, List.setIfInBounds_toArray, List.set_cons_zero, List.set_cons_succ, List.getElem_toArray, List.getElem_cons_zero, List.getElem_cons_succ]
            first | refine wpAnyH_take (i := 12) (v := undef) rfl (by kernel_rfl) (by kernel_rfl) (by kernel_rfl) (fun _ _ _ h => h) (Or.inr ⟨by rfl, rfl⟩) (by assumption) ?_ | (refine' wpAnyH_take (i := 12) (v := _) rfl (by kernel_rfl) (by kernel_rfl) (by kernel_rfl) (fun _ _ _ h => h) (Or.inl ⟨by rfl, ?hyo19⟩) (by assumption) ?resto19; case hyo19 => (intro w hSw; (try dsimp only at hSw); (first | (go_simp; done) | (go_simp; with_reducible rfl))))
            try simp only [Act.put, List.setIfInBounds_toArray, List.set_cons_zero, List.set_cons_succ, List.getElem_toArray, List.getElem_cons_zero, List.getElem_cons_succ]
            first | refine wpAnyH_take (i := 13) (v := undef) rfl (by kernel_rfl) (by kernel_rfl) (by kernel_rfl) (fun _ _ _ h => h) (Or.inr ⟨by rfl, rfl⟩) (by assumption) ?_ | (refine' wpAnyH_take (i := 13) (v := _) rfl (by kernel_rfl) (by kernel_rfl) (by kernel_rfl) (fun _ _ _ h => h) (Or.inl ⟨by rfl, ?hyo20⟩) (by assumption) ?resto20; case hyo20 => (intro w hSw; (try dsimp only at hSw); (first | (go_simp; done) | (go_simp; with_reducible rfl))))
            try simp only [Act.put, List.setIfInBounds_toArray, List.set_cons_zero, List.set_cons_succ, List.getElem_toArray, List.getElem_cons_zero, List.getElem_cons_succ]
            refine wpAnyH_ready (rs := [15]) (by kernel_rfl) (by simp) ?_
            refine AllReadyH.cons rfl (fun K hK => ?_) AllReadyH.nil
            try simp only [Act.put, List.getElem_toArray, List.getElem_cons_zero, List.getElem_cons_succ]
            have hne := BxL.ne01 HB.out
            dsimp only at hne
            obtain ⟨y0, y1, y2, y3⟩ := (HB.out.own (_, 29, #[.slice none 0 0, .slice none 0 0]) (List.mem_cons_self ..)).1.two
            go_simp
            refine hK.out _ _ ?_ (fun hHeld => ?_)
            · (try dsimp only); (refine ⟨?_, ?_⟩ <;> (repeat (first | (with_reducible assumption) | (with_reducible refine far_drew ?_) | (with_reducible refine far_alloc ?_) | (with_reducible refine far_cell hne ?_))))
            clear hK K
            first | refine wpAnyH_take (i := 16) (v := undef) rfl (by kernel_rfl) (by kernel_rfl) (by kernel_rfl) (fun _ _ _ h => h) (Or.inr ⟨by rfl, rfl⟩) (by assumption) ?_ | (refine' wpAnyH_take (i := 16) (v := _) rfl (by kernel_rfl) (by kernel_rfl) (by kernel_rfl) (fun _ _ _ h => h) (Or.inl ⟨by rfl, ?hyo21⟩) (by assumption) ?resto21; case hyo21 => (intro w hSw; (try dsimp only at hSw); (first | (go_simp; done) | (go_simp; with_reducible rfl))))
            try simp only [Act.put, List.setIfInBounds_toArray, List.set_cons_zero, List.set_cons_succ, List.getElem_toArray, List.getElem_cons_zero, List.getElem_cons_succ]
            first | refine wpAnyH_take (i := 17) (v := undef) rfl (by kernel_rfl) (by kernel_rfl) (by kernel_rfl) (fun _ _ _ h => h) (Or.inr ⟨by rfl, rfl⟩) (by assumption) ?_ | (refine' wpAnyH_take (i := 17) (v := _) rfl (by kernel_rfl) (by kernel_rfl) (by kernel_rfl) (fun _ _ _ h => h) (Or.inl ⟨by rfl, ?hyo22⟩) (by assumption) ?resto22; case hyo22 => (intro w hSw; (try dsimp only at hSw); (first | (go_simp; done) | (go_simp; with_reducible rfl))))
            try simp only [Act.put, List.setIfInBounds_toArray, List.set_cons_zero, List.set_cons_succ, List.getElem_toArray, List.getElem_cons_zero, List.getElem_cons_succ]
            refine wpAnyH_done (by kernel_rfl) ?_ _
            (first | go_wp2_with fail | skip)
            generalize hw : World.setCell (World.setCell t9 _ _) _ _ = wE
            have hlo := (HB.out.own _ (List.mem_cons_self ..)).2
            replace HT := Lib.hid (HT.out.put2 hw hlo)
            replace HB := Lib.hid (BxL.put (l1 := []) HB.out hw)
            clear hw hlo
            go_meet
            exact ⟨q1, 1 + q2, q3, _, _, a6, v6, c6, e6, rfl, rfl, rfl, Lib.hid rfl, HB, HT⟩
        case sto9_1 =>
          try simp only [Act.put, List.setIfInBounds_toArray, List.set_cons_zero, List.set_cons_succ, List.getElem_toArray, List.getElem_cons_zero, List.getElem_cons_succ]
          go_simp
          have HBp := HB
          have HTp := HT
          replace HB := Lib.hid (HB.out.push 29 #[.slice none 0 0, .slice none 0 0])
          replace HT := Lib.hid (HT.out.alloc (.cells #[.slice none 0 0, .slice none 0 0] 29))
          refine hK.out _ _ ?_ (fun hHeld => ?_)
          · (try dsimp only); (refine ⟨?_, ?_⟩ <;> (repeat (first | (with_reducible assumption) | (with_reducible refine far_drew ?_) | (with_reducible refine far_alloc ?_) | (with_reducible refine far_cell hne ?_))))
          clear hK K
          refine wpAnyH_ready (rs := [8]) (by kernel_rfl) (by simp) ?_
          refine AllReadyH.cons rfl (fun K hK => ?_) AllReadyH.nil
          try simp only [Act.put, List.setIfInBounds_toArray, List.set_cons_zero, List.set_cons_succ, List.getElem_toArray, List.getElem_cons_zero, List.getElem_cons_succ]
          go_simp
          with_reducible refine (next_x _ _ _ _ (by omega) (by omega) HT.out).mono ?_
          rintro e tq3 ⟨q3, q3a, q3b, rfl, T, g⟩
          replace HB := Lib.hid (HB.out.next g (Nat.lt_succ_self _) (Nat.le_refl _))
          replace HT := Lib.hid T
          clear g T x0 x1
          obtain ⟨x0, x1, -, -⟩ := (HB.out.own (g4, 29, #[.slice ad m cd, .slice vd N ed]) (by simp)).1.two
          dsimp only
          refine hK.out _ _ ?_ (fun hHeld => ?_)
          · (try dsimp only); (refine ⟨?_, ?_⟩ <;> (repeat (first | (with_reducible assumption) | (with_reducible refine far_drew ?_) | (with_reducible refine far_alloc ?_) | (with_reducible refine far_cell hne ?_))))
          clear hK K
          refine wpAnyH_ready (rs := [9]) (by kernel_rfl) (by simp) ?_
          refine AllReadyH.cons rfl (fun K hK => ?_) AllReadyH.nil
          try simp only [Act.put, List.setIfInBounds_toArray, List.set_cons_zero, List.set_cons_succ, List.getElem_toArray, List.getElem_cons_zero, List.getElem_cons_succ]
          go_simp
          have hD : DdP _ _ (.slice ad m cd) (.slice vd N ed) d := HB.out.dd (_, _, d) (by simp)
          with_reducible refine (open_p (p := p) (f := q1) (g := 1 + q2) (c := q3) hD hol htl hrl rfl).mono ?_
          rintro e t9 ⟨a9, v9, rfl, D, g⟩
          clear hD
          obtain ⟨a6, c6, rfl, -, -⟩ := D.rd.o.slice
          obtain ⟨v6, e6, rfl, -, -⟩ := D.rd.t.slice
          replace HB := Lib.hid (HB.out.add g D)
          replace HT := Lib.hid (HT.out.grew g)
          clear g D x0 x1
          obtain ⟨x0, x1, -, -⟩ := (HB.out.own (g4, 29, #[.slice ad m cd, .slice vd N ed]) (by simp)).1.two
          dsimp only
          refine hK.out _ _ ?_ (fun hHeld => ?_)
          · (try dsimp only); (refine ⟨?_, ?_⟩ <;> (repeat (first | (with_reducible assumption) | (with_reducible refine far_drew ?_) | (with_reducible refine far_alloc ?_) | (with_reducible refine far_cell hne ?_))))
          clear hK K
          first | refine wpAnyH_take (i := 10) (v := undef) rfl (by kernel_rfl) (by kernel_rfl) (by kernel_rfl) (fun _ _ _ h => h) (Or.inr ⟨by rfl, rfl⟩) (by assumption) ?_ | (refine' wpAnyH_take (i := 10) (v := _) rfl (by kernel_rfl) (by kernel_rfl) (by kernel_rfl) (fun _ _ _ h => h) (Or.inl ⟨by rfl, ?hyo23⟩) (by assumption) ?resto23; case hyo23 => (intro w hSw; (try dsimp only at hSw); (first | (go_simp; done) | (go_simp; with_reducible rfl))))
          try simp only [Act.put, List.setIfInBounds_toArray, List.set_cons_zero, List.set_cons_succ, List.getElem_toArray, List.getElem_cons_zero, List.getElem_cons_succ]
          first | refine wpAnyH_take (i := 11) (v := undef) rfl (by kernel_rfl) (by kernel_rfl) (by kernel_rfl) (fun _ _ _ h => h) (Or.inr ⟨by rfl, rfl⟩) (by assumption) ?_ | (refine' wpAnyH_take (i := 11) (v := _) rfl (by kernel_rfl) (by kernel_rfl) (by kernel_rfl) (fun _ _ _ h => h) (Or.inl ⟨by rfl, ?hyo24⟩) (by assumption) ?resto24; case hyo24 => (intro w hSw; (try dsimp only at hSw); (first | (go_simp; done) | (go_simp; with_reducible rfl))))
          try simp only [Act.put, List.setIfInBounds_toArray, List.set_cons_zero, List.set_cons_succ, List.getElem_toArray, List.getElem_cons_zero, List.getElem_cons_succ]
          first | refine wpAnyH_take (i := 12) (v := undef) rfl (by kernel_rfl) (by kernel_rfl) (by kernel_rfl) (fun _ _ _ h => h) (Or.inr ⟨by rfl, rfl⟩) (by assumption) ?_ | (refine' wpAnyH_take (i := 12) (v := _) rfl (by kernel_rfl) (by kernel_rfl) (by kernel_rfl) (fun _ _ _ h => h) (Or.inl ⟨by rfl, ?hyo25⟩) (by assumption) ?resto25; case hyo25 => (intro w hSw; (try dsimp only at hSw); (first | (go_simp; done) | (go_simp; with_reducible rfl))))
          try simp only [Act.put, List.setIfInBounds_toArray, List.set_cons_zero, List.set_cons_succ, List.getElem_toArray, List.getElem_cons_zero, List.getElem_cons_succ]
          first | refine wpAnyH_take (i := 13) (v := undef) rfl (by kernel_rfl) (by kernel_rfl) (by kernel_rfl) (fun _ _ _ h => h) (Or.inr ⟨by rfl, rfl⟩) (by assumption) ?_ | (refine' wpAnyH_take (i := 13) (v := _) rfl (by kernel_rfl) (by kernel_rfl) (by kernel_rfl) (fun _ _ _ h => h) (Or.inl ⟨by rfl, ?hyo26⟩) (by assumption) ?resto26; case hyo26 => (intro w hSw; (try dsimp only at hSw); (first | (go_simp; done) | (go_simp; with_reducible rfl))))
          try simp only [Act.put, List.setIfInBounds_toArray, List.set_cons_zero, List.set_cons_succ, List.getElem_toArray, List.getElem_cons_zero, List.getElem_cons_succ]
          refine wpAnyH_ready (rs := [15]) (by kernel_rfl) (by simp) ?_
          refine AllReadyH.cons rfl (fun K hK => ?_) AllReadyH.nil
          try simp only [Act.put, List.getElem_toArray, List.getElem_cons_zero, List.getElem_cons_succ]
          have hne := BxL.ne01 HB.out
          dsimp only at hne
          obtain ⟨y0, y1, y2, y3⟩ := (HB.out.own (_, 29, #[.slice none 0 0, .slice none 0 0]) (List.mem_cons_self ..)).1.two
          go_simp
          refine hK.out _ _ ?_ (fun hHeld => ?_)
          · (try dsimp only); (refine ⟨?_, ?_⟩ <;> (repeat (first | (with_reducible assumption) | (with_reducible refine far_drew ?_) | (with_reducible refine far_alloc ?_) | (with_reducible refine far_cell hne ?_))))
          clear hK K
          first | refine wpAnyH_take (i := 16) (v := undef) rfl (by kernel_rfl) (by kernel_rfl) (by kernel_rfl) (fun _ _ _ h => h) (Or.inr ⟨by rfl, rfl⟩) (by assumption) ?_ | (refine' wpAnyH_take (i := 16) (v := _) rfl (by kernel_rfl) (by kernel_rfl) (by kernel_rfl) (fun _ _ _ h => h) (Or.inl ⟨by rfl, ?hyo27⟩) (by assumption) ?resto27; case hyo27 => (intro w hSw; (try dsimp only at hSw); (first | (go_simp; done) | (go_simp; with_reducible rfl))))
          try simp only [Act.put, List.setIfInBounds_toArray, List.set_cons_zero, List.set_cons_succ, List.getElem_toArray, List.getElem_cons_zero, List.getElem_cons_succ]
          first | refine wpAnyH_take (i := 17) (v := undef) rfl (by kernel_rfl) (by kernel_rfl) (by kernel_rfl) (fun _ _ _ h => h) (Or.inr ⟨by rfl, rfl⟩) (by assumption) ?_ | (refine' wpAnyH_take (i := 17) (v := _) rfl (by kernel_rfl) (by kernel_rfl) (by kernel_rfl) (fun _ _ _ h => h) (Or.inl ⟨by rfl, ?hyo28⟩) (by assumption) ?resto28; case hyo28 => (intro w hSw; (try dsimp only at hSw); (first | (go_simp; done) | (go_simp; with_reducible rfl))))
          try simp only [Act.put, List.setIfInBounds_toArray, List.set_cons_zero, List.set_cons_succ, List.getElem_toArray, List.getElem_cons_zero, List.getElem_cons_succ]
          refine wpAnyH_done (by kernel_rfl) ?_ _
          (first | go_wp2_with fail | skip)
          generalize hw : World.setCell (World.setCell t9 _ _) _ _ = wE
          have hlo := (HB.out.own _ (List.mem_cons_self ..)).2
          replace HT := Lib.hid (HT.out.put2 hw hlo)
          replace HB := Lib.hid (BxL.put (l1 := []) HB.out hw)
          clear hw hlo
          go_meet
          exact ⟨q1, 1 + q2, q3, _, _, a6, v6, c6, e6, rfl, rfl, rfl, Lib.hid rfl, HB, HT⟩
      case sto7_1 =>
        try simp only [Act.put, List.setIfInBounds_toArray, List.set_cons_zero, List.set_cons_succ, List.getElem_toArray, List.getElem_cons_zero, List.getElem_cons_succ]
        go_simp
        have HBp := HB
        have HTp := HT
        replace HB := Lib.hid (HB.out.push 29 #[.slice none 0 0, .slice none 0 0])
        replace HT := Lib.hid (HT.out.alloc (.cells #[.slice none 0 0, .slice none 0 0] 29))
        refine hK.out _ _ ?_ (fun hHeld => ?_)
        · (try dsimp only); (refine ⟨?_, ?_⟩ <;> (repeat (first | (with_reducible assumption) | (with_reducible refine far_drew ?_) | (with_reducible refine far_alloc ?_) | (with_reducible refine far_cell hne ?_))))
        clear hK K
        refine wpAnyH_ready (rs := [5]) (by kernel_rfl) (by simp) ?_
        refine AllReadyH.cons rfl (fun K hK => ?_) AllReadyH.nil
        try simp only [Act.put, List.setIfInBounds_toArray, List.set_cons_zero, List.set_cons_succ, List.getElem_toArray, List.getElem_cons_zero, List.getElem_cons_succ]
        go_simp
        with_reducible refine (next_x _ _ _ _ (by omega) (by omega) HT.out).mono ?_
        rintro e tq2 ⟨q2, q2a, q2b, rfl, T, g⟩
        replace HB := Lib.hid (HB.out.next g (Nat.lt_succ_self _) (Nat.le_refl _))
        replace HT := Lib.hid T
        clear g T x0 x1
        obtain ⟨x0, x1, -, -⟩ := (HB.out.own (g4, 29, #[.slice ad m cd, .slice vd N ed]) (by simp)).1.two
        have hw2 : IntKind.i64.wrap (1 + q2) = 1 + q2 := IntWalk.i64_in _ (by omega)
        dsimp only
        refine hK.out _ _ ?_ (fun hHeld => ?_)
        · (try dsimp only); (refine ⟨?_, ?_⟩ <;> (repeat (first | (with_reducible assumption) | (with_reducible refine far_drew ?_) | (with_reducible refine far_alloc ?_) | (with_reducible refine far_cell hne ?_))))
        clear hK K
        first | refine wpAnyH_take (i := 6) (v := undef) rfl (by kernel_rfl) (by kernel_rfl) (by kernel_rfl) (fun _ _ _ h => h) (Or.inr ⟨by rfl, rfl⟩) (by assumption) ?_ | (refine' wpAnyH_take (i := 6) (v := _) rfl (by kernel_rfl) (by kernel_rfl) (by kernel_rfl) (fun _ _ _ h => h) (Or.inl ⟨by rfl, ?hyo29⟩) (by assumption) ?resto29; case hyo29 => (intro w hSw; (try dsimp only at hSw); (first | (go_simp; done) | (go_simp; with_reducible rfl))))
        try simp only [Act.put, List.setIfInBounds_toArray, List.set_cons_zero, List.set_cons_succ, List.getElem_toArray, List.getElem_cons_zero, List.getElem_cons_succ]
        refine wpAnyH_ready (rs := [8]) (by kernel_rfl) (by simp) ?_
        refine AllReadyH.cons rfl (fun K hK => ?_) AllReadyH.nil
        try simp only [Act.put, List.setIfInBounds_toArray, List.set_cons_zero, List.set_cons_succ, List.getElem_toArray, List.getElem_cons_zero, List.getElem_cons_succ]
        go_simp
        with_reducible refine (next_x _ _ _ _ (by omega) (by omega) HT.out).mono ?_
        rintro e tq3 ⟨q3, q3a, q3b, rfl, T, g⟩
        replace HB := Lib.hid (HB.out.next g (Nat.lt_succ_self _) (Nat.le_refl _))
        replace HT := Lib.hid T
        clear g T x0 x1
        obtain ⟨x0, x1, -, -⟩ := (HB.out.own (g4, 29, #[.slice ad m cd, .slice vd N ed]) (by simp)).1.two
        dsimp only
        refine hK.out _ _ ?_ (fun hHeld => ?_)
        · (try dsimp only); (refine ⟨?_, ?_⟩ <;> (repeat (first | (with_reducible assumption) | (with_reducible refine far_drew ?_) | (with_reducible refine far_alloc ?_) | (with_reducible refine far_cell hne ?_))))
        clear hK K
        refine wpAnyH_ready (rs := [9]) (by kernel_rfl) (by simp) ?_
        refine AllReadyH.cons rfl (fun K hK => ?_) AllReadyH.nil
        try simp only [Act.put, List.setIfInBounds_toArray, List.set_cons_zero, List.set_cons_succ, List.getElem_toArray, List.getElem_cons_zero, List.getElem_cons_succ]
        go_simp
        have hD : DdP _ _ (.slice ad m cd) (.slice vd N ed) d := HB.out.dd (_, _, d) (by simp)
        with_reducible refine (open_p (p := p) (f := q1) (g := 1 + q2) (c := q3) hD hol htl hrl rfl).mono ?_
        rintro e t9 ⟨a9, v9, rfl, D, g⟩
        clear hD
        obtain ⟨a6, c6, rfl, -, -⟩ := D.rd.o.slice
        obtain ⟨v6, e6, rfl, -, -⟩ := D.rd.t.slice
        replace HB := Lib.hid (HB.out.add g D)
        replace HT := Lib.hid (HT.out.grew g)
        clear g D x0 x1
        obtain ⟨x0, x1, -, -⟩ := (HB.out.own (g4, 29, #[.slice ad m cd, .slice vd N ed]) (by simp)).1.two
        dsimp only
        refine hK.out _ _ ?_ (fun hHeld => ?_)
        · (try dsimp only); (refine ⟨?_, ?_⟩ <;> (repeat (first | (with_reducible assumption) | (with_reducible refine far_drew ?_) | (with_reducible refine far_alloc ?_) | (with_reducible refine far_cell hne ?_))))
        clear hK K
        first | refine wpAnyH_take (i := 10) (v := undef) rfl (by kernel_rfl) (by kernel_rfl) (by kernel_rfl) (fun _ _ _ h => h) (Or.inr ⟨by rfl, rfl⟩) (by assumption) ?_ | (refine' wpAnyH_take (i := 10) (v := _) rfl (by kernel_rfl) (by kernel_rfl) (by kernel_rfl) (fun _ _ _ h => h) (Or.inl ⟨by rfl, ?hyo30⟩) (by assumption) ?resto30; case hyo30 => (intro w hSw; (try dsimp only at hSw); (first | (go_simp; done) | (go_simp; with_reducible rfl))))
        try simp only [Act.put, List.setIfInBounds_toArray, List.set_cons_zero, List.set_cons_succ, List.getElem_toArray, List.getElem_cons_zero, List.getElem_cons_succ]
        first | refine wpAnyH_take (i := 11) (v := undef) rfl (by kernel_rfl) (by kernel_rfl) (by kernel_rfl) (fun _ _ _ h => h) (Or.inr ⟨by rfl, rfl⟩) (by assumption) ?_ | (refine' wpAnyH_take (i := 11) (v := _) rfl (by kernel_rfl) (by kernel_rfl) (by kernel_rfl) (fun _ _ _ h => h) (Or.inl ⟨by rfl, ?hyo31⟩) (by assumption) ?resto31; case hyo31 => (intro w hSw; (try dsimp only at hSw); (first | (go_simp; done) | (go_simp; with_reducible rfl))))
        try simp only [Act.put, List.setIfInBounds_toArray, List.set_cons_zero, List.set_cons_succ, List.getElem_toArray, List.getElem_cons_zero, List.getElem_cons_succ]
        first | refine wpAnyH_take (i := 12) (v := undef) rfl (by kernel_rfl) (by kernel_rfl) (by kernel_rfl) (fun _ _ _ h => h) (Or.inr ⟨by rfl, rfl⟩) (by assumption) ?_ | (refine' wpAnyH_take (i := 12) (v := _) rfl (by kernel_rfl) (by kernel_rfl) (by kernel_rfl) (fun _ _ _ h => h) (Or.inl ⟨by rfl, ?hyo32⟩) (by assumption) ?resto32; case hyo32 => (intro w hSw; (try dsimp only at hSw); (first | (go_simp; done) | (go_simp; with_reducible rfl))))
        try simp only [Act.put, List.setIfInBounds_toArray, List.set_cons_zero, List.set_cons_succ, List.getElem_toArray, List.getElem_cons_zero, List.getElem_cons_succ]
        first | refine wpAnyH_take (i := 13) (v := undef) rfl (by kernel_rfl) (by kernel_rfl) (by kernel_rfl) (fun _ _ _ h => h) (Or.inr ⟨by rfl, rfl⟩) (by assumption) ?_ | (refine' wpAnyH_take (i := 13) (v := _) rfl (by kernel_rfl) (by kernel_rfl) (by kernel_rfl) (fun _ _ _ h => h) (Or.inl ⟨by rfl, ?hyo33⟩) (by assumption) ?resto33; case hyo33 => (intro w hSw; (try dsimp only at hSw); (first | (go_simp; done) | (go_simp; with_reducible rfl))))
        try simp only [Act.put, List.setIfInBounds_toArray, List.set_cons_zero, List.set_cons_succ, List.getElem_toArray, List.getElem_cons_zero, List.getElem_cons_succ]
        refine wpAnyH_ready (rs := [15]) (by kernel_rfl) (by simp) ?_
        refine AllReadyH.cons rfl (fun K hK => ?_) AllReadyH.nil
        try simp only [Act.put, List.getElem_toArray, List.getElem_cons_zero, List.getElem_cons_succ]
        have hne := BxL.ne01 HB.out
        dsimp only at hne
        obtain ⟨y0, y1, y2, y3⟩ := (HB.out.own (_, 29, #[.slice none 0 0, .slice none 0 0]) (List.mem_cons_self ..)).1.two
        go_simp
        refine hK.out _ _ ?_ (fun hHeld => ?_)
        · (try dsimp only); (refine ⟨?_, ?_⟩ <;> (repeat (first | (with_reducible assumption) | (with_reducible refine far_drew ?_) | (with_reducible refine far_alloc ?_) | (with_reducible refine far_cell hne ?_))))
        clear hK K
        first | refine wpAnyH_take (i := 16) (v := undef) rfl (by kernel_rfl) (by kernel_rfl) (by kernel_rfl) (fun _ _ _ h => h) (Or.inr ⟨by rfl, rfl⟩) (by assumption) ?_ | (refine' wpAnyH_take (i := 16) (v := _) rfl (by kernel_rfl) (by kernel_rfl) (by kernel_rfl) (fun _ _ _ h => h) (Or.inl ⟨by rfl, ?hyo34⟩) (by assumption) ?resto34; case hyo34 => (intro w hSw; (try dsimp only at hSw); (first | (go_simp; done) | (go_simp; with_reducible rfl))))
        try simp only [Act.put, List.setIfInBounds_toArray, List.set_cons_zero, List.set_cons_succ, List.getElem_toArray, List.getElem_cons_zero, List.getElem_cons_succ]
        first | refine wpAnyH_take (i := 17) (v := undef) rfl (by kernel_rfl) (by kernel_rfl) (by kernel_rfl) (fun _ _ _ h => h) (Or.inr ⟨by rfl, rfl⟩) (by assumption) ?_ | (refine' wpAnyH_take (i := 17) (v := _) rfl (by kernel_rfl) (by kernel_rfl) (by kernel_rfl) (fun _ _ _ h => h) (Or.inl ⟨by rfl, ?hyo35⟩) (by assumption) ?resto35; case hyo35 => (intro w hSw; (try dsimp only at hSw); (first | (go_simp; done) | (go_simp; with_reducible rfl))))
        try simp only [Act.put, List.setIfInBounds_toArray, List.set_cons_zero, List.set_cons_succ, List.getElem_toArray, List.getElem_cons_zero, List.getElem_cons_succ]
        refine wpAnyH_done (by kernel_rfl) ?_ _
        (first | go_wp2_with fail | skip)
        generalize hw : World.setCell (World.setCell t9 _ _) _ _ = wE
        have hlo := (HB.out.own _ (List.mem_cons_self ..)).2
        replace HT := Lib.hid (HT.out.put2 hw hlo)
        replace HB := Lib.hid (BxL.put (l1 := []) HB.out hw)
        clear hw hlo
        go_meet
        exact ⟨q1, 1 + q2, q3, _, _, a6, v6, c6, e6, rfl, rfl, rfl, Lib.hid rfl, HB, HT⟩
    case sto6_1 =>
      try simp only [Act.put, List.setIfInBounds_toArray, List.set_cons_zero, List.set_cons_succ, List.getElem_toArray, List.getElem_cons_zero, List.getElem_cons_succ]
      go_simp
      replace HB := Lib.hid ((HB0.out.push 29 #[.slice none 0 0, .slice none 0 0]).grew (Grew.refl _).drew)
      replace HT := Lib.hid ((HT0.out.alloc (.cells #[.slice none 0 0, .slice none 0 0] 29)).grew (Grew.refl _).drew)
      clear x0 x1
      obtain ⟨x0, x1, -, -⟩ := (HB.out.own (g4, 29, #[.slice ad m cd, .slice vd N ed]) (by simp)).1.two
      refine hK.out _ _ ?_ (fun hHeld => ?_)
      · (try dsimp only); (refine ⟨?_, ?_⟩ <;> (repeat (first | (with_reducible assumption) | (with_reducible refine far_drew ?_) | (with_reducible refine far_alloc ?_) | (with_reducible refine far_cell hne ?_))))
      clear hK K
      refine wpAnyH_ready (rs := [3]) (by kernel_rfl) (by simp) ?_
      refine AllReadyH.cons rfl (fun K hK => ?_) AllReadyH.nil
      try simp only [Act.put, List.setIfInBounds_toArray, List.set_cons_zero, List.set_cons_succ, List.getElem_toArray, List.getElem_cons_zero, List.getElem_cons_succ]
      go_simp
      with_reducible refine (next_x _ _ _ _ (by omega) (by omega) HT.out).mono ?_
      rintro e tq1 ⟨q1, q1a, q1b, rfl, T, g⟩
      replace HB := Lib.hid (HB.out.next g (Nat.lt_succ_self _) (Nat.le_refl _))
      replace HT := Lib.hid T
      clear g T x0 x1
      obtain ⟨x0, x1, -, -⟩ := (HB.out.own (g4, 29, #[.slice ad m cd, .slice vd N ed]) (by simp)).1.two
      dsimp only
      refine hK.out _ _ ?_ (fun hHeld => ?_)
      · (try dsimp only); (refine ⟨?_, ?_⟩ <;> (repeat (first | (with_reducible assumption) | (with_reducible refine far_drew ?_) | (with_reducible refine far_alloc ?_) | (with_reducible refine far_cell hne ?_))))
      clear hK K
      refine wpAnyH_ready (rs := [5]) (by kernel_rfl) (by simp) ?_
      refine AllReadyH.cons rfl (fun K hK => ?_) AllReadyH.nil
      try simp only [Act.put, List.setIfInBounds_toArray, List.set_cons_zero, List.set_cons_succ, List.getElem_toArray, List.getElem_cons_zero, List.getElem_cons_succ]
      go_simp
      with_reducible refine (next_x _ _ _ _ (by omega) (by omega) HT.out).mono ?_
      rintro e tq2 ⟨q2, q2a, q2b, rfl, T, g⟩
      replace HB := Lib.hid (HB.out.next g (Nat.lt_succ_self _) (Nat.le_refl _))
      replace HT := Lib.hid T
      clear g T x0 x1
      obtain ⟨x0, x1, -, -⟩ := (HB.out.own (g4, 29, #[.slice ad m cd, .slice vd N ed]) (by simp)).1.two
      have hw2 : IntKind.i64.wrap (1 + q2) = 1 + q2 := IntWalk.i64_in _ (by omega)
      dsimp only
      refine hK.out _ _ ?_ (fun hHeld => ?_)
      · (try dsimp only); (refine ⟨?_, ?_⟩ <;> (repeat (first | (with_reducible assumption) | (with_reducible refine far_drew ?_) | (with_reducible refine far_alloc ?_) | (with_reducible refine far_cell hne ?_))))
      clear hK K
      first | refine wpAnyH_take (i := 6) (v := undef) rfl (by kernel_rfl) (by kernel_rfl) (by kernel_rfl) (fun _ _ _ h => h) (Or.inr ⟨by rfl, rfl⟩) (by assumption) ?_ | (refine' wpAnyH_take (i := 6) (v := _) rfl (by kernel_rfl) (by kernel_rfl) (by kernel_rfl) (fun _ _ _ h => h) (Or.inl ⟨by rfl, ?hyo36⟩) (by assumption) ?resto36; case hyo36 => (intro w hSw; (try dsimp only at hSw); (first | (go_simp; done) | (go_simp; with_reducible rfl))))
      try simp only [Act.put, List.setIfInBounds_toArray, List.set_cons_zero, List.set_cons_succ, List.getElem_toArray, List.getElem_cons_zero, List.getElem_cons_succ]
      refine wpAnyH_ready (rs := [8]) (by kernel_rfl) (by simp) ?_
      refine AllReadyH.cons rfl (fun K hK => ?_) AllReadyH.nil
      try simp only [Act.put, List.setIfInBounds_toArray, List.set_cons_zero, List.set_cons_succ, List.getElem_toArray, List.getElem_cons_zero, List.getElem_cons_succ]
      go_simp
      with_reducible refine (next_x _ _ _ _ (by omega) (by omega) HT.out).mono ?_
      rintro e tq3 ⟨q3, q3a, q3b, rfl, T, g⟩
      replace HB := Lib.hid (HB.out.next g (Nat.lt_succ_self _) (Nat.le_refl _))
      replace HT := Lib.hid T
      clear g T x0 x1
      obtain ⟨x0, x1, -, -⟩ := (HB.out.own (g4, 29, #[.slice ad m cd, .slice vd N ed]) (by simp)).1.two
      dsimp only
      refine hK.out _ _ ?_ (fun hHeld => ?_)
      · (try dsimp only); (refine ⟨?_, ?_⟩ <;> (repeat (first | (with_reducible assumption) | (with_reducible refine far_drew ?_) | (with_reducible refine far_alloc ?_) | (with_reducible refine far_cell hne ?_))))
      clear hK K
      refine wpAnyH_ready (rs := [9]) (by kernel_rfl) (by simp) ?_
      refine AllReadyH.cons rfl (fun K hK => ?_) AllReadyH.nil
      try simp only [Act.put, List.setIfInBounds_toArray, List.set_cons_zero, List.set_cons_succ, List.getElem_toArray, List.getElem_cons_zero, List.getElem_cons_succ]
      go_simp
      have hD : DdP _ _ (.slice ad m cd) (.slice vd N ed) d := HB.out.dd (_, _, d) (by simp)
      with_reducible refine (open_p (p := p) (f := q1) (g := 1 + q2) (c := q3) hD hol htl hrl rfl).mono ?_
      rintro e t9 ⟨a9, v9, rfl, D, g⟩
      clear hD
      obtain ⟨a6, c6, rfl, -, -⟩ := D.rd.o.slice
      obtain ⟨v6, e6, rfl, -, -⟩ := D.rd.t.slice
      replace HB := Lib.hid (HB.out.add g D)
      replace HT := Lib.hid (HT.out.grew g)
      clear g D x0 x1
      obtain ⟨x0, x1, -, -⟩ := (HB.out.own (g4, 29, #[.slice ad m cd, .slice vd N ed]) (by simp)).1.two
      dsimp only
      refine hK.out _ _ ?_ (fun hHeld => ?_)
      · (try dsimp only); (refine ⟨?_, ?_⟩ <;> (repeat (first | (with_reducible assumption) | (with_reducible refine far_drew ?_) | (with_reducible refine far_alloc ?_) | (with_reducible refine far_cell hne ?_))))
      clear hK K
      first | refine wpAnyH_take (i := 10) (v := undef) rfl (by kernel_rfl) (by kernel_rfl) (by kernel_rfl) (fun _ _ _ h => h) (Or.inr ⟨by rfl, rfl⟩) (by assumption) ?_ | (refine' wpAnyH_take (i := 10) (v := _) rfl (by kernel_rfl) (by kernel_rfl) (by kernel_rfl) (fun _ _ _ h => h) (Or.inl ⟨by rfl, ?hyo37⟩) (by assumption) ?resto37; case hyo37 => (intro w hSw; (try dsimp only at hSw); (first | (go_simp; done) | (go_simp; with_reducible rfl))))
      try simp only [Act.put, List.setIfInBounds_toArray, List.set_cons_zero, List.set_cons_succ, List.getElem_toArray, List.getElem_cons_zero, List.getElem_cons_succ]
      first | refine wpAnyH_take (i := 11) (v := undef) rfl (by kernel_rfl) (by kernel_rfl) (by kernel_rfl) (fun _ _ _ h => h) (Or.inr ⟨by rfl, rfl⟩) (by assumption) ?_ | (refine' wpAnyH_take (i := 11) (v := _) rfl (by kernel_rfl) (by kernel_rfl) (by kernel_rfl) (fun _ _ _ h => h) (Or.inl ⟨by rfl, ?hyo38⟩) (by assumption) ?resto38; case hyo38 => (intro w hSw; (try dsimp only at hSw); (first | (go_simp; done) | (go_simp; with_reducible rfl))))
      try simp only [Act.put, List.setIfInBounds_toArray, List.set_cons_zero, List.set_cons_succ, List.getElem_toArray, List.getElem_cons_zero, List.getElem_cons_succ]
      first | refine wpAnyH_take (i := 12) (v := undef) rfl (by kernel_rfl) (by kernel_rfl) (by kernel_rfl) (fun _ _ _ h => h) (Or.inr ⟨by rfl, rfl⟩) (by assumption) ?_ | (refine' wpAnyH_take (i := 12) (v := _) rfl (by kernel_rfl) (by kernel_rfl) (by kernel_rfl) (fun _ _ _ h => h) (Or.inl ⟨by rfl, ?hyo39⟩) (by assumption) ?resto39; case hyo39 => (intro w hSw; (try dsimp only at hSw); (first | (go_simp; done) | (go_simp; with_reducible rfl))))
      try simp only [Act.put, List.setIfInBounds_toArray, List.set_cons_zero, List.set_cons_succ, List.getElem_toArray, List.getElem_cons_zero, List.getElem_cons_succ]
      first | refine wpAnyH_take (i := 13) (v := undef) rfl (by kernel_rfl) (by kernel_rfl) (by kernel_rfl) (fun _ _ _ h => h) (Or.inr ⟨by rfl, rfl⟩) (by assumption) ?_ | (refine' wpAnyH_take (i := 13) (v := _) rfl (by kernel_rfl) (by kernel_rfl) (by kernel_rfl) (fun _ _ _ h => h) (Or.inl ⟨by rfl, ?hyo40⟩) (by assumption) ?resto40; case hyo40 => (intro w hSw; (try dsimp only at hSw); (first | (go_simp; done) | (go_simp; with_reducible rfl))))
      try simp only [Act.put, List.setIfInBounds_toArray, List.set_cons_zero, List.set_cons_succ, List.getElem_toArray, List.getElem_cons_zero, List.getElem_cons_succ]
      refine wpAnyH_ready (rs := [15]) (by kernel_rfl) (by simp) ?_
      refine AllReadyH.cons rfl (fun K hK => ?_) AllReadyH.nil
      try simp only [Act.put, List.getElem_toArray, List.getElem_cons_zero, List.getElem_cons_succ]
      have hne := BxL.ne01 HB.out
      dsimp only at hne
      obtain ⟨y0, y1, y2, y3⟩ := (HB.out.own (_, 29, #[.slice none 0 0, .slice none 0 0]) (List.mem_cons_self ..)).1.two
      go_simp
      refine hK.out _ _ ?_ (fun hHeld => ?_)
      · (try dsimp only); (refine ⟨?_, ?_⟩ <;> (repeat (first | (with_reducible assumption) | (with_reducible refine far_drew ?_) | (with_reducible refine far_alloc ?_) | (with_reducible refine far_cell hne ?_))))
      clear hK K
      first | refine wpAnyH_take (i := 16) (v := undef) rfl (by kernel_rfl) (by kernel_rfl) (by kernel_rfl) (fun _ _ _ h => h) (Or.inr ⟨by rfl, rfl⟩) (by assumption) ?_ | (refine' wpAnyH_take (i := 16) (v := _) rfl (by kernel_rfl) (by kernel_rfl) (by kernel_rfl) (fun _ _ _ h => h) (Or.inl ⟨by rfl, ?hyo41⟩) (by assumption) ?resto41; case hyo41 => (intro w hSw; (try dsimp only at hSw); (first | (go_simp; done) | (go_simp; with_reducible rfl))))
      try simp only [Act.put, List.setIfInBounds_toArray, List.set_cons_zero, List.set_cons_succ, List.getElem_toArray, List.getElem_cons_zero, List.getElem_cons_succ]
      first | refine wpAnyH_take (i := 17) (v := undef) rfl (by kernel_rfl) (by kernel_rfl) (by kernel_rfl) (fun _ _ _ h => h) (Or.inr ⟨by rfl, rfl⟩) (by assumption) ?_ | (refine' wpAnyH_take (i := 17) (v := _) rfl (by kernel_rfl) (by kernel_rfl) (by kernel_rfl) (fun _ _ _ h => h) (Or.inl ⟨by rfl, ?hyo42⟩) (by assumption) ?resto42; case hyo42 => (intro w hSw; (try dsimp only at hSw); (first | (go_simp; done) | (go_simp; with_reducible rfl))))
      try simp only [Act.put, List.setIfInBounds_toArray, List.set_cons_zero, List.set_cons_succ, List.getElem_toArray, List.getElem_cons_zero, List.getElem_cons_succ]
      refine wpAnyH_done (by kernel_rfl) ?_ _
      (first | go_wp2_with fail | skip)
      generalize hw : World.setCell (World.setCell t9 _ _) _ _ = wE
      have hlo := (HB.out.own _ (List.mem_cons_self ..)).2
      replace HT := Lib.hid (HT.out.put2 hw hlo)
      replace HB := Lib.hid (BxL.put (l1 := []) HB.out hw)
      clear hw hlo
      go_meet
      exact ⟨q1, 1 + q2, q3, _, _, a6, v6, c6, e6, rfl, rfl, rfl, Lib.hid rfl, HB, HT⟩
  case rest =>
    clear HB HT
    obtain ⟨fi, fl, cu, g6, X, a6, v6, c6, e6, rfl, rfl, rfl, HX, HB, HT⟩ := hcut
    have SX : Hid (SmX X.1) := Lib.hid (by rw [← HX.out]; exact opnD_sm HSM.out p rfl)
    go_upto_if 40 with fail
    go_cut [9, 10, 11] from 40 to 60 (fun v9 v10 v11 wx => Hid (BxL w (w.heap.size + 1) ([(g6, 29, #[.slice a6 X.1.o.length c6, .slice v6 X.1.t.length e6]), (g4, 29, #[.slice ad m cd, .slice vd N ed])] : List Bx) [(.slice a6 X.1.o.length c6, .slice v6 X.1.t.length e6, X.1), (.slice ad m cd, .slice vd N ed, d)] wx) ∧ Hid (Tp (w.heap.size + 1) wx w.heap.size))
    case first =>
      obtain ⟨xd, xf, xe⟩ := X
      dsimp only at HB HX SX
      by_cases he : xe = 0
      · subst he
        have HU := Lib.hid (by have h := und1 (d := d) HOK.out (p := p) (x := ⟨fi, fl, 0, cu, 1⟩) rfl (by rw [HX.out]); rw [HX.out] at h; exact h)
        obtain ⟨x0, x1, -, -⟩ := (HB.out.own (g6, 29, #[.slice a6 xd.o.length c6, .slice v6 xd.t.length e6]) (by simp)).1.two
        have hD : DdP _ _ (.slice a6 xd.o.length c6) (.slice v6 xd.t.length e6) (xd) := HB.out.dd (.slice a6 xd.o.length c6, .slice v6 xd.t.length e6, xd) (by simp)
        go_wp2_with fail
        with_reducible refine (close_p hD SX.out.o SX.out.t (Lib.hid SX.out.r) HU.out).mono ?_
        rintro e w13 ⟨a9, v9, rfl, D, g⟩
        obtain ⟨a8, c8, rfl, -, -⟩ := D.rd.o.slice
        obtain ⟨v8, e8, rfl, -, -⟩ := D.rd.t.slice
        replace HB := Lib.hid (HB.out.add g D)
        replace HT := Lib.hid (HT.out.grew g)
        replace HB := Lib.hid (show BxL w (w.heap.size + 1) ([(g6, 29, #[.slice a6 xd.o.length c6, .slice v6 xd.t.length e6]), (g4, 29, #[.slice ad m cd, .slice vd N ed])] : List Bx) [(.slice a8 d.o.length c8, .slice v8 d.t.length e8, d), (.slice a6 xd.o.length c6, .slice v6 xd.t.length e6, xd), (.slice ad m cd, .slice vd N ed, d)] w13 from HB.out)
        clear g D hD x0 x1
        replace HT := Lib.hid (HT.out.alloc (.cells #[.slice a8 d.o.length c8, .slice v8 d.t.length e8] 29))
        replace HB := Lib.hid (HB.out.push 29 #[.slice a8 d.o.length c8, .slice v8 d.t.length e8])
        go_upto_region 7 with fail
        generalize World.alloc w13 _ = w14 at *
        generalize w13.heap.size = g9 at *
        replace HB := Lib.hid (show BxL w (w.heap.size + 1) ([(g9, 29, #[.slice a8 d.o.length c8, .slice v8 d.t.length e8]), (g6, 29, #[.slice a6 xd.o.length c6, .slice v6 xd.t.length e6]), (g4, 29, #[.slice ad m cd, .slice vd N ed])] : List Bx) [(.slice a8 d.o.length c8, .slice v8 d.t.length e8, d), (.slice a6 xd.o.length c6, .slice v6 xd.t.length e6, xd), (.slice ad m cd, .slice vd N ed, d)] w14 from HB.out)
        obtain ⟨x0, x1, -, -⟩ := (HB.out.own (g9, 29, #[.slice a8 d.o.length c8, .slice v8 d.t.length e8]) (by simp)).1.two
        obtain ⟨y0, y1, -, -⟩ := (HB.out.own (g4, 29, #[.slice ad m cd, .slice vd N ed]) (by simp)).1.two
        have hD1 : DdP _ _ (.slice a8 d.o.length c8) (.slice v8 d.t.length e8) (d) := HB.out.dd (.slice a8 d.o.length c8, .slice v8 d.t.length e8, d) (by simp)
        have hD2 : DdP _ _ (.slice ad m cd) (.slice vd N ed) (d) := HB.out.dd (.slice ad m cd, .slice vd N ed, d) (by simp)
        go_wp2_with fail
        with_reducible refine (same_q hD1.rd hD2.rd HSM.out.o HSM.out.t HSM.out.r).mono ?_
        rintro e w15 ⟨rfl, g⟩
        replace HB := Lib.hid (HB.out.grew g)
        replace HT := Lib.hid (HT.out.grew g)
        clear g hD1 hD2 x0 x1 y0 y1
        go_wp2_with fail
        go_meet
        exact ⟨Lib.hid ((HB.out.tail).less (fun e he => List.mem_cons.2 (.inr he))), HT⟩
      have n0 : (xe == 0) = false := by simpa using he
      go_wp2_with fail
      go_meet
      exact ⟨HB, HT⟩
    case rest =>
      clear HB HT HX
      obtain ⟨HB, HT⟩ := hcut
      clear SX
      go_upto_region 9 with fail
      replace HB := Lib.hid (HB.out.grew (Grew.refl _).drew)
      replace HT := Lib.hid (HT.out.grew (Grew.refl _).drew)
      have hne := BxL.ne01 HB.out
      dsimp only at hne
      obtain ⟨x0, x1, -, -⟩ := (HB.out.own (g4, 29, #[.slice ad m cd, .slice vd N ed]) (by simp)).1.two
      refine wp_region_held_drew (S := (fun w' => w'.cell? ⟨g4, 0, none⟩ = some (.slice ad m cd) ∧ w'.cell? ⟨g4, 1, none⟩ = some (.slice vd N ed))) (by kernel_rfl) ?_ (fun hHeld => ?_)
      · (try dsimp only); (refine ⟨?_, ?_⟩ <;> (repeat (first | (with_reducible assumption) | (with_reducible refine far_drew ?_) | (with_reducible refine far_alloc ?_) | (with_reducible refine far_cell hne ?_))))
      first | refine wpAnyH_take (i := 0) (v := undef) rfl (by kernel_rfl) (by kernel_rfl) (by kernel_rfl) (fun _ _ _ h => h) (Or.inr ⟨by rfl, rfl⟩) (by assumption) ?_ | (refine' wpAnyH_take (i := 0) (v := _) rfl (by kernel_rfl) (by kernel_rfl) (by kernel_rfl) (fun _ _ _ h => h) (Or.inl ⟨by rfl, ?hyp1⟩) (by assumption) ?restp1; case hyp1 => (intro w hSw; (try dsimp only at hSw); (first | (go_simp; done) | (go_simp; with_reducible rfl))))
      try simp only [Act.put, List.setIfInBounds_toArray, List.set_cons_zero, List.set_cons_succ, List.getElem_toArray, List.getElem_cons_zero]
      first | refine wpAnyH_take (i := 1) (v := undef) rfl (by kernel_rfl) (by kernel_rfl) (by kernel_rfl) (fun _ _ _ h => h) (Or.inr ⟨by rfl, rfl⟩) (by assumption) ?_ | (refine' wpAnyH_take (i := 1) (v := _) rfl (by kernel_rfl) (by kernel_rfl) (by kernel_rfl) (fun _ _ _ h => h) (Or.inl ⟨by rfl, ?hyp2⟩) (by assumption) ?restp2; case hyp2 => (intro w hSw; (try dsimp only at hSw); (first | (go_simp; done) | (go_simp; with_reducible rfl))))
      try simp only [Act.put, List.setIfInBounds_toArray, List.set_cons_zero, List.set_cons_succ, List.getElem_toArray, List.getElem_cons_zero, List.getElem_cons_succ]
      first | refine wpAnyH_take (i := 2) (v := undef) rfl (by kernel_rfl) (by kernel_rfl) (by kernel_rfl) (fun _ _ _ h => h) (Or.inr ⟨by rfl, rfl⟩) (by assumption) ?_ | (refine' wpAnyH_take (i := 2) (v := _) rfl (by kernel_rfl) (by kernel_rfl) (by kernel_rfl) (fun _ _ _ h => h) (Or.inl ⟨by rfl, ?hyp3⟩) (by assumption) ?restp3; case hyp3 => (intro w hSw; (try dsimp only at hSw); (first | (go_simp; done) | (go_simp; with_reducible rfl))))
      try simp only [Act.put, List.setIfInBounds_toArray, List.set_cons_zero, List.set_cons_succ, List.getElem_toArray, List.getElem_cons_zero, List.getElem_cons_succ]
      refine wpAnyH_ready (rs := [3]) (by kernel_rfl) (by simp) ?_
      refine AllReadyH.cons rfl (fun K hK => ?_) AllReadyH.nil
      try simp only [Act.put, List.setIfInBounds_toArray, List.set_cons_zero, List.set_cons_succ, List.getElem_toArray, List.getElem_cons_zero, List.getElem_cons_succ]
      go_simp
      with_reducible refine (next_x _ _ _ _ (by omega) (by omega) HT.out).mono ?_
      rintro e tq5 ⟨q5, q5a, q5b, rfl, T, g⟩
      replace HB := Lib.hid (HB.out.next g (Nat.lt_succ_self _) (Nat.le_refl _))
      replace HT := Lib.hid T
      clear g T x0 x1
      obtain ⟨x0, x1, -, -⟩ := (HB.out.own (g4, 29, #[.slice ad m cd, .slice vd N ed]) (by simp)).1.two
      dsimp only
      refine hK.out _ _ ?_ (fun hHeld => ?_)
      · (try dsimp only); (refine ⟨?_, ?_⟩ <;> (repeat (first | (with_reducible assumption) | (with_reducible refine far_drew ?_) | (with_reducible refine far_alloc ?_) | (with_reducible refine far_cell hne ?_))))
      clear hK K
      refine wpAnyH_ready (rs := [4]) (by kernel_rfl) (by simp) ?_
      refine AllReadyH.cons rfl (fun K hK => ?_) AllReadyH.nil
      try simp only [Act.put, List.setIfInBounds_toArray, List.set_cons_zero, List.set_cons_succ, List.getElem_toArray, List.getElem_cons_zero, List.getElem_cons_succ]
      go_simp
      have hD : DdP _ _ (.slice ad m cd) (.slice vd N ed) d := HB.out.dd (_, _, d) (by simp)
      obtain ⟨Y, hY⟩ : ∃ Y, dupD d p q5 = Y := ⟨_, rfl⟩
      have HY := Lib.hid hY
      with_reducible refine (dup_p hD hol htl hrl HY.out).mono ?_
      rintro e t9 ⟨a9, v9, rfl, D, g⟩
      obtain ⟨a7, c7, rfl, -, -⟩ := D.rd.o.slice
      obtain ⟨v7, e7, rfl, -, -⟩ := D.rd.t.slice
      replace HB := Lib.hid (HB.out.add g D)
      replace HT := Lib.hid (HT.out.grew g)
      clear g D hD hY x0 x1
      obtain ⟨x0, x1, -, -⟩ := (HB.out.own (g4, 29, #[.slice ad m cd, .slice vd N ed]) (by simp)).1.two
      dsimp only
      refine hK.out _ _ ?_ (fun hHeld => ?_)
      · (try dsimp only); (refine ⟨?_, ?_⟩ <;> (repeat (first | (with_reducible assumption) | (with_reducible refine far_drew ?_) | (with_reducible refine far_alloc ?_) | (with_reducible refine far_cell hne ?_))))
      clear hK K
      first | refine wpAnyH_take (i := 5) (v := undef) rfl (by kernel_rfl) (by kernel_rfl) (by kernel_rfl) (fun _ _ _ h => h) (Or.inr ⟨by rfl, rfl⟩) (by assumption) ?_ | (refine' wpAnyH_take (i := 5) (v := _) rfl (by kernel_rfl) (by kernel_rfl) (by kernel_rfl) (fun _ _ _ h => h) (Or.inl ⟨by rfl, ?hyp4⟩) (by assumption) ?restp4; case hyp4 => (intro w hSw; (try dsimp only at hSw); (first | (go_simp; done) | (go_simp; with_reducible rfl))))
      try simp only [Act.put, List.setIfInBounds_toArray, List.set_cons_zero, List.set_cons_succ, List.getElem_toArray, List.getElem_cons_zero, List.getElem_cons_succ]
      first | refine wpAnyH_take (i := 6) (v := undef) rfl (by kernel_rfl) (by kernel_rfl) (by kernel_rfl) (fun _ _ _ h => h) (Or.inr ⟨by rfl, rfl⟩) (by assumption) ?_ | (refine' wpAnyH_take (i := 6) (v := _) rfl (by kernel_rfl) (by kernel_rfl) (by kernel_rfl) (fun _ _ _ h => h) (Or.inl ⟨by rfl, ?hyp5⟩) (by assumption) ?restp5; case hyp5 => (intro w hSw; (try dsimp only at hSw); (first | (go_simp; done) | (go_simp; with_reducible rfl))))
      try simp only [Act.put, List.setIfInBounds_toArray, List.set_cons_zero, List.set_cons_succ, List.getElem_toArray, List.getElem_cons_zero, List.getElem_cons_succ]
      first | refine wpAnyH_take (i := 7) (v := undef) rfl (by kernel_rfl) (by kernel_rfl) (by kernel_rfl) (fun _ _ _ h => h) (Or.inr ⟨by rfl, rfl⟩) (by assumption) ?_ | (refine' wpAnyH_take (i := 7) (v := _) rfl (by kernel_rfl) (by kernel_rfl) (by kernel_rfl) (fun _ _ _ h => h) (Or.inl ⟨by rfl, ?hyp6⟩) (by assumption) ?restp6; case hyp6 => (intro w hSw; (try dsimp only at hSw); (first | (go_simp; done) | (go_simp; with_reducible rfl))))
      try simp only [Act.put, List.setIfInBounds_toArray, List.set_cons_zero, List.set_cons_succ, List.getElem_toArray, List.getElem_cons_zero, List.getElem_cons_succ]
      first | refine wpAnyH_take (i := 8) (v := undef) rfl (by kernel_rfl) (by kernel_rfl) (by kernel_rfl) (fun _ _ _ h => h) (Or.inr ⟨by rfl, rfl⟩) (by assumption) ?_ | (refine' wpAnyH_take (i := 8) (v := _) rfl (by kernel_rfl) (by kernel_rfl) (by kernel_rfl) (fun _ _ _ h => h) (Or.inl ⟨by rfl, ?hyp7⟩) (by assumption) ?restp7; case hyp7 => (intro w hSw; (try dsimp only at hSw); (first | (go_simp; done) | (go_simp; with_reducible rfl))))
      try simp only [Act.put, List.setIfInBounds_toArray, List.set_cons_zero, List.set_cons_succ, List.getElem_toArray, List.getElem_cons_zero, List.getElem_cons_succ]
      refine wpAnyH_ready (rs := [9]) (by kernel_rfl) (by simp) ?_
      refine AllReadyH.cons rfl (fun K hK => ?_) AllReadyH.nil
      try simp only [Act.put, List.getElem_toArray, List.getElem_cons_zero, List.getElem_cons_succ]
      obtain ⟨y0, y1, y2, y3⟩ := (HB.out.own (g6, 29, #[.slice a6 X.1.o.length c6, .slice v6 X.1.t.length e6]) (List.mem_cons_self ..)).1.two
      go_simp
      refine hK.out _ _ ?_ (fun hHeld => ?_)
      · (try dsimp only); (refine ⟨?_, ?_⟩ <;> (repeat (first | (with_reducible assumption) | (with_reducible refine far_drew ?_) | (with_reducible refine far_alloc ?_) | (with_reducible refine far_cell hne ?_))))
      clear hK K
      first | refine wpAnyH_take (i := 10) (v := undef) rfl (by kernel_rfl) (by kernel_rfl) (by kernel_rfl) (fun _ _ _ h => h) (Or.inr ⟨by rfl, rfl⟩) (by assumption) ?_ | (refine' wpAnyH_take (i := 10) (v := _) rfl (by kernel_rfl) (by kernel_rfl) (by kernel_rfl) (fun _ _ _ h => h) (Or.inl ⟨by rfl, ?hyp8⟩) (by assumption) ?restp8; case hyp8 => (intro w hSw; (try dsimp only at hSw); (first | (go_simp; done) | (go_simp; with_reducible rfl))))
      try simp only [Act.put, List.setIfInBounds_toArray, List.set_cons_zero, List.set_cons_succ, List.getElem_toArray, List.getElem_cons_zero, List.getElem_cons_succ]
      first | refine wpAnyH_take (i := 11) (v := undef) rfl (by kernel_rfl) (by kernel_rfl) (by kernel_rfl) (fun _ _ _ h => h) (Or.inr ⟨by rfl, rfl⟩) (by assumption) ?_ | (refine' wpAnyH_take (i := 11) (v := _) rfl (by kernel_rfl) (by kernel_rfl) (by kernel_rfl) (fun _ _ _ h => h) (Or.inl ⟨by rfl, ?hyp9⟩) (by assumption) ?restp9; case hyp9 => (intro w hSw; (try dsimp only at hSw); (first | (go_simp; done) | (go_simp; with_reducible rfl))))
      try simp only [Act.put, List.setIfInBounds_toArray, List.set_cons_zero, List.set_cons_succ, List.getElem_toArray, List.getElem_cons_zero, List.getElem_cons_succ]
      refine wpAnyH_done (by kernel_rfl) ?_ _
      (first | go_upto_region 10 with fail | skip)
      generalize hw : World.setCell (World.setCell t9 _ _) _ _ = w50
      have hlo := (HB.out.own _ (List.mem_cons_self ..)).2
      replace HT := Lib.hid (HT.out.put2 hw hlo)
      replace HB := Lib.hid (show BxL w (w.heap.size + 1) ([(g6, 29, #[.slice a7 Y.1.o.length c7, .slice v7 Y.1.t.length e7]), (g4, 29, #[.slice ad m cd, .slice vd N ed])] : List Bx) [(.slice a7 Y.1.o.length c7, .slice v7 Y.1.t.length e7, Y.1), (.slice a6 X.1.o.length c6, .slice v6 X.1.t.length e6, X.1), (.slice ad m cd, .slice vd N ed, d)] w50 from BxL.put (l1 := []) HB.out hw)
      clear hw hlo hne x0 x1 y0 y1 y2 y3
      have SX : Hid (SmX Y.1) := Lib.hid (by rw [← HY.out]; exact dupD_sm HSM.out p q5)
      obtain ⟨yd, yf, ye⟩ := Y
      dsimp only at HB HY SX
      by_cases he : ye = 0
      · subst he
        have HU := Lib.hid (by have h := und2 (d := d) HOK.out (p := p) (q := q5) (by rw [HY.out]); rw [HY.out] at h; exact h)
        obtain ⟨x0, x1, -, -⟩ := (HB.out.own (g6, 29, #[.slice a7 yd.o.length c7, .slice v7 yd.t.length e7]) (by simp)).1.two
        have hD : DdP _ _ (.slice a7 yd.o.length c7) (.slice v7 yd.t.length e7) (yd) := HB.out.dd (.slice a7 yd.o.length c7, .slice v7 yd.t.length e7, yd) (by simp)
        go_wp2_with fail
        with_reducible refine (close_p hD SX.out.o SX.out.t (Lib.hid SX.out.r) HU.out).mono ?_
        rintro e w16 ⟨a9, v9, rfl, D, g⟩
        obtain ⟨a8, c8, rfl, -, -⟩ := D.rd.o.slice
        obtain ⟨v8, e8, rfl, -, -⟩ := D.rd.t.slice
        replace HB := Lib.hid (HB.out.add g D)
        replace HT := Lib.hid (HT.out.grew g)
        replace HB := Lib.hid (show BxL w (w.heap.size + 1) ([(g6, 29, #[.slice a7 yd.o.length c7, .slice v7 yd.t.length e7]), (g4, 29, #[.slice ad m cd, .slice vd N ed])] : List Bx) [(.slice a8 d.o.length c8, .slice v8 d.t.length e8, d), (.slice a7 yd.o.length c7, .slice v7 yd.t.length e7, yd), (.slice a6 X.1.o.length c6, .slice v6 X.1.t.length e6, X.1), (.slice ad m cd, .slice vd N ed, d)] w16 from HB.out)
        clear g D hD x0 x1
        replace HT := Lib.hid (HT.out.alloc (.cells #[.slice a8 d.o.length c8, .slice v8 d.t.length e8] 29))
        replace HB := Lib.hid (HB.out.push 29 #[.slice a8 d.o.length c8, .slice v8 d.t.length e8])
        go_upto_region 12 with fail
        generalize World.alloc w16 _ = w17 at *
        generalize w16.heap.size = g12 at *
        replace HB := Lib.hid (show BxL w (w.heap.size + 1) ([(g12, 29, #[.slice a8 d.o.length c8, .slice v8 d.t.length e8]), (g6, 29, #[.slice a7 yd.o.length c7, .slice v7 yd.t.length e7]), (g4, 29, #[.slice ad m cd, .slice vd N ed])] : List Bx) [(.slice a8 d.o.length c8, .slice v8 d.t.length e8, d), (.slice a7 yd.o.length c7, .slice v7 yd.t.length e7, yd), (.slice a6 X.1.o.length c6, .slice v6 X.1.t.length e6, X.1), (.slice ad m cd, .slice vd N ed, d)] w17 from HB.out)
        obtain ⟨x0, x1, -, -⟩ := (HB.out.own (g12, 29, #[.slice a8 d.o.length c8, .slice v8 d.t.length e8]) (by simp)).1.two
        obtain ⟨y0, y1, -, -⟩ := (HB.out.own (g4, 29, #[.slice ad m cd, .slice vd N ed]) (by simp)).1.two
        have hD1 : DdP _ _ (.slice a8 d.o.length c8) (.slice v8 d.t.length e8) (d) := HB.out.dd (.slice a8 d.o.length c8, .slice v8 d.t.length e8, d) (by simp)
        have hD2 : DdP _ _ (.slice ad m cd) (.slice vd N ed) (d) := HB.out.dd (.slice ad m cd, .slice vd N ed, d) (by simp)
        go_wp2_with fail
        with_reducible refine (same_q hD1.rd hD2.rd HSM.out.o HSM.out.t HSM.out.r).mono ?_
        rintro e w18 ⟨rfl, g⟩
        replace HB := Lib.hid (HB.out.grew g)
        replace HT := Lib.hid (HT.out.grew g)
        clear g hD1 hD2 x0 x1 y0 y1
        go_wp2_with fail
        with_reducible refine (awake_x _).mono ?_
        rintro e w90 ⟨rfl, g⟩
        have HG := Lib.hid (HB.out.g.trans g)
        clear g
        go_wp2
        go_ret
        exact ⟨by simp, HG.out⟩
      have n0 : (ye == 0) = false := by simpa using he
      go_wp2_with fail
      with_reducible refine (awake_x _).mono ?_
      rintro e w90 ⟨rfl, g⟩
      have HG := Lib.hid (HB.out.g.trans g)
      clear g
      go_wp2
      go_ret
      exact ⟨by simp, HG.out⟩

theorem Try.own : ownKnob Try.prog.godebug = none := by kernel_rfl
theorem Try.laidOut : laidOutB Try.prog = true := by kernel_rfl

theorem descriptorUndone_contract (W : World) (base : Nat) (args : Array Value) (H : Type) (enc : TypeId × Value → H) (ds : List (DataW H)) (p : List MemPlace)
    (hval : ∀ (j : Nat) t v, Try.f5.params[j]? = some t → args[j]? = some v → Value.okWide Try.prog W .any base t v)
    (hA : DataW.TrodAll enc Try.prog W 0 (fun _ => true) true Try.f5.params.toList args.toList ds p) :
    (∃ d0, ds = [d0]) ∧ Calls Try.prog 5 args W fun e W' => e = .returned (.bool true) ∧ Below W.heap.size W W' := by
  rw [Try.params5] at hval hA
  obtain ⟨v0, d0, p0, ha, hd, hp, h0⟩ := args_1 hA
  subst ha hd
  obtain ⟨A0, c0, xs0, rfl, hr0, hm0⟩ := open_introw Try.underlying22 Try.underlying3 (by kernel_rfl) (hval 0 _ _ rfl rfl) h0
  exact ⟨⟨_, rfl⟩, (undone_core A0 c0 xs0 W hr0 hm0).mono fun _ _ h => h⟩

set_option maxRecDepth 100000 in
theorem descriptorUndone_lifted (os : Os) (started : os.Started) (H : Type) (enc : TypeId × Value → H) :
    ReturnsInHanded {} Try.checked os 5 .any (Rows.descriptorUndoneSpec.pre6 enc Try.prog Try.f5 Rows.descriptorUndoneRow.domain false) (Rows.descriptorUndoneSpec.post enc Try.prog Try.f5 false true false false) := by
  refine returnsInHanded_of_change (C := Try.checked) Try.own started (by kernel_rfl) Try.func5
    (ChangeSpec.witness6 (enc := enc) (C := Try.checked) false ⟨#[], #[.slice none 0 0], []⟩ 8 (by kernel_rfl) (by kernel_rfl) (by kernel_rfl) (by kernel_rfl)) ?_
  intro W base args ds gs before hval hW _ _
  obtain ⟨p, q, hA, hV, hrest⟩ := id hW
  obtain ⟨⟨d0, rfl⟩, hc⟩ := descriptorUndone_contract W base args H enc ds p hval hA
  obtain ⟨rfl, -⟩ := trodVars_none hV
  refine hc.mono fun e W' ⟨he, hb⟩ => ⟨_, he, ?_⟩
  exact law_close (tb := 4) Try.laidOut (by rw [Try.params5]; decide +kernel) Try.underlying4 rfl rfl hW rfl rfl rfl hb

theorem descriptorUndone_holds : Rows.DescriptorUndoneSaid :=
  OpenClaim.holds_of_wide 5 Try.f5 rfl rfl rfl rfl rfl rfl rfl ⟨rfl, rfl, rfl, rfl, rfl⟩ rfl rfl rfl rfl rfl (by kernel_rfl) Try.func5 (by kernel_rfl)
    (of_decide_eq_true (by kernel_rfl)) (by unfold Func.isWrapper; first | (rw [if_pos (by decide +kernel)]; kernel_rfl) | (rw [if_neg (by decide +kernel)]; exact ⟨rfl, rfl⟩))
    (fun os started H enc _ => descriptorUndone_lifted os started H enc)
end Go.Proofs.Ytokijggckiidjaa

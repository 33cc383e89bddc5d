/- copied of the reference (layer 18). mkds7.py writes this text out of ds7.base. -/
import Derived.Test.YtokijggckiidjaaDs6
namespace Go.Mine
open Go Go.RowKit
/-- What has been copied: i tables. -/
structure CpW (w : World) (T To Ts Ti : TypeId) (a b a' : Value) (g3 : Nat) (d : Dd) (i : Nat) (v : Value) (G C : Nat → Nat) (wr : World) : Prop where
  dbox : Own wr w.heap.size T #[a, b]
  res : Own wr (w.heap.size + 1) T #[.slice none 0 0, .slice none 0 0]
  box : Own wr g3 T #[a', v]
  o : RowE To 5 encDs wr (w.heap.size + 2) a' d.o
  ob : ∀ x, a'.ownBlock = some x → x < g3
  t : TbK Ts Ti wr (g3 + 1) v G C (d.t.take i)
  g : Grew w wr
  g3 : w.heap.size + 2 ≤ g3
theorem app_row {Ti : TypeId} {w : World} {B : Nat} {v : Value} {R : List Int} (h : RowE Ti 1 enc1 w B v ([] ++ R)) (hR : R.length = 16) : ∃ g c, v = slV g 16 c ∧ B ≤ g ∧ g < w.heap.size ∧ RowE Ti 1 enc1 w B (slV g 16 c) R := by
  rw [List.nil_append] at h
  rcases h.shape enc1_len with ⟨-, e⟩ | ⟨g, c, e, hB, hg, -⟩
  · rw [e] at hR; cases hR
  · rw [hR] at e
    subst e
    exact ⟨g, c, rfl, hB, hg, h⟩
theorem cpW_next {w wo W8 w9 : World} {T To Ts Ti : TypeId} {a b a' : Value} {g3 : Nat} {d : Dd} {i g7 c7 g9 n9 cap9 : Nat} {v : Value} {G C : Nat → Nat} (h : CpW w T To Ts Ti a b a' g3 d i v G C wo) (hi : i < d.t.length) (h16 : (d.t.getD i []).length = 16)
    (hg : Grew wo W8) (hr : RowE Ti 1 enc1 W8 wo.heap.size (slV g7 16 c7) (d.t.getD i [])) (r9 : RowE Ts 1 eV w9 (g3 + 1) (slV g9 n9 cap9) (slL G C (d.t.take i) ++ [slV g7 16 c7])) (G9 : W8.grownBy w9 v.ownBlock) (o9 : v.ownBlock = some g9 ∨ g9 = W8.heap.size) :
    ∃ G' C', CpW w T To Ts Ti a b a' g3 d (i + 1) (slV g9 n9 cap9) G' C' (w9.setCell ⟨g3, 1, none⟩ (slV g9 n9 cap9)) := by
  have hg7 : wo.heap.size ≤ g7 := hr.above _ rfl
  have hbx := h.box.lt
  have hs := hg.size
  have hva := fun x (e : v.ownBlock = some x) => h.t.row.above x e
  have t5 := (h.t.grew hg).snoc (hr.wider (by omega)) h16.symm (fun e => by have := h.t.row.lt _ e; omega) (fun k hk e => by have := (h.t.above hk).2; omega) r9 G9 (fun x e => by
    have e2 : some g9 = some x := e
    injection e2 with e2
    subst e2
    rcases o9 with o5 | o5
    · exact .inl o5
    · exact .inr (by omega))
  rw [← take_getD d.t i hi] at t5
  have hno : ∀ x, x ≤ g3 → v.ownBlock ≠ some x := fun x hx e => by have := hva x e; omega
  have h3 := h.g3
  refine ⟨_, _, ((h.dbox.grew hg).keptN G9 (hno _ (by omega))).far (p := ⟨g3, 1, none⟩) (by show w.heap.size ≠ g3; omega) _, ((h.res.grew hg).keptN G9 (hno _ (by omega))).far (p := ⟨g3, 1, none⟩) (by show w.heap.size + 1 ≠ g3; omega) _,
    ((h.box.grew hg).keptN G9 (hno _ (Nat.le_refl _))).set 1 _, ?_, h.ob, t5.past (grown_set (p := ⟨g3, 1, none⟩) (grown_refl w9 (some g3)) (.inl rfl) _) (Nat.lt_succ_self _), ?_, h3⟩
  · refine ((h.o.grew hg).keptG G9 (fun x e e2 => ?_)).set (p := ⟨g3, 1, none⟩) (fun e => ?_) _
    · have := hva x e; have := h.ob x e2; omega
    · have := h.ob _ e
      have e3 : (⟨g3, 1, none⟩ : Addr).block = g3 := rfl
      omega
  · have gw : Grew w w9 := Grew.keptA (B := g3 + 1) (h.g.trans hg) G9 hva (by omega)
    exact gw.set (p := ⟨g3, 1, none⟩) (by show w.heap.size ≤ g3; omega) _
end Go.Mine
namespace Go.Proofs.Ytokijggckiidjaa
open Go.ChangeShapes Go.WideShapes Go.ChangeAt Go.RowKit Go.Mine
theorem info_desc : (Try.prog.info? 34).map (fun i => (i.zero, i.size, i.bytes)) = some (some (dsV zDs), 5, 40) := by kernel_rfl
set_option maxHeartbeats 8000000 in
theorem copied_q {B : Nat} {a b : Value} {d : Dd} {w : World} (h : DdR w B a b d) (ho : d.o.length ≤ 1000) (ht : d.t.length ≤ 1000) (h16 : ∀ p, p < d.t.length → (d.t.getD p []).length = 16) :
    Calls Try.prog 37 #[.agg #[a, b]] w (RetK 34 22 3 d w) := by
  obtain ⟨a1, ca, rfl, -, -⟩ := h.o.slice
  obtain ⟨b1, cb, rfl, -, -⟩ := h.t.slice
  obtain ⟨m, hm⟩ : ∃ m, d.o.length = m := ⟨_, rfl⟩
  obtain ⟨N, hN⟩ : ∃ N, d.t.length = N := ⟨_, rfl⟩
  have HM := Lib.hid hm
  have HN := Lib.hid hN
  rw [hm] at h ho ⊢
  rw [hN] at h ht ⊢
  have HH := Lib.hid h
  have H16 := Lib.hid h16
  have D0 := (Mine.Own.new w 29 #[.slice a1 m ca, .slice b1 N cb]).alloc (.cells #[.slice none 0 0, .slice none 0 0] 29)
  have R0 := Mine.Own.new2 w (.cells #[.slice a1 m ca, .slice b1 N cb] 29) 29 #[.slice none 0 0, .slice none 0 0]
  have G0 := ((Grew.refl w).alloc (.cells #[.slice a1 m ca, .slice b1 N cb] 29)).alloc (.cells #[.slice none 0 0, .slice none 0 0] 29)
  have hsz : w.heap.size + 2 ≤ ((w.alloc (.cells #[.slice a1 m ca, .slice b1 N cb] 29)).alloc (.cells #[.slice none 0 0, .slice none 0 0] 29)).heap.size := by simp
  obtain ⟨x0, x1, x2, x3⟩ := D0.two
  have HL := Lib.hid (RdS.lies encDs_len (h.o.grew G0)).2.2
  have HD := Lib.hid D0
  have HR := Lib.hid R0
  have HG := Lib.hid G0
  have hl6 : ([] : List Ds).length + d.o.length < 1000000 := by rw [HM.out]; simp only [List.length_nil]; omega
  clear h hm hN h16 D0 R0 G0
  go_enter Try.func37, Try.ntmps37
  go_wp2_with (at_builtin; go_loud (
    refine wpList_append_src _ rfl _ _ 26 rfl (w.heap.size + 2) info_desc Try.underlying26 (by decide) (by decide) encDs_len (fun z => encDs_one) _ [] rfl (RowE.nil _ _) _ _ _ d.o rfl HM.out.symm HL.out hl6 (by decide) hsz ?_
    intro v1 w1 R1 G1 o1
    have HG1 := Lib.hid (below_of_grown G1)
    rw [List.nil_append] at R1
    have HR1 := Lib.hid R1
    clear G1 o1 R1
    obtain ⟨a2, c2, rfl⟩ := HR1.out.len
    rw [HM.out]))
  have HW : Hid (CpW w 29 34 22 3 (.slice a1 m ca) (.slice b1 N cb) (.slice a2 m c2) w1.heap.size d 0 (.slice none 0 0) (fun _ => 0) (fun _ => 0) (w1.alloc (.cells #[.slice a2 m c2, .slice none 0 0] 29))) := Lib.hid (by
    have hs := HG1.out.size
    have ho := HR1.out
    rw [HM.out] at ho
    exact ⟨(HD.out.grew HG1.out).alloc _, (HR.out.grew HG1.out).alloc _, Mine.Own.new w1 _ _, ho.alloc _, fun x e => ho.lt x e, TbK.nil _ _, (HG.out.trans HG1.out).alloc _, Nat.le_trans hsz hs⟩)
  generalize w1.alloc _ = w2 at *
  generalize w1.heap.size = g3 at *
  clear x0 x1 x2 x3 HL HD HR HG HG1 HR1 hsz hl6
  go_loopw [4] (fun iv wr => ∃ (i : Nat) (v : Value) (G C : Nat → Nat), iv = .int .i64 i ∧ i ≤ N ∧ CpW w 29 34 22 3 (.slice a1 m ca) (.slice b1 N cb) (.slice a2 m c2) g3 d i v G C wr) (fun iv _ => N - (intOf iv).toNat)
  case atStart => exact ⟨0, _, _, _, rfl, Nat.zero_le _, HW.out⟩
  case round =>
    clear HW
    obtain ⟨i, v, G, C, rfl, hi, W⟩ := hrel
    obtain ⟨wo, rfl⟩ : ∃ wo : World, wo = wr := ⟨_, rfl⟩
    obtain ⟨av, cv, hv⟩ := W.t.slice
    rw [List.length_take, Nat.min_eq_left (by rw [HN.out]; exact hi)] at hv
    subst hv
    obtain ⟨x0, x1, x2, x3⟩ := W.dbox.two
    by_cases hlt : i < N
    · have hi0 : (0 : Int) ≤ (i : Int) := by omega
      have hi1 : (i : Int) < (N : Int) := by omega
      have hit : i < d.t.length := by rw [HN.out]; exact hlt
      have HIT := Lib.hid hit
      have HR16 := Lib.hid (H16.out i hit)
      obtain ⟨gb, ob, ta, tc, rfl, -, hgb, c0, RT⟩ := (HH.out.t.grew W.g).at_ hit
      have HRL := Lib.hid (RdS.lies enc1_len RT).2.2
      rw [HR16.out] at c0
      obtain ⟨y0, y1, y2, y3⟩ := W.box.two
      have HW := Lib.hid W
      have hr6 : ([] : List Int).length + (d.t.getD i []).length < 1000000 := by rw [HR16.out]; decide
      have hx6 : (slL G C (d.t.take i)).length < 1000000 := by rw [slL_len, List.length_take]; omega
      have hvb : ¬(Value.slice av i cv).ownBlock = some g3 := fun e => by have := W.t.row.above _ e; omega
      have h3w := W.box.lt
      clear RT W
      go_upto_region 5 with fail
      refine wp_region_any (by kernel_rfl) ?_
      refine wpAny_take (i := 0) (oi := ⟨some 16, _, _, _, _, _⟩) (v := ?vvn1) rfl (by kernel_rfl) (by kernel_rfl) (by kernel_rfl) (fun _ _ _ h => h) (Or.inl ⟨by rfl, ?yyn1⟩) ?rrn1
      case yyn1 => (intro w; go_simp; (try with_reducible rfl))
      try simp only [Act.put, List.setIfInBounds_toArray, List.set_cons_zero, List.set_cons_succ]
      refine wpAny_take (i := 2) (oi := ⟨some 18, _, _, _, _, _⟩) (v := ?vvn2) rfl (by kernel_rfl) (by kernel_rfl) (by kernel_rfl) (fun _ _ _ h => h) (Or.inl ⟨by rfl, ?yyn2⟩) ?rrn2
      case yyn2 => (intro w; go_simp; (try with_reducible rfl))
      try simp only [Act.put, List.setIfInBounds_toArray, List.set_cons_zero, List.set_cons_succ]
      refine wpAny_take (i := 4) (oi := ⟨some 20, _, _, _, _, _⟩) (v := ?vvn3) rfl (by kernel_rfl) (by kernel_rfl) (by kernel_rfl) (fun _ _ _ h => h) (Or.inl ⟨by rfl, ?yyn3⟩) ?rrn3
      case yyn3 => (intro w; go_simp; (try with_reducible rfl))
      try simp only [Act.put, List.setIfInBounds_toArray, List.set_cons_zero, List.set_cons_succ]
      refine wpAny_ready (rs := [1, 3]) (by kernel_rfl) (by simp) ?_
      refine AllReady.cons (o := ⟨some 17, _, _, _, _, _⟩) rfl (fun K hK => ?stn4_0) (AllReady.cons (o := ⟨some 19, _, _, _, _, _⟩) rfl (fun K hK => ?stn4_1) AllReady.nil)
      case stn4_0 =>
        go_simp
        refine hK _ _ ?_
        clear hK K
        try simp only [Act.put, List.setIfInBounds_toArray, List.set_cons_zero, List.set_cons_succ]
        refine wpAny_ready (rs := [3]) (by kernel_rfl) (by simp) ?_
        refine AllReady.cons (o := ⟨some 19, _, _, _, _, _⟩) rfl (fun K hK => ?stn5_0) AllReady.nil
        case stn5_0 =>
          go_simp
          refine hK _ _ ?_
          clear hK K
          try simp only [Act.put, List.setIfInBounds_toArray, List.set_cons_zero, List.set_cons_succ]
          refine wpAny_take (i := 5) (oi := ⟨some 21, _, _, _, _, _⟩) (v := ?vvn6) rfl (by kernel_rfl) (by kernel_rfl) (by kernel_rfl) (fun _ _ _ h => h) (Or.inl ⟨by rfl, ?yyn6⟩) ?rrn6
          case yyn6 => (intro w; go_simp; (try with_reducible rfl))
          try simp only [Act.put, List.setIfInBounds_toArray, List.set_cons_zero, List.set_cons_succ]
          refine wpAny_ready (rs := [6]) (by kernel_rfl) (by simp) ?_
          refine AllReady.cons (o := ⟨some 22, _, _, _, _, _⟩) rfl (fun K hK => ?stn7_0) AllReady.nil
          case stn7_0 =>
            go_simp
            refine hK _ _ ?_
            clear hK K
            try simp only [Act.put, List.setIfInBounds_toArray, List.set_cons_zero, List.set_cons_succ]
            refine wpAny_ready (rs := [7]) (by kernel_rfl) (by simp) ?_
            refine AllReady.cons (o := ⟨some 23, _, _, _, _, _⟩) rfl (fun K hK => ?stn8_0) AllReady.nil
            case stn8_0 =>
              refine step_append_src (w := wo.drew) (by rfl) (.const (.slice none 0 0)) (.tmp 22) 22 (by rfl) wo.heap.size info_int Try.underlying22 (by decide) (by decide) enc1_len (fun z => enc1_one) (.slice none 0 0) [] (by rfl) (RowE.nil _ _) ta 16 tc (d.t.getD i []) (by rfl) HR16.out.symm HRL.out hr6 (by decide) (Nat.le_refl _) ?_
              intro v7 w7 R7 G7 o7
              obtain ⟨g7, c7, rfl, hg7, hg7s, R7⟩ := app_row R7 HR16.out
              have g77 : Grew wo w7 := ((Grew.refl wo).drew).trans (below_of_grown G7)
              have HGA := Lib.hid (g77.alloc (.cells #[slV g7 16 c7] 22))
              have HRR := Lib.hid (R7.alloc (.cells #[slV g7 16 c7] 22))
              have HT8 := Lib.hid (HW.out.t.grew HGA.out)
              have HB8 := Lib.hid (HW.out.box.grew HGA.out)
              have HN8 := Lib.hid (Mine.Own.new w7 22 #[slV g7 16 c7])
              have hz8 : g3 + 1 ≤ (w7.alloc (.cells #[slV g7 16 c7] 22)).heap.size := HB8.out.lt
              obtain ⟨k0, k1, k2, k3⟩ := (HW.out.box.grew g77).two
              obtain ⟨l0, l1, l2, l3⟩ := HB8.out.two
              clear G7 o7 R7 g77
              refine hK _ _ ?_
              clear hK K
              try simp only [Act.put, List.setIfInBounds_toArray, List.set_cons_zero, List.set_cons_succ]
              refine wpAny_ready (rs := [8]) (by kernel_rfl) (by simp) ?_
              refine AllReady.cons (o := ⟨some 24, _, _, _, _, _⟩) rfl (fun K hK => ?stn9_0) AllReady.nil
              case stn9_0 =>
                go_simp
                refine hK _ _ ?_
                clear hK K
                try simp only [Act.put, List.setIfInBounds_toArray, List.set_cons_zero, List.set_cons_succ]
                refine wpAny_ready (rs := [9]) (by kernel_rfl) (by simp) ?_
                refine AllReady.cons (o := ⟨some 25, _, _, _, _, _⟩) rfl (fun K hK => ?stn10_0) AllReady.nil
                case stn10_0 =>
                  refine step_append_row (w := w7.alloc (.cells #[slV g7 16 c7] 22)) (by rfl) (.tmp 17) (.tmp 24) 27 (by rfl) (g3 + 1) info_ints Try.underlying27 (by decide) (by decide) eV_len (.slice av i cv) (slL G C (d.t.take i)) (by rfl) HT8.out.row w7.heap.size 1 (slV g7 16 c7) (by rfl) HN8.out (fun u hu => by rw [List.mem_singleton.1 hu]; rfl) hx6 (by decide) hz8 ?_
                  intro g9 cap9 w9 R9 G9 o9
                  have HR9 := Lib.hid R9
                  have HG9 := Lib.hid G9
                  have Ho9 := Lib.hid o9
                  clear R9 G9 o9
                  obtain ⟨m0, m1, m2, m3⟩ := (HB8.out.keptN HG9.out (fun e => hvb e)).two
                  refine hK _ _ ?_
                  clear hK K
                  try simp only [Act.put, List.setIfInBounds_toArray, List.set_cons_zero, List.set_cons_succ]
                  refine wpAny_take (i := 10) (oi := ⟨some 26, _, _, _, _, _⟩) (v := ?vvn11) rfl (by kernel_rfl) (by kernel_rfl) (by kernel_rfl) (fun _ _ _ h => h) (Or.inl ⟨by rfl, ?yyn11⟩) ?rrn11
                  case yyn11 => (intro w; go_simp; (try with_reducible rfl))
                  try simp only [Act.put, List.setIfInBounds_toArray, List.set_cons_zero, List.set_cons_succ]
                  refine wpAny_ready (rs := [11]) (by kernel_rfl) (by simp) ?_
                  refine AllReady.cons (o := ⟨none, _, _, _, _, _⟩) rfl (fun K hK => ?stn12_0) AllReady.nil
                  case stn12_0 =>
                    go_simp
                    refine hK _ _ ?_
                    clear hK K
                    try simp only [Act.put, List.setIfInBounds_toArray, List.set_cons_zero, List.set_cons_succ]
                    refine wpAny_done (by kernel_rfl) ?_ _
                    (first | go_wp2_with fail | skip)
                    obtain ⟨G2, C2, W2⟩ := cpW_next HW.out HIT.out HR16.out HGA.out HRR.out HR9.out HG9.out Ho9.out
                    go_roundw
                    case rel => exact ⟨i + 1, _, G2, C2, by go_num, by omega, W2⟩
                    case measure => simp [intOf]; omega
      case stn4_1 =>
        go_simp
        refine hK _ _ ?_
        clear hK K
        try simp only [Act.put, List.setIfInBounds_toArray, List.set_cons_zero, List.set_cons_succ]
        refine wpAny_take (i := 5) (oi := ⟨some 21, _, _, _, _, _⟩) (v := ?vvn13) rfl (by kernel_rfl) (by kernel_rfl) (by kernel_rfl) (fun _ _ _ h => h) (Or.inl ⟨by rfl, ?yyn13⟩) ?rrn13
        case yyn13 => (intro w; go_simp; (try with_reducible rfl))
        try simp only [Act.put, List.setIfInBounds_toArray, List.set_cons_zero, List.set_cons_succ]
        refine wpAny_ready (rs := [1, 6]) (by kernel_rfl) (by simp) ?_
        refine AllReady.cons (o := ⟨some 17, _, _, _, _, _⟩) rfl (fun K hK => ?stn14_0) (AllReady.cons (o := ⟨some 22, _, _, _, _, _⟩) rfl (fun K hK => ?stn14_1) AllReady.nil)
        case stn14_0 =>
          go_simp
          refine hK _ _ ?_
          clear hK K
          try simp only [Act.put, List.setIfInBounds_toArray, List.set_cons_zero, List.set_cons_succ]
          refine wpAny_ready (rs := [6]) (by kernel_rfl) (by simp) ?_
          refine AllReady.cons (o := ⟨some 22, _, _, _, _, _⟩) rfl (fun K hK => ?stn15_0) AllReady.nil
          case stn15_0 =>
            go_simp
            refine hK _ _ ?_
            clear hK K
            try simp only [Act.put, List.setIfInBounds_toArray, List.set_cons_zero, List.set_cons_succ]
            refine wpAny_ready (rs := [7]) (by kernel_rfl) (by simp) ?_
            refine AllReady.cons (o := ⟨some 23, _, _, _, _, _⟩) rfl (fun K hK => ?stn16_0) AllReady.nil
            case stn16_0 =>
              refine step_append_src (w := wo.drew) (by rfl) (.const (.slice none 0 0)) (.tmp 22) 22 (by rfl) wo.heap.size info_int Try.underlying22 (by decide) (by decide) enc1_len (fun z => enc1_one) (.slice none 0 0) [] (by rfl) (RowE.nil _ _) ta 16 tc (d.t.getD i []) (by rfl) HR16.out.symm HRL.out hr6 (by decide) (Nat.le_refl _) ?_
              intro v7 w7 R7 G7 o7
              obtain ⟨g7, c7, rfl, hg7, hg7s, R7⟩ := app_row R7 HR16.out
              have g77 : Grew wo w7 := ((Grew.refl wo).drew).trans (below_of_grown G7)
              have HGA := Lib.hid (g77.alloc (.cells #[slV g7 16 c7] 22))
              have HRR := Lib.hid (R7.alloc (.cells #[slV g7 16 c7] 22))
              have HT8 := Lib.hid (HW.out.t.grew HGA.out)
              have HB8 := Lib.hid (HW.out.box.grew HGA.out)
              have HN8 := Lib.hid (Mine.Own.new w7 22 #[slV g7 16 c7])
              have hz8 : g3 + 1 ≤ (w7.alloc (.cells #[slV g7 16 c7] 22)).heap.size := HB8.out.lt
              obtain ⟨k0, k1, k2, k3⟩ := (HW.out.box.grew g77).two
              obtain ⟨l0, l1, l2, l3⟩ := HB8.out.two
              clear G7 o7 R7 g77
              refine hK _ _ ?_
              clear hK K
              try simp only [Act.put, List.setIfInBounds_toArray, List.set_cons_zero, List.set_cons_succ]
              refine wpAny_ready (rs := [8]) (by kernel_rfl) (by simp) ?_
              refine AllReady.cons (o := ⟨some 24, _, _, _, _, _⟩) rfl (fun K hK => ?stn17_0) AllReady.nil
              case stn17_0 =>
                go_simp
                refine hK _ _ ?_
                clear hK K
                try simp only [Act.put, List.setIfInBounds_toArray, List.set_cons_zero, List.set_cons_succ]
                refine wpAny_ready (rs := [9]) (by kernel_rfl) (by simp) ?_
                refine AllReady.cons (o := ⟨some 25, _, _, _, _, _⟩) rfl (fun K hK => ?stn18_0) AllReady.nil
                case stn18_0 =>
                  refine step_append_row (w := w7.alloc (.cells #[slV g7 16 c7] 22)) (by rfl) (.tmp 17) (.tmp 24) 27 (by rfl) (g3 + 1) info_ints Try.underlying27 (by decide) (by decide) eV_len (.slice av i cv) (slL G C (d.t.take i)) (by rfl) HT8.out.row w7.heap.size 1 (slV g7 16 c7) (by rfl) HN8.out (fun u hu => by rw [List.mem_singleton.1 hu]; rfl) hx6 (by decide) hz8 ?_
                  intro g9 cap9 w9 R9 G9 o9
                  have HR9 := Lib.hid R9
                  have HG9 := Lib.hid G9
                  have Ho9 := Lib.hid o9
                  clear R9 G9 o9
                  obtain ⟨m0, m1, m2, m3⟩ := (HB8.out.keptN HG9.out (fun e => hvb e)).two
                  refine hK _ _ ?_
                  clear hK K
                  try simp only [Act.put, List.setIfInBounds_toArray, List.set_cons_zero, List.set_cons_succ]
                  refine wpAny_take (i := 10) (oi := ⟨some 26, _, _, _, _, _⟩) (v := ?vvn19) rfl (by kernel_rfl) (by kernel_rfl) (by kernel_rfl) (fun _ _ _ h => h) (Or.inl ⟨by rfl, ?yyn19⟩) ?rrn19
                  case yyn19 => (intro w; go_simp; (try with_reducible rfl))
                  try simp only [Act.put, List.setIfInBounds_toArray, List.set_cons_zero, List.set_cons_succ]
                  refine wpAny_ready (rs := [11]) (by kernel_rfl) (by simp) ?_
                  refine AllReady.cons (o := ⟨none, _, _, _, _, _⟩) rfl (fun K hK => ?stn20_0) AllReady.nil
                  case stn20_0 =>
                    go_simp
                    refine hK _ _ ?_
                    clear hK K
                    try simp only [Act.put, List.setIfInBounds_toArray, List.set_cons_zero, List.set_cons_succ]
                    refine wpAny_done (by kernel_rfl) ?_ _
                    (first | go_wp2_with fail | skip)
                    obtain ⟨G2, C2, W2⟩ := cpW_next HW.out HIT.out HR16.out HGA.out HRR.out HR9.out HG9.out Ho9.out
                    go_roundw
                    case rel => exact ⟨i + 1, _, G2, C2, by go_num, by omega, W2⟩
                    case measure => simp [intOf]; omega
        case stn14_1 =>
          go_simp
          refine hK _ _ ?_
          clear hK K
          try simp only [Act.put, List.setIfInBounds_toArray, List.set_cons_zero, List.set_cons_succ]
          refine wpAny_ready (rs := [1, 7]) (by kernel_rfl) (by simp) ?_
          refine AllReady.cons (o := ⟨some 17, _, _, _, _, _⟩) rfl (fun K hK => ?stn21_0) (AllReady.cons (o := ⟨some 23, _, _, _, _, _⟩) rfl (fun K hK => ?stn21_1) AllReady.nil)
          case stn21_0 =>
            go_simp
            refine hK _ _ ?_
            clear hK K
            try simp only [Act.put, List.setIfInBounds_toArray, List.set_cons_zero, List.set_cons_succ]
            refine wpAny_ready (rs := [7]) (by kernel_rfl) (by simp) ?_
            refine AllReady.cons (o := ⟨some 23, _, _, _, _, _⟩) rfl (fun K hK => ?stn22_0) AllReady.nil
            case stn22_0 =>
              refine step_append_src (w := wo.drew) (by rfl) (.const (.slice none 0 0)) (.tmp 22) 22 (by rfl) wo.heap.size info_int Try.underlying22 (by decide) (by decide) enc1_len (fun z => enc1_one) (.slice none 0 0) [] (by rfl) (RowE.nil _ _) ta 16 tc (d.t.getD i []) (by rfl) HR16.out.symm HRL.out hr6 (by decide) (Nat.le_refl _) ?_
              intro v7 w7 R7 G7 o7
              obtain ⟨g7, c7, rfl, hg7, hg7s, R7⟩ := app_row R7 HR16.out
              have g77 : Grew wo w7 := ((Grew.refl wo).drew).trans (below_of_grown G7)
              have HGA := Lib.hid (g77.alloc (.cells #[slV g7 16 c7] 22))
              have HRR := Lib.hid (R7.alloc (.cells #[slV g7 16 c7] 22))
              have HT8 := Lib.hid (HW.out.t.grew HGA.out)
              have HB8 := Lib.hid (HW.out.box.grew HGA.out)
              have HN8 := Lib.hid (Mine.Own.new w7 22 #[slV g7 16 c7])
              have hz8 : g3 + 1 ≤ (w7.alloc (.cells #[slV g7 16 c7] 22)).heap.size := HB8.out.lt
              obtain ⟨k0, k1, k2, k3⟩ := (HW.out.box.grew g77).two
              obtain ⟨l0, l1, l2, l3⟩ := HB8.out.two
              clear G7 o7 R7 g77
              refine hK _ _ ?_
              clear hK K
              try simp only [Act.put, List.setIfInBounds_toArray, List.set_cons_zero, List.set_cons_succ]
              refine wpAny_ready (rs := [8]) (by kernel_rfl) (by simp) ?_
              refine AllReady.cons (o := ⟨some 24, _, _, _, _, _⟩) rfl (fun K hK => ?stn23_0) AllReady.nil
              case stn23_0 =>
                go_simp
                refine hK _ _ ?_
                clear hK K
                try simp only [Act.put, List.setIfInBounds_toArray, List.set_cons_zero, List.set_cons_succ]
                refine wpAny_ready (rs := [9]) (by kernel_rfl) (by simp) ?_
                refine AllReady.cons (o := ⟨some 25, _, _, _, _, _⟩) rfl (fun K hK => ?stn24_0) AllReady.nil
                case stn24_0 =>
                  refine step_append_row (w := w7.alloc (.cells #[slV g7 16 c7] 22)) (by rfl) (.tmp 17) (.tmp 24) 27 (by rfl) (g3 + 1) info_ints Try.underlying27 (by decide) (by decide) eV_len (.slice av i cv) (slL G C (d.t.take i)) (by rfl) HT8.out.row w7.heap.size 1 (slV g7 16 c7) (by rfl) HN8.out (fun u hu => by rw [List.mem_singleton.1 hu]; rfl) hx6 (by decide) hz8 ?_
                  intro g9 cap9 w9 R9 G9 o9
                  have HR9 := Lib.hid R9
                  have HG9 := Lib.hid G9
                  have Ho9 := Lib.hid o9
                  clear R9 G9 o9
                  obtain ⟨m0, m1, m2, m3⟩ := (HB8.out.keptN HG9.out (fun e => hvb e)).two
                  refine hK _ _ ?_
                  clear hK K
                  try simp only [Act.put, List.setIfInBounds_toArray, List.set_cons_zero, List.set_cons_succ]
                  refine wpAny_take (i := 10) (oi := ⟨some 26, _, _, _, _, _⟩) (v := ?vvn25) rfl (by kernel_rfl) (by kernel_rfl) (by kernel_rfl) (fun _ _ _ h => h) (Or.inl ⟨by rfl, ?yyn25⟩) ?rrn25
                  case yyn25 => (intro w; go_simp; (try with_reducible rfl))
                  try simp only [Act.put, List.setIfInBounds_toArray, List.set_cons_zero, List.set_cons_succ]
                  refine wpAny_ready (rs := [11]) (by kernel_rfl) (by simp) ?_
                  refine AllReady.cons (o := ⟨none, _, _, _, _, _⟩) rfl (fun K hK => ?stn26_0) AllReady.nil
                  case stn26_0 =>
                    go_simp
                    refine hK _ _ ?_
                    clear hK K
                    try simp only [Act.put, List.setIfInBounds_toArray, List.set_cons_zero, List.set_cons_succ]
                    refine wpAny_done (by kernel_rfl) ?_ _
                    (first | go_wp2_with fail | skip)
                    obtain ⟨G2, C2, W2⟩ := cpW_next HW.out HIT.out HR16.out HGA.out HRR.out HR9.out HG9.out Ho9.out
                    go_roundw
                    case rel => exact ⟨i + 1, _, G2, C2, by go_num, by omega, W2⟩
                    case measure => simp [intOf]; omega
          case stn21_1 =>
            refine step_append_src (w := wo.drew) (by rfl) (.const (.slice none 0 0)) (.tmp 22) 22 (by rfl) wo.heap.size info_int Try.underlying22 (by decide) (by decide) enc1_len (fun z => enc1_one) (.slice none 0 0) [] (by rfl) (RowE.nil _ _) ta 16 tc (d.t.getD i []) (by rfl) HR16.out.symm HRL.out hr6 (by decide) (Nat.le_refl _) ?_
            intro v7 w7 R7 G7 o7
            obtain ⟨g7, c7, rfl, hg7, hg7s, R7⟩ := app_row R7 HR16.out
            have g77 : Grew wo w7 := ((Grew.refl wo).drew).trans (below_of_grown G7)
            have HGA := Lib.hid (g77.alloc (.cells #[slV g7 16 c7] 22))
            have HRR := Lib.hid (R7.alloc (.cells #[slV g7 16 c7] 22))
            have HT8 := Lib.hid (HW.out.t.grew HGA.out)
            have HB8 := Lib.hid (HW.out.box.grew HGA.out)
            have HN8 := Lib.hid (Mine.Own.new w7 22 #[slV g7 16 c7])
            have hz8 : g3 + 1 ≤ (w7.alloc (.cells #[slV g7 16 c7] 22)).heap.size := HB8.out.lt
            obtain ⟨k0, k1, k2, k3⟩ := (HW.out.box.grew g77).two
            obtain ⟨l0, l1, l2, l3⟩ := HB8.out.two
            clear G7 o7 R7 g77
            refine hK _ _ ?_
            clear hK K
            try simp only [Act.put, List.setIfInBounds_toArray, List.set_cons_zero, List.set_cons_succ]
            refine wpAny_ready (rs := [1, 8]) (by kernel_rfl) (by simp) ?_
            refine AllReady.cons (o := ⟨some 17, _, _, _, _, _⟩) rfl (fun K hK => ?stn27_0) (AllReady.cons (o := ⟨some 24, _, _, _, _, _⟩) rfl (fun K hK => ?stn27_1) AllReady.nil)
            case stn27_0 =>
              go_simp
              refine hK _ _ ?_
              clear hK K
              try simp only [Act.put, List.setIfInBounds_toArray, List.set_cons_zero, List.set_cons_succ]
              refine wpAny_ready (rs := [8]) (by kernel_rfl) (by simp) ?_
              refine AllReady.cons (o := ⟨some 24, _, _, _, _, _⟩) rfl (fun K hK => ?stn28_0) AllReady.nil
              case stn28_0 =>
                go_simp
                refine hK _ _ ?_
                clear hK K
                try simp only [Act.put, List.setIfInBounds_toArray, List.set_cons_zero, List.set_cons_succ]
                refine wpAny_ready (rs := [9]) (by kernel_rfl) (by simp) ?_
                refine AllReady.cons (o := ⟨some 25, _, _, _, _, _⟩) rfl (fun K hK => ?stn29_0) AllReady.nil
                case stn29_0 =>
                  refine step_append_row (w := w7.alloc (.cells #[slV g7 16 c7] 22)) (by rfl) (.tmp 17) (.tmp 24) 27 (by rfl) (g3 + 1) info_ints Try.underlying27 (by decide) (by decide) eV_len (.slice av i cv) (slL G C (d.t.take i)) (by rfl) HT8.out.row w7.heap.size 1 (slV g7 16 c7) (by rfl) HN8.out (fun u hu => by rw [List.mem_singleton.1 hu]; rfl) hx6 (by decide) hz8 ?_
                  intro g9 cap9 w9 R9 G9 o9
                  have HR9 := Lib.hid R9
                  have HG9 := Lib.hid G9
                  have Ho9 := Lib.hid o9
                  clear R9 G9 o9
                  obtain ⟨m0, m1, m2, m3⟩ := (HB8.out.keptN HG9.out (fun e => hvb e)).two
                  refine hK _ _ ?_
                  clear hK K
                  try simp only [Act.put, List.setIfInBounds_toArray, List.set_cons_zero, List.set_cons_succ]
                  refine wpAny_take (i := 10) (oi := ⟨some 26, _, _, _, _, _⟩) (v := ?vvn30) rfl (by kernel_rfl) (by kernel_rfl) (by kernel_rfl) (fun _ _ _ h => h) (Or.inl ⟨by rfl, ?yyn30⟩) ?rrn30
                  case yyn30 => (intro w; go_simp; (try with_reducible rfl))
                  try simp only [Act.put, List.setIfInBounds_toArray, List.set_cons_zero, List.set_cons_succ]
                  refine wpAny_ready (rs := [11]) (by kernel_rfl) (by simp) ?_
                  refine AllReady.cons (o := ⟨none, _, _, _, _, _⟩) rfl (fun K hK => ?stn31_0) AllReady.nil
                  case stn31_0 =>
                    go_simp
                    refine hK _ _ ?_
                    clear hK K
                    try simp only [Act.put, List.setIfInBounds_toArray, List.set_cons_zero, List.set_cons_succ]
                    refine wpAny_done (by kernel_rfl) ?_ _
                    (first | go_wp2_with fail | skip)
                    obtain ⟨G2, C2, W2⟩ := cpW_next HW.out HIT.out HR16.out HGA.out HRR.out HR9.out HG9.out Ho9.out
                    go_roundw
                    case rel => exact ⟨i + 1, _, G2, C2, by go_num, by omega, W2⟩
                    case measure => simp [intOf]; omega
            case stn27_1 =>
              go_simp
              refine hK _ _ ?_
              clear hK K
              try simp only [Act.put, List.setIfInBounds_toArray, List.set_cons_zero, List.set_cons_succ]
              refine wpAny_ready (rs := [1]) (by kernel_rfl) (by simp) ?_
              refine AllReady.cons (o := ⟨some 17, _, _, _, _, _⟩) rfl (fun K hK => ?stn32_0) AllReady.nil
              case stn32_0 =>
                go_simp
                refine hK _ _ ?_
                clear hK K
                try simp only [Act.put, List.setIfInBounds_toArray, List.set_cons_zero, List.set_cons_succ]
                refine wpAny_ready (rs := [9]) (by kernel_rfl) (by simp) ?_
                refine AllReady.cons (o := ⟨some 25, _, _, _, _, _⟩) rfl (fun K hK => ?stn33_0) AllReady.nil
                case stn33_0 =>
                  refine step_append_row (w := w7.alloc (.cells #[slV g7 16 c7] 22)) (by rfl) (.tmp 17) (.tmp 24) 27 (by rfl) (g3 + 1) info_ints Try.underlying27 (by decide) (by decide) eV_len (.slice av i cv) (slL G C (d.t.take i)) (by rfl) HT8.out.row w7.heap.size 1 (slV g7 16 c7) (by rfl) HN8.out (fun u hu => by rw [List.mem_singleton.1 hu]; rfl) hx6 (by decide) hz8 ?_
                  intro g9 cap9 w9 R9 G9 o9
                  have HR9 := Lib.hid R9
                  have HG9 := Lib.hid G9
                  have Ho9 := Lib.hid o9
                  clear R9 G9 o9
                  obtain ⟨m0, m1, m2, m3⟩ := (HB8.out.keptN HG9.out (fun e => hvb e)).two
                  refine hK _ _ ?_
                  clear hK K
                  try simp only [Act.put, List.setIfInBounds_toArray, List.set_cons_zero, List.set_cons_succ]
                  refine wpAny_take (i := 10) (oi := ⟨some 26, _, _, _, _, _⟩) (v := ?vvn34) rfl (by kernel_rfl) (by kernel_rfl) (by kernel_rfl) (fun _ _ _ h => h) (Or.inl ⟨by rfl, ?yyn34⟩) ?rrn34
                  case yyn34 => (intro w; go_simp; (try with_reducible rfl))
                  try simp only [Act.put, List.setIfInBounds_toArray, List.set_cons_zero, List.set_cons_succ]
                  refine wpAny_ready (rs := [11]) (by kernel_rfl) (by simp) ?_
                  refine AllReady.cons (o := ⟨none, _, _, _, _, _⟩) rfl (fun K hK => ?stn35_0) AllReady.nil
                  case stn35_0 =>
                    go_simp
                    refine hK _ _ ?_
                    clear hK K
                    try simp only [Act.put, List.setIfInBounds_toArray, List.set_cons_zero, List.set_cons_succ]
                    refine wpAny_done (by kernel_rfl) ?_ _
                    (first | go_wp2_with fail | skip)
                    obtain ⟨G2, C2, W2⟩ := cpW_next HW.out HIT.out HR16.out HGA.out HRR.out HR9.out HG9.out Ho9.out
                    go_roundw
                    case rel => exact ⟨i + 1, _, G2, C2, by go_num, by omega, W2⟩
                    case measure => simp [intOf]; omega
    · obtain rfl : i = N := by omega
      obtain ⟨r0, r1, r2, r3⟩ := W.res.two
      obtain ⟨y0, y1, y2, y3⟩ := W.box.two
      have HW := Lib.hid W
      clear W
      go_wp2
      generalize hw : World.setCell (World.setCell _ _ _) _ _ = E
      obtain ⟨b0, b1, -, -⟩ := (HW.out.res.store2D hw).two
      refine bodyPost_ret (v := .agg #[.slice a2 m c2, .slice av i cv]) (by simp [results, Try.results37, go_sem, b0, b1]) rfl ?_
      have W := HW.out
      have T := W.t
      rw [List.take_of_length_le (Nat.le_of_eq HN.out)] at T
      have h3 := W.g3
      refine ⟨_, _, G, C, rfl, ⟨(W.o.past (grown2D hw) (by omega)).wider (by omega), (T.past (grown2D hw) (by omega)).wider (by omega), fun x e e2 => ?_, fun x e k hk e2 => ?_⟩, W.g.far2D hw (by omega)⟩
      · have := W.ob x e; have := T.row.above x e2; omega
      · have := W.ob x e; have := (T.above hk).1; omega
end Go.Proofs.Ytokijggckiidjaa

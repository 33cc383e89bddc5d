/- New, copied of the reference (layer 18). mkds6.py writes this text out of ds6.base. -/
import Derived.Test.YtokijggckiidjaaDs5
import Derived.Test.YtokijggckiidjaaDsP
import Derived.RegionTactic
namespace Go.Mine
open Go Go.RowKit
def nwD (n : Int) : Dd × Int := match inD n 1 8 with | true => (newD n.toNat, 0) | false => (⟨[], []⟩, 2)
theorem nwD_0 {n : Nat} (h1 : 1 ≤ n) (h8 : n ≤ 8) : nwD n = (newD n, 0) := by
  unfold nwD
  have : (1 : Int) ≤ (n : Int) ∧ (n : Int) ≤ 8 := by omega
  rw [inD_iff.2 this, Int.toNat_natCast]
theorem nwD_2 {n : Int} (h : ¬(1 ≤ n ∧ n ≤ 8)) : nwD n = (⟨[], []⟩, 2) := by unfold nwD; rw [inD_no h]
theorem DdR.nil (w : World) (B : Nat) : DdR w B (.slice none 0 0) (.slice none 0 0) ⟨[], []⟩ := ⟨RdS.nil _ _ _ _ (Nat.zero_le _), ⟨[], RdS.nil _ _ _ _ (Nat.zero_le _), rfl, fun k h => absurd h (by simp)⟩⟩
def zT (i : Nat) : List (List Int) := List.replicate i (List.replicate 16 0)
theorem zT_s (i : Nat) : zT (i + 1) = zT i ++ [List.replicate 16 0] := by unfold zT; rw [List.replicate_succ']
theorem zT_len (i : Nat) : (zT i).length = i := List.length_replicate
/-- What New has made of i tables. -/
structure NwW (w : World) (T Ts Ti : TypeId) (i : Nat) (v : Value) (G C : Nat → Nat) (wr : World) : Prop where
  res : Own wr w.heap.size T #[.slice none 0 0, .slice none 0 0]
  box : Own wr (w.heap.size + 1) T #[.slice none 0 0, v]
  t : TbK Ts Ti wr (w.heap.size + 2) v G C (zT i)
  g : Grew w wr
theorem nwW_next {w wo W2 w5 : World} {T Ts Ti : TypeId} {i g c g5 cap5 : Nat} {v : Value} {G C : Nat → Nat} (h : NwW w T Ts Ti i v G C wo) (hr : RowE Ti 1 enc1 W2 (w.heap.size + 2) (slV g 16 c) (List.replicate 16 0)) (ht : TbK Ts Ti W2 (w.heap.size + 2) v G C (zT i)) (hg : Grew w W2)
    (hb : Own W2 (w.heap.size + 1) T #[.slice none 0 0, v]) (ho : Own W2 w.heap.size T #[.slice none 0 0, .slice none 0 0]) {n5 : Nat} (r5 : RowE Ts 1 eV w5 (w.heap.size + 2) (slV g5 n5 cap5) (slL G C (zT i) ++ [slV g 16 c])) (g5' : W2.grownBy w5 v.ownBlock) (o5 : v.ownBlock = some g5 ∨ g5 = W2.heap.size)
    (hvb : v.ownBlock ≠ some (w.heap.size + 1)) (hvo : v.ownBlock ≠ some w.heap.size) (hgw : wo.heap.size ≤ g) : NwW w T Ts Ti (i + 1) (slV g5 n5 cap5) (fun k => if k = i then g else G k) (fun k => if k = i then c else C k) (w5.setCell ⟨w.heap.size + 1, 1, none⟩ (slV g5 n5 cap5)) := by
  have hl := zT_len i
  have t5 := ht.snoc hr rfl (fun e => by have := h.t.row.lt g e; omega) (fun k hk e => by have := (h.t.above hk).2; omega) r5 g5' (fun x e => by
    have e2 : some g5 = some x := e
    injection e2 with e2
    subst e2
    rcases o5 with o5 | o5
    · exact .inl o5
    · exact .inr (by omega))
  rw [hl] at t5
  have hs := hg.size
  have gw5 : Grew w w5 := Grew.keptA (B := w.heap.size + 2) hg g5' (fun x e => ht.row.above x e) (by omega)
  refine ⟨(ho.keptN g5' hvo).far (p := ⟨w.heap.size + 1, 1, none⟩) (by show w.heap.size ≠ w.heap.size + 1; omega) _, ((hb.keptN g5' hvb).set 1 _), ?_, gw5.set (p := ⟨w.heap.size + 1, 1, none⟩) (by show w.heap.size ≤ w.heap.size + 1; omega) _⟩
  rw [zT_s]
  exact t5.past (grown_set (p := ⟨w.heap.size + 1, 1, none⟩) (grown_refl w5 (some (w.heap.size + 1))) (.inl rfl) _) (by omega)
end Go.Mine
namespace Go.Proofs.Ytokijggckiidjaa
open Go.ChangeShapes Go.WideShapes Go.ChangeAt Go.RowKit Go.Mine
theorem info_ints : (Try.prog.info? 22).map (fun i => (i.zero, i.size, i.bytes)) = some (some (.slice none 0 0), 1, 24) := by kernel_rfl
set_option maxHeartbeats 8000000 in
theorem new_q {n : Int} {x : Dd × Int} {w : World} (hx : nwD n = x) : Calls Try.prog 26 #[.int .i64 n] w (RetDE (fun _ => False) x w) := by
  have HX := Lib.hid hx
  have O0 := Mine.Own.new w 29 #[.slice none 0 0, .slice none 0 0]
  have G0 := (Grew.refl w).alloc (.cells #[.slice none 0 0, .slice none 0 0] 29)
  clear hx
  by_cases h1 : n < 1
  · have HE : Hid (x = (⟨[], []⟩, 2)) := Lib.hid (HX.out.symm.trans (nwD_2 (by omega)))
    have HO := Lib.hid O0
    have HG := Lib.hid G0
    clear O0 G0
    go_enter Try.func26, Try.ntmps26
    go_wp2_with fail
    obtain ⟨b0, b1, -, -⟩ := HO.out.two
    refine bodyPost_ret (v := .tuple #[.agg #[.slice none 0 0, .slice none 0 0], .int .i64 2]) (by simp [results, Try.results26, go_sem, b0, b1]) rfl ?_
    exact ⟨_, _, by rw [HE.out], by rw [HE.out]; exact DdR.own (DdR.nil _ _), HG.out⟩
  by_cases h8 : 8 < n
  · have HE : Hid (x = (⟨[], []⟩, 2)) := Lib.hid (HX.out.symm.trans (nwD_2 (by omega)))
    have HO := Lib.hid O0
    have HG := Lib.hid G0
    clear O0 G0
    go_enter Try.func26, Try.ntmps26
    go_wp2_with fail
    obtain ⟨b0, b1, -, -⟩ := HO.out.two
    refine bodyPost_ret (v := .tuple #[.agg #[.slice none 0 0, .slice none 0 0], .int .i64 2]) (by simp [results, Try.results26, go_sem, b0, b1]) rfl ?_
    exact ⟨_, _, by rw [HE.out], by rw [HE.out]; exact DdR.own (DdR.nil _ _), HG.out⟩
  obtain ⟨n, rfl⟩ : ∃ k : Nat, n = k := ⟨n.toNat, by omega⟩
  have HE : Hid (x = (newD n, 0)) := Lib.hid (HX.out.symm.trans (nwD_0 (by omega) (by omega)))
  have O1 := O0.alloc (.cells #[.slice none 0 0, .slice none 0 0] 29)
  have B1 := Mine.Own.new2 w (.cells #[.slice none 0 0, .slice none 0 0] 29) 29 #[.slice none 0 0, .slice none 0 0]
  have G1 := G0.alloc (.cells #[.slice none 0 0, .slice none 0 0] 29)
  have HW : Hid (NwW w 29 22 3 0 (.slice none 0 0) (fun _ => 0) (fun _ => 0) _) := Lib.hid ⟨O1, B1, TbK.nil _ _, G1⟩
  clear O0 G0 O1 B1 G1 HX
  go_enter Try.func26, Try.ntmps26
  go_wp2_with fail
  go_loopw [5] (fun iv wr => ∃ (i : Nat) (v : Value) (G C : Nat → Nat), iv = .int .i64 i ∧ i ≤ n ∧ NwW w 29 22 3 i v G C wr) (fun iv _ => n - (intOf iv).toNat)
  case atStart => exact ⟨0, _, _, _, rfl, Nat.zero_le _, HW.out⟩
  case round =>
    clear HW
    obtain ⟨i, v, G, C, rfl, hi, W⟩ := hrel
    obtain ⟨wo, rfl⟩ : ∃ wo : World, wo = wr := ⟨_, rfl⟩
    obtain ⟨av, cv, hv⟩ := W.t.slice
    rw [zT_len] at hv
    subst hv
    by_cases hlt : i < n
    · have hi0 : (0 : Int) ≤ (i : Int) := by omega
      have hi1 : (i : Int) < (n : Int) := by omega
      go_upto_region 7 with fail
      have hmk : (Instr.makeSlice 22 (.int .i64 16) (.int .i64 16)).run Try.prog wo.drew = .ok (slV wo.heap.size 16 16) (wo.drew.alloc (.cells (madeCells #[.int .i64 0] 16) 3)) := run_make_row' (P := Try.prog) 22 3 (.int .i64 0) 8 Try.underlying22 info_int rfl .i64 .i64 16 (by omega) (by omega) wo.drew
      obtain ⟨x0, x1, x2, x3⟩ := W.box.two
      have gd := (Grew.refl wo).drew.alloc (.cells (madeCells #[.int .i64 0] 16) 3)
      have hR1 := RowE.lit (T := 3) (sz := 1) (enc := enc1) (L := List.replicate 16 (0 : Int)) (B := w.heap.size + 2) wo.drew (madeCells #[Value.int .i64 0] 16) (madeZ 16) (by simp [madeCells]) (by decide) (by have := W.box.lt; have := W.g.size; show w.heap.size + 2 ≤ wo.heap.size; omega)
      have HRW := Lib.hid (show RowE 3 1 enc1 (wo.drew.alloc (.cells (madeCells #[.int .i64 0] 16) 3)) (w.heap.size + 2) (slV wo.heap.size 16 16) (List.replicate 16 0) from hR1)
      have hsz : wo.heap.size < (wo.drew.alloc (.cells (madeCells #[.int .i64 0] 16) 3)).heap.size := by simp
      generalize wo.drew.alloc (.cells (madeCells #[.int .i64 0] 16) 3) = W1 at hmk gd HRW hsz
      have g2 := gd.alloc (.cells #[slV wo.heap.size 16 16] 22)
      obtain ⟨z0, z1, z2, z3⟩ := (W.box.grew gd).two
      obtain ⟨y0, y1, y2, y3⟩ := (W.box.grew g2).two
      have HW := Lib.hid W
      have HR2 := Lib.hid (HRW.out.alloc (.cells #[slV wo.heap.size 16 16] 22))
      have HT2 := Lib.hid (W.t.grew g2)
      have HG2 := Lib.hid (W.g.trans g2)
      have HB2 := Lib.hid (W.box.grew g2)
      have HO2 := Lib.hid (W.res.grew g2)
      have HN2 := Lib.hid (Mine.Own.new W1 22 #[slV wo.heap.size 16 16])
      have hv1 : (Value.slice av i cv).ownBlock ≠ some (w.heap.size + 1) := fun e => by have := W.t.row.above _ e; omega
      have hv2 : (Value.slice av i cv).ownBlock ≠ some w.heap.size := fun e => by have := W.t.row.above _ e; omega
      have hv3 : wo.heap.size ≤ wo.heap.size := Nat.le_refl _
      have hvb : ¬(Value.slice av i cv).ownBlock = some (w.heap.size + 1) := hv1
      have hx6 : (slL G C (zT i)).length < 1000000 := by rw [slL_len, zT_len]; omega
      have hz2 : w.heap.size + 2 ≤ (W1.alloc (.cells #[slV wo.heap.size 16 16] 22)).heap.size := by have := W.box.lt; have := W.g.size; simp; omega
      clear W gd g2 hR1 HRW
      refine wp_region_any (by kernel_rfl) ?_
      refine wpAny_take (i := 0) (oi := ⟨some 18, _, _, _, _, _⟩) (v := ?vvn1) rfl (by kernel_rfl) (by kernel_rfl) (by kernel_rfl) (fun _ _ _ h => h) (Or.inl ⟨by rfl, ?yyn1⟩) ?rrn1
      case yyn1 => (intro w; go_simp; (try with_reducible rfl))
      try simp only [Act.put, List.setIfInBounds_toArray, List.set_cons_zero, List.set_cons_succ]
      refine wpAny_ready (rs := [1, 2]) (by kernel_rfl) (by simp) ?_
      refine AllReady.cons (o := ⟨some 19, _, _, _, _, _⟩) rfl (fun K hK => ?stn2_0) (AllReady.cons (o := ⟨some 20, _, _, _, _, _⟩) rfl (fun K hK => ?stn2_1) AllReady.nil)
      case stn2_0 =>
        go_simp
        refine hK _ _ ?_
        clear hK K
        try simp only [Act.put, List.setIfInBounds_toArray, List.set_cons_zero, List.set_cons_succ]
        refine wpAny_ready (rs := [2]) (by kernel_rfl) (by simp) ?_
        refine AllReady.cons (o := ⟨some 20, _, _, _, _, _⟩) rfl (fun K hK => ?stn3_0) AllReady.nil
        case stn3_0 =>
          go_simp
          refine hK _ _ ?_
          clear hK K
          try simp only [Act.put, List.setIfInBounds_toArray, List.set_cons_zero, List.set_cons_succ]
          refine wpAny_ready (rs := [3]) (by kernel_rfl) (by simp) ?_
          refine AllReady.cons (o := ⟨some 21, _, _, _, _, _⟩) rfl (fun K hK => ?stn4_0) AllReady.nil
          case stn4_0 =>
            go_simp
            refine hK _ _ ?_
            clear hK K
            try simp only [Act.put, List.setIfInBounds_toArray, List.set_cons_zero, List.set_cons_succ]
            refine wpAny_ready (rs := [4]) (by kernel_rfl) (by simp) ?_
            refine AllReady.cons (o := ⟨some 22, _, _, _, _, _⟩) rfl (fun K hK => ?stn5_0) AllReady.nil
            case stn5_0 =>
              refine step_append_row (w := W1.alloc (.cells #[slV wo.heap.size 16 16] 22)) (by rfl) (.tmp 19) (.tmp 21) 27 (by rfl) (w.heap.size + 2) info_ints Try.underlying27 (by decide) (by decide) eV_len (.slice av i cv) (slL G C (zT i)) (by rfl) HT2.out.row W1.heap.size 1 (slV wo.heap.size 16 16) (by rfl) HN2.out (fun u hu => by rw [List.mem_singleton.1 hu]; rfl) hx6 (by decide) hz2 ?_
              intro g5 cap5 w5 R5 G5 o5
              have HR5 := Lib.hid R5
              have HG5 := Lib.hid G5
              have Ho5 := Lib.hid o5
              clear R5 G5 o5
              obtain ⟨k0, k1, k2, k3⟩ := (HB2.out.keptN HG5.out (fun e => hvb e)).two
              refine hK _ _ ?_
              clear hK K
              try simp only [Act.put, List.setIfInBounds_toArray, List.set_cons_zero, List.set_cons_succ]
              refine wpAny_take (i := 5) (oi := ⟨some 23, _, _, _, _, _⟩) (v := ?vvn6) rfl (by kernel_rfl) (by kernel_rfl) (by kernel_rfl) (fun _ _ _ h => h) (Or.inl ⟨by rfl, ?yyn6⟩) ?rrn6
              case yyn6 => (intro w; go_simp; (try with_reducible rfl))
              try simp only [Act.put, List.setIfInBounds_toArray, List.set_cons_zero, List.set_cons_succ]
              refine wpAny_ready (rs := [6]) (by kernel_rfl) (by simp) ?_
              refine AllReady.cons (o := ⟨none, _, _, _, _, _⟩) rfl (fun K hK => ?stn7_0) AllReady.nil
              case stn7_0 =>
                go_simp
                refine hK _ _ ?_
                clear hK K
                try simp only [Act.put, List.setIfInBounds_toArray, List.set_cons_zero, List.set_cons_succ]
                refine wpAny_done (by kernel_rfl) ?_ _
                (first | go_wp2_with fail | skip)
                go_roundw
                case rel => exact ⟨i + 1, slV g5 _ cap5, _, _, by go_num, by omega, nwW_next HW.out HR2.out HT2.out HG2.out HB2.out HO2.out HR5.out HG5.out Ho5.out hv1 hv2 hv3⟩
                case measure => simp [intOf]; omega
      case stn2_1 =>
        go_simp
        refine hK _ _ ?_
        clear hK K
        try simp only [Act.put, List.setIfInBounds_toArray, List.set_cons_zero, List.set_cons_succ]
        refine wpAny_ready (rs := [1, 3]) (by kernel_rfl) (by simp) ?_
        refine AllReady.cons (o := ⟨some 19, _, _, _, _, _⟩) rfl (fun K hK => ?stn8_0) (AllReady.cons (o := ⟨some 21, _, _, _, _, _⟩) rfl (fun K hK => ?stn8_1) AllReady.nil)
        case stn8_0 =>
          go_simp
          refine hK _ _ ?_
          clear hK K
          try simp only [Act.put, List.setIfInBounds_toArray, List.set_cons_zero, List.set_cons_succ]
          refine wpAny_ready (rs := [3]) (by kernel_rfl) (by simp) ?_
          refine AllReady.cons (o := ⟨some 21, _, _, _, _, _⟩) rfl (fun K hK => ?stn9_0) AllReady.nil
          case stn9_0 =>
            go_simp
            refine hK _ _ ?_
            clear hK K
            try simp only [Act.put, List.setIfInBounds_toArray, List.set_cons_zero, List.set_cons_succ]
            refine wpAny_ready (rs := [4]) (by kernel_rfl) (by simp) ?_
            refine AllReady.cons (o := ⟨some 22, _, _, _, _, _⟩) rfl (fun K hK => ?stn10_0) AllReady.nil
            case stn10_0 =>
              refine step_append_row (w := W1.alloc (.cells #[slV wo.heap.size 16 16] 22)) (by rfl) (.tmp 19) (.tmp 21) 27 (by rfl) (w.heap.size + 2) info_ints Try.underlying27 (by decide) (by decide) eV_len (.slice av i cv) (slL G C (zT i)) (by rfl) HT2.out.row W1.heap.size 1 (slV wo.heap.size 16 16) (by rfl) HN2.out (fun u hu => by rw [List.mem_singleton.1 hu]; rfl) hx6 (by decide) hz2 ?_
              intro g5 cap5 w5 R5 G5 o5
              have HR5 := Lib.hid R5
              have HG5 := Lib.hid G5
              have Ho5 := Lib.hid o5
              clear R5 G5 o5
              obtain ⟨k0, k1, k2, k3⟩ := (HB2.out.keptN HG5.out (fun e => hvb e)).two
              refine hK _ _ ?_
              clear hK K
              try simp only [Act.put, List.setIfInBounds_toArray, List.set_cons_zero, List.set_cons_succ]
              refine wpAny_take (i := 5) (oi := ⟨some 23, _, _, _, _, _⟩) (v := ?vvn11) rfl (by kernel_rfl) (by kernel_rfl) (by kernel_rfl) (fun _ _ _ h => h) (Or.inl ⟨by rfl, ?yyn11⟩) ?rrn11
              case yyn11 => (intro w; go_simp; (try with_reducible rfl))
              try simp only [Act.put, List.setIfInBounds_toArray, List.set_cons_zero, List.set_cons_succ]
              refine wpAny_ready (rs := [6]) (by kernel_rfl) (by simp) ?_
              refine AllReady.cons (o := ⟨none, _, _, _, _, _⟩) rfl (fun K hK => ?stn12_0) AllReady.nil
              case stn12_0 =>
                go_simp
                refine hK _ _ ?_
                clear hK K
                try simp only [Act.put, List.setIfInBounds_toArray, List.set_cons_zero, List.set_cons_succ]
                refine wpAny_done (by kernel_rfl) ?_ _
                (first | go_wp2_with fail | skip)
                go_roundw
                case rel => exact ⟨i + 1, slV g5 _ cap5, _, _, by go_num, by omega, nwW_next HW.out HR2.out HT2.out HG2.out HB2.out HO2.out HR5.out HG5.out Ho5.out hv1 hv2 hv3⟩
                case measure => simp [intOf]; omega
        case stn8_1 =>
          go_simp
          refine hK _ _ ?_
          clear hK K
          try simp only [Act.put, List.setIfInBounds_toArray, List.set_cons_zero, List.set_cons_succ]
          refine wpAny_ready (rs := [1]) (by kernel_rfl) (by simp) ?_
          refine AllReady.cons (o := ⟨some 19, _, _, _, _, _⟩) rfl (fun K hK => ?stn13_0) AllReady.nil
          case stn13_0 =>
            go_simp
            refine hK _ _ ?_
            clear hK K
            try simp only [Act.put, List.setIfInBounds_toArray, List.set_cons_zero, List.set_cons_succ]
            refine wpAny_ready (rs := [4]) (by kernel_rfl) (by simp) ?_
            refine AllReady.cons (o := ⟨some 22, _, _, _, _, _⟩) rfl (fun K hK => ?stn14_0) AllReady.nil
            case stn14_0 =>
              refine step_append_row (w := W1.alloc (.cells #[slV wo.heap.size 16 16] 22)) (by rfl) (.tmp 19) (.tmp 21) 27 (by rfl) (w.heap.size + 2) info_ints Try.underlying27 (by decide) (by decide) eV_len (.slice av i cv) (slL G C (zT i)) (by rfl) HT2.out.row W1.heap.size 1 (slV wo.heap.size 16 16) (by rfl) HN2.out (fun u hu => by rw [List.mem_singleton.1 hu]; rfl) hx6 (by decide) hz2 ?_
              intro g5 cap5 w5 R5 G5 o5
              have HR5 := Lib.hid R5
              have HG5 := Lib.hid G5
              have Ho5 := Lib.hid o5
              clear R5 G5 o5
              obtain ⟨k0, k1, k2, k3⟩ := (HB2.out.keptN HG5.out (fun e => hvb e)).two
              refine hK _ _ ?_
              clear hK K
              try simp only [Act.put, List.setIfInBounds_toArray, List.set_cons_zero, List.set_cons_succ]
              refine wpAny_take (i := 5) (oi := ⟨some 23, _, _, _, _, _⟩) (v := ?vvn15) rfl (by kernel_rfl) (by kernel_rfl) (by kernel_rfl) (fun _ _ _ h => h) (Or.inl ⟨by rfl, ?yyn15⟩) ?rrn15
              case yyn15 => (intro w; go_simp; (try with_reducible rfl))
              try simp only [Act.put, List.setIfInBounds_toArray, List.set_cons_zero, List.set_cons_succ]
              refine wpAny_ready (rs := [6]) (by kernel_rfl) (by simp) ?_
              refine AllReady.cons (o := ⟨none, _, _, _, _, _⟩) rfl (fun K hK => ?stn16_0) AllReady.nil
              case stn16_0 =>
                go_simp
                refine hK _ _ ?_
                clear hK K
                try simp only [Act.put, List.setIfInBounds_toArray, List.set_cons_zero, List.set_cons_succ]
                refine wpAny_done (by kernel_rfl) ?_ _
                (first | go_wp2_with fail | skip)
                go_roundw
                case rel => exact ⟨i + 1, slV g5 _ cap5, _, _, by go_num, by omega, nwW_next HW.out HR2.out HT2.out HG2.out HB2.out HO2.out HR5.out HG5.out Ho5.out hv1 hv2 hv3⟩
                case measure => simp [intOf]; omega
    · obtain rfl : i = n := by omega
      obtain ⟨r0, r1, r2, r3⟩ := W.res.two
      obtain ⟨x0, x1, x2, x3⟩ := W.box.two
      have HW := Lib.hid W
      clear W
      go_wp2
      generalize hw : World.setCell (World.setCell _ _ _) _ _ = E
      obtain ⟨b0, b1, -, -⟩ := (HW.out.res.store2D hw).two
      refine bodyPost_ret (v := .tuple #[.agg #[.slice none 0 0, .slice av i cv], .int .i64 0]) (by simp [results, Try.results26, go_sem, b0, b1]) rfl ?_
      exact ⟨_, _, by rw [HE.out], by rw [HE.out]; exact DdR.own ⟨RdS.nil _ _ _ _ (Nat.zero_le _), ((HW.out.t.past (grown2D hw) (by omega)).wider (by omega)).tbR⟩, HW.out.g.far2D hw (Nat.le_refl _)⟩
end Go.Proofs.Ytokijggckiidjaa

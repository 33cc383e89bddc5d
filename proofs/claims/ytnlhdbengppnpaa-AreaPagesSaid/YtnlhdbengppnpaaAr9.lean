/- Areas (layer 16): without, Unmap of the program. -/
import Derived.Test.YtnlhdbengppnpaaAr8
namespace Go.Mine
open Go Go.RowKit
/-- A part, if it is there. -/
def prt (y : Ar) : List Ar := if y = zR then [] else [y]
theorem prt_0 {y : Ar} (h : decide (y = zR) = true) : prt y = [] := if_pos (of_decide_eq_true h)
theorem prt_1 {y : Ar} (h : decide (y = zR) = false) : prt y = [y] := if_neg (of_decide_eq_false h)
theorem cut_prt {d : Ar} (h : rtA d = true) {s e : Int} (hse : s < e) : cutR d s e = prt (befR d s) ++ prt (frmR d e) := by
  have r := rtA_iff.1 h
  unfold cutR
  congr 1
  · by_cases t : d.s < s
    · rw [if_pos t, befR_1 t]
      refine (if_neg fun q => ?_).symm
      have := congrArg Ar.n q
      simp only [Int.min_def] at this
      split at this <;> omega
    · rw [if_neg t, befR_0 (by omega)]; rfl
  · by_cases t : e < endA d
    · rw [if_pos t, frmR_1 t]
      refine (if_neg fun q => ?_).symm
      have := congrArg Ar.n q
      simp only [Int.max_def] at this
      unfold endA at t
      split at this <;> omega
    · rw [if_neg t, frmR_0 (by omega)]; rfl
/-- What has come in of two parts. -/
def prK (y z : Ar) : Nat → List Ar
  | 0 => []
  | 1 => prt y
  | _ => prt y ++ prt z
theorem prt_len (y : Ar) : (prt y).length ≤ 1 := by unfold prt; split <;> simp
end Go.Mine
namespace Go.Proofs.Ytnlhdbengppnpaa
open Go.RowKit Go.Mine

theorem run_ix0 (w : World) (y z : Ar) : (Instr.index 64 (.agg #[.int .i64 y.s, .int .i64 y.n, .int .i64 y.f, .int .i64 y.p, .bool y.w, .int .i64 z.s, .int .i64 z.n, .int .i64 z.f, .int .i64 z.p, .bool z.w]) (.int .i64 0)).run Try.prog w = .ok (arV y) w := by kernel_rfl
theorem run_ix1 (w : World) (y z : Ar) : (Instr.index 64 (.agg #[.int .i64 y.s, .int .i64 y.n, .int .i64 y.f, .int .i64 y.p, .bool y.w, .int .i64 z.s, .int .i64 z.n, .int .i64 z.f, .int .i64 z.p, .bool z.w]) (.int .i64 1)).run Try.prog w = .ok (arV z) w := by kernel_rfl
set_option maxRecDepth 100000 in
set_option maxHeartbeats 8000000 in
theorem without_p {B : Nat} {v : Value} {L : List Ar} {s e : Int} {w : World} (h : RdS 5 enc5 w B v L) (hk : okR L = true) (hs0 : 0 ≤ s) (hs1 : s ≤ 64) (he0 : 0 ≤ e) (he1 : e ≤ 64) (hse : s < e) : Calls Try.prog 33 #[v, .int .i64 s, .int .i64 e] w (fun en w' => ∃ u, en = .returned u ∧ RowE 30 5 enc5 w' w.heap.size u (woR L s e) ∧ Grew w w') := by
  obtain ⟨a0, c, rfl, -, -⟩ := h.slice
  have hs := (okR_iff.1 hk).1
  have HK0 := Lib.hid hk
  have HSE := Lib.hid hse
  obtain ⟨n, hn⟩ : ∃ n, L.length = n := ⟨_, rfl⟩
  have HN := Lib.hid hn
  rw [hn] at h hs ⊢
  have HZ := Lib.hid h
  have hzn : ∀ (w : World) (y : Ar), (binOp .neq 30 (arV y) (.agg #[.int .i64 0, .int .i64 0, .int .i64 0, .int .i64 0, .bool false])).run Try.prog w = .ok (.bool (!decide (y = zR))) w := fun w y => run_neq5 w y zR
  have hix0 := run_ix0
  have hix1 := run_ix1
  clear h hn hk hse
  go_enter Try.func33, Try.ntmps33
  go_wp2_with fail
  go_loopw [7, 14] (fun fv iv wr => ∃ (i : Nat) (r : Value) (M : List Ar), r = fv ∧ iv = .int .i64 i ∧ i ≤ n ∧ M.length ≤ 2 * i ∧ Hid (M = woR (L.take i) s e) ∧ RowE 30 5 enc5 wr w.heap.size r M ∧ Grew w wr) (fun _ iv _ => n - (intOf iv).toNat)
  case atStart => exact ⟨0, _, [], rfl, rfl, by omega, by simp, Lib.hid rfl, RowE.nil _ _, Grew.refl _⟩
  case round =>
    obtain ⟨i, fv, M, rfl, rfl, hi, hml, HM, R, G⟩ := hrel
    obtain ⟨wo, rfl⟩ : ∃ wo : World, wo = wr := ⟨_, rfl⟩
    have HR := Lib.hid R
    have HG := Lib.hid G
    by_cases hlt : i < n
    · have hiL : i < L.length := by rw [HN.out]; exact hlt
      obtain ⟨g, o, rfl, hBg, hg, c0, c1, c2, c3, c4⟩ := (HZ.out.grew G).at5 hiL
      have hrd := rtD HK0.out hiL
      have HT := Lib.hid (woR_snoc L hiL s e)
      generalize L.getD i zR = d at *
      have HRD := Lib.hid hrd
      have hi0 : (0 : Int) ≤ (i : Int) := by omega
      have hi1 : (i : Int) < (n : Int) := by omega
      rw [cut_prt hrd HSE.out] at HT
      have HGA := Lib.hid (G.alloc (.cells #[.int .i64 d.s, .int .i64 d.n, .int .i64 d.f, .int .i64 d.p, .bool d.w] 30))
      have HRA := Lib.hid (R.alloc (.cells #[.int .i64 d.s, .int .i64 d.n, .int .i64 d.f, .int .i64 d.p, .bool d.w] 30))
      have HD := Own.new wo 30 #[.int .i64 d.s, .int .i64 d.n, .int .i64 d.f, .int .i64 d.p, .bool d.w]
      obtain ⟨x0, x1, x2, x3, x4⟩ := HD.five
      have hlD := HD.lt
      obtain ⟨y, hy⟩ : ∃ y, befR d s = y := ⟨_, rfl⟩
      obtain ⟨z, hz⟩ : ∃ z, frmR d e = z := ⟨_, rfl⟩
      rw [hy, hz] at HT
      have HY := Lib.hid hy
      have HZ2 := Lib.hid hz
      clear hy hz hrd G R HD
      go_upto_region 5 with fail
      generalize wo.alloc (.cells #[.int .i64 d.s, .int .i64 d.n, .int .i64 d.f, .int .i64 d.p, .bool d.w] 30) = wq at *
      refine wp_region_held_drew (S := fun w' => w'.cell? ⟨wo.heap.size, 0, none⟩ = some (.int .i64 d.s) ∧ w'.cell? ⟨wo.heap.size, 1, none⟩ = some (.int .i64 d.n) ∧ w'.cell? ⟨wo.heap.size, 2, none⟩ = some (.int .i64 d.f) ∧ w'.cell? ⟨wo.heap.size, 3, none⟩ = some (.int .i64 d.p) ∧ w'.cell? ⟨wo.heap.size, 4, none⟩ = some (.bool d.w)) (by kernel_rfl) ?_ (fun hHeld => ?_)
      · (try dsimp only); (refine ⟨?_, ?_, ?_, ?_, ?_⟩ <;> (repeat (first | (with_reducible assumption) | (with_reducible refine far_drew ?_))))
      first | refine wpAnyH_take (i := 0) (v := undef) rfl (by kernel_rfl) (by kernel_rfl) (by kernel_rfl) (fun _ _ _ h => h) (Or.inr ⟨by rfl, rfl⟩) (by assumption) ?_ | (refine' wpAnyH_take (i := 0) (v := _) rfl (by kernel_rfl) (by kernel_rfl) (by kernel_rfl) (fun _ _ _ h => h) (Or.inl ⟨by rfl, ?hy0a⟩) (by assumption) ?rest0a; case hy0a => (intro w hSw; (try dsimp only at hSw); (first | (go_simp; done) | (go_simp; with_reducible rfl))))
      try simp only [Act.put, List.setIfInBounds_toArray, List.set_cons_zero, List.set_cons_succ, List.getElem_toArray, List.getElem_cons_zero, List.getElem_cons_succ]
      first | refine wpAnyH_take (i := 1) (v := undef) rfl (by kernel_rfl) (by kernel_rfl) (by kernel_rfl) (fun _ _ _ h => h) (Or.inr ⟨by rfl, rfl⟩) (by assumption) ?_ | (refine' wpAnyH_take (i := 1) (v := _) rfl (by kernel_rfl) (by kernel_rfl) (by kernel_rfl) (fun _ _ _ h => h) (Or.inl ⟨by rfl, ?hy1a⟩) (by assumption) ?rest1a; case hy1a => (intro w hSw; (try dsimp only at hSw); (first | (go_simp; done) | (go_simp; with_reducible rfl))))
      try simp only [Act.put, List.setIfInBounds_toArray, List.set_cons_zero, List.set_cons_succ, List.getElem_toArray, List.getElem_cons_zero, List.getElem_cons_succ]
      first | refine wpAnyH_take (i := 3) (v := undef) rfl (by kernel_rfl) (by kernel_rfl) (by kernel_rfl) (fun _ _ _ h => h) (Or.inr ⟨by rfl, rfl⟩) (by assumption) ?_ | (refine' wpAnyH_take (i := 3) (v := _) rfl (by kernel_rfl) (by kernel_rfl) (by kernel_rfl) (fun _ _ _ h => h) (Or.inl ⟨by rfl, ?hy3a⟩) (by assumption) ?rest3a; case hy3a => (intro w hSw; (try dsimp only at hSw); (first | (go_simp; done) | (go_simp; with_reducible rfl))))
      try simp only [Act.put, List.setIfInBounds_toArray, List.set_cons_zero, List.set_cons_succ, List.getElem_toArray, List.getElem_cons_zero, List.getElem_cons_succ]
      first | refine wpAnyH_take (i := 4) (v := undef) rfl (by kernel_rfl) (by kernel_rfl) (by kernel_rfl) (fun _ _ _ h => h) (Or.inr ⟨by rfl, rfl⟩) (by assumption) ?_ | (refine' wpAnyH_take (i := 4) (v := _) rfl (by kernel_rfl) (by kernel_rfl) (by kernel_rfl) (fun _ _ _ h => h) (Or.inl ⟨by rfl, ?hy4a⟩) (by assumption) ?rest4a; case hy4a => (intro w hSw; (try dsimp only at hSw); (first | (go_simp; done) | (go_simp; with_reducible rfl))))
      try simp only [Act.put, List.setIfInBounds_toArray, List.set_cons_zero, List.set_cons_succ, List.getElem_toArray, List.getElem_cons_zero, List.getElem_cons_succ]
      first | refine wpAnyH_take (i := 7) (v := undef) rfl (by kernel_rfl) (by kernel_rfl) (by kernel_rfl) (fun _ _ _ h => h) (Or.inr ⟨by rfl, rfl⟩) (by assumption) ?_ | (refine' wpAnyH_take (i := 7) (v := _) rfl (by kernel_rfl) (by kernel_rfl) (by kernel_rfl) (fun _ _ _ h => h) (Or.inl ⟨by rfl, ?hy7a⟩) (by assumption) ?rest7a; case hy7a => (intro w hSw; (try dsimp only at hSw); (first | (go_simp; done) | (go_simp; with_reducible rfl))))
      try simp only [Act.put, List.setIfInBounds_toArray, List.set_cons_zero, List.set_cons_succ, List.getElem_toArray, List.getElem_cons_zero, List.getElem_cons_succ]
      refine wpAnyH_ready (rs := [2]) (by kernel_rfl) (by simp) ?_
      refine AllReadyH.cons rfl (fun K hK => ?_) AllReadyH.nil
      try simp only [Act.put, List.setIfInBounds_toArray, List.set_cons_zero, List.set_cons_succ, List.getElem_toArray, List.getElem_cons_zero, List.getElem_cons_succ]
      go_simp; go_at_call 41; (with_reducible refine (before_p HRD.out hs0 hs1).mono ?_); rintro e9 w2 ⟨rfl, g2⟩; have y0 := (g2.cells.1 _ _ hlD).trans (far_drew x0); have y1 := (g2.cells.1 _ _ hlD).trans (far_drew x1); have y2 := (g2.cells.1 _ _ hlD).trans (far_drew x2); have y3 := (g2.cells.1 _ _ hlD).trans (far_drew x3); have y4 := (g2.cells.1 _ _ hlD).trans (far_drew x4); have hlD2 := Nat.lt_of_lt_of_le hlD g2.size; rw [HY.out]
      refine hK.out _ _ ?_ (fun hHeld => ?_)
      · (try dsimp only); (refine ⟨?_, ?_, ?_, ?_, ?_⟩ <;> (repeat (first | (with_reducible assumption) | (with_reducible refine far_drew ?_))))
      clear hK K
      try simp only [Act.put, List.setIfInBounds_toArray, List.set_cons_zero, List.set_cons_succ, List.getElem_toArray, List.getElem_cons_zero, List.getElem_cons_succ]
      refine wpAnyH_ready (rs := [5]) (by kernel_rfl) (by simp) ?_
      refine AllReadyH.cons rfl (fun K hK => ?_) AllReadyH.nil
      try simp only [Act.put, List.setIfInBounds_toArray, List.set_cons_zero, List.set_cons_succ, List.getElem_toArray, List.getElem_cons_zero, List.getElem_cons_succ]
      go_simp; go_at_call 42; (with_reducible refine (from_p HRD.out he0 he1).mono ?_); rintro e9 w3 ⟨rfl, g3⟩; have z0 := (g3.cells.1 _ _ hlD2).trans y0; have z1 := (g3.cells.1 _ _ hlD2).trans y1; have z2 := (g3.cells.1 _ _ hlD2).trans y2; have z3 := (g3.cells.1 _ _ hlD2).trans y3; have z4 := (g3.cells.1 _ _ hlD2).trans y4; rw [HZ2.out]
      refine hK.out _ _ ?_ (fun hHeld => ?_)
      · (try dsimp only); (refine ⟨?_, ?_, ?_, ?_, ?_⟩ <;> (repeat (first | (with_reducible assumption) | (with_reducible refine far_drew ?_))))
      clear hK K
      try simp only [Act.put, List.setIfInBounds_toArray, List.set_cons_zero, List.set_cons_succ, List.getElem_toArray, List.getElem_cons_zero, List.getElem_cons_succ]
      first | refine wpAnyH_take (i := 6) (v := undef) rfl (by kernel_rfl) (by kernel_rfl) (by kernel_rfl) (fun _ _ _ h => h) (Or.inr ⟨by rfl, rfl⟩) (by assumption) ?_ | (refine' wpAnyH_take (i := 6) (v := _) rfl (by kernel_rfl) (by kernel_rfl) (by kernel_rfl) (fun _ _ _ h => h) (Or.inl ⟨by rfl, ?hy6a⟩) (by assumption) ?rest6a; case hy6a => (intro w hSw; (try dsimp only at hSw); (first | (go_simp; done) | (go_simp; with_reducible rfl))))
      try simp only [Act.put, List.setIfInBounds_toArray, List.set_cons_zero, List.set_cons_succ, List.getElem_toArray, List.getElem_cons_zero, List.getElem_cons_succ]
      refine wpAnyH_done (by kernel_rfl) ?_ _
      have HG3 := Lib.hid (HGA.out.drew.trans (g2.trans g3))
      have HR3 := Lib.hid (HRA.out.drew.grew (g2.trans g3))
      clear g2 g3 x0 x1 x2 x3 x4 y0 y1 y2 y3 y4 z0 z1 z2 z3 z4 c0 c1 c2 c3 c4 hlD hlD2 HR HG HGA HRA hHeld
      go_wp2_with fail
      go_loopw [7, 25] (fun fv kv wr => ∃ (k : Nat) (r : Value) (M2 : List Ar), r = fv ∧ kv = .int .i64 k ∧ k ≤ 2 ∧ M2.length ≤ 2 * i + k ∧ Hid (M2 = M ++ prK y z k) ∧ RowE 30 5 enc5 wr w.heap.size r M2 ∧ Grew w wr) (fun _ kv _ => 2 - (intOf kv).toNat)
      case atStart => exact ⟨0, _, M, rfl, rfl, by omega, by omega, Lib.hid (List.append_nil _).symm, HR3.out, HG3.out⟩
      case round =>
        obtain ⟨k, fv2, M2, rfl, rfl, hk2, hml2, HM2, R, G⟩ := hrel
        obtain ⟨wi, rfl⟩ : ∃ wi : World, wi = wr := ⟨_, rfl⟩
        have hx6 : M2.length < 1000000 := by omega
        have HR2 := Lib.hid R
        have HG2 := Lib.hid G
        have HRA2 : Hid (∀ o, RowE 30 5 enc5 (wi.alloc o) w.heap.size fv2 M2) := Lib.hid (fun o => R.alloc o)
        have HGA2 : Hid (∀ o, Grew w (wi.alloc o)) := Lib.hid (fun o => G.alloc o)
        have hz2 : ∀ o ob, w.heap.size ≤ ((wi.alloc o).alloc ob).heap.size := fun o ob => Nat.le_trans (HGA2.out o).size (by simp)
        clear R G
        rcases (show k = 0 ∨ k = 1 ∨ k = 2 by omega) with rfl | rfl | rfl
        · rw [show ((0 : Nat) : Int) = 0 from rfl]
          have hp := prt_len y
          cases hq : decide (y = zR)
          · have HP := Lib.hid (prt_1 hq)
            have e1 : (!decide (y = zR)) = true := by rw [hq]; rfl
            go_wp2_with (at_builtin; go_loud (refine wpList_append_row _ rfl _ _ 26 rfl w.heap.size info_ar Try.underlying26 (by decide) (by decide) enc5_len fv2 M2 rfl ((HRA2.out _).alloc _) _ _ y rfl (Own.new2 _ _ _ _) enc5_one hx6 (by decide) (hz2 _ _) ?_; intro g7 cap w7 R7 G7 o7))
            have HR7 := Lib.hid R7
            have HG7 := Lib.hid (Grew.keptA (B := w.heap.size) ((HGA2.out _).alloc _) G7 (fun x e => (HRA2.out (.cells #[.int .i64 y.s, .int .i64 y.n, .int .i64 y.f, .int .i64 y.p, .bool y.w] 30)).above x e) (Nat.le_refl _))
            clear o7 G7 R7
            go_roundw
            case rel => exact ⟨1, _, M2 ++ [y], rfl, by go_num, by omega, by simp; omega, Lib.hid (by rw [HM2.out, ← HP.out]; simp [prK]), HR7.out, HG7.out⟩
            case measure => simp [intOf]
          · have HP := Lib.hid (prt_0 hq)
            have e1 : (!decide (y = zR)) = false := by rw [hq]; rfl
            go_wp2
            exact ⟨⟨1, _, M2, rfl, by go_num, by omega, by omega, Lib.hid (by rw [HM2.out]; simp [prK, HP.out]), HRA2.out _, HGA2.out _⟩, by simp [intOf]⟩
        · rw [show ((1 : Nat) : Int) = 1 from rfl]
          have hp := prt_len z
          cases hq : decide (z = zR)
          · have HP := Lib.hid (prt_1 hq)
            have e1 : (!decide (z = zR)) = true := by rw [hq]; rfl
            go_wp2_with (at_builtin; go_loud (refine wpList_append_row _ rfl _ _ 26 rfl w.heap.size info_ar Try.underlying26 (by decide) (by decide) enc5_len fv2 M2 rfl ((HRA2.out _).alloc _) _ _ z rfl (Own.new2 _ _ _ _) enc5_one hx6 (by decide) (hz2 _ _) ?_; intro g7 cap w7 R7 G7 o7))
            have HR7 := Lib.hid R7
            have HG7 := Lib.hid (Grew.keptA (B := w.heap.size) ((HGA2.out _).alloc _) G7 (fun x e => (HRA2.out (.cells #[.int .i64 z.s, .int .i64 z.n, .int .i64 z.f, .int .i64 z.p, .bool z.w] 30)).above x e) (Nat.le_refl _))
            clear o7 G7 R7
            go_roundw
            case rel => exact ⟨2, _, M2 ++ [z], rfl, by go_num, by omega, by simp; omega, Lib.hid (by rw [HM2.out, ← HP.out]; simp [prK]), HR7.out, HG7.out⟩
            case measure => simp [intOf]
          · have HP := Lib.hid (prt_0 hq)
            have e1 : (!decide (z = zR)) = false := by rw [hq]; rfl
            go_wp2
            exact ⟨⟨2, _, M2, rfl, by go_num, by omega, by omega, Lib.hid (by rw [HM2.out]; simp [prK, HP.out]), HRA2.out _, HGA2.out _⟩, by simp [intOf]⟩
        · rw [show ((2 : Nat) : Int) = 2 from rfl]
          have HE : Hid (M2 = woR (L.take (i + 1)) s e) := Lib.hid (by rw [HT.out, HM2.out, HM.out]; rfl)
          go_wp2
          exact ⟨⟨i + 1, _, M2, rfl, by go_num, by omega, by omega, HE, HR2.out, HG2.out⟩, by simp [intOf] <;> omega⟩
    · obtain rfl : i = n := by omega
      have HE2 : Hid (M = woR L s e) := Lib.hid (by rw [HM.out, ← HN.out, List.take_length])
      clear R G
      go_wp2
      go_ret
      exact ⟨_, rfl, by rw [← HE2.out]; exact HR.out, HG.out⟩
theorem unmap_p {B0 B : Nat} {v : Value} {L : List Ar} {s m : Int} {w : World} (h : RdS 5 enc5 w B0 v L) (hB : B ≤ w.heap.size) (hs : SmR L) (hm : m ≤ 9223372036854775807) : Calls Try.prog 12 #[v, .int .i64 s, .int .i64 m] w (RetRE B (unmR L s m) w) := by
  have HH := Lib.hid h
  have HS := Lib.hid hs
  have HB := Lib.hid hB
  have hl := hs.1
  clear h hs hB
  obtain ⟨e, he⟩ : ∃ e, eU L s m = e := ⟨_, rfl⟩
  have HE := Lib.hid he
  by_cases h0 : e = 0
  · subst h0
    obtain ⟨k1, k2⟩ := eU_ok he
    obtain ⟨b0, b1, b2⟩ := inB_iff.1 k2
    have H1 := Lib.hid k1
    have hw0 : IntKind.i64.wrap (s + m) = s + m := IntWalk.i64_in _ (by omega)
    have p1 : s ≤ 64 := by omega
    have p2 : 0 ≤ s + m := by omega
    have p3 : s < s + m := by omega
    by_cases h8 : 8 < (woR L s (s + m)).length
    · have HX := Lib.hid (unmR_3 he h8)
      have h8' : (8 : Int) < ((woR L s (s + m)).length : Int) := by omega
      clear he k1 k2
      go_enter Try.func12, Try.ntmps12
      go_wp2_with fail
      with_reducible refine (checkUnmap_p HH.out HS.out hm HE.out).mono ?_
      rintro e9 w1 ⟨rfl, g1⟩
      have HG1 := Lib.hid g1
      have HH1 := Lib.hid (HH.out.grew g1)
      clear g1
      go_wp2_with fail
      with_reducible refine (without_p HH1.out H1.out b0 p1 p2 b2 p3).mono ?_
      rintro e9 w2 ⟨u, rfl, R2, g2⟩
      obtain ⟨ua, uc, rfl⟩ := R2.len
      have HG2 := Lib.hid (HG1.out.trans g2)
      have HH2 := Lib.hid (HH1.out.grew g2)
      clear g2 R2
      generalize (woR L s (s + m)).length = lw at *
      go_wp2_with fail
      with_reducible refine (clone_d HH2.out hl).mono ?_
      rintro e9 w3 ⟨v3, rfl, R3, g3⟩
      have HR3 := Lib.hid (R3.wider (Nat.le_trans HB.out HG2.out.size))
      have HG3 := Lib.hid (HG2.out.trans g3)
      clear R3 g3
      go_wp2
      refine bodyPost_ret (v := .tuple #[v3, .int .i64 3]) (by simp [results, Try.results12, go_sem]) rfl ?_
      exact ⟨v3, by rw [HX.out], by rw [HX.out]; exact HR3.out, HG3.out⟩
    · have HX := Lib.hid (unmR_0 he h8)
      have h8' : ((woR L s (s + m)).length : Int) ≤ 8 := by omega
      clear he k1 k2
      go_enter Try.func12, Try.ntmps12
      go_wp2_with fail
      with_reducible refine (checkUnmap_p HH.out HS.out hm HE.out).mono ?_
      rintro e9 w1 ⟨rfl, g1⟩
      have HG1 := Lib.hid g1
      have HH1 := Lib.hid (HH.out.grew g1)
      clear g1
      go_wp2_with fail
      with_reducible refine (without_p HH1.out H1.out b0 p1 p2 b2 p3).mono ?_
      rintro e9 w2 ⟨u, rfl, R2, g2⟩
      obtain ⟨ua, uc, rfl⟩ := R2.len
      have HG2 := Lib.hid (HG1.out.trans g2)
      have HR2 := Lib.hid (RdS.wider (RowE.rdS enc5_len R2) (Nat.le_trans HB.out HG1.out.size))
      clear g2 R2
      generalize woR L s (s + m) = W at *
      obtain ⟨lw, hlw⟩ : ∃ lw, W.length = lw := ⟨_, rfl⟩
      have HLW := Lib.hid hlw
      rw [hlw] at HR2 h8' ⊢
      clear hlw
      go_wp2
      refine bodyPost_ret (v := .tuple #[.slice ua lw uc, .int .i64 0]) (by simp [results, Try.results12, go_sem]) rfl ?_
      exact ⟨_, by rw [HX.out], by rw [HX.out]; exact HR2.out, HG2.out⟩
  · have HX := Lib.hid (unmR_e he h0)
    have h0' : (e == 0) = false := beq_false_of_ne h0
    clear he
    go_enter Try.func12, Try.ntmps12
    go_wp2_with fail
    with_reducible refine (checkUnmap_p HH.out HS.out hm HE.out).mono ?_
    rintro e9 w1 ⟨rfl, g1⟩
    have HG1 := Lib.hid g1
    have HH1 := Lib.hid (HH.out.grew g1)
    clear g1
    go_wp2_with fail
    with_reducible refine (clone_d HH1.out hl).mono ?_
    rintro e9 w2 ⟨v2, rfl, R2, g2⟩
    have HR2 := Lib.hid (R2.wider (Nat.le_trans HB.out HG1.out.size))
    have HG2 := Lib.hid (HG1.out.trans g2)
    clear R2 g2
    go_wp2
    refine bodyPost_ret (v := .tuple #[v2, .int .i64 e]) (by simp [results, Try.results12, go_sem]) rfl ?_
    exact ⟨v2, by rw [HX.out], by rw [HX.out]; exact HR2.out, HG2.out⟩
end Go.Proofs.Ytnlhdbengppnpaa

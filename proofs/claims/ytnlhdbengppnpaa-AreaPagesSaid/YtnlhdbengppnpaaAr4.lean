/- Areas (layer 16): areas compared as structs; overlaps of the program. -/
import Derived.Test.YtnlhdbengppnpaaAr3
namespace Go.Mine
open Go Go.RowKit
theorem befR_eq {b : Ar} (h : rtA b = true) (s : Int) : decide (befR b s = b) = decide (endA b ≤ s) := by
  have r := rtA_iff.1 h
  refine decide_eq_decide.2 ⟨fun e => ?_, fun e => ?_⟩
  · by_cases t : s ≤ b.s
    · rw [befR_0 t] at e
      rw [← e] at r
      exact absurd r.1.2.1 (by decide)
    · rw [befR_1 (by omega)] at e
      have := congrArg Ar.n e
      simp only [Int.min_def] at this
      unfold endA
      split at this <;> omega
  · unfold endA at e
    rw [befR_1 (by omega), Int.min_eq_left (by omega)]
theorem frmR_eq {b : Ar} (h : rtA b = true) (e : Int) : decide (frmR b e = b) = decide (e ≤ b.s) := by
  have r := rtA_iff.1 h
  refine decide_eq_decide.2 ⟨fun q => ?_, fun q => ?_⟩
  · by_cases t : endA b ≤ e
    · rw [frmR_0 t] at q
      rw [← q] at r
      exact absurd r.1.2.1 (by decide)
    · rw [frmR_1 (by omega)] at q
      have := congrArg Ar.s q
      simp only [Int.max_def] at this
      split at this <;> omega
  · rw [frmR_1 (by unfold endA; omega), Int.max_eq_left (by omega), Int.add_zero, Int.sub_zero, Int.add_zero]
theorem ovA_q {a b : Ar} (h : rtA b = true) : ovA b a = (!decide (befR b a.s = b) && !decide (frmR b (endA a) = b)) := by
  rw [befR_eq h, frmR_eq h, Bool.eq_iff_iff, ovA_iff]
  simp only [Bool.and_eq_true, Bool.not_eq_true', decide_eq_false_iff_not]
  omega
end Go.Mine
namespace Go.Proofs.Ytnlhdbengppnpaa
open Go.RowKit Go.Mine

theorem run_neq5 (w : World) (x y : Ar) : (binOp .neq 30 (arV x) (arV y)).run Try.prog w = .ok (.bool (!decide (x = y))) w := by
  obtain ⟨a, b, c, d, e⟩ := x
  obtain ⟨a', b', c', d', e'⟩ := y
  go_simp
  by_cases h1 : a = a' <;> by_cases h2 : b = b' <;> by_cases h3 : c = c' <;> by_cases h4 : d = d' <;> by_cases h5 : e = e' <;> simp [h1, h2, h3, h4, h5]
theorem run_eql5 (w : World) (x y : Ar) : (binOp .eql 30 (arV x) (arV y)).run Try.prog w = .ok (.bool (decide (x = y))) w := by
  obtain ⟨a, b, c, d, e⟩ := x
  obtain ⟨a', b', c', d', e'⟩ := y
  go_simp
  by_cases h1 : a = a' <;> by_cases h2 : b = b' <;> by_cases h3 : c = c' <;> by_cases h4 : d = d' <;> by_cases h5 : e = e' <;> simp [h1, h2, h3, h4, h5]
set_option maxRecDepth 100000 in
set_option maxHeartbeats 8000000 in
theorem overlaps_p {B : Nat} {v : Value} {L : List Ar} {a : Ar} {b : Bool} {w : World} (h : RdS 5 enc5 w B v L) (hk : okR L = true) (ha : rtA a = true) (hb : ovR L a = b) : Calls Try.prog 37 #[v, arV a] w (RetG (.bool b) w) := by
  obtain ⟨a0, c, rfl, -, -⟩ := h.slice
  have hs := (okR_iff.1 hk).1
  have HB := Lib.hid hb
  have HK0 := Lib.hid hk
  have HRA := Lib.hid ha
  have ra := rtA_iff.1 ha
  obtain ⟨t, ht⟩ : ∃ t, endA a = t := ⟨_, rfl⟩
  have HEA := Lib.hid ht
  have hs0 : 0 ≤ a.s := ra.1.1
  have hs1 : a.s ≤ 64 := by omega
  have he0 : 0 ≤ t := by rw [← ht]; unfold endA; omega
  have he1 : t ≤ 64 := by rw [← ht]; unfold endA; omega
  obtain ⟨n, hn⟩ : ∃ n, L.length = n := ⟨_, rfl⟩
  have HN := Lib.hid hn
  rw [hn] at h hs ⊢
  have HZ := Lib.hid h
  have HOA := Lib.hid (Own.new w 30 #[.int .i64 a.s, .int .i64 a.n, .int .i64 a.f, .int .i64 a.p, .bool a.w])
  have HG0 := Lib.hid ((Grew.refl w).alloc (.cells #[.int .i64 a.s, .int .i64 a.n, .int .i64 a.f, .int .i64 a.p, .bool a.w] 30))
  have hqq := run_neq5
  clear h hn hb hk ha ra ht
  go_enter Try.func37, Try.ntmps37
  go_wp2_with fail
  go_loopw [9] (fun iv wr => ∃ (i : Nat), iv = .int .i64 i ∧ i ≤ n ∧ Hid (∀ j, j < i → ovA (L.getD j zR) a = false) ∧ Own wr w.heap.size 30 #[.int .i64 a.s, .int .i64 a.n, .int .i64 a.f, .int .i64 a.p, .bool a.w] ∧ Grew w wr) (fun iv _ => n - (intOf iv).toNat)
  case atStart => exact ⟨0, rfl, by omega, Lib.hid (fun j hj => by omega), HOA.out, HG0.out⟩
  case round =>
    obtain ⟨i, rfl, hi, HK, O, G⟩ := hrel
    obtain ⟨wo, rfl⟩ : ∃ wo : World, wo = wr := ⟨_, rfl⟩
    clear HOA HG0
    by_cases hlt : i < n
    · have hiL : i < L.length := by rw [HN.out]; exact hlt
      obtain ⟨g, o, rfl, hBg, hg, c0, c1, c2, c3, c4⟩ := (HZ.out.grew G).at5 hiL
      have hrd := rtD HK0.out hiL
      have HQ := Lib.hid (ovA_q (a := a) hrd)
      have HYE : Hid (ovA (L.getD i zR) a = true → b = true) := Lib.hid (fun h => by rw [← HB.out]; exact ovR_yes hiL h)
      have HNX : Hid (ovA (L.getD i zR) a = false → ∀ j, j < i + 1 → ovA (L.getD j zR) a = false) := Lib.hid (fun h j hj => by
        by_cases e : j = i
        · rw [e]; exact h
        · exact HK.out j (by omega))
      generalize L.getD i zR = d at *
      have HRD := Lib.hid hrd
      have hi0 : (0 : Int) ≤ (i : Int) := by omega
      have hi1 : (i : Int) < (n : Int) := by omega
      have HGA := Lib.hid (G.alloc (.cells #[.int .i64 d.s, .int .i64 d.n, .int .i64 d.f, .int .i64 d.p, .bool d.w] 30))
      have HD := Lib.hid (Own.new wo 30 #[.int .i64 d.s, .int .i64 d.n, .int .i64 d.f, .int .i64 d.p, .bool d.w])
      have HA := Lib.hid (O.alloc (.cells #[.int .i64 d.s, .int .i64 d.n, .int .i64 d.f, .int .i64 d.p, .bool d.w] 30))
      rw [HEA.out] at HQ
      obtain ⟨y, hy⟩ : ∃ y, befR d a.s = y := ⟨_, rfl⟩
      obtain ⟨z, hz⟩ : ∃ z, frmR d t = z := ⟨_, rfl⟩
      rw [hy, hz] at HQ
      have HBF := Lib.hid hy
      have HFR := Lib.hid hz
      clear hy hz hrd G O HK
      go_upto_region 4 with fail
      obtain ⟨x0, x1, x2, x3, x4⟩ := HA.out.five
      obtain ⟨x5, x6, x7, x8, x9⟩ := HD.out.five
      have hlA := HA.out.lt
      have hlD := HD.out.lt
      have HAQ := Lib.hid (fun w' (G : Grew (wo.alloc (.cells #[.int .i64 d.s, .int .i64 d.n, .int .i64 d.f, .int .i64 d.p, .bool d.w] 30)) w') => HA.out.grew G)
      have HG := HGA
      clear HD HGA HA
      generalize wo.alloc (.cells #[.int .i64 d.s, .int .i64 d.n, .int .i64 d.f, .int .i64 d.p, .bool d.w] 30) = wq at *
      cases hq : decide (y = d)
      · have e1 : (!decide (y = d)) = true := by rw [hq]; rfl
        cases hq2 : decide (z = d)
        · have HE : Hid (b = true) := Lib.hid (HYE.out (by rw [HQ.out, hq, hq2]; rfl))
          have e2 : (!decide (z = d)) = true := by rw [hq2]; rfl
          clear HQ HYE HNX
          refine wp_region_held_drew (S := fun w' => w'.cell? ⟨w.heap.size, 0, none⟩ = some (.int .i64 a.s) ∧ w'.cell? ⟨w.heap.size, 1, none⟩ = some (.int .i64 a.n) ∧ w'.cell? ⟨w.heap.size, 2, none⟩ = some (.int .i64 a.f) ∧ w'.cell? ⟨w.heap.size, 3, none⟩ = some (.int .i64 a.p) ∧ w'.cell? ⟨w.heap.size, 4, none⟩ = some (.bool a.w) ∧ w'.cell? ⟨wo.heap.size, 0, none⟩ = some (.int .i64 d.s) ∧ w'.cell? ⟨wo.heap.size, 1, none⟩ = some (.int .i64 d.n) ∧ w'.cell? ⟨wo.heap.size, 2, none⟩ = some (.int .i64 d.f) ∧ w'.cell? ⟨wo.heap.size, 3, none⟩ = some (.int .i64 d.p) ∧ w'.cell? ⟨wo.heap.size, 4, none⟩ = some (.bool d.w)) (by kernel_rfl) ?_ (fun hHeld => ?_)
          · (try dsimp only); (refine ⟨?_, ?_, ?_, ?_, ?_, ?_, ?_, ?_, ?_, ?_⟩ <;> (repeat (first | (with_reducible assumption) | (with_reducible refine far_drew ?_))))
          first | refine wpAnyH_take (i := 0) (v := undef) rfl (by kernel_rfl) (by kernel_rfl) (by kernel_rfl) (fun _ _ _ h => h) (Or.inr ⟨by rfl, rfl⟩) (by assumption) ?_ | (refine' wpAnyH_take (i := 0) (v := _) rfl (by kernel_rfl) (by kernel_rfl) (by kernel_rfl) (fun _ _ _ h => h) (Or.inl ⟨by rfl, ?hy0a⟩) (by assumption) ?rest0a; case hy0a => (intro w hSw; (try dsimp only at hSw); (first | (go_simp; done) | (go_simp; with_reducible rfl))))
          try simp only [Act.put, List.setIfInBounds_toArray, List.set_cons_zero, List.set_cons_succ, List.getElem_toArray, List.getElem_cons_zero, List.getElem_cons_succ]
          first | refine wpAnyH_take (i := 1) (v := undef) rfl (by kernel_rfl) (by kernel_rfl) (by kernel_rfl) (fun _ _ _ h => h) (Or.inr ⟨by rfl, rfl⟩) (by assumption) ?_ | (refine' wpAnyH_take (i := 1) (v := _) rfl (by kernel_rfl) (by kernel_rfl) (by kernel_rfl) (fun _ _ _ h => h) (Or.inl ⟨by rfl, ?hy1a⟩) (by assumption) ?rest1a; case hy1a => (intro w hSw; (try dsimp only at hSw); (first | (go_simp; done) | (go_simp; with_reducible rfl))))
          try simp only [Act.put, List.setIfInBounds_toArray, List.set_cons_zero, List.set_cons_succ, List.getElem_toArray, List.getElem_cons_zero, List.getElem_cons_succ]
          first | refine wpAnyH_take (i := 2) (v := undef) rfl (by kernel_rfl) (by kernel_rfl) (by kernel_rfl) (fun _ _ _ h => h) (Or.inr ⟨by rfl, rfl⟩) (by assumption) ?_ | (refine' wpAnyH_take (i := 2) (v := _) rfl (by kernel_rfl) (by kernel_rfl) (by kernel_rfl) (fun _ _ _ h => h) (Or.inl ⟨by rfl, ?hy2a⟩) (by assumption) ?rest2a; case hy2a => (intro w hSw; (try dsimp only at hSw); (first | (go_simp; done) | (go_simp; with_reducible rfl))))
          try simp only [Act.put, List.setIfInBounds_toArray, List.set_cons_zero, List.set_cons_succ, List.getElem_toArray, List.getElem_cons_zero, List.getElem_cons_succ]
          first | refine wpAnyH_take (i := 4) (v := undef) rfl (by kernel_rfl) (by kernel_rfl) (by kernel_rfl) (fun _ _ _ h => h) (Or.inr ⟨by rfl, rfl⟩) (by assumption) ?_ | (refine' wpAnyH_take (i := 4) (v := _) rfl (by kernel_rfl) (by kernel_rfl) (by kernel_rfl) (fun _ _ _ h => h) (Or.inl ⟨by rfl, ?hy4a⟩) (by assumption) ?rest4a; case hy4a => (intro w hSw; (try dsimp only at hSw); (first | (go_simp; done) | (go_simp; with_reducible rfl))))
          try simp only [Act.put, List.setIfInBounds_toArray, List.set_cons_zero, List.set_cons_succ, List.getElem_toArray, List.getElem_cons_zero, List.getElem_cons_succ]
          refine wpAnyH_ready (rs := [3]) (by kernel_rfl) (by simp) ?_
          refine AllReadyH.cons rfl (fun K hK => ?_) AllReadyH.nil
          try simp only [Act.put, List.setIfInBounds_toArray, List.set_cons_zero, List.set_cons_succ, List.getElem_toArray, List.getElem_cons_zero, List.getElem_cons_succ]
          go_simp; go_at_call 41; (with_reducible refine (before_p HRD.out hs0 hs1).mono ?_); rintro e9 w1 ⟨rfl, g1⟩; have y0 := (g1.cells.1 _ _ hlA).trans (far_drew x0); have y1 := (g1.cells.1 _ _ hlA).trans (far_drew x1); have y2 := (g1.cells.1 _ _ hlA).trans (far_drew x2); have y3 := (g1.cells.1 _ _ hlA).trans (far_drew x3); have y4 := (g1.cells.1 _ _ hlA).trans (far_drew x4); have y5 := (g1.cells.1 _ _ hlD).trans (far_drew x5); have y6 := (g1.cells.1 _ _ hlD).trans (far_drew x6); have y7 := (g1.cells.1 _ _ hlD).trans (far_drew x7); have y8 := (g1.cells.1 _ _ hlD).trans (far_drew x8); have y9 := (g1.cells.1 _ _ hlD).trans (far_drew x9); have hlA' := Nat.lt_of_lt_of_le hlA g1.size; have hlD' := Nat.lt_of_lt_of_le hlD g1.size; have HG1 := Lib.hid (HG.out.drew.trans g1); rw [HBF.out]
          refine hK.out _ _ ?_ (fun hHeld => ?_)
          · (try dsimp only); (refine ⟨?_, ?_, ?_, ?_, ?_, ?_, ?_, ?_, ?_, ?_⟩ <;> (repeat (first | (with_reducible assumption) | (with_reducible refine far_drew ?_))))
          clear hK K
          try simp only [Act.put, List.setIfInBounds_toArray, List.set_cons_zero, List.set_cons_succ, List.getElem_toArray, List.getElem_cons_zero, List.getElem_cons_succ]
          first | refine wpAnyH_take (i := 5) (v := undef) rfl (by kernel_rfl) (by kernel_rfl) (by kernel_rfl) (fun _ _ _ h => h) (Or.inr ⟨by rfl, rfl⟩) (by assumption) ?_ | (refine' wpAnyH_take (i := 5) (v := _) rfl (by kernel_rfl) (by kernel_rfl) (by kernel_rfl) (fun _ _ _ h => h) (Or.inl ⟨by rfl, ?hy5a⟩) (by assumption) ?rest5a; case hy5a => (intro w hSw; (try dsimp only at hSw); (first | (go_simp; done) | (go_simp; with_reducible rfl))))
          try simp only [Act.put, List.setIfInBounds_toArray, List.set_cons_zero, List.set_cons_succ, List.getElem_toArray, List.getElem_cons_zero, List.getElem_cons_succ]
          first | refine wpAnyH_take (i := 6) (v := undef) rfl (by kernel_rfl) (by kernel_rfl) (by kernel_rfl) (fun _ _ _ h => h) (Or.inr ⟨by rfl, rfl⟩) (by assumption) ?_ | (refine' wpAnyH_take (i := 6) (v := _) rfl (by kernel_rfl) (by kernel_rfl) (by kernel_rfl) (fun _ _ _ h => h) (Or.inl ⟨by rfl, ?hy6a⟩) (by assumption) ?rest6a; case hy6a => (intro w hSw; (try dsimp only at hSw); (first | (go_simp; done) | (go_simp; with_reducible rfl))))
          try simp only [Act.put, List.setIfInBounds_toArray, List.set_cons_zero, List.set_cons_succ, List.getElem_toArray, List.getElem_cons_zero, List.getElem_cons_succ]
          first | refine wpAnyH_take (i := 7) (v := undef) rfl (by kernel_rfl) (by kernel_rfl) (by kernel_rfl) (fun _ _ _ h => h) (Or.inr ⟨by rfl, rfl⟩) (by assumption) ?_ | (refine' wpAnyH_take (i := 7) (v := _) rfl (by kernel_rfl) (by kernel_rfl) (by kernel_rfl) (fun _ _ _ h => h) (Or.inl ⟨by rfl, ?hy7a⟩) (by assumption) ?rest7a; case hy7a => (intro w hSw; (try dsimp only at hSw); (first | (go_simp; done) | (go_simp; with_reducible rfl))))
          try simp only [Act.put, List.setIfInBounds_toArray, List.set_cons_zero, List.set_cons_succ, List.getElem_toArray, List.getElem_cons_zero, List.getElem_cons_succ]
          first | refine wpAnyH_take (i := 8) (v := undef) rfl (by kernel_rfl) (by kernel_rfl) (by kernel_rfl) (fun _ _ _ h => h) (Or.inr ⟨by rfl, rfl⟩) (by assumption) ?_ | (refine' wpAnyH_take (i := 8) (v := _) rfl (by kernel_rfl) (by kernel_rfl) (by kernel_rfl) (fun _ _ _ h => h) (Or.inl ⟨by rfl, ?hy8a⟩) (by assumption) ?rest8a; case hy8a => (intro w hSw; (try dsimp only at hSw); (first | (go_simp; done) | (go_simp; with_reducible rfl))))
          try simp only [Act.put, List.setIfInBounds_toArray, List.set_cons_zero, List.set_cons_succ, List.getElem_toArray, List.getElem_cons_zero, List.getElem_cons_succ]
          first | refine wpAnyH_take (i := 11) (v := undef) rfl (by kernel_rfl) (by kernel_rfl) (by kernel_rfl) (fun _ _ _ h => h) (Or.inr ⟨by rfl, rfl⟩) (by assumption) ?_ | (refine' wpAnyH_take (i := 11) (v := _) rfl (by kernel_rfl) (by kernel_rfl) (by kernel_rfl) (fun _ _ _ h => h) (Or.inl ⟨by rfl, ?hy11a⟩) (by assumption) ?rest11a; case hy11a => (intro w hSw; (try dsimp only at hSw); (first | (go_simp; done) | (go_simp; with_reducible rfl))))
          try simp only [Act.put, List.setIfInBounds_toArray, List.set_cons_zero, List.set_cons_succ, List.getElem_toArray, List.getElem_cons_zero, List.getElem_cons_succ]
          refine wpAnyH_ready (rs := [9]) (by kernel_rfl) (by simp) ?_
          refine AllReadyH.cons rfl (fun K hK => ?_) AllReadyH.nil
          try simp only [Act.put, List.setIfInBounds_toArray, List.set_cons_zero, List.set_cons_succ, List.getElem_toArray, List.getElem_cons_zero, List.getElem_cons_succ]
          go_simp; go_at_call 35; (with_reducible refine (end_p HRA.out).mono ?_); rintro e9 w2 ⟨rfl, g2⟩; have z0 := (g2.cells.1 _ _ hlA').trans y0; have z1 := (g2.cells.1 _ _ hlA').trans y1; have z2 := (g2.cells.1 _ _ hlA').trans y2; have z3 := (g2.cells.1 _ _ hlA').trans y3; have z4 := (g2.cells.1 _ _ hlA').trans y4; have z5 := (g2.cells.1 _ _ hlD').trans y5; have z6 := (g2.cells.1 _ _ hlD').trans y6; have z7 := (g2.cells.1 _ _ hlD').trans y7; have z8 := (g2.cells.1 _ _ hlD').trans y8; have z9 := (g2.cells.1 _ _ hlD').trans y9; have hlA'' := Nat.lt_of_lt_of_le hlA' g2.size; have hlD'' := Nat.lt_of_lt_of_le hlD' g2.size; have HG2 := Lib.hid (HG1.out.trans g2); rw [HEA.out]
          refine hK.out _ _ ?_ (fun hHeld => ?_)
          · (try dsimp only); (refine ⟨?_, ?_, ?_, ?_, ?_, ?_, ?_, ?_, ?_, ?_⟩ <;> (repeat (first | (with_reducible assumption) | (with_reducible refine far_drew ?_))))
          clear hK K
          try simp only [Act.put, List.setIfInBounds_toArray, List.set_cons_zero, List.set_cons_succ, List.getElem_toArray, List.getElem_cons_zero, List.getElem_cons_succ]
          refine wpAnyH_ready (rs := [10]) (by kernel_rfl) (by simp) ?_
          refine AllReadyH.cons rfl (fun K hK => ?_) AllReadyH.nil
          try simp only [Act.put, List.setIfInBounds_toArray, List.set_cons_zero, List.set_cons_succ, List.getElem_toArray, List.getElem_cons_zero, List.getElem_cons_succ]
          go_simp; go_at_call 42; (with_reducible refine (from_p HRD.out he0 he1).mono ?_); rintro e9 w3 ⟨rfl, g3⟩; have v0 := (g3.cells.1 _ _ hlA'').trans z0; have v1 := (g3.cells.1 _ _ hlA'').trans z1; have v2 := (g3.cells.1 _ _ hlA'').trans z2; have v3 := (g3.cells.1 _ _ hlA'').trans z3; have v4 := (g3.cells.1 _ _ hlA'').trans z4; have v5 := (g3.cells.1 _ _ hlD'').trans z5; have v6 := (g3.cells.1 _ _ hlD'').trans z6; have v7 := (g3.cells.1 _ _ hlD'').trans z7; have v8 := (g3.cells.1 _ _ hlD'').trans z8; have v9 := (g3.cells.1 _ _ hlD'').trans z9; have hlA''' := Nat.lt_of_lt_of_le hlA'' g3.size; have hlD''' := Nat.lt_of_lt_of_le hlD'' g3.size; have HG3 := Lib.hid (HG2.out.trans g3); rw [HFR.out]
          refine hK.out _ _ ?_ (fun hHeld => ?_)
          · (try dsimp only); (refine ⟨?_, ?_, ?_, ?_, ?_, ?_, ?_, ?_, ?_, ?_⟩ <;> (repeat (first | (with_reducible assumption) | (with_reducible refine far_drew ?_))))
          clear hK K
          try simp only [Act.put, List.setIfInBounds_toArray, List.set_cons_zero, List.set_cons_succ, List.getElem_toArray, List.getElem_cons_zero, List.getElem_cons_succ]
          first | refine wpAnyH_take (i := 12) (v := undef) rfl (by kernel_rfl) (by kernel_rfl) (by kernel_rfl) (fun _ _ _ h => h) (Or.inr ⟨by rfl, rfl⟩) (by assumption) ?_ | (refine' wpAnyH_take (i := 12) (v := _) rfl (by kernel_rfl) (by kernel_rfl) (by kernel_rfl) (fun _ _ _ h => h) (Or.inl ⟨by rfl, ?hy12a⟩) (by assumption) ?rest12a; case hy12a => (intro w hSw; (try dsimp only at hSw); (first | (go_simp; done) | (go_simp; with_reducible rfl))))
          try simp only [Act.put, List.setIfInBounds_toArray, List.set_cons_zero, List.set_cons_succ, List.getElem_toArray, List.getElem_cons_zero, List.getElem_cons_succ]
          first | refine wpAnyH_take (i := 13) (v := undef) rfl (by kernel_rfl) (by kernel_rfl) (by kernel_rfl) (fun _ _ _ h => h) (Or.inr ⟨by rfl, rfl⟩) (by assumption) ?_ | (refine' wpAnyH_take (i := 13) (v := _) rfl (by kernel_rfl) (by kernel_rfl) (by kernel_rfl) (fun _ _ _ h => h) (Or.inl ⟨by rfl, ?hy13a⟩) (by assumption) ?rest13a; case hy13a => (intro w hSw; (try dsimp only at hSw); (first | (go_simp; done) | (go_simp; with_reducible rfl))))
          try simp only [Act.put, List.setIfInBounds_toArray, List.set_cons_zero, List.set_cons_succ, List.getElem_toArray, List.getElem_cons_zero, List.getElem_cons_succ]
          refine wpAnyH_done (by kernel_rfl) ?_ _
          go_wp2
          go_ret
          exact ⟨ret_bool HE.out.symm, HG3.out⟩
        · have HE := Lib.hid (HNX.out (by rw [HQ.out, hq, hq2]; rfl))
          have e2 : (!decide (z = d)) = false := by rw [hq2]; rfl
          clear HQ HYE HNX
          refine wp_region_held_drew (S := fun w' => w'.cell? ⟨w.heap.size, 0, none⟩ = some (.int .i64 a.s) ∧ w'.cell? ⟨w.heap.size, 1, none⟩ = some (.int .i64 a.n) ∧ w'.cell? ⟨w.heap.size, 2, none⟩ = some (.int .i64 a.f) ∧ w'.cell? ⟨w.heap.size, 3, none⟩ = some (.int .i64 a.p) ∧ w'.cell? ⟨w.heap.size, 4, none⟩ = some (.bool a.w) ∧ w'.cell? ⟨wo.heap.size, 0, none⟩ = some (.int .i64 d.s) ∧ w'.cell? ⟨wo.heap.size, 1, none⟩ = some (.int .i64 d.n) ∧ w'.cell? ⟨wo.heap.size, 2, none⟩ = some (.int .i64 d.f) ∧ w'.cell? ⟨wo.heap.size, 3, none⟩ = some (.int .i64 d.p) ∧ w'.cell? ⟨wo.heap.size, 4, none⟩ = some (.bool d.w)) (by kernel_rfl) ?_ (fun hHeld => ?_)
          · (try dsimp only); (refine ⟨?_, ?_, ?_, ?_, ?_, ?_, ?_, ?_, ?_, ?_⟩ <;> (repeat (first | (with_reducible assumption) | (with_reducible refine far_drew ?_))))
          first | refine wpAnyH_take (i := 0) (v := undef) rfl (by kernel_rfl) (by kernel_rfl) (by kernel_rfl) (fun _ _ _ h => h) (Or.inr ⟨by rfl, rfl⟩) (by assumption) ?_ | (refine' wpAnyH_take (i := 0) (v := _) rfl (by kernel_rfl) (by kernel_rfl) (by kernel_rfl) (fun _ _ _ h => h) (Or.inl ⟨by rfl, ?hy0b⟩) (by assumption) ?rest0b; case hy0b => (intro w hSw; (try dsimp only at hSw); (first | (go_simp; done) | (go_simp; with_reducible rfl))))
          try simp only [Act.put, List.setIfInBounds_toArray, List.set_cons_zero, List.set_cons_succ, List.getElem_toArray, List.getElem_cons_zero, List.getElem_cons_succ]
          first | refine wpAnyH_take (i := 1) (v := undef) rfl (by kernel_rfl) (by kernel_rfl) (by kernel_rfl) (fun _ _ _ h => h) (Or.inr ⟨by rfl, rfl⟩) (by assumption) ?_ | (refine' wpAnyH_take (i := 1) (v := _) rfl (by kernel_rfl) (by kernel_rfl) (by kernel_rfl) (fun _ _ _ h => h) (Or.inl ⟨by rfl, ?hy1b⟩) (by assumption) ?rest1b; case hy1b => (intro w hSw; (try dsimp only at hSw); (first | (go_simp; done) | (go_simp; with_reducible rfl))))
          try simp only [Act.put, List.setIfInBounds_toArray, List.set_cons_zero, List.set_cons_succ, List.getElem_toArray, List.getElem_cons_zero, List.getElem_cons_succ]
          first | refine wpAnyH_take (i := 2) (v := undef) rfl (by kernel_rfl) (by kernel_rfl) (by kernel_rfl) (fun _ _ _ h => h) (Or.inr ⟨by rfl, rfl⟩) (by assumption) ?_ | (refine' wpAnyH_take (i := 2) (v := _) rfl (by kernel_rfl) (by kernel_rfl) (by kernel_rfl) (fun _ _ _ h => h) (Or.inl ⟨by rfl, ?hy2b⟩) (by assumption) ?rest2b; case hy2b => (intro w hSw; (try dsimp only at hSw); (first | (go_simp; done) | (go_simp; with_reducible rfl))))
          try simp only [Act.put, List.setIfInBounds_toArray, List.set_cons_zero, List.set_cons_succ, List.getElem_toArray, List.getElem_cons_zero, List.getElem_cons_succ]
          first | refine wpAnyH_take (i := 4) (v := undef) rfl (by kernel_rfl) (by kernel_rfl) (by kernel_rfl) (fun _ _ _ h => h) (Or.inr ⟨by rfl, rfl⟩) (by assumption) ?_ | (refine' wpAnyH_take (i := 4) (v := _) rfl (by kernel_rfl) (by kernel_rfl) (by kernel_rfl) (fun _ _ _ h => h) (Or.inl ⟨by rfl, ?hy4b⟩) (by assumption) ?rest4b; case hy4b => (intro w hSw; (try dsimp only at hSw); (first | (go_simp; done) | (go_simp; with_reducible rfl))))
          try simp only [Act.put, List.setIfInBounds_toArray, List.set_cons_zero, List.set_cons_succ, List.getElem_toArray, List.getElem_cons_zero, List.getElem_cons_succ]
          refine wpAnyH_ready (rs := [3]) (by kernel_rfl) (by simp) ?_
          refine AllReadyH.cons rfl (fun K hK => ?_) AllReadyH.nil
          try simp only [Act.put, List.setIfInBounds_toArray, List.set_cons_zero, List.set_cons_succ, List.getElem_toArray, List.getElem_cons_zero, List.getElem_cons_succ]
          go_simp; go_at_call 41; (with_reducible refine (before_p HRD.out hs0 hs1).mono ?_); rintro e9 w1 ⟨rfl, g1⟩; have y0 := (g1.cells.1 _ _ hlA).trans (far_drew x0); have y1 := (g1.cells.1 _ _ hlA).trans (far_drew x1); have y2 := (g1.cells.1 _ _ hlA).trans (far_drew x2); have y3 := (g1.cells.1 _ _ hlA).trans (far_drew x3); have y4 := (g1.cells.1 _ _ hlA).trans (far_drew x4); have y5 := (g1.cells.1 _ _ hlD).trans (far_drew x5); have y6 := (g1.cells.1 _ _ hlD).trans (far_drew x6); have y7 := (g1.cells.1 _ _ hlD).trans (far_drew x7); have y8 := (g1.cells.1 _ _ hlD).trans (far_drew x8); have y9 := (g1.cells.1 _ _ hlD).trans (far_drew x9); have hlA' := Nat.lt_of_lt_of_le hlA g1.size; have hlD' := Nat.lt_of_lt_of_le hlD g1.size; have HG1 := Lib.hid (HG.out.drew.trans g1); rw [HBF.out]
          refine hK.out _ _ ?_ (fun hHeld => ?_)
          · (try dsimp only); (refine ⟨?_, ?_, ?_, ?_, ?_, ?_, ?_, ?_, ?_, ?_⟩ <;> (repeat (first | (with_reducible assumption) | (with_reducible refine far_drew ?_))))
          clear hK K
          try simp only [Act.put, List.setIfInBounds_toArray, List.set_cons_zero, List.set_cons_succ, List.getElem_toArray, List.getElem_cons_zero, List.getElem_cons_succ]
          first | refine wpAnyH_take (i := 5) (v := undef) rfl (by kernel_rfl) (by kernel_rfl) (by kernel_rfl) (fun _ _ _ h => h) (Or.inr ⟨by rfl, rfl⟩) (by assumption) ?_ | (refine' wpAnyH_take (i := 5) (v := _) rfl (by kernel_rfl) (by kernel_rfl) (by kernel_rfl) (fun _ _ _ h => h) (Or.inl ⟨by rfl, ?hy5b⟩) (by assumption) ?rest5b; case hy5b => (intro w hSw; (try dsimp only at hSw); (first | (go_simp; done) | (go_simp; with_reducible rfl))))
          try simp only [Act.put, List.setIfInBounds_toArray, List.set_cons_zero, List.set_cons_succ, List.getElem_toArray, List.getElem_cons_zero, List.getElem_cons_succ]
          first | refine wpAnyH_take (i := 6) (v := undef) rfl (by kernel_rfl) (by kernel_rfl) (by kernel_rfl) (fun _ _ _ h => h) (Or.inr ⟨by rfl, rfl⟩) (by assumption) ?_ | (refine' wpAnyH_take (i := 6) (v := _) rfl (by kernel_rfl) (by kernel_rfl) (by kernel_rfl) (fun _ _ _ h => h) (Or.inl ⟨by rfl, ?hy6b⟩) (by assumption) ?rest6b; case hy6b => (intro w hSw; (try dsimp only at hSw); (first | (go_simp; done) | (go_simp; with_reducible rfl))))
          try simp only [Act.put, List.setIfInBounds_toArray, List.set_cons_zero, List.set_cons_succ, List.getElem_toArray, List.getElem_cons_zero, List.getElem_cons_succ]
          first | refine wpAnyH_take (i := 7) (v := undef) rfl (by kernel_rfl) (by kernel_rfl) (by kernel_rfl) (fun _ _ _ h => h) (Or.inr ⟨by rfl, rfl⟩) (by assumption) ?_ | (refine' wpAnyH_take (i := 7) (v := _) rfl (by kernel_rfl) (by kernel_rfl) (by kernel_rfl) (fun _ _ _ h => h) (Or.inl ⟨by rfl, ?hy7b⟩) (by assumption) ?rest7b; case hy7b => (intro w hSw; (try dsimp only at hSw); (first | (go_simp; done) | (go_simp; with_reducible rfl))))
          try simp only [Act.put, List.setIfInBounds_toArray, List.set_cons_zero, List.set_cons_succ, List.getElem_toArray, List.getElem_cons_zero, List.getElem_cons_succ]
          first | refine wpAnyH_take (i := 8) (v := undef) rfl (by kernel_rfl) (by kernel_rfl) (by kernel_rfl) (fun _ _ _ h => h) (Or.inr ⟨by rfl, rfl⟩) (by assumption) ?_ | (refine' wpAnyH_take (i := 8) (v := _) rfl (by kernel_rfl) (by kernel_rfl) (by kernel_rfl) (fun _ _ _ h => h) (Or.inl ⟨by rfl, ?hy8b⟩) (by assumption) ?rest8b; case hy8b => (intro w hSw; (try dsimp only at hSw); (first | (go_simp; done) | (go_simp; with_reducible rfl))))
          try simp only [Act.put, List.setIfInBounds_toArray, List.set_cons_zero, List.set_cons_succ, List.getElem_toArray, List.getElem_cons_zero, List.getElem_cons_succ]
          first | refine wpAnyH_take (i := 11) (v := undef) rfl (by kernel_rfl) (by kernel_rfl) (by kernel_rfl) (fun _ _ _ h => h) (Or.inr ⟨by rfl, rfl⟩) (by assumption) ?_ | (refine' wpAnyH_take (i := 11) (v := _) rfl (by kernel_rfl) (by kernel_rfl) (by kernel_rfl) (fun _ _ _ h => h) (Or.inl ⟨by rfl, ?hy11b⟩) (by assumption) ?rest11b; case hy11b => (intro w hSw; (try dsimp only at hSw); (first | (go_simp; done) | (go_simp; with_reducible rfl))))
          try simp only [Act.put, List.setIfInBounds_toArray, List.set_cons_zero, List.set_cons_succ, List.getElem_toArray, List.getElem_cons_zero, List.getElem_cons_succ]
          refine wpAnyH_ready (rs := [9]) (by kernel_rfl) (by simp) ?_
          refine AllReadyH.cons rfl (fun K hK => ?_) AllReadyH.nil
          try simp only [Act.put, List.setIfInBounds_toArray, List.set_cons_zero, List.set_cons_succ, List.getElem_toArray, List.getElem_cons_zero, List.getElem_cons_succ]
          go_simp; go_at_call 35; (with_reducible refine (end_p HRA.out).mono ?_); rintro e9 w2 ⟨rfl, g2⟩; have z0 := (g2.cells.1 _ _ hlA').trans y0; have z1 := (g2.cells.1 _ _ hlA').trans y1; have z2 := (g2.cells.1 _ _ hlA').trans y2; have z3 := (g2.cells.1 _ _ hlA').trans y3; have z4 := (g2.cells.1 _ _ hlA').trans y4; have z5 := (g2.cells.1 _ _ hlD').trans y5; have z6 := (g2.cells.1 _ _ hlD').trans y6; have z7 := (g2.cells.1 _ _ hlD').trans y7; have z8 := (g2.cells.1 _ _ hlD').trans y8; have z9 := (g2.cells.1 _ _ hlD').trans y9; have hlA'' := Nat.lt_of_lt_of_le hlA' g2.size; have hlD'' := Nat.lt_of_lt_of_le hlD' g2.size; have HG2 := Lib.hid (HG1.out.trans g2); rw [HEA.out]
          refine hK.out _ _ ?_ (fun hHeld => ?_)
          · (try dsimp only); (refine ⟨?_, ?_, ?_, ?_, ?_, ?_, ?_, ?_, ?_, ?_⟩ <;> (repeat (first | (with_reducible assumption) | (with_reducible refine far_drew ?_))))
          clear hK K
          try simp only [Act.put, List.setIfInBounds_toArray, List.set_cons_zero, List.set_cons_succ, List.getElem_toArray, List.getElem_cons_zero, List.getElem_cons_succ]
          refine wpAnyH_ready (rs := [10]) (by kernel_rfl) (by simp) ?_
          refine AllReadyH.cons rfl (fun K hK => ?_) AllReadyH.nil
          try simp only [Act.put, List.setIfInBounds_toArray, List.set_cons_zero, List.set_cons_succ, List.getElem_toArray, List.getElem_cons_zero, List.getElem_cons_succ]
          go_simp; go_at_call 42; (with_reducible refine (from_p HRD.out he0 he1).mono ?_); rintro e9 w3 ⟨rfl, g3⟩; have v0 := (g3.cells.1 _ _ hlA'').trans z0; have v1 := (g3.cells.1 _ _ hlA'').trans z1; have v2 := (g3.cells.1 _ _ hlA'').trans z2; have v3 := (g3.cells.1 _ _ hlA'').trans z3; have v4 := (g3.cells.1 _ _ hlA'').trans z4; have v5 := (g3.cells.1 _ _ hlD'').trans z5; have v6 := (g3.cells.1 _ _ hlD'').trans z6; have v7 := (g3.cells.1 _ _ hlD'').trans z7; have v8 := (g3.cells.1 _ _ hlD'').trans z8; have v9 := (g3.cells.1 _ _ hlD'').trans z9; have hlA''' := Nat.lt_of_lt_of_le hlA'' g3.size; have hlD''' := Nat.lt_of_lt_of_le hlD'' g3.size; have HG3 := Lib.hid (HG2.out.trans g3); rw [HFR.out]
          refine hK.out _ _ ?_ (fun hHeld => ?_)
          · (try dsimp only); (refine ⟨?_, ?_, ?_, ?_, ?_, ?_, ?_, ?_, ?_, ?_⟩ <;> (repeat (first | (with_reducible assumption) | (with_reducible refine far_drew ?_))))
          clear hK K
          try simp only [Act.put, List.setIfInBounds_toArray, List.set_cons_zero, List.set_cons_succ, List.getElem_toArray, List.getElem_cons_zero, List.getElem_cons_succ]
          first | refine wpAnyH_take (i := 12) (v := undef) rfl (by kernel_rfl) (by kernel_rfl) (by kernel_rfl) (fun _ _ _ h => h) (Or.inr ⟨by rfl, rfl⟩) (by assumption) ?_ | (refine' wpAnyH_take (i := 12) (v := _) rfl (by kernel_rfl) (by kernel_rfl) (by kernel_rfl) (fun _ _ _ h => h) (Or.inl ⟨by rfl, ?hy12b⟩) (by assumption) ?rest12b; case hy12b => (intro w hSw; (try dsimp only at hSw); (first | (go_simp; done) | (go_simp; with_reducible rfl))))
          try simp only [Act.put, List.setIfInBounds_toArray, List.set_cons_zero, List.set_cons_succ, List.getElem_toArray, List.getElem_cons_zero, List.getElem_cons_succ]
          first | refine wpAnyH_take (i := 13) (v := undef) rfl (by kernel_rfl) (by kernel_rfl) (by kernel_rfl) (fun _ _ _ h => h) (Or.inr ⟨by rfl, rfl⟩) (by assumption) ?_ | (refine' wpAnyH_take (i := 13) (v := _) rfl (by kernel_rfl) (by kernel_rfl) (by kernel_rfl) (fun _ _ _ h => h) (Or.inl ⟨by rfl, ?hy13b⟩) (by assumption) ?rest13b; case hy13b => (intro w hSw; (try dsimp only at hSw); (first | (go_simp; done) | (go_simp; with_reducible rfl))))
          try simp only [Act.put, List.setIfInBounds_toArray, List.set_cons_zero, List.set_cons_succ, List.getElem_toArray, List.getElem_cons_zero, List.getElem_cons_succ]
          refine wpAnyH_done (by kernel_rfl) ?_ _
          have HO3 := Lib.hid (HAQ.out _ (((Grew.refl wq).drew.trans g1).trans (g2.trans g3)))
          go_wp2
          exact ⟨⟨i + 1, by go_num, by omega, HE, HO3.out, HG3.out⟩, by simp [intOf] <;> omega⟩
      · have e1 : (!decide (y = d)) = false := by rw [hq]; rfl
        have HE := Lib.hid (HNX.out (by rw [HQ.out, hq]; rfl))
        clear HQ HYE HNX
        refine wp_region_held_drew (S := fun w' => w'.cell? ⟨w.heap.size, 0, none⟩ = some (.int .i64 a.s) ∧ w'.cell? ⟨w.heap.size, 1, none⟩ = some (.int .i64 a.n) ∧ w'.cell? ⟨w.heap.size, 2, none⟩ = some (.int .i64 a.f) ∧ w'.cell? ⟨w.heap.size, 3, none⟩ = some (.int .i64 a.p) ∧ w'.cell? ⟨w.heap.size, 4, none⟩ = some (.bool a.w) ∧ w'.cell? ⟨wo.heap.size, 0, none⟩ = some (.int .i64 d.s) ∧ w'.cell? ⟨wo.heap.size, 1, none⟩ = some (.int .i64 d.n) ∧ w'.cell? ⟨wo.heap.size, 2, none⟩ = some (.int .i64 d.f) ∧ w'.cell? ⟨wo.heap.size, 3, none⟩ = some (.int .i64 d.p) ∧ w'.cell? ⟨wo.heap.size, 4, none⟩ = some (.bool d.w)) (by kernel_rfl) ?_ (fun hHeld => ?_)
        · (try dsimp only); (refine ⟨?_, ?_, ?_, ?_, ?_, ?_, ?_, ?_, ?_, ?_⟩ <;> (repeat (first | (with_reducible assumption) | (with_reducible refine far_drew ?_))))
        first | refine wpAnyH_take (i := 0) (v := undef) rfl (by kernel_rfl) (by kernel_rfl) (by kernel_rfl) (fun _ _ _ h => h) (Or.inr ⟨by rfl, rfl⟩) (by assumption) ?_ | (refine' wpAnyH_take (i := 0) (v := _) rfl (by kernel_rfl) (by kernel_rfl) (by kernel_rfl) (fun _ _ _ h => h) (Or.inl ⟨by rfl, ?hy0c⟩) (by assumption) ?rest0c; case hy0c => (intro w hSw; (try dsimp only at hSw); (first | (go_simp; done) | (go_simp; with_reducible rfl))))
        try simp only [Act.put, List.setIfInBounds_toArray, List.set_cons_zero, List.set_cons_succ, List.getElem_toArray, List.getElem_cons_zero, List.getElem_cons_succ]
        first | refine wpAnyH_take (i := 1) (v := undef) rfl (by kernel_rfl) (by kernel_rfl) (by kernel_rfl) (fun _ _ _ h => h) (Or.inr ⟨by rfl, rfl⟩) (by assumption) ?_ | (refine' wpAnyH_take (i := 1) (v := _) rfl (by kernel_rfl) (by kernel_rfl) (by kernel_rfl) (fun _ _ _ h => h) (Or.inl ⟨by rfl, ?hy1c⟩) (by assumption) ?rest1c; case hy1c => (intro w hSw; (try dsimp only at hSw); (first | (go_simp; done) | (go_simp; with_reducible rfl))))
        try simp only [Act.put, List.setIfInBounds_toArray, List.set_cons_zero, List.set_cons_succ, List.getElem_toArray, List.getElem_cons_zero, List.getElem_cons_succ]
        first | refine wpAnyH_take (i := 2) (v := undef) rfl (by kernel_rfl) (by kernel_rfl) (by kernel_rfl) (fun _ _ _ h => h) (Or.inr ⟨by rfl, rfl⟩) (by assumption) ?_ | (refine' wpAnyH_take (i := 2) (v := _) rfl (by kernel_rfl) (by kernel_rfl) (by kernel_rfl) (fun _ _ _ h => h) (Or.inl ⟨by rfl, ?hy2c⟩) (by assumption) ?rest2c; case hy2c => (intro w hSw; (try dsimp only at hSw); (first | (go_simp; done) | (go_simp; with_reducible rfl))))
        try simp only [Act.put, List.setIfInBounds_toArray, List.set_cons_zero, List.set_cons_succ, List.getElem_toArray, List.getElem_cons_zero, List.getElem_cons_succ]
        first | refine wpAnyH_take (i := 4) (v := undef) rfl (by kernel_rfl) (by kernel_rfl) (by kernel_rfl) (fun _ _ _ h => h) (Or.inr ⟨by rfl, rfl⟩) (by assumption) ?_ | (refine' wpAnyH_take (i := 4) (v := _) rfl (by kernel_rfl) (by kernel_rfl) (by kernel_rfl) (fun _ _ _ h => h) (Or.inl ⟨by rfl, ?hy4c⟩) (by assumption) ?rest4c; case hy4c => (intro w hSw; (try dsimp only at hSw); (first | (go_simp; done) | (go_simp; with_reducible rfl))))
        try simp only [Act.put, List.setIfInBounds_toArray, List.set_cons_zero, List.set_cons_succ, List.getElem_toArray, List.getElem_cons_zero, List.getElem_cons_succ]
        refine wpAnyH_ready (rs := [3]) (by kernel_rfl) (by simp) ?_
        refine AllReadyH.cons rfl (fun K hK => ?_) AllReadyH.nil
        try simp only [Act.put, List.setIfInBounds_toArray, List.set_cons_zero, List.set_cons_succ, List.getElem_toArray, List.getElem_cons_zero, List.getElem_cons_succ]
        go_simp; go_at_call 41; (with_reducible refine (before_p HRD.out hs0 hs1).mono ?_); rintro e9 w1 ⟨rfl, g1⟩; have y0 := (g1.cells.1 _ _ hlA).trans (far_drew x0); have y1 := (g1.cells.1 _ _ hlA).trans (far_drew x1); have y2 := (g1.cells.1 _ _ hlA).trans (far_drew x2); have y3 := (g1.cells.1 _ _ hlA).trans (far_drew x3); have y4 := (g1.cells.1 _ _ hlA).trans (far_drew x4); have y5 := (g1.cells.1 _ _ hlD).trans (far_drew x5); have y6 := (g1.cells.1 _ _ hlD).trans (far_drew x6); have y7 := (g1.cells.1 _ _ hlD).trans (far_drew x7); have y8 := (g1.cells.1 _ _ hlD).trans (far_drew x8); have y9 := (g1.cells.1 _ _ hlD).trans (far_drew x9); have hlA' := Nat.lt_of_lt_of_le hlA g1.size; have hlD' := Nat.lt_of_lt_of_le hlD g1.size; have HG1 := Lib.hid (HG.out.drew.trans g1); rw [HBF.out]
        refine hK.out _ _ ?_ (fun hHeld => ?_)
        · (try dsimp only); (refine ⟨?_, ?_, ?_, ?_, ?_, ?_, ?_, ?_, ?_, ?_⟩ <;> (repeat (first | (with_reducible assumption) | (with_reducible refine far_drew ?_))))
        clear hK K
        try simp only [Act.put, List.setIfInBounds_toArray, List.set_cons_zero, List.set_cons_succ, List.getElem_toArray, List.getElem_cons_zero, List.getElem_cons_succ]
        first | refine wpAnyH_take (i := 5) (v := undef) rfl (by kernel_rfl) (by kernel_rfl) (by kernel_rfl) (fun _ _ _ h => h) (Or.inr ⟨by rfl, rfl⟩) (by assumption) ?_ | (refine' wpAnyH_take (i := 5) (v := _) rfl (by kernel_rfl) (by kernel_rfl) (by kernel_rfl) (fun _ _ _ h => h) (Or.inl ⟨by rfl, ?hy5c⟩) (by assumption) ?rest5c; case hy5c => (intro w hSw; (try dsimp only at hSw); (first | (go_simp; done) | (go_simp; with_reducible rfl))))
        try simp only [Act.put, List.setIfInBounds_toArray, List.set_cons_zero, List.set_cons_succ, List.getElem_toArray, List.getElem_cons_zero, List.getElem_cons_succ]
        first | refine wpAnyH_take (i := 6) (v := undef) rfl (by kernel_rfl) (by kernel_rfl) (by kernel_rfl) (fun _ _ _ h => h) (Or.inr ⟨by rfl, rfl⟩) (by assumption) ?_ | (refine' wpAnyH_take (i := 6) (v := _) rfl (by kernel_rfl) (by kernel_rfl) (by kernel_rfl) (fun _ _ _ h => h) (Or.inl ⟨by rfl, ?hy6c⟩) (by assumption) ?rest6c; case hy6c => (intro w hSw; (try dsimp only at hSw); (first | (go_simp; done) | (go_simp; with_reducible rfl))))
        try simp only [Act.put, List.setIfInBounds_toArray, List.set_cons_zero, List.set_cons_succ, List.getElem_toArray, List.getElem_cons_zero, List.getElem_cons_succ]
        first | refine wpAnyH_take (i := 7) (v := undef) rfl (by kernel_rfl) (by kernel_rfl) (by kernel_rfl) (fun _ _ _ h => h) (Or.inr ⟨by rfl, rfl⟩) (by assumption) ?_ | (refine' wpAnyH_take (i := 7) (v := _) rfl (by kernel_rfl) (by kernel_rfl) (by kernel_rfl) (fun _ _ _ h => h) (Or.inl ⟨by rfl, ?hy7c⟩) (by assumption) ?rest7c; case hy7c => (intro w hSw; (try dsimp only at hSw); (first | (go_simp; done) | (go_simp; with_reducible rfl))))
        try simp only [Act.put, List.setIfInBounds_toArray, List.set_cons_zero, List.set_cons_succ, List.getElem_toArray, List.getElem_cons_zero, List.getElem_cons_succ]
        first | refine wpAnyH_take (i := 8) (v := undef) rfl (by kernel_rfl) (by kernel_rfl) (by kernel_rfl) (fun _ _ _ h => h) (Or.inr ⟨by rfl, rfl⟩) (by assumption) ?_ | (refine' wpAnyH_take (i := 8) (v := _) rfl (by kernel_rfl) (by kernel_rfl) (by kernel_rfl) (fun _ _ _ h => h) (Or.inl ⟨by rfl, ?hy8c⟩) (by assumption) ?rest8c; case hy8c => (intro w hSw; (try dsimp only at hSw); (first | (go_simp; done) | (go_simp; with_reducible rfl))))
        try simp only [Act.put, List.setIfInBounds_toArray, List.set_cons_zero, List.set_cons_succ, List.getElem_toArray, List.getElem_cons_zero, List.getElem_cons_succ]
        first | refine wpAnyH_take (i := 9) (v := undef) rfl (by kernel_rfl) (by kernel_rfl) (by kernel_rfl) (fun _ _ _ h => h) (Or.inr ⟨by rfl, rfl⟩) (by assumption) ?_ | (refine' wpAnyH_take (i := 9) (v := _) rfl (by kernel_rfl) (by kernel_rfl) (by kernel_rfl) (fun _ _ _ h => h) (Or.inl ⟨by rfl, ?hy9c⟩) (by assumption) ?rest9c; case hy9c => (intro w hSw; (try dsimp only at hSw); (first | (go_simp; done) | (go_simp; with_reducible rfl))))
        try simp only [Act.put, List.setIfInBounds_toArray, List.set_cons_zero, List.set_cons_succ, List.getElem_toArray, List.getElem_cons_zero, List.getElem_cons_succ]
        first | refine wpAnyH_take (i := 10) (v := undef) rfl (by kernel_rfl) (by kernel_rfl) (by kernel_rfl) (fun _ _ _ h => h) (Or.inr ⟨by rfl, rfl⟩) (by assumption) ?_ | (refine' wpAnyH_take (i := 10) (v := _) rfl (by kernel_rfl) (by kernel_rfl) (by kernel_rfl) (fun _ _ _ h => h) (Or.inl ⟨by rfl, ?hy10c⟩) (by assumption) ?rest10c; case hy10c => (intro w hSw; (try dsimp only at hSw); (first | (go_simp; done) | (go_simp; with_reducible rfl))))
        try simp only [Act.put, List.setIfInBounds_toArray, List.set_cons_zero, List.set_cons_succ, List.getElem_toArray, List.getElem_cons_zero, List.getElem_cons_succ]
        first | refine wpAnyH_take (i := 11) (v := undef) rfl (by kernel_rfl) (by kernel_rfl) (by kernel_rfl) (fun _ _ _ h => h) (Or.inr ⟨by rfl, rfl⟩) (by assumption) ?_ | (refine' wpAnyH_take (i := 11) (v := _) rfl (by kernel_rfl) (by kernel_rfl) (by kernel_rfl) (fun _ _ _ h => h) (Or.inl ⟨by rfl, ?hy11c⟩) (by assumption) ?rest11c; case hy11c => (intro w hSw; (try dsimp only at hSw); (first | (go_simp; done) | (go_simp; with_reducible rfl))))
        try simp only [Act.put, List.setIfInBounds_toArray, List.set_cons_zero, List.set_cons_succ, List.getElem_toArray, List.getElem_cons_zero, List.getElem_cons_succ]
        first | refine wpAnyH_take (i := 12) (v := undef) rfl (by kernel_rfl) (by kernel_rfl) (by kernel_rfl) (fun _ _ _ h => h) (Or.inr ⟨by rfl, rfl⟩) (by assumption) ?_ | (refine' wpAnyH_take (i := 12) (v := _) rfl (by kernel_rfl) (by kernel_rfl) (by kernel_rfl) (fun _ _ _ h => h) (Or.inl ⟨by rfl, ?hy12c⟩) (by assumption) ?rest12c; case hy12c => (intro w hSw; (try dsimp only at hSw); (first | (go_simp; done) | (go_simp; with_reducible rfl))))
        try simp only [Act.put, List.setIfInBounds_toArray, List.set_cons_zero, List.set_cons_succ, List.getElem_toArray, List.getElem_cons_zero, List.getElem_cons_succ]
        first | refine wpAnyH_take (i := 13) (v := undef) rfl (by kernel_rfl) (by kernel_rfl) (by kernel_rfl) (fun _ _ _ h => h) (Or.inr ⟨by rfl, rfl⟩) (by assumption) ?_ | (refine' wpAnyH_take (i := 13) (v := _) rfl (by kernel_rfl) (by kernel_rfl) (by kernel_rfl) (fun _ _ _ h => h) (Or.inl ⟨by rfl, ?hy13c⟩) (by assumption) ?rest13c; case hy13c => (intro w hSw; (try dsimp only at hSw); (first | (go_simp; done) | (go_simp; with_reducible rfl))))
        try simp only [Act.put, List.setIfInBounds_toArray, List.set_cons_zero, List.set_cons_succ, List.getElem_toArray, List.getElem_cons_zero, List.getElem_cons_succ]
        refine wpAnyH_done (by kernel_rfl) ?_ _
        have HO1 := Lib.hid (HAQ.out _ ((Grew.refl wq).drew.trans g1))
        go_wp2
        exact ⟨⟨i + 1, by go_num, by omega, HE, HO1.out, HG1.out⟩, by simp [intOf] <;> omega⟩
    · obtain rfl : i = n := by omega
      have HE : Hid (b = false) := Lib.hid (by rw [← HB.out]; exact ovR_no.2 (by rw [HN.out]; exact HK.out))
      go_wp2
      go_ret
      exact ⟨ret_bool HE.out.symm, G⟩
end Go.Proofs.Ytnlhdbengppnpaa

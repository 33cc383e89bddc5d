/- Dirty files by age (layer 15): merged, without of the program. -/
import Derived.Test.YtmdechoajmbhoaaAg3
import Derived.Deep.LoopGhost
import Derived.WalkMore
namespace Go.Proofs.Ytmdechoajmbhoaa
open Go.RowKit Go.Mine

set_option maxRecDepth 100000 in
set_option maxHeartbeats 8000000 in
theorem merged_p {B : Nat} {v u : Value} {L K : List Du} {w : World} (h : RdS 2 enc2 w B v L) (k : RdS 2 enc2 w B u K) (ha : AheadA L K) (hl : L.length + K.length ≤ 1000) : Calls Try.prog 28 #[v, u] w (RetA (L ++ K) w) := by
  have HA := Lib.hid ha
  clear ha
  go_enter Try.func28, Try.ntmps28
  go_wp2_with fail
  go_step3
  go_wp2_with fail
  go_step3
  go_wp2_with fail
  go_loopg [0, 1, 5] (L.length + K.length) (fun gh fv sv lv wr => ∃ (F S M : List Du) (f1 s1 r : Value), f1 = fv ∧ s1 = sv ∧ r = lv ∧ gh = F.length + S.length ∧ RdS 2 enc2 w B f1 F ∧ RdS 2 enc2 w B s1 S ∧ RowE 44 2 enc2 wr w.heap.size r M ∧ Hid (M ++ F ++ S = L ++ K) ∧ AheadA F S ∧ M.length + F.length + S.length ≤ 1000 ∧ Grew w wr)
  case atStart => exact ⟨L, K, [], _, _, _, rfl, rfl, rfl, rfl, h, k, RowE.nil _ _, Lib.hid rfl, HA.out, by simp; omega, Grew.refl _⟩
  case round =>
    obtain ⟨F, S, M, fv, sv, lv, rfl, rfl, rfl, rfl, hF, hS, R, HE, hA, hlen, G⟩ := hrel
    obtain ⟨wo, rfl⟩ : ∃ wo : World, wo = wr := ⟨_, rfl⟩
    clear h k HA hl
    obtain ⟨a1, c1, rfl, hc1, hm1⟩ := hF.slice
    obtain ⟨a2, c2, rfl, hc2, hm2⟩ := hS.slice
    have HF := Lib.hid hF
    have HS := Lib.hid hS
    have HR := Lib.hid R
    have HG := Lib.hid G
    have HAA := Lib.hid hA
    clear hF hS R G hA
    cases F with
    | nil =>
      cases S with
      | nil =>
        simp only [List.length_nil] at *
        have HE2 : Hid (M = L ++ K) := Lib.hid (by have := HE.out; simpa using this)
        go_wp2
        go_quiet (fail)
        revert nq; intro nq1
        go_wp2
        rw [Exit.noGoto_ret]
        go_ret
        exact ⟨_, rfl, by rw [← HE2.out]; exact RowE.rdS enc2_len HR.out, HG.out.drewN _⟩
      | cons y S =>
        obtain ⟨m2, hm⟩ : ∃ m, S.length = m := ⟨_, rfl⟩
        have HM := Lib.hid hm
        simp only [List.length_nil, List.length_cons] at *
        rw [hm] at hc2 hlen HS ⊢
        clear hm
        go_wp2
        go_quiet (fail)
        revert nq; intro nq1
        go_wp2
        have HRQ := Lib.hid (HR.out.drewN nq1)
        have HGQ := Lib.hid (HG.out.drewN nq1)
        clear HR HG
        generalize wo.drewN nq1 = wq at *
        obtain ⟨g, o, rfl, hBg, hg, d0, d1⟩ := HS.out.at2 (k := 0) (Nat.succ_pos _)
        simp only [List.getD_cons_zero, Nat.zero_mul, Nat.add_zero] at d0 d1
        obtain ⟨ef, es⟩ := y
        simp only at d0 d1
        have hx6 : M.length < 1000000 := by omega
        have hz : ∀ ob, w.heap.size ≤ (wq.drew.alloc ob).heap.size := fun ob => Nat.le_trans HGQ.out.size (by simp)
        have HD0 := Lib.hid d0
        have HD1 := Lib.hid d1
        replace d0 := (HGQ.out.cells.1 g o hg).trans d0
        replace d1 := (HGQ.out.cells.1 g (o + 1) hg).trans d1
        have hgq := Nat.lt_of_lt_of_le hg HGQ.out.size
        have HMM := Lib.hid hlen
        have hb1 : (1 : Int) ≤ (m2 : Int) + 1 := by omega
        clear hlen
        rcases (show c2 = 1 ∨ ∃ c', c2 = c' + 2 from by rcases Nat.eq_or_lt_of_le (show 1 ≤ c2 by omega) with h | h; exact .inl h.symm; exact .inr ⟨c2 - 2, by omega⟩) with rfl | ⟨c', rfl⟩
        rotate_left
        · have HN := Lib.hid (RdS.drop HS.out (k := 1) (Nat.succ_le_succ (Nat.zero_le _)))
          simp only [Nat.one_mul, Nat.add_sub_cancel, List.drop_succ_cons, List.drop_zero] at HN
          go_region_held3 (fun w' => w'.cell? ⟨g, o, none⟩ = some (.int .i64 ef) ∧ w'.cell? ⟨g, o + 1, none⟩ = some (.int .i64 es))
            (refine ⟨?_, ?_⟩ <;> (repeat (first | (with_reducible assumption) | (with_reducible refine far_drew ?_) | (with_reducible refine far_alloc ?_) | (with_reducible refine far_cell (by simp; omega) ?_))))
            (first
              | (refine step_append_row (by rfl) (.tmp 38) (.tmp 42) 26 (by rfl) w.heap.size info_due Try.underlying26 (by decide) (by decide) enc2_len lv M (by rfl) (HRQ.out.drew.alloc _) _ _ (ef, es) (by rfl) (Own.new _ _ _) enc2_one hx6 (by decide) (hz _) ?_
                 intro g2 cap2 w2 R2 G2 o2
                 have HR2 := Lib.hid R2
                 have HG2 := Lib.hid (Grew.keptA (B := w.heap.size) (HGQ.out.drew.alloc _) G2 (fun x e => HRQ.out.above x e) (Nat.le_refl _))
                 have E0 := (HG2.out.cells.1 g o hg).trans HD0.out
                 have E1 := (HG2.out.cells.1 g (o + 1) hg).trans HD1.out
                 clear o2 R2 G2))
          go_wp2
          go_roundg (0 + S.length)
          case measure => simp
          case rel => exact ⟨[], S, M ++ [(ef, es)], _, _, _, rfl, rfl, rfl, by simp, HF.out, HN.out, HR2.out, Lib.hid (by rw [← HE.out]; simp), fun x hx => absurd hx (by simp), by have := HMM.out; have := HM.out; simp; omega, HG2.out⟩
        · have hm0 : m2 = 0 := by omega
          subst hm0
          have HN : Hid (RdS 2 enc2 w B (.slice (some ⟨g, o, none⟩) 0 0) S) := Lib.hid (by
            have h0 := List.length_eq_zero_iff.1 HM.out
            rw [h0]
            exact RdS.nil _ _ _ _ (Nat.zero_le _))
          go_region_held3 (fun w' => w'.cell? ⟨g, o, none⟩ = some (.int .i64 ef) ∧ w'.cell? ⟨g, o + 1, none⟩ = some (.int .i64 es))
            (refine ⟨?_, ?_⟩ <;> (repeat (first | (with_reducible assumption) | (with_reducible refine far_drew ?_) | (with_reducible refine far_alloc ?_) | (with_reducible refine far_cell (by simp; omega) ?_))))
            (first
              | (refine step_append_row (by rfl) (.tmp 38) (.tmp 42) 26 (by rfl) w.heap.size info_due Try.underlying26 (by decide) (by decide) enc2_len lv M (by rfl) (HRQ.out.drew.alloc _) _ _ (ef, es) (by rfl) (Own.new _ _ _) enc2_one hx6 (by decide) (hz _) ?_
                 intro g2 cap2 w2 R2 G2 o2
                 have HR2 := Lib.hid R2
                 have HG2 := Lib.hid (Grew.keptA (B := w.heap.size) (HGQ.out.drew.alloc _) G2 (fun x e => HRQ.out.above x e) (Nat.le_refl _))
                 have E0 := (HG2.out.cells.1 g o hg).trans HD0.out
                 have E1 := (HG2.out.cells.1 g (o + 1) hg).trans HD1.out
                 clear o2 R2 G2))
          go_wp2
          go_roundg (0 + S.length)
          case measure => simp
          case rel => exact ⟨[], S, M ++ [(ef, es)], _, _, _, rfl, rfl, rfl, by simp, HF.out, HN.out, HR2.out, Lib.hid (by rw [← HE.out]; simp), fun x hx => absurd hx (by simp), by have := HMM.out; have := HM.out; simp; omega, HG2.out⟩
    | cons x F =>
      obtain ⟨m1, hm⟩ : ∃ m, F.length = m := ⟨_, rfl⟩
      have HM1 := Lib.hid hm
      simp only [List.length_cons] at *
      rw [hm] at hc1 hlen HF ⊢
      clear hm
      cases S with
      | nil =>
        simp only [List.length_nil] at *
        go_wp2
        go_quiet (fail)
        revert nq; intro nq1
        go_wp2
        have HRQ := Lib.hid (HR.out.drewN nq1)
        have HGQ := Lib.hid (HG.out.drewN nq1)
        clear HR HG
        generalize wo.drewN nq1 = wq at *
        obtain ⟨g, o, rfl, hBg, hg, d0, d1⟩ := HF.out.at2 (k := 0) (Nat.succ_pos _)
        simp only [List.getD_cons_zero, Nat.zero_mul, Nat.add_zero] at d0 d1
        obtain ⟨ef, es⟩ := x
        simp only at d0 d1
        have hx6 : M.length < 1000000 := by omega
        have hz : ∀ ob, w.heap.size ≤ (wq.drew.alloc ob).heap.size := fun ob => Nat.le_trans HGQ.out.size (by simp)
        have HD0 := Lib.hid d0
        have HD1 := Lib.hid d1
        replace d0 := (HGQ.out.cells.1 g o hg).trans d0
        replace d1 := (HGQ.out.cells.1 g (o + 1) hg).trans d1
        have hgq := Nat.lt_of_lt_of_le hg HGQ.out.size
        have HMM := Lib.hid hlen
        have hb1 : (1 : Int) ≤ (m1 : Int) + 1 := by omega
        clear hlen
        rcases (show c1 = 1 ∨ ∃ c', c1 = c' + 2 from by rcases Nat.eq_or_lt_of_le (show 1 ≤ c1 by omega) with h | h; exact .inl h.symm; exact .inr ⟨c1 - 2, by omega⟩) with rfl | ⟨c', rfl⟩
        rotate_left
        · have HN := Lib.hid (RdS.drop HF.out (k := 1) (Nat.succ_le_succ (Nat.zero_le _)))
          simp only [Nat.one_mul, Nat.add_sub_cancel, List.drop_succ_cons, List.drop_zero] at HN
          go_region_held3 (fun w' => w'.cell? ⟨g, o, none⟩ = some (.int .i64 ef) ∧ w'.cell? ⟨g, o + 1, none⟩ = some (.int .i64 es))
            (refine ⟨?_, ?_⟩ <;> (repeat (first | (with_reducible assumption) | (with_reducible refine far_drew ?_) | (with_reducible refine far_alloc ?_) | (with_reducible refine far_cell (by simp; omega) ?_))))
            (first
              | (refine step_append_row (by rfl) (.tmp 26) (.tmp 30) 26 (by rfl) w.heap.size info_due Try.underlying26 (by decide) (by decide) enc2_len lv M (by rfl) (HRQ.out.drew.alloc _) _ _ (ef, es) (by rfl) (Own.new _ _ _) enc2_one hx6 (by decide) (hz _) ?_
                 intro g2 cap2 w2 R2 G2 o2
                 have HR2 := Lib.hid R2
                 have HG2 := Lib.hid (Grew.keptA (B := w.heap.size) (HGQ.out.drew.alloc _) G2 (fun x e => HRQ.out.above x e) (Nat.le_refl _))
                 have E0 := (HG2.out.cells.1 g o hg).trans HD0.out
                 have E1 := (HG2.out.cells.1 g (o + 1) hg).trans HD1.out
                 clear o2 R2 G2))
          go_wp2
          go_roundg (F.length + 0)
          case measure => simp <;> omega
          case rel => exact ⟨F, [], M ++ [(ef, es)], _, _, _, rfl, rfl, rfl, by simp, HN.out, HS.out, HR2.out, Lib.hid (by rw [← HE.out]; simp), HAA.out.sub (fun d hd => List.mem_cons_of_mem _ hd), by have := HMM.out; have := HM1.out; simp; omega, HG2.out⟩
        · have hm0 : m1 = 0 := by omega
          subst hm0
          have HN : Hid (RdS 2 enc2 w B (.slice (some ⟨g, o, none⟩) 0 0) F) := Lib.hid (by
            have h0 := List.length_eq_zero_iff.1 HM1.out
            rw [h0]
            exact RdS.nil _ _ _ _ (Nat.zero_le _))
          go_region_held3 (fun w' => w'.cell? ⟨g, o, none⟩ = some (.int .i64 ef) ∧ w'.cell? ⟨g, o + 1, none⟩ = some (.int .i64 es))
            (refine ⟨?_, ?_⟩ <;> (repeat (first | (with_reducible assumption) | (with_reducible refine far_drew ?_) | (with_reducible refine far_alloc ?_) | (with_reducible refine far_cell (by simp; omega) ?_))))
            (first
              | (refine step_append_row (by rfl) (.tmp 26) (.tmp 30) 26 (by rfl) w.heap.size info_due Try.underlying26 (by decide) (by decide) enc2_len lv M (by rfl) (HRQ.out.drew.alloc _) _ _ (ef, es) (by rfl) (Own.new _ _ _) enc2_one hx6 (by decide) (hz _) ?_
                 intro g2 cap2 w2 R2 G2 o2
                 have HR2 := Lib.hid R2
                 have HG2 := Lib.hid (Grew.keptA (B := w.heap.size) (HGQ.out.drew.alloc _) G2 (fun x e => HRQ.out.above x e) (Nat.le_refl _))
                 have E0 := (HG2.out.cells.1 g o hg).trans HD0.out
                 have E1 := (HG2.out.cells.1 g (o + 1) hg).trans HD1.out
                 clear o2 R2 G2))
          go_wp2
          go_roundg (F.length + 0)
          case measure => simp <;> omega
          case rel => exact ⟨F, [], M ++ [(ef, es)], _, _, _, rfl, rfl, rfl, by simp, HN.out, HS.out, HR2.out, Lib.hid (by rw [← HE.out]; simp), HAA.out.sub (fun d hd => List.mem_cons_of_mem _ hd), by have := HMM.out; have := HM1.out; simp; omega, HG2.out⟩
      | cons y S =>
        obtain ⟨m2, hm⟩ : ∃ m, S.length = m := ⟨_, rfl⟩
        have HM := Lib.hid hm
        simp only [List.length_cons] at *
        rw [hm] at hc2 hlen HS ⊢
        have hxy := HAA.out x (List.mem_cons_self ..) y (List.mem_cons_self ..)
        obtain ⟨p, q, rfl, -, hp, -, b1⟩ := HS.out.at2 (k := 0) (Nat.succ_pos _)
        simp only [List.getD_cons_zero, Nat.zero_mul, Nat.add_zero] at b1
        replace b1 := (HG.out.cells.1 p (q + 1) hp).trans b1
        have hpq := Nat.lt_of_lt_of_le hp HG.out.size
        obtain ⟨p', q', e9, -, hp', -, b2⟩ := HF.out.at2 (k := 0) (Nat.succ_pos _)
        subst e9
        simp only [List.getD_cons_zero, Nat.zero_mul, Nat.add_zero] at b2
        replace b2 := (HG.out.cells.1 p' (q' + 1) hp').trans b2
        have hpq' := Nat.lt_of_lt_of_le hp' HG.out.size
        have HY := Lib.hid (show y.2 = y.2 from rfl)
        obtain ⟨x1, x2⟩ := x
        obtain ⟨y1, y2⟩ := y
        simp only at b1 b2 hxy
        have t1 : decide (x2 ≤ y2) = true := decide_eq_true hxy
        clear hm
        go_wp2
        go_quiet (fail)
        revert nq; intro nq1
        clear b1 b2 hpq hpq'
        go_wp2
        have HRQ := Lib.hid (HR.out.drewN nq1)
        have HGQ := Lib.hid (HG.out.drewN nq1)
        clear HR HG
        generalize wo.drewN nq1 = wq at *
        obtain ⟨g, o, e9, hBg, hg, d0, d1⟩ := HF.out.at2 (k := 0) (Nat.succ_pos _)
        simp only [List.getD_cons_zero, Nat.zero_mul, Nat.add_zero] at d0 d1
        obtain ⟨ef, es, rfl, rfl⟩ : ∃ ef es, ef = x1 ∧ es = x2 := ⟨_, _, rfl, rfl⟩
        injection e9 with e9
        injection e9 with e9 e8
        replace e9 := e9.symm
        replace e8 := e8.symm
        subst e9 e8
        try simp only at d0 d1
        have hx6 : M.length < 1000000 := by omega
        have hz : ∀ ob, w.heap.size ≤ (wq.drew.alloc ob).heap.size := fun ob => Nat.le_trans HGQ.out.size (by simp)
        have HD0 := Lib.hid d0
        have HD1 := Lib.hid d1
        replace d0 := (HGQ.out.cells.1 g o hg).trans d0
        replace d1 := (HGQ.out.cells.1 g (o + 1) hg).trans d1
        have hgq := Nat.lt_of_lt_of_le hg HGQ.out.size
        have HMM := Lib.hid hlen
        have hb1 : (1 : Int) ≤ (m1 : Int) + 1 := by omega
        clear hlen
        rcases (show c1 = 1 ∨ ∃ c', c1 = c' + 2 from by rcases Nat.eq_or_lt_of_le (show 1 ≤ c1 by omega) with h | h; exact .inl h.symm; exact .inr ⟨c1 - 2, by omega⟩) with rfl | ⟨c', rfl⟩
        rotate_left
        · have HN := Lib.hid (RdS.drop HF.out (k := 1) (Nat.succ_le_succ (Nat.zero_le _)))
          simp only [Nat.one_mul, Nat.add_sub_cancel, List.drop_succ_cons, List.drop_zero] at HN
          go_region_held3 (fun w' => w'.cell? ⟨g, o, none⟩ = some (.int .i64 ef) ∧ w'.cell? ⟨g, o + 1, none⟩ = some (.int .i64 es))
            (refine ⟨?_, ?_⟩ <;> (repeat (first | (with_reducible assumption) | (with_reducible refine far_drew ?_) | (with_reducible refine far_alloc ?_) | (with_reducible refine far_cell (by simp; omega) ?_))))
            (first
              | (refine step_append_row (by rfl) (.tmp 26) (.tmp 30) 26 (by rfl) w.heap.size info_due Try.underlying26 (by decide) (by decide) enc2_len lv M (by rfl) (HRQ.out.drew.alloc _) _ _ (ef, es) (by rfl) (Own.new _ _ _) enc2_one hx6 (by decide) (hz _) ?_
                 intro g2 cap2 w2 R2 G2 o2
                 have HR2 := Lib.hid R2
                 have HG2 := Lib.hid (Grew.keptA (B := w.heap.size) (HGQ.out.drew.alloc _) G2 (fun x e => HRQ.out.above x e) (Nat.le_refl _))
                 have E0 := (HG2.out.cells.1 g o hg).trans HD0.out
                 have E1 := (HG2.out.cells.1 g (o + 1) hg).trans HD1.out
                 clear o2 R2 G2))
          go_wp2
          go_roundg (F.length + (S.length + 1))
          case measure => simp <;> omega
          case rel => exact ⟨F, ((y1, y2) :: S), M ++ [(ef, es)], _, _, _, rfl, rfl, rfl, by simp, HN.out, HS.out, HR2.out, Lib.hid (by rw [← HE.out]; simp), HAA.out.sub (fun d hd => List.mem_cons_of_mem _ hd), by have := HMM.out; have := HM1.out; have := HM.out; simp; omega, HG2.out⟩
        · have hm0 : m1 = 0 := by omega
          subst hm0
          have HN : Hid (RdS 2 enc2 w B (.slice (some ⟨g, o, none⟩) 0 0) F) := Lib.hid (by
            have h0 := List.length_eq_zero_iff.1 HM1.out
            rw [h0]
            exact RdS.nil _ _ _ _ (Nat.zero_le _))
          go_region_held3 (fun w' => w'.cell? ⟨g, o, none⟩ = some (.int .i64 ef) ∧ w'.cell? ⟨g, o + 1, none⟩ = some (.int .i64 es))
            (refine ⟨?_, ?_⟩ <;> (repeat (first | (with_reducible assumption) | (with_reducible refine far_drew ?_) | (with_reducible refine far_alloc ?_) | (with_reducible refine far_cell (by simp; omega) ?_))))
            (first
              | (refine step_append_row (by rfl) (.tmp 26) (.tmp 30) 26 (by rfl) w.heap.size info_due Try.underlying26 (by decide) (by decide) enc2_len lv M (by rfl) (HRQ.out.drew.alloc _) _ _ (ef, es) (by rfl) (Own.new _ _ _) enc2_one hx6 (by decide) (hz _) ?_
                 intro g2 cap2 w2 R2 G2 o2
                 have HR2 := Lib.hid R2
                 have HG2 := Lib.hid (Grew.keptA (B := w.heap.size) (HGQ.out.drew.alloc _) G2 (fun x e => HRQ.out.above x e) (Nat.le_refl _))
                 have E0 := (HG2.out.cells.1 g o hg).trans HD0.out
                 have E1 := (HG2.out.cells.1 g (o + 1) hg).trans HD1.out
                 clear o2 R2 G2))
          go_wp2
          go_roundg (F.length + (S.length + 1))
          case measure => simp <;> omega
          case rel => exact ⟨F, ((y1, y2) :: S), M ++ [(ef, es)], _, _, _, rfl, rfl, rfl, by simp, HN.out, HS.out, HR2.out, Lib.hid (by rw [← HE.out]; simp), HAA.out.sub (fun d hd => List.mem_cons_of_mem _ hd), by have := HMM.out; have := HM1.out; have := HM.out; simp; omega, HG2.out⟩
set_option maxHeartbeats 4000000 in
theorem without_p {B : Nat} {v : Value} {L : List Du} {w : World} {f : Int} (h : RdS 2 enc2 w B v L) (hs : L.length ≤ 1000) (hok : okA L = true) (hf : hasA L f = true) : Calls Try.prog 32 #[v, .int .i64 f] w (RetA (outA L f) w) := by
  have HP := Lib.hid (pos_p (f := f) h hs)
  have HH := Lib.hid h
  obtain ⟨a, c, rfl, hc, hm⟩ := h.slice
  have HOK := Lib.hid hok
  have HF := Lib.hid hf
  obtain ⟨n, hn⟩ : ∃ n, L.length = n := ⟨_, rfl⟩
  have HN := Lib.hid hn
  rw [hn] at HP HH hc hs ⊢
  clear h hok hf hn
  go_enter Try.func32, Try.ntmps32
  go_wp2_with fail
  with_reducible refine HP.out.mono ?_
  rintro e w1 ⟨j, rfl, g1, ⟨rfl, hj⟩ | ⟨m, rfl, hm2, hj⟩⟩
  · exact absurd (HF.out.symm.trans hj) (by decide)
  · have HE := Lib.hid (outA_cut HOK.out hm2 hj)
    have HA := Lib.hid (ahead_cut HOK.out m)
    have hm3 : m < n := by rw [← HN.out]; exact hm2
    obtain ⟨g, o, rfl, -, hg, -, -⟩ := (HH.out.grew g1).at2 hm2
    have HD := Lib.hid (RdS.drop (HH.out.grew g1) (k := m + 1) (by omega))
    have HDA := Lib.hid (fun a' c' h => RdS.dropAll (HH.out.grew g1) (a' := a') (c' := c') h (k := m + 1))
    have HT := Lib.hid (RdS.take (HH.out.grew g1) (k := m) (by omega))
    have HL := Lib.hid (show (L.take m).length + (L.drop (m + 1)).length ≤ 1000 by rw [List.length_take, List.length_drop]; have := HN.out; omega)
    have hi0 : (0 : Int) ≤ (m : Int) := by omega
    have hi1 : (m : Int) ≤ (c : Int) := by omega
    have hi2 : (m : Int) + 1 ≤ (n : Int) := by omega
    have hi3 : IntKind.i64.wrap ((m : Int) + 1) = (m : Int) + 1 := IntWalk.i64_in _ (by omega)
    have hi4 : (0 : Int) ≤ (m : Int) + 1 := by omega
    have HG := Lib.hid g1
    clear HP HH hj hm2 g1
    go_upto_region 2 with fail
    by_cases hcz : c = m + 1
    · have hnz : n - (m + 1) = 0 := by omega
      have hcc : c - (m + 1) = 0 := by omega
      have HM := Lib.hid (fun w (G : Grew w1 w) => merged_p (HT.out.grew G) ((HDA.out (some ⟨g, o, none⟩) 0 (Nat.zero_le _) (by have := HN.out; omega)).grew G) HA.out HL.out)
      have HZ := Lib.hid (And.intro hcz (And.intro hnz hcc))
      clear HD HDA HT HA HL hcz hnz hcc
      go_still_tail 7, (by kernel_rfl)
      change wpList _ _ _ _ _ w1.drew
      rw [if_pos HZ.out.1, HZ.out.2.1, HZ.out.2.2]
      go_wp2_with fail
      with_reducible refine (HM.out _ (Grew.refl w1).drew).mono ?_
      rintro e w2 ⟨v2, rfl, R2, g2⟩
      have HR2 := Lib.hid R2
      have HG2 := Lib.hid (HG.out.drew.trans g2)
      clear R2 g2
      go_wp2
      go_ret
      exact ⟨_, rfl, by rw [HE.out]; exact HR2.out.wider HG.out.size, HG2.out⟩
    · have HM := Lib.hid (fun w (G : Grew w1 w) => merged_p (HT.out.grew G) (HD.out.grew G) HA.out HL.out)
      have HZ := Lib.hid hcz
      clear HD HDA HT HA HL hcz
      go_still_tail 7, (by kernel_rfl)
      change wpList _ _ _ _ _ w1.drew
      rw [if_neg HZ.out]
      go_wp2_with fail
      with_reducible refine (HM.out _ (Grew.refl w1).drew).mono ?_
      rintro e w2 ⟨v2, rfl, R2, g2⟩
      have HR2 := Lib.hid R2
      have HG2 := Lib.hid (HG.out.drew.trans g2)
      clear R2 g2
      go_wp2
      go_ret
      exact ⟨_, rfl, by rw [HE.out]; exact HR2.out.wider HG.out.size, HG2.out⟩
end Go.Proofs.Ytmdechoajmbhoaa

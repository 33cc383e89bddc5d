/- Areas (layer 16): Map, Unmap of the answer. -/
import Derived.Test.YtnlhdbengppnpaaAq1
namespace Go.Mine
open Go Go.RowKit
theorem Own.new3 (w : World) (o o' : Obj) (t : TypeId) (cs : Array Value) : Own (((w.alloc o).alloc o').alloc (.cells cs t)) (w.heap.size + 2) t cs := by
  have h := Own.new ((w.alloc o).alloc o') t cs
  rwa [World.size_alloc, World.size_alloc] at h
end Go.Mine
namespace Go.Proofs.Ytnlhdbengppnpaa
open Go.RowKit Go.Mine

set_option maxRecDepth 100000 in
set_option maxHeartbeats 8000000 in
theorem map_q {B : Nat} {v : Value} {L : List Ar} {a : Ar} {w : World} (h : RdS 5 enc5 w B v L) (hB : B ≤ w.heap.size) (hs : L.length ≤ 1000) : Calls Try.prog 11 #[v, arV a] w (RetRE B (mapR L a) w) := by
  have HH := Lib.hid h
  have HA0 := Lib.hid (h.alloc (.cells #[.int .i64 a.s, .int .i64 a.n, .int .i64 a.f, .int .i64 a.p, .bool a.w] 30))
  have HO := Lib.hid (Own.new w 30 #[.int .i64 a.s, .int .i64 a.n, .int .i64 a.f, .int .i64 a.p, .bool a.w])
  have HG := Lib.hid ((Grew.refl w).alloc (.cells #[.int .i64 a.s, .int .i64 a.n, .int .i64 a.f, .int .i64 a.p, .bool a.w] 30))
  have HB := Lib.hid hB
  clear h hB
  cases h1 : okR L
  · have HX := Lib.hid (mapR_e (eM_1 (a := a) h1) (by decide))
    have H1 := Lib.hid h1
    clear h1
    go_enter Try.func11, Try.ntmps11
    go_wp2_with fail
    with_reducible refine (check_q HA0.out hs H1.out).mono ?_
    rintro e9 w1 ⟨rfl, g1⟩
    have HG1 := Lib.hid (HG.out.trans g1)
    clear g1
    go_wp2
    refine bodyPost_ret (v := .tuple #[v, .int .i64 1]) (by simp [results, Try.results11, go_sem]) rfl ?_
    exact ⟨v, by rw [HX.out], by rw [HX.out]; exact HH.out.grew HG1.out, HG1.out⟩
  have H1 := Lib.hid h1
  cases h2 : rtA a
  · have HX := Lib.hid (mapR_e (eM_2 h1 h2) (by decide))
    have H2 := Lib.hid h2
    clear h1 h2
    go_enter Try.func11, Try.ntmps11
    go_wp2_with fail
    with_reducible refine (check_q HA0.out hs H1.out).mono ?_
    rintro e9 w1 ⟨rfl, g1⟩
    have HG1 := Lib.hid (HG.out.trans g1)
    obtain ⟨x0, x1, x2, x3, x4⟩ := (HO.out.grew g1).five
    clear g1
    go_wp2_with fail
    with_reducible refine (right_q H2.out).mono ?_
    rintro e9 w2 ⟨rfl, g2⟩
    have HG2 := Lib.hid (HG1.out.trans g2)
    clear g2
    go_wp2
    refine bodyPost_ret (v := .tuple #[v, .int .i64 2]) (by simp [results, Try.results11, go_sem]) rfl ?_
    exact ⟨v, by rw [HX.out], by rw [HX.out]; exact HH.out.grew HG2.out, HG2.out⟩
  have H2 := Lib.hid h2
  have h8 := (okR_iff.1 h1).1
  have ra := rtA_iff.1 h2
  obtain ⟨bb, hb⟩ : ∃ bb, ovR L a = bb := ⟨_, rfl⟩
  have HBB := Lib.hid hb
  obtain ⟨a0, c, rfl, -, -⟩ := HH.out.slice
  have HC := Lib.hid (check_q HA0.out hs H1.out)
  obtain ⟨n, hn⟩ : ∃ n, L.length = n := ⟨_, rfl⟩
  have HN := Lib.hid hn
  have hwa : IntKind.i64.wrap (a.s + a.n) = a.s + a.n := IntWalk.i64_in _ (by omega)
  have hlr : ∀ r, mapR L a = r → Hid (mapR L a = r) := fun r h => Lib.hid h
  have HM5 : Hid (bb = true → mapR L a = (L, 5)) := Lib.hid (fun h => mapR_e (eM_5 H1.out H2.out (HBB.out.trans h)) (by decide))
  have HM3 : Hid (bb = false → n = 8 → mapR L a = (L, 3)) := Lib.hid (fun h h8 => mapR_e (eM_3 H1.out H2.out (HBB.out.trans h) (HN.out.trans h8)) (by decide))
  have HM0 : Hid (bb = false → ¬n = 8 → mapR L a = (insR L a, 0)) := Lib.hid (fun h h8 => mapR_0 (eM_0 H1.out H2.out (HBB.out.trans h) (fun h => h8 (HN.out.symm.trans h))))
  clear hlr
  rw [hn] at HH HC HA0 hs h8 ⊢
  have hn8 : (n : Int) ≤ 8 := by omega
  clear hn h1 h2 hb
  go_enter Try.func11, Try.ntmps11
  go_wp2_with fail
  with_reducible refine HC.out.mono ?_
  rintro e9 w1 ⟨rfl, g1⟩
  have HG1 := Lib.hid (HG.out.trans g1)
  have HO1 := Lib.hid (HO.out.grew g1)
  obtain ⟨x0, x1, x2, x3, x4⟩ := HO1.out.five
  clear g1 HC HO HG HA0
  go_wp2_with fail
  with_reducible refine (right_q H2.out).mono ?_
  rintro e9 w2 ⟨rfl, g2⟩
  have HG2 := Lib.hid (HG1.out.trans g2)
  have HO2 := Lib.hid (HO1.out.grew g2)
  clear g2 HG1 HO1 x0 x1 x2 x3 x4
  go_wp2_with fail
  go_loopw [6] (fun iv wr => ∃ (i : Nat), iv = .int .i64 i ∧ i ≤ n ∧ Hid (∀ j, j < i → ovA (L.getD j zR) a = false) ∧ Own wr w.heap.size 30 #[.int .i64 a.s, .int .i64 a.n, .int .i64 a.f, .int .i64 a.p, .bool a.w] ∧ Grew w wr) (fun iv _ => n - (intOf iv).toNat)
  case atStart => exact ⟨0, rfl, by omega, Lib.hid (fun j hj => by omega), HO2.out, HG2.out⟩
  case round =>
    obtain ⟨i, rfl, hi, HK, O, G⟩ := hrel
    obtain ⟨wo, rfl⟩ : ∃ wo : World, wo = wr := ⟨_, rfl⟩
    have HOO := Lib.hid O
    have HGG := Lib.hid G
    clear HO2 HG2
    obtain ⟨x0, x1, x2, x3, x4⟩ := O.five
    have hlO := O.lt
    by_cases hlt : i < n
    · have hiL : i < L.length := by rw [HN.out]; exact hlt
      obtain ⟨g, o, rfl, hBg, hg, c0, c1, c2, c3, c4⟩ := (HH.out.grew G).at5 hiL
      have r := rtD' H1.out hiL
      have HYE : Hid (ovA (L.getD i zR) a = true → bb = true) := Lib.hid (fun h => by rw [← HBB.out]; exact ovR_yes hiL h)
      have HNX : Hid (ovA (L.getD i zR) a = false → ∀ j, j < i + 1 → ovA (L.getD j zR) a = false) := Lib.hid (fun h j hj => by
        by_cases e : j = i
        · rw [e]; exact h
        · exact HK.out j (by omega))
      generalize L.getD i zR = d at *
      have hi0 : (0 : Int) ≤ (i : Int) := by omega
      have hi1 : (i : Int) < (n : Int) := by omega
      have hw0 : IntKind.i64.wrap (d.s + d.n) = d.s + d.n := IntWalk.i64_in _ (by omega)
      clear r G HK O
      by_cases q1 : a.s < d.s + d.n
      · have e1 : decide (a.s < d.s + d.n) = true := decide_eq_true q1
        by_cases q2 : d.s < a.s + a.n
        · have HX := Lib.hid (HM5.out (HYE.out (ovA_iff.2 ⟨q1, q2⟩)))
          have e2 : decide (d.s < a.s + a.n) = true := decide_eq_true q2
          clear HYE HNX
          go_wp2
          go_quiet (fail)
          revert nq; intro nq1
          go_wp2
          refine bodyPost_ret (v := .tuple #[.slice (some ⟨g, o, none⟩) n c, .int .i64 5]) (by simp [results, Try.results11, go_sem]) rfl ?_
          exact ⟨_, by rw [HX.out], by rw [HX.out]; exact HH.out.grew (HGG.out.drewN _), HGG.out.drewN _⟩
        · have HE := Lib.hid (HNX.out (decide_eq_false (fun h => q2 h.2)))
          have e2 : decide (d.s < a.s + a.n) = false := decide_eq_false q2
          clear HYE HNX
          go_wp2
          go_quiet (fail)
          revert nq; intro nq1
          go_wp2
          exact ⟨⟨i + 1, by go_num, by omega, HE, HOO.out.drewN _, HGG.out.drewN _⟩, by simp [intOf] <;> omega⟩
      · have HE := Lib.hid (HNX.out (decide_eq_false (fun h => q1 h.1)))
        have e1 : decide (a.s < d.s + d.n) = false := decide_eq_false q1
        clear HYE HNX
        go_wp2
        go_quiet (fail)
        revert nq; intro nq1
        go_wp2
        exact ⟨⟨i + 1, by go_num, by omega, HE, HOO.out.drewN _, HGG.out.drewN _⟩, by simp [intOf] <;> omega⟩
    · obtain rfl : i = n := by omega
      have HOV : Hid (ovR L a = false) := Lib.hid (ovR_no.2 (by rw [HN.out]; exact HK.out))
      have HBF : Hid (bb = false) := Lib.hid (HBB.out.symm.trans HOV.out)
      clear O G HK
      by_cases h88 : i = 8
      · have HX := Lib.hid (HM3.out HBF.out h88)
        subst h88
        rw [show ((8 : Nat) : Int) = 8 from rfl]
        go_wp2
        refine bodyPost_ret (v := .tuple #[.slice a0 8 c, .int .i64 3]) (by simp [results, Try.results11, go_sem]) rfl ?_
        exact ⟨_, by rw [HX.out], by rw [HX.out]; exact HH.out.grew HGG.out, HGG.out⟩
      have HX := Lib.hid (HM0.out HBF.out h88)
      have h8l : decide ((8 : Int) ≤ (i : Int)) = false := decide_eq_false (by omega)
      have h8k : (i : Int) < 8 := by omega
      obtain ⟨k, hk⟩ : ∃ k, plR L a.s = k := ⟨_, rfl⟩
      have HK := Lib.hid hk
      obtain ⟨n, hnn⟩ : ∃ n, i = n := ⟨_, rfl⟩
      subst hnn
      have hkn : k ≤ i := by rw [← hk, ← HN.out]; exact plR_le L a.s
      clear hk HM5 HM3 HM0 HBB
      go_wp2_with fail
      go_loopw [7, 8, 9] (fun fv bv iv wr => ∃ (j : Nat) (r : Value), r = fv ∧ bv = .bool (decide (k < j)) ∧ iv = .int .i64 j ∧ j ≤ i ∧ RowE 30 5 enc5 wr (w.heap.size + 1) r (insU L a k j) ∧ Own wr w.heap.size 30 #[.int .i64 a.s, .int .i64 a.n, .int .i64 a.f, .int .i64 a.p, .bool a.w] ∧ Grew w wr) (fun _ _ iv _ => i - (intOf iv).toNat)
      case atStart => exact ⟨0, _, rfl, rfl, rfl, by omega, by rw [insU_0]; exact RowE.nil _ _, HOO.out, HGG.out⟩
      case round =>
        obtain ⟨j, fv, rfl, rfl, rfl, hj, R, O, G⟩ := hrel
        obtain ⟨wj, rfl⟩ : ∃ wj : World, wj = wr := ⟨_, rfl⟩
        clear x0 x1 x2 x3 x4 hlO
        obtain ⟨x0, x1, x2, x3, x4⟩ := O.five
        have hlO := O.lt
        have HR := Lib.hid R
        have HOJ := Lib.hid O
        have HGJ := Lib.hid G
        have hx6 : (insU L a k j).length < 1000000 := by have := insU_len L a k j; have := HN.out; omega
        clear R O
        by_cases hlt2 : j < i
        · have hjL : j < L.length := by rw [HN.out]; exact hlt2
          obtain ⟨g, o, rfl, hBg, hg, c0, c1, c2, c3, c4⟩ := (HH.out.grew G).at5 hjL
          have hi0 : (0 : Int) ≤ (j : Int) := by omega
          have hi1 : (j : Int) < (i : Int) := by omega
          have hz : ∀ q ob, w.heap.size + 1 ≤ ((wj.drewN q).alloc ob).heap.size := fun q ob => by show w.heap.size + 1 ≤ (wj.alloc ob).heap.size; simp; omega
          have HRQ : Hid (∀ q, RowE 30 5 enc5 (wj.drewN q) (w.heap.size + 1) fv (insU L a k j)) := Lib.hid (fun q => HR.out.drewN q)
          have HGQ : Hid (∀ q, Grew w (wj.drewN q)) := Lib.hid (fun q => HGJ.out.drewN q)
          have HOQ : Hid (∀ q, Own (wj.drewN q) w.heap.size 30 #[.int .i64 a.s, .int .i64 a.n, .int .i64 a.f, .int .i64 a.p, .bool a.w]) := Lib.hid (fun q => HOJ.out.drewN q)
          rcases Nat.lt_trichotomy j k with hjk | hjk | hjk
          · have hd := plR_lo (L := L) (x := a.s) (j := j) (by rw [HK.out]; exact hjk)
            have HI := Lib.hid (insU_lo L a hjL hjk)
            generalize L.getD j zR = d at *
            have e1 : decide (k < j) = false := decide_eq_false (by omega)
            have e2 : decide (a.s < d.s) = false := decide_eq_false (by omega)
            have e3 : decide (k < j + 1) = false := decide_eq_false (by omega)
            rw [e1]
            clear hd G
            go_wp2
            go_quiet (fail)
            revert nq; intro nq1
            clear x0 x1 x2 x3 x4
            obtain ⟨x0, x1, x2, x3, x4⟩ := (HOQ.out nq1).five
            go_wp2_with (at_builtin; go_loud (
              refine wpList_append_row _ rfl _ _ 26 rfl (w.heap.size + 1) info_ar Try.underlying26 (by decide) (by decide) enc5_len fv (insU L a k j) rfl ((HRQ.out nq1).alloc _) _ _ d rfl (Own.new _ _ _) enc5_one hx6 (by decide) ((hz nq1) _) ?_
              intro g7 cap7 w7 R7 G7 o7
              have HR7 := Lib.hid R7
              have HO7 := Lib.hid (((HOQ.out nq1).alloc _).keptA G7 (fun x e => (HRQ.out nq1).above x e) (Nat.lt_succ_self _))
              have HG7 := Lib.hid (Grew.keptA (B := w.heap.size + 1) ((HGQ.out nq1).alloc _) G7 (fun x e => (HRQ.out nq1).above x e) (Nat.le_succ _))
              clear o7 G7 R7))
            go_roundw
            case rel => exact ⟨j + 1, _, rfl, by rw [e3], by go_num, by omega, by rw [HI.out]; exact HR7.out, HO7.out, HG7.out⟩
            case measure => simp [intOf]; omega
          · subst hjk
            have hd := plR_hi (L := L) (x := a.s) (by rw [HK.out]; exact hjL)
            rw [HK.out] at hd
            have hov := ovR_no.1 HOV.out j hjL
            have r := rtD' H1.out hjL
            have HI := Lib.hid (insU_at L a hjL)
            have HAT : Hid (∀ w', Grew w w' → g < w'.heap.size ∧ w'.cell? ⟨g, o + j * 5, none⟩ = some (.int .i64 (L.getD j zR).s) ∧ w'.cell? ⟨g, o + j * 5 + 1, none⟩ = some (.int .i64 (L.getD j zR).n) ∧ w'.cell? ⟨g, o + j * 5 + 2, none⟩ = some (.int .i64 (L.getD j zR).f) ∧ w'.cell? ⟨g, o + j * 5 + 3, none⟩ = some (.int .i64 (L.getD j zR).p) ∧ w'.cell? ⟨g, o + j * 5 + 4, none⟩ = some (.bool (L.getD j zR).w)) := Lib.hid (fun w' G => by
              obtain ⟨g', o', e9, -, hg', d0, d1, d2, d3, d4⟩ := (HH.out.grew G).at5 hjL
              injection e9 with e9
              injection e9 with e9 e8
              subst e9 e8
              exact ⟨hg', d0, d1, d2, d3, d4⟩)
            have hl1 : (insU L a j j ++ [a]).length < 1000000 := by have := insU_len L a j j; have := HN.out; simp; omega
            generalize L.getD j zR = d at *
            have hd2 : a.s < d.s := by
              by_cases h : a.s < d.s
              · exact h
              · have : ovA d a = true := ovA_iff.2 (by unfold endA; omega)
                rw [this] at hov; cases hov
            have e1 : decide (j < j) = false := decide_eq_false (by omega)
            have e2 : decide (a.s < d.s) = true := decide_eq_true hd2
            have e3 : decide (j < j + 1) = true := decide_eq_true (by omega)
            rw [e1]
            clear hd G hov r
            go_wp2
            go_quiet (fail)
            revert nq; intro nq1
            clear x0 x1 x2 x3 x4
            obtain ⟨x0, x1, x2, x3, x4⟩ := (HOQ.out nq1).five
            go_wp2_with (at_builtin; go_loud (first
              | (refine wpList_append_row _ rfl _ _ 26 rfl (w.heap.size + 1) info_ar Try.underlying26 (by decide) (by decide) enc5_len fv (insU L a j j) rfl ((HRQ.out nq1).alloc _) _ _ a rfl (Own.new _ _ _) enc5_one hx6 (by decide) ((hz nq1) _) ?_
                 intro g7 cap7 w7 R7 G7 o7
                 have HR7 := Lib.hid R7
                 have HO7 := Lib.hid (((HOQ.out nq1).alloc _).keptA G7 (fun x e => (HRQ.out nq1).above x e) (Nat.lt_succ_self _))
                 have HG7 := Lib.hid (Grew.keptA (B := w.heap.size + 1) ((HGQ.out nq1).alloc _) G7 (fun x e => (HRQ.out nq1).above x e) (Nat.le_succ _))
                 obtain ⟨hgw7, d0, d1, d2, d3, d4⟩ := HAT.out w7 HG7.out
                 have hz7 : ∀ ob, w.heap.size + 1 ≤ (w7.alloc ob).heap.size := fun ob => by have := HO7.out.lt; simp; omega
                 clear o7 G7 R7)
              | (refine wpList_append_row _ rfl _ _ 26 rfl (w.heap.size + 1) info_ar Try.underlying26 (by decide) (by decide) enc5_len (.slice (some ⟨g7, 0, none⟩) ((insU L a j j).length + 1) cap7) (insU L a j j ++ [a]) rfl (HR7.out.alloc _) _ _ d rfl (Own.new _ _ _) enc5_one hl1 (by decide) (hz7 _) ?_
                 intro g8 cap8 w8 R8 G8 o8
                 have HR8 := Lib.hid R8
                 have HO8 := Lib.hid ((HO7.out.alloc _).keptA G8 (fun x e => HR7.out.above x e) (Nat.lt_succ_self _))
                 have HG8 := Lib.hid (Grew.keptA (B := w.heap.size + 1) (HG7.out.alloc _) G8 (fun x e => HR7.out.above x e) (Nat.le_succ _))
                 clear o8 G8 R8)))
            go_roundw
            case rel => exact ⟨j + 1, _, rfl, by rw [e3], by go_num, by omega, by rw [HI.out]; have q := HR8.out; rw [List.length_append, List.length_singleton] at q; exact q, HO8.out, HG8.out⟩
            case measure => simp [intOf]; omega
          · have HI := Lib.hid (insU_hi L a hjL hjk)
            generalize L.getD j zR = d at *
            have e1 : decide (k < j) = true := decide_eq_true hjk
            have e3 : decide (k < j + 1) = true := decide_eq_true (by omega)
            rw [e1]
            clear G
            go_wp2
            go_quiet (fail)
            revert nq; intro nq1
            clear x0 x1 x2 x3 x4
            obtain ⟨x0, x1, x2, x3, x4⟩ := (HOQ.out nq1).five
            go_wp2_with (at_builtin; go_loud (
              refine wpList_append_row _ rfl _ _ 26 rfl (w.heap.size + 1) info_ar Try.underlying26 (by decide) (by decide) enc5_len fv (insU L a k j) rfl ((HRQ.out nq1).alloc _) _ _ d rfl (Own.new _ _ _) enc5_one hx6 (by decide) ((hz nq1) _) ?_
              intro g7 cap7 w7 R7 G7 o7
              have HR7 := Lib.hid R7
              have HO7 := Lib.hid (((HOQ.out nq1).alloc _).keptA G7 (fun x e => (HRQ.out nq1).above x e) (Nat.lt_succ_self _))
              have HG7 := Lib.hid (Grew.keptA (B := w.heap.size + 1) ((HGQ.out nq1).alloc _) G7 (fun x e => (HRQ.out nq1).above x e) (Nat.le_succ _))
              clear o7 G7 R7))
            go_roundw
            case rel => exact ⟨j + 1, _, rfl, by rw [e3], by go_num, by omega, by rw [HI.out]; exact HR7.out, HO7.out, HG7.out⟩
            case measure => simp [intOf]; omega
        · obtain rfl : j = i := by omega
          have HEND := Lib.hid (insU_end L a HK.out)
          rw [HN.out] at HEND
          by_cases hk2 : k < j
          · have e1 : decide (k < j) = true := decide_eq_true hk2
            rw [if_pos hk2] at HEND
            rw [e1]
            obtain ⟨ua, uc, rfl⟩ := HR.out.len
            clear G
            go_wp2
            refine bodyPost_ret (v := .tuple #[.slice ua (insU L a k j).length uc, .int .i64 0]) (by simp [results, Try.results11, go_sem]) rfl ?_
            exact ⟨_, by rw [HX.out], by rw [HX.out, HEND.out]; exact (RowE.rdS enc5_len HR.out).wider (Nat.le_succ_of_le HB.out), HGJ.out⟩
          · have e1 : decide (k < j) = false := decide_eq_false hk2
            rw [if_neg hk2] at HEND
            rw [e1]
            have hz : ∀ ob, w.heap.size + 1 ≤ (wj.alloc ob).heap.size := fun ob => by simp; omega
            clear G
            go_wp2_with (at_builtin; go_loud (refine wpList_append_row _ rfl _ _ 26 rfl (w.heap.size + 1) info_ar Try.underlying26 (by decide) (by decide) enc5_len fv (insU L a k j) rfl (HR.out.alloc _) _ _ a rfl (Own.new _ _ _) enc5_one hx6 (by decide) (hz _) ?_; intro g7 cap w7 R7 G7 o7))
            have HR7 := Lib.hid R7
            have HG7 := Lib.hid (Grew.keptA (B := w.heap.size + 1) (HGJ.out.alloc _) G7 (fun x e => HR.out.above x e) (Nat.le_succ _))
            clear o7 G7 R7
            go_wp2
            refine bodyPost_ret (v := .tuple #[.slice (some ⟨g7, 0, none⟩) ((insU L a k j).length + 1) cap, .int .i64 0]) (by simp [results, Try.results11, go_sem]) rfl ?_
            exact ⟨_, by rw [HX.out], by rw [HX.out, HEND.out]; exact (RowE.rdS enc5_len HR7.out).wider (Nat.le_succ_of_le HB.out), HG7.out⟩
set_option maxRecDepth 100000 in
set_option maxHeartbeats 16000000 in
theorem unmap_q {B : Nat} {v : Value} {L : List Ar} {s m : Int} {w : World} (h : RdS 5 enc5 w B v L) (hB : B ≤ w.heap.size) (hs : L.length ≤ 1000) : Calls Try.prog 13 #[v, .int .i64 s, .int .i64 m] w (RetRE B (unmR L s m) w) := by
  have HH := Lib.hid h
  have HB := Lib.hid hB
  clear h hB
  cases h1 : okR L
  · have HX := Lib.hid (unmR_e (eU_1 (s := s) (n := m) h1) (by decide))
    have H1 := Lib.hid h1
    clear h1
    go_enter Try.func13, Try.ntmps13
    go_wp2_with fail
    with_reducible refine (check_q HH.out hs H1.out).mono ?_
    rintro e9 w1 ⟨rfl, g1⟩
    go_wp2
    refine bodyPost_ret (v := .tuple #[v, .int .i64 1]) (by simp [results, Try.results13, go_sem]) rfl ?_
    exact ⟨v, by rw [HX.out], by rw [HX.out]; exact HH.out.grew g1, g1⟩
  have H1 := Lib.hid h1
  cases h2 : inB s m 64
  · have HX := Lib.hid (unmR_e (eU_2 h1 h2) (by decide))
    have H2 := Lib.hid h2
    clear h1 h2
    go_enter Try.func13, Try.ntmps13
    go_wp2_with fail
    with_reducible refine (check_q HH.out hs H1.out).mono ?_
    rintro e9 w1 ⟨rfl, g1⟩
    have HG1 := Lib.hid g1
    clear g1
    go_wp2_with fail
    with_reducible refine (span_q H2.out).mono ?_
    rintro e9 w2 ⟨rfl, rfl⟩
    go_wp2
    refine bodyPost_ret (v := .tuple #[v, .int .i64 2]) (by simp [results, Try.results13, go_sem]) rfl ?_
    exact ⟨v, by rw [HX.out], by rw [HX.out]; exact HH.out.grew HG1.out, HG1.out⟩
  have H2 := Lib.hid h2
  have HE0 := Lib.hid (eU_0 h1 h2)
  have h8 := (okR_iff.1 h1).1
  obtain ⟨b0, b1, b2⟩ := inB_iff.1 h2
  obtain ⟨a0, c, rfl, -, -⟩ := HH.out.slice
  have HC := Lib.hid (check_q HH.out hs H1.out)
  obtain ⟨n, hn⟩ : ∃ n, L.length = n := ⟨_, rfl⟩
  have HN := Lib.hid hn
  have hwa : IntKind.i64.wrap (s + m) = s + m := IntWalk.i64_in _ (by omega)
  rw [hn] at HH HC hs h8 ⊢
  clear hn h1 h2
  go_enter Try.func13, Try.ntmps13
  go_wp2_with fail
  with_reducible refine HC.out.mono ?_
  rintro e9 w1 ⟨rfl, g1⟩
  have HG1 := Lib.hid g1
  clear g1 HC
  go_wp2_with fail
  with_reducible refine (span_q H2.out).mono ?_
  rintro e9 w2 ⟨rfl, rfl⟩
  have HOO := Lib.hid (show s + m = s + m from rfl)
  obtain ⟨t, ht⟩ : ∃ t, s + m = t := ⟨_, rfl⟩
  have HTT := Lib.hid ht
  rw [ht] at hwa b2
  have hst : s < t := by omega
  go_wp2_with fail
  go_loopw [9, 10] (fun fv iv wr => ∃ (i : Nat) (r : Value) (M : List Ar), r = fv ∧ iv = .int .i64 i ∧ i ≤ n ∧ M.length ≤ 2 * i ∧ Hid (M = woR (L.take i) s t) ∧ RowE 30 5 enc5 wr w.heap.size r M ∧ Grew w wr) (fun _ iv _ => n - (intOf iv).toNat)
  case atStart => exact ⟨0, _, [], rfl, rfl, by omega, by simp, Lib.hid rfl, RowE.nil _ _, HG1.out⟩
  case round =>
    obtain ⟨i, fv, M, rfl, rfl, hi, hml, HM, R, G⟩ := hrel
    obtain ⟨wo, rfl⟩ : ∃ wo : World, wo = wr := ⟨_, rfl⟩
    have HR := Lib.hid R
    have HG := Lib.hid G
    by_cases hlt : i < n
    · have hiL : i < L.length := by rw [HN.out]; exact hlt
      obtain ⟨g, o, rfl, hBg, hg, c0, c1, c2, c3, c4⟩ := (HH.out.grew G).at5 hiL
      have r := rtD' H1.out hiL
      have HT := Lib.hid (woR_snoc L hiL s t)
      generalize L.getD i zR = d at *
      obtain ⟨⟨r1, r2, r3⟩, -, r4, r5⟩ := r
      have hi0 : (0 : Int) ≤ (i : Int) := by omega
      have hi1 : (i : Int) < (n : Int) := by omega
      have hw0 : IntKind.i64.wrap (d.s + d.n) = d.s + d.n := IntWalk.i64_in _ (by omega)
      have hE : endA d = d.s + d.n := rfl
      have hx6 : M.length < 1000000 := by omega
      have HR1 : Hid (∀ o, RowE 30 5 enc5 (wo.alloc o) w.heap.size fv M) := Lib.hid (fun o => R.alloc o)
      have HR2 : Hid (∀ o o', RowE 30 5 enc5 ((wo.alloc o).alloc o') w.heap.size fv M) := Lib.hid (fun o o' => (R.alloc o).alloc o')
      have HG1 : Hid (∀ o, Grew w (wo.alloc o)) := Lib.hid (fun o => G.alloc o)
      have HG2 : Hid (∀ o o', Grew w ((wo.alloc o).alloc o')) := Lib.hid (fun o o' => (G.alloc o).alloc o')
      have hz : ∀ o o' ob, w.heap.size ≤ (((wo.alloc o).alloc o').alloc ob).heap.size := fun o o' ob => Nat.le_trans (HG2.out o o').size (by simp)
      have hlo := HG.out.size
      clear R G
      by_cases t1 : d.s < s
      · by_cases t2 : d.s + d.n ≤ s
        · have HC : Hid (cutR d s t = [⟨d.s, d.s + d.n - d.s, d.f, d.p, d.w⟩]) := Lib.hid (by
            unfold cutR
            rw [if_pos t1, if_neg (by omega), befR_1 t1, Int.min_eq_left (by omega), List.append_nil]
            congr 2
            omega)
          have hw1 : IntKind.i64.wrap (d.s + d.n - d.s) = d.s + d.n - d.s := IntWalk.i64_in _ (by omega)
          have t3 : decide (t < d.s + d.n) = false := decide_eq_false (by omega)
          have m1 : min (d.s + d.n) s = d.s + d.n := Int.min_eq_left (by omega)
          go_wp2_with (at_builtin; go_loud (
            refine wpList_append_row _ rfl _ _ 26 rfl w.heap.size info_ar Try.underlying26 (by decide) (by decide) enc5_len fv M rfl ((HR2.out _ _).alloc _) _ _ ⟨d.s, d.s + d.n - d.s, d.f, d.p, d.w⟩ rfl (Own.new3 _ _ _ _ _) enc5_one hx6 (by decide) (hz _ _ _) ?_
            intro g7 cap7 w7 R7 G7 o7
            have HR7 := Lib.hid R7
            have HG7 := Lib.hid (Grew.keptA (B := w.heap.size) ((HG2.out _ _).alloc _) G7 (fun x e => HR.out.above x e) (Nat.le_refl _))
            clear o7 G7 R7))
          go_roundw
          case rel => exact ⟨i + 1, _, M ++ [⟨d.s, d.s + d.n - d.s, d.f, d.p, d.w⟩], rfl, by go_num, by omega, by simp; omega, Lib.hid (by rw [HT.out, HC.out, HM.out]), HR7.out, HG7.out⟩
          case measure => simp [intOf]; omega
        · have hw1 : IntKind.i64.wrap (s - d.s) = s - d.s := IntWalk.i64_in _ (by omega)
          have m1 : min (d.s + d.n) s = s := Int.min_eq_right (by omega)
          by_cases t3 : t < d.s + d.n
          · have HC : Hid (cutR d s t = [⟨d.s, s - d.s, d.f, d.p, d.w⟩] ++ [⟨t, d.s + d.n - t, d.f, d.p + (t - d.s), d.w⟩]) := Lib.hid (by
              unfold cutR
              rw [if_pos t1, if_pos (by omega), befR_1 t1, frmR_1 (by omega), Int.min_eq_right (by omega), Int.max_eq_right (by omega)]
              congr 3
              · omega
              · omega)
            have hw2 : IntKind.i64.wrap (d.s + d.n - t) = d.s + d.n - t := IntWalk.i64_in _ (by omega)
            have hw3 : IntKind.i64.wrap (t - d.s) = t - d.s := IntWalk.i64_in _ (by omega)
            have hw4 : IntKind.i64.wrap (d.p + (t - d.s)) = d.p + (t - d.s) := IntWalk.i64_in _ (by omega)
            have t4 : d.s < t := by omega
            have m2 : max d.s t = t := Int.max_eq_right (by omega)
            have hl1 : (M ++ [(⟨d.s, s - d.s, d.f, d.p, d.w⟩ : Ar)]).length < 1000000 := by simp; omega
            go_wp2_with (at_builtin; go_loud (first
              | (refine wpList_append_row _ rfl _ _ 26 rfl w.heap.size info_ar Try.underlying26 (by decide) (by decide) enc5_len fv M rfl ((HR2.out _ _).alloc _) _ _ ⟨d.s, s - d.s, d.f, d.p, d.w⟩ rfl (Own.new3 _ _ _ _ _) enc5_one hx6 (by decide) (hz _ _ _) ?_
                 intro g7 cap7 w7 R7 G7 o7
                 have HR7 := Lib.hid R7
                 have HG7 := Lib.hid (Grew.keptA (B := w.heap.size) ((HG2.out _ _).alloc _) G7 (fun x e => HR.out.above x e) (Nat.le_refl _))
                 have HO7 := Lib.hid (Own.keptN (((Own.new wo 30 #[.int .i64 d.s, .int .i64 d.n, .int .i64 d.f, .int .i64 d.p, .bool d.w]).alloc _).alloc _) G7 (fun e => absurd (HR.out.lt _ e) (Nat.lt_irrefl _)))
                 obtain ⟨x0, x1, x2, x3, x4⟩ := HO7.out.five
                 have hl7 := HO7.out.lt
                 have HR72 : Hid (∀ o, RowE 30 5 enc5 (w7.alloc o) w.heap.size (.slice (some ⟨g7, 0, none⟩) (M.length + 1) cap7) (M ++ [⟨d.s, s - d.s, d.f, d.p, d.w⟩])) := Lib.hid (fun o => R7.alloc o)
                 have HG72 : Hid (∀ o, Grew w (w7.alloc o)) := Lib.hid (fun o => HG7.out.alloc o)
                 have hz7 : ∀ o ob, w.heap.size ≤ ((w7.alloc o).alloc ob).heap.size := fun o ob => Nat.le_trans (HG72.out o).size (by simp)
                 clear o7 G7 R7)
              | (refine wpList_append_row _ rfl _ _ 26 rfl w.heap.size info_ar Try.underlying26 (by decide) (by decide) enc5_len (.slice (some ⟨g7, 0, none⟩) (M.length + 1) cap7) (M ++ [⟨d.s, s - d.s, d.f, d.p, d.w⟩]) rfl ((HR72.out _).alloc _) _ _ ⟨t, d.s + d.n - t, d.f, d.p + (t - d.s), d.w⟩ rfl (Own.new2 _ _ _ _) enc5_one hl1 (by decide) (hz7 _ _) ?_
                 intro g8 cap8 w8 R8 G8 o8
                 have HR8 := Lib.hid R8
                 have HG8 := Lib.hid (Grew.keptA (B := w.heap.size) ((HG72.out _).alloc _) G8 (fun x e => HR7.out.above x e) (Nat.le_refl _))
                 clear o8 G8 R8)))
            go_roundw
            case rel => exact ⟨i + 1, _, M ++ [⟨d.s, s - d.s, d.f, d.p, d.w⟩] ++ [⟨t, d.s + d.n - t, d.f, d.p + (t - d.s), d.w⟩], rfl, by go_num, by omega, by simp; omega, Lib.hid (by rw [HT.out, HC.out, HM.out]; simp), (by have q := HR8.out; rw [List.length_append, List.length_singleton] at q; exact q), HG8.out⟩
            case measure => simp [intOf]; omega
          · have HC : Hid (cutR d s t = [⟨d.s, s - d.s, d.f, d.p, d.w⟩]) := Lib.hid (by
              unfold cutR
              rw [if_pos t1, if_neg (by omega), befR_1 t1, Int.min_eq_right (by omega), List.append_nil])
            have t4 : decide (t < d.s + d.n) = false := decide_eq_false (by omega)
            go_wp2_with (at_builtin; go_loud (
              refine wpList_append_row _ rfl _ _ 26 rfl w.heap.size info_ar Try.underlying26 (by decide) (by decide) enc5_len fv M rfl ((HR2.out _ _).alloc _) _ _ ⟨d.s, s - d.s, d.f, d.p, d.w⟩ rfl (Own.new3 _ _ _ _ _) enc5_one hx6 (by decide) (hz _ _ _) ?_
              intro g7 cap7 w7 R7 G7 o7
              have HR7 := Lib.hid R7
              have HG7 := Lib.hid (Grew.keptA (B := w.heap.size) ((HG2.out _ _).alloc _) G7 (fun x e => HR.out.above x e) (Nat.le_refl _))
              clear o7 G7 R7))
            go_roundw
            case rel => exact ⟨i + 1, _, M ++ [⟨d.s, s - d.s, d.f, d.p, d.w⟩], rfl, by go_num, by omega, by simp; omega, Lib.hid (by rw [HT.out, HC.out, HM.out]), HR7.out, HG7.out⟩
            case measure => simp [intOf]; omega
      · have t5 : decide (d.s < s) = false := decide_eq_false t1
        by_cases t3 : t < d.s + d.n
        · by_cases t4 : d.s ≤ t
          · have HC : Hid (cutR d s t = [⟨t, d.s + d.n - t, d.f, d.p + (t - d.s), d.w⟩]) := Lib.hid (by
              unfold cutR
              rw [if_neg t1, if_pos (by omega), frmR_1 (by omega), Int.max_eq_right (by omega), List.nil_append]
              congr 2
              · omega
              · omega)
            have hw2 : IntKind.i64.wrap (d.s + d.n - t) = d.s + d.n - t := IntWalk.i64_in _ (by omega)
            have hw3 : IntKind.i64.wrap (t - d.s) = t - d.s := IntWalk.i64_in _ (by omega)
            have hw4 : IntKind.i64.wrap (d.p + (t - d.s)) = d.p + (t - d.s) := IntWalk.i64_in _ (by omega)
            have m2 : max d.s t = t := Int.max_eq_right (by omega)
            go_wp2_with (at_builtin; go_loud (
              refine wpList_append_row _ rfl _ _ 26 rfl w.heap.size info_ar Try.underlying26 (by decide) (by decide) enc5_len fv M rfl ((HR2.out _ _).alloc _) _ _ ⟨t, d.s + d.n - t, d.f, d.p + (t - d.s), d.w⟩ rfl (Own.new3 _ _ _ _ _) enc5_one hx6 (by decide) (hz _ _ _) ?_
              intro g7 cap7 w7 R7 G7 o7
              have HR7 := Lib.hid R7
              have HG7 := Lib.hid (Grew.keptA (B := w.heap.size) ((HG2.out _ _).alloc _) G7 (fun x e => HR.out.above x e) (Nat.le_refl _))
              clear o7 G7 R7))
            go_roundw
            case rel => exact ⟨i + 1, _, M ++ [⟨t, d.s + d.n - t, d.f, d.p + (t - d.s), d.w⟩], rfl, by go_num, by omega, by simp; omega, Lib.hid (by rw [HT.out, HC.out, HM.out]), HR7.out, HG7.out⟩
            case measure => simp [intOf]; omega
          · have HC : Hid (cutR d s t = [⟨d.s, d.s + d.n - d.s, d.f, d.p, d.w⟩]) := Lib.hid (by
              unfold cutR
              rw [if_neg t1, if_pos (by omega), frmR_1 (by omega), Int.max_eq_left (by omega), List.nil_append]
              congr 2
              · omega
              · omega
              · omega)
            have hw2 : IntKind.i64.wrap (d.s + d.n - d.s) = d.s + d.n - d.s := IntWalk.i64_in _ (by omega)
            have hw3 : IntKind.i64.wrap (d.s - d.s) = d.s - d.s := IntWalk.i64_in _ (by omega)
            have hw4 : IntKind.i64.wrap d.p = d.p := IntWalk.i64_in _ (by omega)
            have hw5 : IntKind.i64.wrap 0 = 0 := by decide
            have t6 : t < d.s := by omega
            have m2 : max d.s t = d.s := Int.max_eq_left (by omega)
            go_wp2_with (at_builtin; go_loud (
              refine wpList_append_row _ rfl _ _ 26 rfl w.heap.size info_ar Try.underlying26 (by decide) (by decide) enc5_len fv M rfl ((HR2.out _ _).alloc _) _ _ ⟨d.s, d.s + d.n - d.s, d.f, d.p, d.w⟩ rfl (Own.new3 _ _ _ _ _) enc5_one hx6 (by decide) (hz _ _ _) ?_
              intro g7 cap7 w7 R7 G7 o7
              have HR7 := Lib.hid R7
              have HG7 := Lib.hid (Grew.keptA (B := w.heap.size) ((HG2.out _ _).alloc _) G7 (fun x e => HR.out.above x e) (Nat.le_refl _))
              clear o7 G7 R7))
            go_roundw
            case rel => exact ⟨i + 1, _, M ++ [⟨d.s, d.s + d.n - d.s, d.f, d.p, d.w⟩], rfl, by go_num, by omega, by simp; omega, Lib.hid (by rw [HT.out, HC.out, HM.out]), HR7.out, HG7.out⟩
            case measure => simp [intOf]; omega
        · have HC : Hid (cutR d s t = []) := Lib.hid (by
            unfold cutR
            rw [if_neg t1, if_neg (by omega)]
            rfl)
          have t4 : decide (t < d.s + d.n) = false := decide_eq_false t3
          have HM2 : Hid (M = woR (L.take (i + 1)) s t) := Lib.hid (by rw [HT.out, HC.out, HM.out, List.append_nil])
          go_wp2
          exact ⟨⟨i + 1, _, M, rfl, by go_num, by omega, by omega, HM2, HR1.out _, HG1.out _⟩, by simp [intOf] <;> omega⟩
    · obtain rfl : i = n := by omega
      have HE2 : Hid (M = woR L s t) := Lib.hid (by rw [HM.out, ← HN.out, List.take_length])
      clear R G
      rw [← HTT.out] at HE2
      obtain ⟨ua, uc, rfl⟩ := HR.out.len
      by_cases h88 : 8 < M.length
      · have HX := Lib.hid (unmR_3 HE0.out (by rw [← HE2.out]; exact h88))
        have h8' : (8 : Int) < (M.length : Int) := by omega
        go_wp2
        refine bodyPost_ret (v := .tuple #[.slice a0 i c, .int .i64 3]) (by simp [results, Try.results13, go_sem]) rfl ?_
        exact ⟨_, by rw [HX.out], by rw [HX.out]; exact HH.out.grew HG.out, HG.out⟩
      · have HX := Lib.hid (unmR_0 HE0.out (by rw [← HE2.out]; exact h88))
        have h8' : (M.length : Int) ≤ 8 := by omega
        go_wp2
        refine bodyPost_ret (v := .tuple #[.slice ua M.length uc, .int .i64 0]) (by simp [results, Try.results13, go_sem]) rfl ?_
        exact ⟨_, by rw [HX.out], by rw [HX.out, ← HE2.out]; exact (RowE.rdS enc5_len HR.out).wider HB.out, HG.out⟩
end Go.Proofs.Ytnlhdbengppnpaa

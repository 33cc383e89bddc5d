/- The reference's Split, and same (layer 4). -/
import Derived.Test.YtfoeemibhkkbgaaRuns
namespace Go.Proofs.Ytfoeemibhkkbgaa
attribute [local go_sem ↓] Go.wp_at_zero Go.wp_at_succ
open Go.RowKit Go.Mine

set_option maxRecDepth 100000 in
set_option maxHeartbeats 8000000 in
theorem rsplit_any (B : Nat) (v : Value) (L : List Sp) (m : Int) (w : World) (hL : L.length ≤ 500) (hf : Fits L) (hm : (Lit.int .i64 m).wf = true) (R : RowE 36 2 enc2 w B v L) :
    Calls Try.prog 23 #[v, .int .i64 m] w (RetR (if m < 1 then [] else splitL L m) w) := by
  have hm' := wf_le hm
  by_cases h1 : m < 1
  · rw [if_pos h1]
    go_enter Try.func23, Try.ntmps23
    go_wp2
    go_ret
    exact ⟨_, rfl, RowE.nil _ _, Grew.refl _⟩
  · rw [if_neg h1]
    have h2 : 1 ≤ m := by omega
    obtain ⟨a, X, c, rfl, hX, hcell⟩ := R.pairs
    have HC := Lib.hid hcell
    have HX := Lib.hid hX
    have HF := Lib.hid hf
    have hX2 : X ≤ 500 := by omega
    clear hcell hX hL hf hm R
    go_enter Try.func23, Try.ntmps23
    go_wp2
    go_loopw [5, 6] (fun v i wr => ∃ (k : Nat) (r : Value), r = v ∧ i = .int .i64 k ∧ k ≤ X ∧ RowE 36 2 enc2 wr w.heap.size r (splitL (L.take k) m) ∧ Grew w wr) (fun _ i _ => X - (intOf i).toNat)
    case atStart => exact ⟨0, _, rfl, rfl, by omega, RowE.nil _ _, Grew.refl _⟩
    case round =>
      obtain ⟨k, r, rfl, rfl, hk, R, G⟩ := hrel
      have HR := Lib.hid R
      clear R
      by_cases hlt : k < X
      · obtain ⟨g, rfl, hg, -, hx0, hx1⟩ := HC.out k hlt
        have c0 := (G.cells.1 g (k * 2) hg).trans hx0
        have c1 := (G.cells.1 g (k * 2 + 1) hg).trans hx1
        have ff := fits_getD HF.out (k := k) (by rw [← HX.out]; exact hlt)
        have tt := Lib.hid (splitL_take L k (by rw [← HX.out]; exact hlt) m)
        have lt2 := Lib.hid (split_len m h2 (L.take k))
        have dk : decide ((k : Int) < (X : Int)) = true := decide_eq_true (by omega)
        have k0 : (0 : Int) ≤ (k : Int) := by omega
        have k1 : (k : Int) < (X : Int) := by omega
        have HX0 := Lib.hid hx0
        have HX1 := Lib.hid hx1
        clear hx0 hx1
        generalize L.getD k (0, 0) = x at *
        obtain ⟨s, d⟩ := x
        simp only at c0 c1 ff HX0 HX1
        have fs := wf_le ff.1
        have fd := wf_le ff.2
        clear ff
        by_cases hs0 : s < 0
        · have no : spB (s, d) = false := by unfold spB; rw [decide_eq_false_iff_not]; simp; omega
          have b0 : decide (s < 0) = true := decide_eq_true hs0
          go_wp2
          go_quiet (fail)
          go_wp2
          go_roundw
          case rel => exact ⟨k + 1, _, rfl, by go_num, by omega, by rw [tt.out, no]; simp only [Bool.false_eq_true, if_false, List.append_nil]; exact HR.out.drewN _, G.drewN _⟩
          case measure => simp [intOf]; omega
        · have b0 : decide (s < 0) = false := decide_eq_false hs0
          by_cases hs1 : 128 < s
          · have no : spB (s, d) = false := by unfold spB; rw [decide_eq_false_iff_not]; simp; omega
            have b1 : decide (128 < s) = true := decide_eq_true hs1
            go_wp2
            go_quiet (fail)
            go_wp2
            go_roundw
            case rel => exact ⟨k + 1, _, rfl, by go_num, by omega, by rw [tt.out, no]; simp only [Bool.false_eq_true, if_false, List.append_nil]; exact HR.out.drewN _, G.drewN _⟩
            case measure => simp [intOf]; omega
          · have b1 : decide (128 < s) = false := decide_eq_false hs1
            have w1 : IntKind.i64.wrap (128 - s) = 128 - s := IntWalk.i64_in _ (by omega)
            by_cases hd : 128 - s < d
            · have no : spB (s, d) = false := by unfold spB; rw [decide_eq_false_iff_not]; simp; omega
              have b2 : decide (128 - s < d) = true := decide_eq_true hd
              go_wp2
              go_quiet (fail)
              clear w1
              go_wp2
              go_roundw
              case rel => exact ⟨k + 1, _, rfl, by go_num, by omega, by rw [tt.out, no]; simp only [Bool.false_eq_true, if_false, List.append_nil]; exact HR.out.drewN _, G.drewN _⟩
              case measure => simp [intOf]; omega
            · have b2 : decide (128 - s < d) = false := decide_eq_false hd
              have hs2 : 0 ≤ s := by omega
              have hs3 : s ≤ 128 := by omega
              have hd2 : d ≤ 128 - s := by omega
              have yes : (if spB (s, d) then partsL s d m else []) = partsL s d m := by
                by_cases hd0 : 0 < d
                · have : spB (s, d) = true := by unfold spB; exact decide_eq_true (by simp; omega)
                  rw [this, if_pos rfl]
                · rw [partsL_zero s d m (by omega)]; simp
              have tt2 := Lib.hid (tt.out.trans (congrArg (splitL (L.take k) m ++ ·) yes))
              have hl3 : (L.take k).length ≤ 500 := by rw [List.length_take]; omega
              have hl4 := lt2.out
              have hl5 : (splitL (L.take k) m).length ≤ 64000 := by omega
              clear hl3 hl4 yes tt lt2
              go_wp2
              go_quiet (fail)
              clear w1 b0 b1 b2
              have HR2 : Hid (RowE 36 2 enc2 (wr.drewN nq) w.heap.size r (splitL (L.take k) m)) := Lib.hid (HR.out.drewN nq)
              have GQ : Grew w (wr.drewN nq) := G.drewN nq
              clear HR c0 c1 G
              generalize wr.drewN nq = y at *
              go_wp2_with fail
              obtain ⟨yo, rfl⟩ : ∃ yo : World, yo = y := ⟨_, rfl⟩
              go_loopw [5, 7] (fun v i wx => ∃ (P : List Sp) (e : Int) (r : Value), r = v ∧ i = .int .i64 e ∧ 0 ≤ e ∧ (e ≤ d ∨ e = 0) ∧ P.length ≤ e.toNat ∧ P ++ partsL (s + e) (d - e) m = partsL s d m ∧ RowE 36 2 enc2 wx w.heap.size r (splitL (L.take k) m ++ P) ∧ Grew w wx) (fun _ i _ => (d - intOf i).toNat)
              case atStart => exact ⟨[], 0, _, rfl, rfl, by omega, .inr rfl, by simp, by simp, by rw [List.append_nil]; exact HR2.out, GQ⟩
              case round =>
                obtain ⟨P, e, r, rfl, rfl, he0, he1, hP, hE, R, G⟩ := hrel
                have c0 := (G.cells.1 g (k * 2) hg).trans HX0.out
                have c1 := (G.cells.1 g (k * 2 + 1) hg).trans HX1.out
                have HE := Lib.hid hE
                clear hE
                by_cases hlt2 : e < d
                · have hLP : (splitL (L.take k) m ++ P).length < 1000000 := by rw [List.length_append]; omega
                  have hpp := Lib.hid (partsL_pos (s + e) (d - e) m h2 (by omega))
                  have hB2 : ∀ o, w.heap.size ≤ (wr.alloc o).heap.size := fun o => by have := G.size; simp; omega
                  obtain ⟨n, hn⟩ : ∃ n, min (d - e) m = n := ⟨_, rfl⟩
                  have hn0 : 1 ≤ n := by omega
                  have hnb : n ≤ d - e := by omega
                  have HN := Lib.hid hn
                  have hmn : d - e = n ∧ d - e ≤ m ∨ m = n ∧ m < d - e := by omega
                  clear hn
                  rcases hmn with ⟨hmn0, hmn⟩ | ⟨rfl, hmn⟩
                  · have HMN := Lib.hid hmn0
                    have hif : (if d - e < m then d - e else m) = d - e := by split <;> omega
                    clear hmn0
                    go_wp2_with (at_builtin; go_loud (refine wpList_append_row _ rfl (.tmp 61) (.tmp 71) 34 rfl w.heap.size info_span Try.underlying34 (by decide) (by decide) enc2_len r (splitL (L.take k) m ++ P) rfl (R.alloc _) _ _ (_, _) rfl (Own.new _ _ _) enc2_one hLP (by decide) (hB2 _) ?_; intro g cap w2 R2 G2 o2))
                    have GX := (G.alloc (.cells #[.int .i64 (s + e), .int .i64 (d - e)] 36)).keptA G2 (fun x h => R.above x h) (Nat.le_refl _)
                    go_roundw
                    case rel =>
                      refine ⟨P ++ [(s + e, d - e)], e + (d - e), _, rfl, by go_num, by omega, by omega, by simp; omega, ?_, by rw [← List.append_assoc]; rw [List.length_append] at R2; exact R2, GX⟩
                      rw [← HE.out, hpp.out, HN.out, HMN.out, Int.sub_self, partsL_zero _ 0 _ (by omega), partsL_zero _ _ _ (by have := HMN.out; omega), List.append_nil]
                    case measure => simp [intOf]; omega
                  · have hif : (if d - e < m then d - e else m) = m := by rw [if_neg (by omega)]
                    go_wp2_with (at_builtin; go_loud (refine wpList_append_row _ rfl (.tmp 61) (.tmp 71) 34 rfl w.heap.size info_span Try.underlying34 (by decide) (by decide) enc2_len r (splitL (L.take k) m ++ P) rfl (R.alloc _) _ _ (_, _) rfl (Own.new _ _ _) enc2_one hLP (by decide) (hB2 _) ?_; intro g cap w2 R2 G2 o2))
                    have GX := (G.alloc (.cells #[.int .i64 (s + e), .int .i64 m] 36)).keptA G2 (fun x h => R.above x h) (Nat.le_refl _)
                    go_roundw
                    case rel =>
                      refine ⟨P ++ [(s + e, m)], e + m, _, rfl, by go_num, by omega, by omega, by simp; omega, ?_, by rw [← List.append_assoc]; rw [List.length_append] at R2; exact R2, GX⟩
                      rw [← HE.out, hpp.out, HN.out, List.append_assoc, show s + (e + m) = s + e + m from by omega, show d - (e + m) = d - e - m from by omega]
                      rfl
                    case measure => simp [intOf]; omega
                · go_wp2
                  go_roundw
                  case rel =>
                    refine ⟨k + 1, _, rfl, by go_num, by omega, ?_, G⟩
                    rw [tt2.out, ← HE.out, partsL_zero _ _ _ (by omega), List.append_nil]
                    exact R
                  case measure => simp [intOf]; omega
      · have hkX : k = X := by omega
        subst hkX
        go_wp2
        go_ret
        refine ⟨r, rfl, ?_, G⟩
        have := HR.out
        rwa [List.take_of_length_le (by rw [← HX.out]; omega)] at this

/-- Two rows of the same spans are the same. -/
def RetTrue (w : World) (e : Ending) (w' : World) : Prop := e = .returned (.bool true) ∧ ∃ n, w' = w.drewN n
set_option maxHeartbeats 4000000 in
theorem same_eq (B C : Nat) (u v : Value) (L : List Sp) (w : World) (hL : L.length ≤ 1000000) (R : RowE 36 2 enc2 w B u L) (S : RowE 36 2 enc2 w C v L) :
    Calls Try.prog 19 #[u, v] w (RetG (.bool true) w) := by
  obtain ⟨a, X, c, rfl, hX, hcell⟩ := R.pairs
  obtain ⟨a2, X2, c2, rfl, hX2, hcell2⟩ := S.pairs
  have e : X2 = X := by rw [hX, hX2]
  subst e
  have HC := Lib.hid hcell
  have HC2 := Lib.hid hcell2
  have hXb : X2 ≤ 1000000 := by omega
  clear hX hX2 R S hcell hcell2 hL
  go_enter Try.func19, Try.ntmps19
  go_wp2
  go_loopw [5] (fun i wr => ∃ k : Nat, i = .int .i64 k ∧ k ≤ X2 ∧ ∃ n, wr = w.drewN n) (fun i _ => X2 - (intOf i).toNat)
  case atStart => exact ⟨0, rfl, by omega, 0, rfl⟩
  case round =>
    obtain ⟨k, rfl, hk, n, rfl⟩ := hrel
    by_cases hlt : k < X2
    · obtain ⟨g, rfl, hg, -, x0, x1⟩ := HC.out k hlt
      obtain ⟨g2, rfl, hg2, -, y0, y1⟩ := HC2.out k hlt
      generalize L.getD k (0, 0) = x at *
      obtain ⟨s, d⟩ := x
      simp only at x0 x1 y0 y1
      have k0 : (0 : Int) ≤ (k : Int) := by omega
      have k1 : (k : Int) < (X2 : Int) := by omega
      go_wp2
      go_quiet (fail)
      go_wp2
      go_roundw
      case rel => exact ⟨k + 1, by go_num, by omega, _, rfl⟩
      case measure => simp [intOf]; omega
    · go_wp2
      go_ret
      exact ⟨rfl, (Grew.refl _).drewN _⟩
end Go.Proofs.Ytfoeemibhkkbgaa

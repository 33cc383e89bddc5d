/- Package readahead: windows (layer 7): contracts. -/
import Derived.Test.YtfljohgcbihhbaaDoorRows
import Derived.Test.YtfljohgcbihhbaaDoorWn
import Derived.Test.YtfljohgcbihhbaaDoorStF
import Derived.Deep.RegionHeld3
import Derived.Deep.RegionWith
namespace Go.Proofs.YtfljohgcbihhbaaDoor
open Go.RowKit Go.Mine

/-- The package's table of sizes lies as its text lays it. -/
def Sz (w : World) : Prop := w.cell? ⟨0, 0, none⟩ = some (.int .i64 2) ∧ w.cell? ⟨0, 1, none⟩ = some (.int .i64 4) ∧ w.cell? ⟨0, 2, none⟩ = some (.int .i64 8)
theorem Sz.lt {w : World} (h : Sz w) : 0 < w.heap.size := World.block_lt_of_cell? w _ h.1
theorem Sz.grew {w w' : World} (h : Sz w) (G : Grew w w') : Sz w' :=
  ⟨(G.cells.1 _ 0 h.lt).trans h.1, (G.cells.1 _ 1 h.lt).trans h.2.1, (G.cells.1 _ 2 h.lt).trans h.2.2⟩
theorem Sz.past {w w' : World} (h : Sz w) {b : Nat} (g : w.grownBy w' (some b)) (hb : ¬b = 0) : Sz w' := by
  have e := g.block _ h.lt (fun e => hb (by injection e with e; exact e.symm))
  exact ⟨(World.cell?_of_block (a := ⟨_, 0, none⟩) e).trans h.1, (World.cell?_of_block (a := ⟨_, 1, none⟩) e).trans h.2.1, (World.cell?_of_block (a := ⟨_, 2, none⟩) e).trans h.2.2⟩
def wiB (n a b : Int) : Bool := decide (a ≤ n ∧ n ≤ b)
theorem isWithin_any (n a b : Int) (w : World) : Calls Tryd.prog 37 #[.int .i64 n, .int .i64 a, .int .i64 b] w (RetS (.bool (wiB n a b)) w) := by
  by_cases h : a ≤ n
  · have e := Lib.hid (show decide (n ≤ b) = wiB n a b from decide_eq_decide.2 (by omega))
    go_enter Tryd.func37, Tryd.ntmps37
    go_wp2
    go_ret
    exact ⟨ret_bool e.out, rfl⟩
  · have e := Lib.hid (show false = wiB n a b from (decide_eq_false (by omega)).symm)
    go_enter Tryd.func37, Tryd.ntmps37
    go_wp2
    go_ret
    exact ⟨ret_bool e.out, rfl⟩
theorem isWithin_v {v : Bool} (n a b : Int) (w : World) (h : wiB n a b = v) : Calls Tryd.prog 37 #[.int .i64 n, .int .i64 a, .int .i64 b] w (RetS (.bool v) w) := h ▸ isWithin_any n a b w
theorem sx0 (w : World) : (Instr.index 58 (.agg #[.int .i64 2, .int .i64 4, .int .i64 8]) (.int .i64 0)).run Tryd.prog w = .ok (.int .i64 2) w := by kernel_rfl
theorem sx1 (w : World) : (Instr.index 58 (.agg #[.int .i64 2, .int .i64 4, .int .i64 8]) (.int .i64 1)).run Tryd.prog w = .ok (.int .i64 4) w := by kernel_rfl
theorem sx2 (w : World) : (Instr.index 58 (.agg #[.int .i64 2, .int .i64 4, .int .i64 8]) (.int .i64 2)).run Tryd.prog w = .ok (.int .i64 8) w := by kernel_rfl
theorem first_any (n : Int) (w : World) (h : Sz w) : Calls Tryd.prog 16 #[.int .i64 n] w (RetS (.int .i64 (firF n)) w) := by
  obtain ⟨s0, s1, s2⟩ := h
  have x0 := sx0
  have x1 := sx1
  have x2 := sx2
  by_cases h1 : n ≤ 1
  · have e := Lib.hid (show firF n = 2 from by rw [firF, if_pos h1])
    go_enter Tryd.func16, Tryd.ntmps16
    go_wp2
    refine wp_loop_rounds 4 ?_
    rw [rounds_succ]
    go_wp2
    go_ret
    exact ⟨ret_int e.out.symm, rfl⟩
  · by_cases h2 : n ≤ 2
    · have e := Lib.hid (show firF n = 4 from by rw [firF, if_neg h1, if_pos h2])
      go_enter Tryd.func16, Tryd.ntmps16
      go_wp2
      refine wp_loop_rounds 4 ?_
      rw [rounds_succ]
      go_wp2
      rw [rounds_succ]
      go_wp2
      go_ret
      exact ⟨ret_int e.out.symm, rfl⟩
    · have e := Lib.hid (show firF n = 8 from by rw [firF, if_neg h1, if_neg h2])
      by_cases h3 : n ≤ 4
      · go_enter Tryd.func16, Tryd.ntmps16
        go_wp2
        refine wp_loop_rounds 4 ?_
        rw [rounds_succ]
        go_wp2
        rw [rounds_succ]
        go_wp2
        rw [rounds_succ]
        go_wp2
        go_ret
        exact ⟨ret_int e.out.symm, rfl⟩
      · go_enter Tryd.func16, Tryd.ntmps16
        go_wp2
        refine wp_loop_rounds 4 ?_
        rw [rounds_succ]
        go_wp2
        rw [rounds_succ]
        go_wp2
        rw [rounds_succ]
        go_wp2
        rw [rounds_succ]
        go_wp2
        go_ret
        exact ⟨ret_int e.out.symm, rfl⟩
theorem wgrown_any (n : Int) (w : World) : Calls Tryd.prog 18 #[.int .i64 n] w (RetS (.int .i64 (groF n)) w) := by
  by_cases h1 : n < 1
  · have e := Lib.hid (show groF n = 1 from by rw [groF, if_pos h1])
    go_enter Tryd.func18, Tryd.ntmps18
    go_wp2
    go_ret
    exact ⟨ret_int e.out.symm, rfl⟩
  · by_cases h4 : n ≤ 4
    · have e := Lib.hid (show groF n = 2 * n from by rw [groF, if_neg h1, if_pos h4])
      go_enter Tryd.func18, Tryd.ntmps18
      go_wp2
      go_ret
      exact ⟨ret_int e.out.symm, rfl⟩
    · have e := Lib.hid (show groF n = 8 from by rw [groF, if_neg h1, if_neg h4])
      go_enter Tryd.func18, Tryd.ntmps18
      go_wp2
      go_ret
      exact ⟨ret_int e.out.symm, rfl⟩
theorem behind_any (x : Wn) (w : World) (h0 : 0 ≤ x.s + x.n) (h1 : x.s + x.n ≤ 100000) : Calls Tryd.prog 36 #[wnV x] w (RetG (.int .i64 (x.s + x.n)) w) := by
  have G : Grew w (w.alloc (.cells (csW x) 32)) := (Grew.refl _).alloc _
  go_enter Tryd.func36, Tryd.ntmps36
  go_wp2
  go_ret
  exact ⟨rfl, G⟩
theorem zer_cases (x : Wn) : ZerP x ∨ ((x.s == 0) = false ∧ ¬ZerP x) ∨ (x.s = 0 ∧ (x.n == 0) = false ∧ ¬ZerP x) ∨ (x.s = 0 ∧ x.n = 0 ∧ (x.y == 0) = false ∧ ¬ZerP x) := by
  unfold ZerP
  by_cases h1 : x.s = 0
  · by_cases h2 : x.n = 0
    · by_cases h3 : x.y = 0
      · exact .inl ⟨h1, h2, h3⟩
      · exact .inr (.inr (.inr ⟨h1, h2, beqF h3, fun h => h3 h.2.2⟩))
    · exact .inr (.inr (.inl ⟨h1, beqF h2, fun h => h2 h.2.1⟩))
  · exact .inr (.inl ⟨beqF h1, fun h => h1 h.1⟩)
theorem check_zero (w : World) : Calls Tryd.prog 14 #[wnV zW] w (RetG (.bool true) w) := by
  have G : Grew w (w.alloc (.cells (csW zW) 32)) := (Grew.refl _).alloc _
  go_enter Tryd.func14, Tryd.ntmps14
  go_wp2
  go_ret
  exact ⟨rfl, G⟩
set_option maxHeartbeats 2000000 in
theorem wcheck_any (x : Wn) (w : World) : Calls Tryd.prog 14 #[wnV x] w (RetG (.bool (wokB x)) w) := by
  obtain ⟨s, n, y⟩ := x
  have hW : ¬ZerP ⟨s, n, y⟩ → wokB ⟨s, n, y⟩ = (wiB s 0 255 && wiB n 1 8 && wiB y 0 n) := fun hz => by rw [Bool.eq_iff_iff]; simp [wokB, WokP, hz, wiB]; omega
  rcases zer_cases ⟨s, n, y⟩ with h | ⟨h, hz⟩ | ⟨h', h, hz⟩ | ⟨h', h'', h, hz⟩
  · obtain ⟨h1, h2, h3⟩ := h
    simp only at h1 h2 h3
    subst h1 h2 h3
    exact check_zero w
  · have HW := Lib.hid (hW hz)
    simp only at h
    clear hz hW
    cases h1 : wiB s 0 255
    all_goals
      cases h2 : wiB n 1 8
      all_goals
        cases h3 : wiB y 0 n
        all_goals
         go_enter Tryd.func14, Tryd.ntmps14
         go_wp2_with (first
           | (go_at_call 37; (with_reducible refine (isWithin_v _ 0 255 _ h1).mono ?_); rintro e w1 ⟨rfl, rfl⟩)
           | (go_at_call 37; (with_reducible refine (isWithin_v _ 1 8 _ h2).mono ?_); rintro e w1 ⟨rfl, rfl⟩)
           | (go_at_call 37; (with_reducible refine (isWithin_v _ _ _ _ h3).mono ?_); rintro e w1 ⟨rfl, rfl⟩))
         go_ret
         exact ⟨ret_bool (by rw [HW.out, h1, h2, h3]; rfl), (Grew.refl _).alloc _⟩
  · simp only at h' h
    subst h'
    have HW := Lib.hid (hW hz)
    clear hz hW
    cases h1 : wiB 0 0 255
    all_goals
      cases h2 : wiB n 1 8
      all_goals
        cases h3 : wiB y 0 n
        all_goals
         go_enter Tryd.func14, Tryd.ntmps14
         go_wp2_with (first
           | (go_at_call 37; (with_reducible refine (isWithin_v _ 0 255 _ h1).mono ?_); rintro e w1 ⟨rfl, rfl⟩)
           | (go_at_call 37; (with_reducible refine (isWithin_v _ 1 8 _ h2).mono ?_); rintro e w1 ⟨rfl, rfl⟩)
           | (go_at_call 37; (with_reducible refine (isWithin_v _ _ _ _ h3).mono ?_); rintro e w1 ⟨rfl, rfl⟩))
         go_ret
         exact ⟨ret_bool (by rw [HW.out, h1, h2, h3]; rfl), (Grew.refl _).alloc _⟩
  · simp only at h' h'' h
    subst h' h''
    have HW := Lib.hid (hW hz)
    clear hz hW
    cases h1 : wiB 0 0 255
    all_goals
      cases h2 : wiB 0 1 8
      all_goals
        cases h3 : wiB y 0 0
        all_goals
         go_enter Tryd.func14, Tryd.ntmps14
         go_wp2_with (first
           | (go_at_call 37; (with_reducible refine (isWithin_v _ 0 255 _ h1).mono ?_); rintro e w1 ⟨rfl, rfl⟩)
           | (go_at_call 37; (with_reducible refine (isWithin_v _ 1 8 _ h2).mono ?_); rintro e w1 ⟨rfl, rfl⟩)
           | (go_at_call 37; (with_reducible refine (isWithin_v _ _ _ _ h3).mono ?_); rintro e w1 ⟨rfl, rfl⟩))
         go_ret
         exact ⟨ret_bool (by rw [HW.out, h1, h2, h3]; rfl), (Grew.refl _).alloc _⟩
theorem wcheck_v {v : Bool} (x : Wn) (w : World) (h : wokB x = v) : Calls Tryd.prog 14 #[wnV x] w (RetG (.bool v) w) := h ▸ wcheck_any x w
end Go.Proofs.YtfljohgcbihhbaaDoor

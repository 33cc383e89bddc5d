/- The program's zones (layer 10): fits, has, gives, lacks, IsSorted, hasFree, isRight. -/
import Derived.Test.YtphccdfdknihdaaZr2
namespace Go.Proofs.Ytphccdfdknihdaa
open Go.RowKit Go.Mine

def fitB (f s : Int) : Bool := decide (1 ≤ s ∧ s ≤ 65 - f)
theorem fits_p {f s : Int} {b : Bool} {w : World} (h1 : 1 ≤ f) (h2 : f ≤ 65) (hb : fitB f s = b) : Calls Try.prog 42 #[.int .i64 f, .int .i64 s] w (RetS (.bool b) w) := by
  have HB := Lib.hid hb
  clear hb
  by_cases t1 : 1 ≤ s
  · have e : (0 : Int) ≤ 65 - f := by omega
    by_cases t2 : s ≤ 65 - f
    · have HE : Hid (b = true) := Lib.hid (by rw [← HB.out]; exact decide_eq_true ⟨t1, t2⟩)
      go_enter Try.func42, Try.ntmps42
      go_wp2
      go_ret
      exact ⟨ret_bool HE.out.symm, rfl⟩
    · have HE : Hid (b = false) := Lib.hid (by rw [← HB.out]; exact decide_eq_false fun h => t2 h.2)
      go_enter Try.func42, Try.ntmps42
      go_wp2
      go_ret
      exact ⟨ret_bool HE.out.symm, rfl⟩
  · have HE : Hid (b = false) := Lib.hid (by rw [← HB.out]; exact decide_eq_false fun h => t1 h.1)
    go_enter Try.func42, Try.ntmps42
    go_wp2
    go_ret
    exact ⟨ret_bool HE.out.symm, rfl⟩
abbrev zoW (z : Zo) (a : Option Addr) (n c : Nat) : Value := .agg #[.int .i64 z.f, .int .i64 z.s, .int .i64 z.mn, .int .i64 z.lo, .int .i64 z.hi, .slice a n c]
theorem has_p {z : Zo} {a : Option Addr} {n c : Nat} {f : Int} {b : Bool} {w : World} (h1 : 1 ≤ z.f) (h2 : 1 ≤ z.s) (h3 : z.f + z.s ≤ 65) (hb : inZ f z = b) : Calls Try.prog 35 #[zoW z a n c, .int .i64 f] w (RetG (.bool b) w) := by
  obtain ⟨zf, zs, zm, zl, zh, fr⟩ := z
  simp only at h1 h2 h3
  have HB := Lib.hid hb
  have HG := Lib.hid ((Grew.refl w).alloc (.cells (cZ zf zs zm zl zh a n c) 42))
  clear hb
  by_cases t1 : zf ≤ f
  · by_cases t2 : f < zf + zs
    · have HE : Hid (b = true) := Lib.hid (by rw [← HB.out]; exact decide_eq_true ⟨t1, t2⟩)
      go_enter Try.func35, Try.ntmps35
      go_wp2
      go_ret
      exact ⟨ret_bool HE.out.symm, HG.out⟩
    · have HE : Hid (b = false) := Lib.hid (by rw [← HB.out]; exact decide_eq_false fun h => t2 h.2)
      go_enter Try.func35, Try.ntmps35
      go_wp2
      go_ret
      exact ⟨ret_bool HE.out.symm, HG.out⟩
  · have HE : Hid (b = false) := Lib.hid (by rw [← HB.out]; exact decide_eq_false fun h => t1 h.1)
    go_enter Try.func35, Try.ntmps35
    go_wp2
    go_ret
    exact ⟨ret_bool HE.out.symm, HG.out⟩
theorem gives_p {z : Zo} {a : Option Addr} {n c : Nat} {u b : Bool} {w : World} (hn : n = z.fr.length) (h1 : 0 ≤ z.mn) (hl : z.fr.length ≤ 1000) (hb : hasZ u z = b) : Calls Try.prog 31 #[zoW z a n c, .bool u] w (RetG (.bool b) w) := by
  subst hn
  obtain ⟨zf, zs, zm, zl, zh, fr⟩ := z
  simp only at h1 hl
  have HB := Lib.hid hb
  have HG := Lib.hid ((Grew.refl w).alloc (.cells (cZ zf zs zm zl zh a fr.length c) 42))
  clear hb
  cases u
  · by_cases t1 : zm < (fr.length : Int)
    · have HE : Hid (b = true) := Lib.hid (by rw [← HB.out]; simp [hasZ, t1])
      go_enter Try.func31, Try.ntmps31
      go_wp2
      go_ret
      exact ⟨ret_bool HE.out.symm, HG.out⟩
    · have HE : Hid (b = false) := Lib.hid (by rw [← HB.out]; simp [hasZ]; omega)
      go_enter Try.func31, Try.ntmps31
      go_wp2
      go_ret
      exact ⟨ret_bool HE.out.symm, HG.out⟩
  · obtain ⟨m, hm⟩ : ∃ m, fr.length = m := ⟨_, rfl⟩
    rw [hm] at HG hl
    by_cases t1 : m = 0
    · have HE : Hid (b = false) := Lib.hid (by rw [← HB.out]; simp [hasZ, hm, t1]; omega)
      subst t1
      go_enter Try.func31, Try.ntmps31
      go_wp2
      go_ret
      exact ⟨ret_bool HE.out.symm, HG.out⟩
    · have HE : Hid (b = true) := Lib.hid (by rw [← HB.out]; simp [hasZ, hm]; omega)
      have t2 : (0 : Int) < (m : Int) := by omega
      have t3 : 0 < m := by omega
      go_enter Try.func31, Try.ntmps31
      go_wp2
      go_ret
      exact ⟨ret_bool HE.out.symm, HG.out⟩
theorem lacks_p {z : Zo} {a : Option Addr} {c : Nat} {k x : Int} {w : World} (h1 : 0 ≤ k) (h2 : k ≤ 1000) (hl : z.fr.length ≤ 1000) (hx : max (k - (z.fr.length : Int)) 0 = x) : Calls Try.prog 41 #[zoV z a c, .int .i64 k] w (RetG (.int .i64 x) w) := by
  obtain ⟨zf, zs, zm, zl, zh, fr⟩ := z
  simp only at hl hx
  have HX := Lib.hid hx
  have HG := Lib.hid ((Grew.refl w).alloc (.cells (cZ zf zs zm zl zh a fr.length c) 42))
  clear hx
  by_cases t1 : (fr.length : Int) < k
  · have HE : Hid (x = k - (fr.length : Int)) := Lib.hid (by rw [← HX.out]; omega)
    go_enter Try.func41, Try.ntmps41
    go_wp2
    all_goals
      go_ret
      exact ⟨ret_int (by have := HE.out; omega), HG.out⟩
  · have HE : Hid (x = 0) := Lib.hid (by rw [← HX.out]; omega)
    go_enter Try.func41, Try.ntmps41
    go_wp2
    all_goals
      go_ret
      exact ⟨ret_int (by have := HE.out; omega), HG.out⟩
theorem nan_p (x : Int) (w : World) : Calls Try.prog 50 #[.int .i64 x] w (RetS (.bool false) w) := by
  go_enter Try.func50, Try.ntmps50
  go_wp2
  go_ret
  exact ⟨by simp, rfl⟩
theorem less_p {x y : Int} {b : Bool} {w : World} (hb : decide (x < y) = b) : Calls Try.prog 46 #[.int .i64 x, .int .i64 y] w (RetS (.bool b) w) := by
  subst hb
  go_enter Try.func46, Try.ntmps46
  go_wp2_with ((go_at_call 50; (with_reducible refine (nan_p _ _).mono ?_); rintro e w1 ⟨rfl, rfl⟩))
  go_ret
  exact ⟨by simp, rfl⟩
theorem less_q {x y : Int} {b : Bool} {w : World} (hb : decide (x < y) = b) : Calls Try.prog 46 #[.int .i64 x, .int .i64 y] w fun e w' => e = .returned (.bool b) ∧ w' = w := (less_p hb).mono fun e w' ⟨h1, h2⟩ => ⟨h1, h2.symm⟩
/-- In order from a place on. -/
def SrtK (xs : List Int) (i : Nat) : Prop := ∀ j, i ≤ j → j + 1 < xs.length → xs.getD j 0 ≤ xs.getD (j + 1) 0
set_option maxHeartbeats 1000000 in
theorem sorted_p {xs : List Int} {n c g : Nat} {b : Bool} {w : World} (hn : xs.length = n) (hl : xs.length ≤ 1000) (h0 : 0 < xs.length) (hc : ∀ k, k < xs.length → w.cell? ⟨g, k, none⟩ = some (.int .i64 (xs.getD k 0))) (hb : b = true ↔ SrtK xs 0) :
    Calls Try.prog 48 #[.slice (some ⟨g, 0, none⟩) n c] w fun e w' => e = .returned (.bool b) ∧ Grew w w' := by
  have HC := Lib.hid hc
  have HB := Lib.hid hb
  have HN := Lib.hid hn
  rw [hn] at hl h0
  clear hc hb hn
  go_enter Try.func48, Try.ntmps48
  go_wp2_with fail
  go_loopw [3] (fun iv wr => ∃ i : Nat, iv = .int .i64 i ∧ i < n ∧ Hid (SrtK xs i) ∧ Grew w wr) (fun iv _ => (intOf iv).toNat)
  case atStart => exact ⟨n - 1, by go_num, by omega, Lib.hid fun j h1 h2 => by rw [HN.out] at h2; omega, Grew.refl _⟩
  case round =>
    obtain ⟨i, rfl, hi, HS, G⟩ := hrel
    by_cases h1 : i = 0
    · subst h1
      have HE := Lib.hid (HB.out.2 HS.out)
      go_wp2
      go_ret
      exact ⟨ret_bool HE.out.symm, G⟩
    · obtain ⟨j, rfl⟩ : ∃ j, i = j + 1 := ⟨i - 1, by omega⟩
      have c0 := HC.out j (by rw [HN.out]; omega)
      have c1 := HC.out (j + 1) (by rw [HN.out]; omega)
      have hg := World.block_lt_of_cell? w _ c0
      have d0 := (G.cells.1 g _ hg).trans c0
      have d1 := (G.cells.1 g _ hg).trans c1
      have HT : Hid (¬xs.getD (j + 1) 0 < xs.getD j 0 → SrtK xs j) := Lib.hid fun h k h1 h2 => by
        by_cases e : k = j
        · subst e; omega
        · exact HS.out k (by omega) h2
      have HF : Hid (xs.getD (j + 1) 0 < xs.getD j 0 → b = false) := Lib.hid fun h => by
        cases b
        · rfl
        · have := HB.out.1 rfl j (by omega) (by rw [HN.out]; omega)
          omega
      generalize xs.getD (j + 1) 0 = y at *
      generalize xs.getD j 0 = x at *
      have HG := Lib.hid G
      have j0 : (0 : Int) ≤ (j : Int) := by omega
      have j1 : (j : Int) + 1 < (n : Int) := by omega
      have j2 : (j : Int) < (n : Int) := by omega
      clear G c0 c1
      cases ht : decide (y < x)
      · have HS2 := Lib.hid (HT.out (of_decide_eq_false ht))
        have HH := Lib.hid ht
        clear ht
        go_upto_region 4 with fail
        go_quiet ((go_at_call 46; exact Calls.quiet_of_same (less_q HH.out)))
        revert nq; intro nq1
        go_wp2
        exact ⟨⟨j, by go_num, by omega, HS2, HG.out.drewN nq1⟩, by simp [intOf] <;> omega⟩
      · have HE := Lib.hid (HF.out (of_decide_eq_true ht))
        have HH := Lib.hid ht
        clear ht
        go_upto_region 4 with fail
        go_quiet ((go_at_call 46; exact Calls.quiet_of_same (less_q HH.out)))
        revert nq; intro nq1
        go_wp2
        go_ret
        exact ⟨ret_bool HE.out.symm, HG.out.drewN nq1⟩
end Go.Proofs.Ytphccdfdknihdaa

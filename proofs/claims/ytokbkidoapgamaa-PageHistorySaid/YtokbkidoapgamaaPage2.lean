/- The contracts of package page (layer 2), second part. -/
import Derived.Test.YtokbkidoapgamaaPage
namespace Go.Proofs.Ytokbkidoapgamaa
open Go.RowKit Go.Mine

set_option maxHeartbeats 400000 in
theorem touched_any (s n : Int) (w : World) (h0 : 0 ≤ s) (h1 : 0 ≤ n) (h2 : s ≤ 16) (h3 : s + n ≤ 16) :
    Calls Try.prog 21 #[.int .i64 s, .int .i64 n] w (RetS (.int .i64 (secs s n 1)) w) := by
  go_enter Try.func21, Try.ntmps21
  go_wp2_with (go_at_call 29; refine (sectorsWith_any _ _ _ _ h0 h1 h2 h3 (by omega) (by omega)).mono ?_; rintro e w' ⟨rfl, rfl⟩)
  go_ret
  exact ⟨rfl, rfl⟩

set_option maxHeartbeats 400000 in
theorem covered_any (s n : Int) (w : World) (h0 : 0 ≤ s) (h1 : 0 ≤ n) (h2 : s ≤ 16) (h3 : s + n ≤ 16) :
    Calls Try.prog 22 #[.int .i64 s, .int .i64 n] w (RetS (.int .i64 (secs s n 8)) w) := by
  go_enter Try.func22, Try.ntmps22
  go_wp2_with (go_at_call 29; refine (sectorsWith_any _ _ _ _ h0 h1 h2 h3 (by omega) (by omega)).mono ?_; rintro e w' ⟨rfl, rfl⟩)
  go_ret
  exact ⟨rfl, rfl⟩

/-- The box of a page that is handed over. -/
abbrev boxP (d : ByteArray) (v t : Int) : Obj := .cells #[.string d, .int .i64 v, .int .i64 t] 29
abbrev pageV (d : ByteArray) (v t : Int) : Value := .agg #[.string d, .int .i64 v, .int .i64 t]
def rightB (d : ByteArray) (v t : Int) : Bool := decide (d.size = 16) && (setB v && (setB t && decide (bits .andNot .i64 t v = 0)))

set_option maxHeartbeats 1000000 in
theorem check_any (d : ByteArray) (v t : Int) (w : World) :
    Calls Try.prog 14 #[pageV d v t] w (RetS (.bool (rightB d v t)) (w.alloc (boxP d v t))) := by
  by_cases h1 : d.size = 16
  · by_cases h2 : setB v = true
    · by_cases h3 : setB t = true
      · go_enter Try.func14, Try.ntmps14
        go_wp2_with (go_at_call 27; refine (isSet_any _ _).mono ?_; rintro e w' ⟨rfl, rfl⟩)
        go_ret
        refine ⟨ret_bool ?_, rfl⟩
        simp [rightB, h1, h2, h3]
        rfl
      · have h3' : setB t = false := by simpa using h3
        clear h3
        go_enter Try.func14, Try.ntmps14
        go_wp2_with (go_at_call 27; refine (isSet_any _ _).mono ?_; rintro e w' ⟨rfl, rfl⟩)
        go_ret
        refine ⟨ret_bool ?_, rfl⟩
        simp [rightB, h3']
    · have h2' : setB v = false := by simpa using h2
      clear h2
      go_enter Try.func14, Try.ntmps14
      go_wp2_with (go_at_call 27; refine (isSet_any _ _).mono ?_; rintro e w' ⟨rfl, rfl⟩)
      go_ret
      refine ⟨ret_bool ?_, rfl⟩
      simp [rightB, h2']
  · have h1' : ((d.size : Int) == 16) = false := by simp; omega
    go_enter Try.func14, Try.ntmps14
    go_wp2
    go_ret
    refine ⟨ret_bool ?_, rfl⟩
    simp [rightB, h1]

def mixP (a b : ByteArray) (s : Int) : ByteArray := (if s = 1 ∨ s = 3 then b else a).extract 0 8 ++ (if s = 2 ∨ s = 3 then b else a).extract 8 16
theorem empty_app (a : ByteArray) : ({ data := #[] } : ByteArray) ++ a = a := ByteArray.empty_append

set_option maxHeartbeats 1000000 in
theorem mix_any (a b : ByteArray) (s : Int) (w : World) (ha : a.size = 16) (hb : b.size = 16) (hs : s = 0 ∨ s = 1 ∨ s = 2 ∨ s = 3) :
    Calls Try.prog 19 #[.string a, .string b, .int .i64 s] w (RetS (.string (mixP a b s)) w) := by
  rcases hs with rfl | rfl | rfl | rfl
  all_goals
    go_enter Try.func19, Try.ntmps19
    go_wp2
    refine wp_loop_rounds 3 ?_; rw [rounds_succ]
    go_wp2
    rw [rounds_succ]
    go_wp2
    rw [rounds_succ]
    go_wp2
    go_ret
    refine ⟨ret_str ?_, rfl⟩
    rw [empty_app]
    simp [mixP]

/-! Needs and what rests on it. -/
def needN (v s n : Int) (wr : Bool) : Int := bits .andNot .i64 (if wr = true then bits .andNot .i64 (secs s n 1) (secs s n 8) else secs s n 1) v
def needE (d : ByteArray) (v t s n : Int) : Int := if rightB d v t = true then (if rangeB s n = true then 0 else 2) else 1

theorem rangeB_iff {s n : Int} (h : rangeB s n = true) : 0 ≤ s ∧ 0 ≤ n ∧ s ≤ 16 ∧ s + n ≤ 16 := by simpa [rangeB] using h

set_option maxHeartbeats 1000000 in
theorem needs_bad (d : ByteArray) (v t s n : Int) (wr : Bool) (w : World) (hr : rightB d v t = false) :
    Calls Try.prog 9 #[pageV d v t, .int .i64 s, .int .i64 n, .bool wr] w (RetS (.tuple #[.int .i64 0, .int .i64 1]) ((w.alloc (boxP d v t)).alloc (boxP d v t))) := by
  go_enter Try.func9, Try.ntmps9
  go_wp2_with (go_at_call 14; (with_reducible refine (check_any _ _ _ _).mono ?_); rintro e w1 ⟨rfl, rfl⟩)
  go_ret2
  exact ⟨rfl, rfl⟩

set_option maxHeartbeats 1000000 in
theorem needs_off (d : ByteArray) (v t s n : Int) (wr : Bool) (w : World) (hr : rightB d v t = true) (hg : rangeB s n = false) :
    Calls Try.prog 9 #[pageV d v t, .int .i64 s, .int .i64 n, .bool wr] w (RetS (.tuple #[.int .i64 0, .int .i64 2]) ((w.alloc (boxP d v t)).alloc (boxP d v t))) := by
  go_enter Try.func9, Try.ntmps9
  go_wp2_with (first
    | (go_at_call 14; (with_reducible refine (check_any _ _ _ _).mono ?_); rintro e w1 ⟨rfl, rfl⟩)
    | (go_at_call 20; (with_reducible refine (isRange_any _ _ _).mono ?_); rintro e w1 ⟨rfl, rfl⟩))
  go_ret2
  exact ⟨rfl, rfl⟩

set_option maxHeartbeats 1000000 in
theorem needs_ok (d : ByteArray) (v t s n : Int) (wr : Bool) (w : World) (hr : rightB d v t = true) (hg : rangeB s n = true) :
    Calls Try.prog 9 #[pageV d v t, .int .i64 s, .int .i64 n, .bool wr] w (RetS (.tuple #[.int .i64 (needN v s n wr), .int .i64 0]) ((w.alloc (boxP d v t)).alloc (boxP d v t))) := by
  obtain ⟨h0, h1, h2, h3⟩ := rangeB_iff hg
  cases wr
  all_goals
    go_enter Try.func9, Try.ntmps9
    go_wp2_with (first
      | (go_at_call 14; (with_reducible refine (check_any _ _ _ _).mono ?_); rintro e w1 ⟨rfl, rfl⟩)
      | (go_at_call 20; (with_reducible refine (isRange_any _ _ _).mono ?_); rintro e w1 ⟨rfl, rfl⟩)
      | (go_at_call 21; (with_reducible refine (touched_any _ _ _ h0 h1 h2 h3).mono ?_); rintro e w1 ⟨rfl, rfl⟩)
      | (go_at_call 22; (with_reducible refine (covered_any _ _ _ h0 h1 h2 h3).mono ?_); rintro e w1 ⟨rfl, rfl⟩))
    go_ret2
    exact ⟨by simp [needN], rfl⟩
end Go.Proofs.Ytokbkidoapgamaa

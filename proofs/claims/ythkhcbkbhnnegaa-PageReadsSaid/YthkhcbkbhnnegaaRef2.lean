/- The contracts of the document's answers for layer 2. -/
import Derived.Test.YthkhcbkbhnnegaaPage2
namespace Go.Proofs.Ythkhcbkbhnnegaa
open Go.RowKit Go.Mine

set_option maxHeartbeats 1000000 in
theorem rCheck_any (d : ByteArray) (v t : Int) (w : World) :
    Calls Try.prog 17 #[pageV d v t] w (RetS (.bool (rightB d v t)) (w.alloc (boxP d v t))) := by
  by_cases h1 : d.size = 16
  · by_cases h2 : setB v = true
    · have hv := h2
      simp only [setB, decide_eq_true_eq] at hv
      obtain ⟨v0, v3⟩ := hv
      by_cases h3 : setB t = true
      · have ht := h3
        simp only [setB, decide_eq_true_eq] at ht
        obtain ⟨t0, t3⟩ := ht
        go_enter Try.func17, Try.ntmps17
        go_wp2
        go_ret
        refine ⟨ret_bool ?_, rfl⟩
        simp [rightB, h1, h2, h3]
        rfl
      · have h3' : setB t = false := by simpa using h3
        have ht := h3'
        simp only [setB, decide_eq_false_iff_not] at ht
        clear h3
        go_enter Try.func17, Try.ntmps17
        go_wp2
        all_goals
          go_ret
          refine ⟨ret_bool ?_, rfl⟩
          simp [rightB, h3']
          try omega
    · have h2' : setB v = false := by simpa using h2
      have hv := h2'
      simp only [setB, decide_eq_false_iff_not] at hv
      clear h2
      go_enter Try.func17, Try.ntmps17
      go_wp2
      all_goals
        go_ret
        refine ⟨ret_bool ?_, rfl⟩
        simp [rightB, h2']
        try omega
  · have h1' : ((d.size : Int) == 16) = false := by simp; omega
    go_enter Try.func17, Try.ntmps17
    go_wp2
    go_ret
    refine ⟨ret_bool ?_, rfl⟩
    simp [rightB, h1]

set_option maxHeartbeats 400000 in
theorem rRanged_any (s n : Int) (w : World) :
    Calls Try.prog 37 #[.int .i64 s, .int .i64 n] w (RetS (.bool (rangeB s n)) w) := by
  go_enter Try.func37, Try.ntmps37
  go_wp2
  all_goals
    go_ret
    refine ⟨ret_bool ?_, rfl⟩
    unfold rangeB
    first | (rw [Bool.eq_iff_iff]; simp only [decide_eq_true_eq]; omega) | (symm; rw [decide_eq_false_iff_not]; omega)

theorem two_eq {a b c d : Int} (h : a = c) (k : b = d) : Value.tuple #[.int .i64 a, .int .i64 b] = .tuple #[.int .i64 c, .int .i64 d] := by rw [h, k]

/-- How many of the bytes lo to i - 1 lie in the range. -/
def cnt (s n lo i : Int) : Int := if (if s < lo then lo else s) < (if i < s + n then i else s + n) then (if i < s + n then i else s + n) - (if s < lo then lo else s) else 0
theorem cnt_start (s n lo : Int) (hn : 0 ≤ n) : cnt s n lo lo = 0 := by unfold cnt; (repeat' split) <;> omega
theorem cnt_in (s n lo i : Int) (h : lo ≤ i) (h1 : s ≤ i) (h2 : i < s + n) : cnt s n lo (i + 1) = cnt s n lo i + 1 := by unfold cnt; (repeat' split) <;> omega
theorem cnt_out (s n lo i : Int) (h : lo ≤ i) (h1 : i < s ∨ s + n ≤ i) (hn : 0 ≤ n) : cnt s n lo (i + 1) = cnt s n lo i := by unfold cnt; (repeat' split) <;> omega
theorem cnt_bd (s n lo i : Int) (h : lo ≤ i) (hn : 0 ≤ n) : 0 ≤ cnt s n lo i ∧ cnt s n lo i ≤ i - lo := by unfold cnt; (repeat' split) <;> omega
theorem cnt_secB (s n lo hi m : Int) (hm : 1 ≤ m) : decide (m ≤ cnt s n lo hi) = secB s n m lo hi := by
  unfold secB
  rw [decide_eq_decide]
  unfold cnt
  (repeat' split) <;> omega

set_option maxHeartbeats 4000000 in
theorem rTouched_any (s n : Int) (w : World) (h0 : 0 ≤ s) (h1 : 0 ≤ n) (h2 : s ≤ 16) (h3 : s + n ≤ 16) :
    Calls Try.prog 38 #[.int .i64 s, .int .i64 n] w (RetS (.tuple #[.int .i64 (secs s n 1), .int .i64 (secs s n 8)]) w) := by
  go_enter Try.func38, Try.ntmps38
  go_wp2
  refine wp_loop_rounds 3 ?_; rw [rounds_succ]
  go_wp2
  go_loop [9, 10] (fun c i => ∃ m : Nat, m ≤ 8 ∧ i = .int .i64 m ∧ c = .int .i64 (cnt s n 0 m)) (fun _ i => (8 - intOf i).toNat)
  case atStart => exact ⟨0, by omega, rfl, by rw [show cnt s n 0 ((0 : Nat) : Int) = 0 from cnt_start s n 0 h1]⟩
  case round =>
    obtain ⟨m, hm, rfl, rfl⟩ := hrel
    have hb := cnt_bd s n 0 m (by omega) h1
    by_cases hlt : m < 8
    · by_cases hin : s ≤ m ∧ (m : Int) < s + n
      · obtain ⟨i1, i2⟩ := hin
        have hc := cnt_in s n 0 m (by omega) i1 i2
        have HC := Lib.hid hc
        clear hc
        go_wp2
        go_round
        case rel => exact ⟨m + 1, by omega, by go_num, by rw [show ((m + 1 : Nat) : Int) = (m : Int) + 1 from rfl, HC.out]⟩
        case measure => simp [intOf]; omega
      · have hc := cnt_out s n 0 m (by omega) (by omega) h1
        have HC := Lib.hid hc
        clear hc
        go_wp2
        all_goals
          go_round
          case rel => exact ⟨m + 1, by omega, by go_num, by rw [show ((m + 1 : Nat) : Int) = (m : Int) + 1 from rfl, HC.out]⟩
          case measure => simp [intOf]; omega
    · have hm8 : m = 8 := by omega
      subst hm8
      have hb1 := cnt_bd s n 0 8 (by omega) h1
      have hb2 := cnt_bd s n 8 16 (by omega) h1
      generalize hC1 : cnt s n 0 8 = C1 at *
      generalize hC2 : cnt s n 8 16 = C2 at *
      have HC1 := Lib.hid hC1
      have HC2 := Lib.hid hC2
      clear hC1 hC2 hb
      have hcs : C1 = 0 ∨ C1 = 8 ∨ 0 < C1 ∧ C1 < 8 := by omega
      rcases hcs with h | h | ⟨h, h'⟩
      all_goals first | (have t1 : (C1 == 8) = false := beq_eq_false_iff_ne.2 (by omega)) | (have t1 : (C1 == 8) = true := beq_iff_eq.2 h)
      all_goals first | (have t2 : C1 ≤ 0 := by omega) | (have t2 : 0 < C1 := by omega)
      all_goals (have H3 := Lib.hid h; clear h)
      all_goals
        go_wp2
        rw [rounds_succ]
        go_wp2
        go_loop [9, 10] (fun c i => ∃ m : Nat, m ≤ 8 ∧ i = .int .i64 (8 + m) ∧ c = .int .i64 (cnt s n 8 (8 + m))) (fun _ i => (16 - intOf i).toNat)
        case atStart => exact ⟨0, by omega, rfl, by rw [show (8 : Int) + ((0 : Nat) : Int) = 8 from rfl, cnt_start s n 8 h1]⟩
        case round =>
          obtain ⟨m, hm, rfl, rfl⟩ := hrel
          have hb := cnt_bd s n 8 (8 + m) (by omega) h1
          by_cases hlt : m < 8
          · by_cases hin : s ≤ 8 + m ∧ 8 + (m : Int) < s + n
            · obtain ⟨i1, i2⟩ := hin
              have hc := cnt_in s n 8 (8 + m) (by omega) i1 i2
              have HC := Lib.hid hc
              clear hc
              go_wp2
              go_round
              case rel => exact ⟨m + 1, by omega, by go_num, by rw [show (8 : Int) + ((m + 1 : Nat) : Int) = 8 + (m : Int) + 1 from by omega, HC.out]⟩
              case measure => simp [intOf]; omega
            · have hc := cnt_out s n 8 (8 + m) (by omega) (by omega) h1
              have HC := Lib.hid hc
              clear hc
              go_wp2
              all_goals
                go_round
                case rel => exact ⟨m + 1, by omega, by go_num, by rw [show (8 : Int) + ((m + 1 : Nat) : Int) = 8 + (m : Int) + 1 from by omega, HC.out]⟩
                case measure => simp [intOf]; omega
          · have hm8 : m = 8 := by omega
            subst hm8
            rw [show (8 : Int) + ((8 : Nat) : Int) = 16 from rfl, HC2.out]
            have hcs : C2 = 0 ∨ C2 = 8 ∨ 0 < C2 ∧ C2 < 8 := by omega
            rcases hcs with g | g | ⟨g, g'⟩
            all_goals first | (have t3 : (C2 == 8) = false := beq_eq_false_iff_ne.2 (by omega)) | (have t3 : (C2 == 8) = true := beq_iff_eq.2 g)
            all_goals first | (have t4 : C2 ≤ 0 := by omega) | (have t4 : 0 < C2 := by omega)
            all_goals (have H4 := Lib.hid g; clear g)
            all_goals
              go_wp2
              rw [rounds_succ]
              go_wp2
              go_ret2
              have g := H4.out
              have h := H3.out
              refine ⟨ret_val (two_eq ?_ ?_), rfl⟩
              · have e1 := cnt_secB s n 0 8 1 (by omega)
                have e2 := cnt_secB s n 8 16 1 (by omega)
                rw [HC1.out] at e1
                rw [HC2.out] at e2
                simp only [secs, ← e1, ← e2, decide_eq_true_eq]
                repeat' split
                all_goals first | (exfalso; omega) | rfl
              · have e1 := cnt_secB s n 0 8 8 (by omega)
                have e2 := cnt_secB s n 8 16 8 (by omega)
                rw [HC1.out] at e1
                rw [HC2.out] at e2
                simp only [secs, ← e1, ← e2, decide_eq_true_eq]
                repeat' split
                all_goals first | (exfalso; omega) | rfl
end Go.Proofs.Ythkhcbkbhnnegaa

/- Package workingset and its reference (layer 9): contracts. -/
import Derived.Test.YtjbkdbkiboonpaaRows
import Derived.Test.YtjbkdbkiboonpaaBase
import Derived.Deep.QuietTactic
import Derived.BigQuiet
import Derived.IntWalk
import Derived.Laws.Bits64
namespace Go.Proofs.Ytjbkdbkiboonpaa
open Go.RowKit Go.Mine

/-- The complement of an integer. -/
theorem not_i64 {n : Int} (h : (Lit.int .i64 n).wf = true) : bits .xor .i64 (-1) n = -(n + 1) := by
  have hb := wf_le h
  show IntKind.i64.wrap ((BitVec.ofInt 64 (-1) ^^^ BitVec.ofInt 64 n).toNat : Int) = _
  have h2 : BitVec.ofInt 64 (-1) = BitVec.allOnes 64 := by decide
  rw [h2, BitVec.allOnes_xor, BitVec.toNat_not, BitVec.toNat_ofInt]
  simp [IntKind.wrap, IntKind.bits, IntKind.signed]
  omega

/-! What the document asks. -/
def ckB (n : Int) : Bool := decide (0 ≤ n ∧ n ≤ 1000000)
def shN (c : Int) : Int := if 0 ≤ c ∧ c ≤ 1000000 then -(c + 1) else 0
def shE (c : Int) : Int := if 0 ≤ c ∧ c ≤ 1000000 then 0 else 2
def stO (s : Int) : Bool := decide (-1000001 ≤ s ∧ s ≤ -1)
def stN (s : Int) : Int := if -1000001 ≤ s ∧ s ≤ -1 then -(s + 1) else 0
def paB (c s : Int) : Bool := decide (-1000001 ≤ s ∧ s ≤ -1 ∧ -(s + 1) < c)
def diE (c s : Int) : Int := if 0 ≤ c ∧ c ≤ 1000000 then if -1000001 ≤ s ∧ s ≤ -1 ∧ -(s + 1) < c then 0 else 1 else 2
def diN (c s : Int) : Int := if 0 ≤ c ∧ c ≤ 1000000 then if -1000001 ≤ s ∧ s ≤ -1 ∧ -(s + 1) < c then c + s + 1 else 0 else 0
def acB (c s a : Int) : Bool := decide ((0 ≤ c ∧ c ≤ 1000000) ∧ (-1000001 ≤ s ∧ s ≤ -1 ∧ -(s + 1) < c) ∧ c + s + 1 ≤ a)

theorem isClock_any (n : Int) (w : World) : Calls Try.prog 17 #[.int .i64 n] w (RetS (.bool (ckB n)) w) := by
  by_cases h : 0 ≤ n
  · have e := Lib.hid (show decide (n ≤ 1000000) = ckB n from decide_eq_decide.2 (by omega))
    go_enter Try.func17, Try.ntmps17
    go_wp2
    go_ret
    exact ⟨ret_bool e.out, rfl⟩
  · have e := Lib.hid (show false = ckB n from (decide_eq_false (by omega)).symm)
    go_enter Try.func17, Try.ntmps17
    go_wp2
    go_ret
    exact ⟨ret_bool e.out, rfl⟩
theorem mirrored_any (n : Int) (w : World) (h : (Lit.int .i64 n).wf = true) : Calls Try.prog 18 #[.int .i64 n] w (RetS (.int .i64 (-(n + 1))) w) := by
  have e := Lib.hid (not_i64 h)
  clear h
  go_enter Try.func18, Try.ntmps18
  go_wp2
  go_ret
  exact ⟨ret_int e.out, rfl⟩
theorem shadow_any (c : Int) (w : World) (h : (Lit.int .i64 c).wf = true) : Calls Try.prog 7 #[.int .i64 c] w (RetS (.tuple #[.int .i64 (shN c), .int .i64 (shE c)]) w) := by
  have H := Lib.hid h
  clear h
  by_cases hc : 0 ≤ c ∧ c ≤ 1000000
  · have e : Hid (ckB c = true) := Lib.hid (decide_eq_true hc)
    have e1 := Lib.hid (show shN c = -(c + 1) from if_pos hc)
    have e2 := Lib.hid (show shE c = 0 from if_pos hc)
    go_enter Try.func7, Try.ntmps7
    go_wp2_with fail
    with_reducible refine (isClock_any _ _).mono ?_
    rintro e' w1 ⟨rfl, rfl⟩
    rw [e.out]
    go_wp2_with fail
    with_reducible refine (mirrored_any _ _ H.out).mono ?_
    rintro e' w1 ⟨rfl, rfl⟩
    go_wp2
    refine bodyPost_ret (v := .tuple #[.int .i64 (-(c + 1)), .int .i64 0]) (by simp [results, Try.results7, go_sem]) rfl ⟨by rw [e1.out, e2.out], rfl⟩
  · have e : Hid (ckB c = false) := Lib.hid (decide_eq_false hc)
    have e1 := Lib.hid (show shN c = 0 from if_neg hc)
    have e2 := Lib.hid (show shE c = 2 from if_neg hc)
    go_enter Try.func7, Try.ntmps7
    go_wp2_with fail
    with_reducible refine (isClock_any _ _).mono ?_
    rintro e' w1 ⟨rfl, rfl⟩
    rw [e.out]
    go_wp2
    refine bodyPost_ret (v := .tuple #[.int .i64 0, .int .i64 2]) (by simp [results, Try.results7, go_sem]) rfl ⟨by rw [e1.out, e2.out], rfl⟩
theorem stamp_any (s : Int) (w : World) (h : (Lit.int .i64 s).wf = true) : Calls Try.prog 9 #[.int .i64 s] w (RetS (.tuple #[.int .i64 (stN s), .bool (stO s)]) w) := by
  have H := Lib.hid h
  clear h
  by_cases hc : -1000001 ≤ s ∧ s ≤ -1
  · have e : Hid (ckB (-(s + 1)) = true) := Lib.hid (decide_eq_true (by omega))
    have e1 := Lib.hid (show stN s = -(s + 1) from if_pos hc)
    have e2 : Hid (stO s = true) := Lib.hid (decide_eq_true hc)
    go_enter Try.func9, Try.ntmps9
    go_wp2_with fail
    with_reducible refine (mirrored_any _ _ H.out).mono ?_
    rintro e' w1 ⟨rfl, rfl⟩
    go_wp2_with fail
    with_reducible refine (isClock_any _ _).mono ?_
    rintro e' w1 ⟨rfl, rfl⟩
    rw [e.out]
    go_wp2
    refine bodyPost_ret (v := .tuple #[.int .i64 (-(s + 1)), .bool true]) (by simp [results, Try.results9, go_sem]) rfl ⟨by rw [e1.out, e2.out], rfl⟩
  · have e : Hid (ckB (-(s + 1)) = false) := Lib.hid (decide_eq_false (by omega))
    have e1 := Lib.hid (show stN s = 0 from if_neg hc)
    have e2 : Hid (stO s = false) := Lib.hid (decide_eq_false hc)
    go_enter Try.func9, Try.ntmps9
    go_wp2_with fail
    with_reducible refine (mirrored_any _ _ H.out).mono ?_
    rintro e' w1 ⟨rfl, rfl⟩
    go_wp2_with fail
    with_reducible refine (isClock_any _ _).mono ?_
    rintro e' w1 ⟨rfl, rfl⟩
    rw [e.out]
    go_wp2
    refine bodyPost_ret (v := .tuple #[.int .i64 0, .bool false]) (by simp [results, Try.results9, go_sem]) rfl ⟨by rw [e1.out, e2.out], rfl⟩

/-! The refault. -/
abbrev rfV (c s : Int) : Value := .agg #[.int .i64 c, .int .i64 s]
theorem hasClock_any (c s : Int) (w : World) : Calls Try.prog 21 #[rfV c s] w (RetG (.bool (ckB c)) w) := by
  have G : Grew w (w.alloc (.cells #[.int .i64 c, .int .i64 s] 40)) := (Grew.refl _).alloc _
  go_enter Try.func21, Try.ntmps21
  go_wp2_with fail
  with_reducible refine (isClock_any _ _).mono ?_
  rintro e' w1 ⟨rfl, rfl⟩
  go_wp2
  go_ret
  exact ⟨rfl, G⟩
theorem hasPast_any (c s : Int) (w : World) (h : (Lit.int .i64 s).wf = true) : Calls Try.prog 22 #[rfV c s] w (RetG (.bool (paB c s)) w) := by
  have G : Grew w (w.alloc (.cells #[.int .i64 c, .int .i64 s] 40)) := (Grew.refl _).alloc _
  have H := Lib.hid h
  clear h
  by_cases hc : -1000001 ≤ s ∧ s ≤ -1
  · have e1 := Lib.hid (show stN s = -(s + 1) from if_pos hc)
    have e2 : Hid (stO s = true) := Lib.hid (decide_eq_true hc)
    have e3 := Lib.hid (show decide (-(s + 1) < c) = paB c s from decide_eq_decide.2 (by omega))
    go_enter Try.func22, Try.ntmps22
    go_wp2_with fail
    with_reducible refine (stamp_any _ _ H.out).mono ?_
    rintro e' w1 ⟨rfl, rfl⟩
    rw [e1.out, e2.out]
    obtain ⟨q, hq⟩ : ∃ q, -(s + 1) = q := ⟨_, rfl⟩
    rw [hq] at e3 ⊢
    clear hq e1 e2
    go_wp2
    go_ret
    exact ⟨ret_bool e3.out, G⟩
  · have e1 := Lib.hid (show stN s = 0 from if_neg hc)
    have e2 : Hid (stO s = false) := Lib.hid (decide_eq_false hc)
    have e3 : Hid (false = paB c s) := Lib.hid (decide_eq_false (by omega)).symm
    go_enter Try.func22, Try.ntmps22
    go_wp2_with fail
    with_reducible refine (stamp_any _ _ H.out).mono ?_
    rintro e' w1 ⟨rfl, rfl⟩
    rw [e1.out, e2.out]
    go_wp2
    go_ret
    exact ⟨ret_bool e3.out, G⟩
end Go.Proofs.Ytjbkdbkiboonpaa

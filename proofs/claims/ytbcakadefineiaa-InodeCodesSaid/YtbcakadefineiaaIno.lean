/- The contracts of package inode (layer 3), first part. -/
import Derived.Test.YtbcakadefineiaaRows
import Derived.Test.YtbcakadefineiaaBase
import Derived.Laws.BytesArg
import Derived.Lib.ConvBytes
import Derived.RegionTactic
import Derived.ChangeAlike
import Derived.BigRegion
import Derived.Outline
namespace Go.Proofs.Ytbcakadefineiaa
open Go.RowKit Go.Mine

abbrev inoV (q z b : Int) : Value := .agg #[.int .i64 q, .int .i64 z, .int .i64 b]
abbrev halfV (a b c d : Int) : Value := .agg #[.int .u8 a, .int .u8 b, .int .u8 c, .int .u8 d]
abbrev boxI (q z b : Int) : Obj := .cells #[.int .i64 q, .int .i64 z, .int .i64 b] 28
def withB (n m : Int) : Bool := decide (0 ≤ n ∧ n ≤ m)
def validI (q z b : Int) : Bool := withB q 65535 && (withB z 128 && withB b 255)
def gd (c f : Int) : Int := (255 - bits .xor .u8 c f) % 256

set_option maxHeartbeats 400000 in
theorem within_any (n m : Int) (w : World) : Calls Try.prog 31 #[.int .i64 n, .int .i64 m] w (RetS (.bool (withB n m)) w) := by
  go_enter Try.func31, Try.ntmps31
  go_wp2
  all_goals
    go_ret
    refine ⟨ret_bool ?_, rfl⟩
    unfold withB
    first | (rw [Bool.eq_iff_iff]; simp only [decide_eq_true_eq]; omega) | (symm; rw [decide_eq_false_iff_not]; omega)

set_option maxHeartbeats 400000 in
theorem isFile_any (f : Int) (w : World) : Calls Try.prog 25 #[.int .i64 f] w (RetS (.bool (withB f 7)) w) := by
  go_enter Try.func25, Try.ntmps25
  go_wp2_with (go_at_call 31; (with_reducible refine (within_any _ _ _).mono ?_); rintro e w1 ⟨rfl, rfl⟩)
  go_ret
  exact ⟨rfl, rfl⟩

set_option maxHeartbeats 1000000 in
theorem isValid_any (q z b : Int) (w : World) : Calls Try.prog 24 #[inoV q z b] w (RetS (.bool (validI q z b)) (w.alloc (boxI q z b))) := by
  cases h1 : withB q 65535
  · go_enter Try.func24, Try.ntmps24
    go_wp2_with (go_at_call 31; (with_reducible refine (within_any _ _ _).mono ?_); rintro e w1 ⟨rfl, rfl⟩)
    go_ret
    exact ⟨ret_bool (by simp [validI, h1]), rfl⟩
  · cases h2 : withB z 128
    · go_enter Try.func24, Try.ntmps24
      go_wp2_with (go_at_call 31; (with_reducible refine (within_any _ _ _).mono ?_); rintro e w1 ⟨rfl, rfl⟩)
      go_ret
      exact ⟨ret_bool (by simp [validI, h2]), rfl⟩
    · go_enter Try.func24, Try.ntmps24
      go_wp2_with (go_at_call 31; (with_reducible refine (within_any _ _ _).mono ?_); rintro e w1 ⟨rfl, rfl⟩)
      go_ret
      exact ⟨ret_bool (by simp [validI, h1, h2]), rfl⟩
theorem valid_bd {q z b : Int} (h : validI q z b = true) : 0 ≤ q ∧ q ≤ 65535 ∧ 0 ≤ z ∧ z ≤ 128 ∧ 0 ≤ b ∧ b ≤ 255 := by
  simp only [validI, withB, Bool.and_eq_true, decide_eq_true_eq] at h
  omega
theorem file_bd {f : Int} (h : withB f 7 = true) : 0 ≤ f ∧ f ≤ 7 := by simpa [withB] using h

set_option maxHeartbeats 1000000 in
theorem contentOf_any (q z b : Int) (w : World) (h : validI q z b = true) :
    Calls Try.prog 26 #[inoV q z b] w (RetG (halfV (q / 256) (q % 256) z b) w) := by
  obtain ⟨h1, h2, h3, h4, h5, h6⟩ := valid_bd h
  clear h
  go_enter Try.func26, Try.ntmps26
  go_wp2
  refine bodyPost_ret (v := halfV (q / 256) (q % 256) z b) (by simp [results, Try.results26, go_sem]) rfl ⟨rfl, ?_⟩
  exact ((Grew.refl _).alloc _).alloc _

set_option maxHeartbeats 1000000 in
theorem guardFor_any (a b c d f : Int) (w : World) (f0 : 0 ≤ f) (f1 : f ≤ 7) :
    Calls Try.prog 27 #[halfV a b c d, .int .i64 f] w (RetG (halfV (gd a f) (gd b f) (gd c f) (gd d f)) w) := by
  have i0 : ∀ w, (Instr.index 54 (.agg #[.int .u8 a, .int .u8 b, .int .u8 c, .int .u8 d]) (.int .i64 0)).run Try.prog w = .ok (.int .u8 a) w := fun _ => by kernel_rfl
  have i1 : ∀ w, (Instr.index 54 (.agg #[.int .u8 a, .int .u8 b, .int .u8 c, .int .u8 d]) (.int .i64 1)).run Try.prog w = .ok (.int .u8 b) w := fun _ => by kernel_rfl
  have i2 : ∀ w, (Instr.index 54 (.agg #[.int .u8 a, .int .u8 b, .int .u8 c, .int .u8 d]) (.int .i64 2)).run Try.prog w = .ok (.int .u8 c) w := fun _ => by kernel_rfl
  have i3 : ∀ w, (Instr.index 54 (.agg #[.int .u8 a, .int .u8 b, .int .u8 c, .int .u8 d]) (.int .i64 3)).run Try.prog w = .ok (.int .u8 d) w := fun _ => by kernel_rfl
  go_enter Try.func27, Try.ntmps27
  go_wp2
  refine wp_loop_rounds 5 ?_; rw [rounds_succ]
  go_wp2
  rw [rounds_succ]
  go_wp2
  rw [rounds_succ]
  go_wp2
  rw [rounds_succ]
  go_wp2
  rw [rounds_succ]
  go_wp2
  refine bodyPost_ret (v := halfV (gd a f) (gd b f) (gd c f) (gd d f)) (by simp [results, Try.results27, go_sem, gd]) rfl ⟨rfl, ?_⟩
  exact ((Grew.refl _).alloc _).alloc _
set_option maxHeartbeats 1000000 in
theorem inodeOf_any (a b c d : Int) (w : World) (ha : 0 ≤ a ∧ a ≤ 255) (hb : 0 ≤ b ∧ b ≤ 255) (hc : 0 ≤ c ∧ c ≤ 255) (hd : 0 ≤ d ∧ d ≤ 255) :
    Calls Try.prog 30 #[halfV a b c d] w (RetG (inoV (a * 256 + b) c d) w) := by
  obtain ⟨a0, a1⟩ := ha
  obtain ⟨b0, b1⟩ := hb
  obtain ⟨c0, c1⟩ := hc
  obtain ⟨d0, d1⟩ := hd
  go_enter Try.func30, Try.ntmps30
  go_wp2
  refine bodyPost_ret (v := inoV (a * 256 + b) c d) (by simp [results, Try.results30, go_sem]) rfl ⟨rfl, ?_⟩
  exact ((Grew.refl _).alloc _).alloc _
end Go.Proofs.Ytbcakadefineiaa

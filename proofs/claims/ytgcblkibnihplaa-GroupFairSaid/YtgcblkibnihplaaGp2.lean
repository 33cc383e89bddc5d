/- The program's groups (layer 11): Excess, chargeOf, canCharge. -/
import Derived.Test.YtgcblkibnihplaaGp1
namespace Go.Proofs.Ytgcblkibnihplaa
open Go.RowKit Go.Mine

theorem excess_p {x : Gp} {w : World} (h : OkP x) : Calls Try.prog 12 #[gpV x] w (RetG (.int .i64 (excP x)) w) := by
  obtain ⟨h1, h2, h3, h4, h5, h6⟩ := h
  obtain ⟨l, p, c⟩ := x
  simp only at h1 h2 h3 h4 h5 h6
  have HG := Lib.hid ((Grew.refl w).alloc (.cells #[.int .i64 l, .int .i64 p, .int .i64 c] 33))
  by_cases t : c ≤ p
  · have HE : Hid (excP ⟨l, p, c⟩ = 0) := Lib.hid (by show max (c - p) 0 = 0; omega)
    go_enter Try.func12, Try.ntmps12
    go_wp2
    go_ret
    exact ⟨ret_int HE.out.symm, HG.out⟩
  · have HE : Hid (excP ⟨l, p, c⟩ = c - p) := Lib.hid (by show max (c - p) 0 = c - p; omega)
    have n1 : IntKind.u64.wrap c = c := by rw [IntKind.wrap_u64]; omega
    have n2 : IntKind.u64.wrap p = p := by rw [IntKind.wrap_u64]; omega
    have n3 : IntKind.u64.wrap (c - p) = c - p := by rw [IntKind.wrap_u64]; omega
    have n4 : IntKind.i64.wrap (c - p) = c - p := by rw [IntKind.wrap_i64]; omega
    go_enter Try.func12, Try.ntmps12
    go_wp2
    go_ret
    exact ⟨ret_int HE.out.symm, HG.out⟩
theorem chargeOf_p {x : Gp} {w : World} : Calls Try.prog 28 #[gpV x] w (RetG (.int .i64 x.c) w) := by
  obtain ⟨l, p, c⟩ := x
  have HG := Lib.hid ((Grew.refl w).alloc (.cells #[.int .i64 l, .int .i64 p, .int .i64 c] 33))
  go_enter Try.func28, Try.ntmps28
  go_wp2
  go_ret
  exact ⟨rfl, HG.out⟩
theorem canCharge_p {a : Option Addr} {n c : Nat} {t k : Int} {w : World} (hn : n ≤ 1000) (t0 : 0 ≤ t) (t1 : t < n) (k0 : 0 ≤ k) (k1 : k ≤ 64) : Calls Try.prog 23 #[.slice a n c, .int .i64 t, .int .i64 k] w (RetS (.bool true) w) := by
  have H1 := Lib.hid (frB_t (n := t) (a := 0) (b := n - 1) t0 (by omega))
  have H2 := Lib.hid (frB_t (n := k) (a := 0) (b := 64) k0 k1)
  go_enter Try.func23, Try.ntmps23
  go_wp2_with fail
  with_reducible refine (isFrom_p H1.out).mono ?_
  rintro e w1 ⟨rfl, rfl⟩
  go_wp2_with fail
  with_reducible refine (isFrom_p H2.out).mono ?_
  rintro e w1 ⟨rfl, rfl⟩
  go_wp2
  go_ret
  exact ⟨rfl, rfl⟩
end Go.Proofs.Ytgcblkibnihplaa

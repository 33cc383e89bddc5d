/- The tape's functions of the made states: contracts. -/
import Derived.Test.YtokijggckiidjaaRows
import Derived.Test.YtokijggckiidjaaBase
import Derived.Deep.OwnRows
import Derived.Laws.BytesArg
import Derived.Outline
namespace Go.Proofs.Ytokijggckiidjaa
open Go.RowKit Go.Mine

set_option maxHeartbeats 400000 in
theorem cut_any (x n : Int) (w : World) (h0 : 1 ≤ n) (h1 : n ≤ 1000000) :
    Calls Try.prog 30 #[.int .i64 x, .int .i64 n] w fun e w' => e = .returned (.int .i64 (cut x n)) ∧ w = w' := by
  have hu := u64_nonneg x
  go_enter Try.func30, Try.ntmps30
  go_wp2
  go_ret
  have hc := cut_lt x n (by omega)
  refine ⟨?_, rfl⟩
  show Ending.returned (.int .i64 (wrap64 (IntKind.u64.wrap x % n))) = _
  have e : wrap64 (IntKind.u64.wrap x % n) = cut x n := IntWalk.wrap64_in _ (by unfold cut at *; omega)
  rw [e]


theorem cut_quiet (x n : Int) (w : World) (h0 : 1 ≤ n) (h1 : n ≤ 1000000) :
    Calls Try.prog 30 #[.int .i64 x, .int .i64 n] w fun e w' => e = .returned (.int .i64 (cut x n)) ∧ w' = w :=
  (cut_any x n w h0 h1).mono fun _ _ ⟨a, b⟩ => ⟨a, b.symm⟩

set_option maxHeartbeats 1000000 in
theorem next_any (B b : Nat) (rem : List Int) (n : Int) (w : World) (h0 : 1 ≤ n) (h1 : n ≤ 1000000) (ht : TapeAt B w b rem) :
    Calls Try.prog 8 #[.pointer (some ⟨b, 0, none⟩), .int .i64 n] w fun e w' => e = .returned (.int .i64 (tnext rem n)) ∧ TapeAt B w' b rem.tail ∧ w.grownBy w' (some b) := by
  obtain ⟨A, c, xs, i, hi, hm, hrem, hrow, hne, hbB, hc0, hc1, hfz⟩ := ht
  have hrem' := Lib.hid hrem
  clear hrem
  unfold maxLen at hm
  by_cases hlt : i < xs.length
  · rcases hrow.1 with hnil | ⟨x, o, rfl, hx, hc⟩
    · simp [hnil] at hlt
    have hci := hc i hlt
    have hxb := (hne (fun e => by simp [e] at hlt) x o rfl).1
    have HR := Lib.hid hrow
    have HN := Lib.hid hne
    clear hc hrow hne
    go_enter Try.func8, Try.ntmps8
    go_wp2
    go_quiet (fail)
    revert nq; intro nq1
    go_wp2
    go_quiet ((go_at_call 30; exact Calls.quiet_of_same (cut_quiet _ _ _ h0 h1)))
    go_wp2
    go_ret
    have hr := hrem'.out
    have hr2 : rem = xs.getD i 0 :: xs.drop (i + 1) := by rw [hr, List.drop_eq_getElem_cons hlt]; simp [List.getD, hlt]
    have hg : w.grownBy (((w.drewN nq1).setCell ⟨b, 1, none⟩ (.int .i64 ((i : Int) + 1))).drewN nq) (some b) := grown_drewN (grown_set (grown_drewN (grown_refl _ _) _) (.inl rfl) _) _
    refine ⟨?_, ⟨some ⟨x, o, none⟩, c, xs, i + 1, by omega, by unfold maxLen; omega, by rw [hr2]; rfl, ?_, HN.out, hbB, ?_, ?_, ?_⟩, hg⟩
    · rw [hr2]; simp [tnext, List.getD, hlt]
    · exact HR.out.kept hg.size (fun b' o' e => by injection e with e; injection e with e1 e2; subst e1; exact hg.block _ hx (fun e => hxb (by injection e)))
    · go_simp
    · go_simp
    · go_simp
  · have : i = xs.length := by omega
    subst this
    go_enter Try.func8, Try.ntmps8
    go_wp2
    go_quiet (fail)
    go_wp2
    go_ret
    have hr := hrem'.out
    have hr2 : rem = [] := by rw [hr]; simp
    exact ⟨by rw [hr2]; rfl, ⟨A, c, xs, xs.length, Nat.le_refl _, hm, by rw [hr2]; simp, hrow, hne, hbB, hc0, hc1, hfz⟩, grown_drewN (grown_refl _ _) _⟩

/-- It returns v; the tape in block b has gone on to rem; nothing else that was there has turned. -/
def RetT (v : Value) (B b : Nat) (rem : List Int) (w : World) (e : Ending) (w' : World) : Prop := e = .returned v ∧ TapeAt B w' b rem ∧ w.grownBy w' (some b)
theorem next_t (B b : Nat) (rem : List Int) (n : Int) (w : World) (h0 : 1 ≤ n) (h1 : n ≤ 1000000) (ht : TapeAt B w b rem) :
    Calls Try.prog 8 #[.pointer (some ⟨b, 0, none⟩), .int .i64 n] w (RetT (.int .i64 (tnext rem n)) B b rem.tail w) := next_any B b rem n w h0 h1 ht

/-! The same, whatever the numbers are. -/
/-- It returns some number from 0 to n - 1. -/
def RetN (n : Int) (B b : Nat) (w : World) (e : Ending) (w' : World) : Prop := ∃ q : Int, 0 ≤ q ∧ q < n ∧ e = .returned (.int .i64 q) ∧ Tp B w' b ∧ w.grownBy w' (some b)
/-- It returns some string of n bytes. -/
def RetB (n : Int) (B b : Nat) (w : World) (e : Ending) (w' : World) : Prop := ∃ s : ByteArray, s.size = n.toNat ∧ e = .returned (.string s) ∧ Tp B w' b ∧ w.grownBy w' (some b)
theorem next_x (B b : Nat) (n : Int) (w : World) (h0 : 1 ≤ n) (h1 : n ≤ 1000000) (ht : Tp B w b) :
    Calls Try.prog 8 #[.pointer (some ⟨b, 0, none⟩), .int .i64 n] w (RetN n B b w) := by
  obtain ⟨rem, h⟩ := ht
  exact (next_t B b rem n w h0 h1 h).mono fun e w' ⟨he, hT, hG⟩ => ⟨_, (tnext_lt rem n (by omega)).1, (tnext_lt rem n (by omega)).2, he, ⟨_, hT⟩, hG⟩
/-- It returns some bool. -/
def RetE (B b : Nat) (w : World) (e : Ending) (w' : World) : Prop := ∃ q : Bool, e = .returned (.bool q) ∧ Tp B w' b ∧ Grew w w'
theorem end_x (B b : Nat) (w : World) (ht : Tp B w b) : Calls Try.prog 28 #[.pointer (some ⟨b, 0, none⟩)] w (RetE B b w) := by
  have HT := Lib.hid ht
  obtain ⟨rem, A, c, xs, i, hi, hm, hrem, hrow, hne, hbB, hc0, hc1, hfz⟩ := ht
  clear hrem hrow hne hm hi
  go_enter Try.func28, Try.ntmps28
  go_wp2
  go_quiet (fail)
  go_wp2
  go_ret
  exact ⟨_, rfl, HT.out.drewN _, (Grew.refl w).drewN _⟩
end Go.Proofs.Ytokijggckiidjaa

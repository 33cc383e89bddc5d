/- The tape's functions of the made states: contracts. -/
import Derived.Test.YtokbkidoapgamaaRows
import Derived.Test.YtokbkidoapgamaaBase
import Derived.Deep.OwnRows
import Derived.Laws.BytesArg
import Derived.Outline
namespace Go.Proofs.Ytokbkidoapgamaa
open Go.RowKit Go.Mine

set_option maxHeartbeats 400000 in
theorem cut_any (x n : Int) (w : World) (h0 : 1 ≤ n) (h1 : n ≤ 1000000) :
    Calls Try.prog 17 #[.int .i64 x, .int .i64 n] w fun e w' => e = .returned (.int .i64 (cut x n)) ∧ w = w' := by
  have hu := u64_nonneg x
  go_enter Try.func17, Try.ntmps17
  go_wp2
  go_ret
  have hc := cut_lt x n (by omega)
  refine ⟨?_, rfl⟩
  show Ending.returned (.int .i64 (wrap64 (IntKind.u64.wrap x % n))) = _
  have e : wrap64 (IntKind.u64.wrap x % n) = cut x n := IntWalk.wrap64_in _ (by unfold cut at *; omega)
  rw [e]


theorem cut_quiet (x n : Int) (w : World) (h0 : 1 ≤ n) (h1 : n ≤ 1000000) :
    Calls Try.prog 17 #[.int .i64 x, .int .i64 n] w fun e w' => e = .returned (.int .i64 (cut x n)) ∧ w' = w :=
  (cut_any x n w h0 h1).mono fun _ _ ⟨a, b⟩ => ⟨a, b.symm⟩

set_option maxHeartbeats 1000000 in
theorem next_any (B b : Nat) (rem : List Int) (n : Int) (w : World) (h0 : 1 ≤ n) (h1 : n ≤ 1000000) (ht : TapeAt B w b rem) :
    Calls Try.prog 7 #[.pointer (some ⟨b, 0, none⟩), .int .i64 n] w fun e w' => e = .returned (.int .i64 (tnext rem n)) ∧ TapeAt B w' b rem.tail ∧ w.grownBy w' (some b) := by
  obtain ⟨A, c, xs, i, hi, hm, hrem, hrow, hne, hbB, hc0, hc1, hfz⟩ := ht
  have hrem' := Lib.hid hrem
  clear hrem
  unfold maxLen at hm
  by_cases hlt : i < xs.length
  · rcases hrow.1 with hnil | ⟨x, o, rfl, hx, hc⟩
    · simp [hnil] at hlt
    have hci := hc i hlt
    have hxb := (hne (fun e => by simp [e] at hlt) x o rfl).1
    have HR := Lib.hid hrow
    have HN := Lib.hid hne
    clear hc hrow hne
    go_enter Try.func7, Try.ntmps7
    go_wp2
    go_quiet (fail)
    revert nq; intro nq1
    go_wp2
    go_quiet ((go_at_call 17; exact Calls.quiet_of_same (cut_quiet _ _ _ h0 h1)))
    go_wp2
    go_ret
    have hr := hrem'.out
    have hr2 : rem = xs.getD i 0 :: xs.drop (i + 1) := by rw [hr, List.drop_eq_getElem_cons hlt]; simp [List.getD, hlt]
    have hg : w.grownBy (((w.drewN nq1).setCell ⟨b, 1, none⟩ (.int .i64 ((i : Int) + 1))).drewN nq) (some b) := grown_drewN (grown_set (grown_drewN (grown_refl _ _) _) (.inl rfl) _) _
    refine ⟨?_, ⟨some ⟨x, o, none⟩, c, xs, i + 1, by omega, by unfold maxLen; omega, by rw [hr2]; rfl, ?_, HN.out, hbB, ?_, ?_, ?_⟩, hg⟩
    · rw [hr2]; simp [tnext, List.getD, hlt]
    · exact HR.out.kept hg.size (fun b' o' e => by injection e with e; injection e with e1 e2; subst e1; exact hg.block _ hx (fun e => hxb (by injection e)))
    · go_simp
    · go_simp
    · go_simp
  · have : i = xs.length := by omega
    subst this
    go_enter Try.func7, Try.ntmps7
    go_wp2
    go_quiet (fail)
    go_wp2
    go_ret
    have hr := hrem'.out
    have hr2 : rem = [] := by rw [hr]; simp
    exact ⟨by rw [hr2]; rfl, ⟨A, c, xs, xs.length, Nat.le_refl _, hm, by rw [hr2]; simp, hrow, hne, hbB, hc0, hc1, hfz⟩, grown_drewN (grown_refl _ _) _⟩

/-- It returns v; the tape in block b has gone on to rem; nothing else that was there has turned. -/
def RetT (v : Value) (B b : Nat) (rem : List Int) (w : World) (e : Ending) (w' : World) : Prop := e = .returned v ∧ TapeAt B w' b rem ∧ w.grownBy w' (some b)
theorem next_t (B b : Nat) (rem : List Int) (n : Int) (w : World) (h0 : 1 ≤ n) (h1 : n ≤ 1000000) (ht : TapeAt B w b rem) :
    Calls Try.prog 7 #[.pointer (some ⟨b, 0, none⟩), .int .i64 n] w (RetT (.int .i64 (tnext rem n)) B b rem.tail w) := next_any B b rem n w h0 h1 ht

theorem info_u8 : (Try.prog.info? 5).map (fun i => (i.zero, i.size, i.bytes)) = some (some (.int .u8 0), 1, 1) := by kernel_rfl
/-- The byte that is made of the tape's k-th number. -/
def lett (rem : List Int) (k : Nat) : Int := 97 + tnext (rem.drop k) 8
def tbytes (rem : List Int) (n : Nat) : ByteArray := strOfNums ((List.range n).map (lett rem))
theorem tbytes_size (rem : List Int) (n : Nat) : (tbytes rem n).size = n := by simp [tbytes, strOfNums_size]

theorem lett_byte (rem : List Int) (k : Nat) (h : (tnext (rem.drop k) 8).toNat < (ByteArray.mk #[97, 98, 99, 100, 101, 102, 103, 104]).size) :
    Value.int .u8 ((ByteArray.mk #[97, 98, 99, 100, 101, 102, 103, 104])[(tnext (rem.drop k) 8).toNat].toNat : Int) = .int .u8 (lett rem k) := by
  have hq := tnext_lt (rem.drop k) 8 (by omega)
  unfold lett
  generalize tnext (rem.drop k) 8 = q at *
  have hc : q = 0 ∨ q = 1 ∨ q = 2 ∨ q = 3 ∨ q = 4 ∨ q = 5 ∨ q = 6 ∨ q = 7 := by omega
  rcases hc with rfl | rfl | rfl | rfl | rfl | rfl | rfl | rfl <;> rfl

set_option maxHeartbeats 1000000 in
theorem bytes_t (B b : Nat) (rem : List Int) (n : Nat) (w : World) (h1 : n ≤ 64) (ht : TapeAt B w b rem) (hbw : B ≤ w.heap.size) :
    Calls Try.prog 5 #[.pointer (some ⟨b, 0, none⟩), .int .i64 n] w (RetT (.string (tbytes rem n)) B b (rem.drop n) w) := by
  have hmk := run_make_row' (P := Try.prog) 27 5 (.int .u8 0) 1 Try.underlying27 info_u8 rfl .i64 .i64 n (by omega) (by omega)
  have hb := ht.lt
  have HB := Lib.hid hbw
  clear hbw
  go_enter Try.func5, Try.ntmps5
  go_wp2
  go_loopw [11] (fun i wr => ∃ k : Nat, k ≤ n ∧ i = .int .i64 k ∧ TapeAt B wr b (rem.drop k) ∧ wr.rowIs w.heap.size 5 n (fun j => if j < k then .int .u8 (lett rem j) else .int .u8 0) ∧ w.grownBy wr (some b)) (fun i _ => n - (intOf i).toNat)
  case atStart => exact ⟨0, by omega, rfl, ht.alloc _, (World.rowIs_made w _ _ _).congr (by simp), grown_alloc (grown_refl _ _) _⟩
  case round =>
    obtain ⟨k, hk, rfl, hT, hR, hG⟩ := hrel
    by_cases hlt : k < n
    · have hq := tnext_lt (rem.drop k) 8 (by omega)
      have hne : w.heap.size ≠ b := by omega
      go_wp2_with (go_at_call 7; (with_reducible refine (next_t _ _ _ _ _ (by omega) (by omega) hT).mono ?_); rintro e w1 ⟨rfl, hT1, hG1⟩; have hR1 := hR.of_block (hG1.block _ hR.lt (fun e => hne (by injection e))); have hF1 := hR1.frozen k; obtain ⟨u, hu⟩ : ∃ u, w1.cell? ⟨w.heap.size, k, none⟩ = some u := ⟨_, hR1.cell hlt⟩)
      go_roundw
      case rel =>
        refine ⟨k + 1, by omega, by go_num, ?_, ?_, ?_⟩
        · rw [← List.tail_drop]
          exact hT1.set (p := ⟨w.heap.size, k, none⟩) HB.out _
        · refine (hR1.set k _).congr fun j hj => ?_
          by_cases e : j = k
          · subst e
            rw [if_pos rfl, if_pos (by omega)]
            exact lett_byte rem j _
          · rw [if_neg e]
            by_cases e2 : j < k
            · rw [if_pos e2, if_pos (by omega)]
            · rw [if_neg e2, if_neg (by omega)]
        · exact grown_set (grown_trans hG hG1) (.inr (Nat.le_refl _)) _
      case measure => simp [intOf]; omega
    · have hkn : k = n := by omega
      subst hkn
      have hcv := run_convert_bytes_arg (P := Try.prog) wr 27 5 Try.underlying27 Try.underlying5 w.heap.size 0 k k ((List.range k).map (lett rem)) (by simp) (fun i hi => by
        rw [Nat.zero_add, hR.cell hi, if_pos hi]
        simp [hi]) _ Try.underlying9
      go_wp2
      go_ret
      exact ⟨rfl, hT, hG⟩
theorem bytes_i (B b : Nat) (rem : List Int) (n : Int) (w : World) (h0 : 0 ≤ n) (h1 : n ≤ 64) (ht : TapeAt B w b rem) (hbw : B ≤ w.heap.size) :
    Calls Try.prog 5 #[.pointer (some ⟨b, 0, none⟩), .int .i64 n] w (RetT (.string (tbytes rem n.toNat)) B b (rem.drop n.toNat) w) := by
  have h := bytes_t B b rem n.toNat w (by omega) ht hbw
  rwa [Int.toNat_of_nonneg h0] at h

/-! The same, whatever the numbers are. -/
/-- It returns some number from 0 to n - 1. -/
def RetN (n : Int) (B b : Nat) (w : World) (e : Ending) (w' : World) : Prop := ∃ q : Int, 0 ≤ q ∧ q < n ∧ e = .returned (.int .i64 q) ∧ Tp B w' b ∧ w.grownBy w' (some b)
/-- It returns some string of n bytes. -/
def RetB (n : Int) (B b : Nat) (w : World) (e : Ending) (w' : World) : Prop := ∃ s : ByteArray, s.size = n.toNat ∧ e = .returned (.string s) ∧ Tp B w' b ∧ w.grownBy w' (some b)
theorem next_x (B b : Nat) (n : Int) (w : World) (h0 : 1 ≤ n) (h1 : n ≤ 1000000) (ht : Tp B w b) :
    Calls Try.prog 7 #[.pointer (some ⟨b, 0, none⟩), .int .i64 n] w (RetN n B b w) := by
  obtain ⟨rem, h⟩ := ht
  exact (next_t B b rem n w h0 h1 h).mono fun e w' ⟨he, hT, hG⟩ => ⟨_, (tnext_lt rem n (by omega)).1, (tnext_lt rem n (by omega)).2, he, ⟨_, hT⟩, hG⟩
theorem bytes_x (B b : Nat) (n : Int) (w : World) (h0 : 0 ≤ n) (h1 : n ≤ 64) (ht : Tp B w b) (hbw : B ≤ w.heap.size) :
    Calls Try.prog 5 #[.pointer (some ⟨b, 0, none⟩), .int .i64 n] w (RetB n B b w) := by
  obtain ⟨rem, h⟩ := ht
  exact (bytes_i B b rem n w h0 h1 h hbw).mono fun e w' ⟨he, hT, hG⟩ => ⟨_, tbytes_size _ _, he, ⟨_, hT⟩, hG⟩
end Go.Proofs.Ytokbkidoapgamaa

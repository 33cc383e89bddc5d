/- The contracts of the document's answers for layer 2, fourth part: New, Hole, Read. -/
import Derived.Test.YthkhcbkbhnnegaaRef4
namespace Go.Proofs.Ythkhcbkbhnnegaa
open Go.RowKit Go.Mine

def readB (d : ByteArray) (v t s n : Int) : Bool := decide (accE d v t s n false = 0)
theorem read_all (d : ByteArray) (v t s n : Int) (w : World) :
    Calls Try.prog 14 #[pageV d v t, .int .i64 s, .int .i64 n] w (RetG (.tuple #[.string (pickD (readB d v t s n) (d.extract s.toNat (s.toNat + n.toNat))), .int .i64 (accE d v t s n false)]) w) := by
  by_cases h : accE d v t s n false = 0
  · obtain ⟨h0, h1, -, -⟩ := rangeB_iff (accE_zero h).2.1
    obtain ⟨p, rfl⟩ := Int.eq_ofNat_of_zero_le h0
    obtain ⟨q, rfl⟩ := Int.eq_ofNat_of_zero_le h1
    exact (read_ok d v t p q w h).mono (retG_to (by simp [readB, h, pickD]))
  · exact (read_bad d v t s n w h).mono (retG_to (by simp [readB, h, pickD]))

set_option maxHeartbeats 1000000 in
theorem rRead_all (d : ByteArray) (v t s n : Int) (w : World) :
    Calls Try.prog 15 #[pageV d v t, .int .i64 s, .int .i64 n] w (RetG (.tuple #[.string (pickD (readB d v t s n) (d.extract s.toNat (s.toNat + n.toNat))), .int .i64 (accE d v t s n false)]) w) := by
  by_cases he : needE d v t s n = 0
  · obtain ⟨hr, hg⟩ : rightB d v t = true ∧ rangeB s n = true := by
      unfold needE at he
      split at he
      · split at he
        · exact ⟨‹_›, ‹_›⟩
        · omega
      · omega
    obtain ⟨h0, h1, h2, h3⟩ := rangeB_iff hg
    by_cases hn : needN v s n false = 0
    · have ha : accE d v t s n false = 0 := by simp [accE, hr, hg, hn]
      obtain ⟨p, rfl⟩ := Int.eq_ofNat_of_zero_le h0
      obtain ⟨q, rfl⟩ := Int.eq_ofNat_of_zero_le h1
      refine Calls.mono (R := RetG (.tuple #[.string (d.extract p (p + q)), .int .i64 0]) w) ?_ (retG_to (by simp [readB, ha, pickD]))
      have hv : needV d v t p q false = 0 := by simp [needV, hr, hg, hn]
      have hd := (rightB_parts hr).1
      clear ha hn hr hg
      go_enter Try.func15, Try.ntmps15
      go_wp2_with (go_at_call 13; (with_reducible refine (rNeeds_s _ _ _ _ _ _ _).mono ?_); rintro e w1 ⟨rfl, rfl⟩)
      go_ret2
      exact ⟨rfl, ((Grew.refl _).alloc _).alloc _ |>.alloc _⟩
    · have ha : accE d v t s n false = 7 := by simp [accE, hr, hg, hn]
      refine Calls.mono (R := RetG (.tuple #[.string { data := #[] }, .int .i64 7]) w) ?_ (retG_to (by simp [readB, ha, pickD]))
      have hv : (needV d v t s n false != 0) = true := by simp [needV, hr, hg, hn]
      clear ha hn hr hg
      go_enter Try.func15, Try.ntmps15
      go_wp2_with (go_at_call 13; (with_reducible refine (rNeeds_s _ _ _ _ _ _ _).mono ?_); rintro e w1 ⟨rfl, rfl⟩)
      go_ret2
      exact ⟨rfl, ((Grew.refl _).alloc _).alloc _ |>.alloc _⟩
  · have ha : accE d v t s n false = needE d v t s n := by
      unfold accE needE
      unfold needE at he
      split
      · rw [if_pos ‹_›] at he
        split
        · rw [if_pos ‹_›] at he; omega
        · rfl
      · rfl
    refine Calls.mono (R := RetG (.tuple #[.string { data := #[] }, .int .i64 (needE d v t s n)]) w) ?_ (retG_to (by simp [readB, ha, he, pickD]))
    have h1 : (needE d v t s n != 0) = true := by simpa using he
    clear ha he
    go_enter Try.func15, Try.ntmps15
    go_wp2_with (go_at_call 13; (with_reducible refine (rNeeds_s _ _ _ _ _ _ _).mono ?_); rintro e w1 ⟨rfl, rfl⟩)
    go_ret2
    exact ⟨rfl, ((Grew.refl _).alloc _).alloc _ |>.alloc _⟩

theorem info_u8b : (Try.prog.info? 5).map (fun i => (i.zero, i.size, i.bytes)) = some (some (.int .u8 0), 1, 1) := by kernel_rfl

theorem zeros_made (W : World) (r : Obj) : (convert 45 9 (.slice (some ⟨W.heap.size + 1, 0, none⟩) 16 16)).run Try.prog ((W.alloc r).alloc (.cells (madeCells #[.int .u8 0] 16) 5)) = .ok (.string zeroP) ((W.alloc r).alloc (.cells (madeCells #[.int .u8 0] 16) 5)) := by
  have hR := World.rowIs_made (W.alloc r) (.int .u8 0) 16 5
  simp only [World.size_alloc] at hR
  have h := run_convert_bytes_arg (P := Try.prog) ((W.alloc r).alloc (.cells (madeCells #[.int .u8 0] 16) 5)) 45 5 Try.underlying45 Try.underlying5 (W.heap.size + 1) 0 16 16 (List.replicate 16 0) (by simp) (fun i hi => by
    rw [Nat.zero_add, hR.cell hi]
    have z : ∀ i, i < 16 → (List.replicate 16 (0 : Int)).getD i 0 = 0 := by decide
    rw [z i hi]) _ Try.underlying9
  rw [h]
  congr 2

set_option maxHeartbeats 1000000 in
theorem rNew_any (w : World) : Calls Try.prog 19 #[] w (RetG (pageV zeroP 0 0) w) := by
  have hmk : ∀ W : World, (Instr.makeSlice 45 (.int .i64 16) (.int .i64 16)).run Try.prog W = .ok (.slice (some ⟨W.heap.size, 0, none⟩) 16 16) (W.alloc (.cells (madeCells #[.int .u8 0] 16) 5)) := run_make_row' (P := Try.prog) 45 5 (.int .u8 0) 1 Try.underlying45 info_u8b rfl .i64 .i64 16 (by omega) (by omega)
  have hcv := zeros_made w (.cells #[.string { data := #[] }, .int .i64 0, .int .i64 0] 27)
  go_enter Try.func19, Try.ntmps19
  go_wp2
  refine bodyPost_ret (v := pageV zeroP 0 0) (by simp [results, Try.results19, go_sem]) rfl ⟨rfl, ?_⟩
  exact ((Grew.refl _).alloc _).alloc _

set_option maxHeartbeats 1000000 in
theorem rHole_any (w : World) : Calls Try.prog 21 #[] w (RetG (pageV zeroP 3 0) w) := by
  have hmk : ∀ W : World, (Instr.makeSlice 45 (.int .i64 16) (.int .i64 16)).run Try.prog W = .ok (.slice (some ⟨W.heap.size, 0, none⟩) 16 16) (W.alloc (.cells (madeCells #[.int .u8 0] 16) 5)) := run_make_row' (P := Try.prog) 45 5 (.int .u8 0) 1 Try.underlying45 info_u8b rfl .i64 .i64 16 (by omega) (by omega)
  have hcv := zeros_made w (.cells #[.string { data := #[] }, .int .i64 0, .int .i64 0] 27)
  go_enter Try.func21, Try.ntmps21
  go_wp2
  refine bodyPost_ret (v := pageV zeroP 3 0) (by simp [results, Try.results21, go_sem]) rfl ⟨rfl, ?_⟩
  exact ((Grew.refl _).alloc _).alloc _
theorem rCheck_g (d : ByteArray) (v t : Int) (w : World) : Calls Try.prog 17 #[pageV d v t] w (RetG (.bool (rightB d v t)) w) :=
  (rCheck_any d v t w).mono fun _ _ ⟨h, k⟩ => ⟨h, k ▸ (Grew.refl _).alloc _⟩
end Go.Proofs.Ythkhcbkbhnnegaa

/- The contracts of package page (layer 2), fourth part. -/
import Derived.Test.YtokbkidoapgamaaPage3
namespace Go.Proofs.Ytokbkidoapgamaa
open Go.RowKit Go.Mine

abbrev noPage : Value := pageV { data := #[] } 0 0

theorem setB_cases {s : Int} (h : setB s = true) : s = 0 ∨ s = 1 ∨ s = 2 ∨ s = 3 := by
  have : 0 ≤ s ∧ s ≤ 3 := by simpa [setB] using h
  omega
theorem rightB_parts {d : ByteArray} {v t : Int} (h : rightB d v t = true) : d.size = 16 ∧ setB v = true ∧ setB t = true ∧ bits .andNot .i64 t v = 0 := by
  simp only [rightB, Bool.and_eq_true, decide_eq_true_eq] at h
  exact ⟨h.1, h.2.1, h.2.2.1, h.2.2.2⟩
theorem andNot_set {s v : Int} (h : setB s = true) (h' : setB v = true) : bits .andNot .i64 s v = 0 ∨ bits .andNot .i64 s v = 1 ∨ bits .andNot .i64 s v = 2 ∨ bits .andNot .i64 s v = 3 := by
  rcases setB_cases h with rfl | rfl | rfl | rfl <;> rcases setB_cases h' with rfl | rfl | rfl | rfl <;> decide +kernel
theorem accE_zero {d : ByteArray} {v t s n : Int} {wr : Bool} (h : accE d v t s n wr = 0) : rightB d v t = true ∧ rangeB s n = true ∧ needN v s n wr = 0 := by
  unfold accE at h
  split at h
  · split at h
    · split at h
      · exact ⟨‹_›, ‹_›, ‹_›⟩
      · omega
    · omega
  · omega
theorem secE_zero {d : ByteArray} {v t s : Int} (h : secE d v t s = 0) : rightB d v t = true ∧ setB s = true := by
  unfold secE at h
  split at h
  · split at h
    · exact ⟨‹_›, ‹_›⟩
    · omega
  · omega

set_option maxHeartbeats 1000000 in
theorem read_bad (d : ByteArray) (v t s n : Int) (w : World) (h : accE d v t s n false ≠ 0) :
    Calls Try.prog 11 #[pageV d v t, .int .i64 s, .int .i64 n] w (RetG (.tuple #[.string { data := #[] }, .int .i64 (accE d v t s n false)]) w) := by
  have h1 : (accE d v t s n false != 0) = true := by simpa using h
  clear h
  go_enter Try.func11, Try.ntmps11
  go_wp2_with (go_at_call 23; (with_reducible refine (checkAccess_any _ _ _ _ _ _ _).mono ?_); rintro e w1 ⟨rfl, rfl⟩)
  go_ret2
  exact ⟨rfl, (((Grew.refl _).alloc _).alloc _ |>.alloc _).alloc _⟩

set_option maxHeartbeats 1000000 in
theorem read_ok (d : ByteArray) (v t : Int) (s n : Nat) (w : World) (h : accE d v t s n false = 0) :
    Calls Try.prog 11 #[pageV d v t, .int .i64 s, .int .i64 n] w (RetG (.tuple #[.string (d.extract s (s + n)), .int .i64 0]) w) := by
  obtain ⟨hr, hg, _⟩ := accE_zero h
  obtain ⟨h0, h1, h2, h3⟩ := rangeB_iff hg
  obtain ⟨hd, _, _, _⟩ := rightB_parts hr
  clear hr hg
  go_enter Try.func11, Try.ntmps11
  go_wp2_with (go_at_call 23; (with_reducible refine (checkAccess_any _ _ _ _ _ _ _).mono ?_); rintro e w1 ⟨rfl, rfl⟩)
  go_ret2
  exact ⟨rfl, (((Grew.refl _).alloc _).alloc _ |>.alloc _).alloc _⟩

set_option maxHeartbeats 1000000 in
theorem clean_bad (d : ByteArray) (v t s : Int) (w : World) (h : secE d v t s ≠ 0) :
    Calls Try.prog 24 #[pageV d v t, .int .i64 s] w (RetG (.tuple #[noPage, .int .i64 (secE d v t s)]) w) := by
  have h1 : (secE d v t s != 0) = true := by simpa using h
  clear h
  go_enter Try.func24, Try.ntmps24
  go_wp2_with (go_at_call 18; (with_reducible refine (checkSectors_any _ _ _ _ _).mono ?_); rintro e w1 ⟨rfl, rfl⟩)
  refine bodyPost_ret (v := .tuple #[noPage, .int .i64 (secE d v t s)]) (by simp [results, Try.results24, go_sem]) rfl ⟨rfl, ?_⟩
  exact (((Grew.refl _).alloc _).alloc _ |>.alloc _).alloc _

set_option maxHeartbeats 1000000 in
theorem clean_ok (d : ByteArray) (v t s : Int) (w : World) (h : secE d v t s = 0) :
    Calls Try.prog 24 #[pageV d v t, .int .i64 s] w (RetG (.tuple #[pageV d v (bits .andNot .i64 t s), .int .i64 0]) w) := by
  go_enter Try.func24, Try.ntmps24
  go_wp2_with (go_at_call 18; (with_reducible refine (checkSectors_any _ _ _ _ _).mono ?_); rintro e w1 ⟨rfl, rfl⟩)
  refine bodyPost_ret (v := .tuple #[pageV d v (bits .andNot .i64 t s), .int .i64 0]) (by simp [results, Try.results24, go_sem]) rfl ⟨rfl, ?_⟩
  exact (((Grew.refl _).alloc _).alloc _ |>.alloc _).alloc _

set_option maxHeartbeats 1000000 in
theorem soil_ok (d : ByteArray) (v t s : Int) (w : World) (h : secE d v t s = 0) :
    Calls Try.prog 25 #[pageV d v t, .int .i64 s] w (RetG (.tuple #[pageV d v (bits .or .i64 t (bits .and .i64 s v)), .int .i64 0]) w) := by
  go_enter Try.func25, Try.ntmps25
  go_wp2_with (go_at_call 18; (with_reducible refine (checkSectors_any _ _ _ _ _).mono ?_); rintro e w1 ⟨rfl, rfl⟩)
  refine bodyPost_ret (v := .tuple #[pageV d v (bits .or .i64 t (bits .and .i64 s v)), .int .i64 0]) (by simp [results, Try.results25, go_sem]) rfl ⟨rfl, ?_⟩
  exact (((Grew.refl _).alloc _).alloc _ |>.alloc _).alloc _

set_option maxHeartbeats 1000000 in
theorem fill_ok (d x : ByteArray) (v t s : Int) (w : World) (h : secE d v t s = 0) (hx : x.size = 16) :
    Calls Try.prog 8 #[pageV d v t, .int .i64 s, .string x] w (RetG (.tuple #[pageV (mixP d x (bits .andNot .i64 s v)) (bits .or .i64 v s) t, .int .i64 0]) w) := by
  obtain ⟨hr, hs⟩ := secE_zero h
  obtain ⟨hd, hv, _, _⟩ := rightB_parts hr
  have han := andNot_set hs hv
  have HA := Lib.hid han
  clear hr hs hv han
  go_enter Try.func8, Try.ntmps8
  go_wp2_with (first
    | (go_at_call 18; (with_reducible refine (checkSectors_any _ _ _ _ _).mono ?_); rintro e w1 ⟨rfl, rfl⟩)
    | (go_at_call 19; (with_reducible refine (mix_any _ _ _ _ hd hx HA.out).mono ?_); rintro e w1 ⟨rfl, rfl⟩))
  refine bodyPost_ret (v := .tuple #[pageV (mixP d x (bits .andNot .i64 s v)) (bits .or .i64 v s) t, .int .i64 0]) (by simp [results, Try.results8, go_sem]) rfl ⟨rfl, ?_⟩
  exact (((Grew.refl _).alloc _).alloc _ |>.alloc _).alloc _

set_option maxHeartbeats 1000000 in
theorem fill_bad (d x : ByteArray) (v t s : Int) (w : World) (h : secE d v t s ≠ 0) :
    Calls Try.prog 8 #[pageV d v t, .int .i64 s, .string x] w (RetG (.tuple #[noPage, .int .i64 (secE d v t s)]) w) := by
  have h1 : (secE d v t s != 0) = true := by simpa using h
  clear h
  go_enter Try.func8, Try.ntmps8
  go_wp2_with (go_at_call 18; (with_reducible refine (checkSectors_any _ _ _ _ _).mono ?_); rintro e w1 ⟨rfl, rfl⟩)
  refine bodyPost_ret (v := .tuple #[noPage, .int .i64 (secE d v t s)]) (by simp [results, Try.results8, go_sem]) rfl ⟨rfl, ?_⟩
  exact (((Grew.refl _).alloc _).alloc _ |>.alloc _).alloc _

set_option maxHeartbeats 1000000 in
theorem fill_len (d x : ByteArray) (v t s : Int) (w : World) (h : secE d v t s = 0) (hx : x.size ≠ 16) :
    Calls Try.prog 8 #[pageV d v t, .int .i64 s, .string x] w (RetG (.tuple #[noPage, .int .i64 2]) w) := by
  have h1 : ((x.size : Int) != 16) = true := by rw [bne_iff_ne]; omega
  clear hx
  go_enter Try.func8, Try.ntmps8
  go_wp2_with (go_at_call 18; (with_reducible refine (checkSectors_any _ _ _ _ _).mono ?_); rintro e w1 ⟨rfl, rfl⟩)
  refine bodyPost_ret (v := .tuple #[noPage, .int .i64 2]) (by simp [results, Try.results8, go_sem]) rfl ⟨rfl, ?_⟩
  exact (((Grew.refl _).alloc _).alloc _ |>.alloc _).alloc _

set_option maxHeartbeats 1000000 in
theorem soil_bad (d : ByteArray) (v t s : Int) (w : World) (h : secE d v t s ≠ 0) :
    Calls Try.prog 25 #[pageV d v t, .int .i64 s] w (RetG (.tuple #[noPage, .int .i64 (secE d v t s)]) w) := by
  have h1 : (secE d v t s != 0) = true := by simpa using h
  clear h
  go_enter Try.func25, Try.ntmps25
  go_wp2_with (go_at_call 18; (with_reducible refine (checkSectors_any _ _ _ _ _).mono ?_); rintro e w1 ⟨rfl, rfl⟩)
  refine bodyPost_ret (v := .tuple #[noPage, .int .i64 (secE d v t s)]) (by simp [results, Try.results25, go_sem]) rfl ⟨rfl, ?_⟩
  exact (((Grew.refl _).alloc _).alloc _ |>.alloc _).alloc _

set_option maxHeartbeats 1000000 in
theorem write_bad (d x : ByteArray) (v t s : Int) (w : World) (h : accE d v t s x.size true ≠ 0) :
    Calls Try.prog 10 #[pageV d v t, .int .i64 s, .string x] w (RetG (.tuple #[noPage, .int .i64 (accE d v t s x.size true)]) w) := by
  have h1 : (accE d v t s x.size true != 0) = true := by simpa using h
  clear h
  go_enter Try.func10, Try.ntmps10
  go_wp2_with (go_at_call 23; (with_reducible refine (checkAccess_any _ _ _ _ _ _ _).mono ?_); rintro e w1 ⟨rfl, rfl⟩)
  refine bodyPost_ret (v := .tuple #[noPage, .int .i64 (accE d v t s x.size true)]) (by simp [results, Try.results10, go_sem]) rfl ⟨rfl, ?_⟩
  exact ((((Grew.refl _).alloc _).alloc _ |>.alloc _).alloc _).alloc _

set_option maxHeartbeats 1000000 in
theorem write_ok (d x : ByteArray) (v t : Int) (s : Nat) (w : World) (h : accE d v t s x.size true = 0) :
    Calls Try.prog 10 #[pageV d v t, .int .i64 s, .string x] w
      (RetG (.tuple #[pageV (d.extract 0 s ++ x ++ d.extract (s + x.size) 16) (bits .or .i64 v (secs s x.size 1)) (bits .or .i64 t (secs s x.size 1)), .int .i64 0]) w) := by
  obtain ⟨hr, hg, _⟩ := accE_zero h
  obtain ⟨h0, h1, h2, h3⟩ := rangeB_iff hg
  obtain ⟨hd, _, _, _⟩ := rightB_parts hr
  clear hr hg
  go_enter Try.func10, Try.ntmps10
  go_wp2_with (first
    | (go_at_call 23; (with_reducible refine (checkAccess_any _ _ _ _ _ _ _).mono ?_); rintro e w1 ⟨rfl, rfl⟩)
    | (go_at_call 21; (with_reducible refine (touched_any _ _ _ h0 h1 h2 h3).mono ?_); rintro e w1 ⟨rfl, rfl⟩))
  go_region
  all_goals go_wp2
  all_goals refine bodyPost_ret (v := .tuple #[pageV (d.extract 0 s ++ x ++ d.extract (s + x.size) 16) (bits .or .i64 v (secs s x.size 1)) (bits .or .i64 t (secs s x.size 1)), .int .i64 0]) (by simp [results, Try.results10, go_sem]) rfl ⟨rfl, ?_⟩
  all_goals exact (((((Grew.refl _).alloc _).alloc _ |>.alloc _).alloc _).alloc _).drew
end Go.Proofs.Ytokbkidoapgamaa

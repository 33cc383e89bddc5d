/- What is needed, and what is not too much: plain facts, and the calls that rest on them. -/
import Derived.Test.YtokbkidoapgamaaPage5
import Derived.Test.YtokbkidoapgamaaExch
namespace Go.Proofs.Ytokbkidoapgamaa
open Go.RowKit Go.Mine

/-- What a range wants, whatever is valid. -/
def wantM (o n : Int) (wr : Bool) : Int := if wr = true then bits .andNot .i64 (secs o n 1) (secs o n 8) else secs o n 1
theorem secs_c (s n m : Int) : secs s n m = 0 ∨ secs s n m = 1 ∨ secs s n m = 2 ∨ secs s n m = 3 := by
  unfold secs
  split <;> split <;> omega
theorem wantM_c (o n : Int) (wr : Bool) : wantM o n wr = 0 ∨ wantM o n wr = 1 ∨ wantM o n wr = 2 ∨ wantM o n wr = 3 := by
  unfold wantM
  split
  · rcases secs_c o n 1 with e | e | e | e <;> rcases secs_c o n 8 with f | f | f | f <;> rw [e, f] <;> decide +kernel
  · exact secs_c o n 1
theorem need_want (v o n : Int) (wr : Bool) : needN v o n wr = bits .andNot .i64 (wantM o n wr) v := rfl
theorem need_facts (M v : Int) (hM : M = 0 ∨ M = 1 ∨ M = 2 ∨ M = 3) (hv : v = 0 ∨ v = 1 ∨ v = 2 ∨ v = 3) :
    bits .andNot .i64 M (bits .or .i64 v (bits .andNot .i64 M v)) = 0 ∧ setB (bits .andNot .i64 M v) = true ∧ (v = 3 → bits .andNot .i64 M v = 0) ∧
    (∀ k : Int, k = 1 ∨ k = 2 → setB (bits .andNot .i64 (bits .andNot .i64 M v) k) = true ∧ (bits .andNot .i64 (bits .andNot .i64 M v) k ≠ bits .andNot .i64 M v → bits .andNot .i64 M (bits .or .i64 v (bits .andNot .i64 (bits .andNot .i64 M v) k)) ≠ 0)) := by
  rcases hM with rfl | rfl | rfl | rfl <;> rcases hv with rfl | rfl | rfl | rfl <;>
    exact ⟨by decide +kernel, by decide +kernel, by decide +kernel, fun k hk => by rcases hk with rfl | rfl <;> exact ⟨by decide +kernel, by decide +kernel⟩⟩
theorem mix_size (d x : ByteArray) (s : Int) (hd : d.size = 16) (hx : x.size = 16) : (mixP d x s).size = 16 := by
  unfold mixP
  rw [ByteArray.size_append]
  split <;> split <;> simp [ByteArray.size_extract, hd, hx]
theorem or_right {d d' : ByteArray} {v t l : Int} (h : rightB d v t = true) (hd : d'.size = 16) (hl : setB l = true) : rightB d' (bits .or .i64 v l) t = true := by
  obtain ⟨_, hc⟩ := right_cases h
  rcases setB_cases hl with rfl | rfl | rfl | rfl <;> rcases hc with ⟨rfl, rfl⟩ | ⟨rfl, rfl⟩ | ⟨rfl, rfl⟩ | ⟨rfl, rfl⟩ | ⟨rfl, rfl⟩ | ⟨rfl, rfl⟩ | ⟨rfl, rfl⟩ | ⟨rfl, rfl⟩ | ⟨rfl, rfl⟩ <;>
    exact right_mk hd (by decide +kernel) (by decide +kernel) (by decide +kernel)

set_option maxHeartbeats 1000000 in
theorem attempt_all (d s : ByteArray) (v t o : Int) (wr : Bool) (w : World) :
    Calls Try.prog 15 #[pageV d v t, .int .i64 o, .string s, .bool wr] w (RetG (.int .i64 (accE d v t o s.size wr)) w) := by
  cases wr
  · by_cases h : accE d v t o s.size false = 0
    · obtain ⟨h0, -, -, -⟩ := rangeB_iff (accE_zero h).2.1
      obtain ⟨p, rfl⟩ := Int.eq_ofNat_of_zero_le h0
      go_enter Try.func15, Try.ntmps15
      go_wp2_with (go_at_call 11; (with_reducible refine (read_ok _ _ _ _ _ _ h).mono ?_); rintro e w_hb ⟨rfl, hb⟩; obtain ⟨hb_c, hb_f⟩ := hb.cells; have hb_z := hb.size)
      go_ret
      refine ⟨ret_int h.symm, ?_⟩
      repeat (first | exact ((Grew.refl _).alloc _).trans hb | refine Grew.alloc ?_ _)
    · go_enter Try.func15, Try.ntmps15
      go_wp2_with (go_at_call 11; (with_reducible refine (read_bad _ _ _ _ _ _ h).mono ?_); rintro e w_hb ⟨rfl, hb⟩; obtain ⟨hb_c, hb_f⟩ := hb.cells; have hb_z := hb.size)
      go_ret
      refine ⟨rfl, ?_⟩
      repeat (first | exact ((Grew.refl _).alloc _).trans hb | refine Grew.alloc ?_ _)
  · go_enter Try.func15, Try.ntmps15
    go_wp2_with (go_at_call 10; (with_reducible refine (write_all _ _ _ _ _ _).mono ?_); rintro e w_hb ⟨rfl, hb⟩; obtain ⟨hb_c, hb_f⟩ := hb.cells; have hb_z := hb.size)
    go_ret
    refine ⟨rfl, ?_⟩
    repeat (first | exact ((Grew.refl _).alloc _).trans hb | refine Grew.alloc ?_ _)

theorem nd_att (d s : ByteArray) (v t o n : Int) (wr : Bool) (w : World) (h : rightB d v t = true) (hg : rangeB o n = true) (hs : (s.size : Int) = n) (hz : needN v o n wr = 0) :
    Calls Try.prog 15 #[pageV d v t, .int .i64 o, .string s, .bool wr] w (RetG (.int .i64 0) w) :=
  (attempt_all d s v t o wr w).mono (retG_to (by rw [hs]; simp [accE, h, hg, hz]))
theorem nd_busy (d s : ByteArray) (v t o n : Int) (wr : Bool) (w : World) (h : rightB d v t = true) (hg : rangeB o n = true) (hs : (s.size : Int) = n) (hz : needN v o n wr ≠ 0) :
    Calls Try.prog 15 #[pageV d v t, .int .i64 o, .string s, .bool wr] w (RetG (.int .i64 7) w) :=
  (attempt_all d s v t o wr w).mono (retG_to (by rw [hs]; simp [accE, h, hg, hz]))
theorem nd_fill (d x : ByteArray) (v t l : Int) (w : World) (h : rightB d v t = true) (hl : setB l = true) (hx : x.size = 16) :
    Calls Try.prog 8 #[pageV d v t, .int .i64 l, .string x] w (RetG (.tuple #[pageV (mixP d x (bits .andNot .i64 l v)) (bits .or .i64 v l) t, .int .i64 0]) w) :=
  fill_ok d x v t l w (by simp [secE, h, hl]) hx
theorem nd_needs (d : ByteArray) (v t o n : Int) (wr : Bool) (w : World) (h : rightB d v t = true) (hg : rangeB o n = true) :
    Calls Try.prog 9 #[pageV d v t, .int .i64 o, .int .i64 n, .bool wr] w (RetG (.tuple #[.int .i64 (needN v o n wr), .int .i64 0]) w) :=
  (needs_ok d v t o n wr w h hg).mono fun _ _ ⟨e, k⟩ => ⟨e, k ▸ ((Grew.refl _).alloc _).alloc _⟩
theorem nd_bad (d : ByteArray) (v t o n : Int) (wr : Bool) (w : World) (h : rightB d v t = false) :
    Calls Try.prog 9 #[pageV d v t, .int .i64 o, .int .i64 n, .bool wr] w (RetG (.tuple #[.int .i64 0, .int .i64 1]) w) :=
  (needs_bad d v t o n wr w h).mono fun _ _ ⟨e, k⟩ => ⟨e, k ▸ ((Grew.refl _).alloc _).alloc _⟩

end Go.Proofs.Ytokbkidoapgamaa

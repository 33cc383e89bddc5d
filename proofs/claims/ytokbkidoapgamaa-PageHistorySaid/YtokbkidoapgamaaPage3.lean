/- The contracts of package page (layer 2), third part. -/
import Derived.Test.YtokbkidoapgamaaPage2
import Derived.Test.YtokbkidoapgamaaShelf
import Derived.RegionTactic
import Derived.ChangeAlike
import Derived.BigRegion
namespace Go.Proofs.Ytokbkidoapgamaa
open Go.RowKit Go.Mine

def accE (d : ByteArray) (v t s n : Int) (wr : Bool) : Int := if rightB d v t = true then (if rangeB s n = true then (if needN v s n wr = 0 then 0 else 7) else 2) else 1

set_option maxHeartbeats 1000000 in
theorem checkAccess_any (d : ByteArray) (v t s n : Int) (wr : Bool) (w : World) :
    Calls Try.prog 23 #[pageV d v t, .int .i64 s, .int .i64 n, .bool wr] w (RetS (.int .i64 (accE d v t s n wr)) (((w.alloc (boxP d v t)).alloc (boxP d v t)).alloc (boxP d v t))) := by
  by_cases hr : rightB d v t = true
  · by_cases hg : rangeB s n = true
    · have hv : accE d v t s n wr = if needN v s n wr = 0 then 0 else 7 := by simp [accE, hr, hg]
      rw [hv]
      clear hv
      by_cases hn : needN v s n wr = 0
      · rw [if_pos hn]
        go_enter Try.func23, Try.ntmps23
        go_wp2_with (go_at_call 9; (with_reducible refine (needs_ok _ _ _ _ _ _ _ hr hg).mono ?_); rintro e w1 ⟨rfl, rfl⟩)
        go_ret
        exact ⟨rfl, rfl⟩
      · rw [if_neg hn]
        have hn1 : (needN v s n wr != 0) = true := by simpa using hn
        go_enter Try.func23, Try.ntmps23
        go_wp2_with (go_at_call 9; (with_reducible refine (needs_ok _ _ _ _ _ _ _ hr hg).mono ?_); rintro e w1 ⟨rfl, rfl⟩)
        go_ret
        exact ⟨rfl, rfl⟩
    · have hg' : rangeB s n = false := by simpa using hg
      have hv : accE d v t s n wr = 2 := by simp [accE, hr, hg']
      rw [hv]
      clear hv hg
      go_enter Try.func23, Try.ntmps23
      go_wp2_with (go_at_call 9; (with_reducible refine (needs_off _ _ _ _ _ _ _ hr hg').mono ?_); rintro e w1 ⟨rfl, rfl⟩)
      go_ret
      exact ⟨rfl, rfl⟩
  · have hr' : rightB d v t = false := by simpa using hr
    have hv : accE d v t s n wr = 1 := by simp [accE, hr']
    rw [hv]
    clear hv hr
    go_enter Try.func23, Try.ntmps23
    go_wp2_with (go_at_call 9; (with_reducible refine (needs_bad _ _ _ _ _ _ _ hr').mono ?_); rintro e w1 ⟨rfl, rfl⟩)
    go_ret
    exact ⟨rfl, rfl⟩

def secE (d : ByteArray) (v t s : Int) : Int := if rightB d v t = true then (if setB s = true then 0 else 2) else 1

set_option maxHeartbeats 1000000 in
theorem checkSectors_any (d : ByteArray) (v t s : Int) (w : World) :
    Calls Try.prog 18 #[pageV d v t, .int .i64 s] w (RetS (.int .i64 (secE d v t s)) ((w.alloc (boxP d v t)).alloc (boxP d v t))) := by
  by_cases hr : rightB d v t = true
  · by_cases hg : setB s = true
    · have hv : secE d v t s = 0 := by simp [secE, hr, hg]
      rw [hv]
      clear hv
      go_enter Try.func18, Try.ntmps18
      go_wp2_with (first
        | (go_at_call 14; (with_reducible refine (check_any _ _ _ _).mono ?_); rintro e w1 ⟨rfl, rfl⟩)
        | (go_at_call 27; (with_reducible refine (isSet_any _ _).mono ?_); rintro e w1 ⟨rfl, rfl⟩))
      go_ret
      exact ⟨rfl, rfl⟩
    · have hg' : setB s = false := by simpa using hg
      have hv : secE d v t s = 2 := by simp [secE, hr, hg']
      rw [hv]
      clear hv hg
      go_enter Try.func18, Try.ntmps18
      go_wp2_with (first
        | (go_at_call 14; (with_reducible refine (check_any _ _ _ _).mono ?_); rintro e w1 ⟨rfl, rfl⟩)
        | (go_at_call 27; (with_reducible refine (isSet_any _ _).mono ?_); rintro e w1 ⟨rfl, rfl⟩))
      go_ret
      exact ⟨rfl, rfl⟩
  · have hr' : rightB d v t = false := by simpa using hr
    have hv : secE d v t s = 1 := by simp [secE, hr']
    rw [hv]
    clear hv hr
    go_enter Try.func18, Try.ntmps18
    go_wp2_with (go_at_call 14; (with_reducible refine (check_any _ _ _ _).mono ?_); rintro e w1 ⟨rfl, rfl⟩)
    go_ret
    exact ⟨rfl, rfl⟩

/-! New, Hole. -/
def zeroP : ByteArray := ⟨(List.replicate 16 0).toArray⟩
theorem rep_zero : (⟨(Lib.repeatL (ByteArray.mk #[0]).data.toList 16).toArray⟩ : ByteArray) = zeroP := by decide +kernel

set_option maxHeartbeats 1000000 in
theorem zeros_any (w : World) : Calls Try.prog 16 #[] w (RetG (.string zeroP) w) := by
  have hz := rep_zero
  go_enter Try.func16, Try.ntmps16
  go_wp2_with (go_at_call 28; refine (Try.strings_Repeat _ 16 _ (by omega) (by decide)).mono ?_; rintro e w1 ⟨rfl, hb⟩)
  go_ret
  exact ⟨ret_str rep_zero, hb⟩

set_option maxHeartbeats 1000000 in
theorem new_any (w : World) : Calls Try.prog 6 #[] w (RetG (pageV zeroP 0 0) w) := by
  go_enter Try.func6, Try.ntmps6
  go_wp2_with (go_at_call 16; (with_reducible refine (zeros_any _).mono ?_); rintro e w_hb ⟨rfl, hb⟩; obtain ⟨hb_c, hb_f⟩ := hb.cells; have hb_z := hb.size)
  refine bodyPost_ret (v := pageV zeroP 0 0) (by simp [results, Try.results6, go_sem, hb_c]) rfl ⟨rfl, ?_⟩
  exact (((((Grew.refl _).alloc _).trans hb).set (by simp) _).set (by simp) _).set (by simp) _

set_option maxHeartbeats 1000000 in
theorem hole_any (w : World) : Calls Try.prog 26 #[] w (RetG (pageV zeroP 3 0) w) := by
  go_enter Try.func26, Try.ntmps26
  go_wp2_with (go_at_call 16; (with_reducible refine (zeros_any _).mono ?_); rintro e w_hb ⟨rfl, hb⟩; obtain ⟨hb_c, hb_f⟩ := hb.cells; have hb_z := hb.size)
  refine bodyPost_ret (v := pageV zeroP 3 0) (by simp [results, Try.results26, go_sem, hb_c]) rfl ⟨rfl, ?_⟩
  exact (((((Grew.refl _).alloc _).trans hb).set (by simp) _).set (by simp) _).set (by simp) _
end Go.Proofs.Ytokbkidoapgamaa

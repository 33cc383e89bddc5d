/- The contracts of the document's answers for layer 2, second part. -/
import Derived.Test.YthkhcbkbhnnegaaRef2
import Derived.Test.YthkhcbkbhnnegaaPage5
namespace Go.Proofs.Ythkhcbkbhnnegaa
open Go.RowKit Go.Mine

set_option maxHeartbeats 1000000 in
theorem rNeeds_bad (d : ByteArray) (v t s n : Int) (wr : Bool) (w : World) (hr : rightB d v t = false) :
    Calls Try.prog 13 #[pageV d v t, .int .i64 s, .int .i64 n, .bool wr] w (RetS (.tuple #[.int .i64 0, .int .i64 1]) ((w.alloc (boxP d v t)).alloc (boxP d v t))) := by
  go_enter Try.func13, Try.ntmps13
  go_wp2_with (go_at_call 17; (with_reducible refine (rCheck_any _ _ _ _).mono ?_); rintro e w1 ⟨rfl, rfl⟩)
  go_ret2
  exact ⟨rfl, rfl⟩

set_option maxHeartbeats 1000000 in
theorem rNeeds_off (d : ByteArray) (v t s n : Int) (wr : Bool) (w : World) (hr : rightB d v t = true) (hg : rangeB s n = false) :
    Calls Try.prog 13 #[pageV d v t, .int .i64 s, .int .i64 n, .bool wr] w (RetS (.tuple #[.int .i64 0, .int .i64 2]) ((w.alloc (boxP d v t)).alloc (boxP d v t))) := by
  go_enter Try.func13, Try.ntmps13
  go_wp2_with (first
    | (go_at_call 17; (with_reducible refine (rCheck_any _ _ _ _).mono ?_); rintro e w1 ⟨rfl, rfl⟩)
    | (go_at_call 37; (with_reducible refine (rRanged_any _ _ _).mono ?_); rintro e w1 ⟨rfl, rfl⟩))
  go_ret2
  exact ⟨rfl, rfl⟩

set_option maxHeartbeats 1000000 in
theorem rNeeds_ok (d : ByteArray) (v t s n : Int) (wr : Bool) (w : World) (hr : rightB d v t = true) (hg : rangeB s n = true) :
    Calls Try.prog 13 #[pageV d v t, .int .i64 s, .int .i64 n, .bool wr] w (RetS (.tuple #[.int .i64 (needN v s n wr), .int .i64 0]) ((w.alloc (boxP d v t)).alloc (boxP d v t))) := by
  obtain ⟨h0, h1, h2, h3⟩ := rangeB_iff hg
  cases wr
  all_goals
    go_enter Try.func13, Try.ntmps13
    go_wp2_with (first
      | (go_at_call 17; (with_reducible refine (rCheck_any _ _ _ _).mono ?_); rintro e w1 ⟨rfl, rfl⟩)
      | (go_at_call 37; (with_reducible refine (rRanged_any _ _ _).mono ?_); rintro e w1 ⟨rfl, rfl⟩)
      | (go_at_call 38; (with_reducible refine (rTouched_any _ _ _ h0 h1 h2 h3).mono ?_); rintro e w1 ⟨rfl, rfl⟩))
    go_ret2
    exact ⟨by simp [needN], rfl⟩

/-- What Needs gives, as one function. -/
def needV (d : ByteArray) (v t s n : Int) (wr : Bool) : Int := if rightB d v t = true then (if rangeB s n = true then needN v s n wr else 0) else 0
theorem retS_to {a b : Value} {w : World} (h : a = b) : ∀ e w', RetS a w e w' → RetS b w e w' := fun _ _ k => h ▸ k
theorem rNeeds_s (d : ByteArray) (v t s n : Int) (wr : Bool) (w : World) :
    Calls Try.prog 13 #[pageV d v t, .int .i64 s, .int .i64 n, .bool wr] w (RetS (.tuple #[.int .i64 (needV d v t s n wr), .int .i64 (needE d v t s n)]) ((w.alloc (boxP d v t)).alloc (boxP d v t))) := by
  by_cases hr : rightB d v t = true
  · by_cases hg : rangeB s n = true
    · exact (rNeeds_ok d v t s n wr w hr hg).mono (retS_to (by simp [needV, needE, hr, hg]))
    · exact (rNeeds_off d v t s n wr w hr (by simpa using hg)).mono (retS_to (by simp [needV, needE, hr, hg]))
  · exact (rNeeds_bad d v t s n wr w (by simpa using hr)).mono (retS_to (by simp [needV, needE, hr]))
theorem rNeeds_all (d : ByteArray) (v t s n : Int) (wr : Bool) (w : World) :
    Calls Try.prog 13 #[pageV d v t, .int .i64 s, .int .i64 n, .bool wr] w (RetG (.tuple #[.int .i64 (needV d v t s n wr), .int .i64 (needE d v t s n)]) w) :=
  (rNeeds_s d v t s n wr w).mono fun _ _ ⟨h, k⟩ => ⟨h, k ▸ ((Grew.refl _).alloc _).alloc _⟩
theorem needs_all (d : ByteArray) (v t s n : Int) (wr : Bool) (w : World) :
    Calls Try.prog 12 #[pageV d v t, .int .i64 s, .int .i64 n, .bool wr] w (RetG (.tuple #[.int .i64 (needV d v t s n wr), .int .i64 (needE d v t s n)]) w) := by
  have ex : ∀ (a : Value) e w', RetS a ((w.alloc (boxP d v t)).alloc (boxP d v t)) e w' → RetG a w e w' := fun a e w' ⟨h, k⟩ => ⟨h, k ▸ ((Grew.refl _).alloc _).alloc _⟩
  by_cases hr : rightB d v t = true
  · by_cases hg : rangeB s n = true
    · exact ((needs_ok d v t s n wr w hr hg).mono (ex _)).mono (retG_to (by simp [needV, needE, hr, hg]))
    · exact ((needs_off d v t s n wr w hr (by simpa using hg)).mono (ex _)).mono (retG_to (by simp [needV, needE, hr, hg]))
  · exact ((needs_bad d v t s n wr w (by simpa using hr)).mono (ex _)).mono (retG_to (by simp [needV, needE, hr]))

set_option maxHeartbeats 1000000 in
theorem rClean_all (d : ByteArray) (v t s : Int) (w : World) :
    Calls Try.prog 29 #[pageV d v t, .int .i64 s] w (RetG (.tuple #[pickP (secB0 d v t s) d v (bits .andNot .i64 t s), .int .i64 (secE d v t s)]) w) := by
  by_cases hr : rightB d v t = true
  · by_cases hs : setB s = true
    · have hv := hs
      simp only [setB, decide_eq_true_eq] at hv
      obtain ⟨v0, v3⟩ := hv
      refine Calls.mono (R := RetG (.tuple #[pageV d v (bits .andNot .i64 t s), .int .i64 0]) w) ?_ (retG_to (by rw [pick_yes (by simp [secB0, secE, hr, hs]), show secE d v t s = 0 by simp [secE, hr, hs]]))
      go_enter Try.func29, Try.ntmps29
      go_wp2_with (go_at_call 17; (with_reducible refine (rCheck_any _ _ _ _).mono ?_); rintro e w1 ⟨rfl, rfl⟩)
      refine bodyPost_ret (v := .tuple #[pageV d v (bits .andNot .i64 t s), .int .i64 0]) (by simp [results, Try.results29, go_sem]) rfl ⟨rfl, ?_⟩
      exact ((Grew.refl _).alloc _).alloc _ |>.alloc _
    · have hs' : setB s = false := by simpa using hs
      have hv := hs'
      simp only [setB, decide_eq_false_iff_not] at hv
      refine Calls.mono (R := RetG (.tuple #[noPage, .int .i64 2]) w) ?_ (retG_to (by rw [pick_no (by simp [secB0, secE, hr, hs]), show secE d v t s = 2 by simp [secE, hr, hs]]))
      clear hs
      by_cases h0 : s < 0
      all_goals
        go_enter Try.func29, Try.ntmps29
        go_wp2_with (go_at_call 17; (with_reducible refine (rCheck_any _ _ _ _).mono ?_); rintro e w1 ⟨rfl, rfl⟩)
        all_goals first | (exfalso; omega) | (refine bodyPost_ret (v := .tuple #[noPage, .int .i64 2]) (by simp [results, Try.results29, go_sem]) rfl ⟨rfl, ?_⟩; exact ((Grew.refl _).alloc _).alloc _ |>.alloc _)
  · have hr' : rightB d v t = false := by simpa using hr
    refine Calls.mono (R := RetG (.tuple #[noPage, .int .i64 1]) w) ?_ (retG_to (by rw [pick_no (by simp [secB0, secE, hr]), show secE d v t s = 1 by simp [secE, hr]]))
    clear hr
    go_enter Try.func29, Try.ntmps29
    go_wp2_with (go_at_call 17; (with_reducible refine (rCheck_any _ _ _ _).mono ?_); rintro e w1 ⟨rfl, rfl⟩)
    refine bodyPost_ret (v := .tuple #[noPage, .int .i64 1]) (by simp [results, Try.results29, go_sem]) rfl ⟨rfl, ?_⟩
    exact ((Grew.refl _).alloc _).alloc _ |>.alloc _
set_option maxHeartbeats 1000000 in
theorem rSoil_all (d : ByteArray) (v t s : Int) (w : World) :
    Calls Try.prog 31 #[pageV d v t, .int .i64 s] w (RetG (.tuple #[pickP (secB0 d v t s) d v (bits .or .i64 t (bits .and .i64 s v)), .int .i64 (secE d v t s)]) w) := by
  by_cases hr : rightB d v t = true
  · by_cases hs : setB s = true
    · have hv := hs
      simp only [setB, decide_eq_true_eq] at hv
      obtain ⟨v0, v3⟩ := hv
      refine Calls.mono (R := RetG (.tuple #[pageV d v (bits .or .i64 t (bits .and .i64 s v)), .int .i64 0]) w) ?_ (retG_to (by rw [pick_yes (by simp [secB0, secE, hr, hs]), show secE d v t s = 0 by simp [secE, hr, hs]]))
      go_enter Try.func31, Try.ntmps31
      go_wp2_with (go_at_call 17; (with_reducible refine (rCheck_any _ _ _ _).mono ?_); rintro e w1 ⟨rfl, rfl⟩)
      refine bodyPost_ret (v := .tuple #[pageV d v (bits .or .i64 t (bits .and .i64 s v)), .int .i64 0]) (by simp [results, Try.results31, go_sem]) rfl ⟨rfl, ?_⟩
      exact ((Grew.refl _).alloc _).alloc _ |>.alloc _
    · have hs' : setB s = false := by simpa using hs
      have hv := hs'
      simp only [setB, decide_eq_false_iff_not] at hv
      refine Calls.mono (R := RetG (.tuple #[noPage, .int .i64 2]) w) ?_ (retG_to (by rw [pick_no (by simp [secB0, secE, hr, hs]), show secE d v t s = 2 by simp [secE, hr, hs]]))
      clear hs
      by_cases h0 : s < 0
      all_goals
        go_enter Try.func31, Try.ntmps31
        go_wp2_with (go_at_call 17; (with_reducible refine (rCheck_any _ _ _ _).mono ?_); rintro e w1 ⟨rfl, rfl⟩)
        all_goals first | (exfalso; omega) | (refine bodyPost_ret (v := .tuple #[noPage, .int .i64 2]) (by simp [results, Try.results31, go_sem]) rfl ⟨rfl, ?_⟩; exact ((Grew.refl _).alloc _).alloc _ |>.alloc _)
  · have hr' : rightB d v t = false := by simpa using hr
    refine Calls.mono (R := RetG (.tuple #[noPage, .int .i64 1]) w) ?_ (retG_to (by rw [pick_no (by simp [secB0, secE, hr]), show secE d v t s = 1 by simp [secE, hr]]))
    clear hr
    go_enter Try.func31, Try.ntmps31
    go_wp2_with (go_at_call 17; (with_reducible refine (rCheck_any _ _ _ _).mono ?_); rintro e w1 ⟨rfl, rfl⟩)
    refine bodyPost_ret (v := .tuple #[noPage, .int .i64 1]) (by simp [results, Try.results31, go_sem]) rfl ⟨rfl, ?_⟩
    exact ((Grew.refl _).alloc _).alloc _ |>.alloc _

set_option maxHeartbeats 2000000 in
theorem rWrite_all (d x : ByteArray) (v t s : Int) (w : World) :
    Calls Try.prog 27 #[pageV d v t, .int .i64 s, .string x] w
      (RetG (.tuple #[pickP (accB d x v t s) (writeD d x s) (bits .or .i64 v (secs s x.size 1)) (bits .or .i64 t (secs s x.size 1)), .int .i64 (accE d v t s x.size true)]) w) := by
  by_cases he : needE d v t s x.size = 0
  · obtain ⟨hr, hg⟩ : rightB d v t = true ∧ rangeB s x.size = true := by
      unfold needE at he
      split at he
      · split at he
        · exact ⟨‹_›, ‹_›⟩
        · omega
      · omega
    obtain ⟨h0, h1, h2, h3⟩ := rangeB_iff hg
    by_cases hn : needN v s x.size true = 0
    · have ha : accE d v t s x.size true = 0 := by simp [accE, hr, hg, hn]
      refine Calls.mono (R := RetG (.tuple #[pageV (writeD d x s) (bits .or .i64 v (secs s x.size 1)) (bits .or .i64 t (secs s x.size 1)), .int .i64 0]) w) ?_ (retG_to (by rw [pick_yes (by simp [accB, ha]), ha]))
      obtain ⟨p, rfl⟩ := Int.eq_ofNat_of_zero_le h0
      have hv : needV d v t p x.size true = 0 := by simp [needV, hr, hg, hn]
      have hd := (rightB_parts hr).1
      clear ha hn hr hg
      go_enter Try.func27, Try.ntmps27
      go_wp2_with (first
        | (go_at_call 13; (with_reducible refine (rNeeds_s _ _ _ _ _ _ _).mono ?_); rintro e w1 ⟨rfl, rfl⟩)
        | (go_at_call 38; (with_reducible refine (rTouched_any _ _ _ h0 h1 h2 h3).mono ?_); rintro e w1 ⟨rfl, rfl⟩))
      go_region
      all_goals go_wp2
      all_goals refine bodyPost_ret (v := .tuple #[pageV (writeD d x p) (bits .or .i64 v (secs p x.size 1)) (bits .or .i64 t (secs p x.size 1)), .int .i64 0]) (by simp [results, Try.results27, go_sem, writeD]) rfl ⟨rfl, ?_⟩
      all_goals exact (((((Grew.refl _).alloc _).alloc _).alloc _).alloc _).drew
    · have ha : accE d v t s x.size true = 7 := by simp [accE, hr, hg, hn]
      refine Calls.mono (R := RetG (.tuple #[noPage, .int .i64 7]) w) ?_ (retG_to (by rw [pick_no (by simp [accB, ha]), ha]))
      have hv : (needV d v t s x.size true != 0) = true := by simp [needV, hr, hg, hn]
      clear ha hn hr hg
      go_enter Try.func27, Try.ntmps27
      go_wp2_with (go_at_call 13; (with_reducible refine (rNeeds_s _ _ _ _ _ _ _).mono ?_); rintro e w1 ⟨rfl, rfl⟩)
      refine bodyPost_ret (v := .tuple #[noPage, .int .i64 7]) (by simp [results, Try.results27, go_sem]) rfl ⟨rfl, ?_⟩
      exact ((((Grew.refl _).alloc _).alloc _).alloc _).alloc _
  · have ha : accE d v t s x.size true = needE d v t s x.size := by
      unfold accE needE
      unfold needE at he
      split
      · rw [if_pos ‹_›] at he
        split
        · rw [if_pos ‹_›] at he; omega
        · rfl
      · rfl
    rw [ha, pick_no (by simp [accB, ha, he])]
    have h1 : (needE d v t s x.size != 0) = true := by simpa using he
    clear ha he
    go_enter Try.func27, Try.ntmps27
    go_wp2_with (go_at_call 13; (with_reducible refine (rNeeds_s _ _ _ _ _ _ _).mono ?_); rintro e w1 ⟨rfl, rfl⟩)
    refine bodyPost_ret (v := .tuple #[noPage, .int .i64 (needE d v t s x.size)]) (by simp [results, Try.results27, go_sem]) rfl ⟨rfl, ?_⟩
    exact ((((Grew.refl _).alloc _).alloc _).alloc _).alloc _
end Go.Proofs.Ythkhcbkbhnnegaa

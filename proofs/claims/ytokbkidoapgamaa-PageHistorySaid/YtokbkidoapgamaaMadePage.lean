/- made.Page: some page, whatever the tape. -/
import Derived.Test.YtokbkidoapgamaaTape
import Derived.Test.YtokbkidoapgamaaPage2
import Derived.Deep.RegionHeld3
namespace Go.Proofs.Ytokbkidoapgamaa
open Go.RowKit Go.Mine

/-- It returns some page; the tape has gone on. -/
def RetPage (B b : Nat) (w : World) (e : Ending) (w' : World) : Prop := ∃ d v t, e = .returned (pageV d v t) ∧ Tp B w' b ∧ w.grownBy w' (some b)

set_option maxHeartbeats 2000000 in
theorem madePage_x (B b : Nat) (w : World) (ht : Tp B w b) (hbw : B ≤ w.heap.size) :
    Calls Try.prog 13 #[.pointer (some ⟨b, 0, none⟩)] w (RetPage B b w) := by
  have HT := ht.alloc (.cells #[.string { data := #[] }, .int .i64 0, .int .i64 0] 29)
  have hbb := ht.ltB
  go_enter Try.func13, Try.ntmps13
  go_wp2_with fail
  with_reducible refine (bytes_x _ _ _ _ (by omega) (by omega) HT (by simp; omega)).mono ?_
  rintro e w1 ⟨d0, -, rfl, hT1, hG1⟩
  go_wp2_with fail
  with_reducible refine (next_x _ _ _ _ (by omega) (by omega) hT1).mono ?_
  rintro e w2 ⟨v0, -, -, rfl, hT2, hG2⟩
  go_wp2_with fail
  have hz1 := hG1.size
  have hz2 := hG2.size
  simp only [World.size_alloc] at hz1
  have O1 := Own.new w2 29 #[.string d0, .int .i64 v0, .int .i64 0]
  have OR := ((Own.new w 29 #[.string { data := #[] }, .int .i64 0, .int .i64 0]).past hG1 (by omega)).past hG2 (by omega) |>.alloc (.cells #[.string d0, .int .i64 v0, .int .i64 0] 29)
  have T2 := hT2.alloc (.cells #[.string d0, .int .i64 v0, .int .i64 0] 29)
  have G2 := grown_alloc (grown_trans (grown_trans (grown_alloc (grown_refl w (some b)) (.cells #[.string { data := #[] }, .int .i64 0, .int .i64 0] 29)) hG1) hG2) (.cells #[.string d0, .int .i64 v0, .int .i64 0] 29)
  clear hT2 hT1 HT hG1 hG2 ht
  obtain ⟨p0, p1, p2, p3, p4, p5⟩ := O1.three
  go_region_held3 (fun w' => w'.cell? ⟨w2.heap.size, 1, none⟩ = some (.int .i64 v0)) (first | assumption | ((rw [World.cell?_setCell_other]) <;> first | assumption | (simp; done)) | go_keep)
    (first | (go_at_call 7; (with_reducible refine (next_x _ _ _ _ (by omega) (by omega) (by first | exact T2.drew | exact T2)).mono ?_); rintro e w3 ⟨q3, -, -, rfl, hT3, hG3⟩; have O3 := O1.drew.past hG3 (by omega); have OR3 := OR.drew.past hG3 (by omega); have G3 := grown_trans (grown_drew G2) hG3; clear p0 p1 p2 p3 p4 p5; obtain ⟨p0, p1, p2, p3, p4, p5⟩ := O3.three))
  generalize bits .and .i64 q3 v0 = t0 at *
  have hz3 : w2.heap.size < w3.heap.size := O3.lt
  have O4 : Own _ _ _ #[.string d0, .int .i64 v0, .int .i64 t0] := O3.set 2 (.int .i64 t0)
  have OR4 := OR3.far (p := ⟨w2.heap.size, 2, none⟩) (by simp; omega) (.int .i64 t0)
  have T4 := hT3.set (p := ⟨w2.heap.size, 2, none⟩) (by simp; omega) (.int .i64 t0)
  have G4 := grown_set (p := ⟨w2.heap.size, 2, none⟩) G3 (.inr (by simp; omega)) (.int .i64 t0)
  go_wp2_with fail
  with_reducible refine (next_x _ _ _ _ (by omega) (by omega) T4).mono ?_
  rintro e w5 ⟨q, q0, q16, rfl, T5, hG5⟩
  have O5 := O4.past hG5 (by omega)
  have OR5 := OR4.past hG5 (by omega)
  have G5 := grown_trans G4 hG5
  have hz5 : w2.heap.size < w5.heap.size := O5.lt
  clear O4 OR4 T4 O3 OR3 hT3 O1 OR T2 p0 p1 p2 p3 p4 p5 G4 G3 G2 hG3 hG5 hz3
  obtain ⟨p0, p1, p2, p3, p4, p5⟩ := O5.three
  obtain ⟨r0, r1, r2, r3, r4, r5⟩ := OR5.three
  have hHH : w.heap.size < w2.heap.size := by omega
  generalize hH2 : w2.heap.size = H2 at *
  clear hH2 hz1 hz2
  by_cases q0 : q = 0
  · subst q0
    go_wp2_with fail
    with_reducible refine (next_x _ _ _ _ (by omega) (by omega) T5).mono ?_
    rintro e w6 ⟨n, n0, n1, rfl, T6, hG6⟩
    have O6 := O5.past hG6 (by omega)
    have OR6 := OR5.past hG6 (by omega)
    have G6 := grown_trans G5 hG6
    have hz6 : H2 < w6.heap.size := O6.lt
    clear O5 OR5 T5 p0 p1 p2 p3 p4 p5 r0 r1 r2 r3 r4 r5 hG6 hz5 G5
    obtain ⟨p0, p1, p2, p3, p4, p5⟩ := O6.three
    obtain ⟨r0, r1, r2, r3, r4, r5⟩ := OR6.three
    go_wp2_with fail
    with_reducible refine (bytes_x _ _ _ _ (by omega) (by omega) T6 (by omega)).mono ?_
    rintro e w7 ⟨s, -, rfl, T7, hG7⟩
    have O7 := O6.past hG7 (by omega)
    have OR7 := OR6.past hG7 (by omega)
    have G7 := grown_trans G6 hG7
    have hz7 : H2 < w7.heap.size := O7.lt
    clear O6 OR6 T6 p0 p1 p2 p3 p4 p5 r0 r1 r2 r3 r4 r5 hG7 hz6 G6
    obtain ⟨p0, p1, p2, p3, p4, p5⟩ := O7.three
    obtain ⟨r0, r1, r2, r3, r4, r5⟩ := OR7.three
    go_wp2
    refine bodyPost_ret (v := pageV s v0 t0) (by simp [results, Try.results13, go_sem, p0, p1, p2, r0, r1, r2]) rfl ⟨_, _, _, rfl, ?_, ?_⟩
    · repeat (first | exact T7 | refine Tp.set ?_ (by simp; omega) _)
    · repeat (first | exact G7 | refine grown_set ?_ (.inr (by first | (simp; done) | (simp; omega))) _)
  by_cases q1 : q = 1
  · subst q1
    go_wp2_with fail
    with_reducible refine (next_x _ _ _ _ (by omega) (by omega) T5).mono ?_
    rintro e w6 ⟨n, n0, n1, rfl, T6, hG6⟩
    have O6 := O5.past hG6 (by omega)
    have OR6 := OR5.past hG6 (by omega)
    have G6 := grown_trans G5 hG6
    have hz6 : H2 < w6.heap.size := O6.lt
    clear O5 OR5 T5 p0 p1 p2 p3 p4 p5 r0 r1 r2 r3 r4 r5 hG6 hz5 G5
    obtain ⟨p0, p1, p2, p3, p4, p5⟩ := O6.three
    obtain ⟨r0, r1, r2, r3, r4, r5⟩ := OR6.three
    go_wp2
    refine bodyPost_ret (v := pageV d0 v0 (n - 1)) (by simp [results, Try.results13, go_sem, p0, p1, p2, r0, r1, r2]) rfl ⟨_, _, _, rfl, ?_, ?_⟩
    · repeat (first | exact T6 | refine Tp.set ?_ (by simp; omega) _)
    · repeat (first | exact G6 | refine grown_set ?_ (.inr (by first | (simp; done) | (simp; omega))) _)
  by_cases q2 : q = 2
  · subst q2
    go_wp2_with fail
    with_reducible refine (next_x _ _ _ _ (by omega) (by omega) T5).mono ?_
    rintro e w6 ⟨n, n0, n1, rfl, T6, hG6⟩
    have O6 := O5.past hG6 (by omega)
    have OR6 := OR5.past hG6 (by omega)
    have G6 := grown_trans G5 hG6
    have hz6 : H2 < w6.heap.size := O6.lt
    clear O5 OR5 T5 p0 p1 p2 p3 p4 p5 r0 r1 r2 r3 r4 r5 hG6 hz5 G5
    obtain ⟨p0, p1, p2, p3, p4, p5⟩ := O6.three
    obtain ⟨r0, r1, r2, r3, r4, r5⟩ := OR6.three
    go_wp2
    refine bodyPost_ret (v := pageV d0 (n - 1) t0) (by simp [results, Try.results13, go_sem, p0, p1, p2, r0, r1, r2]) rfl ⟨_, _, _, rfl, ?_, ?_⟩
    · repeat (first | exact T6 | refine Tp.set ?_ (by simp; omega) _)
    · repeat (first | exact G6 | refine grown_set ?_ (.inr (by first | (simp; done) | (simp; omega))) _)
  · have e0 : (q == 0) = false := by simpa using q0
    have e1 : (q == 1) = false := by simpa using q1
    have e2 : (q == 2) = false := by simpa using q2
    clear q0 q1 q2
    go_wp2
    refine bodyPost_ret (v := pageV d0 v0 t0) (by simp [results, Try.results13, go_sem, p0, p1, p2, r0, r1, r2]) rfl ⟨_, _, _, rfl, ?_, ?_⟩
    · repeat (first | exact T5 | refine Tp.set ?_ (by simp; omega) _)
    · repeat (first | exact G5 | refine grown_set ?_ (.inr (by first | (simp; done) | (simp; omega))) _)
end Go.Proofs.Ytokbkidoapgamaa

/- Areas (layer 16): isWithin, isRight, end, before, from, Check of the program; span, right of the answer. -/
import Derived.Test.YtnlhdbengppnpaaArN
import Derived.Test.YtnlhdbengppnpaaTape
import Derived.StillTailTactics
import Derived.Deep.RegionHeld3
import Derived.Deep.DeepCutAuto
import Derived.Deep.CutBlock
namespace Go.Mine
open Go Go.RowKit
/-- An area at a place. -/
theorem RdS.at5 {w : World} {B : Nat} {L : List Ar} {a : Option Addr} {n c : Nat} (h : RdS 5 enc5 w B (.slice a n c) L) {k : Nat} (hk : k < L.length) : ∃ g o, a = some ⟨g, o, none⟩ ∧ B ≤ g ∧ g < w.heap.size ∧
    w.cell? ⟨g, o + k * 5, none⟩ = some (.int .i64 (L.getD k zR).s) ∧ w.cell? ⟨g, o + k * 5 + 1, none⟩ = some (.int .i64 (L.getD k zR).n) ∧ w.cell? ⟨g, o + k * 5 + 2, none⟩ = some (.int .i64 (L.getD k zR).f) ∧
    w.cell? ⟨g, o + k * 5 + 3, none⟩ = some (.int .i64 (L.getD k zR).p) ∧ w.cell? ⟨g, o + k * 5 + 4, none⟩ = some (.bool (L.getD k zR).w) := by
  obtain ⟨g, o, e, hB, hg, hc⟩ := h.at_ hk
  refine ⟨g, o, e, hB, hg, ?_, ?_, ?_, ?_, ?_⟩
  · rw [rD hk]; exact hc 0 (by omega)
  · rw [rD hk]; exact hc 1 (by omega)
  · rw [rD hk]; exact hc 2 (by omega)
  · rw [rD hk]; exact hc 3 (by omega)
  · rw [rD hk]; exact hc 4 (by omega)
theorem inB_0 {s n l : Int} (h : ¬0 ≤ s) : inB s n l = false := decide_eq_false fun k => h k.1
theorem inB_1 {s n l : Int} (h : ¬1 ≤ n) : inB s n l = false := decide_eq_false fun k => h k.2.1
theorem inB_2 {s n l : Int} (h : ¬s + n ≤ l) : inB s n l = false := decide_eq_false fun k => h k.2.2
/-- What keeps an area from being right. -/
theorem rtA_cases (a : Ar) : (inB a.s a.n 64 = false ∧ rtA a = false) ∨ (inB a.s a.n 64 = true ∧ a.f < 0 ∧ rtA a = false) ∨ (inB a.s a.n 64 = true ∧ 0 ≤ a.f ∧ 8 ≤ a.f ∧ rtA a = false) ∨
    (inB a.s a.n 64 = true ∧ 0 ≤ a.f ∧ a.f < 8 ∧ rtA a = inB a.p a.n 8) := by
  unfold rtA
  cases h : inB a.s a.n 64
  · exact .inl ⟨rfl, rfl⟩
  · by_cases h1 : 0 ≤ a.f
    · by_cases h2 : a.f < 8
      · exact .inr (.inr (.inr ⟨rfl, h1, h2, by rw [decide_eq_true ⟨h1, h2⟩]; rfl⟩))
      · exact .inr (.inr (.inl ⟨rfl, h1, by omega, by rw [decide_eq_false (fun k => h2 k.2)]; rfl⟩))
    · exact .inr (.inl ⟨rfl, by omega, by rw [decide_eq_false (fun k => h1 k.1)]; rfl⟩)
end Go.Mine
namespace Go.Proofs.Ytnlhdbengppnpaa
open Go.RowKit Go.Mine

theorem within_p {s n l : Int} {b : Bool} {w : World} (hl : 0 ≤ l ∧ l ≤ 64) (hN : n ≤ 9223372036854775807) (hb : inB s n l = b) : Calls Try.prog 40 #[.int .i64 s, .int .i64 n, .int .i64 l] w (RetS (.bool b) w) := by
  have HB := Lib.hid hb
  obtain ⟨l0, l1⟩ := hl
  clear hb
  by_cases t1 : 0 ≤ s
  · by_cases t2 : 1 ≤ n
    · have hw : IntKind.i64.wrap (l - n) = l - n := IntWalk.i64_in _ (by omega)
      by_cases t3 : s ≤ l - n
      · have HE : Hid (b = true) := Lib.hid (by rw [← HB.out]; exact inB_iff.2 ⟨t1, t2, by omega⟩)
        go_enter Try.func40, Try.ntmps40
        go_wp2
        go_ret
        exact ⟨ret_bool HE.out.symm, rfl⟩
      · have HE : Hid (b = false) := Lib.hid (by rw [← HB.out]; exact inB_2 (by omega))
        go_enter Try.func40, Try.ntmps40
        go_wp2
        go_ret
        exact ⟨ret_bool HE.out.symm, rfl⟩
    · have HE : Hid (b = false) := Lib.hid (by rw [← HB.out]; exact inB_1 t2)
      go_enter Try.func40, Try.ntmps40
      go_wp2
      go_ret
      exact ⟨ret_bool HE.out.symm, rfl⟩
  · have HE : Hid (b = false) := Lib.hid (by rw [← HB.out]; exact inB_0 t1)
    go_enter Try.func40, Try.ntmps40
    go_wp2
    go_ret
    exact ⟨ret_bool HE.out.symm, rfl⟩
theorem span_q {s n : Int} {b : Bool} {w : World} (hb : inB s n 64 = b) : Calls Try.prog 34 #[.int .i64 s, .int .i64 n] w (RetS (.bool b) w) := by
  have HB := Lib.hid hb
  clear hb
  by_cases t1 : 0 ≤ s
  · by_cases t2 : 1 ≤ n
    · by_cases t4 : s < 64
      · have hw : IntKind.i64.wrap (64 - s) = 64 - s := IntWalk.i64_in _ (by omega)
        by_cases t3 : n ≤ 64 - s
        · have HE : Hid (b = true) := Lib.hid (by rw [← HB.out]; exact inB_iff.2 ⟨t1, t2, by omega⟩)
          go_enter Try.func34, Try.ntmps34
          go_wp2
          go_ret
          exact ⟨ret_bool HE.out.symm, rfl⟩
        · have HE : Hid (b = false) := Lib.hid (by rw [← HB.out]; exact inB_2 (by omega))
          go_enter Try.func34, Try.ntmps34
          go_wp2
          go_ret
          exact ⟨ret_bool HE.out.symm, rfl⟩
      · have HE : Hid (b = false) := Lib.hid (by rw [← HB.out]; exact inB_2 (by omega))
        go_enter Try.func34, Try.ntmps34
        go_wp2
        go_ret
        exact ⟨ret_bool HE.out.symm, rfl⟩
    · have HE : Hid (b = false) := Lib.hid (by rw [← HB.out]; exact inB_1 t2)
      go_enter Try.func34, Try.ntmps34
      go_wp2
      go_ret
      exact ⟨ret_bool HE.out.symm, rfl⟩
  · have HE : Hid (b = false) := Lib.hid (by rw [← HB.out]; exact inB_0 t1)
    go_enter Try.func34, Try.ntmps34
    go_wp2
    go_ret
    exact ⟨ret_bool HE.out.symm, rfl⟩
theorem right_p {a : Ar} {b : Bool} {w : World} (hN : a.n ≤ 9223372036854775807) (hb : rtA a = b) : Calls Try.prog 36 #[arV a] w (RetG (.bool b) w) := by
  obtain ⟨s, n, f, p, v⟩ := a
  have HB := Lib.hid hb
  have HC := Lib.hid (rtA_cases ⟨s, n, f, p, v⟩)
  simp only at HC hN
  have HG := Lib.hid ((Grew.refl w).alloc (.cells #[.int .i64 s, .int .i64 n, .int .i64 f, .int .i64 p, .bool v] 30))
  clear hb
  rcases HC.out with ⟨t1, h⟩ | ⟨t1, t2, h⟩ | ⟨t1, t2, t3, h⟩ | ⟨t1, t2, t3, h⟩
  · have HE : Hid (b = false) := Lib.hid (HB.out.symm.trans h)
    have H1 := Lib.hid t1
    clear HC h t1
    go_enter Try.func36, Try.ntmps36
    go_wp2_with fail
    with_reducible refine (within_p (by omega) hN H1.out).mono ?_
    rintro e w1 ⟨rfl, rfl⟩
    go_wp2
    go_ret
    exact ⟨ret_bool HE.out.symm, HG.out⟩
  · have HE : Hid (b = false) := Lib.hid (HB.out.symm.trans h)
    have H1 := Lib.hid t1
    clear HC h t1
    go_enter Try.func36, Try.ntmps36
    go_wp2_with fail
    with_reducible refine (within_p (by omega) hN H1.out).mono ?_
    rintro e w1 ⟨rfl, rfl⟩
    go_wp2
    go_ret
    exact ⟨ret_bool HE.out.symm, HG.out⟩
  · have HE : Hid (b = false) := Lib.hid (HB.out.symm.trans h)
    have H1 := Lib.hid t1
    clear HC h t1
    go_enter Try.func36, Try.ntmps36
    go_wp2_with fail
    with_reducible refine (within_p (by omega) hN H1.out).mono ?_
    rintro e w1 ⟨rfl, rfl⟩
    go_wp2
    go_ret
    exact ⟨ret_bool HE.out.symm, HG.out⟩
  · have HE : Hid (inB p n 8 = b) := Lib.hid (h.symm.trans HB.out)
    have H1 := Lib.hid t1
    clear HC h t1
    go_enter Try.func36, Try.ntmps36
    go_wp2_with fail
    with_reducible refine (within_p (by omega) hN H1.out).mono ?_
    rintro e w1 ⟨rfl, rfl⟩
    go_wp2_with fail
    with_reducible refine (within_p (by omega) hN HE.out).mono ?_
    rintro e w2 ⟨rfl, rfl⟩
    go_wp2
    go_ret
    exact ⟨rfl, HG.out⟩
theorem right_q {a : Ar} {b : Bool} {w : World} (hb : rtA a = b) : Calls Try.prog 31 #[arV a] w (RetG (.bool b) w) := by
  obtain ⟨s, n, f, p, v⟩ := a
  have HB := Lib.hid hb
  have HC := Lib.hid (rtA_cases ⟨s, n, f, p, v⟩)
  simp only at HC
  have HG := Lib.hid ((Grew.refl w).alloc (.cells #[.int .i64 s, .int .i64 n, .int .i64 f, .int .i64 p, .bool v] 30))
  clear hb
  rcases HC.out with ⟨t1, h⟩ | ⟨t1, t2, h⟩ | ⟨t1, t2, t3, h⟩ | ⟨t1, t2, t3, h⟩
  · have HE : Hid (b = false) := Lib.hid (HB.out.symm.trans h)
    have H1 := Lib.hid t1
    clear HC h t1
    go_enter Try.func31, Try.ntmps31
    go_wp2_with fail
    with_reducible refine (span_q H1.out).mono ?_
    rintro e w1 ⟨rfl, rfl⟩
    go_wp2
    go_ret
    exact ⟨ret_bool HE.out.symm, HG.out⟩
  · have HE : Hid (b = false) := Lib.hid (HB.out.symm.trans h)
    have H1 := Lib.hid t1
    clear HC h t1
    go_enter Try.func31, Try.ntmps31
    go_wp2_with fail
    with_reducible refine (span_q H1.out).mono ?_
    rintro e w1 ⟨rfl, rfl⟩
    go_wp2
    go_ret
    exact ⟨ret_bool HE.out.symm, HG.out⟩
  · have HE : Hid (b = false) := Lib.hid (HB.out.symm.trans h)
    have H1 := Lib.hid t1
    clear HC h t1
    go_enter Try.func31, Try.ntmps31
    go_wp2_with fail
    with_reducible refine (span_q H1.out).mono ?_
    rintro e w1 ⟨rfl, rfl⟩
    go_wp2
    go_ret
    exact ⟨ret_bool HE.out.symm, HG.out⟩
  · have H1 := Lib.hid t1
    have hn := (inB_iff.1 t1).2.1
    by_cases p1 : 0 ≤ p
    · by_cases p2 : p < 8
      · by_cases p3 : n ≤ 8 - p
        · have HE : Hid (b = true) := Lib.hid (HB.out.symm.trans (h.trans (inB_iff.2 ⟨p1, hn, by omega⟩)))
          clear HC h t1
          go_enter Try.func31, Try.ntmps31
          go_wp2_with fail
          with_reducible refine (span_q H1.out).mono ?_
          rintro e w1 ⟨rfl, rfl⟩
          go_wp2
          go_ret
          exact ⟨ret_bool HE.out.symm, HG.out⟩
        · have HE : Hid (b = false) := Lib.hid (HB.out.symm.trans (h.trans (inB_2 (by omega))))
          have q3 : decide (n ≤ 8 - p) = false := decide_eq_false p3
          clear HC h t1
          go_enter Try.func31, Try.ntmps31
          go_wp2_with fail
          with_reducible refine (span_q H1.out).mono ?_
          rintro e w1 ⟨rfl, rfl⟩
          go_wp2
          go_ret
          exact ⟨ret_bool HE.out.symm, HG.out⟩
      · have HE : Hid (b = false) := Lib.hid (HB.out.symm.trans (h.trans (inB_2 (by omega))))
        clear HC h t1
        go_enter Try.func31, Try.ntmps31
        go_wp2_with fail
        with_reducible refine (span_q H1.out).mono ?_
        rintro e w1 ⟨rfl, rfl⟩
        go_wp2
        go_ret
        exact ⟨ret_bool HE.out.symm, HG.out⟩
    · have HE : Hid (b = false) := Lib.hid (HB.out.symm.trans (h.trans (inB_0 p1)))
      clear HC h t1
      go_enter Try.func31, Try.ntmps31
      go_wp2_with fail
      with_reducible refine (span_q H1.out).mono ?_
      rintro e w1 ⟨rfl, rfl⟩
      go_wp2
      go_ret
      exact ⟨ret_bool HE.out.symm, HG.out⟩
/-- Where a small area ends. -/
theorem end_p {a : Ar} {w : World} (h : rtA a = true) : Calls Try.prog 35 #[arV a] w (RetG (.int .i64 (endA a)) w) := by
  have r := rtA_iff.1 h
  obtain ⟨s, n, f, p, v⟩ := a
  simp only at r
  obtain ⟨⟨r1, r2, r3⟩, -⟩ := r
  have HG := Lib.hid ((Grew.refl w).alloc (.cells #[.int .i64 s, .int .i64 n, .int .i64 f, .int .i64 p, .bool v] 30))
  have hw : IntKind.i64.wrap (s + n) = s + n := IntWalk.i64_in _ (by omega)
  clear h
  go_enter Try.func35, Try.ntmps35
  go_wp2
  go_ret
  exact ⟨rfl, HG.out⟩
end Go.Proofs.Ytnlhdbengppnpaa

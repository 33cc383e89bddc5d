/- Page tables (layer 17): isFrom, isRight, compare of the program; right, less of the answer. -/
import Derived.Test.YtjkkhfionmdmpaaPtM
import Derived.Test.YtjkkhfionmdmpaaTape
import Derived.StillTailTactics
import Derived.Deep.RegionHeld3
import Derived.Deep.DeepCutAuto
import Derived.Deep.CutBlock
namespace Go.Mine
open Go Go.RowKit
/-- An entry at a place. -/
theorem RdS.atT {w : World} {B : Nat} {L : List Pt} {a : Option Addr} {n c : Nat} (h : RdS 5 encT w B (.slice a n c) L) {k : Nat} (hk : k < L.length) : ∃ g o, a = some ⟨g, o, none⟩ ∧ B ≤ g ∧ g < w.heap.size ∧
    w.cell? ⟨g, o + k * 5, none⟩ = some (.int .i64 (L.getD k zT).p) ∧ w.cell? ⟨g, o + k * 5 + 1, none⟩ = some (.int .i64 (L.getD k zT).v) ∧ w.cell? ⟨g, o + k * 5 + 2, none⟩ = some (.int .i64 (L.getD k zT).f) ∧
    w.cell? ⟨g, o + k * 5 + 3, none⟩ = some (.bool (L.getD k zT).w) ∧ w.cell? ⟨g, o + k * 5 + 4, none⟩ = some (.bool (L.getD k zT).a) := by
  obtain ⟨g, o, e, hB, hg, hc⟩ := h.at_ hk
  refine ⟨g, o, e, hB, hg, ?_, ?_, ?_, ?_, ?_⟩
  · rw [tD hk]; exact hc 0 (by omega)
  · rw [tD hk]; exact hc 1 (by omega)
  · rw [tD hk]; exact hc 2 (by omega)
  · rw [tD hk]; exact hc 3 (by omega)
  · rw [tD hk]; exact hc 4 (by omega)
section
variable {w w' : World} {g : Nat} {t : TypeId}
theorem Own.fiveT {a b c d e : Value} (h : Own w g t #[a, b, c, d, e]) : w.cell? ⟨g, 0, none⟩ = some a ∧ w.cell? ⟨g, 1, none⟩ = some b ∧ w.cell? ⟨g, 2, none⟩ = some c ∧ w.cell? ⟨g, 3, none⟩ = some d ∧ w.cell? ⟨g, 4, none⟩ = some e :=
  ⟨(h.cell 0).trans rfl, (h.cell 1).trans rfl, (h.cell 2).trans rfl, (h.cell 3).trans rfl, (h.cell 4).trans rfl⟩
theorem Own.five0 {a b c d e : Value} (h : Own w g t #[a, b, c, d, e]) : w.frozen? ⟨g, 0, none⟩ = false ∧ w.frozen? ⟨g, 1, none⟩ = false ∧ w.frozen? ⟨g, 2, none⟩ = false ∧ w.frozen? ⟨g, 3, none⟩ = false ∧ w.frozen? ⟨g, 4, none⟩ = false :=
  ⟨h.frozen 0, h.frozen 1, h.frozen 2, h.frozen 3, h.frozen 4⟩
end
/-- What keeps an entry from being right. -/
theorem rtT_cases (x : Pt) : (inI x.p 0 7 = false ∧ rtT x = false) ∨ (inI x.p 0 7 = true ∧ inI x.v 0 63 = false ∧ rtT x = false) ∨ (inI x.p 0 7 = true ∧ inI x.v 0 63 = true ∧ rtT x = inI x.f 1 64) := by
  unfold rtT
  cases inI x.p 0 7
  · exact .inl ⟨rfl, rfl⟩
  · cases inI x.v 0 63
    · exact .inr (.inl ⟨rfl, rfl, rfl⟩)
    · exact .inr (.inr ⟨rfl, rfl, rfl⟩)
end Go.Mine
namespace Go.Proofs.Ytjkkhfionmdmpaa
open Go.RowKit Go.Mine

theorem from_p {x l u : Int} {b : Bool} {w : World} (hb : inI x l u = b) : Calls Try.prog 41 #[.int .i64 x, .int .i64 l, .int .i64 u] w (RetS (.bool b) w) := by
  have HB := Lib.hid hb
  clear hb
  by_cases t1 : l ≤ x
  · by_cases t2 : x ≤ u
    · have HE : Hid (b = true) := Lib.hid (by rw [← HB.out]; exact inI_iff.2 ⟨t1, t2⟩)
      go_enter Try.func41, Try.ntmps41
      go_wp2
      go_ret
      exact ⟨ret_bool HE.out.symm, rfl⟩
    · have HE : Hid (b = false) := Lib.hid (by rw [← HB.out]; exact inI_no (by omega))
      go_enter Try.func41, Try.ntmps41
      go_wp2
      go_ret
      exact ⟨ret_bool HE.out.symm, rfl⟩
  · have HE : Hid (b = false) := Lib.hid (by rw [← HB.out]; exact inI_no (by omega))
    go_enter Try.func41, Try.ntmps41
    go_wp2
    go_ret
    exact ⟨ret_bool HE.out.symm, rfl⟩
theorem right_p {x : Pt} {b : Bool} {w : World} (hb : rtT x = b) : Calls Try.prog 32 #[ptV x] w (RetG (.bool b) w) := by
  obtain ⟨p, v, f, wr, ac⟩ := x
  have HB := Lib.hid hb
  have HC := Lib.hid (rtT_cases ⟨p, v, f, wr, ac⟩)
  simp only at HC
  have HG := Lib.hid ((Grew.refl w).alloc (.cells #[.int .i64 p, .int .i64 v, .int .i64 f, .bool wr, .bool ac] 30))
  clear hb
  rcases HC.out with ⟨t1, h⟩ | ⟨t1, t2, h⟩ | ⟨t1, t2, h⟩
  · have HE : Hid (b = false) := Lib.hid (HB.out.symm.trans h)
    have H1 := Lib.hid t1
    clear HC h t1
    go_enter Try.func32, Try.ntmps32
    go_wp2_with fail
    with_reducible refine (from_p H1.out).mono ?_
    rintro e w1 ⟨rfl, rfl⟩
    go_wp2
    go_ret
    exact ⟨ret_bool HE.out.symm, HG.out⟩
  · have HE : Hid (b = false) := Lib.hid (HB.out.symm.trans h)
    have H1 := Lib.hid t1
    have H2 := Lib.hid t2
    clear HC h t1 t2
    go_enter Try.func32, Try.ntmps32
    go_wp2_with fail
    with_reducible refine (from_p H1.out).mono ?_
    rintro e w1 ⟨rfl, rfl⟩
    go_wp2_with fail
    with_reducible refine (from_p H2.out).mono ?_
    rintro e w2 ⟨rfl, rfl⟩
    go_wp2
    go_ret
    exact ⟨ret_bool HE.out.symm, HG.out⟩
  · have HE : Hid (inI f 1 64 = b) := Lib.hid (h.symm.trans HB.out)
    have H1 := Lib.hid t1
    have H2 := Lib.hid t2
    clear HC h t1 t2
    go_enter Try.func32, Try.ntmps32
    go_wp2_with fail
    with_reducible refine (from_p H1.out).mono ?_
    rintro e w1 ⟨rfl, rfl⟩
    go_wp2_with fail
    with_reducible refine (from_p H2.out).mono ?_
    rintro e w2 ⟨rfl, rfl⟩
    go_wp2_with fail
    with_reducible refine (from_p HE.out).mono ?_
    rintro e w3 ⟨rfl, rfl⟩
    go_wp2
    go_ret
    exact ⟨rfl, HG.out⟩
theorem right_q {x : Pt} {b : Bool} {w : World} (hb : rtT x = b) : Calls Try.prog 35 #[ptV x] w (RetG (.bool b) w) := by
  obtain ⟨p, v, f, wr, ac⟩ := x
  have HB := Lib.hid hb
  have HN := Lib.hid (@rtT_no ⟨p, v, f, wr, ac⟩)
  have HY := Lib.hid (@rtT_iff ⟨p, v, f, wr, ac⟩)
  simp only at HN HY
  have HG := Lib.hid ((Grew.refl w).alloc (.cells #[.int .i64 p, .int .i64 v, .int .i64 f, .bool wr, .bool ac] 30))
  clear hb
  by_cases p0 : 0 ≤ p
  · by_cases p1 : p < 8
    · by_cases v0 : 0 ≤ v
      · by_cases v1 : v < 64
        · by_cases f0 : 1 ≤ f
          · by_cases f1 : f ≤ 64
            · have HE : Hid (b = true) := Lib.hid (HB.out.symm.trans (HY.out.2 ⟨⟨p0, by omega⟩, ⟨v0, by omega⟩, f0, f1⟩))
              clear HN HY
              go_enter Try.func35, Try.ntmps35
              go_wp2
              go_ret
              exact ⟨ret_bool HE.out.symm, HG.out⟩
            · have HE : Hid (b = false) := Lib.hid (HB.out.symm.trans (HN.out (by omega)))
              clear HN HY
              go_enter Try.func35, Try.ntmps35
              go_wp2
              go_ret
              exact ⟨ret_bool HE.out.symm, HG.out⟩
          · have HE : Hid (b = false) := Lib.hid (HB.out.symm.trans (HN.out (by omega)))
            clear HN HY
            go_enter Try.func35, Try.ntmps35
            go_wp2
            go_ret
            exact ⟨ret_bool HE.out.symm, HG.out⟩
        · have HE : Hid (b = false) := Lib.hid (HB.out.symm.trans (HN.out (by omega)))
          clear HN HY
          go_enter Try.func35, Try.ntmps35
          go_wp2
          go_ret
          exact ⟨ret_bool HE.out.symm, HG.out⟩
      · have HE : Hid (b = false) := Lib.hid (HB.out.symm.trans (HN.out (by omega)))
        clear HN HY
        go_enter Try.func35, Try.ntmps35
        go_wp2
        go_ret
        exact ⟨ret_bool HE.out.symm, HG.out⟩
    · have HE : Hid (b = false) := Lib.hid (HB.out.symm.trans (HN.out (by omega)))
      clear HN HY
      go_enter Try.func35, Try.ntmps35
      go_wp2
      go_ret
      exact ⟨ret_bool HE.out.symm, HG.out⟩
  · have HE : Hid (b = false) := Lib.hid (HB.out.symm.trans (HN.out (by omega)))
    clear HN HY
    go_enter Try.func35, Try.ntmps35
    go_wp2
    go_ret
    exact ⟨ret_bool HE.out.symm, HG.out⟩
theorem nan_p {x : Int} {w : World} : Calls Try.prog 50 #[.int .i64 x] w (RetS (.bool false) w) := by
  go_enter Try.func50, Try.ntmps50
  go_wp2
  go_ret
  exact ⟨by simp, rfl⟩
theorem cmpI_p {x y c : Int} {w : World} (hc : cmI x y = c) : Calls Try.prog 47 #[.int .i64 x, .int .i64 y] w (RetS (.int .i64 c) w) := by
  have HC := Lib.hid hc
  clear hc
  rcases cmI_cases x y with ⟨t, h⟩ | ⟨t, h⟩ | ⟨t, h⟩
  · have HE := Lib.hid (HC.out.symm.trans h)
    clear h
    go_enter Try.func47, Try.ntmps47
    go_wp2_with (go_at_call 50; (with_reducible refine (nan_p).mono ?_); rintro e w1 ⟨rfl, rfl⟩)
    go_ret
    exact ⟨ret_int HE.out.symm, rfl⟩
  · have HE := Lib.hid (HC.out.symm.trans h)
    have t1 : ¬x < y := by omega
    have t2 : ¬y < x := by omega
    clear h t
    go_enter Try.func47, Try.ntmps47
    go_wp2_with (go_at_call 50; (with_reducible refine (nan_p).mono ?_); rintro e w1 ⟨rfl, rfl⟩)
    go_ret
    exact ⟨ret_int HE.out.symm, rfl⟩
  · have HE := Lib.hid (HC.out.symm.trans h)
    have t1 : ¬x < y := by omega
    clear h
    go_enter Try.func47, Try.ntmps47
    go_wp2_with (go_at_call 50; (with_reducible refine (nan_p).mono ?_); rintro e w1 ⟨rfl, rfl⟩)
    go_ret
    exact ⟨ret_int HE.out.symm, rfl⟩
theorem or_p {a b c : Int} {g n : Nat} {w : World} (h0 : w.cell? ⟨g, 0, none⟩ = some (.int .i64 a)) (h1 : w.cell? ⟨g, 1, none⟩ = some (.int .i64 b)) (hc : (if a = 0 then b else a) = c) : Calls Try.prog 46 #[.slice (some ⟨g, 0, none⟩) 2 n] w (RetS (.int .i64 c) w) := by
  have HC := Lib.hid hc
  clear hc
  by_cases ha : a = 0
  · subst ha
    by_cases hb : b = 0
    · subst hb
      have HE : Hid (c = 0) := Lib.hid (by rw [← HC.out]; rfl)
      go_enter Try.func46, Try.ntmps46
      go_wp2
      refine wp_loop_rounds 4 ?_
      rw [rounds_succ]
      go_wp2
      rw [rounds_succ]
      go_wp2
      rw [rounds_succ]
      go_wp2
      go_ret
      exact ⟨ret_int HE.out.symm, rfl⟩
    · have HE : Hid (c = b) := Lib.hid (by rw [← HC.out, if_pos rfl])
      have hb0 : (b == 0) = false := beq_false_of_ne hb
      go_enter Try.func46, Try.ntmps46
      go_wp2
      refine wp_loop_rounds 4 ?_
      rw [rounds_succ]
      go_wp2
      rw [rounds_succ]
      go_wp2
      go_ret
      exact ⟨ret_int HE.out.symm, rfl⟩
  · have HE : Hid (c = a) := Lib.hid (by rw [← HC.out, if_neg ha])
    have hb0 : (a == 0) = false := beq_false_of_ne ha
    go_enter Try.func46, Try.ntmps46
    go_wp2
    refine wp_loop_rounds 4 ?_
    rw [rounds_succ]
    go_wp2
    go_ret
    exact ⟨ret_int HE.out.symm, rfl⟩
set_option maxHeartbeats 4000000 in
theorem cmp_p {x y : Pt} {c : Int} {w : World} (hc : cmT x y = c) : Calls Try.prog 38 #[ptV x, ptV y] w (RetG (.int .i64 c) w) := by
  obtain ⟨p, v, f, wr, ac⟩ := x
  obtain ⟨p', v', f', wr', ac'⟩ := y
  obtain ⟨c1, h1⟩ : ∃ c1, cmI p p' = c1 := ⟨_, rfl⟩
  obtain ⟨c2, h2⟩ : ∃ c2, cmI v v' = c2 := ⟨_, rfl⟩
  have HE : Hid ((if c1 = 0 then c2 else c1) = c) := Lib.hid (by rw [← hc, ← h1, ← h2]; rfl)
  have H1 := Lib.hid h1
  have H2 := Lib.hid h2
  have k := ((Grew.refl w).alloc (.cells #[.int .i64 p, .int .i64 v, .int .i64 f, .bool wr, .bool ac] 30)).alloc (.cells #[.int .i64 p', .int .i64 v', .int .i64 f', .bool wr', .bool ac'] 30)
  have o1 := (Own.new w 30 #[.int .i64 p, .int .i64 v, .int .i64 f, .bool wr, .bool ac]).alloc (.cells #[.int .i64 p', .int .i64 v', .int .i64 f', .bool wr', .bool ac'] 30)
  have o2 := Own.new2 w (.cells #[.int .i64 p, .int .i64 v, .int .i64 f, .bool wr, .bool ac] 30) 30 #[.int .i64 p', .int .i64 v', .int .i64 f', .bool wr', .bool ac']
  obtain ⟨x0, x1, -, -, -⟩ := o1.fiveT
  obtain ⟨y0, y1, -, -, -⟩ := o2.fiveT
  have HK := Lib.hid k
  clear hc h1 h2 k o1 o2
  go_enter Try.func38, Try.ntmps38
  go_upto_region 1 with fail
  generalize World.alloc (World.alloc w _) _ = w2 at *
  go_region_held3 (fun w' => w'.cell? ⟨w.heap.size, 0, none⟩ = some (.int .i64 p) ∧ w'.cell? ⟨w.heap.size, 1, none⟩ = some (.int .i64 v) ∧ w'.cell? ⟨w.heap.size + 1, 0, none⟩ = some (.int .i64 p') ∧ w'.cell? ⟨w.heap.size + 1, 1, none⟩ = some (.int .i64 v'))
    (refine ⟨?_, ?_, ?_, ?_⟩ <;> (repeat (first | (with_reducible assumption) | (with_reducible refine far_drew ?_) | (with_reducible refine far_alloc ?_))))
    (first
      | (go_at_call 47; (with_reducible refine (cmpI_p H1.out).mono ?_); rintro e w1 ⟨rfl, rfl⟩)
      | (go_at_call 47; (with_reducible refine (cmpI_p H2.out).mono ?_); rintro e w1 ⟨rfl, rfl⟩)
      | (go_at_call 46; have q0 := (Own.new w2 3 #[.int .i64 c1, .int .i64 c2]).drew.two.1; have q1 := (Own.new w2 3 #[.int .i64 c1, .int .i64 c2]).drew.two.2.1; (with_reducible refine (or_p (a := c1) (b := c2) (c := c) q0 q1 HE.out).mono ?_); rintro e w1 ⟨rfl, rfl⟩)
      | (go_at_call 46; have q0 := (Own.new w2.drew 3 #[.int .i64 c1, .int .i64 c2]).two.1; have q1 := (Own.new w2.drew 3 #[.int .i64 c1, .int .i64 c2]).two.2.1; (with_reducible refine (or_p (a := c1) (b := c2) (c := c) q0 q1 HE.out).mono ?_); rintro e w1 ⟨rfl, rfl⟩))
  all_goals
    go_wp2
    go_ret
    exact ⟨rfl, by first | exact HK.out.alloc _ | exact HK.out.drew.alloc _ | exact (HK.out.alloc _).drew⟩
theorem less_q {x y : Pt} {b : Bool} {w : World} (hb : ltT x y = b) : Calls Try.prog 36 #[ptV x, ptV y] w (RetG (.bool b) w) := by
  obtain ⟨p, v, f, wr, ac⟩ := x
  obtain ⟨p', v', f', wr', ac'⟩ := y
  have HB := Lib.hid hb
  have HY := Lib.hid (@ltT_iff ⟨p, v, f, wr, ac⟩ ⟨p', v', f', wr', ac'⟩)
  have HN := Lib.hid (@ltT_no ⟨p, v, f, wr, ac⟩ ⟨p', v', f', wr', ac'⟩)
  simp only at HN HY
  have HG := Lib.hid (((Grew.refl w).alloc (.cells #[.int .i64 p, .int .i64 v, .int .i64 f, .bool wr, .bool ac] 30)).alloc (.cells #[.int .i64 p', .int .i64 v', .int .i64 f', .bool wr', .bool ac'] 30))
  have o1 := (Own.new w 30 #[.int .i64 p, .int .i64 v, .int .i64 f, .bool wr, .bool ac]).alloc (.cells #[.int .i64 p', .int .i64 v', .int .i64 f', .bool wr', .bool ac'] 30)
  have o2 := Own.new2 w (.cells #[.int .i64 p, .int .i64 v, .int .i64 f, .bool wr, .bool ac] 30) 30 #[.int .i64 p', .int .i64 v', .int .i64 f', .bool wr', .bool ac']
  obtain ⟨x0, x1, -, -, -⟩ := o1.fiveT
  obtain ⟨y0, y1, -, -, -⟩ := o2.fiveT
  clear hb o1 o2
  by_cases t1 : p < p'
  · have HE : Hid (b = true) := Lib.hid (HB.out.symm.trans (HY.out.2 (.inl t1)))
    clear HN HY
    go_enter Try.func36, Try.ntmps36
    go_wp2
    go_ret
    exact ⟨ret_bool HE.out.symm, HG.out⟩
  · by_cases t2 : p = p'
    · have t3 : (p == p') = true := by simp [t2]
      by_cases t4 : v < v'
      · have HE : Hid (b = true) := Lib.hid (HB.out.symm.trans (HY.out.2 (.inr ⟨t2, t4⟩)))
        clear HN HY t2
        go_enter Try.func36, Try.ntmps36
        go_wp2
        go_ret
        exact ⟨ret_bool HE.out.symm, HG.out⟩
      · have HE : Hid (b = false) := Lib.hid (HB.out.symm.trans (HN.out.2 (by omega)))
        clear HN HY t2
        go_enter Try.func36, Try.ntmps36
        go_wp2
        go_ret
        exact ⟨ret_bool HE.out.symm, HG.out⟩
    · have t3 : (p == p') = false := beq_false_of_ne t2
      have HE : Hid (b = false) := Lib.hid (HB.out.symm.trans (HN.out.2 (by omega)))
      clear HN HY
      go_enter Try.func36, Try.ntmps36
      go_wp2
      go_ret
      exact ⟨ret_bool HE.out.symm, HG.out⟩
end Go.Proofs.Ytjkkhfionmdmpaa

/- Package readahead: Plan (layer 7): contracts. -/
import Derived.Test.YtfljohgcbihhbaaDoorRa4
namespace Go.Proofs.YtfljohgcbihhbaaDoor
open Go.RowKit Go.Mine

theorem rowN_lit {w : World} {x : Str} : RowN 29 (w.alloc (.cells (csS x) 29)) w.heap.size (.slice (some ⟨w.heap.size, 0, none⟩) 1 1) [x] :=
  ⟨RowE.lit (L := [x]) w (csS x) (by simp [encS]) (by simp) (by simp [maxLen]) (Nat.le_refl _), fun h => absurd h (by simp)⟩
theorem chk_one (x : Str) : chkB (ofL [x]) 1 = rgtB x := by
  show (decide (1 ≤ 4) && (true && (rgtB x && !hasN (ofL [x]) x.t 0))) = rgtB x
  simp [hasN]
theorem check_one {v : Bool} (x : Str) (w : World) (hm : Mild x) (h : rgtB x = v) :
    Calls Tryd.prog 47 #[.slice (some ⟨w.heap.size, 0, none⟩) 1 1] (w.alloc (.cells (csS x) 29)) (RetG (.bool v) (w.alloc (.cells (csS x) 29))) :=
  check_L (L := [x]) _ _ rowN_lit (by simp) (milds1 hm) ((chk_one x).trans h)
theorem plE_0 {x : Wn} {s : Str} {a b e : Int} (h : wokB x = false) : plE x s a b e = 1 := by unfold plE; rw [h]; rfl
theorem plE_1 {x : Wn} {s : Str} {a b e : Int} (h : rgtB s = false) : plE x s a b e = 1 := by unfold plE; rw [h, Bool.and_false]
theorem plE_2 {x : Wn} {s : Str} {a b e : Int} (h : wokB x = true) (h2 : rgtB s = true) (hn : ¬(AccP a b ∧ 0 ≤ e ∧ e ≤ 256)) : plE x s a b e = 2 := by
  unfold plE; rw [h, h2]
  show (match accB a b && decide (0 ≤ e ∧ e ≤ 256) with | false => (2 : Int) | true => 0) = 2
  cases hb : accB a b && decide (0 ≤ e ∧ e ≤ 256)
  · rfl
  · rw [Bool.and_eq_true] at hb
    exact absurd ⟨of_decide_eq_true hb.1, of_decide_eq_true hb.2⟩ hn
theorem plE_3 {x : Wn} {s : Str} {a b e : Int} (h : wokB x = true) (h2 : rgtB s = true) (hy : AccP a b ∧ 0 ≤ e ∧ e ≤ 256) : plE x s a b e = 0 := by
  unfold plE; rw [h, h2, show accB a b = true from decide_eq_true hy.1, show decide (0 ≤ e ∧ e ≤ 256) = true from decide_eq_true hy.2]; rfl
theorem plE_ok {x : Wn} {s : Str} {a b e : Int} (h : plE x s a b e = 0) : WokP x ∧ RgtP s ∧ AccP a b ∧ 0 ≤ e ∧ e ≤ 256 := by
  cases h0 : wokB x
  · rw [plE_0 h0] at h; exact absurd h (by decide)
  · cases h1 : rgtB s
    · rw [plE_1 h1] at h; exact absurd h (by decide)
    · by_cases hy : AccP a b ∧ 0 ≤ e ∧ e ≤ 256
      · exact ⟨of_decide_eq_true h0, of_decide_eq_true h1, hy.1, hy.2.1, hy.2.2⟩
      · rw [plE_2 h0 h1 hy] at h; exact absurd h (by decide)
set_option maxHeartbeats 1000000 in
theorem checkPlan_any (x : Wn) (s : Str) (a b e : Int) (w : World) (hm : Mild s) :
    Calls Tryd.prog 26 #[wnV x, strV s, .int .i64 a, .int .i64 b, .int .i64 e] w (RetG (.int .i64 (plE x s a b e)) w) := by
  have X := (Own.new w 32 (csW x)).alloc (.cells (csS s) 29)
  have S := Own.new2 w (.cells (csW x) 32) 29 (csS s)
  have G0 : Grew w ((w.alloc (.cells (csW x) 32)).alloc (.cells (csS s) 29)) := ((Grew.refl w).alloc _).alloc _
  cases h0 : wokB x
  case false =>
    have HE := Lib.hid (plE_0 (s := s) (a := a) (b := b) (e := e) h0)
    go_enter Tryd.func26, Tryd.ntmps26
    go_wp2_with fail
    with_reducible refine (wcheck_v x _ h0).mono ?_
    rintro e1 w1 ⟨rfl, g1⟩
    go_wp2
    go_ret
    exact ⟨ret_int HE.out.symm, G0.trans g1⟩
  case true =>
    cases h1 : rgtB s
    case false =>
      have HE := Lib.hid (plE_1 (x := x) (a := a) (b := b) (e := e) h1)
      go_enter Tryd.func26, Tryd.ntmps26
      go_wp2_with fail
      with_reducible refine (wcheck_v x _ h0).mono ?_
      rintro e1 w1 ⟨rfl, g1⟩
      replace S := S.grew g1
      replace G0 := G0.trans g1
      obtain ⟨p0, p1, p2, p3, p4, p5⟩ := S.six
      go_wp2_with fail
      with_reducible refine (check_one s _ hm h1).mono ?_
      rintro e2 w2 ⟨rfl, g2⟩
      go_wp2
      go_ret
      exact ⟨ret_int HE.out.symm, (G0.alloc _).trans g2⟩
    case true =>
      have HE := Lib.hid (fun h => plE_2 (e := e) (a := a) (b := b) h0 h1 h)
      have HO := Lib.hid (fun h => plE_3 (e := e) (a := a) (b := b) h0 h1 h)
      cases h2 : wiB e 0 256
      all_goals
        have H2 := Lib.hid h2
        go_enter Tryd.func26, Tryd.ntmps26
        go_wp2_with fail
        with_reducible refine (wcheck_v x _ h0).mono ?_
        rintro e1 w1 ⟨rfl, g1⟩
        replace S := S.grew g1
        replace G0 := G0.trans g1
        obtain ⟨p0, p1, p2, p3, p4, p5⟩ := S.six
        go_wp2_with fail
        with_reducible refine (check_one s _ hm h1).mono ?_
        rintro e2 w2 ⟨rfl, g2⟩
        have G2 := (G0.alloc (.cells (csS s) 29)).trans g2
        clear p0 p1 p2 p3 p4 p5
        by_cases k0 : a < 0
        · have E := Lib.hid (HE.out (fun h => by have := h.1.1; omega))
          go_wp2
          go_ret
          exact ⟨ret_int E.out.symm, G2⟩
        · by_cases k1 : b ≤ a
          · have E := Lib.hid (HE.out (fun h => by have := h.1.2.1; omega))
            go_wp2
            go_ret
            exact ⟨ret_int E.out.symm, G2⟩
          · by_cases k2 : 256 < b
            · have E := Lib.hid (HE.out (fun h => by have := h.1.2.2; omega))
              go_wp2
              go_ret
              exact ⟨ret_int E.out.symm, G2⟩
            · go_wp2_with (go_at_call 37; (with_reducible refine (isWithin_v _ 0 256 _ H2.out).mono ?_); rintro e w3 ⟨rfl, rfl⟩)
              go_ret
              first
                | exact ⟨ret_int (HE.out (fun h => absurd h.2 (of_decide_eq_false H2.out))).symm, G2⟩
                | exact ⟨ret_int (HO.out ⟨⟨by omega, by omega, by omega⟩, of_decide_eq_true H2.out⟩).symm, G2⟩
theorem checkPlan_v {v : Int} (x : Wn) (s : Str) (a b e : Int) (w : World) (hm : Mild s) (h : plE x s a b e = v) :
    Calls Tryd.prog 26 #[wnV x, strV s, .int .i64 a, .int .i64 b, .int .i64 e] w (RetG (.int .i64 v) w) := h ▸ checkPlan_any x s a b e w hm
end Go.Proofs.YtfljohgcbihhbaaDoor

/- Package readahead: the next window (layer 7): contracts. -/
import Derived.Test.YtfljohgcbihhbaaDoorRa1
import Derived.BigQuiet
namespace Go.Proofs.YtfljohgcbihhbaaDoor
open Go.RowKit Go.Mine

theorem mrk_no {x : Wn} (h : wokB x = false ∨ x.y = 0) : mrkB x = false ∧ mrkF x = 0 := by
  have e : mrkB x = false := by
    unfold mrkB
    rcases h with h | h
    · rw [h]; rfl
    · rw [h]; simp
  exact ⟨e, by rw [mrkF, e]; rfl⟩
theorem mrk_yes {x : Wn} (h : wokB x = true) (hy : ¬x.y = 0) : mrkB x = true ∧ mrkF x = x.s + x.n - x.y := by
  have e : mrkB x = true := by unfold mrkB; rw [h]; simp [hy]
  exact ⟨e, by rw [mrkF, e]; rfl⟩
set_option maxHeartbeats 1000000 in
theorem marker_any (x : Wn) (w : World) : Calls Tryd.prog 11 #[wnV x] w (RetG (.tuple #[.int .i64 (mrkF x), .bool (mrkB x)]) w) := by
  have O := Own.new w 32 (csW x)
  cases h0 : wokB x
  case false =>
    obtain ⟨e1, e2⟩ := mrk_no (x := x) (.inl h0)
    have E1 := Lib.hid e1
    have E2 := Lib.hid e2
    clear e1 e2
    go_enter Tryd.func11, Tryd.ntmps11
    go_wp2_with fail
    with_reducible refine (wcheck_v _ _ h0).mono ?_
    rintro e w1 ⟨rfl, g1⟩
    have P := O.grew g1
    have G : Grew w w1 := ((Grew.refl w).alloc _).trans g1
    obtain ⟨p0, p1, p2, p3, p4, p5⟩ := P.three
    go_wp2
    refine bodyPost_ret (v := .tuple #[.int .i64 0, .bool false]) (by simp [results, Tryd.results11, go_sem]) rfl ⟨by rw [E1.out, E2.out], G⟩
  case true =>
    by_cases hy : x.y = 0
    · obtain ⟨e1, e2⟩ := mrk_no (x := x) (.inr hy)
      have E1 := Lib.hid e1
      have E2 := Lib.hid e2
      have dy := beqT hy
      clear e1 e2 hy
      go_enter Tryd.func11, Tryd.ntmps11
      go_wp2_with fail
      with_reducible refine (wcheck_v _ _ h0).mono ?_
      rintro e w1 ⟨rfl, g1⟩
      have P := O.grew g1
      have G : Grew w w1 := ((Grew.refl w).alloc _).trans g1
      obtain ⟨p0, p1, p2, p3, p4, p5⟩ := P.three
      go_wp2
      refine bodyPost_ret (v := .tuple #[.int .i64 0, .bool false]) (by simp [results, Tryd.results11, go_sem]) rfl ⟨by rw [E1.out, E2.out], G⟩
    · obtain ⟨e1, e2⟩ := mrk_yes h0 hy
      have hp : WokP x := of_decide_eq_true h0
      have hb : 0 ≤ x.s + x.n ∧ x.s + x.n ≤ 263 ∧ 0 ≤ x.y ∧ x.y ≤ 8 := by unfold WokP ZerP at hp; omega
      obtain ⟨b0, b1, b2, b3⟩ := hb
      have E1 := Lib.hid e1
      have E2 := Lib.hid e2
      have dy := beqF hy
      have hv : IntKind.i64.wrap (x.s + x.n - x.y) = x.s + x.n - x.y := IntWalk.i64_in _ (by omega)
      clear e1 e2 hy hp
      go_enter Tryd.func11, Tryd.ntmps11
      go_wp2_with fail
      with_reducible refine (wcheck_v _ _ h0).mono ?_
      rintro e w1 ⟨rfl, g1⟩
      have P := O.grew g1
      have G : Grew w w1 := ((Grew.refl w).alloc _).trans g1
      obtain ⟨p0, p1, p2, p3, p4, p5⟩ := P.three
      clear g1 O
      generalize w.heap.size = sx at *
      go_upto_region 3 with fail
      clear p0 p1 p2 p3 p4 p5
      replace P := P.drew
      replace G := G.drew
      obtain ⟨p0, p1, p2, p3, p4, p5⟩ := P.three
      have l_P := P.lt
      go_region_held3 (fun w' => w'.cell? ⟨sx, 0, none⟩ = some (.int .i64 x.s) ∧ w'.cell? ⟨sx, 1, none⟩ = some (.int .i64 x.n) ∧ w'.cell? ⟨sx, 2, none⟩ = some (.int .i64 x.y))
        (refine ⟨?_, ?_, ?_⟩ <;> (repeat (first | with_reducible assumption | with_reducible refine far_drew ?_)))
        (first | (go_at_call 36; (with_reducible refine (behind_any x _ (by omega) (by omega)).mono ?_); rintro e w3 ⟨rfl, g3⟩; replace P := P.grew g3; replace G := G.trans g3; clear p0 p1 p2 p3 p4 p5; obtain ⟨p0, p1, p2, p3, p4, p5⟩ := P.three))
      all_goals go_wp2
      all_goals refine bodyPost_ret (v := .tuple #[.int .i64 (x.s + x.n - x.y), .bool true]) (by simp [results, Tryd.results11, go_sem]) rfl ⟨by rw [E1.out, E2.out], G⟩
theorem marker_v {m : Int} {v : Bool} (x : Wn) (w : World) (h1 : mrkF x = m) (h2 : mrkB x = v) : Calls Tryd.prog 11 #[wnV x] w (RetG (.tuple #[.int .i64 m, .bool v]) w) := h1 ▸ h2 ▸ marker_any x w
theorem ask_is {x : Wn} {a b : Int} (h : WokP x) : askB x a b = ((mrkB x && wiB (mrkF x) a (b - 1)) || wiB (x.s + x.n - 1) a (b - 1)) := by
  have h0 : wokB x = true := decide_eq_true h
  by_cases hy : x.y = 0
  · rw [(mrk_no (x := x) (.inr hy)).1, Bool.eq_iff_iff]
    simp [askB, AskP, wiB, hy]
    omega
  · obtain ⟨e1, e2⟩ := mrk_yes h0 hy
    rw [e1, e2, Bool.eq_iff_iff]
    simp [askB, AskP, wiB, hy]
    omega
set_option maxHeartbeats 1000000 in
theorem asks_any (x : Wn) (a b : Int) (w : World) (h : WokP x) (ha : AccP a b) : Calls Tryd.prog 51 #[wnV x, .int .i64 a, .int .i64 b] w (RetG (.bool (askB x a b)) w) := by
  have O := Own.new w 32 (csW x)
  have HA := Lib.hid (ask_is (a := a) (b := b) h)
  obtain ⟨a0, a1, a2⟩ := ha
  have hb : 0 ≤ x.s + x.n ∧ x.s + x.n ≤ 263 := by unfold WokP ZerP at h; omega
  obtain ⟨b0, b1⟩ := hb
  obtain ⟨m, hm⟩ : ∃ m, mrkF x = m := ⟨_, rfl⟩
  have HM := Lib.hid hm
  rw [hm] at HA
  clear hm h
  cases h0 : mrkB x
  all_goals
    cases h1 : wiB m a (b - 1)
    all_goals
      cases h2 : wiB (x.s + x.n - 1) a (b - 1)
      all_goals
        go_enter Tryd.func51, Tryd.ntmps51
        go_wp2_with fail
        with_reducible refine (marker_v x _ HM.out h0).mono ?_
        rintro e w1 ⟨rfl, g1⟩
        have P := O.grew g1
        have G : Grew w w1 := ((Grew.refl w).alloc _).trans g1
        obtain ⟨p0, p1, p2, p3, p4, p5⟩ := P.three
        go_wp2_with (first
          | (go_at_call 37; (with_reducible refine (isWithin_v _ _ _ _ h1).mono ?_); rintro e w3 ⟨rfl, rfl⟩)
          | (go_at_call 37; (with_reducible refine (isWithin_v _ _ _ _ h2).mono ?_); rintro e w3 ⟨rfl, rfl⟩)
          | (go_at_call 36; (with_reducible refine (behind_any x _ (by omega) (by omega)).mono ?_); rintro e w4 ⟨rfl, g4⟩; replace G := G.trans g4))
        go_ret
        exact ⟨ret_bool (by rw [HA.out, h0, h1, h2]; rfl), G⟩
set_option maxHeartbeats 1000000 in
theorem near_any (x : Wn) (a b : Int) (w : World) (h : WokP x) (ha : AccP a b) : Calls Tryd.prog 53 #[wnV x, .int .i64 a, .int .i64 b] w (RetG (.bool (nearB x a b)) w) := by
  have O := Own.new w 32 (csW x)
  obtain ⟨a0, a1, a2⟩ := ha
  have hb : 0 ≤ x.s + x.n ∧ x.s + x.n ≤ 263 ∧ 0 ≤ x.n ∧ x.n ≤ 8 ∧ 0 ≤ x.s ∧ x.s ≤ 255 := by unfold WokP ZerP at h; omega
  obtain ⟨b0, b1, b2, b3, b4, b5⟩ := hb
  clear h
  by_cases h1 : 0 < x.n
  · by_cases h2 : x.s - x.n ≤ b - 1
    · have HN := Lib.hid (show nearB x a b = decide (a ≤ x.s + x.n) from decide_eq_decide.2 (by unfold NearP; omega))
      have d1 : decide (0 < x.n) = true := decide_eq_true h1
      have d2 : decide (x.s - x.n ≤ b - 1) = true := decide_eq_true h2
      go_enter Tryd.func53, Tryd.ntmps53
      go_wp2_with (go_at_call 36; (with_reducible refine (behind_any x _ (by omega) (by omega)).mono ?_); rintro e w4 ⟨rfl, g4⟩)
      go_ret
      exact ⟨ret_bool HN.out.symm, ((Grew.refl w).alloc _).trans g4⟩
    · have HN := Lib.hid (show nearB x a b = false from decide_eq_false (by unfold NearP; omega))
      have d1 : decide (0 < x.n) = true := decide_eq_true h1
      have d2 : decide (x.s - x.n ≤ b - 1) = false := decide_eq_false h2
      go_enter Tryd.func53, Tryd.ntmps53
      go_wp2
      go_ret
      exact ⟨ret_bool HN.out.symm, (Grew.refl w).alloc _⟩
  · have HN := Lib.hid (show nearB x a b = false from decide_eq_false (by unfold NearP; omega))
    have d1 : decide (0 < x.n) = false := decide_eq_false h1
    go_enter Tryd.func53, Tryd.ntmps53
    go_wp2
    go_ret
    exact ⟨ret_bool HN.out.symm, (Grew.refl w).alloc _⟩
theorem windowFrom_any (s n : Int) (w : World) : Calls Tryd.prog 52 #[.int .i64 s, .int .i64 n] w (RetG (wnV (frmW s n)) w) := by
  have R := Own.new w 32 #[.int .i64 s, .int .i64 n, .int .i64 n]
  have G : Grew w (w.alloc (.cells #[.int .i64 s, .int .i64 n, .int .i64 n] 32)) := (Grew.refl w).alloc _
  go_enter Tryd.func52, Tryd.ntmps52
  go_wp2
  obtain ⟨r0, r1, r2, r3, r4, r5⟩ := R.three
  refine bodyPost_ret (v := wnV (frmW s n)) (by simp [results, Tryd.results52, go_sem, r0, r1, r2, frmW]) rfl ⟨rfl, G⟩
end Go.Proofs.YtfljohgcbihhbaaDoor

/- The reference's Plan (layer 7): its contract. -/
import Derived.Test.YtfljohgcbihhbaaDoorRa8
import Derived.Test.YtfljohgcbihhbaaDoorRa6
import Derived.Deep.CutRange
namespace Go.Proofs.YtfljohgcbihhbaaDoor
open Go.RowKit Go.Mine

theorem rpredict_q {L : List Int} (x : Str) (n : Int) (w : World) (h : prF x n = L) : Calls Tryd.prog 23 #[strV x, .int .i64 n] w (RetI1 L w) := h ▸ rpredict_any x n w
theorem qpages_m {L : List Int} (M g : Int) (w : World) (h0 : 0 ≤ M) (h1 : M ≤ 1000) (h2 : 0 ≤ g) (h3 : g ≤ 8) (h : pgsL (frmW M g) = L) : Calls Tryd.prog 35 #[.agg #[.int .i64 M, .int .i64 g, .int .i64 g]] w (RetI1 L w) := qpages_q (frmW M g) w h0 h1 h2 h3 h
theorem dbl_ok {n : Int} (h0 : 0 ≤ n) (h1 : n ≤ 8) : DblP n := .inl ⟨by omega, by omega⟩
theorem ask_dec {x : Wn} {a b : Int} (h : WokP x) : askB x a b = decide ((mrkB x = true ∧ a ≤ mrkF x ∧ mrkF x < b) ∨ (a ≤ x.s + x.n - 1 ∧ x.s + x.n - 1 < b)) := by
  have h0 : wokB x = true := decide_eq_true h
  by_cases hy : x.y = 0
  · obtain ⟨e1, e2⟩ := mrk_no (x := x) (.inr hy)
    rw [e1, e2]
    exact decide_eq_decide.2 (by unfold AskP; simp [hy])
  · obtain ⟨e1, e2⟩ := mrk_yes h0 hy
    rw [e1, e2]
    exact decide_eq_decide.2 (by unfold AskP; simp [hy])
theorem ask_zero {x : Wn} {a b : Int} (h : ZerP x) (ha : AccP a b) : askB x a b = false := decide_eq_false (by unfold AskP; unfold ZerP at h; unfold AccP at ha; omega)
theorem near_zero {x : Wn} {a b : Int} (h : ZerP x) : nearB x a b = false := decide_eq_false (by unfold NearP; unfold ZerP at h; omega)
theorem ok_cases {x : Wn} (h : WokP x) : (x.s = 0 ∧ x.n = 0 ∧ x.y = 0) ∨ ((x.n == 0) = false ∧ 1 ≤ x.n) := by
  rcases h with h | h
  · exact .inl h
  · exact .inr ⟨beqF (by omega), by omega⟩
set_option maxRecDepth 100000 in
set_option maxHeartbeats 1000000 in
theorem qplan_err (x : Wn) (s : Str) (a b e : Int) (w : World) {er : Int} (h : plE x s a b e = er) (hn : ¬er = 0) : Calls Tryd.prog 10 #[wnV x, strV s, .int .i64 a, .int .i64 b, .int .i64 e] w (RetPl zW [] er w) := by
  have X : Own (((w.alloc (.cells (csW x) 32)).alloc (.cells (csS s) 29)).alloc (.cells z3 32)) w.heap.size 32 (csW x) := ((Own.new w _ _).alloc _).alloc _
  have S : Own (((w.alloc (.cells (csW x) 32)).alloc (.cells (csS s) 29)).alloc (.cells z3 32)) (w.heap.size + 1) 29 (csS s) := (Own.new2 w _ _ _).alloc _
  have R : Own (((w.alloc (.cells (csW x) 32)).alloc (.cells (csS s) 29)).alloc (.cells z3 32)) (w.heap.size + 1 + 1) 32 z3 := by
    have h := Own.new ((w.alloc (.cells (csW x) 32)).alloc (.cells (csS s) 29)) 32 z3
    rwa [World.size_alloc, World.size_alloc] at h
  have G0 : Grew w (((w.alloc (.cells (csW x) 32)).alloc (.cells (csS s) 29)).alloc (.cells z3 32)) := (((Grew.refl w).alloc _).alloc _).alloc _
  cases h0 : wokB x
  case false =>
    have e1 := plE_0 (s := s) (a := a) (b := b) (e := e) h0
    obtain rfl : er = 1 := by omega
    clear h hn e1
    go_enter Tryd.func10, Tryd.ntmps10
    go_wp2_with fail
    with_reducible refine (qcheck_v x _ h0).mono ?_
    rintro e_w1 w1 ⟨rfl, g1⟩
    replace X := X.grew g1
    replace S := S.grew g1
    replace R := R.grew g1
    replace G0 := G0.trans g1
    clear g1
    have hsx : w.heap.size + 1 + 1 < w1.heap.size := R.lt
    obtain ⟨r0, r1, r2, r3, r4, r5⟩ := R.three
    go_wp2
    generalize hw : World.setCell _ _ _ = wz
    have RR := R.store3 hw
    have gB := G0.far3 hw (by omega)
    obtain ⟨u0, u1, u2, u3, u4, u5⟩ := RR.three
    refine bodyPost_ret (v := .tuple #[wnV zW, .slice none 0 0, .int .i64 1]) (by simp [results, Tryd.results10, go_sem, u0, u1, u2, zW]) rfl ⟨_, rfl, RowE.nil _ _, gB⟩
  case true =>
    cases h1 : rgtB s
    case false =>
      have e1 := plE_1 (x := x) (a := a) (b := b) (e := e) h1
      obtain rfl : er = 1 := by omega
      clear h hn e1
      go_enter Tryd.func10, Tryd.ntmps10
      go_wp2_with fail
      with_reducible refine (qcheck_v x _ h0).mono ?_
      rintro e_w1 w1 ⟨rfl, g1⟩
      replace X := X.grew g1
      replace S := S.grew g1
      replace R := R.grew g1
      replace G0 := G0.trans g1
      clear g1
      obtain ⟨p0, p1, p2, p3, p4, p5⟩ := S.six
      go_wp2_with fail
      with_reducible refine (rRight_v s _ h1).mono ?_
      rintro e_w2 w2 ⟨rfl, g1⟩
      replace X := X.grew g1
      replace S := S.grew g1
      replace R := R.grew g1
      replace G0 := G0.trans g1
      clear g1
      clear p0 p1 p2 p3 p4 p5
      have hsx : w.heap.size + 1 + 1 < w2.heap.size := R.lt
      obtain ⟨r0, r1, r2, r3, r4, r5⟩ := R.three
      go_wp2
      generalize hw : World.setCell _ _ _ = wz
      have RR := R.store3 hw
      have gB := G0.far3 hw (by omega)
      obtain ⟨u0, u1, u2, u3, u4, u5⟩ := RR.three
      refine bodyPost_ret (v := .tuple #[wnV zW, .slice none 0 0, .int .i64 1]) (by simp [results, Tryd.results10, go_sem, u0, u1, u2, zW]) rfl ⟨_, rfl, RowE.nil _ _, gB⟩
    case true =>
      have hac : ¬(AccP a b ∧ 0 ≤ e ∧ e ≤ 256) := fun k => hn (by rw [← h]; exact plE_3 h0 h1 k)
      have e1 := plE_2 h0 h1 hac
      obtain rfl : er = 2 := by omega
      clear h hn e1
      cases h2 : accB a b
      case false =>
        clear hac
        go_enter Tryd.func10, Tryd.ntmps10
        go_wp2_with fail
        with_reducible refine (qcheck_v x _ h0).mono ?_
        rintro e_w1 w1 ⟨rfl, g1⟩
        replace X := X.grew g1
        replace S := S.grew g1
        replace R := R.grew g1
        replace G0 := G0.trans g1
        clear g1
        obtain ⟨p0, p1, p2, p3, p4, p5⟩ := S.six
        go_wp2_with fail
        with_reducible refine (rRight_v s _ h1).mono ?_
        rintro e_w2 w2 ⟨rfl, g1⟩
        replace X := X.grew g1
        replace S := S.grew g1
        replace R := R.grew g1
        replace G0 := G0.trans g1
        clear g1
        clear p0 p1 p2 p3 p4 p5
        go_wp2_with fail
        with_reducible refine (rAccess_v a b _ h2).mono ?_
        rintro e_w3 w3 ⟨rfl, rfl⟩
        have hsx : w.heap.size + 1 + 1 < w2.heap.size := R.lt
        obtain ⟨r0, r1, r2, r3, r4, r5⟩ := R.three
        go_wp2
        generalize hw : World.setCell _ _ _ = wz
        have RR := R.store3 hw
        have gB := G0.far3 hw (by omega)
        obtain ⟨u0, u1, u2, u3, u4, u5⟩ := RR.three
        refine bodyPost_ret (v := .tuple #[wnV zW, .slice none 0 0, .int .i64 2]) (by simp [results, Tryd.results10, go_sem, u0, u1, u2, zW]) rfl ⟨_, rfl, RowE.nil _ _, gB⟩
      case true =>
        have he : e < 0 ∨ (0 ≤ e ∧ 256 < e) := by
          have hA : AccP a b := of_decide_eq_true h2
          by_cases k0 : 0 ≤ e
          · exact .inr ⟨k0, by by_cases k1 : e ≤ 256; exact absurd ⟨hA, k0, k1⟩ hac; omega⟩
          · exact .inl (by omega)
        clear hac
        rcases he with he | ⟨he, he2⟩
        · go_enter Tryd.func10, Tryd.ntmps10
          go_wp2_with fail
          with_reducible refine (qcheck_v x _ h0).mono ?_
          rintro e_w1 w1 ⟨rfl, g1⟩
          replace X := X.grew g1
          replace S := S.grew g1
          replace R := R.grew g1
          replace G0 := G0.trans g1
          clear g1
          obtain ⟨p0, p1, p2, p3, p4, p5⟩ := S.six
          go_wp2_with fail
          with_reducible refine (rRight_v s _ h1).mono ?_
          rintro e_w2 w2 ⟨rfl, g1⟩
          replace X := X.grew g1
          replace S := S.grew g1
          replace R := R.grew g1
          replace G0 := G0.trans g1
          clear g1
          clear p0 p1 p2 p3 p4 p5
          go_wp2_with fail
          with_reducible refine (rAccess_v a b _ h2).mono ?_
          rintro e_w3 w3 ⟨rfl, rfl⟩
          have hsx : w.heap.size + 1 + 1 < w2.heap.size := R.lt
          obtain ⟨r0, r1, r2, r3, r4, r5⟩ := R.three
          go_wp2
          generalize hw : World.setCell _ _ _ = wz
          have RR := R.store3 hw
          have gB := G0.far3 hw (by omega)
          obtain ⟨u0, u1, u2, u3, u4, u5⟩ := RR.three
          refine bodyPost_ret (v := .tuple #[wnV zW, .slice none 0 0, .int .i64 2]) (by simp [results, Tryd.results10, go_sem, u0, u1, u2, zW]) rfl ⟨_, rfl, RowE.nil _ _, gB⟩
        · go_enter Tryd.func10, Tryd.ntmps10
          go_wp2_with fail
          with_reducible refine (qcheck_v x _ h0).mono ?_
          rintro e_w1 w1 ⟨rfl, g1⟩
          replace X := X.grew g1
          replace S := S.grew g1
          replace R := R.grew g1
          replace G0 := G0.trans g1
          clear g1
          obtain ⟨p0, p1, p2, p3, p4, p5⟩ := S.six
          go_wp2_with fail
          with_reducible refine (rRight_v s _ h1).mono ?_
          rintro e_w2 w2 ⟨rfl, g1⟩
          replace X := X.grew g1
          replace S := S.grew g1
          replace R := R.grew g1
          replace G0 := G0.trans g1
          clear g1
          clear p0 p1 p2 p3 p4 p5
          go_wp2_with fail
          with_reducible refine (rAccess_v a b _ h2).mono ?_
          rintro e_w3 w3 ⟨rfl, rfl⟩
          have hsx : w.heap.size + 1 + 1 < w2.heap.size := R.lt
          obtain ⟨r0, r1, r2, r3, r4, r5⟩ := R.three
          go_wp2
          generalize hw : World.setCell _ _ _ = wz
          have RR := R.store3 hw
          have gB := G0.far3 hw (by omega)
          obtain ⟨u0, u1, u2, u3, u4, u5⟩ := RR.three
          refine bodyPost_ret (v := .tuple #[wnV zW, .slice none 0 0, .int .i64 2]) (by simp [results, Tryd.results10, go_sem, u0, u1, u2, zW]) rfl ⟨_, rfl, RowE.nil _ _, gB⟩
set_option maxRecDepth 100000 in
set_option maxHeartbeats 1000000 in
theorem qplan_unsure (x : Wn) (s : Str) (a b e : Int) (w : World) (h : plE x s a b e = 0) (hs : sureB s = false) : Calls Tryd.prog 10 #[wnV x, strV s, .int .i64 a, .int .i64 b, .int .i64 e] w (RetPl zW [] 0 w) := by
  have X : Own (((w.alloc (.cells (csW x) 32)).alloc (.cells (csS s) 29)).alloc (.cells z3 32)) w.heap.size 32 (csW x) := ((Own.new w _ _).alloc _).alloc _
  have S : Own (((w.alloc (.cells (csW x) 32)).alloc (.cells (csS s) 29)).alloc (.cells z3 32)) (w.heap.size + 1) 29 (csS s) := (Own.new2 w _ _ _).alloc _
  have R : Own (((w.alloc (.cells (csW x) 32)).alloc (.cells (csS s) 29)).alloc (.cells z3 32)) (w.heap.size + 1 + 1) 32 z3 := by
    have h := Own.new ((w.alloc (.cells (csW x) 32)).alloc (.cells (csS s) 29)) 32 z3
    rwa [World.size_alloc, World.size_alloc] at h
  have G0 : Grew w (((w.alloc (.cells (csW x) 32)).alloc (.cells (csS s) 29)).alloc (.cells z3 32)) := (((Grew.refl w).alloc _).alloc _).alloc _
  obtain ⟨hok, hrg, hac, e0, e1⟩ := plE_ok h
  have h0 := Lib.hid (show wokB x = true from decide_eq_true hok)
  have h1 := Lib.hid (show rgtB s = true from decide_eq_true hrg)
  have h2 := Lib.hid (show accB a b = true from decide_eq_true hac)
  have HS := Lib.hid hs
  clear h hs hok hrg hac
  go_enter Tryd.func10, Tryd.ntmps10
  go_wp2_with fail
  with_reducible refine (qcheck_v x _ h0.out).mono ?_
  rintro e_w1 w1 ⟨rfl, g1⟩
  replace X := X.grew g1
  replace S := S.grew g1
  replace R := R.grew g1
  replace G0 := G0.trans g1
  clear g1
  obtain ⟨p0, p1, p2, p3, p4, p5⟩ := S.six
  go_wp2_with fail
  with_reducible refine (rRight_v s _ h1.out).mono ?_
  rintro e_w2 w2 ⟨rfl, g1⟩
  replace X := X.grew g1
  replace S := S.grew g1
  replace R := R.grew g1
  replace G0 := G0.trans g1
  clear g1
  clear p0 p1 p2 p3 p4 p5
  go_wp2_with fail
  with_reducible refine (rAccess_v a b _ h2.out).mono ?_
  rintro e_w3 w3 ⟨rfl, rfl⟩
  obtain ⟨p0, p1, p2, p3, p4, p5⟩ := S.six
  go_wp2_with fail
  with_reducible refine (rsure_v s _ HS.out).mono ?_
  rintro e_w4 w4 ⟨rfl, g1⟩
  replace X := X.grew g1
  replace S := S.grew g1
  replace R := R.grew g1
  replace G0 := G0.trans g1
  clear g1
  clear p0 p1 p2 p3 p4 p5
  have hsx : w.heap.size + 1 + 1 < w4.heap.size := R.lt
  obtain ⟨r0, r1, r2, r3, r4, r5⟩ := R.three
  go_wp2
  generalize hw : World.setCell _ _ _ = wz
  have RR := R.store3 hw
  have gB := G0.far3 hw (by omega)
  obtain ⟨u0, u1, u2, u3, u4, u5⟩ := RR.three
  refine bodyPost_ret (v := .tuple #[wnV zW, .slice none 0 0, .int .i64 0]) (by simp [results, Tryd.results10, go_sem, u0, u1, u2, zW]) rfl ⟨_, rfl, RowE.nil _ _, gB⟩
set_option maxRecDepth 100000 in
set_option maxHeartbeats 2000000 in
theorem qplan_others (x : Wn) (s : Str) (a b e : Int) (w : World) (h : plE x s a b e = 0) (hs : sureB s = true) (hk : ¬s.k = 2) : Calls Tryd.prog 10 #[wnV x, strV s, .int .i64 a, .int .i64 b, .int .i64 e] w (RetPl zW (kpL e (prF s (firF (b - a)))) 0 w) := by
  have X : Own (((w.alloc (.cells (csW x) 32)).alloc (.cells (csS s) 29)).alloc (.cells z3 32)) w.heap.size 32 (csW x) := ((Own.new w _ _).alloc _).alloc _
  have S : Own (((w.alloc (.cells (csW x) 32)).alloc (.cells (csS s) 29)).alloc (.cells z3 32)) (w.heap.size + 1) 29 (csS s) := (Own.new2 w _ _ _).alloc _
  have R : Own (((w.alloc (.cells (csW x) 32)).alloc (.cells (csS s) 29)).alloc (.cells z3 32)) (w.heap.size + 1 + 1) 32 z3 := by
    have h := Own.new ((w.alloc (.cells (csW x) 32)).alloc (.cells (csS s) 29)) 32 z3
    rwa [World.size_alloc, World.size_alloc] at h
  have G0 : Grew w (((w.alloc (.cells (csW x) 32)).alloc (.cells (csS s) 29)).alloc (.cells z3 32)) := (((Grew.refl w).alloc _).alloc _).alloc _
  obtain ⟨hok, hrg, hac, e0, e1⟩ := plE_ok h
  have h0 := Lib.hid (show wokB x = true from decide_eq_true hok)
  have h1 := Lib.hid (show rgtB s = true from decide_eq_true hrg)
  have h2 := Lib.hid (show accB a b = true from decide_eq_true hac)
  have HS := Lib.hid hs
  have HK := beqF hk
  obtain ⟨a0, a1, a2⟩ := hac
  have hwr : IntKind.i64.wrap (b - a) = b - a := IntWalk.i64_in _ (by omega)
  obtain ⟨q, hq⟩ : ∃ q, firF (b - a) = q := ⟨_, rfl⟩
  obtain ⟨P, hP⟩ : ∃ P, prF s q = P := ⟨_, rfl⟩
  obtain ⟨K, hK⟩ : ∃ K, kpL e P = K := ⟨_, rfl⟩
  have hPl : P.length ≤ 100 := hP ▸ prF_len s q (by have := fir_pos (b - a); omega)
  have HQ := Lib.hid hq
  have HP := Lib.hid hP
  have HKK := Lib.hid hK
  have HL := Lib.hid hPl
  rw [hq, hP, hK]
  clear h hs hk hok hrg hq hP hK hPl
  go_enter Tryd.func10, Tryd.ntmps10
  go_wp2_with fail
  with_reducible refine (qcheck_v x _ h0.out).mono ?_
  rintro e_w1 w1 ⟨rfl, g1⟩
  replace X := X.grew g1
  replace S := S.grew g1
  replace R := R.grew g1
  replace G0 := G0.trans g1
  clear g1
  obtain ⟨p0, p1, p2, p3, p4, p5⟩ := S.six
  go_wp2_with fail
  with_reducible refine (rRight_v s _ h1.out).mono ?_
  rintro e_w2 w2 ⟨rfl, g1⟩
  replace X := X.grew g1
  replace S := S.grew g1
  replace R := R.grew g1
  replace G0 := G0.trans g1
  clear g1
  clear p0 p1 p2 p3 p4 p5
  go_wp2_with fail
  with_reducible refine (rAccess_v a b _ h2.out).mono ?_
  rintro e_w3 w3 ⟨rfl, rfl⟩
  obtain ⟨p0, p1, p2, p3, p4, p5⟩ := S.six
  go_wp2_with fail
  with_reducible refine (rsure_v s _ HS.out).mono ?_
  rintro e_w4 w4 ⟨rfl, g1⟩
  replace X := X.grew g1
  replace S := S.grew g1
  replace R := R.grew g1
  replace G0 := G0.trans g1
  clear g1
  clear p0 p1 p2 p3 p4 p5
  have hsx : w.heap.size + 1 + 1 < w4.heap.size := R.lt
  obtain ⟨p0, p1, p2, p3, p4, p5⟩ := S.six
  go_upto_region 8 with fail
  clear p0 p1 p2 p3 p4 p5 X
  replace S := S.drew
  replace R := R.drew
  replace G0 := G0.drew
  obtain ⟨sx, hsx2⟩ : ∃ sx, w.heap.size + 1 = sx := ⟨_, rfl⟩
  rw [hsx2] at S R hsx
  rw [hsx2]
  have lw : w.heap.size ≤ sx + 1 := by omega
  have lw2 : w.heap.size ≤ w4.drew.heap.size := by show w.heap.size ≤ w4.heap.size; omega
  clear hsx2
  obtain ⟨p0, p1, p2, p3, p4, p5⟩ := S.six
  obtain ⟨r0, r1, r2, r3, r4, r5⟩ := R.three
  have ne1 : sx + 1 ≠ sx := by omega
  have l_S := S.lt
  have l_R := R.lt
  go_region_held3 (fun w' => (w'.cell? ⟨sx, 0, none⟩ = some (.int .i64 s.k) ∧ w'.cell? ⟨sx, 1, none⟩ = some (.int .i64 s.a) ∧ w'.cell? ⟨sx, 2, none⟩ = some (.int .i64 s.b) ∧ w'.cell? ⟨sx, 3, none⟩ = some (.int .i64 s.d) ∧ w'.cell? ⟨sx, 4, none⟩ = some (.int .i64 s.h) ∧ w'.cell? ⟨sx, 5, none⟩ = some (.int .i64 s.t)))
    (refine ⟨?_, ?_, ?_, ?_, ?_, ?_⟩ <;> (repeat (first | with_reducible assumption | with_reducible refine far_drew ?_ | with_reducible refine far_cell ne1 ?_)))
    (first
      | (go_at_call 17; (with_reducible refine (qfirst_v _ _ HQ.out).mono ?_); rintro e_w5 w5 ⟨rfl, rfl⟩)
      | (go_at_call 23; (with_reducible refine (rpredict_q s q _ HP.out).mono ?_); rintro e_w6 w6 ⟨vp, rfl, RP, g3⟩
         replace S := S.grew g3
         replace R := R.grew g3
         replace G0 := G0.trans g3
         have RP1 := Lib.hid RP
         clear RP g3 p0 p1 p2 p3 p4 p5 r0 r1 r2 r3 r4 r5
         obtain ⟨p0, p1, p2, p3, p4, p5⟩ := S.six
         obtain ⟨r0, r1, r2, r3, r4, r5⟩ := R.three)
      | (go_at_call 34; (with_reducible refine (qkept_q vp e _ RP1.out (by have := HL.out; omega) HKK.out).mono ?_); rintro e_w7 w7 ⟨u, rfl, RU, g3⟩
         have lw3 := G0.size
         have RU1 := Lib.hid (RU.wider (C := sx + 2) (by have := R.lt; omega))
         replace S := S.grew g3
         replace R := R.grew g3
         replace G0 := G0.trans g3
         clear RU g3 RP1 p0 p1 p2 p3 p4 p5 r0 r1 r2 r3 r4 r5
         obtain ⟨p0, p1, p2, p3, p4, p5⟩ := S.six
         obtain ⟨r0, r1, r2, r3, r4, r5⟩ := R.three))
  go_wp2
  generalize hw : World.setCell _ _ _ = wz
  have RR := R.store3 hw
  have gB := G0.far3 hw (by omega)
  obtain ⟨u0, u1, u2, u3, u4, u5⟩ := RR.three
  refine bodyPost_ret (v := .tuple #[wnV zW, u, .int .i64 0]) (by simp [results, Tryd.results10, go_sem, u0, u1, u2, zW]) rfl ⟨_, rfl, (RU1.out.far3 hw (by omega)).wider (by omega), gB⟩
set_option maxRecDepth 100000 in
set_option maxHeartbeats 4000000 in
theorem qplan_near (x : Wn) (s : Str) (a b e : Int) (w : World) (h : plE x s a b e = 0) (hs : sureB s = true) (hk : s.k = 2) (ha : askB x a b = false) (hne : nearB x a b = true) : Calls Tryd.prog 10 #[wnV x, strV s, .int .i64 a, .int .i64 b, .int .i64 e] w (RetPl x [] 0 w) := by
  have X : Own (((w.alloc (.cells (csW x) 32)).alloc (.cells (csS s) 29)).alloc (.cells z3 32)) w.heap.size 32 (csW x) := ((Own.new w _ _).alloc _).alloc _
  have S : Own (((w.alloc (.cells (csW x) 32)).alloc (.cells (csS s) 29)).alloc (.cells z3 32)) (w.heap.size + 1) 29 (csS s) := (Own.new2 w _ _ _).alloc _
  have R : Own (((w.alloc (.cells (csW x) 32)).alloc (.cells (csS s) 29)).alloc (.cells z3 32)) (w.heap.size + 1 + 1) 32 z3 := by
    have h := Own.new ((w.alloc (.cells (csW x) 32)).alloc (.cells (csS s) 29)) 32 z3
    rwa [World.size_alloc, World.size_alloc] at h
  have G0 : Grew w (((w.alloc (.cells (csW x) 32)).alloc (.cells (csS s) 29)).alloc (.cells z3 32)) := (((Grew.refl w).alloc _).alloc _).alloc _
  obtain ⟨hok, hrg, hac, e0, e1⟩ := plE_ok h
  have h0 := Lib.hid (show wokB x = true from decide_eq_true hok)
  have h1 := Lib.hid (show rgtB s = true from decide_eq_true hrg)
  have h2 := Lib.hid (show accB a b = true from decide_eq_true hac)
  have HS := Lib.hid hs
  have HK := beqT hk
  obtain ⟨a0, a1, a2⟩ := id hac
  have hwr : IntKind.i64.wrap (b - a) = b - a := IntWalk.i64_in _ (by omega)
  have hb : 0 ≤ x.s + x.n ∧ x.s + x.n ≤ 263 ∧ 0 ≤ x.n ∧ x.n ≤ 8 ∧ 0 ≤ x.s ∧ x.s ≤ 255 := by have h := hok; unfold WokP ZerP at h; omega
  obtain ⟨b0, b1, b2, b3, b4, b5⟩ := hb
  obtain ⟨q, hq⟩ : ∃ q, firF (b - a) = q := ⟨_, rfl⟩
  have HQ := Lib.hid hq
  obtain ⟨mv, hmv⟩ : ∃ mv, mrkF x = mv := ⟨_, rfl⟩
  obtain ⟨mb, hmb⟩ : ∃ mb, mrkB x = mb := ⟨_, rfl⟩
  have HA := Lib.hid (ask_dec (a := a) (b := b) hok)
  rw [hmv, hmb] at HA
  have HMV := Lib.hid hmv
  have HMB := Lib.hid hmb
  have HZ := Lib.hid (ok_cases hok)
  have HOK := Lib.hid hok
  have HAC := Lib.hid hac
  clear h hs hk hok hrg hq hmv hmb hac
  go_enter Tryd.func10, Tryd.ntmps10
  go_wp2_with fail
  with_reducible refine (qcheck_v x _ h0.out).mono ?_
  rintro e_w1 w1 ⟨rfl, g1⟩
  replace X := X.grew g1
  replace S := S.grew g1
  replace R := R.grew g1
  replace G0 := G0.trans g1
  clear g1
  obtain ⟨p0, p1, p2, p3, p4, p5⟩ := S.six
  go_wp2_with fail
  with_reducible refine (rRight_v s _ h1.out).mono ?_
  rintro e_w2 w2 ⟨rfl, g1⟩
  replace X := X.grew g1
  replace S := S.grew g1
  replace R := R.grew g1
  replace G0 := G0.trans g1
  clear g1
  clear p0 p1 p2 p3 p4 p5
  go_wp2_with fail
  with_reducible refine (rAccess_v a b _ h2.out).mono ?_
  rintro e_w3 w3 ⟨rfl, rfl⟩
  obtain ⟨p0, p1, p2, p3, p4, p5⟩ := S.six
  go_wp2_with fail
  with_reducible refine (rsure_v s _ HS.out).mono ?_
  rintro e_w4 w4 ⟨rfl, g1⟩
  replace X := X.grew g1
  replace S := S.grew g1
  replace R := R.grew g1
  replace G0 := G0.trans g1
  clear g1
  clear p0 p1 p2 p3 p4 p5
  obtain ⟨p0, p1, p2, p3, p4, p5⟩ := S.six
  go_wp2_with fail
  with_reducible refine (qfirst_v _ _ HQ.out).mono ?_
  rintro e_w5 w5 ⟨rfl, rfl⟩
  have hsx4 : w.heap.size + 1 + 1 < w4.heap.size := R.lt
  replace X := X.alloc (.cells #[.int .i64 b, .int .i64 q, .int .i64 0] 32)
  replace R := R.alloc (.cells #[.int .i64 b, .int .i64 q, .int .i64 0] 32)
  replace G0 := G0.alloc (.cells #[.int .i64 b, .int .i64 q, .int .i64 0] 32)
  have N := Own.new w4 32 #[.int .i64 b, .int .i64 q, .int .i64 0]
  have hNR : w.heap.size + 1 + 1 < w4.heap.size := by exact hsx4
  clear S p0 p1 p2 p3 p4 p5
  obtain ⟨q0, q1, q2, q3, q4, q5⟩ := X.three
  go_wp2_with fail
  with_reducible refine (qmarker_v x _ HMV.out HMB.out).mono ?_
  rintro e_w6 w6 ⟨rfl, g1⟩
  replace X := X.grew g1
  replace R := R.grew g1
  replace N := N.grew g1
  replace G0 := G0.trans g1
  clear g1 q0 q1 q2 q3 q4 q5 hsx4
  obtain ⟨sn, hsn⟩ : ∃ sn, w4.heap.size = sn := ⟨_, rfl⟩
  rw [hsn] at N hNR
  rw [hsn]
  clear hsn w4
  obtain ⟨sx, hsx⟩ : ∃ sx, w.heap.size = sx := ⟨_, rfl⟩
  have HSX := Lib.hid hsx
  rw [hsx] at X R hNR
  rw [hsx]
  clear hsx
  obtain ⟨q0, q1, q2, q3, q4, q5⟩ := X.three
  go_upto_region 13 with fail
  go_cut [74] from 75 to 100 (fun v wx => v = .bool (askB x a b) ∧ wx = w6)
  case first =>
    rcases HZ.out with ⟨e_s, e_n, e_y⟩ | ⟨d_n, l_n⟩
    · have E := Lib.hid (ask_zero (a := a) (b := b) ⟨e_s, e_n, e_y⟩ HAC.out)
      go_wp2_with fail
      go_meet
      exact ⟨by rw [E.out], rfl⟩
    · cases mb
      · have HA2 := Lib.hid (show askB x a b = decide (a ≤ x.s + x.n - 1 ∧ x.s + x.n - 1 < b) from by rw [HA.out]; exact decide_eq_decide.2 (by simp))
        by_cases k4 : a ≤ x.s + x.n - 1
        all_goals by_cases k5 : x.s + x.n - 1 < b
        all_goals go_wp2_with fail
        all_goals go_meet
        all_goals exact ⟨by rw [HA2.out]; first | exact congrArg Value.bool (decide_eq_true (by omega)).symm | exact congrArg Value.bool (decide_eq_false (by omega)).symm, rfl⟩
      · have HA2 := Lib.hid (show askB x a b = decide ((a ≤ mv ∧ mv < b) ∨ (a ≤ x.s + x.n - 1 ∧ x.s + x.n - 1 < b)) from by rw [HA.out]; exact decide_eq_decide.2 (by simp))
        by_cases k2 : a ≤ mv
        all_goals by_cases k3 : mv < b
        all_goals by_cases k4 : a ≤ x.s + x.n - 1
        all_goals by_cases k5 : x.s + x.n - 1 < b
        all_goals go_wp2_with fail
        all_goals go_meet
        all_goals exact ⟨by rw [HA2.out]; first | exact congrArg Value.bool (decide_eq_true (by omega)).symm | exact congrArg Value.bool (decide_eq_false (by omega)).symm, rfl⟩
  case rest =>
  obtain ⟨rfl, rfl⟩ := hcut
  rw [ha]
  go_upto_region 15 with fail
  go_cut [112] from 113 to 133 (fun v wx => v = .bool (!nearB x a b) ∧ wx = wc)
  case first =>
    rcases HZ.out with ⟨e_s, e_n, e_y⟩ | ⟨d_n, l_n⟩
    · have E := Lib.hid (near_zero (a := a) (b := b) ⟨e_s, e_n, e_y⟩)
      go_wp2_with fail
      go_meet
      exact ⟨by rw [E.out]; rfl, rfl⟩
    · have HN2 := Lib.hid (show (!nearB x a b) = decide (b ≤ x.s - x.n ∨ x.s + x.n < a) from by rw [nearB, ← decide_not]; exact decide_eq_decide.2 (by unfold NearP; omega))
      by_cases k4 : b ≤ x.s - x.n
      all_goals by_cases k5 : x.s + x.n < a
      all_goals (try (exfalso; omega))
      all_goals go_wp2_with fail
      all_goals go_meet
      all_goals exact ⟨by rw [HN2.out]; first | exact congrArg Value.bool (decide_eq_true (by omega)).symm | exact congrArg Value.bool (decide_eq_false (by omega)).symm, rfl⟩
  case rest =>
  obtain ⟨rfl, rfl⟩ := hcut
  rw [hne]
  obtain ⟨q0, q1, q2, q3, q4, q5⟩ := X.three
  obtain ⟨r0, r1, r2, r3, r4, r5⟩ := R.three
  go_wp2
  generalize hw : World.setCell _ _ _ = wz
  have RR := R.store3 hw
  have gB := G0.far3 hw (by have := HSX.out; omega)
  obtain ⟨u0, u1, u2, u3, u4, u5⟩ := RR.three
  refine bodyPost_ret (v := .tuple #[wnV x, .slice none 0 0, .int .i64 0]) (by simp [results, Tryd.results10, go_sem, u0, u1, u2, zW]) rfl ⟨_, rfl, RowE.nil _ _, gB⟩
set_option maxRecDepth 100000 in
set_option maxHeartbeats 4000000 in
theorem qplan_far (x : Wn) (s : Str) (a b e : Int) (w : World) (h : plE x s a b e = 0) (hs : sureB s = true) (hk : s.k = 2) (ha : askB x a b = false) (hne : nearB x a b = false) : Calls Tryd.prog 10 #[wnV x, strV s, .int .i64 a, .int .i64 b, .int .i64 e] w (RetPl (pl2W x a b e) (pl2L x a b e) 0 w) := by
  have X : Own (((w.alloc (.cells (csW x) 32)).alloc (.cells (csS s) 29)).alloc (.cells z3 32)) w.heap.size 32 (csW x) := ((Own.new w _ _).alloc _).alloc _
  have S : Own (((w.alloc (.cells (csW x) 32)).alloc (.cells (csS s) 29)).alloc (.cells z3 32)) (w.heap.size + 1) 29 (csS s) := (Own.new2 w _ _ _).alloc _
  have R : Own (((w.alloc (.cells (csW x) 32)).alloc (.cells (csS s) 29)).alloc (.cells z3 32)) (w.heap.size + 1 + 1) 32 z3 := by
    have h := Own.new ((w.alloc (.cells (csW x) 32)).alloc (.cells (csS s) 29)) 32 z3
    rwa [World.size_alloc, World.size_alloc] at h
  have G0 : Grew w (((w.alloc (.cells (csW x) 32)).alloc (.cells (csS s) 29)).alloc (.cells z3 32)) := (((Grew.refl w).alloc _).alloc _).alloc _
  obtain ⟨hok, hrg, hac, e0, e1⟩ := plE_ok h
  have h0 := Lib.hid (show wokB x = true from decide_eq_true hok)
  have h1 := Lib.hid (show rgtB s = true from decide_eq_true hrg)
  have h2 := Lib.hid (show accB a b = true from decide_eq_true hac)
  have HS := Lib.hid hs
  have hz1 := nx_new (show nxB x a b = true from by unfold nxB; rw [ha, hne]; rfl)
  have hz2 := nx_start hok hac (show nxB x a b = true from by unfold nxB; rw [ha, hne]; rfl)
  obtain ⟨z, hz⟩ : ∃ z, nxW x a b = z := ⟨_, rfl⟩
  obtain ⟨P, hP⟩ : ∃ P, pgsL z = P := ⟨_, rfl⟩
  obtain ⟨K, hK⟩ : ∃ K, kpL e P = K := ⟨_, rfl⟩
  have hKz : K = [] ↔ e ≤ z.s := by rw [← Int.not_lt, ← hK, ← hP, ← hz]; exact pl2_nil (show nxB x a b = true from by unfold nxB; rw [ha, hne]; rfl)
  rw [hz] at hz1 hz2
  have hPl : P.length ≤ 100 := by rw [← hP, pgsL, runL_len]; omega
  have HB := Lib.hid (show newB x a b e = decide (z.s < e) from by unfold newB nxB; rw [ha, hne, hz]; rfl)
  have HP2 := Lib.hid hP
  have HK2 := Lib.hid hK
  have HKZ := Lib.hid hKz
  have HL := Lib.hid hPl
  obtain ⟨z1, z2, z3'⟩ := hz1
  obtain ⟨z4, z5⟩ := hz2
  have HZF := Lib.hid (show z = frmW b (firF (b - a)) from hz.symm.trans (by unfold nxW; rw [ha, hne]))
  have HNX := Lib.hid hz
  clear hP hK hKz hPl hz
  have HK := beqT hk
  obtain ⟨a0, a1, a2⟩ := id hac
  have hwr : IntKind.i64.wrap (b - a) = b - a := IntWalk.i64_in _ (by omega)
  have hb : 0 ≤ x.s + x.n ∧ x.s + x.n ≤ 263 ∧ 0 ≤ x.n ∧ x.n ≤ 8 ∧ 0 ≤ x.s ∧ x.s ≤ 255 := by have h := hok; unfold WokP ZerP at h; omega
  obtain ⟨b0, b1, b2, b3, b4, b5⟩ := hb
  obtain ⟨q, hq⟩ : ∃ q, firF (b - a) = q := ⟨_, rfl⟩
  have HQ := Lib.hid hq
  rw [hq] at HZF
  obtain ⟨mv, hmv⟩ : ∃ mv, mrkF x = mv := ⟨_, rfl⟩
  obtain ⟨mb, hmb⟩ : ∃ mb, mrkB x = mb := ⟨_, rfl⟩
  have HA := Lib.hid (ask_dec (a := a) (b := b) hok)
  rw [hmv, hmb] at HA
  have HMV := Lib.hid hmv
  have HMB := Lib.hid hmb
  have HZ := Lib.hid (ok_cases hok)
  have HOK := Lib.hid hok
  have HAC := Lib.hid hac
  clear h hs hk hok hrg hq hmv hmb hac
  go_enter Tryd.func10, Tryd.ntmps10
  go_wp2_with fail
  with_reducible refine (qcheck_v x _ h0.out).mono ?_
  rintro e_w1 w1 ⟨rfl, g1⟩
  replace X := X.grew g1
  replace S := S.grew g1
  replace R := R.grew g1
  replace G0 := G0.trans g1
  clear g1
  obtain ⟨p0, p1, p2, p3, p4, p5⟩ := S.six
  go_wp2_with fail
  with_reducible refine (rRight_v s _ h1.out).mono ?_
  rintro e_w2 w2 ⟨rfl, g1⟩
  replace X := X.grew g1
  replace S := S.grew g1
  replace R := R.grew g1
  replace G0 := G0.trans g1
  clear g1
  clear p0 p1 p2 p3 p4 p5
  go_wp2_with fail
  with_reducible refine (rAccess_v a b _ h2.out).mono ?_
  rintro e_w3 w3 ⟨rfl, rfl⟩
  obtain ⟨p0, p1, p2, p3, p4, p5⟩ := S.six
  go_wp2_with fail
  with_reducible refine (rsure_v s _ HS.out).mono ?_
  rintro e_w4 w4 ⟨rfl, g1⟩
  replace X := X.grew g1
  replace S := S.grew g1
  replace R := R.grew g1
  replace G0 := G0.trans g1
  clear g1
  clear p0 p1 p2 p3 p4 p5
  obtain ⟨p0, p1, p2, p3, p4, p5⟩ := S.six
  go_wp2_with fail
  with_reducible refine (qfirst_v _ _ HQ.out).mono ?_
  rintro e_w5 w5 ⟨rfl, rfl⟩
  have hsx4 : w.heap.size + 1 + 1 < w4.heap.size := R.lt
  replace X := X.alloc (.cells #[.int .i64 b, .int .i64 q, .int .i64 0] 32)
  replace R := R.alloc (.cells #[.int .i64 b, .int .i64 q, .int .i64 0] 32)
  replace G0 := G0.alloc (.cells #[.int .i64 b, .int .i64 q, .int .i64 0] 32)
  have N := Own.new w4 32 #[.int .i64 b, .int .i64 q, .int .i64 0]
  have hNR : w.heap.size + 1 + 1 < w4.heap.size := by exact hsx4
  clear S p0 p1 p2 p3 p4 p5
  obtain ⟨q0, q1, q2, q3, q4, q5⟩ := X.three
  go_wp2_with fail
  with_reducible refine (qmarker_v x _ HMV.out HMB.out).mono ?_
  rintro e_w6 w6 ⟨rfl, g1⟩
  replace X := X.grew g1
  replace R := R.grew g1
  replace N := N.grew g1
  replace G0 := G0.trans g1
  clear g1 q0 q1 q2 q3 q4 q5 hsx4
  obtain ⟨sn, hsn⟩ : ∃ sn, w4.heap.size = sn := ⟨_, rfl⟩
  rw [hsn] at N hNR
  rw [hsn]
  clear hsn w4
  obtain ⟨sx, hsx⟩ : ∃ sx, w.heap.size = sx := ⟨_, rfl⟩
  have HSX := Lib.hid hsx
  rw [hsx] at X R hNR
  rw [hsx]
  clear hsx
  obtain ⟨q0, q1, q2, q3, q4, q5⟩ := X.three
  go_upto_region 13 with fail
  go_cut [74] from 75 to 100 (fun v wx => v = .bool (askB x a b) ∧ wx = w6)
  case first =>
    rcases HZ.out with ⟨e_s, e_n, e_y⟩ | ⟨d_n, l_n⟩
    · have E := Lib.hid (ask_zero (a := a) (b := b) ⟨e_s, e_n, e_y⟩ HAC.out)
      go_wp2_with fail
      go_meet
      exact ⟨by rw [E.out], rfl⟩
    · cases mb
      · have HA2 := Lib.hid (show askB x a b = decide (a ≤ x.s + x.n - 1 ∧ x.s + x.n - 1 < b) from by rw [HA.out]; exact decide_eq_decide.2 (by simp))
        by_cases k4 : a ≤ x.s + x.n - 1
        all_goals by_cases k5 : x.s + x.n - 1 < b
        all_goals go_wp2_with fail
        all_goals go_meet
        all_goals exact ⟨by rw [HA2.out]; first | exact congrArg Value.bool (decide_eq_true (by omega)).symm | exact congrArg Value.bool (decide_eq_false (by omega)).symm, rfl⟩
      · have HA2 := Lib.hid (show askB x a b = decide ((a ≤ mv ∧ mv < b) ∨ (a ≤ x.s + x.n - 1 ∧ x.s + x.n - 1 < b)) from by rw [HA.out]; exact decide_eq_decide.2 (by simp))
        by_cases k2 : a ≤ mv
        all_goals by_cases k3 : mv < b
        all_goals by_cases k4 : a ≤ x.s + x.n - 1
        all_goals by_cases k5 : x.s + x.n - 1 < b
        all_goals go_wp2_with fail
        all_goals go_meet
        all_goals exact ⟨by rw [HA2.out]; first | exact congrArg Value.bool (decide_eq_true (by omega)).symm | exact congrArg Value.bool (decide_eq_false (by omega)).symm, rfl⟩
  case rest =>
  obtain ⟨rfl, rfl⟩ := hcut
  rw [ha]
  go_upto_region 15 with fail
  go_cut [112] from 113 to 133 (fun v wx => v = .bool (!nearB x a b) ∧ wx = wc)
  case first =>
    rcases HZ.out with ⟨e_s, e_n, e_y⟩ | ⟨d_n, l_n⟩
    · have E := Lib.hid (near_zero (a := a) (b := b) ⟨e_s, e_n, e_y⟩)
      go_wp2_with fail
      go_meet
      exact ⟨by rw [E.out]; rfl, rfl⟩
    · have HN2 := Lib.hid (show (!nearB x a b) = decide (b ≤ x.s - x.n ∨ x.s + x.n < a) from by rw [nearB, ← decide_not]; exact decide_eq_decide.2 (by unfold NearP; omega))
      by_cases k4 : b ≤ x.s - x.n
      all_goals by_cases k5 : x.s + x.n < a
      all_goals (try (exfalso; omega))
      all_goals go_wp2_with fail
      all_goals go_meet
      all_goals exact ⟨by rw [HN2.out]; first | exact congrArg Value.bool (decide_eq_true (by omega)).symm | exact congrArg Value.bool (decide_eq_false (by omega)).symm, rfl⟩
  case rest =>
  obtain ⟨rfl, rfl⟩ := hcut
  rw [hne]
  obtain ⟨n0, n1, n2, n3, n4, n5⟩ := N.three
  obtain rfl : z = frmW b q := HZF.out
  simp only [frmW] at z1 z2 z4 z5
  go_wp2_with fail
  have N2 : Own (wc.setCell ⟨sn, 2, none⟩ (.int .i64 q)) sn 32 (csW (frmW b q)) := N.set 2 (.int .i64 q)
  replace X := X.far (p := ⟨sn, 2, none⟩) (show sx ≠ sn by omega) (.int .i64 q)
  replace R := R.far (p := ⟨sn, 2, none⟩) (show sx + 1 + 1 ≠ sn by omega) (.int .i64 q)
  replace G0 := G0.set (p := ⟨sn, 2, none⟩) (show w.heap.size ≤ sn by have := HSX.out; omega) (.int .i64 q)
  clear n0 n1 n2 n3 n4 n5 q0 q1 q2 q3 q4 q5 N
  generalize World.setCell wc _ _ = wt at *
  with_reducible refine (qpages_m b q _ (by omega) (by omega) (by omega) (by omega) HP2.out).mono ?_
  rintro e_w7 w7 ⟨vp, rfl, RP, g1⟩
  have k1 : Grew wt w7 := (by first | exact g1 | exact (Grew.refl wt).drew.trans g1)
  replace X := X.grew k1
  replace R := R.grew k1
  replace N2 := N2.grew k1
  replace G0 := G0.trans k1
  have RP1 := Lib.hid RP
  clear RP g1 k1
  go_wp2_with fail
  with_reducible refine (qkept_q vp e _ RP1.out (by have := HL.out; omega) HK2.out).mono ?_
  rintro e_w8 w8 ⟨vk, rfl, RK, g1⟩
  have hB8 : sn < w7.heap.size := N2.lt
  replace X := X.grew g1
  replace R := R.grew g1
  replace N2 := N2.grew g1
  replace G0 := G0.trans g1
  have RK1 := Lib.hid RK
  obtain ⟨ak, ck, rfl⟩ := RK.len
  clear RK g1 RP1
  obtain ⟨q0, q1, q2, q3, q4, q5⟩ := X.three
  obtain ⟨r0, r1, r2, r3, r4, r5⟩ := R.three
  obtain ⟨n0, n1, n2, n3, n4, n5⟩ := N2.three
  simp only [frmW] at n0 n1 n2
  by_cases hze : (frmW b q).s < e
  · have hkn : ¬K = [] := fun k => by have := HKZ.out.1 k; omega
    have hkl : K.length ≠ 0 := fun k => hkn (List.length_eq_zero_iff.1 k)
    have d : ((K.length : Int) == 0) = false := beqF (by omega)
    have HW3 := Lib.hid (show pl2W x a b e = frmW b q from by unfold pl2W; rw [HB.out, decide_eq_true hze]; exact HNX.out)
    have HL3 := Lib.hid (show pl2L x a b e = K from by unfold pl2L; rw [HB.out, decide_eq_true hze]; show kpL e (pgsL (nxW x a b)) = K; rw [HNX.out, HP2.out, HK2.out])
    clear hkn hkl hze
    go_wp2
    generalize hw : World.setCell _ _ _ = wz
    have RR := R.store3 hw
    have gB := G0.far3 hw (by have := HSX.out; omega)
    obtain ⟨u0, u1, u2, u3, u4, u5⟩ := RR.three
    refine bodyPost_ret (v := .tuple #[wnV (frmW b q), .slice ak K.length ck, .int .i64 0]) (by simp [results, Tryd.results10, go_sem, u0, u1, u2, frmW]) rfl ⟨_, by rw [HW3.out], by rw [HL3.out]; exact (RK1.out.far3 hw (by omega)).wider (by have := HSX.out; omega), gB⟩
  · have hkn : K = [] := HKZ.out.2 (by omega)
    subst hkn
    have HW3 := Lib.hid (show pl2W x a b e = x from by unfold pl2W; rw [HB.out, decide_eq_false hze])
    have HL3 := Lib.hid (show pl2L x a b e = [] from by unfold pl2L; rw [HB.out, decide_eq_false hze])
    clear hze
    go_wp2
    generalize hw : World.setCell _ _ _ = wz
    have RR := R.store3 hw
    have gB := G0.far3 hw (by have := HSX.out; omega)
    obtain ⟨u0, u1, u2, u3, u4, u5⟩ := RR.three
    refine bodyPost_ret (v := .tuple #[wnV x, .slice none 0 0, .int .i64 0]) (by simp [results, Tryd.results10, go_sem, u0, u1, u2]) rfl ⟨_, by rw [HW3.out], by rw [HL3.out]; exact RowE.nil _ _, gB⟩
set_option maxRecDepth 100000 in
set_option maxHeartbeats 16000000 in
theorem qplan_ask (x : Wn) (s : Str) (a b e : Int) (w : World) {M : Int} (h : plE x s a b e = 0) (hs : sureB s = true) (hk : s.k = 2) (ha : askB x a b = true) (hM : (M = x.s + x.n ∧ b ≤ x.s + x.n) ∨ (M = b ∧ x.s + x.n < b)) : Calls Tryd.prog 10 #[wnV x, strV s, .int .i64 a, .int .i64 b, .int .i64 e] w (RetPl (pl2W x a b e) (pl2L x a b e) 0 w) := by
  have X : Own (((w.alloc (.cells (csW x) 32)).alloc (.cells (csS s) 29)).alloc (.cells z3 32)) w.heap.size 32 (csW x) := ((Own.new w _ _).alloc _).alloc _
  have S : Own (((w.alloc (.cells (csW x) 32)).alloc (.cells (csS s) 29)).alloc (.cells z3 32)) (w.heap.size + 1) 29 (csS s) := (Own.new2 w _ _ _).alloc _
  have R : Own (((w.alloc (.cells (csW x) 32)).alloc (.cells (csS s) 29)).alloc (.cells z3 32)) (w.heap.size + 1 + 1) 32 z3 := by
    have h := Own.new ((w.alloc (.cells (csW x) 32)).alloc (.cells (csS s) 29)) 32 z3
    rwa [World.size_alloc, World.size_alloc] at h
  have G0 : Grew w (((w.alloc (.cells (csW x) 32)).alloc (.cells (csS s) 29)).alloc (.cells z3 32)) := (((Grew.refl w).alloc _).alloc _).alloc _
  obtain ⟨hok, hrg, hac, e0, e1⟩ := plE_ok h
  have h0 := Lib.hid (show wokB x = true from decide_eq_true hok)
  have h1 := Lib.hid (show rgtB s = true from decide_eq_true hrg)
  have h2 := Lib.hid (show accB a b = true from decide_eq_true hac)
  have HS := Lib.hid hs
  have hz1 := nx_new (show nxB x a b = true from by unfold nxB; rw [ha]; rfl)
  have hz2 := nx_start hok hac (show nxB x a b = true from by unfold nxB; rw [ha]; rfl)
  obtain ⟨z, hz⟩ : ∃ z, nxW x a b = z := ⟨_, rfl⟩
  obtain ⟨P, hP⟩ : ∃ P, pgsL z = P := ⟨_, rfl⟩
  obtain ⟨K, hK⟩ : ∃ K, kpL e P = K := ⟨_, rfl⟩
  have hKz : K = [] ↔ e ≤ z.s := by rw [← Int.not_lt, ← hK, ← hP, ← hz]; exact pl2_nil (show nxB x a b = true from by unfold nxB; rw [ha]; rfl)
  rw [hz] at hz1 hz2
  have hPl : P.length ≤ 100 := by rw [← hP, pgsL, runL_len]; omega
  have HB := Lib.hid (show newB x a b e = decide (z.s < e) from by unfold newB nxB; rw [ha, hz]; rfl)
  have HP2 := Lib.hid hP
  have HK2 := Lib.hid hK
  have HKZ := Lib.hid hKz
  have HL := Lib.hid hPl
  obtain ⟨z1, z2, z3'⟩ := hz1
  obtain ⟨z4, z5⟩ := hz2
  have HZF := Lib.hid (show z = frmW M (groF x.n) from hz.symm.trans (by unfold nxW; rw [ha]; show frmW (max (x.s + x.n) b) (groF x.n) = _; rw [show max (x.s + x.n) b = M from by omega]))
  have HNX := Lib.hid hz
  clear hP hK hKz hPl hz
  have HK := beqT hk
  obtain ⟨a0, a1, a2⟩ := id hac
  have hwr : IntKind.i64.wrap (b - a) = b - a := IntWalk.i64_in _ (by omega)
  have hb : 0 ≤ x.s + x.n ∧ x.s + x.n ≤ 263 ∧ 0 ≤ x.n ∧ x.n ≤ 8 ∧ 0 ≤ x.s ∧ x.s ≤ 255 := by have h := hok; unfold WokP ZerP at h; omega
  obtain ⟨b0, b1, b2, b3, b4, b5⟩ := hb
  obtain ⟨q, hq⟩ : ∃ q, firF (b - a) = q := ⟨_, rfl⟩
  have HQ := Lib.hid hq
  obtain ⟨g, hg⟩ : ∃ g, groF x.n = g := ⟨_, rfl⟩
  have HG := Lib.hid hg
  rw [hg] at HZF
  clear hg
  obtain ⟨mv, hmv⟩ : ∃ mv, mrkF x = mv := ⟨_, rfl⟩
  obtain ⟨mb, hmb⟩ : ∃ mb, mrkB x = mb := ⟨_, rfl⟩
  have HA := Lib.hid (ask_dec (a := a) (b := b) hok)
  rw [hmv, hmb] at HA
  have HMV := Lib.hid hmv
  have HMB := Lib.hid hmb
  have HZ := Lib.hid (ok_cases hok)
  have HOK := Lib.hid hok
  have HAC := Lib.hid hac
  clear h hs hk hok hrg hq hmv hmb hac
  go_enter Tryd.func10, Tryd.ntmps10
  go_wp2_with fail
  with_reducible refine (qcheck_v x _ h0.out).mono ?_
  rintro e_w1 w1 ⟨rfl, g1⟩
  replace X := X.grew g1
  replace S := S.grew g1
  replace R := R.grew g1
  replace G0 := G0.trans g1
  clear g1
  obtain ⟨p0, p1, p2, p3, p4, p5⟩ := S.six
  go_wp2_with fail
  with_reducible refine (rRight_v s _ h1.out).mono ?_
  rintro e_w2 w2 ⟨rfl, g1⟩
  replace X := X.grew g1
  replace S := S.grew g1
  replace R := R.grew g1
  replace G0 := G0.trans g1
  clear g1
  clear p0 p1 p2 p3 p4 p5
  go_wp2_with fail
  with_reducible refine (rAccess_v a b _ h2.out).mono ?_
  rintro e_w3 w3 ⟨rfl, rfl⟩
  obtain ⟨p0, p1, p2, p3, p4, p5⟩ := S.six
  go_wp2_with fail
  with_reducible refine (rsure_v s _ HS.out).mono ?_
  rintro e_w4 w4 ⟨rfl, g1⟩
  replace X := X.grew g1
  replace S := S.grew g1
  replace R := R.grew g1
  replace G0 := G0.trans g1
  clear g1
  clear p0 p1 p2 p3 p4 p5
  obtain ⟨p0, p1, p2, p3, p4, p5⟩ := S.six
  go_wp2_with fail
  with_reducible refine (qfirst_v _ _ HQ.out).mono ?_
  rintro e_w5 w5 ⟨rfl, rfl⟩
  have hsx4 : w.heap.size + 1 + 1 < w4.heap.size := R.lt
  replace X := X.alloc (.cells #[.int .i64 b, .int .i64 q, .int .i64 0] 32)
  replace R := R.alloc (.cells #[.int .i64 b, .int .i64 q, .int .i64 0] 32)
  replace G0 := G0.alloc (.cells #[.int .i64 b, .int .i64 q, .int .i64 0] 32)
  have N := Own.new w4 32 #[.int .i64 b, .int .i64 q, .int .i64 0]
  have hNR : w.heap.size + 1 + 1 < w4.heap.size := by exact hsx4
  clear S p0 p1 p2 p3 p4 p5
  obtain ⟨q0, q1, q2, q3, q4, q5⟩ := X.three
  go_wp2_with fail
  with_reducible refine (qmarker_v x _ HMV.out HMB.out).mono ?_
  rintro e_w6 w6 ⟨rfl, g1⟩
  replace X := X.grew g1
  replace R := R.grew g1
  replace N := N.grew g1
  replace G0 := G0.trans g1
  clear g1 q0 q1 q2 q3 q4 q5 hsx4
  obtain ⟨sn, hsn⟩ : ∃ sn, w4.heap.size = sn := ⟨_, rfl⟩
  rw [hsn] at N hNR
  rw [hsn]
  clear hsn w4
  obtain ⟨sx, hsx⟩ : ∃ sx, w.heap.size = sx := ⟨_, rfl⟩
  have HSX := Lib.hid hsx
  rw [hsx] at X R hNR
  rw [hsx]
  clear hsx
  obtain ⟨q0, q1, q2, q3, q4, q5⟩ := X.three
  go_upto_region 13 with fail
  go_cut [74] from 75 to 100 (fun v wx => v = .bool (askB x a b) ∧ wx = w6)
  case first =>
    rcases HZ.out with ⟨e_s, e_n, e_y⟩ | ⟨d_n, l_n⟩
    · have E := Lib.hid (ask_zero (a := a) (b := b) ⟨e_s, e_n, e_y⟩ HAC.out)
      go_wp2_with fail
      go_meet
      exact ⟨by rw [E.out], rfl⟩
    · cases mb
      · have HA2 := Lib.hid (show askB x a b = decide (a ≤ x.s + x.n - 1 ∧ x.s + x.n - 1 < b) from by rw [HA.out]; exact decide_eq_decide.2 (by simp))
        by_cases k4 : a ≤ x.s + x.n - 1
        all_goals by_cases k5 : x.s + x.n - 1 < b
        all_goals go_wp2_with fail
        all_goals go_meet
        all_goals exact ⟨by rw [HA2.out]; first | exact congrArg Value.bool (decide_eq_true (by omega)).symm | exact congrArg Value.bool (decide_eq_false (by omega)).symm, rfl⟩
      · have HA2 := Lib.hid (show askB x a b = decide ((a ≤ mv ∧ mv < b) ∨ (a ≤ x.s + x.n - 1 ∧ x.s + x.n - 1 < b)) from by rw [HA.out]; exact decide_eq_decide.2 (by simp))
        by_cases k2 : a ≤ mv
        all_goals by_cases k3 : mv < b
        all_goals by_cases k4 : a ≤ x.s + x.n - 1
        all_goals by_cases k5 : x.s + x.n - 1 < b
        all_goals go_wp2_with fail
        all_goals go_meet
        all_goals exact ⟨by rw [HA2.out]; first | exact congrArg Value.bool (decide_eq_true (by omega)).symm | exact congrArg Value.bool (decide_eq_false (by omega)).symm, rfl⟩
  case rest =>
  obtain ⟨rfl, rfl⟩ := hcut
  rw [ha]
  have hwsn : IntKind.i64.wrap (x.s + x.n) = x.s + x.n := IntWalk.i64_in _ (by omega)
  rcases hM with ⟨rfl, hm⟩ | ⟨hMb, hm⟩
  · go_upto_region 14 with fail
    clear q0 q1 q2 q3 q4 q5
    obtain ⟨x0, x1, x2, x3, x4, x5⟩ := X.three
    obtain ⟨m0, m1, m2, m3, m4, m5⟩ := N.three
    have XD := X.drew
    have ND := N.drew
    obtain ⟨q0, q1, q2, q3, q4, q5⟩ := XD.three
    obtain ⟨n0, n1, n2, n3, n4, n5⟩ := ND.three
    have ne1 : sn ≠ sx := by omega
    have l_X := XD.lt
    have l_N := ND.lt
    go_region_held3 (fun w' => w'.cell? ⟨sx, 0, none⟩ = some (.int .i64 x.s) ∧ w'.cell? ⟨sx, 1, none⟩ = some (.int .i64 x.n) ∧ w'.cell? ⟨sx, 2, none⟩ = some (.int .i64 x.y))
      (refine ⟨?_, ?_, ?_⟩ <;> (repeat (first | with_reducible assumption | with_reducible refine far_drew ?_ | with_reducible refine far_cell ne1 ?_)))
      (first
        | (go_at_call 19; (with_reducible refine (qgrown_v _ _ (dbl_ok b2 b3) HG.out).mono ?_); rintro e_w9 w9 ⟨rfl, rfl⟩))
    all_goals
      first | rw [if_neg (show ¬x.s + x.n < b by omega)] | skip
      go_upto_region 16 with fail
      generalize hw14 : World.setCell (World.setCell (World.setCell _ _ _) _ _) _ _ = wn
      replace X := X.far3 hw14 (show sx ≠ sn by omega)
      replace R := R.far3 hw14 (show sx + 1 + 1 ≠ sn by omega)
      replace G0 := G0.far3 hw14 (show w.heap.size ≤ sn by have := HSX.out; omega)
      replace N := N.store3 hw14
      clear q0 q1 q2 q3 q4 q5 n0 n1 n2 n3 n4 n5 m0 m1 m2 m3 m4 m5 x0 x1 x2 x3 x4 x5 hw14 l_X l_N XD ND
      obtain ⟨q0, q1, q2, q3, q4, q5⟩ := X.three
      obtain ⟨n0, n1, n2, n3, n4, n5⟩ := N.three
      obtain rfl : z = frmW (x.s + x.n) g := HZF.out
      simp only [frmW] at z1 z2 z4 z5
      go_wp2_with fail
      have N2 : Own (wn.setCell ⟨sn, 2, none⟩ (.int .i64 g)) sn 32 (csW (frmW (x.s + x.n) g)) := N.set 2 (.int .i64 g)
      replace X := X.far (p := ⟨sn, 2, none⟩) (show sx ≠ sn by omega) (.int .i64 g)
      replace R := R.far (p := ⟨sn, 2, none⟩) (show sx + 1 + 1 ≠ sn by omega) (.int .i64 g)
      replace G0 := G0.set (p := ⟨sn, 2, none⟩) (show w.heap.size ≤ sn by have := HSX.out; omega) (.int .i64 g)
      clear n0 n1 n2 n3 n4 n5 q0 q1 q2 q3 q4 q5 N
      generalize World.setCell wn _ _ = wt at *
      with_reducible refine (qpages_m (x.s + x.n) g _ (by omega) (by omega) (by omega) (by omega) HP2.out).mono ?_
      rintro e_w7 w7 ⟨vp, rfl, RP, g1⟩
      have k1 : Grew wt w7 := (by first | exact g1 | exact (Grew.refl wt).drew.trans g1)
      replace X := X.grew k1
      replace R := R.grew k1
      replace N2 := N2.grew k1
      replace G0 := G0.trans k1
      have RP1 := Lib.hid RP
      clear RP g1 k1
      go_wp2_with fail
      with_reducible refine (qkept_q vp e _ RP1.out (by have := HL.out; omega) HK2.out).mono ?_
      rintro e_w8 w8 ⟨vk, rfl, RK, g1⟩
      have hB8 : sn < w7.heap.size := N2.lt
      replace X := X.grew g1
      replace R := R.grew g1
      replace N2 := N2.grew g1
      replace G0 := G0.trans g1
      have RK1 := Lib.hid RK
      obtain ⟨ak, ck, rfl⟩ := RK.len
      clear RK g1 RP1
      obtain ⟨q0, q1, q2, q3, q4, q5⟩ := X.three
      obtain ⟨r0, r1, r2, r3, r4, r5⟩ := R.three
      obtain ⟨n0, n1, n2, n3, n4, n5⟩ := N2.three
      simp only [frmW] at n0 n1 n2
      by_cases hze : (frmW (x.s + x.n) g).s < e
      · have hkn : ¬K = [] := fun k => by have := HKZ.out.1 k; omega
        have hkl : K.length ≠ 0 := fun k => hkn (List.length_eq_zero_iff.1 k)
        have d : ((K.length : Int) == 0) = false := beqF (by omega)
        have HW3 := Lib.hid (show pl2W x a b e = frmW (x.s + x.n) g from by unfold pl2W; rw [HB.out, decide_eq_true hze]; exact HNX.out)
        have HL3 := Lib.hid (show pl2L x a b e = K from by unfold pl2L; rw [HB.out, decide_eq_true hze]; show kpL e (pgsL (nxW x a b)) = K; rw [HNX.out, HP2.out, HK2.out])
        clear hkn hkl hze
        go_wp2
        generalize hw : World.setCell _ _ _ = wz
        have RR := R.store3 hw
        have gB := G0.far3 hw (by have := HSX.out; omega)
        obtain ⟨u0, u1, u2, u3, u4, u5⟩ := RR.three
        refine bodyPost_ret (v := .tuple #[wnV (frmW (x.s + x.n) g), .slice ak K.length ck, .int .i64 0]) (by simp [results, Tryd.results10, go_sem, u0, u1, u2, frmW]) rfl ⟨_, by rw [HW3.out], by rw [HL3.out]; exact (RK1.out.far3 hw (by omega)).wider (by have := HSX.out; omega), gB⟩
      · have hkn : K = [] := HKZ.out.2 (by omega)
        subst hkn
        have HW3 := Lib.hid (show pl2W x a b e = x from by unfold pl2W; rw [HB.out, decide_eq_false hze])
        have HL3 := Lib.hid (show pl2L x a b e = [] from by unfold pl2L; rw [HB.out, decide_eq_false hze])
        clear hze
        go_wp2
        generalize hw : World.setCell _ _ _ = wz
        have RR := R.store3 hw
        have gB := G0.far3 hw (by have := HSX.out; omega)
        obtain ⟨u0, u1, u2, u3, u4, u5⟩ := RR.three
        refine bodyPost_ret (v := .tuple #[wnV x, .slice none 0 0, .int .i64 0]) (by simp [results, Tryd.results10, go_sem, u0, u1, u2]) rfl ⟨_, by rw [HW3.out], by rw [HL3.out]; exact RowE.nil _ _, gB⟩
  · replace hMb := hMb.symm
    subst hMb
    go_upto_region 14 with fail
    clear q0 q1 q2 q3 q4 q5
    obtain ⟨x0, x1, x2, x3, x4, x5⟩ := X.three
    obtain ⟨m0, m1, m2, m3, m4, m5⟩ := N.three
    have XD := X.drew
    have ND := N.drew
    obtain ⟨q0, q1, q2, q3, q4, q5⟩ := XD.three
    obtain ⟨n0, n1, n2, n3, n4, n5⟩ := ND.three
    have ne1 : sn ≠ sx := by omega
    have l_X := XD.lt
    have l_N := ND.lt
    go_region_held3 (fun w' => w'.cell? ⟨sx, 0, none⟩ = some (.int .i64 x.s) ∧ w'.cell? ⟨sx, 1, none⟩ = some (.int .i64 x.n) ∧ w'.cell? ⟨sx, 2, none⟩ = some (.int .i64 x.y))
      (refine ⟨?_, ?_, ?_⟩ <;> (repeat (first | with_reducible assumption | with_reducible refine far_drew ?_ | with_reducible refine far_cell ne1 ?_)))
      (first
        | (go_at_call 19; (with_reducible refine (qgrown_v _ _ (dbl_ok b2 b3) HG.out).mono ?_); rintro e_w9 w9 ⟨rfl, rfl⟩))
    all_goals
      first | rw [if_pos hm] | skip
      go_upto_region 16 with fail
      generalize hw14 : World.setCell (World.setCell (World.setCell _ _ _) _ _) _ _ = wn
      replace X := X.far3 hw14 (show sx ≠ sn by omega)
      replace R := R.far3 hw14 (show sx + 1 + 1 ≠ sn by omega)
      replace G0 := G0.far3 hw14 (show w.heap.size ≤ sn by have := HSX.out; omega)
      replace N := N.store3 hw14
      clear q0 q1 q2 q3 q4 q5 n0 n1 n2 n3 n4 n5 m0 m1 m2 m3 m4 m5 x0 x1 x2 x3 x4 x5 hw14 l_X l_N XD ND
      obtain ⟨q0, q1, q2, q3, q4, q5⟩ := X.three
      obtain ⟨n0, n1, n2, n3, n4, n5⟩ := N.three
      obtain rfl : z = frmW b g := HZF.out
      simp only [frmW] at z1 z2 z4 z5
      go_wp2_with fail
      have N2 : Own (wn.setCell ⟨sn, 2, none⟩ (.int .i64 g)) sn 32 (csW (frmW b g)) := N.set 2 (.int .i64 g)
      replace X := X.far (p := ⟨sn, 2, none⟩) (show sx ≠ sn by omega) (.int .i64 g)
      replace R := R.far (p := ⟨sn, 2, none⟩) (show sx + 1 + 1 ≠ sn by omega) (.int .i64 g)
      replace G0 := G0.set (p := ⟨sn, 2, none⟩) (show w.heap.size ≤ sn by have := HSX.out; omega) (.int .i64 g)
      clear n0 n1 n2 n3 n4 n5 q0 q1 q2 q3 q4 q5 N
      generalize World.setCell wn _ _ = wt at *
      with_reducible refine (qpages_m b g _ (by omega) (by omega) (by omega) (by omega) HP2.out).mono ?_
      rintro e_w7 w7 ⟨vp, rfl, RP, g1⟩
      have k1 : Grew wt w7 := (by first | exact g1 | exact (Grew.refl wt).drew.trans g1)
      replace X := X.grew k1
      replace R := R.grew k1
      replace N2 := N2.grew k1
      replace G0 := G0.trans k1
      have RP1 := Lib.hid RP
      clear RP g1 k1
      go_wp2_with fail
      with_reducible refine (qkept_q vp e _ RP1.out (by have := HL.out; omega) HK2.out).mono ?_
      rintro e_w8 w8 ⟨vk, rfl, RK, g1⟩
      have hB8 : sn < w7.heap.size := N2.lt
      replace X := X.grew g1
      replace R := R.grew g1
      replace N2 := N2.grew g1
      replace G0 := G0.trans g1
      have RK1 := Lib.hid RK
      obtain ⟨ak, ck, rfl⟩ := RK.len
      clear RK g1 RP1
      obtain ⟨q0, q1, q2, q3, q4, q5⟩ := X.three
      obtain ⟨r0, r1, r2, r3, r4, r5⟩ := R.three
      obtain ⟨n0, n1, n2, n3, n4, n5⟩ := N2.three
      simp only [frmW] at n0 n1 n2
      by_cases hze : (frmW b g).s < e
      · have hkn : ¬K = [] := fun k => by have := HKZ.out.1 k; omega
        have hkl : K.length ≠ 0 := fun k => hkn (List.length_eq_zero_iff.1 k)
        have d : ((K.length : Int) == 0) = false := beqF (by omega)
        have HW3 := Lib.hid (show pl2W x a b e = frmW b g from by unfold pl2W; rw [HB.out, decide_eq_true hze]; exact HNX.out)
        have HL3 := Lib.hid (show pl2L x a b e = K from by unfold pl2L; rw [HB.out, decide_eq_true hze]; show kpL e (pgsL (nxW x a b)) = K; rw [HNX.out, HP2.out, HK2.out])
        clear hkn hkl hze
        go_wp2
        generalize hw : World.setCell _ _ _ = wz
        have RR := R.store3 hw
        have gB := G0.far3 hw (by have := HSX.out; omega)
        obtain ⟨u0, u1, u2, u3, u4, u5⟩ := RR.three
        refine bodyPost_ret (v := .tuple #[wnV (frmW b g), .slice ak K.length ck, .int .i64 0]) (by simp [results, Tryd.results10, go_sem, u0, u1, u2, frmW]) rfl ⟨_, by rw [HW3.out], by rw [HL3.out]; exact (RK1.out.far3 hw (by omega)).wider (by have := HSX.out; omega), gB⟩
      · have hkn : K = [] := HKZ.out.2 (by omega)
        subst hkn
        have HW3 := Lib.hid (show pl2W x a b e = x from by unfold pl2W; rw [HB.out, decide_eq_false hze])
        have HL3 := Lib.hid (show pl2L x a b e = [] from by unfold pl2L; rw [HB.out, decide_eq_false hze])
        clear hze
        go_wp2
        generalize hw : World.setCell _ _ _ = wz
        have RR := R.store3 hw
        have gB := G0.far3 hw (by have := HSX.out; omega)
        obtain ⟨u0, u1, u2, u3, u4, u5⟩ := RR.three
        refine bodyPost_ret (v := .tuple #[wnV x, .slice none 0 0, .int .i64 0]) (by simp [results, Tryd.results10, go_sem, u0, u1, u2]) rfl ⟨_, by rw [HW3.out], by rw [HL3.out]; exact RowE.nil _ _, gB⟩
theorem qplan_any (x : Wn) (s : Str) (a b e : Int) (w : World) : Calls Tryd.prog 10 #[wnV x, strV s, .int .i64 a, .int .i64 b, .int .i64 e] w (RetPl (plW x s a b e) (plL x s a b e) (plE x s a b e) w) := by
  by_cases h : plE x s a b e = 0
  · cases hs : sureB s
    · have e1 : plW x s a b e = zW := by rw [plW, if_neg (by rw [hs]; simp)]
      have e2 : plL x s a b e = [] := by rw [plL, if_neg (by rw [hs]; simp)]
      rw [e1, e2, h]
      exact qplan_unsure x s a b e w h hs
    · by_cases hk : s.k = 2
      · have e1 : plW x s a b e = pl2W x a b e := by rw [plW, if_pos ⟨h, hs, hk⟩]
        have e2 : plL x s a b e = pl2L x a b e := by rw [plL, if_pos ⟨h, hs⟩, if_pos hk]
        rw [e1, e2, h]
        cases ha : askB x a b
        · cases hne : nearB x a b
          · exact qplan_far x s a b e w h hs hk ha hne
          · have hn : newB x a b e = false := by unfold newB nxB; rw [ha, hne]; rfl
            rw [show pl2W x a b e = x from by rw [pl2W, hn], show pl2L x a b e = [] from by rw [pl2L, hn]]
            exact qplan_near x s a b e w h hs hk ha hne
        · by_cases hm : b ≤ x.s + x.n
          · exact qplan_ask x s a b e w (M := x.s + x.n) h hs hk ha (.inl ⟨rfl, hm⟩)
          · exact qplan_ask x s a b e w (M := b) h hs hk ha (.inr ⟨rfl, by omega⟩)
      · have e1 : plW x s a b e = zW := by rw [plW, if_neg (fun h => hk h.2.2)]
        have e2 : plL x s a b e = kpL e (prF s (firF (b - a))) := by rw [plL, if_pos ⟨h, hs⟩, if_neg hk]
        rw [e1, e2, h]
        exact qplan_others x s a b e w h hs hk
  · have e1 : plW x s a b e = zW := by rw [plW, if_neg (fun k => h k.1)]
    have e2 : plL x s a b e = [] := by rw [plL, if_neg (fun k => h k.1)]
    rw [e1, e2]
    exact qplan_err x s a b e w rfl h
theorem qplan_q {z : Wn} {L : List Int} {er : Int} (x : Wn) (s : Str) (a b e : Int) (w : World) (h1 : plW x s a b e = z) (h2 : plL x s a b e = L) (h3 : plE x s a b e = er) : Calls Tryd.prog 10 #[wnV x, strV s, .int .i64 a, .int .i64 b, .int .i64 e] w (RetPl z L er w) := h1 ▸ h2 ▸ h3 ▸ qplan_any x s a b e w
end Go.Proofs.YtfljohgcbihhbaaDoor

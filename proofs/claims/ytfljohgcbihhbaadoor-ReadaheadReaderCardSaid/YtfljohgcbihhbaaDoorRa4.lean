/- Package readahead: the new window, its pages, the first error (layer 7): contracts. -/
import Derived.Test.YtfljohgcbihhbaaDoorRa3
import Derived.Test.YtfljohgcbihhbaaDoorStW
namespace Go.Proofs.YtfljohgcbihhbaaDoor
open Go.RowKit Go.Mine

theorem asks_v {v : Bool} (x : Wn) (a b : Int) (w : World) (h : WokP x) (ha : AccP a b) (hv : askB x a b = v) : Calls Tryd.prog 51 #[wnV x, .int .i64 a, .int .i64 b] w (RetG (.bool v) w) := hv ▸ asks_any x a b w h ha
theorem near_v {v : Bool} (x : Wn) (a b : Int) (w : World) (h : WokP x) (ha : AccP a b) (hv : nearB x a b = v) : Calls Tryd.prog 53 #[wnV x, .int .i64 a, .int .i64 b] w (RetG (.bool v) w) := hv ▸ near_any x a b w h ha
theorem first_v {v : Int} (n : Int) (w : World) (h : Sz w) (hv : firF n = v) : Calls Tryd.prog 16 #[.int .i64 n] w (RetS (.int .i64 v) w) := hv ▸ first_any n w h
theorem wgrown_v {v : Int} (n : Int) (w : World) (hv : groF n = v) : Calls Tryd.prog 18 #[.int .i64 n] w (RetS (.int .i64 v) w) := hv ▸ wgrown_any n w
theorem windowFrom_v (s n : Int) (w : World) : Calls Tryd.prog 52 #[.int .i64 s, .int .i64 n] w (RetG (.agg #[.int .i64 s, .int .i64 n, .int .i64 n]) w) := windowFrom_any s n w
set_option maxHeartbeats 1000000 in
theorem nextWindow_any (x : Wn) (a b : Int) (w : World) (h : WokP x) (ha : AccP a b) (hS : Sz w) :
    Calls Tryd.prog 29 #[wnV x, .int .i64 a, .int .i64 b] w (RetG (.tuple #[wnV (nxW x a b), .bool (nxB x a b)]) w) := by
  have H := Lib.hid h
  have A := Lib.hid ha
  have hb : 0 ≤ x.s + x.n ∧ x.s + x.n ≤ 263 ∧ 0 ≤ x.n ∧ x.n ≤ 8 ∧ 0 ≤ x.s ∧ x.s ≤ 255 := by unfold WokP ZerP at h; omega
  obtain ⟨a0, a1, a2⟩ := ha
  obtain ⟨b0, b1, b2, b3, b4, b5⟩ := hb
  have X := (Own.new w 32 (csW x)).alloc (.cells z3 32)
  have R := Own.new2 w (.cells (csW x) 32) 32 z3
  have G0 : Grew w ((w.alloc (.cells (csW x) 32)).alloc (.cells z3 32)) := ((Grew.refl w).alloc _).alloc _
  clear h
  cases h0 : askB x a b
  case true =>
    have HB := Lib.hid (show nxB x a b = true from by unfold nxB; rw [h0]; rfl)
    have HW := Lib.hid (show nxW x a b = frmW (max (x.s + x.n) b) (groF x.n) from by unfold nxW; rw [h0])
    obtain ⟨q, hq⟩ : ∃ q, groF x.n = q := ⟨_, rfl⟩
    rw [hq] at HW
    have HQ := Lib.hid hq
    clear hq
    have two : ∀ M : Int, (M = x.s + x.n ∧ b ≤ x.s + x.n) ∨ (M = b ∧ x.s + x.n < b) → max (x.s + x.n) b = M := fun M h => by omega
    have TW := Lib.hid two
    clear two
    by_cases hm : b ≤ x.s + x.n
    all_goals
      go_enter Tryd.func29, Tryd.ntmps29
      go_wp2_with fail
      with_reducible refine (asks_v x a b _ H.out A.out h0).mono ?_
      rintro e w1 ⟨rfl, g1⟩
      replace X := X.grew g1
      replace R := R.grew g1
      replace G0 := G0.trans g1
      clear g1
      generalize hsx : w.heap.size = sx at *
      have HSX := Lib.hid hsx
      clear hsx
      obtain ⟨p0, p1, p2, p3, p4, p5⟩ := X.three
      go_upto_region 2 with fail
      clear p0 p1 p2 p3 p4 p5
      replace X := X.drew
      replace R := R.drew
      replace G0 := G0.drew
      obtain ⟨p0, p1, p2, p3, p4, p5⟩ := X.three
      obtain ⟨r0, r1, r2, r3, r4, r5⟩ := R.three
      have l_X := X.lt
      have l_R := R.lt
      have ne1 : sx + 1 ≠ sx := by omega
      go_region_held3 (fun w' => w'.cell? ⟨sx, 0, none⟩ = some (.int .i64 x.s) ∧ w'.cell? ⟨sx, 1, none⟩ = some (.int .i64 x.n) ∧ w'.cell? ⟨sx, 2, none⟩ = some (.int .i64 x.y))
        (refine ⟨?_, ?_, ?_⟩ <;> (repeat (first | with_reducible assumption | with_reducible refine far_drew ?_ | with_reducible refine far_cell ne1 ?_)))
        (first
          | (go_at_call 36; (with_reducible refine (behind_any x _ (by omega) (by omega)).mono ?_); rintro e w3 ⟨rfl, g3⟩; replace X := X.grew g3; replace R := R.grew g3; replace G0 := G0.trans g3; clear p0 p1 p2 p3 p4 p5 r0 r1 r2 r3 r4 r5; obtain ⟨p0, p1, p2, p3, p4, p5⟩ := X.three; obtain ⟨r0, r1, r2, r3, r4, r5⟩ := R.three)
          | (go_at_call 18; (with_reducible refine (wgrown_v _ _ HQ.out).mono ?_); rintro e w3 ⟨rfl, rfl⟩)
          | (go_at_call 52; (with_reducible refine (windowFrom_v _ _ _).mono ?_); rintro e w4 ⟨rfl, g3⟩; replace X := X.grew g3; replace R := R.grew g3; replace G0 := G0.trans g3; clear p0 p1 p2 p3 p4 p5 r0 r1 r2 r3 r4 r5; obtain ⟨p0, p1, p2, p3, p4, p5⟩ := X.three; obtain ⟨r0, r1, r2, r3, r4, r5⟩ := R.three))
      all_goals go_wp2
      all_goals generalize hw : World.setCell _ _ _ = wz
      all_goals have RR := R.store3 hw
      all_goals have gB := G0.far3 hw (by have := HSX.out; omega)
      all_goals obtain ⟨u0, u1, u2, u3, u4, u5⟩ := RR.three
      all_goals first
        | refine bodyPost_ret (v := .tuple #[wnV (frmW (x.s + x.n) q), .bool true]) (by simp [results, Tryd.results29, go_sem, u0, u1, u2, frmW]) rfl ⟨by rw [HW.out, HB.out, TW.out (x.s + x.n) (by omega)], gB⟩
        | refine bodyPost_ret (v := .tuple #[wnV (frmW b q), .bool true]) (by simp [results, Tryd.results29, go_sem, u0, u1, u2, frmW]) rfl ⟨by rw [HW.out, HB.out, TW.out b (by omega)], gB⟩
  case false =>
    cases h1 : nearB x a b
    case true =>
      have HB := Lib.hid (show nxB x a b = false from by unfold nxB; rw [h0, h1]; rfl)
      have HW := Lib.hid (show nxW x a b = x from by unfold nxW; rw [h0, h1])
      go_enter Tryd.func29, Tryd.ntmps29
      go_wp2_with fail
      with_reducible refine (asks_v x a b _ H.out A.out h0).mono ?_
      rintro e w1 ⟨rfl, g1⟩
      replace X := X.grew g1
      replace R := R.grew g1
      replace G0 := G0.trans g1
      clear g1
      generalize hsx : w.heap.size = sx at *
      have HSX := Lib.hid hsx
      clear hsx
      obtain ⟨p0, p1, p2, p3, p4, p5⟩ := X.three
      go_wp2_with fail
      with_reducible refine (near_v x a b _ H.out A.out h1).mono ?_
      rintro e w2 ⟨rfl, g1⟩
      replace X := X.grew g1
      replace R := R.grew g1
      replace G0 := G0.trans g1
      clear g1 p0 p1 p2 p3 p4 p5
      obtain ⟨p0, p1, p2, p3, p4, p5⟩ := X.three
      obtain ⟨r0, r1, r2, r3, r4, r5⟩ := R.three
      have ne1 : sx + 1 ≠ sx := by omega
      go_wp2
      generalize hw : World.setCell _ _ _ = wz
      have RR := R.store3 hw
      have gB := G0.far3 hw (by have := HSX.out; omega)
      obtain ⟨u0, u1, u2, u3, u4, u5⟩ := RR.three
      refine bodyPost_ret (v := .tuple #[wnV x, .bool false]) (by simp [results, Tryd.results29, go_sem, u0, u1, u2]) rfl ⟨by rw [HW.out, HB.out], gB⟩
    case false =>
      have HB := Lib.hid (show nxB x a b = true from by unfold nxB; rw [h0, h1]; rfl)
      have HW := Lib.hid (show nxW x a b = frmW b (firF (b - a)) from by unfold nxW; rw [h0, h1])
      obtain ⟨q, hq⟩ : ∃ q, firF (b - a) = q := ⟨_, rfl⟩
      rw [hq] at HW
      have HQ := Lib.hid hq
      have HZ := Lib.hid hS
      clear hq hS
      go_enter Tryd.func29, Tryd.ntmps29
      go_wp2_with fail
      with_reducible refine (asks_v x a b _ H.out A.out h0).mono ?_
      rintro e w1 ⟨rfl, g1⟩
      replace X := X.grew g1
      replace R := R.grew g1
      replace G0 := G0.trans g1
      clear g1
      generalize hsx : w.heap.size = sx at *
      have HSX := Lib.hid hsx
      clear hsx
      obtain ⟨p0, p1, p2, p3, p4, p5⟩ := X.three
      go_wp2_with fail
      with_reducible refine (near_v x a b _ H.out A.out h1).mono ?_
      rintro e w2 ⟨rfl, g1⟩
      replace X := X.grew g1
      replace R := R.grew g1
      replace G0 := G0.trans g1
      clear g1 p0 p1 p2 p3 p4 p5
      go_wp2_with fail
      with_reducible refine (first_v _ _ (HZ.out.grew G0) HQ.out).mono ?_
      rintro e w3 ⟨rfl, rfl⟩
      go_wp2_with fail
      with_reducible refine (windowFrom_v _ _ _).mono ?_
      rintro e w4 ⟨rfl, g1⟩
      replace R := R.grew g1
      replace G0 := G0.trans g1
      clear g1
      obtain ⟨r0, r1, r2, r3, r4, r5⟩ := R.three
      go_wp2
      generalize hw : World.setCell _ _ _ = wz
      have RR := R.store3 hw
      have gB := G0.far3 hw (by have := HSX.out; omega)
      obtain ⟨u0, u1, u2, u3, u4, u5⟩ := RR.three
      refine bodyPost_ret (v := .tuple #[wnV (frmW b q), .bool true]) (by simp [results, Tryd.results29, go_sem, u0, u1, u2, frmW]) rfl ⟨by rw [HW.out, HB.out], gB⟩
theorem nextWindow_v {z : Wn} {v : Bool} (x : Wn) (a b : Int) (w : World) (h : WokP x) (ha : AccP a b) (hS : Sz w) (h1 : nxW x a b = z) (h2 : nxB x a b = v) :
    Calls Tryd.prog 29 #[wnV x, .int .i64 a, .int .i64 b] w (RetG (.tuple #[wnV z, .bool v]) w) := h1 ▸ h2 ▸ nextWindow_any x a b w h ha hS
set_option maxHeartbeats 1000000 in
theorem pagesOf_any (x : Wn) (w : World) (h0 : 0 ≤ x.s) (h1 : x.s ≤ 1000) (h2 : 0 ≤ x.n) (h3 : x.n ≤ 8) : Calls Tryd.prog 30 #[wnV x] w (RetI1 (pgsL x) w) := by
  obtain ⟨N, hN⟩ : ∃ N : Nat, x.n = (N : Int) := ⟨x.n.toNat, by omega⟩
  have HL := Lib.hid (show pgsL x = runL x.s N from by unfold pgsL; rw [hN]; rfl)
  have HN := Lib.hid hN
  have O := Own.new w 32 (csW x)
  have G : Grew w (w.alloc (.cells (csW x) 32)) := (Grew.refl w).alloc _
  clear hN
  go_enter Tryd.func30, Tryd.ntmps30
  go_wp2
  generalize World.alloc w _ = w1 at *
  go_loopw [3, 4] (fun v pv wr => ∃ (k : Nat) (r : Value), r = v ∧ pv = .int .i64 (x.s + (k : Int)) ∧ k ≤ N ∧ RowE 3 1 enc1 wr (w.heap.size + 1) r (runL x.s k) ∧ Own wr w.heap.size 32 (csW x) ∧ Grew w wr) (fun v _ _ => N - lenV v)
  case atStart => exact ⟨0, _, rfl, by simp, by omega, RowE.nil _ _, O, G⟩
  case round =>
    clear O G w1
    obtain ⟨k, r, rfl, rfl, hk, R, P, G⟩ := hrel
    obtain ⟨wo, rfl⟩ : ∃ wo : World, wo = wr := ⟨_, rfl⟩
    obtain ⟨ar, cr, rfl⟩ := R.len
    rw [runL_len] at R ⊢
    have HR := Lib.hid R
    clear R
    have hN8 : N ≤ 8 := by have := HN.out; omega
    obtain ⟨p0, p1, p2, p3, p4, p5⟩ := P.three
    go_wp2_with fail
    with_reducible refine (behind_any x _ (by omega) (by omega)).mono ?_
    rintro e w2 ⟨rfl, g2⟩
    replace HR := Lib.hid (HR.out.grew g2)
    replace P := P.grew g2
    replace G := G.trans g2
    clear g2 p0 p1 p2 p3 p4 p5
    by_cases hlt : k < N
    · have d : decide ((k : Int) < x.n) = true := decide_eq_true (by have := HN.out; omega)
      have HA := Lib.hid HR.out.above
      have HPA := Lib.hid (show w.heap.size < w2.heap.size from P.lt)
      have HLN := Lib.hid (show (runL x.s k).length < 1000000 by rw [runL_len]; omega)
      have hrl := Lib.hid (runL_len x.s k)
      go_wp2_with (at_builtin; go_loud (refine wpList_append_row _ rfl (.tmp 13) (.tmp 15) 22 rfl (w.heap.size + 1) info_I und_I (by decide) (by decide) enc1_len (.slice ar k cr) (runL x.s k) rfl (HR.out.alloc _) _ _ (x.s + (k : Int)) rfl (Own.new _ _ _) enc1_one HLN.out (by decide) (by have := HPA.out; simp; omega) ?_; intro g3 cap w3 R3 G3 o3))
      exact ⟨⟨k + 1, _, rfl, by rw [show x.s + (k : Int) + 1 = x.s + ((k + 1 : Nat) : Int) from by omega], by omega, by rw [runL_succ]; exact R3, Own.keptA (B := w.heap.size + 1) (P.alloc _) G3 (fun y e => HA.out y e) (by omega), Grew.keptA (B := w.heap.size + 1) (G.alloc _) G3 (fun y e => HA.out y e) (by omega)⟩, by simp only [lenV, hrl.out]; omega⟩
    · have d : decide ((k : Int) < x.n) = false := decide_eq_false (by have := HN.out; omega)
      have hkN : k = N := by omega
      subst hkN
      go_wp2
      go_ret
      exact ⟨_, rfl, by rw [HL.out]; exact HR.out.wider (by omega), G⟩
end Go.Proofs.YtfljohgcbihhbaaDoor

/- The reference's marker, its lists of pages (layer 7): contracts. -/
import Derived.Test.YtfljohgcbihhbaaDoorRa7
import Derived.Test.YtfljohgcbihhbaaDoorRa2
namespace Go.Proofs.YtfljohgcbihhbaaDoor
open Go.RowKit Go.Mine

set_option maxHeartbeats 1000000 in
theorem qmarker_any (x : Wn) (w : World) : Calls Tryd.prog 12 #[wnV x] w (RetG (.tuple #[.int .i64 (mrkF x), .bool (mrkB x)]) w) := by
  have O := Own.new w 32 (csW x)
  cases h0 : wokB x
  case false =>
    obtain ⟨e1, e2⟩ := mrk_no (x := x) (.inl h0)
    have E1 := Lib.hid e1
    have E2 := Lib.hid e2
    clear e1 e2
    go_enter Tryd.func12, Tryd.ntmps12
    go_wp2_with fail
    with_reducible refine (qcheck_v _ _ h0).mono ?_
    rintro e w1 ⟨rfl, g1⟩
    have P := O.grew g1
    have G : Grew w w1 := ((Grew.refl w).alloc _).trans g1
    obtain ⟨p0, p1, p2, p3, p4, p5⟩ := P.three
    go_wp2
    refine bodyPost_ret (v := .tuple #[.int .i64 0, .bool false]) (by simp [results, Tryd.results12, go_sem]) rfl ⟨by rw [E1.out, E2.out], G⟩
  case true =>
    by_cases hy : x.y = 0
    · obtain ⟨e1, e2⟩ := mrk_no (x := x) (.inr hy)
      have E1 := Lib.hid e1
      have E2 := Lib.hid e2
      have dy := beqT hy
      clear e1 e2 hy
      go_enter Tryd.func12, Tryd.ntmps12
      go_wp2_with fail
      with_reducible refine (qcheck_v _ _ h0).mono ?_
      rintro e w1 ⟨rfl, g1⟩
      have P := O.grew g1
      have G : Grew w w1 := ((Grew.refl w).alloc _).trans g1
      obtain ⟨p0, p1, p2, p3, p4, p5⟩ := P.three
      go_wp2
      refine bodyPost_ret (v := .tuple #[.int .i64 0, .bool false]) (by simp [results, Tryd.results12, go_sem]) rfl ⟨by rw [E1.out, E2.out], G⟩
    · obtain ⟨e1, e2⟩ := mrk_yes h0 hy
      have hp : WokP x := of_decide_eq_true h0
      have hb : 0 ≤ x.s + x.n ∧ x.s + x.n ≤ 263 ∧ 0 ≤ x.y ∧ x.y ≤ 8 := by unfold WokP ZerP at hp; omega
      obtain ⟨b0, b1, b2, b3⟩ := hb
      have E1 := Lib.hid e1
      have E2 := Lib.hid e2
      have dy := beqF hy
      have hv : IntKind.i64.wrap (x.s + x.n - x.y) = x.s + x.n - x.y := IntWalk.i64_in _ (by omega)
      clear e1 e2 hy hp
      go_enter Tryd.func12, Tryd.ntmps12
      go_wp2_with fail
      with_reducible refine (qcheck_v _ _ h0).mono ?_
      rintro e w1 ⟨rfl, g1⟩
      have P := O.grew g1
      have G : Grew w w1 := ((Grew.refl w).alloc _).trans g1
      obtain ⟨p0, p1, p2, p3, p4, p5⟩ := P.three
      go_wp2
      refine bodyPost_ret (v := .tuple #[.int .i64 (x.s + x.n - x.y), .bool true]) (by simp [results, Tryd.results12, go_sem]) rfl ⟨by rw [E1.out, E2.out], G⟩
theorem qmarker_v {m : Int} {v : Bool} (x : Wn) (w : World) (h1 : mrkF x = m) (h2 : mrkB x = v) : Calls Tryd.prog 12 #[wnV x] w (RetG (.tuple #[.int .i64 m, .bool v]) w) := h1 ▸ h2 ▸ qmarker_any x w
set_option maxHeartbeats 1000000 in
theorem qkept_any {L : List Int} {B : Nat} (v : Value) (e : Int) (w : World) (R : RowE 3 1 enc1 w B v L) (hl : L.length ≤ 100000) : Calls Tryd.prog 34 #[v, .int .i64 e] w (RetI1 (kpL e L) w) := by
  obtain ⟨a, c, rfl⟩ := R.len
  have HC := Lib.hid R.atI.2
  clear R
  go_enter Tryd.func34, Tryd.ntmps34
  go_wp2
  go_loopw [5, 6] (fun v iv wr => ∃ (i : Nat) (r : Value), r = v ∧ iv = .int .i64 i ∧ i ≤ L.length ∧ RowE 3 1 enc1 wr w.heap.size r (kpL e (L.take i)) ∧ Grew w wr) (fun _ iv _ => L.length - (intOf iv).toNat)
  case atStart => exact ⟨0, _, rfl, rfl, by omega, RowE.nil _ _, Grew.refl _⟩
  case round =>
    obtain ⟨i, r, rfl, rfl, hi, R, G⟩ := hrel
    obtain ⟨wo, rfl⟩ : ∃ wo : World, wo = wr := ⟨_, rfl⟩
    obtain ⟨ar, cr, rfl⟩ := R.len
    have HR := Lib.hid R
    clear R
    by_cases hlt : i < L.length
    · obtain ⟨g, rfl, -, hg, x0, -⟩ := HC.out i hlt
      have x1 := (G.cells.1 g i hg).trans x0
      have hs := take_getD (d := 0) L i hlt
      have i0 : (0 : Int) ≤ (i : Int) := by omega
      have i1 : (i : Int) < (L.length : Int) := by omega
      obtain ⟨z, hz⟩ : ∃ z, L.getD i 0 = z := ⟨_, rfl⟩
      rw [hz] at x1 hs
      have HKL : (kpL e (L.take i)).length ≤ 100000 := by have := kpL_len e (L.take i); rw [List.length_take] at this; omega
      by_cases hze : z < e
      · have HN := Lib.hid (show kpL e (L.take (i + 1)) = kpL e (L.take i) ++ [z] from by rw [hs, kpL_snoc, if_pos hze])
        have HA := Lib.hid HR.out.above
        have hB := G.size
        have HLN := Lib.hid (show (kpL e (L.take i)).length < 1000000 by omega)
        clear x0 hs hz HKL
        go_wp2_with (at_builtin; go_loud (refine wpList_append_row _ rfl (.tmp 19) (.tmp 24) 22 rfl w.heap.size info_I und_I (by decide) (by decide) enc1_len (.slice ar (kpL e (L.take i)).length cr) (kpL e (L.take i)) rfl (HR.out.alloc _) _ _ z rfl (Own.new _ _ _) enc1_one HLN.out (by decide) (by simp; omega) ?_; intro g3 cap w3 R3 G3 o3))
        exact ⟨⟨i + 1, _, rfl, by go_num, by omega, by rw [HN.out]; exact R3, Grew.keptA (B := w.heap.size) (G.alloc _) G3 (fun y e => HA.out y e) (Nat.le_refl _)⟩, by simp [intOf]; omega⟩
      · have HN := Lib.hid (show kpL e (L.take (i + 1)) = kpL e (L.take i) from by rw [hs, kpL_snoc, if_neg hze])
        clear x0 hs hz HKL
        go_wp2
        exact ⟨⟨i + 1, _, rfl, by go_num, by omega, by rw [HN.out]; exact HR.out, G⟩, by simp [intOf]; omega⟩
    · have hiN : i = L.length := by omega
      subst hiN
      have HT := Lib.hid (List.take_length (l := L))
      go_wp2
      go_ret
      exact ⟨_, rfl, by have := HR.out; rw [HT.out] at this; rw [HT.out]; exact this, G⟩
theorem qkept_q {L K : List Int} {B : Nat} (v : Value) (e : Int) (w : World) (R : RowE 3 1 enc1 w B v L) (hl : L.length ≤ 100000) (h : kpL e L = K) : Calls Tryd.prog 34 #[v, .int .i64 e] w (RetI1 K w) := h ▸ qkept_any v e w R hl
set_option maxHeartbeats 1000000 in
theorem qpages_any (x : Wn) (w : World) (h0 : 0 ≤ x.s) (h1 : x.s ≤ 1000) (h2 : 0 ≤ x.n) (h3 : x.n ≤ 8) : Calls Tryd.prog 35 #[wnV x] w (RetI1 (pgsL x) w) := by
  obtain ⟨N, hN⟩ : ∃ N : Nat, x.n = (N : Int) := ⟨x.n.toNat, by omega⟩
  have HL := Lib.hid (show pgsL x = runL x.s N from by unfold pgsL; rw [hN]; rfl)
  have hN8 : N ≤ 8 := by omega
  have HN := Lib.hid hN
  have O := Own.new w 32 (csW x)
  have G : Grew w (w.alloc (.cells (csW x) 32)) := (Grew.refl w).alloc _
  clear hN
  go_enter Tryd.func35, Tryd.ntmps35
  go_wp2
  generalize World.alloc w _ = w1 at *
  go_loopw [3, 4] (fun v iv wr => ∃ (k : Nat) (r : Value), r = v ∧ iv = .int .i64 k ∧ k ≤ N ∧ RowE 3 1 enc1 wr (w.heap.size + 1) r (runL x.s k) ∧ Own wr w.heap.size 32 (csW x) ∧ Grew w wr) (fun _ iv _ => N - (intOf iv).toNat)
  case atStart => exact ⟨0, _, rfl, rfl, by omega, RowE.nil _ _, O, G⟩
  case round =>
    clear O G w1
    obtain ⟨k, r, rfl, rfl, hk, R, P, G⟩ := hrel
    obtain ⟨wo, rfl⟩ : ∃ wo : World, wo = wr := ⟨_, rfl⟩
    obtain ⟨ar, cr, rfl⟩ := R.len
    rw [runL_len] at R ⊢
    have HR := Lib.hid R
    clear R
    obtain ⟨p0, p1, p2, p3, p4, p5⟩ := P.three
    by_cases hlt : k < N
    · have d : decide ((k : Int) < x.n) = true := decide_eq_true (by have := HN.out; omega)
      have HA := Lib.hid HR.out.above
      have HPA := Lib.hid (show w.heap.size < wo.heap.size from P.lt)
      have HLN := Lib.hid (show (runL x.s k).length < 1000000 by rw [runL_len]; omega)
      go_wp2_with (at_builtin; go_loud (refine wpList_append_row _ rfl (.tmp 11) (.tmp 16) 22 rfl (w.heap.size + 1) info_I und_I (by decide) (by decide) enc1_len (.slice ar k cr) (runL x.s k) rfl (HR.out.alloc _) _ _ (x.s + (k : Int)) rfl (Own.new _ _ _) enc1_one HLN.out (by decide) (by have := HPA.out; simp; omega) ?_; intro g3 cap w3 R3 G3 o3))
      exact ⟨⟨k + 1, _, rfl, by go_num, by omega, by rw [runL_succ]; exact R3, Own.keptA (B := w.heap.size + 1) (P.alloc _) G3 (fun y e => HA.out y e) (by omega), Grew.keptA (B := w.heap.size + 1) (G.alloc _) G3 (fun y e => HA.out y e) (by omega)⟩, by simp [intOf]; omega⟩
    · have d : decide ((k : Int) < x.n) = false := decide_eq_false (by have := HN.out; omega)
      have hkN : k = N := by omega
      subst hkN
      go_wp2
      go_ret
      exact ⟨_, rfl, by rw [HL.out]; exact HR.out.wider (by omega), G⟩
theorem qpages_q {L : List Int} (x : Wn) (w : World) (h0 : 0 ≤ x.s) (h1 : x.s ≤ 1000) (h2 : 0 ≤ x.n) (h3 : x.n ≤ 8) (h : pgsL x = L) : Calls Tryd.prog 35 #[wnV x] w (RetI1 L w) := h ▸ qpages_any x w h0 h1 h2 h3
end Go.Proofs.YtfljohgcbihhbaaDoor

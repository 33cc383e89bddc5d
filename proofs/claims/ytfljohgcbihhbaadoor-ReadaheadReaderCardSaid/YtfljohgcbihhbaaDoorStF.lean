/- Package stream: Sure, Predict (layer 6): contracts. -/
import Derived.Test.YtfljohgcbihhbaaDoorStE
namespace Go.Proofs.YtfljohgcbihhbaaDoor
open Go.RowKit Go.Mine

theorem beqT {x y : Int} (h : x = y) : (x == y) = true := by simpa using h
theorem beqF {x y : Int} (h : ¬x = y) : (x == y) = false := by simpa using h
def sureB (x : Str) : Bool := rgtB x && decide (2 ≤ x.h)
theorem sure_any (x : Str) (w : World) (hm : Mild x) : Calls Tryd.prog 22 #[strV x] w (RetG (.bool (sureB x)) w) := by
  have HF := Lib.hid (show sureB x = (rgtB x && decide (2 ≤ x.h)) from rfl)
  cases h0 : rgtB x
  all_goals
    go_enter Tryd.func22, Tryd.ntmps22
    have O := Own.new w 29 (csS x)
    go_wp2_with fail
    with_reducible refine (isRight_v _ _ hm h0).mono ?_
    rintro e w1 ⟨rfl, g1⟩
    have P := O.grew g1
    have G : Grew w w1 := ((Grew.refl w).alloc _).trans g1
    obtain ⟨p0, p1, p2, p3, p4, p5⟩ := P.six
    go_wp2
    go_ret
    exact ⟨ret_bool (by rw [HF.out, h0]; simp), G⟩
/-- The page that comes i pages behind the next one. -/
def pgF (x : Str) (i : Nat) : Int := if x.k = 2 then x.b + i else if x.k = 3 then x.a - 1 - i else x.a + ((i : Int) / (x.b - x.a) + 1) * x.d + (i : Int) % (x.b - x.a)
def inB (p : Int) : Bool := decide (0 ≤ p ∧ p ≤ 255)
def prL (x : Str) : Nat → List Int
  | 0 => []
  | m + 1 => if (prL x m).length = m ∧ inB (pgF x m) = true then prL x m ++ [pgF x m] else prL x m
theorem prL_le (x : Str) : ∀ m, (prL x m).length ≤ m
  | 0 => Nat.le_refl _
  | m + 1 => by
    have := prL_le x m
    rw [prL]; split
    · rw [List.length_append]; simp; omega
    · omega
theorem prL_stop {x : Str} {m : Nat} (h : (prL x m).length = m) (hb : inB (pgF x m) = false) : ∀ n, m ≤ n → prL x n = prL x m
  | 0, hn => by
    have : m = 0 := by omega
    subst this; rfl
  | n + 1, hn => by
    by_cases e : m = n + 1
    · subst e; rfl
    · have ih := prL_stop h hb n (by omega)
      rw [prL, ih, h, if_neg (by rintro ⟨h1, h2⟩; subst h1; rw [hb] at h2; exact absurd h2 (by simp))]
theorem prL_next {x : Str} {m : Nat} (h : (prL x m).length = m) (hb : inB (pgF x m) = true) : prL x (m + 1) = prL x m ++ [pgF x m] ∧ (prL x (m + 1)).length = m + 1 := by
  have e : prL x (m + 1) = prL x m ++ [pgF x m] := by rw [prL, if_pos ⟨h, hb⟩]
  exact ⟨e, by rw [e, List.length_append, h]; rfl⟩
theorem mul_bd (q d : Int) (q0 : 0 ≤ q) (q1 : q ≤ 3000) (d0 : -8 ≤ d) (d1 : d ≤ 8) : -24008 ≤ (q + 1) * d ∧ (q + 1) * d ≤ 24008 := by
  have h : d = -8 ∨ d = -7 ∨ d = -6 ∨ d = -5 ∨ d = -4 ∨ d = -3 ∨ d = -2 ∨ d = -1 ∨ d = 0 ∨ d = 1 ∨ d = 2 ∨ d = 3 ∨ d = 4 ∨ d = 5 ∨ d = 6 ∨ d = 7 ∨ d = 8 := by omega
  rcases h with rfl | rfl | rfl | rfl | rfl | rfl | rfl | rfl | rfl | rfl | rfl | rfl | rfl | rfl | rfl | rfl | rfl <;> omega
theorem pageAhead_any (x : Str) (i : Nat) (w : World) (hx : RgtP x) (_hk : ¬x.k = 1) (hi : i ≤ 3000) : Calls Tryd.prog 50 #[strV x, .int .i64 i] w (RetG (.int .i64 (pgF x i)) w) := by
  obtain ⟨⟨x0, x1, x2⟩, -, -, -, -, -, h⟩ := hx
  have G : Grew w (w.alloc (.cells (csS x) 29)) := (Grew.refl _).alloc _
  by_cases k2 : x.k = 2
  · have e2 := beqT k2
    have HP := Lib.hid (show pgF x i = x.b + i from by rw [pgF, if_pos k2])
    clear k2 h _hk
    go_enter Tryd.func50, Tryd.ntmps50
    go_wp2
    go_ret
    exact ⟨ret_int HP.out.symm, G⟩
  · have e2 := beqF k2
    by_cases k3 : x.k = 3
    · have e3 := beqT k3
      have HP := Lib.hid (show pgF x i = x.a - 1 - i from by rw [pgF, if_neg k2, if_pos k3])
      clear k2 k3 h _hk
      go_enter Tryd.func50, Tryd.ntmps50
      go_wp2
      go_ret
      exact ⟨ret_int HP.out.symm, G⟩
    · have e3 := beqF k3
      have HP := Lib.hid (show pgF x i = x.a + ((i : Int) / (x.b - x.a) + 1) * x.d + (i : Int) % (x.b - x.a) from by rw [pgF, if_neg k2, if_neg k3])
      obtain ⟨d0, d1⟩ : -8 ≤ x.d ∧ x.d ≤ 8 := by
        rcases h with h | ⟨-, h⟩
        · omega
        · unfold StpP at h; omega
      clear k2 k3 h _hk
      have l0 : 1 ≤ x.b - x.a := by omega
      have l1 : x.b - x.a ≤ 256 := by omega
      go_enter Tryd.func50, Tryd.ntmps50
      go_upto_region 7 with fail
      generalize x.b - x.a = l at *
      have q0 : 0 ≤ (i : Int) / l := Int.ediv_nonneg (by omega) (by omega)
      have q1 : (i : Int) / l ≤ 3000 := Int.le_trans (Int.ediv_le_self _ (by omega)) (by omega)
      have r0 : 0 ≤ (i : Int) % l := Int.emod_nonneg _ (by omega)
      have r1 : (i : Int) % l < l := Int.emod_lt_of_pos _ (by omega)
      have e1 : Int.tdiv (i : Int) l = (i : Int) / l := Int.tdiv_eq_ediv_of_nonneg (by omega)
      have e2 : Int.tmod (i : Int) l = (i : Int) % l := Int.tmod_eq_emod_of_nonneg (by omega)
      have hq : (i : Int) / l = (i : Int) / l := rfl
      generalize (i : Int) / l = q at *
      generalize (i : Int) % l = r at *
      have P0 : -24008 ≤ (q + 1) * x.d ∧ (q + 1) * x.d ≤ 24008 := mul_bd q x.d q0 q1 d0 d1
      obtain ⟨m0, m1⟩ := P0
      have w1 : IntKind.i64.wrap (q + 1) = q + 1 := IntWalk.i64_in _ (by omega)
      have w2 : IntKind.i64.wrap ((q + 1) * x.d) = (q + 1) * x.d := IntWalk.i64_in _ (by generalize (q + 1) * x.d = P at *; omega)
      have w3 : IntKind.i64.wrap (x.a + (q + 1) * x.d) = x.a + (q + 1) * x.d := IntWalk.i64_in _ (by generalize (q + 1) * x.d = P at *; omega)
      have w4 : IntKind.i64.wrap (x.a + (q + 1) * x.d + r) = x.a + (q + 1) * x.d + r := IntWalk.i64_in _ (by generalize (q + 1) * x.d = P at *; omega)
      clear hq
      go_quiet (fail)
      clear e1 e2 w1 w2 w3 w4
      go_wp2
      go_ret
      exact ⟨ret_int HP.out.symm, G.drewN _⟩
theorem prL_last {x : Str} {m : Nat} (h : (prL x (m + 1)).length = m + 1) : inB (pgF x m) = true := by
  rw [prL] at h
  split at h
  · next h1 => exact h1.2
  · have := prL_le x m; omega
theorem prL_bound {x : Str} (hx : RgtP x) (hk : ¬x.k = 1) : ∀ m, (prL x m).length = m → m ≤ 1100
  | 0, _ => by omega
  | m + 1, h => by
    have hb := prL_last h
    obtain ⟨⟨x0, x1, x2⟩, -, -, -, -, -, h⟩ := hx
    have hb : 0 ≤ pgF x m ∧ pgF x m ≤ 255 := of_decide_eq_true hb
    rw [pgF] at hb
    split at hb
    · omega
    · split at hb
      · omega
      · rcases h with h | ⟨-, h⟩
        · omega
        · have l0 : 1 ≤ x.b - x.a := by omega
          have l1 : x.b - x.a ≤ 8 := by unfold StpP at h; omega
          have hd : (2 ≤ x.d ∧ x.d ≤ 8) ∨ (-8 ≤ x.d ∧ x.d ≤ -2) := by unfold StpP at h; omega
          clear h
          generalize x.b - x.a = l at *
          have r0 : 0 ≤ (m : Int) % l := Int.emod_nonneg _ (by omega)
          have r1 : (m : Int) % l < l := Int.emod_lt_of_pos _ (by omega)
          have q0 : 0 ≤ (m : Int) / l := Int.ediv_nonneg (by omega) (by omega)
          have hq : (m : Int) = l * ((m : Int) / l) + (m : Int) % l := (Int.mul_ediv_add_emod _ _).symm
          generalize (m : Int) / l = q at *
          generalize (m : Int) % l = r at *
          have hq2 : q ≤ 131 := by
            have : x.d = -8 ∨ x.d = -7 ∨ x.d = -6 ∨ x.d = -5 ∨ x.d = -4 ∨ x.d = -3 ∨ x.d = -2 ∨ x.d = 2 ∨ x.d = 3 ∨ x.d = 4 ∨ x.d = 5 ∨ x.d = 6 ∨ x.d = 7 ∨ x.d = 8 := by omega
            rcases this with e | e | e | e | e | e | e | e | e | e | e | e | e | e <;> rw [e] at hb <;> omega
          have : l = 1 ∨ l = 2 ∨ l = 3 ∨ l = 4 ∨ l = 5 ∨ l = 6 ∨ l = 7 ∨ l = 8 := by omega
          rcases this with e | e | e | e | e | e | e | e <;> rw [e] at hq r1 <;> omega
def lenV : Value → Nat
  | .slice _ n _ => n
  | _ => 0
theorem info_I : (Tryd.prog.info? 3).map (fun i => (i.zero, i.size, i.bytes)) = some (some (.int .i64 0), 1, 8) := by kernel_rfl
theorem und_I : Tryd.prog.underlying 22 = some (.slice 3) := by kernel_rfl
def prF (x : Str) (n : Int) : List Int := if RgtP x ∧ ¬x.k = 1 then prL x n.toNat else []
def RetI1 (L : List Int) (w : World) (e : Ending) (w' : World) : Prop := ∃ v, e = .returned v ∧ RowE 3 1 enc1 w' w.heap.size v L ∧ Grew w w'
set_option maxHeartbeats 1000000 in
theorem predict_any (x : Str) (n : Int) (w : World) (hm : Mild x) : Calls Tryd.prog 28 #[strV x, .int .i64 n] w (RetI1 (prF x n) w) := by
  cases h0 : rgtB x
  case false =>
    have HF := Lib.hid (show prF x n = [] from by rw [prF, if_neg]; rintro ⟨h, -⟩; exact absurd h (of_decide_eq_false h0))
    go_enter Tryd.func28, Tryd.ntmps28
    have O := Own.new w 29 (csS x)
    go_wp2_with fail
    with_reducible refine (isRight_v _ _ hm h0).mono ?_
    rintro e w1 ⟨rfl, g1⟩
    have P := O.grew g1
    have G : Grew w w1 := ((Grew.refl w).alloc _).trans g1
    obtain ⟨p0, p1, p2, p3, p4, p5⟩ := P.six
    go_wp2
    go_ret
    exact ⟨_, rfl, by rw [HF.out]; exact RowE.nil _ _, G⟩
  case true =>
    by_cases k1 : x.k = 1
    · have HF := Lib.hid (show prF x n = [] from by rw [prF, if_neg]; rintro ⟨-, h⟩; exact h k1)
      have e1 := beqT k1
      clear k1
      go_enter Tryd.func28, Tryd.ntmps28
      have O := Own.new w 29 (csS x)
      go_wp2_with fail
      with_reducible refine (isRight_v _ _ hm h0).mono ?_
      rintro e w1 ⟨rfl, g1⟩
      have P := O.grew g1
      have G : Grew w w1 := ((Grew.refl w).alloc _).trans g1
      obtain ⟨p0, p1, p2, p3, p4, p5⟩ := P.six
      go_wp2
      go_ret
      exact ⟨_, rfl, by rw [HF.out]; exact RowE.nil _ _, G⟩
    · have HF := Lib.hid (show prF x n = prL x n.toNat from by rw [prF, if_pos ⟨rgt_true h0, k1⟩])
      have HX := Lib.hid (rgt_true h0)
      have e1 := beqF k1
      have HK := Lib.hid k1
      clear k1
      go_enter Tryd.func28, Tryd.ntmps28
      have O := Own.new w 29 (csS x)
      go_wp2_with fail
      with_reducible refine (isRight_v _ _ hm h0).mono ?_
      rintro e w1 ⟨rfl, g1⟩
      have P := O.grew g1
      have G : Grew w w1 := ((Grew.refl w).alloc _).trans g1
      obtain ⟨p0, p1, p2, p3, p4, p5⟩ := P.six
      clear g1 O
      go_wp2
      clear p0 p1 p2 p3 p4 p5
      go_loopw [5] (fun v wr => ∃ (m : Nat) (r : Value), r = v ∧ m ≤ n.toNat ∧ (prL x m).length = m ∧ RowE 3 1 enc1 wr (w.heap.size + 1) r (prL x m) ∧ Own wr w.heap.size 29 (csS x) ∧ Grew w wr) (fun v _ => 1200 - lenV v)
      case atStart => exact ⟨0, _, rfl, by omega, rfl, RowE.nil _ _, P, G⟩
      case round =>
        clear P G w1
        obtain ⟨m, r, rfl, hmn, hl, R, P, G⟩ := hrel
        obtain ⟨wo, rfl⟩ : ∃ wo : World, wo = wr := ⟨_, rfl⟩
        have hb := prL_bound HX.out HK.out m hl
        obtain ⟨ar, cr, rfl⟩ := R.len
        rw [hl] at R ⊢
        have HR := Lib.hid R
        have HL := Lib.hid hl
        obtain ⟨p0, p1, p2, p3, p4, p5⟩ := P.six
        have l_P := P.lt
        clear R hl
        by_cases hlt : (m : Int) < n
        · cases hin : inB (pgF x m)
          · have HS := Lib.hid (prL_stop HL.out hin n.toNat hmn)
            have hin2 : ¬(0 ≤ pgF x m ∧ pgF x m ≤ 255) := of_decide_eq_false hin
            go_wp2_with fail
            with_reducible refine (pageAhead_any _ _ _ HX.out HK.out (by omega)).mono ?_
            generalize pgF x m = pg at *
            rintro e w2 ⟨rfl, g2⟩
            have R2 := HR.out.grew g2
            have G2 := G.trans g2
            go_wp2
            all_goals go_ret
            all_goals exact ⟨_, rfl, by rw [HF.out, HS.out]; exact R2.wider (by omega), G2⟩
          · have HN := Lib.hid (prL_next HL.out hin)
            obtain ⟨b0, b1⟩ : 0 ≤ pgF x m ∧ pgF x m ≤ 255 := of_decide_eq_true hin
            go_wp2_with fail
            with_reducible refine (pageAhead_any _ _ _ HX.out HK.out (by omega)).mono ?_
            generalize pgF x m = pg at *
            rintro e w2 ⟨rfl, g2⟩
            have R2 := Lib.hid (HR.out.grew g2)
            have P2 := P.grew g2
            have G2 := G.trans g2
            have hB := G2.size
            have HA := Lib.hid R2.out.above
            have hlen : (prL x m).length < 1000000 := by rw [HL.out]; omega
            have HLN := Lib.hid hlen
            have HPA := Lib.hid (show w.heap.size < w2.heap.size from P2.lt)
            clear hlen p0 p1 p2 p3 p4 p5 g2
            go_wp2_with (at_builtin; go_loud (refine wpList_append_row _ rfl (.tmp 29) (.tmp 31) 22 rfl (w.heap.size + 1) info_I und_I (by decide) (by decide) enc1_len (.slice ar m cr) (prL x m) rfl (R2.out.alloc _) _ _ pg rfl (Own.new _ _ _) enc1_one HLN.out (by decide) (by have := HPA.out; simp; omega) ?_; intro g3 cap w3 R3 G3 o3))
            exact ⟨⟨m + 1, _, rfl, by omega, HN.out.2, by rw [HN.out.1]; exact R3, Own.keptA (B := w.heap.size + 1) (P2.alloc _) G3 (fun y e => HA.out y e) (by omega), Grew.keptA (B := w.heap.size + 1) (G2.alloc _) G3 (fun y e => HA.out y e) (by omega)⟩, by rw [HL.out]; show 1200 - (m + 1) < 1200 - m; omega⟩
        · have hmn2 : m = n.toNat := by omega
          go_wp2
          go_ret
          exact ⟨_, rfl, by rw [HF.out, ← hmn2]; exact HR.out.wider (by omega), G⟩
end Go.Proofs.YtfljohgcbihhbaaDoor

/- DirtyShares holds: shares are at least 5 (or the limit) and at most the limit, together at most the limit and 5 for each further device, and no lesser for a device that completed more. -/
import Derived.Test.YtjeelciijfpdiaaDt8
import Derived.Deep.CutBlock
namespace Go.Mine
open Go Go.RowKit
def shS (x : Pd) (lim : Int) : Nat → Int
  | 0 => 0
  | k + 1 => shS x lim k + shF x k lim
theorem sh_at {x : Pd} {i : Nat} {lim : Int} (h : OkD x) (hi : i < x.e.length) (l0 : 0 ≤ lim) (l1 : lim ≤ 64) : shF x i lim = min (5 + ptF x i lim) lim := by
  rw [shF_yes (okD_iff.2 h) (frB_t (by omega) (by omega)) (frB_t l0 l1)]
  rfl
theorem pt_tot {x : Pd} (h : OkD x) : 1 ≤ smF x.e x.e.length + (x.e.length : Int) := by
  have := sm_le h.ev x.e.length (Nat.le_refl _)
  have := h.n1
  omega
theorem pt_0 {x : Pd} {i : Nat} {lim : Int} (h : OkD x) (hi : i < x.e.length) : 0 ≤ ptF x i lim :=
  Int.ediv_nonneg (Int.mul_nonneg (by omega) (by have := (h.ev i hi).1; omega)) (by have := pt_tot h; omega)
theorem sh_b {x : Pd} {i : Nat} {lim : Int} (h : OkD x) (hi : i < x.e.length) (l0 : 0 ≤ lim) (l1 : lim ≤ 64) : shF x i lim ≤ lim ∧ (5 ≤ shF x i lim ∨ shF x i lim = lim) := by
  rw [sh_at h hi l0 l1]
  have := pt_0 (lim := lim) h hi
  omega
theorem sh_mono {x : Pd} {i k : Nat} {lim : Int} (h : OkD x) (hi : i < x.e.length) (hk : k < x.e.length) (l0 : 0 ≤ lim) (l1 : lim ≤ 64) (he : x.e.getD k 0 ≤ x.e.getD i 0) : shF x k lim ≤ shF x i lim := by
  rw [sh_at h hi l0 l1, sh_at h hk l0 l1]
  have : ptF x k lim ≤ ptF x i lim := Int.ediv_le_ediv (by have := pt_tot h; omega) (Int.mul_le_mul_of_nonneg_left (by omega) (by omega))
  omega
/-- The parts of what is divided, together. -/
def ptS (x : Pd) (lim : Int) : Nat → Int
  | 0 => 0
  | k + 1 => ptS x lim k + ptF x k lim
theorem ptS_le {x : Pd} {lim : Int} (h : OkD x) (k : Nat) (hk : k ≤ x.e.length) : ptS x lim k * (smF x.e x.e.length + (x.e.length : Int)) ≤ max (lim - 5) 0 * (smF x.e k + k) := by
  induction k with
  | zero => rw [sm_0]; simp [ptS]
  | succ k ih =>
    have h1 := ih (by omega)
    have h2 : ptF x k lim * (smF x.e x.e.length + (x.e.length : Int)) ≤ max (lim - 5) 0 * (x.e.getD k 0 + 1) := Int.ediv_mul_le _ (by have := pt_tot h; omega)
    rw [sm_s (by omega)]
    show (ptS x lim k + ptF x k lim) * _ ≤ _
    rw [Int.add_mul, show (smF x.e k + x.e.getD k 0 + ((k + 1 : Nat) : Int)) = (smF x.e k + k) + (x.e.getD k 0 + 1) by omega, Int.mul_add (max (lim - 5) 0)]
    exact Int.add_le_add h1 h2
theorem ptS_all {x : Pd} {lim : Int} (h : OkD x) : ptS x lim x.e.length ≤ max (lim - 5) 0 := Int.le_of_mul_le_mul_right (ptS_le h _ (Nat.le_refl _)) (by have := pt_tot h; omega)
theorem shS_b {x : Pd} {lim : Int} (h : OkD x) (l0 : 0 ≤ lim) (l1 : lim ≤ 64) (k : Nat) (hk : k ≤ x.e.length) : 0 ≤ shS x lim k ∧ shS x lim k ≤ 64 * k ∧ shS x lim k ≤ 5 * k + ptS x lim k ∧ (lim ≤ 5 → 1 ≤ k → shS x lim k ≤ lim + 5 * (k - 1)) := by
  induction k with
  | zero => simp [shS, ptS]
  | succ k ih =>
    have h1 := ih (by omega)
    have h2 := sh_b h (show k < x.e.length by omega) l0 l1
    have h3 := sh_at h (show k < x.e.length by omega) l0 l1
    have h4 := pt_0 (lim := lim) h (show k < x.e.length by omega)
    show 0 ≤ shS x lim k + shF x k lim ∧ shS x lim k + shF x k lim ≤ _ ∧ shS x lim k + shF x k lim ≤ 5 * ((k + 1 : Nat) : Int) + (ptS x lim k + ptF x k lim) ∧ (lim ≤ 5 → 1 ≤ k + 1 → shS x lim k + shF x k lim ≤ _)
    obtain ⟨h5, h6, h7, h8⟩ := h1
    refine ⟨by omega, by omega, by omega, fun hl _ => ?_⟩
    by_cases k0 : k = 0
    · subst k0
      show (0 : Int) + _ ≤ _
      omega
    · have := h8 hl (by omega)
      omega
theorem shS_all {x : Pd} {lim : Int} (h : OkD x) (l0 : 0 ≤ lim) (l1 : lim ≤ 64) : shS x lim x.e.length ≤ lim + 5 * ((x.e.length : Int) - 1) := by
  obtain ⟨-, -, h3, h4⟩ := shS_b h l0 l1 _ (Nat.le_refl _)
  have h5 := ptS_all (lim := lim) h
  have := h.n1
  by_cases hl : lim ≤ 5
  · exact h4 hl (by omega)
  · omega
/-- Events apart from the block of their proportions and from the tape. -/
theorem PdR.past {w w' : World} {b : Nat} {p : Nat → Prop} {v : Value} {x : Pd} (h : PdR w p v x) (g : w.grownBy w' (some b)) (hp : ∀ k, p k → k ≠ b) : PdR w' p v x :=
  h.keep g.size (fun _ h _ => h) fun k hk hl => g.block k hl (fun e => by injection e with e; exact hp k hk e)
theorem PdR.far3p {w E : World} {b : Nat} {p : Nat → Prop} {v x y z : Value} {u : Pd} (h : PdR w p v u) (hp : ∀ k, p k → k ≠ b) (hw : ((w.setCell ⟨b, 0, none⟩ x).setCell ⟨b, 1, none⟩ y).setCell ⟨b, 2, none⟩ z = E) : PdR E p v u := by
  subst hw
  exact h.keep (by simp [World.setCell]) (fun _ h _ => h) fun g hg _ => ((Below.heap_setCell _ ⟨b, 2, none⟩ z g (hp g hg)).trans (Below.heap_setCell _ ⟨b, 1, none⟩ y g (hp g hg))).trans (Below.heap_setCell _ ⟨b, 0, none⟩ x g (hp g hg))
theorem PdR.to {w : World} {p q : Nat → Prop} {v : Value} {u : Pd} (h : PdR w p v u) (hp : ∀ g, p g → g < w.heap.size → q g) : PdR w q v u := h.keep (Nat.le_refl _) hp fun _ _ _ => rfl
theorem PdR.opn {w : World} {p : Nat → Prop} {v : Value} {x : Pd} {n : Nat} (h : PdR w p v x) (hn : x.e.length = n) : ∃ a c, v = .agg #[.slice a n c, .int .i64 x.p, .int .i64 x.l] ∧ RdI w p a n x.e := by
  obtain ⟨a, c, e, r⟩ := h
  subst hn
  exact ⟨a, c, e, r⟩
end Go.Mine
namespace Go.Proofs.Ytjeelciijfpdiaa
open Go.ChangeShapes Go.WideShapes Go.ChangeAt Go.RowKit Go.Mine

/-- Proportions of n devices in block g, their events from B on apart from g; a tape in block b. -/
structure ShW (w0 : World) (B b g n : Nat) (w : World) (a : Option Addr) (c : Nat) (z : Pd) : Prop where
  own : Own w g 27 #[.slice a n c, .int .i64 z.p, .int .i64 z.l]
  row : PdR w (fun k => B ≤ k ∧ k ≠ g) (.agg #[.slice a n c, .int .i64 z.p, .int .i64 z.l]) z
  tp : Tp B w b
  gr : Grew w0 w
section
variable {w0 w w' : World} {B b g n c : Nat} {a : Option Addr} {z : Pd}
theorem ShW.past (h : ShW w0 B b g n w a c z) (k : w.grownBy w' (some b)) (t : Tp B w' b) (hb : b < B) (hg : B ≤ g) (h0 : w0.heap.size ≤ b) : ShW w0 B b g n w' a c z :=
  ⟨h.own.past k (by omega), h.row.past k (fun j hj => by omega), t, h.gr.past k h0⟩
theorem ShW.grew (h : ShW w0 B b g n w a c z) (k : Grew w w') : ShW w0 B b g n w' a c z := ⟨h.own.grew k, h.row.grew k, h.tp.grew k, h.gr.trans k⟩
theorem ShW.drew (h : ShW w0 B b g n w a c z) : ShW w0 B b g n w.drew a c z := h.grew (Grew.refl w).drew
end
/-- Behind a round's call of Complete. -/
def ShCut (w0 : World) (B b g n : Nat) (v6 : Value) (wx : World) : Prop := ∃ (a : Option Addr) (c : Nat) (z : Pd), v6 = .int .i64 0 ∧ OkD z ∧ z.e.length = n ∧ ShW w0 B b g n wx a c z
set_option maxRecDepth 100000 in
set_option maxHeartbeats 8000000 in
theorem shares_core (A : Option Addr) (c : Nat) (xs : List Int) (w : World) (hr : IntRow w A xs) (hm : xs.length ≤ maxLen) :
    Calls Try.prog 4 #[.slice A xs.length c] w (RetG (.bool true) w) := by
  have tp := Tp.made hr hm c 25
  have gA := (Grew.refl w).alloc (.cells #[.slice A xs.length c, .int .i64 0] 25)
  have hbw : w.heap.size + 1 ≤ (w.alloc (.cells #[.slice A xs.length c, .int .i64 0] 25)).heap.size := by simp
  clear hr hm
  generalize hX : xs.length = X at *
  clear hX
  go_enter Try.func4, Try.ntmps4
  go_wp2_with fail
  with_reducible refine (next_x _ _ _ _ (by omega) (by omega) tp).mono ?_
  rintro e w1 ⟨q, q0, q1, rfl, T1, g1⟩
  have HG1 := Lib.hid (gA.past g1 (Nat.le_refl _))
  have hb1 := Nat.le_trans hbw g1.size
  obtain ⟨n, hn⟩ : ∃ n : Nat, 1 + q = n := ⟨(1 + q).toNat, by omega⟩
  have nn : IntKind.i64.wrap (1 + q) = n := (IntWalk.i64_in _ (by omega)).trans hn
  have n1 : 1 ≤ n := by omega
  have n4 : n ≤ 4 := by omega
  clear gA tp g1 hbw hn
  go_wp2_with fail
  with_reducible refine (next_x _ _ _ _ (by omega) (by omega) T1).mono ?_
  rintro e w2 ⟨r, r0, r1, rfl, T2, g2⟩
  have HG2 := Lib.hid (HG1.out.past g2 (Nat.le_refl _))
  have hb2 := Nat.le_trans hb1 g2.size
  obtain ⟨P, hP⟩ : ∃ P, 1 + r = P := ⟨_, rfl⟩
  have nP : IntKind.i64.wrap (1 + r) = P := (IntWalk.i64_in _ (by omega)).trans hP
  have hP1 : 1 ≤ P := by omega
  have hP2 : P ≤ 30 := by omega
  have hf1 : frB (n : Int) 1 4 = true := frB_t (by omega) (by omega)
  have hf2 : frB P 1 1000000 = true := frB_t hP1 (by omega)
  have HNW := Lib.hid (show NwR n P ⟨List.replicate ((n : Int)).toNat 0, P, P⟩ 0 from .inl ⟨hf1, hf2, rfl, rfl⟩)
  have HOK0 := Lib.hid (new_ok hf1 hf2)
  clear g2 T1 HG1 hb1 hP hf1 hf2 q0 q1 r0 r1
  go_wp2_with fail
  with_reducible refine (new_p HNW.out).mono ?_
  rintro e w3 ⟨v3, rfl, P3, g3⟩
  obtain ⟨z0, hz0⟩ : ∃ z0, Pd.mk (List.replicate ((n : Int)).toNat 0) P P = z0 := ⟨_, rfl⟩
  have hL0 : z0.e.length = n := by rw [← hz0]; simp
  have HL0 := Lib.hid hL0
  rw [hz0] at P3 HOK0
  obtain ⟨a3, c3, rfl, -⟩ := P3.opn hL0
  have hb3 := Nat.le_trans hb2 g3.size
  have GX := (Grew.refl w3).alloc (.cells #[.slice a3 n c3, .int .i64 z0.p, .int .i64 z0.l] 27)
  have HS3 : Hid (ShW w (w.heap.size + 1) w.heap.size w3.heap.size n (w3.alloc (.cells #[.slice a3 n c3, .int .i64 z0.p, .int .i64 z0.l] 27)) a3 c3 z0) :=
    Lib.hid ⟨Own.new w3 _ _, (P3.to fun g h1 h2 => by omega).grew GX, (T2.grew g3).grew GX, (HG2.out.trans g3).trans GX⟩
  clear P3 g3 GX T2 HG2 hb2 HNW hz0 hL0
  go_wp2_with fail
  generalize World.alloc w3 _ = w4 at *
  generalize w3.heap.size = g at *
  have hg : w.heap.size + 1 ≤ g := hb3
  with_reducible refine (next_x _ _ _ _ (by omega) (by omega) HS3.out.tp).mono ?_
  rintro e w5 ⟨q, q0, q1, rfl, T5, g5⟩
  obtain ⟨N, rfl⟩ := Int.eq_ofNat_of_zero_le q0
  have HS5 := Lib.hid (HS3.out.past g5 T5 (Nat.lt_succ_self _) hg (Nat.le_refl _))
  have n10 : (1 : Int) ≤ (n : Int) := by omega
  have n40 : (n : Int) ≤ 4 := by omega
  clear T5 g5 HS3 q0 nn nP hb3
  go_wp2_with fail
  go_loopw [6, 7] (fun ev kv wr => ∃ (m : Nat) (a : Option Addr) (c : Nat) (z : Pd), ev = .int .i64 0 ∧ kv = .int .i64 m ∧ m ≤ 10 ∧ Hid (OkD z) ∧ z.e.length = n ∧ ShW w (w.heap.size + 1) w.heap.size g n wr a c z) (fun _ kv _ => (intOf kv).toNat)
  case atStart => exact ⟨N, a3, c3, z0, rfl, rfl, by omega, HOK0, HL0.out, HS5.out⟩
  case round =>
    obtain ⟨m, a, c, z, rfl, rfl, hm, HOK, hzl, S⟩ := hrel
    obtain ⟨wo, rfl⟩ : ∃ wo : World, wo = wr := ⟨_, rfl⟩
    have HS := Lib.hid S
    have HZL := Lib.hid hzl
    by_cases hlt : 0 < m
    · obtain ⟨m', rfl⟩ : ∃ m', m = m' + 1 := ⟨m - 1, by omega⟩
      have hmi : (0 : Int) < ((m' + 1 : Nat) : Int) := by omega
      clear S hzl
      go_upto_region 9 with fail
      go_cut [6] from 42 to 51 (ShCut w (w.heap.size + 1) w.heap.size g n)
      case first =>
        have TT := HS.out.tp
        obtain ⟨m0, m1, m2, m3, m4, m5⟩ := HS.out.own.three
        have hgl := HS.out.own.lt
        have HCM : Hid (∀ d p : Int, 0 ≤ d → d < n → 0 ≤ p → p ≤ 64 → CmR z d p (itD d.toNat p.toNat z) 0) := Lib.hid fun d p h1 h2 h3 h4 => .inr (.inr (.inr ⟨okD_iff.2 HOK.out, frB_t h1 (by rw [HZL.out]; omega), frB_t h3 h4, rfl, rfl⟩))
        have hs5 : z.e.length ≤ 1000 := by rw [HZL.out]; omega
        go_region_with (first
          | (go_at_call 7; (with_reducible refine (next_x _ _ 9 _ (by omega) (by omega) T7).mono ?_); rintro e w8 ⟨q8, q80, q81, rfl, T8, g8⟩; have HS8 := Lib.hid (HS7.out.past g8 T8 (Nat.lt_succ_self _) hg (Nat.le_refl _)); clear g8 m0 m1 m2 m3 m4 m5 hgl; obtain ⟨m0, m1, m2, m3, m4, m5⟩ := HS8.out.own.three; have hgl := HS8.out.own.lt)
          | (go_at_call 7; (with_reducible refine (next_x _ _ _ _ (by omega) (by omega) (by first | exact TT | exact TT.drew | exact TT.drew.drew)).mono ?_); rintro e w7 ⟨q7, q70, q71, rfl, T7, g7⟩; have HS7 := Lib.hid (ShW.past (by first | exact HS.out | exact HS.out.drew | exact HS.out.drew.drew) g7 T7 (Nat.lt_succ_self _) hg (Nat.le_refl _)); clear g7 m0 m1 m2 m3 m4 m5 hgl; obtain ⟨m0, m1, m2, m3, m4, m5⟩ := HS7.out.own.three; have hgl := HS7.out.own.lt)
          | (go_at_call 11; (with_reducible refine (complete_p (by first | exact HS8.out.row | exact HS8.out.drew.row) hs5 (HCM.out q7 q8 q70 q71 q80 (by omega))).mono ?_); rintro e w9 ⟨v9, rfl, P9, g9⟩
             obtain ⟨y, hy⟩ : ∃ y, itD q7.toNat q8.toNat z = y := ⟨_, rfl⟩
             have hyl : y.e.length = n := by rw [← hy]; exact (it_p _ _ _).2.trans HZL.out
             have HYO : Hid (OkD y) := Lib.hid (by rw [← hy]; exact it_ok _ HOK.out (by rw [HZL.out]; omega))
             rw [hy] at P9
             obtain ⟨a9, c9, rfl, -⟩ := P9.opn hyl
             have HYL := Lib.hid hyl
             have HP9 : Hid (PdR w9 (fun k => w.heap.size + 1 ≤ k ∧ k ≠ g) (.agg #[.slice a9 n c9, .int .i64 y.p, .int .i64 y.l]) y) := Lib.hid (P9.to fun k h1 _ => (by first | (have h2 : w8.heap.size ≤ k := h1; omega) | (have h2 : w8.drew.heap.size ≤ k := h1; simp only [World.drew] at h2; omega)))
             have HS9 : Hid (ShW w (w.heap.size + 1) w.heap.size g n w9 a c z) := Lib.hid (by first | exact HS8.out.grew g9 | exact HS8.out.drew.grew g9)
             clear m0 m1 m2 m3 m4 m5 P9 g9 hyl hy
             obtain ⟨m0, m1, m2, m3, m4, m5⟩ := HS9.out.own.three))
        all_goals
          go_wp2
          go_meet
          first
          | (generalize hw : World.setCell (World.setCell (World.setCell w9 _ _) _ _) _ _ = E
             exact ⟨a9, c9, y, rfl, HYO.out, HYL.out, ⟨HS9.out.own.store3 hw, HP9.out.far3p (fun _ h => h.2) hw, HS9.out.tp.far3 hw hg, HS9.out.gr.far3 hw (by omega)⟩⟩)
          | (generalize hw : World.setCell (World.setCell (World.setCell w9 _ _) _ _) _ _ = E
             exact ⟨a9, c9, y, rfl, HYO.out, HYL.out, ShW.drew ⟨HS9.out.own.store3 hw, HP9.out.far3p (fun _ h => h.2) hw, HS9.out.tp.far3 hw hg, HS9.out.gr.far3 hw (by omega)⟩⟩)
      case rest =>
        obtain ⟨a9, c9, y, rfl, hy, hyl, S⟩ := hcut
        have HS9 := Lib.hid S
        have HY := Lib.hid hy
        obtain ⟨m0, m1, m2, m3, m4, m5⟩ := S.own.three
        clear S hy
        go_wp2
        exact ⟨⟨m', a9, c9, y, rfl, by go_num, by omega, HY, hyl, HS9.out⟩, by simp [intOf] <;> omega⟩
    · obtain rfl : m = 0 := by omega
      have ok := HOK.out
      clear hzl S
      go_wp2_with fail
      with_reducible refine (next_x _ _ _ _ (by omega) (by omega) HS.out.tp).mono ?_
      rintro e w6 ⟨lim, l0, l1, rfl, T6, g6⟩
      have HS6 := Lib.hid (HS.out.past g6 T6 (Nat.lt_succ_self _) hg (Nat.le_refl _))
      have HSB := Lib.hid (fun k (h : k ≤ n) => shS_b ok l0 (by omega) k (by rw [HZL.out]; exact h))
      have HSA : Hid (shS z lim n ≤ lim + 5 * ((n : Int) - 1)) := Lib.hid (by have := shS_all ok l0 (show lim ≤ 64 by omega); rwa [HZL.out] at this)
      have HSH := Lib.hid (fun i (h : i < n) => sh_b ok (show i < z.e.length by rw [HZL.out]; exact h) l0 (by omega))
      have HSM := Lib.hid (fun i k (h : i < n) (h' : k < n) => sh_mono ok (show i < z.e.length by rw [HZL.out]; exact h) (show k < z.e.length by rw [HZL.out]; exact h') l0 (show lim ≤ 64 by omega))
      have hs5 : z.e.length ≤ 1000 := by rw [HZL.out]; omega
      clear T6 g6 ok
      go_wp2_with fail
      go_loopw [9, 10] (fun sv iv wr => ∃ i : Nat, sv = .int .i64 (shS z lim i) ∧ iv = .int .i64 i ∧ i ≤ n ∧ ShW w (w.heap.size + 1) w.heap.size g n wr a c z) (fun _ iv _ => n - (intOf iv).toNat)
      case atStart => exact ⟨0, rfl, rfl, by omega, HS6.out⟩
      case round =>
        obtain ⟨i, rfl, rfl, hi, S⟩ := hrel
        obtain ⟨wo, rfl⟩ : ∃ wo : World, wo = wr := ⟨_, rfl⟩
        have HS7 := Lib.hid S
        by_cases hlt : i < n
        · obtain ⟨m0, m1, m2, m3, m4, m5⟩ := S.own.three
          obtain ⟨t, ht⟩ : ∃ t, shS z lim i = t := ⟨_, rfl⟩
          obtain ⟨r, hr⟩ : ∃ r, shF z i lim = r := ⟨_, rfl⟩
          have hrb := HSH.out i hlt
          have htb := HSB.out i (by omega)
          rw [hr] at hrb
          rw [ht] at htb ⊢
          have HTR : Hid (shS z lim (i + 1) = t + r) := Lib.hid (by rw [← ht, ← hr]; rfl)
          have HR := Lib.hid hr
          have hj0 : (0 : Int) ≤ (i : Int) := by omega
          have hj1 : (i : Int) < (n : Int) := by omega
          have nt : IntKind.i64.wrap (t + r) = t + r := IntWalk.i64_in _ (by omega)
          clear S ht hr
          go_wp2_with fail
          with_reducible refine (share_p HS7.out.row hs5 HR.out).mono ?_
          rintro e w8 ⟨rfl, g8⟩
          have HS8 := Lib.hid (HS7.out.grew g8)
          clear g8 m0 m1 m2 m3 m4 m5
          go_upto_region 17 with fail
          go_cut [80] from 72 to 79 (fun v wx => v = .bool false ∧ wx = w8)
          case first =>
            by_cases h5 : lim < 5
            all_goals
              go_wp2
              go_meet
              refine ⟨?_, rfl⟩
              refine congrArg Value.bool ?_
              rw [Bool.or_eq_false_iff]
              exact ⟨decide_eq_false (by omega), decide_eq_false (by omega)⟩
          case rest =>
            obtain ⟨rfl, rfl⟩ := hcut
            obtain ⟨w8, rfl⟩ : ∃ w8 : World, w8 = wc := ⟨_, rfl⟩
            go_wp2_with fail
            go_loopw [12] (fun kv wr => ∃ k : Nat, kv = .int .i64 k ∧ k ≤ n ∧ ShW w (w.heap.size + 1) w.heap.size g n wr a c z) (fun kv _ => n - (intOf kv).toNat)
            case atStart => exact ⟨0, rfl, by omega, HS8.out⟩
            case round =>
              obtain ⟨k, rfl, hk, S⟩ := hrel
              obtain ⟨wi, rfl⟩ : ∃ wi : World, wi = wr := ⟨_, rfl⟩
              have HS9 := Lib.hid S
              by_cases hkn : k < n
              · obtain ⟨m0, m1, m2, m3, m4, m5⟩ := S.own.three
                obtain ⟨a', c', e', R⟩ := S.row
                injection e' with e'
                have e1 := congrArg (fun a : Array Value => a[0]?) e'
                simp only [List.getElem?_toArray, List.getElem?_cons_zero, Option.some.injEq, Value.slice.injEq] at e1
                obtain ⟨rfl, hnz, rfl⟩ := e1
                obtain ⟨gr, o, rfl, hgr, hgl, x0⟩ := R.at_ (show i < z.e.length by rw [HZL.out]; exact hlt)
                obtain ⟨gr', o', e2, -, -, x1⟩ := R.at_ (show k < z.e.length by rw [HZL.out]; exact hkn)
                injection e2 with e2
                injection e2 with e2 e3
                subst e2 e3
                have hsm := HSM.out i k hlt hkn
                obtain ⟨x, hx⟩ : ∃ x, z.e.getD i 0 = x := ⟨_, rfl⟩
                obtain ⟨y, hy⟩ : ∃ y, z.e.getD k 0 = y := ⟨_, rfl⟩
                obtain ⟨r2, hr2⟩ : ∃ r2, shF z k lim = r2 := ⟨_, rfl⟩
                rw [hx] at x0 hsm
                rw [hy] at x1 hsm
                rw [HR.out, hr2] at hsm
                have HR2 := Lib.hid hr2
                have hk0 : (0 : Int) ≤ (k : Int) := by omega
                have hk1 : (k : Int) < (n : Int) := by omega
                clear S R hx hy hr2 e' hnz
                by_cases hc : y ≤ x
                · have hs2 := hsm hc
                  have d1 : decide (y ≤ x) = true := decide_eq_true hc
                  have d2 : decide (r < r2) = false := decide_eq_false (by omega)
                  go_upto_region 23 with fail
                  have HSD := Lib.hid HS9.out.drew
                  have hgl2 : gr < wi.drew.heap.size := hgl
                  have z0' : wi.drew.cell? ⟨gr, o + i, none⟩ = some (.int .i64 x) := x0
                  have z1' : wi.drew.cell? ⟨gr, o + k, none⟩ = some (.int .i64 y) := x1
                  go_region_held3 (fun w' => w'.cell? ⟨g, 0, none⟩ = some (.slice (some ⟨gr, o, none⟩) n c) ∧ w'.cell? ⟨g, 1, none⟩ = some (.int .i64 z.p) ∧ w'.cell? ⟨g, 2, none⟩ = some (.int .i64 z.l) ∧ w'.cell? ⟨gr, o + i, none⟩ = some (.int .i64 x) ∧ w'.cell? ⟨gr, o + k, none⟩ = some (.int .i64 y))
                    (refine ⟨?_, ?_, ?_, ?_, ?_⟩ <;> (repeat (first | (with_reducible assumption) | (with_reducible refine far_drew ?_))))
                    (first
                      | (go_at_call 20; (with_reducible refine (share_p HSD.out.row hs5 HR2.out).mono ?_); rintro e w10 ⟨rfl, g10⟩; have HS10 := Lib.hid (HSD.out.grew g10); have y0' := (g10.cells.1 gr (o + i) hgl2).trans z0'; have y1' := (g10.cells.1 gr (o + k) hgl2).trans z1'; clear m0 m1 m2 m3 m4 m5 x0 x1 z0' z1' g10; obtain ⟨m0, m1, m2, m3, m4, m5⟩ := HS10.out.own.three))
                  go_wp2
                  exact ⟨⟨k + 1, by go_num, by omega, HS10.out⟩, by simp [intOf] <;> omega⟩
                · have d1 : decide (y ≤ x) = false := decide_eq_false hc
                  go_upto_region 23 with fail
                  go_quiet (fail)
                  revert nq; intro nq1
                  have HS10 := Lib.hid (HS9.out.grew ((Grew.refl wi).drewN nq1))
                  go_wp2
                  exact ⟨⟨k + 1, by go_num, by omega, HS10.out⟩, by simp [intOf] <;> omega⟩
              · obtain rfl : k = n := by omega
                clear S
                go_wp2
                exact ⟨⟨i + 1, by rw [HTR.out], by go_num, by omega, HS9.out⟩, by simp [intOf] <;> omega⟩
        · obtain rfl : i = n := by omega
          have htb := HSB.out i (Nat.le_refl _)
          have hta := HSA.out
          obtain ⟨t, ht⟩ : ∃ t, shS z lim i = t := ⟨_, rfl⟩
          rw [ht] at htb hta ⊢
          have p1 : IntKind.i64.wrap ((i : Int) - 1) = (i : Int) - 1 := IntWalk.i64_in _ (by omega)
          have p2 : IntKind.i64.wrap (5 * ((i : Int) - 1)) = 5 * ((i : Int) - 1) := IntWalk.i64_in _ (by omega)
          have p3 : IntKind.i64.wrap (lim + 5 * ((i : Int) - 1)) = lim + 5 * ((i : Int) - 1) := IntWalk.i64_in _ (by omega)
          clear S ht
          go_wp2_with fail
          with_reducible refine (awake_any _).mono ?_
          rintro e w9 ⟨rfl, g9⟩
          have HGG := Lib.hid (HS7.out.gr.trans g9)
          clear g9
          go_wp2
          go_ret
          exact ⟨rfl, HGG.out⟩

theorem Try.own : ownKnob Try.prog.godebug = none := by kernel_rfl
theorem Try.laidOut : laidOutB Try.prog = true := by kernel_rfl

theorem dirtyShares_contract (W : World) (base : Nat) (args : Array Value) (H : Type) (enc : TypeId × Value → H) (ds : List (DataW H)) (p : List MemPlace)
    (hval : ∀ (j : Nat) t v, Try.f4.params[j]? = some t → args[j]? = some v → Value.okWide Try.prog W .any base t v)
    (hA : DataW.TrodAll enc Try.prog W 0 (fun _ => true) true Try.f4.params.toList args.toList ds p) :
    (∃ d0, ds = [d0]) ∧ Calls Try.prog 4 args W fun e W' => e = .returned (.bool true) ∧ Below W.heap.size W W' := by
  rw [Try.params4] at hval hA
  obtain ⟨v0, d0, p0, ha, hd, hp, h0⟩ := args_1 hA
  subst ha hd
  obtain ⟨A0, c0, xs0, rfl, hr0, hm0⟩ := open_introw Try.underlying22 Try.underlying3 (by kernel_rfl) (hval 0 _ _ rfl rfl) h0
  exact ⟨⟨_, rfl⟩, (shares_core A0 c0 xs0 W hr0 hm0).mono fun _ _ h => h⟩

set_option maxRecDepth 100000 in
theorem dirtyShares_lifted (os : Os) (started : os.Started) (H : Type) (enc : TypeId × Value → H) :
    ReturnsInHanded {} Try.checked os 4 .any (Rows.dirtySharesSpec.pre6 enc Try.prog Try.f4 Rows.dirtySharesRow.domain false) (Rows.dirtySharesSpec.post enc Try.prog Try.f4 false true false false) := by
  refine returnsInHanded_of_change (C := Try.checked) Try.own started (by kernel_rfl) Try.func4
    (ChangeSpec.witness6 (enc := enc) (C := Try.checked) false ⟨#[], #[.slice none 0 0], []⟩ 8 (by kernel_rfl) (by kernel_rfl) (by kernel_rfl) (by kernel_rfl)) ?_
  intro W base args ds gs before hval hW _ _
  obtain ⟨p, q, hA, hV, hrest⟩ := id hW
  obtain ⟨⟨d0, rfl⟩, hc⟩ := dirtyShares_contract W base args H enc ds p hval hA
  obtain ⟨rfl, -⟩ := trodVars_none hV
  refine hc.mono fun e W' ⟨he, hb⟩ => ⟨_, he, ?_⟩
  exact law_close (tb := 4) Try.laidOut (by rw [Try.params4]; decide +kernel) Try.underlying4 rfl rfl hW rfl rfl rfl hb

theorem dirtyShares_holds : Rows.DirtySharesSaid :=
  OpenClaim.holds_of_wide 4 Try.f4 rfl rfl rfl rfl rfl rfl rfl ⟨rfl, rfl, rfl, rfl, rfl⟩ rfl rfl rfl rfl rfl (by kernel_rfl) Try.func4 (by kernel_rfl)
    (of_decide_eq_true (by kernel_rfl)) (by unfold Func.isWrapper; first | (rw [if_pos (by decide +kernel)]; kernel_rfl) | (rw [if_neg (by decide +kernel)]; exact ⟨rfl, rfl⟩))
    (fun os started H enc _ => dirtyShares_lifted os started H enc)

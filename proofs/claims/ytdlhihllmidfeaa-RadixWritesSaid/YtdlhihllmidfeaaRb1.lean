/- radix.join: the subtree of a row of leaves. -/
import Derived.Test.YtdlhihllmidfeaaRx9
namespace Go.Proofs.Ytdlhihllmidfeaa
open Go.RowKit Go.Mine

/-- The leaves of all indices below 256 in one block. -/
def LeavesAt (w : World) (K : Nat) (F : Fen) : Prop := ∀ i, i < 256 → w.cell? ⟨K, i * 3, none⟩ = some (.slice none 0 0) ∧ w.cell? ⟨K, i * 3 + 1, none⟩ = some (.int .i64 (F i).1) ∧ w.cell? ⟨K, i * 3 + 2, none⟩ = some (.int .i64 (F i).2)
theorem LeavesAt.lt {w : World} {K : Nat} {F : Fen} (h : LeavesAt w K F) : K < w.heap.size := World.block_lt_of_cell? w _ (h 0 (by omega)).1
theorem LeavesAt.grew {w w' : World} {K : Nat} {F : Fen} (h : LeavesAt w K F) (g : Grew w w') : LeavesAt w' K F := fun i hi => by
  obtain ⟨c0, c1, c2⟩ := h i hi
  exact ⟨(g.cells.1 K _ h.lt).trans c0, (g.cells.1 K _ h.lt).trans c1, (g.cells.1 K _ h.lt).trans c2⟩
def shiftF (F : Fen) (a : Nat) : Fen := fun i => F (a + i)
theorem shift_sub (F : Fen) (a h k : Nat) : sub h (shiftF F a) k = shiftF F (a + k * p4 h) := by
  funext i; unfold sub shiftF; congr 1; omega
theorem good_shift {F : Fen} (h : GoodF F) (a : Nat) : GoodF (shiftF F a) := fun i => h _
set_option maxHeartbeats 2000000 in
theorem join_leaf (K : Nat) (F : Fen) (a c : Nat) (w : World) (L : LeavesAt w K F) (ha : a < 256) :
    Calls Try.prog 62 #[.slice (some ⟨K, a * 3, none⟩) 1 c] w (RetNd 0 (shiftF F a) (fun b => w.heap.size ≤ b) w) := by
  obtain ⟨c0, c1, c2⟩ := L a ha
  have lK := L.lt
  generalize hA : a * 3 = A at *
  have HA := Lib.hid hA
  clear hA L
  have OE := Own.new w 26 #[.slice none 0 0, .int .i64 (F a).1, .int .i64 (F a).2]
  go_enter Try.func62, Try.ntmps62
  go_wp2_with fail
  obtain ⟨b0, b1, b2, b3, b4, b5⟩ := Own.three OE
  exact bodyPost_ret (v := nodeV (.slice none 0 0) (F a).1 (F a).2) (by simp [results, Try.results62, go_sem, b0, b1, b2]) rfl ⟨_, _, _, rfl, ⟨⟨_, _, rfl⟩, rfl, rfl⟩, (Grew.refl w).alloc _⟩
theorem joinP {P k q : Nat} (h : k * P = q) (hk : k < 4) (hP : P ≤ 256) : wrap64 (((k : Int) + 1) * (P : Int)) = ((q + P : Nat) : Int) := by
  have h3 : q ≤ 3 * P := by rw [← h]; exact Nat.mul_le_mul_right _ (by omega)
  have e : ((k : Int) + 1) * (P : Int) = ((q + P : Nat) : Int) := by rw [← h]; rw [Int.add_mul, Int.one_mul]; omega
  rw [e]
  exact IntWalk.wrap64_in _ (by omega)
theorem joinQ {P k q : Nat} (h : k * P = q) (hk : k < 4) (hP : P ≤ 256) : wrap64 ((k : Int) * (P : Int)) = (q : Int) := by
  have h3 : q ≤ 3 * P := by rw [← h]; exact Nat.mul_le_mul_right _ (by omega)
  rw [← Int.natCast_mul, h]
  exact IntWalk.wrap64_in _ (by omega)
set_option maxHeartbeats 4000000 in
theorem join_node (h : Nat) (hh : h ≤ 3) (K : Nat) (F : Fen) (hF : GoodF F) (ih : ∀ (a c : Nat) (w : World), LeavesAt w K F → a + p4 h ≤ 256 → p4 h ≤ c → Calls Try.prog 62 #[.slice (some ⟨K, a * 3, none⟩) (p4 h) c] w (RetNd h (shiftF F a) (fun b => w.heap.size ≤ b) w))
    (a c : Nat) (w : World) (L : LeavesAt w K F) (ha : a + p4 (h + 1) ≤ 256) (hc : p4 (h + 1) ≤ c) :
    Calls Try.prog 62 #[.slice (some ⟨K, a * 3, none⟩) (p4 (h + 1)) c] w (RetNd (h + 1) (shiftF F a) (fun b => w.heap.size ≤ b) w) := by
  have HL := Lib.hid L
  have HG := Lib.hid (good_shift hF a)
  have IH := Lib.hid ih
  have hmk := make4
  have hp1 := p4_pos h
  have hp2 : p4 h ≤ 64 := p4_mono hh
  have e4 : p4 (h + 1) = 4 * p4 h := rfl
  have HS := Lib.hid (fun k => shift_sub F a h k)
  rw [e4] at ha hc ⊢
  obtain ⟨P, hP⟩ : ∃ P, p4 h = P := ⟨_, rfl⟩
  simp only [hP] at IH ha hc hp1 hp2 HS ⊢
  have lK := L.lt
  clear L hF ih e4 hP
  obtain ⟨A, hA⟩ : ∃ A, a * 3 = A := ⟨_, rfl⟩
  rw [hA]
  have HA := Lib.hid hA
  clear hA
  have e1 : (((4 * P : Nat) : Int) == 1) = false := by simp; omega
  obtain ⟨N, hN⟩ : ∃ N, 4 * P = N := ⟨_, rfl⟩
  rw [hN] at e1 hc ha ⊢
  have hN4 : (N : Int) / 4 = (P : Int) := by omega
  have HN := Lib.hid hN
  clear hN
  have n0 : (0 : Int) ≤ (N : Int) := by omega
  have n1 : (N : Int) ≤ 256 := by omega
  go_enter Try.func62, Try.ntmps62
  go_wp2_with fail
  obtain ⟨KK, hK⟩ : ∃ KK, w.heap.size + 1 = KK := ⟨_, rfl⟩
  have R0 := (Own.new w 26 #[.slice none 0 0, .int .i64 0, .int .i64 0]).alloc (.cells zero12 26)
  have K0 := Own.new2 w (.cells #[.slice none 0 0, .int .i64 0, .int .i64 0] 26) 26 zero12
  have G0 := ((Grew.refl w).alloc (.cells #[.slice none 0 0, .int .i64 0, .int .i64 0] 26)).alloc (.cells zero12 26)
  rw [hK] at K0 ⊢
  have HR0 := Lib.hid R0
  have HK0 := Lib.hid K0
  have HG0 := Lib.hid G0
  have HKK := Lib.hid hK
  clear R0 K0 G0 hK hmk e1
  go_loopw [18] (fun i' wr => ∃ (k : Nat) (cs : Array Value), i' = .int .i64 k ∧ k ≤ 4 ∧ KDone wr (fun b => KK < b) cs h (shiftF F a) k ∧ Own wr w.heap.size 26 #[.slice none 0 0, .int .i64 0, .int .i64 0] ∧ Own wr KK 26 cs ∧ Grew w wr) (fun i _ => 4 - (intOf i).toNat)
  case atStart => exact ⟨0, zero12, rfl, by omega, ⟨rfl, fun j hj => by omega⟩, HR0.out, HK0.out, HG0.out⟩
  case round =>
    clear HR0 HK0 HG0
    obtain ⟨k, cs, rfl, hk4, D, R, O, G⟩ := hrel
    have HD := Lib.hid D
    have hKw : w.heap.size < KK := by have := HKK.out; omega
    have hlO := O.lt
    clear D
    by_cases hlt : k < 4
    · have hk0 : (0 : Int) ≤ (k : Int) := by omega
      have hk1 : (k : Int) < 4 := by omega
      obtain ⟨q, hq⟩ : ∃ q, k * P = q := ⟨_, rfl⟩
      have hP2 : P ≤ 256 := by omega
      have hq3 : q ≤ 3 * P := by rw [← hq]; exact Nat.mul_le_mul_right _ (by omega)
      have hqc : q + P ≤ c := by have := HN.out; omega
      obtain ⟨r, hr⟩ : ∃ r, q + P = r := ⟨_, rfl⟩
      have hrc : r ≤ c := by omega
      have hqr : q ≤ r := by omega
      have hcq : ¬c = q := by omega
      have hPp : p4 h ≤ 64 := p4_mono hh
      have Hr := Lib.hid hr
      have hmul1 := joinQ hq hlt hP2
      have hmul2 := joinP hq hlt hP2
      rw [hr] at hmul2
      clear hr hqc hq3 hP2
      have Hq := Lib.hid hq
      clear hq
      go_wp2_with fail
      have ee : Calls Try.prog 62 #[.slice (some ⟨K, A + q * 3, none⟩) (r - q) (c - q)] wr (RetNd h (shiftF F (a + q)) (fun b => wr.heap.size ≤ b) wr) := by
        clear hmul1 hmul2
        have e1 : A + q * 3 = (a + q) * 3 := by have := HA.out; omega
        have e2 : r - q = P := by have := Hr.out; omega
        have h1 := Hr.out
        have h2 := HN.out
        have h3 : q ≤ 3 * P := by rw [← Hq.out]; exact Nat.mul_le_mul_right _ (by omega)
        rw [e1, e2]
        exact IH.out (a + q) (c - q) wr (HL.out.grew G) (by omega) (by omega)
      with_reducible refine ee.mono ?_
      rintro e w2 ⟨s2, x2, m2, rfl, n2, g2⟩
      clear ee hmul1 hmul2
      replace R := R.grew g2
      replace O := O.grew g2
      replace G := G.trans g2
      have D2 := HD.out.grew g2
      have g3 : wr.heap.size ≤ w2.heap.size := g2.size
      have n3 := n2.mono (q := fun b => KK < b) (fun b hb _ => Nat.lt_of_lt_of_le hlO hb)
      rw [← Hq.out, ← HS.out] at n3
      obtain ⟨a5, j5, c5, rfl⟩ := n3.slice
      have N3 := Lib.hid n3
      have HD2 := Lib.hid D2
      clear n2 n3 D2 g2
      obtain ⟨⟨u0, hu0⟩, ⟨u1, hu1⟩, ⟨u2, hu2⟩, f0, f1, f2⟩ := Own.spot3 O HD2.out.1 hlt
      go_wp2_with fail
      generalize hw3 : World.setCell (World.setCell (World.setCell _ _ _) _ _) _ _ = w3
      have D3 := KDone.off3 hw3 (HD2.out.next hlt N3.out) (fun b hb => by omega)
      have O3 := Own.put3 hw3 O
      have R3 := Own.off3 hw3 R (by omega)
      have G3 := Grew.off3 hw3 G (by omega)
      clear hw3
      go_roundw
      case rel => exact ⟨k + 1, _, by go_num, by omega, D3, R3, O3, G3⟩
      case measure => simp [intOf]; omega
    · have hk : k = 4 := by omega
      subst hk
      go_wp2_with fail
      have hk := HD.out.kids O
      have hkk : KidsF wr (fun b => KK ≤ b) h (shiftF F a) KK := fun j hj => by
        obtain ⟨s', x', m', c0, c1, c2, n⟩ := hk j hj
        exact ⟨s', x', m', c0, c1, c2, n.mono (fun b hb _ => by omega)⟩
      clear hk
      with_reducible refine (over_f h (shiftF F a) KK 4 (fun b => KK ≤ b) wr hkk (Nat.le_refl _) HG.out).mono ?_
      rintro e w1 ⟨s1, x1, m1, rfl, nn1, g1⟩
      replace R := R.grew g1
      replace G := G.trans g1
      obtain ⟨a1, j1, c1, rfl⟩ := nn1.slice
      have N1 := Lib.hid nn1
      clear g1 nn1 hkk O
      obtain ⟨R0, R1, R2, R3, R4, R5⟩ := R.three
      have hR2 : w.heap.size ≤ w.heap.size := Nat.le_refl _
      go_wp2_with fail
      have OE := ((R.set 0 (.slice a1 j1 c1)).set 1 (.int .i64 x1)).set 2 (.int .i64 m1)
      have GE := ((G.set (p := ⟨w.heap.size, 0, none⟩) hR2 (.slice a1 j1 c1)).set (p := ⟨w.heap.size, 1, none⟩) hR2 (.int .i64 x1)).set (p := ⟨w.heap.size, 2, none⟩) hR2 (.int .i64 m1)
      have nE := N1.out.keep (q := fun b => w.heap.size ≤ b) (w' := ((w1.setCell ⟨w.heap.size, 0, none⟩ (.slice a1 j1 c1)).setCell ⟨w.heap.size, 1, none⟩ (.int .i64 x1)).setCell ⟨w.heap.size, 2, none⟩ (.int .i64 m1)) (fun b hb _ => by omega) (fun b hb _ => by
        have hb2 : b ≠ w.heap.size := by omega
        rw [Below.heap_setCell _ ⟨w.heap.size, 2, none⟩ _ b hb2, Below.heap_setCell _ ⟨w.heap.size, 1, none⟩ _ b hb2, Below.heap_setCell _ ⟨w.heap.size, 0, none⟩ _ b hb2])
      clear R G R0 R1 R2 R3 R4 R5
      generalize World.setCell _ _ _ = E at OE GE nE ⊢
      obtain ⟨b0, b1, b2, b3, b4, b5⟩ := Own.three OE
      exact bodyPost_ret (v := nodeV (.slice a1 j1 c1) x1 m1) (by simp [results, Try.results62, go_sem, b0, b1, b2]) rfl ⟨_, _, _, rfl, nE, GE⟩
theorem join_f (K : Nat) (F : Fen) (hF : GoodF F) : ∀ (h a c : Nat) (w : World), h ≤ 4 → LeavesAt w K F → a + p4 h ≤ 256 → p4 h ≤ c →
    Calls Try.prog 62 #[.slice (some ⟨K, a * 3, none⟩) (p4 h) c] w (RetNd h (shiftF F a) (fun b => w.heap.size ≤ b) w)
  | 0, a, c, w, _, L, ha, _ => join_leaf K F a c w L (by have : p4 0 = 1 := rfl; omega)
  | h + 1, a, c, w, hh, L, ha, hc => join_node h (by omega) K F hF (fun a c w L ha hc => join_f K F hF h a c w (by omega) L ha hc) a c w L ha hc
end Go.Proofs.Ytdlhihllmidfeaa

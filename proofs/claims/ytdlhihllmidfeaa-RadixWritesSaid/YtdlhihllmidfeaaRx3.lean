/- radix.put. -/
import Derived.Test.YtdlhihllmidfeaaRx2
namespace Go.Proofs.Ytdlhihllmidfeaa
open Go.RowKit Go.Mine

theorem put_leaf (s : Value) (x m lx lm : Int) (pb : Option Addr) (c : Nat) (hs : ∃ a j c, s = .slice a j c) (w : World) : Calls Try.prog 73 #[nodeV s x m, .slice pb 0 c, nodeV (.slice none 0 0) lx lm] w (fun e w' => e = .returned (nodeV (.slice none 0 0) lx lm) ∧ Grew w w') := by
  obtain ⟨a, j, c', rfl⟩ := hs
  go_enter Try.func73, Try.ntmps73
  have O1 := Own.new2 (w.alloc (.cells #[.slice a j c', .int .i64 x, .int .i64 m] 26)) (.cells #[.slice none 0 0, .int .i64 lx, .int .i64 lm] 26) 26 #[.slice none 0 0, .int .i64 lx, .int .i64 lm]
  simp only [World.size_alloc] at O1
  go_wp2
  obtain ⟨b0, b1, b2, b3, b4, b5⟩ := O1.three
  exact bodyPost_ret (v := nodeV (.slice none 0 0) lx lm) (by simp [results, Try.results73, go_sem, b0, b1, b2]) rfl ⟨rfl, (((Grew.refl w).alloc _).alloc _).alloc _⟩
/-- The way to the entry i in a subtree of the height h. -/
def WayV (w : World) (v : Value) (h i : Nat) : Prop := (h = 0 ∧ ∃ a c, v = .slice a 0 c) ∨ (h ≠ 0 ∧ ∃ b o, v = .slice (some ⟨b, o, none⟩) h h ∧ WayAt w b o h i)
set_option maxHeartbeats 4000000 in
theorem put_node (h : Nat) (lx lm : Int) (i : Nat) (ih : ∀ (f : Fen) (s : Value) (x m : Int) (p : Nat → Prop) (wv : Value) (w : World), NodeF w p h f s x m → GoodF f → WayV w wv h i →
      Calls Try.prog 73 #[nodeV s x m, wv, nodeV (.slice none 0 0) lx lm] w (RetNd h (upd h f i (lx, lm)) (fun b => w.heap.size ≤ b) w))
    (f : Fen) (s : Value) (x m : Int) (p : Nat → Prop) (pb o : Nat) (w : World) (n : NodeF w p (h + 1) f s x m) (hf : GoodF f) (hl : LefOK (lx, lm)) (hw : WayAt w pb o (h + 1) i) (hh : ¬h = 0) :
    Calls Try.prog 73 #[nodeV s x m, .slice (some ⟨pb, o, none⟩) (h + 1) (h + 1), nodeV (.slice none 0 0) lx lm] w (RetNd (h + 1) (upd (h + 1) f i (lx, lm)) (fun b => w.heap.size ≤ b) w) := by
  obtain ⟨a, j, c0, rfl⟩ := n.slice
  have HN := Lib.hid n
  have HF := Lib.hid hf
  have HL := Lib.hid hl
  have HW := Lib.hid hw
  have hmk := make4
  clear n hf hl hw
  obtain ⟨F, hF⟩ : ∃ F, upd (h + 1) f i (lx, lm) = F := ⟨_, rfl⟩
  obtain ⟨d, hd⟩ : ∃ d, i / p4 h % 4 = d := ⟨_, rfl⟩
  have hd4 : d < 4 := by rw [← hd]; exact Nat.mod_lt _ (by omega)
  have HWh := Lib.hid (hd ▸ HW.out.head)
  have HIn := Lib.hid (show ∀ k, k = d → ∀ j, j < p4 h → upd h (sub h f k) i (lx, lm) j = sub h F k j from fun k hk => by rw [← hF]; exact upd_sub_in h f i _ (hk.trans hd.symm))
  have HOut := Lib.hid (show ∀ k, k ≠ d → ∀ j, j < p4 h → sub h f k j = sub h F k j from fun k hk => by rw [← hF]; exact upd_sub_out h f i _ (fun e => hk (e.trans hd)))
  have HGF := Lib.hid (show GoodF F from by rw [← hF]; exact HF.out.upd _ _ HL.out)
  rw [hF]
  clear hF hd
  go_enter Try.func73, Try.ntmps73
  have e0 : ((h : Int) + 1 == 0) = false := by simp; omega
  go_wp2_with fail
  obtain ⟨K, hK⟩ : ∃ K, w.heap.size + 1 + 1 + 1 = K := ⟨_, rfl⟩
  have B0 := (((Own.new w 26 #[.slice a j c0, .int .i64 x, .int .i64 m]).alloc (.cells #[.slice none 0 0, .int .i64 lx, .int .i64 lm] 26)).alloc (.cells #[.slice none 0 0, .int .i64 0, .int .i64 0] 26)).alloc (.cells zero12 26)
  have L0 := ((Own.new2 w (.cells #[.slice a j c0, .int .i64 x, .int .i64 m] 26) 26 #[.slice none 0 0, .int .i64 lx, .int .i64 lm]).alloc (.cells #[.slice none 0 0, .int .i64 0, .int .i64 0] 26)).alloc (.cells zero12 26)
  have R0 := (Own.new2 (w.alloc (.cells #[.slice a j c0, .int .i64 x, .int .i64 m] 26)) (.cells #[.slice none 0 0, .int .i64 lx, .int .i64 lm] 26) 26 #[.slice none 0 0, .int .i64 0, .int .i64 0]).alloc (.cells zero12 26)
  have K0 := Own.new2 ((w.alloc (.cells #[.slice a j c0, .int .i64 x, .int .i64 m] 26)).alloc (.cells #[.slice none 0 0, .int .i64 lx, .int .i64 lm] 26)) (.cells #[.slice none 0 0, .int .i64 0, .int .i64 0] 26) 26 zero12
  have G0 := ((((Grew.refl w).alloc (.cells #[.slice a j c0, .int .i64 x, .int .i64 m] 26)).alloc (.cells #[.slice none 0 0, .int .i64 lx, .int .i64 lm] 26)).alloc (.cells #[.slice none 0 0, .int .i64 0, .int .i64 0] 26)).alloc (.cells zero12 26)
  simp only [World.size_alloc] at R0 K0
  rw [hK] at K0 ⊢
  have HB0 := Lib.hid B0
  have HL0 := Lib.hid L0
  have HR0 := Lib.hid R0
  have HK0 := Lib.hid K0
  have HG0 := Lib.hid G0
  have HKK := Lib.hid hK
  clear B0 L0 R0 K0 G0 hK hmk e0
  go_loopw [16] (fun i' wr => ∃ (k : Nat) (cs : Array Value), i' = .int .i64 k ∧ k ≤ 4 ∧ KDone wr (fun b => K < b) cs h F k ∧ Own wr w.heap.size 26 #[.slice a j c0, .int .i64 x, .int .i64 m] ∧
    Own wr (w.heap.size + 1) 26 #[.slice none 0 0, .int .i64 lx, .int .i64 lm] ∧ Own wr (w.heap.size + 1 + 1) 26 #[.slice none 0 0, .int .i64 0, .int .i64 0] ∧ Own wr K 26 cs ∧ Grew w wr) (fun i _ => 4 - (intOf i).toNat)
  case atStart => exact ⟨0, zero12, rfl, by omega, ⟨rfl, fun j hj => by omega⟩, HB0.out, HL0.out, HR0.out, HK0.out, HG0.out⟩
  case round =>
    clear HB0 HL0 HR0 HK0 HG0
    obtain ⟨k, cs, rfl, hk4, D, B, L, R, O, G⟩ := hrel
    have HD := Lib.hid D
    have hKw : w.heap.size + 2 < K := by have := HKK.out; omega
    clear D
    obtain ⟨B0, B1, B2, B3, B4, B5⟩ := B.three
    obtain ⟨L0, L1, L2, L3, L4, L5⟩ := L.three
    have hlO := O.lt
    by_cases hlt : k < 4
    · have hk0 : (0 : Int) ≤ (k : Int) := by omega
      have hk1 : (k : Int) < 4 := by omega
      have hwl := World.block_lt_of_cell? w _ HWh.out
      have hw0 := (G.cells.1 pb o hwl).trans HWh.out
      by_cases hkd : k = d
      · subst hkd
        have s1 : (1 : Int) ≤ (h : Int) + 1 := by omega
        go_upto_region 8 with fail
        replace B := B.drew
        replace L := L.drew
        replace R := R.drew
        replace O := O.drew
        replace G := G.drew
        go_region_held3 (fun w' => w'.cell? ⟨w.heap.size, 0, none⟩ = some (.slice a j c0) ∧ w'.cell? ⟨w.heap.size, 1, none⟩ = some (.int .i64 x) ∧ w'.cell? ⟨w.heap.size, 2, none⟩ = some (.int .i64 m) ∧ w'.cell? ⟨w.heap.size + 1, 0, none⟩ = some (.slice none 0 0) ∧ w'.cell? ⟨w.heap.size + 1, 1, none⟩ = some (.int .i64 lx) ∧ w'.cell? ⟨w.heap.size + 1, 2, none⟩ = some (.int .i64 lm))
          (refine ⟨?_, ?_, ?_, ?_, ?_, ?_⟩ <;> (repeat (first | with_reducible assumption | with_reducible refine far_drew ?_ | with_reducible refine far_cell (by omega) ?_)))
          (first
          | (go_at_call 66; (with_reducible refine (kid_f h f _ _ _ k p wr.drew (HN.out.grew G) hlt).mono ?_); rintro e w1 ⟨y0, y1, y2, rfl, n1, g1⟩; replace B := B.grew g1; replace L := L.grew g1; replace R := R.grew g1; replace O := O.grew g1; replace G := G.trans g1; have D1 := Lib.hid (HD.out.grew ((Grew.refl wr).drew.trans g1)); have g9 := Lib.hid (show wr.heap.size ≤ w1.heap.size from g1.size); have N1 := Lib.hid n1; clear g1 n1 B0 B1 B2 B3 B4 B5 L0 L1 L2 L3 L4 L5; obtain ⟨B0, B1, B2, B3, B4, B5⟩ := B.three; obtain ⟨L0, L1, L2, L3, L4, L5⟩ := L.three)
          | (go_at_call 73; go_loud (refine (ih (sub h f k) y0 y1 y2 p _ w1 N1.out (HF.out.sub _ _) (.inr ⟨hh, pb, o + 1, rfl, (HW.out.grew G).tail⟩)).mono ?_); rintro e w2 ⟨s2, x2, m2, rfl, n2, g2⟩; replace B := B.grew g2; replace L := L.grew g2; replace R := R.grew g2; replace O := O.grew g2; replace G := G.trans g2; have D2 := D1.out.grew g2; have g3 : wr.heap.size ≤ w2.heap.size := Nat.le_trans g9.out g2.size; clear B0 B1 B2 B3 B4 B5 L0 L1 L2 L3 L4 L5; obtain ⟨B0, B1, B2, B3, B4, B5⟩ := B.three; obtain ⟨L0, L1, L2, L3, L4, L5⟩ := L.three; have n3 := (n2.mono (q := fun b => K < b) (fun b hb _ => Nat.lt_of_lt_of_le hlO (Nat.le_trans g9.out hb))).congr (HIn.out k rfl); obtain ⟨a5, j5, c5, rfl⟩ := n3.slice; have N3 := Lib.hid n3; have HD2 := Lib.hid D2; clear n2 n3 D2 g2; obtain ⟨⟨u0, hu0⟩, ⟨u1, hu1⟩, ⟨u2, hu2⟩, f0, f1, f2⟩ := Own.spot3 O HD2.out.1 hlt))
        generalize hw3 : World.setCell _ _ _ = w3
        have D3 := KDone.off3 hw3 (HD2.out.next hlt N3.out) (fun b hb => by omega)
        have O3 := Own.put3 hw3 O
        have B3' := Own.off3 hw3 B (by omega)
        have L3' := Own.off3 hw3 L (by omega)
        have R3' := Own.off3 hw3 R (by omega)
        have G3 := Grew.off3 hw3 G (by omega)
        clear hw3
        go_wp2_with fail
        go_roundw
        case rel => exact ⟨k + 1, _, by go_num, by omega, D3, B3', L3', R3', O3, G3⟩
        case measure => simp [intOf]; omega
      · have e1 : ((k : Int) == (d : Int)) = false := by simp; omega
        go_wp2_with fail
        with_reducible refine (kid_f h f _ _ _ k p wr (HN.out.grew G) hlt).mono ?_
        rintro e w1 ⟨y0, y1, y2, rfl, n1, g1⟩
        replace B := B.grew g1
        replace L := L.grew g1
        replace R := R.grew g1
        replace O := O.grew g1
        replace G := G.trans g1
        have D1 := Lib.hid (HD.out.grew g1)
        have g9 := Lib.hid (show wr.heap.size ≤ w1.heap.size from g1.size)
        have N1 := Lib.hid n1
        clear g1 n1 B0 B1 B2 B3 B4 B5 L0 L1 L2 L3 L4 L5 hw0
        go_wp2_with fail
        with_reducible refine (clone_f h _ y0 y1 y2 p w1 N1.out).mono ?_
        rintro e w2 ⟨s2, x2, m2, rfl, n2, g2⟩
        replace B := B.grew g2
        replace L := L.grew g2
        replace R := R.grew g2
        replace O := O.grew g2
        replace G := G.trans g2
        have D2 := D1.out.grew g2
        have g3 : wr.heap.size ≤ w2.heap.size := Nat.le_trans g9.out g2.size
        have n3 := (n2.mono (q := fun b => K < b) (fun b hb _ => Nat.lt_of_lt_of_le hlO (Nat.le_trans g9.out hb))).congr (HOut.out k hkd)
        obtain ⟨a5, j5, c5, rfl⟩ := n3.slice
        have N3 := Lib.hid n3
        have HD2 := Lib.hid D2
        clear n2 n3 D2 g2
        obtain ⟨⟨u0, hu0⟩, ⟨u1, hu1⟩, ⟨u2, hu2⟩, f0, f1, f2⟩ := Own.spot3 O HD2.out.1 hlt
        go_wp2_with fail
        generalize hw3 : World.setCell (World.setCell (World.setCell _ _ _) _ _) _ _ = w3
        have D3 := KDone.off3 hw3 (HD2.out.next hlt N3.out) (fun b hb => by omega)
        have O3 := Own.put3 hw3 O
        have B3' := Own.off3 hw3 B (by omega)
        have L3' := Own.off3 hw3 L (by omega)
        have R3' := Own.off3 hw3 R (by omega)
        have G3 := Grew.off3 hw3 G (by omega)
        clear hw3
        go_roundw
        case rel => exact ⟨k + 1, _, by go_num, by omega, D3, B3', L3', R3', O3, G3⟩
        case measure => simp [intOf]; omega
    · have hk : k = 4 := by omega
      subst hk
      go_wp2_with fail
      have hk := HD.out.kids O
      have hkk : KidsF wr (fun b => K ≤ b) h F K := fun j hj => by
        obtain ⟨s', x', m', c0, c1, c2, n⟩ := hk j hj
        exact ⟨s', x', m', c0, c1, c2, n.mono (fun b hb _ => by omega)⟩
      clear hk
      with_reducible refine (over_f h F K 4 (fun b => K ≤ b) wr hkk (Nat.le_refl _) HGF.out).mono ?_
      rintro e w1 ⟨s1, x1, m1, rfl, n1, g1⟩
      replace R := R.grew g1
      replace G := G.trans g1
      obtain ⟨a1, j1, c1, rfl⟩ := n1.slice
      have N1 := Lib.hid n1
      clear g1 n1 hkk B L O B0 B1 B2 B3 B4 B5 L0 L1 L2 L3 L4 L5
      obtain ⟨R0, R1, R2, R3, R4, R5⟩ := R.three
      have hR2 : w.heap.size ≤ w.heap.size + 1 + 1 := by omega
      go_wp2_with fail
      have OE := ((R.set 0 (.slice a1 j1 c1)).set 1 (.int .i64 x1)).set 2 (.int .i64 m1)
      have GE := ((G.set (p := ⟨w.heap.size + 1 + 1, 0, none⟩) hR2 (.slice a1 j1 c1)).set (p := ⟨w.heap.size + 1 + 1, 1, none⟩) hR2 (.int .i64 x1)).set (p := ⟨w.heap.size + 1 + 1, 2, none⟩) hR2 (.int .i64 m1)
      have nE := N1.out.keep (q := fun b => w.heap.size ≤ b) (w' := ((w1.setCell ⟨w.heap.size + 1 + 1, 0, none⟩ (.slice a1 j1 c1)).setCell ⟨w.heap.size + 1 + 1, 1, none⟩ (.int .i64 x1)).setCell ⟨w.heap.size + 1 + 1, 2, none⟩ (.int .i64 m1)) (fun b hb _ => by omega) (fun b hb _ => by
        have hb2 : b ≠ w.heap.size + 1 + 1 := by omega
        rw [Below.heap_setCell _ ⟨w.heap.size + 1 + 1, 2, none⟩ _ b hb2, Below.heap_setCell _ ⟨w.heap.size + 1 + 1, 1, none⟩ _ b hb2, Below.heap_setCell _ ⟨w.heap.size + 1 + 1, 0, none⟩ _ b hb2])
      clear R G R0 R1 R2 R3 R4 R5
      generalize World.setCell _ _ _ = E at OE GE nE ⊢
      obtain ⟨b0, b1, b2, b3, b4, b5⟩ := Own.three OE
      exact bodyPost_ret (v := nodeV (.slice a1 j1 c1) x1 m1) (by simp [results, Try.results73, go_sem, b0, b1, b2]) rfl ⟨_, _, _, rfl, nE, GE⟩
set_option maxHeartbeats 4000000 in
theorem put_one (lx lm : Int) (i : Nat) (ih : ∀ (f : Fen) (s : Value) (x m : Int) (p : Nat → Prop) (wv : Value) (w : World), NodeF w p 0 f s x m → GoodF f → WayV w wv 0 i →
      Calls Try.prog 73 #[nodeV s x m, wv, nodeV (.slice none 0 0) lx lm] w (RetNd 0 (upd 0 f i (lx, lm)) (fun b => w.heap.size ≤ b) w))
    (f : Fen) (s : Value) (x m : Int) (p : Nat → Prop) (pb o : Nat) (w : World) (n : NodeF w p 1 f s x m) (hf : GoodF f) (hl : LefOK (lx, lm)) (hw : WayAt w pb o 1 i) :
    Calls Try.prog 73 #[nodeV s x m, .slice (some ⟨pb, o, none⟩) 1 1, nodeV (.slice none 0 0) lx lm] w (RetNd 1 (upd 1 f i (lx, lm)) (fun b => w.heap.size ≤ b) w) := by
  obtain ⟨a, j, c0, rfl⟩ := n.slice
  have HN := Lib.hid n
  have HF := Lib.hid hf
  have HL := Lib.hid hl
  have HW := Lib.hid hw
  have hmk := make4
  clear n hf hl hw
  obtain ⟨F, hF⟩ : ∃ F, upd 1 f i (lx, lm) = F := ⟨_, rfl⟩
  obtain ⟨d, hd⟩ : ∃ d, i / p4 0 % 4 = d := ⟨_, rfl⟩
  have hd4 : d < 4 := by rw [← hd]; exact Nat.mod_lt _ (by omega)
  have HWh := Lib.hid (hd ▸ HW.out.head)
  have HIn := Lib.hid (show ∀ k, k = d → ∀ j, j < p4 0 → upd 0 (sub 0 f k) i (lx, lm) j = sub 0 F k j from fun k hk => by rw [← hF]; exact upd_sub_in 0 f i _ (hk.trans hd.symm))
  have HOut := Lib.hid (show ∀ k, k ≠ d → ∀ j, j < p4 0 → sub 0 f k j = sub 0 F k j from fun k hk => by rw [← hF]; exact upd_sub_out 0 f i _ (fun e => hk (e.trans hd)))
  have HGF := Lib.hid (show GoodF F from by rw [← hF]; exact HF.out.upd _ _ HL.out)
  rw [hF]
  clear hF hd
  go_enter Try.func73, Try.ntmps73
  go_wp2_with fail
  obtain ⟨K, hK⟩ : ∃ K, w.heap.size + 1 + 1 + 1 = K := ⟨_, rfl⟩
  have B0 := (((Own.new w 26 #[.slice a j c0, .int .i64 x, .int .i64 m]).alloc (.cells #[.slice none 0 0, .int .i64 lx, .int .i64 lm] 26)).alloc (.cells #[.slice none 0 0, .int .i64 0, .int .i64 0] 26)).alloc (.cells zero12 26)
  have L0 := ((Own.new2 w (.cells #[.slice a j c0, .int .i64 x, .int .i64 m] 26) 26 #[.slice none 0 0, .int .i64 lx, .int .i64 lm]).alloc (.cells #[.slice none 0 0, .int .i64 0, .int .i64 0] 26)).alloc (.cells zero12 26)
  have R0 := (Own.new2 (w.alloc (.cells #[.slice a j c0, .int .i64 x, .int .i64 m] 26)) (.cells #[.slice none 0 0, .int .i64 lx, .int .i64 lm] 26) 26 #[.slice none 0 0, .int .i64 0, .int .i64 0]).alloc (.cells zero12 26)
  have K0 := Own.new2 ((w.alloc (.cells #[.slice a j c0, .int .i64 x, .int .i64 m] 26)).alloc (.cells #[.slice none 0 0, .int .i64 lx, .int .i64 lm] 26)) (.cells #[.slice none 0 0, .int .i64 0, .int .i64 0] 26) 26 zero12
  have G0 := ((((Grew.refl w).alloc (.cells #[.slice a j c0, .int .i64 x, .int .i64 m] 26)).alloc (.cells #[.slice none 0 0, .int .i64 lx, .int .i64 lm] 26)).alloc (.cells #[.slice none 0 0, .int .i64 0, .int .i64 0] 26)).alloc (.cells zero12 26)
  simp only [World.size_alloc] at R0 K0
  rw [hK] at K0 ⊢
  have HB0 := Lib.hid B0
  have HL0 := Lib.hid L0
  have HR0 := Lib.hid R0
  have HK0 := Lib.hid K0
  have HG0 := Lib.hid G0
  have HKK := Lib.hid hK
  clear B0 L0 R0 K0 G0 hK hmk
  go_loopw [16] (fun i' wr => ∃ (k : Nat) (cs : Array Value), i' = .int .i64 k ∧ k ≤ 4 ∧ KDone wr (fun b => K < b) cs 0 F k ∧ Own wr w.heap.size 26 #[.slice a j c0, .int .i64 x, .int .i64 m] ∧
    Own wr (w.heap.size + 1) 26 #[.slice none 0 0, .int .i64 lx, .int .i64 lm] ∧ Own wr (w.heap.size + 1 + 1) 26 #[.slice none 0 0, .int .i64 0, .int .i64 0] ∧ Own wr K 26 cs ∧ Grew w wr) (fun i _ => 4 - (intOf i).toNat)
  case atStart => exact ⟨0, zero12, rfl, by omega, ⟨rfl, fun j hj => by omega⟩, HB0.out, HL0.out, HR0.out, HK0.out, HG0.out⟩
  case round =>
    clear HB0 HL0 HR0 HK0 HG0
    obtain ⟨k, cs, rfl, hk4, D, B, L, R, O, G⟩ := hrel
    have HD := Lib.hid D
    have hKw : w.heap.size + 2 < K := by have := HKK.out; omega
    clear D
    obtain ⟨B0, B1, B2, B3, B4, B5⟩ := B.three
    obtain ⟨L0, L1, L2, L3, L4, L5⟩ := L.three
    have hlO := O.lt
    by_cases hlt : k < 4
    · have hk0 : (0 : Int) ≤ (k : Int) := by omega
      have hk1 : (k : Int) < 4 := by omega
      have hwl := World.block_lt_of_cell? w _ HWh.out
      have hw0 := (G.cells.1 pb o hwl).trans HWh.out
      by_cases hkd : k = d
      · subst hkd
        have s1 : (1 : Int) ≤ (1 : Int) := by omega
        go_upto_region 8 with fail
        replace B := B.drew
        replace L := L.drew
        replace R := R.drew
        replace O := O.drew
        replace G := G.drew
        go_region_held3 (fun w' => w'.cell? ⟨w.heap.size, 0, none⟩ = some (.slice a j c0) ∧ w'.cell? ⟨w.heap.size, 1, none⟩ = some (.int .i64 x) ∧ w'.cell? ⟨w.heap.size, 2, none⟩ = some (.int .i64 m) ∧ w'.cell? ⟨w.heap.size + 1, 0, none⟩ = some (.slice none 0 0) ∧ w'.cell? ⟨w.heap.size + 1, 1, none⟩ = some (.int .i64 lx) ∧ w'.cell? ⟨w.heap.size + 1, 2, none⟩ = some (.int .i64 lm))
          (refine ⟨?_, ?_, ?_, ?_, ?_, ?_⟩ <;> (repeat (first | with_reducible assumption | with_reducible refine far_drew ?_ | with_reducible refine far_cell (by omega) ?_)))
          (first
          | (go_at_call 66; (with_reducible refine (kid_f 0 f _ _ _ k p wr.drew (HN.out.grew G) hlt).mono ?_); rintro e w1 ⟨y0, y1, y2, rfl, n1, g1⟩; replace B := B.grew g1; replace L := L.grew g1; replace R := R.grew g1; replace O := O.grew g1; replace G := G.trans g1; have D1 := Lib.hid (HD.out.grew ((Grew.refl wr).drew.trans g1)); have g9 := Lib.hid (show wr.heap.size ≤ w1.heap.size from g1.size); have N1 := Lib.hid n1; clear g1 n1 B0 B1 B2 B3 B4 B5 L0 L1 L2 L3 L4 L5; obtain ⟨B0, B1, B2, B3, B4, B5⟩ := B.three; obtain ⟨L0, L1, L2, L3, L4, L5⟩ := L.three)
          | (go_at_call 73; go_loud (refine (ih (sub 0 f k) y0 y1 y2 p _ w1 N1.out (HF.out.sub _ _) (.inl ⟨rfl, _, _, rfl⟩)).mono ?_); rintro e w2 ⟨s2, x2, m2, rfl, n2, g2⟩; replace B := B.grew g2; replace L := L.grew g2; replace R := R.grew g2; replace O := O.grew g2; replace G := G.trans g2; have D2 := D1.out.grew g2; have g3 : wr.heap.size ≤ w2.heap.size := Nat.le_trans g9.out g2.size; clear B0 B1 B2 B3 B4 B5 L0 L1 L2 L3 L4 L5; obtain ⟨B0, B1, B2, B3, B4, B5⟩ := B.three; obtain ⟨L0, L1, L2, L3, L4, L5⟩ := L.three; have n3 := (n2.mono (q := fun b => K < b) (fun b hb _ => Nat.lt_of_lt_of_le hlO (Nat.le_trans g9.out hb))).congr (HIn.out k rfl); obtain ⟨a5, j5, c5, rfl⟩ := n3.slice; have N3 := Lib.hid n3; have HD2 := Lib.hid D2; clear n2 n3 D2 g2; obtain ⟨⟨u0, hu0⟩, ⟨u1, hu1⟩, ⟨u2, hu2⟩, f0, f1, f2⟩ := Own.spot3 O HD2.out.1 hlt))
        generalize hw3 : World.setCell _ _ _ = w3
        have D3 := KDone.off3 hw3 (HD2.out.next hlt N3.out) (fun b hb => by omega)
        have O3 := Own.put3 hw3 O
        have B3' := Own.off3 hw3 B (by omega)
        have L3' := Own.off3 hw3 L (by omega)
        have R3' := Own.off3 hw3 R (by omega)
        have G3 := Grew.off3 hw3 G (by omega)
        clear hw3
        go_wp2_with fail
        go_roundw
        case rel => exact ⟨k + 1, _, by go_num, by omega, D3, B3', L3', R3', O3, G3⟩
        case measure => simp [intOf]; omega
      · have e1 : ((k : Int) == (d : Int)) = false := by simp; omega
        go_wp2_with fail
        with_reducible refine (kid_f 0 f _ _ _ k p wr (HN.out.grew G) hlt).mono ?_
        rintro e w1 ⟨y0, y1, y2, rfl, n1, g1⟩
        replace B := B.grew g1
        replace L := L.grew g1
        replace R := R.grew g1
        replace O := O.grew g1
        replace G := G.trans g1
        have D1 := Lib.hid (HD.out.grew g1)
        have g9 := Lib.hid (show wr.heap.size ≤ w1.heap.size from g1.size)
        have N1 := Lib.hid n1
        clear g1 n1 B0 B1 B2 B3 B4 B5 L0 L1 L2 L3 L4 L5 hw0
        go_wp2_with fail
        with_reducible refine (clone_f 0 _ y0 y1 y2 p w1 N1.out).mono ?_
        rintro e w2 ⟨s2, x2, m2, rfl, n2, g2⟩
        replace B := B.grew g2
        replace L := L.grew g2
        replace R := R.grew g2
        replace O := O.grew g2
        replace G := G.trans g2
        have D2 := D1.out.grew g2
        have g3 : wr.heap.size ≤ w2.heap.size := Nat.le_trans g9.out g2.size
        have n3 := (n2.mono (q := fun b => K < b) (fun b hb _ => Nat.lt_of_lt_of_le hlO (Nat.le_trans g9.out hb))).congr (HOut.out k hkd)
        obtain ⟨a5, j5, c5, rfl⟩ := n3.slice
        have N3 := Lib.hid n3
        have HD2 := Lib.hid D2
        clear n2 n3 D2 g2
        obtain ⟨⟨u0, hu0⟩, ⟨u1, hu1⟩, ⟨u2, hu2⟩, f0, f1, f2⟩ := Own.spot3 O HD2.out.1 hlt
        go_wp2_with fail
        generalize hw3 : World.setCell (World.setCell (World.setCell _ _ _) _ _) _ _ = w3
        have D3 := KDone.off3 hw3 (HD2.out.next hlt N3.out) (fun b hb => by omega)
        have O3 := Own.put3 hw3 O
        have B3' := Own.off3 hw3 B (by omega)
        have L3' := Own.off3 hw3 L (by omega)
        have R3' := Own.off3 hw3 R (by omega)
        have G3 := Grew.off3 hw3 G (by omega)
        clear hw3
        go_roundw
        case rel => exact ⟨k + 1, _, by go_num, by omega, D3, B3', L3', R3', O3, G3⟩
        case measure => simp [intOf]; omega
    · have hk : k = 4 := by omega
      subst hk
      go_wp2_with fail
      have hk := HD.out.kids O
      have hkk : KidsF wr (fun b => K ≤ b) 0 F K := fun j hj => by
        obtain ⟨s', x', m', c0, c1, c2, n⟩ := hk j hj
        exact ⟨s', x', m', c0, c1, c2, n.mono (fun b hb _ => by omega)⟩
      clear hk
      with_reducible refine (over_f 0 F K 4 (fun b => K ≤ b) wr hkk (Nat.le_refl _) HGF.out).mono ?_
      rintro e w1 ⟨s1, x1, m1, rfl, n1, g1⟩
      replace R := R.grew g1
      replace G := G.trans g1
      obtain ⟨a1, j1, c1, rfl⟩ := n1.slice
      have N1 := Lib.hid n1
      clear g1 n1 hkk B L O B0 B1 B2 B3 B4 B5 L0 L1 L2 L3 L4 L5
      obtain ⟨R0, R1, R2, R3, R4, R5⟩ := R.three
      have hR2 : w.heap.size ≤ w.heap.size + 1 + 1 := by omega
      go_wp2_with fail
      have OE := ((R.set 0 (.slice a1 j1 c1)).set 1 (.int .i64 x1)).set 2 (.int .i64 m1)
      have GE := ((G.set (p := ⟨w.heap.size + 1 + 1, 0, none⟩) hR2 (.slice a1 j1 c1)).set (p := ⟨w.heap.size + 1 + 1, 1, none⟩) hR2 (.int .i64 x1)).set (p := ⟨w.heap.size + 1 + 1, 2, none⟩) hR2 (.int .i64 m1)
      have nE := N1.out.keep (q := fun b => w.heap.size ≤ b) (w' := ((w1.setCell ⟨w.heap.size + 1 + 1, 0, none⟩ (.slice a1 j1 c1)).setCell ⟨w.heap.size + 1 + 1, 1, none⟩ (.int .i64 x1)).setCell ⟨w.heap.size + 1 + 1, 2, none⟩ (.int .i64 m1)) (fun b hb _ => by omega) (fun b hb _ => by
        have hb2 : b ≠ w.heap.size + 1 + 1 := by omega
        rw [Below.heap_setCell _ ⟨w.heap.size + 1 + 1, 2, none⟩ _ b hb2, Below.heap_setCell _ ⟨w.heap.size + 1 + 1, 1, none⟩ _ b hb2, Below.heap_setCell _ ⟨w.heap.size + 1 + 1, 0, none⟩ _ b hb2])
      clear R G R0 R1 R2 R3 R4 R5
      generalize World.setCell _ _ _ = E at OE GE nE ⊢
      obtain ⟨b0, b1, b2, b3, b4, b5⟩ := Own.three OE
      exact bodyPost_ret (v := nodeV (.slice a1 j1 c1) x1 m1) (by simp [results, Try.results73, go_sem, b0, b1, b2]) rfl ⟨_, _, _, rfl, nE, GE⟩
end Go.Proofs.Ytdlhihllmidfeaa

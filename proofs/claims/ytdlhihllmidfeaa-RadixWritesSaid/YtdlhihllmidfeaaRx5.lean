/- radix.find. -/
import Derived.Test.YtdlhihllmidfeaaRx4
namespace Go.Proofs.Ytdlhihllmidfeaa
open Go.RowKit Go.Mine

abbrev treeV (h : Nat) (s : Value) (x m : Int) : Value := .agg #[.int .i64 h, s, .int .i64 x, .int .i64 m]
/-- It returns a leaf, or the empty node. -/
def RetLf (l : Lef) (w : World) (e : Ending) (w' : World) : Prop := ∃ a c, e = .returned (nodeV (.slice a 0 c) l.1 l.2) ∧ Grew w w'
theorem WayV.cellAt {w : World} {a : Option Addr} {h i : Nat} (v : WayV w (.slice a h h) h i) (k : Nat) (hk : k < h) : ∃ b o, a = some ⟨b, o, none⟩ ∧ w.cell? ⟨b, o + k, none⟩ = some (.int .i64 ((i / p4 (h - 1 - k) % 4 : Nat) : Int)) := by
  rcases v with ⟨h0, -⟩ | ⟨-, b, o, e, hw⟩
  · omega
  · injection e with e1
    exact ⟨b, o, e1, hw k hk⟩
theorem NodeF.far3 {w w' : World} {q : Nat → Prop} {K h : Nat} {f : Fen} {u : Value} {y z : Int} {s x m : Value} (n : NodeF w q h f u y z) (hw : ((w.setCell ⟨K, 0, none⟩ s).setCell ⟨K, 1, none⟩ x).setCell ⟨K, 2, none⟩ m = w') (hq : ∀ b, q b → b ≠ K) : NodeF w' q h f u y z := n.keep (fun _ a _ => a) fun b hb _ => by
  rw [← hw, Below.heap_setCell _ ⟨K, 2, none⟩ _ b (hq b hb), Below.heap_setCell _ ⟨K, 1, none⟩ _ b (hq b hb), Below.heap_setCell _ ⟨K, 0, none⟩ _ b (hq b hb)]
/-- A way in blocks other than K stays while K is written. -/
def WayOff (w : World) (a : Option Addr) (h i K : Nat) : Prop := WayV w (.slice a h h) h i ∧ ∀ b o, a = some ⟨b, o, none⟩ → b ≠ K
theorem WayOff.grew {w w' : World} {a : Option Addr} {h i K : Nat} (v : WayOff w a h i K) (g : Grew w w') : WayOff w' a h i K := by
  refine ⟨?_, v.2⟩
  rcases v.1 with h0 | ⟨h0, b, o, e, hw⟩
  · exact .inl h0
  · exact .inr ⟨h0, b, o, e, hw.grew g⟩
theorem WayOff.far3 {w w' : World} {a : Option Addr} {h i K : Nat} {s x m : Value} (v : WayOff w a h i K) (hw : ((w.setCell ⟨K, 0, none⟩ s).setCell ⟨K, 1, none⟩ x).setCell ⟨K, 2, none⟩ m = w') : WayOff w' a h i K := by
  refine ⟨?_, v.2⟩
  rcases v.1 with h0 | ⟨h0, b, o, e, hk⟩
  · exact .inl h0
  · injection e with e1 e2
    have hne := v.2 b o e1
    refine .inr ⟨h0, b, o, by rw [e1], fun j hj => ?_⟩
    rw [← hw]
    exact far_cell (Ne.symm hne) (far_cell (Ne.symm hne) (far_cell (Ne.symm hne) (hk j hj)))
set_option maxHeartbeats 4000000 in
theorem find_f (h : Nat) (f : Fen) (s : Value) (x m : Int) (i : Nat) (p : Nat → Prop) (w : World) (n : NodeF w p h f s x m) (hh : h ≤ 4) (hi : i < 256) (ho : p4 h ≤ i → f i = (0, 0)) :
    Calls Try.prog 50 #[treeV h s x m, .int .i64 i] w (RetLf (f i) w) := by
  obtain ⟨a, j, c, rfl⟩ := n.slice
  have HN := Lib.hid n.old
  have HO := Lib.hid ho
  clear n ho
  go_enter Try.func50, Try.ntmps50
  have T := Own.new w 28 #[.int .i64 h, .slice a j c, .int .i64 x, .int .i64 m]
  have R := Own.new2 w (.cells #[.int .i64 h, .slice a j c, .int .i64 x, .int .i64 m] 28) 26 #[.slice none 0 0, .int .i64 0, .int .i64 0]
  replace T := T.alloc (.cells #[.slice none 0 0, .int .i64 0, .int .i64 0] 26)
  have G := ((Grew.refl w).alloc (.cells #[.int .i64 h, .slice a j c, .int .i64 x, .int .i64 m] 28)).alloc (.cells #[.slice none 0 0, .int .i64 0, .int .i64 0] 26)
  go_wp2_with fail
  with_reducible refine (pathTo_any i _ (by omega) (by omega)).mono ?_
  rintro e w1 ⟨rfl, g1⟩
  replace T := T.grew g1
  replace R := R.grew g1
  replace G := G.trans g1
  clear g1
  obtain ⟨T0, T1, T2, T3, T4, T5, T6, T7⟩ := T.four
  have hR := R.lt
  have hT := T.lt
  have P := Own.new w1 82 #[.int .i64 ((i : Int) / 64 % 4), .int .i64 ((i : Int) / 16 % 4), .int .i64 ((i : Int) / 4 % 4), .int .i64 ((i : Int) % 4)]
  go_wp2_with fail
  with_reducible refine (within_any h i _ hh (by omega) (by omega)).mono ?_
  rintro e w2 ⟨rfl, g2⟩
  replace P := P.grew g2
  replace g2 := ((Grew.refl w1).alloc _).trans g2
  replace T := T.grew g2
  replace R := R.grew g2
  replace G := G.trans g2
  clear g2 T0 T1 T2 T3 T4 T5 T6 T7
  obtain ⟨T0, T1, T2, T3, T4, T5, T6, T7⟩ := T.four
  obtain ⟨R0, R1, R2, R3, R4, R5⟩ := R.three
  have hR2 := R.lt
  have hT2 := T.lt
  have hP2 := P.lt
  by_cases hin : i < p4 h
  · rw [show inB h (i : Int) = true from decide_eq_true (by omega)]
    obtain ⟨P0, P1, P2, P3, -⟩ := P.four
    have N0 := Own.new w2 26 #[.slice a j c, .int .i64 x, .int .i64 m]
    go_wp2_with fail
    with_reducible refine (below_any h i _ hh).mono ?_
    rintro e w3 ⟨v, rfl, hv, ⟨av, rfl, hav⟩, g3⟩
    replace N0 := N0.grew g3
    replace g3 := ((Grew.refl w2).alloc _).trans g3
    replace T := T.grew g3
    replace R := R.grew g3
    replace G := G.trans g3
    have hvo : WayOff w3 av h i w2.heap.size := ⟨hv, fun b o e => by have := hav b o e; rw [World.size_alloc] at this; omega⟩
    have hNR : w2.heap.size ≠ w.heap.size + 1 := by omega
    have hwN : w.heap.size ≤ w2.heap.size := by omega
    obtain ⟨N, hN⟩ : ∃ N, w2.heap.size = N := ⟨_, rfl⟩
    clear hv hav g3 T0 T1 T2 T3 T4 T5 T6 T7 R0 R1 R2 R3 R4 R5 P0 P1 P2 P3 P
    rw [hN] at N0 hNR hwN hvo ⊢
    clear hN
    have HV := Lib.hid hvo
    clear hvo
    go_wp2_with fail
    have HN0 := Lib.hid N0
    have HR0 := Lib.hid R
    have HG0 := Lib.hid G
    clear N0 R G
    go_loopw [24] (fun i' wr => ∃ (k : Nat) (g : Fen) (s' : Value) (x' m' : Int), i' = .int .i64 k ∧ k ≤ h ∧ Own wr N 26 #[s', .int .i64 x', .int .i64 m'] ∧ NodeF wr (fun b => b < w.heap.size) (h - k) g s' x' m' ∧ g (i % p4 (h - k)) = f (i % p4 h) ∧
      Own wr (w.heap.size + 1) 26 #[.slice none 0 0, .int .i64 0, .int .i64 0] ∧ WayOff wr av h i N ∧ Grew w wr) (fun i _ => h - (intOf i).toNat)
    case atStart => exact ⟨0, f, _, x, m, rfl, by omega, HN0.out, HN.out.grew HG0.out, rfl, HR0.out, HV.out, HG0.out⟩
    case round =>
      clear HN0 HR0 HV HG0
      obtain ⟨k, g, s', x', m', rfl, hk, N1, n1, he, R, V, G⟩ := hrel
      have HV := Lib.hid V
      clear V
      obtain ⟨a', j', c', rfl⟩ := n1.slice
      have Hn := Lib.hid n1
      have He := Lib.hid he
      clear n1 he
      obtain ⟨M0, M1, M2, M3, M4, M5⟩ := N1.three
      by_cases hlt : k < h
      · obtain ⟨b, o, rfl, hd⟩ := HV.out.1.cellAt k hlt
        have hd2 := hd
        obtain ⟨q, hq⟩ : ∃ q, h - k = q + 1 := ⟨h - k - 1, by omega⟩
        have hq2 : h - 1 - k = q := by omega
        rw [hq2] at hd2
        have hd4 : i / p4 q % 4 < 4 := Nat.mod_lt _ (by omega)
        have Hq := Lib.hid hq
        obtain ⟨d, hdd⟩ : ∃ d, i / p4 q % 4 = d := ⟨_, rfl⟩
        rw [hdd] at hd2 hd4
        have Hd := Lib.hid hdd
        have i0 : (0 : Int) ≤ (k : Int) := by omega
        have i1 : (k : Int) < (h : Int) := by omega
        clear hd hq hq2 hdd
        go_wp2_with fail
        with_reducible refine (kid_f q g _ _ _ d (fun b => b < w.heap.size) _ (Hq.out ▸ Hn.out) hd4).mono ?_
        rintro e w4 ⟨s2, x2, m2, rfl, n2, g2⟩
        obtain ⟨a2, j2, c2, rfl⟩ := n2.slice
        have N2 := N1.grew g2
        replace R := R.grew g2
        replace G := G.trans g2
        have HV2 := Lib.hid (HV.out.grew g2)
        have Hn2 := Lib.hid n2
        clear n2 g2 M0 M1 M2 M3 M4 M5 N1 hd2 HV
        obtain ⟨M0, M1, M2, M3, M4, M5⟩ := N2.three
        go_wp2_with fail
        generalize hw5 : World.setCell (World.setCell (World.setCell _ _ _) _ _) _ _ = w5
        have N5 := N2.store3 hw5
        have R5 := R.far3 hw5 (Ne.symm hNR)
        have n5 := NodeF.far3 Hn2.out hw5 (fun b hb => by omega)
        have G5 : Grew w w5 := Grew.far3 G hw5 hwN
        have V5 := HV2.out.far3 hw5
        clear hw5
        go_roundw
        case rel =>
          have hkq : h - (k + 1) = q := by have := Hq.out; omega
          refine ⟨k + 1, sub q g d, _, x2, m2, by go_num, by omega, N5, ?_, ?_, R5, V5, G5⟩
          · rw [hkq]; exact n5
          · rw [hkq, ← He.out, Hq.out, mod_p4, ← Hd.out]; rfl
        case measure => simp [intOf]; omega
      · have hkh : k = h := by omega
        subst hkh
        obtain ⟨R0, R1, R2, R3, R4, R5⟩ := R.three
        go_wp2_with fail
        have OE := ((R.set 0 (.slice a' j' c')).set 1 (.int .i64 x')).set 2 (.int .i64 m')
        have hwR : w.heap.size ≤ w.heap.size + 1 := by omega
        have GE := ((G.set (p := ⟨w.heap.size + 1, 0, none⟩) hwR (.slice a' j' c')).set (p := ⟨w.heap.size + 1, 1, none⟩) hwR (.int .i64 x')).set (p := ⟨w.heap.size + 1, 2, none⟩) hwR (.int .i64 m')
        clear R G R0 R1 R2 R3 R4 R5 M0 M1 M2 M3 M4 M5 N1
        generalize World.setCell _ _ _ = E at OE GE ⊢
        obtain ⟨b0, b1, b2, b3, b4, b5⟩ := Own.three OE
        have e1 := Hn.out
        have e2 := He.out
        rw [Nat.sub_self] at e1 e2
        obtain ⟨⟨a9, c9, e3⟩, e4, e5⟩ := e1
        rw [show i % p4 0 = 0 from Nat.mod_one i, Nat.mod_eq_of_lt hin] at e2
        refine bodyPost_ret (v := nodeV (.slice a' j' c') x' m') (by simp [results, Try.results50, go_sem, b0, b1, b2]) rfl ⟨a9, c9, ?_, GE⟩
        rw [e3, e4, e5, e2]
  · rw [show inB h (i : Int) = false from decide_eq_false (by omega)]
    have e := HO.out (by omega)
    go_wp2_with fail
    have OE := ((R.set 0 (.slice none 0 0)).set 1 (.int .i64 0)).set 2 (.int .i64 0)
    have hwR : w.heap.size ≤ w.heap.size + 1 := by omega
    have GE := ((G.set (p := ⟨w.heap.size + 1, 0, none⟩) hwR (.slice none 0 0)).set (p := ⟨w.heap.size + 1, 1, none⟩) hwR (.int .i64 0)).set (p := ⟨w.heap.size + 1, 2, none⟩) hwR (.int .i64 0)
    clear R G R0 R1 R2 R3 R4 R5 P T T0 T1 T2 T3 T4 T5 T6 T7
    generalize World.setCell _ _ _ = E at OE GE ⊢
    obtain ⟨b0, b1, b2, b3, b4, b5⟩ := Own.three OE
    refine bodyPost_ret (v := nodeV (.slice none 0 0) 0 0) (by simp [results, Try.results50, go_sem, b0, b1, b2]) rfl ⟨none, 0, ?_, GE⟩
    rw [e]
end Go.Proofs.Ytdlhihllmidfeaa

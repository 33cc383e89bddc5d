/- radix.over, radix.clone, radix.put. -/
import Derived.Test.YtdlhihllmidfeaaRx1
import Derived.Laws.MakeOwn
import Derived.Deep.RegionHeld3
import Derived.Deep.DrawnRows
import Derived.Deep.DeepCutAuto
namespace Go.Proofs.Ytdlhihllmidfeaa
open Go.RowKit Go.Mine

set_option maxHeartbeats 2000000 in
theorem over_f (h : Nat) (f : Fen) (g c : Nat) (p : Nat → Prop) (w : World) (hk : KidsF w p h f g) (hg : p g) (hf : GoodF f) : Calls Try.prog 65 #[.slice (some ⟨g, 0, none⟩) 4 c] w (RetNd (h + 1) f p w) := by
  have HK := Lib.hid hk
  have HF := Lib.hid hf
  have HG := Lib.hid hg
  clear hk hf hg
  go_enter Try.func65, Try.ntmps65
  have O := Own.new w 26 #[.slice none 0 0, .int .i64 0, .int .i64 0]
  have O2 := Own.new2 w (.cells #[.slice none 0 0, .int .i64 0, .int .i64 0] 26) 26 #[.slice none 0 0, .int .i64 0, .int .i64 0]
  have G := ((Grew.refl w).alloc (.cells #[.slice none 0 0, .int .i64 0, .int .i64 0] 26)).alloc (.cells #[.slice none 0 0, .int .i64 0, .int .i64 0] 26)
  go_wp2_with fail
  go_loopw [9] (fun i wr => ∃ (k : Nat) (a : Option Addr) (j c' : Nat) (o : Int), i = .int .i64 k ∧ k ≤ 4 ∧ ((allE h f k = true ∧ j = 0 ∧ o = 0) ∨ (allE h f k = false ∧ a = some ⟨g, 0, none⟩ ∧ j = 4 ∧ c' = c)) ∧ o = orUp h f k ∧
    Own wr w.heap.size 26 #[.slice none 0 0, .int .i64 0, .int .i64 0] ∧ Own wr (w.heap.size + 1) 26 #[.slice a j c', .int .i64 0, .int .i64 o] ∧ Grew w wr) (fun i _ => 4 - (intOf i).toNat)
  case atStart => exact ⟨0, none, 0, 0, 0, rfl, by omega, .inl ⟨rfl, rfl, rfl⟩, rfl, O.alloc _, O2, G⟩
  case round =>
    clear O O2 G
    obtain ⟨k, a, j, c', o, rfl, hk4, hs, ho, O, N, G⟩ := hrel
    have HS := Lib.hid hs
    have HO := Lib.hid ho
    clear hs ho
    obtain ⟨N0, N1, N2, N3, N4, N5⟩ := N.three
    by_cases hlt : k < 4
    · obtain ⟨s', x', m', c0, c1, c2, n⟩ := HK.out.grew G k hlt
      obtain ⟨a1, j1, c1', rfl⟩ := n.slice
      have HN := Lib.hid n
      have hgl := World.block_lt_of_cell? wr _ c0
      have hk0 : (0 : Int) ≤ (k : Int) := by omega
      have hk1 : (k : Int) < 4 := by omega
      clear n
      have B := Own.new wr 26 #[.slice a1 j1 c1', .int .i64 x', .int .i64 m']
      go_wp2_with fail
      with_reducible refine (isEmpty_f h _ (.slice a1 j1 c1') x' m' p _ (HN.out.grew ((Grew.refl wr).alloc _)) (HF.out.sub _ _)).mono ?_
      rintro e w2 ⟨rfl, g2⟩
      have hl1 := N.lt
      have hl2 := B.lt
      replace B := B.grew g2
      replace g2 := ((Grew.refl wr).alloc _).trans g2
      replace O := O.grew g2
      replace N := N.grew g2
      replace G := G.trans g2
      clear N0 N1 N2 N3 N4 N5 c0 c1 c2 hgl
      obtain ⟨N0, N1, N2, N3, N4, N5⟩ := N.three
      obtain ⟨B0, B1, B2, B3, B4, B5⟩ := B.three
      have HM := Lib.hid (show m' = orM h (sub h f k) from HN.out.marks)
      have hne : wr.heap.size ≠ w.heap.size + 1 := by omega
      have HA := Lib.hid (show allE h f (k + 1) = (allE h f k && emp h (sub h f k)) from rfl)
      have HOm := Lib.hid (show emp h (sub h f k) = true → m' = 0 from fun e => by rw [HM.out]; exact orM_emp _ _ e)
      generalize emp h (sub h f k) = eb at *
      clear g2
      have hw1 : w.heap.size ≤ w.heap.size + 1 := by omega
      cases eb
      · go_wp2_with fail
        go_roundw
        case rel =>
          exact ⟨k + 1, some ⟨g, 0, none⟩, 4, c, orI o m', by go_num, by omega, .inr ⟨by rw [HA.out]; simp, rfl, rfl, rfl⟩, by rw [HO.out, HM.out]; rfl, (O.far (p := ⟨w.heap.size + 1, 0, none⟩) (by simp) _).far (p := ⟨w.heap.size + 1, 2, none⟩) (by simp) _,
            (N.set 0 (.slice (some ⟨g, 0, none⟩) 4 c)).set 2 (.int .i64 (orI o m')), (G.set (p := ⟨w.heap.size + 1, 0, none⟩) hw1 _).set (p := ⟨w.heap.size + 1, 2, none⟩) hw1 _⟩
        case measure => simp [intOf]; omega
      · go_wp2_with fail
        go_roundw
        case rel =>
          refine ⟨k + 1, a, j, c', orI o m', by go_num, by omega, ?_, by rw [HO.out, HM.out]; rfl, O.far (p := ⟨w.heap.size + 1, 2, none⟩) (by simp) _, N.set 2 (.int .i64 (orI o m')), G.set (p := ⟨w.heap.size + 1, 2, none⟩) hw1 _⟩
          rcases HS.out with ⟨h1, h2, h3⟩ | ⟨h1, h2, h3, h4⟩
          · exact .inl ⟨by rw [HA.out, h1]; rfl, h2, by rw [h3, HOm.out (by trivial)]; decide +kernel⟩
          · exact .inr ⟨by rw [HA.out, h1]; rfl, h2, h3, h4⟩
        case measure => simp [intOf]; omega
    · have hk : k = 4 := by omega
      subst hk
      obtain ⟨O0, O1, O2, O3, O4, O5⟩ := O.three
      go_wp2_with fail
      have OE := ((O.set 0 (.slice a j c')).set 1 (.int .i64 0)).set 2 (.int .i64 o)
      have GE := ((G.set (p := ⟨w.heap.size, 0, none⟩) (Nat.le_refl _) (.slice a j c')).set (p := ⟨w.heap.size, 1, none⟩) (Nat.le_refl _) (.int .i64 0)).set (p := ⟨w.heap.size, 2, none⟩) (Nat.le_refl _) (.int .i64 o)
      clear O N G O0 O1 O2 O3 O4 O5 N0 N1 N2 N3 N4 N5
      generalize World.setCell _ _ _ = E at OE GE ⊢
      obtain ⟨b0, b1, b2, b3, b4, b5⟩ := Own.three OE
      refine bodyPost_ret (v := nodeV (.slice a j c') 0 o) (by simp [results, Try.results65, go_sem, b0, b1, b2]) rfl ?_
      refine ⟨_, _, _, rfl, ?_, GE⟩
      rcases HS.out with ⟨h1, rfl, rfl⟩ | ⟨h1, rfl, rfl, rfl⟩
      · exact NodeF.empty (h + 1) (by rw [emp_all]; exact h1) _ _
      · rw [HO.out]
        exact NodeF.some (HK.out.grew GE) HG.out (by rw [emp_all]; exact h1)
theorem clone_leaf (a : Option Addr) (c : Nat) (x m : Int) (w : World) : Calls Try.prog 75 #[nodeV (.slice a 0 c) x m] w (fun e w' => e = .returned (nodeV (.slice none 0 0) x m) ∧ Grew w w') := by
  go_enter Try.func75, Try.ntmps75
  have O1 := (Own.new2 w (.cells #[.slice a 0 c, .int .i64 x, .int .i64 m] 26) 26 #[.slice none 0 0, .int .i64 x, .int .i64 m]).alloc (.cells #[.slice none 0 0, .int .i64 x, .int .i64 m] 26)
  go_wp2
  obtain ⟨b0, b1, b2, b3, b4, b5⟩ := O1.three
  exact bodyPost_ret (v := nodeV (.slice none 0 0) x m) (by simp [results, Try.results75, go_sem, b0, b1, b2]) rfl ⟨rfl, (((Grew.refl w).alloc _).alloc _).alloc _⟩
def zero12 : Array Value := #[.slice none 0 0, .int .i64 0, .int .i64 0, .slice none 0 0, .int .i64 0, .int .i64 0, .slice none 0 0, .int .i64 0, .int .i64 0, .slice none 0 0, .int .i64 0, .int .i64 0]
theorem made12 : madeCells (Value.agg #[.slice none 0 0, .int .i64 0, .int .i64 0]).cells ((4 : Int).toNat * 3) = zero12 := by kernel_rfl
theorem info_node : (Try.prog.info? 26).map (fun i => (i.zero, i.size, i.bytes)) = some (some (.agg #[.slice none 0 0, .int .i64 0, .int .i64 0]), 3, 40) := by kernel_rfl
theorem make4 (w : World) : (Instr.makeSlice 24 (.int .i64 4) (.int .i64 4)).run Try.prog w = .ok (.slice (some ⟨w.heap.size, 0, none⟩) 4 4) (w.alloc (.cells zero12 26)) := by
  obtain ⟨i, hi, hz, hs, hb⟩ := info_parts info_node
  have h := run_make w _ _ i _ Try.underlying24 hi hz .i64 .i64 4 4 (by omega) (by omega) (by rw [hb]; decide) (by omega)
  rw [hs, made12] at h
  exact h
set_option maxHeartbeats 2000000 in
theorem clone_node (h : Nat) (ih : ∀ (f : Fen) (s : Value) (x m : Int) (p : Nat → Prop) (w : World), NodeF w p h f s x m → Calls Try.prog 75 #[nodeV s x m] w (RetNd h f (fun b => w.heap.size ≤ b) w))
    (f : Fen) (g c : Nat) (m : Int) (p : Nat → Prop) (w : World) (n : KidsF w p h f g) (e : emp (h + 1) f = false) (hm : m = orM (h + 1) f) :
    Calls Try.prog 75 #[nodeV (.slice (some ⟨g, 0, none⟩) 4 c) 0 m] w (RetNd (h + 1) f (fun b => w.heap.size ≤ b) w) := by
  have HK := Lib.hid n
  have HE := Lib.hid e
  have HM := Lib.hid hm
  have hmk := make4
  clear n e hm
  go_enter Try.func75, Try.ntmps75
  go_wp2_with fail
  obtain ⟨K, hK⟩ : ∃ K, w.heap.size + 1 + 1 + 1 = K := ⟨_, rfl⟩
  have B0 := (((Own.new w 26 #[.slice (some ⟨g, 0, none⟩) 4 c, .int .i64 0, .int .i64 m]).alloc (.cells #[.slice none 0 0, .int .i64 0, .int .i64 0] 26)).alloc (.cells #[.slice (some ⟨K, 0, none⟩) 4 4, .int .i64 0, .int .i64 m] 26)).alloc (.cells zero12 26)
  have R0 := ((Own.new2 w (.cells #[.slice (some ⟨g, 0, none⟩) 4 c, .int .i64 0, .int .i64 m] 26) 26 #[.slice none 0 0, .int .i64 0, .int .i64 0]).alloc (.cells #[.slice (some ⟨K, 0, none⟩) 4 4, .int .i64 0, .int .i64 m] 26)).alloc (.cells zero12 26)
  have C0 := (Own.new2 (w.alloc (.cells #[.slice (some ⟨g, 0, none⟩) 4 c, .int .i64 0, .int .i64 m] 26)) (.cells #[.slice none 0 0, .int .i64 0, .int .i64 0] 26) 26 #[.slice (some ⟨K, 0, none⟩) 4 4, .int .i64 0, .int .i64 m]).alloc (.cells zero12 26)
  have K0 := Own.new2 ((w.alloc (.cells #[.slice (some ⟨g, 0, none⟩) 4 c, .int .i64 0, .int .i64 m] 26)).alloc (.cells #[.slice none 0 0, .int .i64 0, .int .i64 0] 26)) (.cells #[.slice (some ⟨K, 0, none⟩) 4 4, .int .i64 0, .int .i64 m] 26) 26 zero12
  have G0 := ((((Grew.refl w).alloc (.cells #[.slice (some ⟨g, 0, none⟩) 4 c, .int .i64 0, .int .i64 m] 26)).alloc (.cells #[.slice none 0 0, .int .i64 0, .int .i64 0] 26)).alloc (.cells #[.slice (some ⟨K, 0, none⟩) 4 4, .int .i64 0, .int .i64 m] 26)).alloc (.cells zero12 26)
  simp only [World.size_alloc] at C0 K0
  rw [hK] at K0 ⊢
  have HB0 := Lib.hid B0
  have HR0 := Lib.hid R0
  have HC0 := Lib.hid C0
  have HK0 := Lib.hid K0
  have HG0 := Lib.hid G0
  have HKK := Lib.hid hK
  clear B0 R0 C0 K0 G0 hK hmk
  go_loopw [20] (fun i wr => ∃ (k : Nat) (cs : Array Value), i = .int .i64 k ∧ k ≤ 4 ∧ KDone wr (fun b => K < b) cs h f k ∧ Own wr w.heap.size 26 #[.slice (some ⟨g, 0, none⟩) 4 c, .int .i64 0, .int .i64 m] ∧
    Own wr (w.heap.size + 1) 26 #[.slice none 0 0, .int .i64 0, .int .i64 0] ∧ Own wr (w.heap.size + 1 + 1) 26 #[.slice (some ⟨K, 0, none⟩) 4 4, .int .i64 0, .int .i64 m] ∧ Own wr K 26 cs ∧ Grew w wr) (fun i _ => 4 - (intOf i).toNat)
  case atStart => exact ⟨0, zero12, rfl, by omega, ⟨rfl, fun j hj => by omega⟩, HB0.out, HR0.out, HC0.out, HK0.out, HG0.out⟩
  case round =>
    clear HB0 HR0 HC0 HK0 HG0
    obtain ⟨k, cs, rfl, hk4, D, B, R, C, O, G⟩ := hrel
    have HD := Lib.hid D
    have hK2 : K = w.heap.size + 3 := by have := HKK.out; omega
    have HK2 := Lib.hid hK2
    have hgl : g < w.heap.size := by obtain ⟨_, _, _, c0, -⟩ := HK.out 0 (by omega); exact World.block_lt_of_cell? w _ c0
    have hKw : w.heap.size + 2 < K := by omega
    clear D hK2
    obtain ⟨B0, B1, B2, B3, B4, B5⟩ := B.three
    obtain ⟨C0, C1, C2, C3, C4, C5⟩ := C.three
    have hlO := O.lt
    by_cases hlt : k < 4
    · obtain ⟨s', x', m', c0, c1, c2, n⟩ := HK.out.grew G k hlt
      obtain ⟨a1, j1, c1', rfl⟩ := n.slice
      have HN := Lib.hid n
      have hk0 : (0 : Int) ≤ (k : Int) := by omega
      have hk1 : (k : Int) < 4 := by omega
      clear n
      go_upto_region 8 with fail
      replace B := B.drew
      replace R := R.drew
      replace C := C.drew
      replace O := O.drew
      replace G := G.drew
      go_region_held3 (fun w' => w'.cell? ⟨w.heap.size, 0, none⟩ = some (.slice (some ⟨g, 0, none⟩) 4 c) ∧ w'.cell? ⟨w.heap.size + 1 + 1, 0, none⟩ = some (.slice (some ⟨K, 0, none⟩) 4 4) ∧ w'.cell? ⟨g, k * 3, none⟩ = some (.slice a1 j1 c1') ∧ w'.cell? ⟨g, k * 3 + 1, none⟩ = some (.int .i64 x') ∧ w'.cell? ⟨g, k * 3 + 2, none⟩ = some (.int .i64 m'))
        (refine ⟨?_, ?_, ?_, ?_, ?_⟩ <;> (repeat (first | with_reducible assumption | with_reducible refine far_drew ?_ | with_reducible refine far_cell (by omega) ?_)))
        (first | (go_at_call 75; (with_reducible refine (ih (sub h f k) _ _ _ p wr.drew (HN.out.grew (Grew.refl wr).drew)).mono ?_); rintro e w2 ⟨s2, x2, m2, rfl, n2, g2⟩; replace B := B.grew g2; replace R := R.grew g2; replace C := C.grew g2; replace O := O.grew g2; replace G := G.trans g2; have D2 := HD.out.grew ((Grew.refl wr).drew.trans g2); have g3 : wr.heap.size ≤ w2.heap.size := g2.size; have q0 := (g2.cells.1 g _ (World.block_lt_of_cell? wr _ c0)).trans c0; have q1 := (g2.cells.1 g _ (World.block_lt_of_cell? wr _ c0)).trans c1; have q2 := (g2.cells.1 g _ (World.block_lt_of_cell? wr _ c0)).trans c2; clear c0 c1 c2 B0 B1 B2 B3 B4 B5 C0 C1 C2 C3 C4 C5; obtain ⟨B0, B1, B2, B3, B4, B5⟩ := B.three; obtain ⟨C0, C1, C2, C3, C4, C5⟩ := C.three; have n3 := n2.mono (q := fun b => K < b) (fun b hb _ => Nat.lt_of_lt_of_le hlO hb); obtain ⟨a5, j5, c5, rfl⟩ := n3.slice; have N3 := Lib.hid n3; have HD2 := Lib.hid D2; clear n2 n3 D2 g2; obtain ⟨⟨u0, hu0⟩, ⟨u1, hu1⟩, ⟨u2, hu2⟩, f0, f1, f2⟩ := Own.spot3 O HD2.out.1 hlt))
      generalize hw3 : World.setCell _ _ _ = w3
      have D3 := KDone.off3 hw3 (HD2.out.next hlt N3.out) (fun b hb => by omega)
      have O3 := Own.put3 hw3 O
      have B3 := Own.off3 hw3 B (by omega)
      have R3 := Own.off3 hw3 R (by omega)
      have C3' := Own.off3 hw3 C (by omega)
      have G3 := Grew.off3 hw3 G (by omega)
      clear hw3
      go_wp2_with fail
      go_roundw
      case rel => exact ⟨k + 1, _, by go_num, by omega, D3, B3, R3, C3', O3, G3⟩
      case measure => simp [intOf]; omega
    · have hk : k = 4 := by omega
      subst hk
      obtain ⟨R0, R1, R2, R3, R4, R5⟩ := R.three
      go_wp2_with fail
      have OE := ((R.set 0 (.slice (some ⟨K, 0, none⟩) 4 4)).set 1 (.int .i64 0)).set 2 (.int .i64 m)
      have hw1 : w.heap.size ≤ w.heap.size + 1 := by omega
      have GE := ((G.set (p := ⟨w.heap.size + 1, 0, none⟩) hw1 (.slice (some ⟨K, 0, none⟩) 4 4)).set (p := ⟨w.heap.size + 1, 1, none⟩) hw1 (.int .i64 0)).set (p := ⟨w.heap.size + 1, 2, none⟩) hw1 (.int .i64 m)
      have hk := HD.out.kids O
      have hk' : KidsF _ (fun b => w.heap.size ≤ b) h f K := fun j hj => by
        obtain ⟨s', x', m', c0, c1, c2, n⟩ := hk j hj
        have hKR : w.heap.size + 1 ≠ K := by omega
        exact ⟨s', x', m', far_cell hKR (far_cell hKR (far_cell hKR c0)), far_cell hKR (far_cell hKR (far_cell hKR c1)), far_cell hKR (far_cell hKR (far_cell hKR c2)),
          n.keep (w' := ((wr.setCell ⟨w.heap.size + 1, 0, none⟩ (.slice (some ⟨K, 0, none⟩) 4 4)).setCell ⟨w.heap.size + 1, 1, none⟩ (.int .i64 0)).setCell ⟨w.heap.size + 1, 2, none⟩ (.int .i64 m)) (fun b hb _ => by omega) (fun b hb _ => by
            rw [Below.heap_setCell _ ⟨w.heap.size + 1, 2, none⟩ _ b (by show b ≠ w.heap.size + 1; omega), Below.heap_setCell _ ⟨w.heap.size + 1, 1, none⟩ _ b (by show b ≠ w.heap.size + 1; omega), Below.heap_setCell _ ⟨w.heap.size + 1, 0, none⟩ _ b (by show b ≠ w.heap.size + 1; omega)])⟩
      clear R G B C O R0 R1 R2 R3 R4 R5 B0 B1 B2 B3 B4 B5 C0 C1 C2 C3 C4 C5 hk
      generalize World.setCell _ _ _ = E at OE GE hk' ⊢
      obtain ⟨b0, b1, b2, b3, b4, b5⟩ := Own.three OE
      refine bodyPost_ret (v := nodeV (.slice (some ⟨K, 0, none⟩) 4 4) 0 m) (by simp [results, Try.results75, go_sem, b0, b1, b2]) rfl ?_
      refine ⟨_, _, _, rfl, ?_, GE⟩
      rw [HM.out]
      exact NodeF.some hk' (show w.heap.size ≤ K by omega) HE.out
theorem clone_f : ∀ (h : Nat) (f : Fen) (s : Value) (x m : Int) (p : Nat → Prop) (w : World), NodeF w p h f s x m → Calls Try.prog 75 #[nodeV s x m] w (RetNd h f (fun b => w.heap.size ≤ b) w)
  | 0, f, s, x, m, p, w, ⟨⟨a, c, e1⟩, e2, e3⟩ => by
    subst e1
    exact (clone_leaf a c x m w).mono fun e w' ⟨h1, h2⟩ => ⟨_, _, _, h1, ⟨⟨_, _, rfl⟩, e2, e3⟩, h2⟩
  | h + 1, f, s, x, m, p, w, n => by
    cases he : emp (h + 1) f
    · obtain ⟨g, c, rfl, rfl, hg, hk⟩ := n.kids he
      exact clone_node h (clone_f h) f g c m p w hk he n.marks
    · have hm := n.marks
      rw [orM_emp _ _ he] at hm
      obtain ⟨rfl, -, ⟨-, a, c, rfl⟩ | ⟨e2, -⟩⟩ := n
      · subst hm
        exact (clone_leaf a c 0 0 w).mono fun e w' ⟨h1, h2⟩ => ⟨_, _, _, h1, NodeF.empty _ he _ _, h2⟩
      · rw [he] at e2; cases e2
end Go.Proofs.Ytdlhihllmidfeaa

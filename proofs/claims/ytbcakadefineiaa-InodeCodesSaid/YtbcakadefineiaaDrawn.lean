/- Inodes that the laws draw: some inode, whatever the tape. -/
import Derived.Test.YtbcakadefineiaaOdd
import Derived.Test.YtbcakadefineiaaIno2
import Derived.Deep.RegionHeld3
import Derived.Deep.DeepCutAuto
import Derived.Deep.RegionWith
namespace Go.Proofs.Ytbcakadefineiaa
open Go.RowKit Go.Mine

def RetIno (B b : Nat) (w : World) (e : Ending) (w' : World) : Prop := ∃ q z x, e = .returned (inoV q z x) ∧ Tp B w' b ∧ w.grownBy w' (some b)
abbrev slC : Array Value := #[.int .i64 0, .int .i64 1, .int .i64 255, .int .i64 256, .int .i64 65534, .int .i64 65535, .int .i64 7, .int .i64 8]
def DrawnCut (w : World) (B b : Nat) (v3 : Value) (wx : World) : Prop :=
  ∃ (g : Nat) (q z x : Int), v3 = .pointer (some ⟨g, 0, none⟩) ∧ w.heap.size < g ∧ Own wx g 28 #[.int .i64 q, .int .i64 z, .int .i64 x] ∧ Own wx w.heap.size 28 #[.int .i64 0, .int .i64 0, .int .i64 0] ∧ Tp B wx b ∧ w.grownBy wx (some b)
theorem sl_at (p : Nat) (hp : p < 8) : ∃ z, slC[p]? = some (.int .i64 z) ∧ (#[.int .i64 0, .int .i64 1, .int .i64 255, .int .i64 256, .int .i64 65534, .int .i64 65535, .int .i64 7, .int .i64 8] : Array Value)[p]? = some (.int .i64 z) ∧ ([.int .i64 0, .int .i64 1, .int .i64 255, .int .i64 256, .int .i64 65534, .int .i64 65535, .int .i64 7, .int .i64 8] : List Value)[p]? = some (.int .i64 z) := by
  have : p = 0 ∨ p = 1 ∨ p = 2 ∨ p = 3 ∨ p = 4 ∨ p = 5 ∨ p = 6 ∨ p = 7 := by omega
  rcases this with rfl | rfl | rfl | rfl | rfl | rfl | rfl | rfl <;> exact ⟨_, rfl, rfl, rfl⟩

theorem grown_far3 {a w w' : World} {r : Option Nat} {b : Nat} {x y z : Value} (h : a.grownBy w r) (hw : ((w.setCell ⟨b, 0, none⟩ x).setCell ⟨b, 1, none⟩ y).setCell ⟨b, 2, none⟩ z = w') (hb : a.heap.size ≤ b) : a.grownBy w' r := by
  rw [← hw]
  exact grown_set (p := ⟨b, 2, none⟩) (grown_set (p := ⟨b, 1, none⟩) (grown_set (p := ⟨b, 0, none⟩) h (.inr hb) x) (.inr hb) y) (.inr hb) z
set_option maxHeartbeats 40000000 in
theorem drawn_x (B b : Nat) (w : World) (ht : Tp B w b) (hbw : B ≤ w.heap.size) :
    Calls Try.prog 9 #[.pointer (some ⟨b, 0, none⟩)] w (RetIno B b w) := by
  have hbb := ht.ltB
  go_enter Try.func9, Try.ntmps9
  go_upto_region 1 with fail
  have tp := ht.alloc (.cells #[.int .i64 0, .int .i64 0, .int .i64 0] 28)
  have R := Own.new w 28 #[.int .i64 0, .int .i64 0, .int .i64 0]
  have gr : w.grownBy _ (some b) := grown_alloc (grown_refl w (some b)) (.cells #[.int .i64 0, .int .i64 0, .int .i64 0] 28)
  have hz0 := R.lt
  generalize hw0 : w.alloc _ = w0 at *
  clear hw0 ht
  go_cut [3] (DrawnCut w B b)
  case first =>
    go_region_with (first
        | (go_at_call 19; (with_reducible refine (next_x _ _ 8 _ (by omega) (by omega) (by first | with_reducible exact tp | with_reducible exact (tp.alloc _) | with_reducible exact ((tp.alloc _).alloc _) | with_reducible exact tp.drew | with_reducible exact (tp.alloc _).drew | with_reducible exact ((tp.alloc _).alloc _).drew)).mono ?_); rintro e w1 ⟨q1, q10, q11, rfl, t1, g1⟩; have R1 : Own w1 w.heap.size 28 #[.int .i64 0, .int .i64 0, .int .i64 0] := (by first | with_reducible exact R.past g1 (by omega) | with_reducible exact (R.alloc _).past g1 (by omega) | with_reducible exact ((R.alloc _).alloc _).past g1 (by omega) | with_reducible exact R.drew.past g1 (by omega) | with_reducible exact (R.alloc _).drew.past g1 (by omega) | with_reducible exact ((R.alloc _).alloc _).drew.past g1 (by omega)); have gr1 : w.grownBy w1 (some b) := (by first | with_reducible exact grown_trans gr g1 | with_reducible exact grown_trans (grown_alloc gr _) g1 | with_reducible exact grown_trans (grown_alloc (grown_alloc gr _) _) g1 | with_reducible exact grown_trans (grown_drew gr) g1 | with_reducible exact grown_trans (grown_drew (grown_alloc gr _)) g1 | with_reducible exact grown_trans (grown_drew (grown_alloc (grown_alloc gr _) _)) g1); have lR1 := R1.lt; have sz1 := g1.size; (try simp only [World.size_alloc] at sz1); (first | (replace SL : Own w1 _ 3 slC := (by first | with_reducible exact SL.past g1 (by omega) | with_reducible exact (SL.alloc _).past g1 (by omega) | with_reducible exact ((SL.alloc _).alloc _).past g1 (by omega) | with_reducible exact SL.drew.past g1 (by omega) | with_reducible exact (SL.alloc _).drew.past g1 (by omega) | with_reducible exact ((SL.alloc _).alloc _).drew.past g1 (by omega))) | (have SL : Own w1 _ 3 slC := (by first | with_reducible exact (Own.new w0 _ _).past g1 (by omega) | with_reducible exact ((Own.new w0 _ _).alloc _).past g1 (by omega) | with_reducible exact (Own.new2 w0 _ _ _).past g1 (by omega) | with_reducible exact (Own.new w0 _ _).drew.past g1 (by omega) | with_reducible exact ((Own.new w0 _ _).alloc _).drew.past g1 (by omega) | with_reducible exact (Own.new2 w0 _ _ _).drew.past g1 (by omega))) | skip); (first | (replace XB : Own w1 _ 28 #[.int .i64 0, .int .i64 0, .int .i64 0] := (by first | with_reducible exact XB.past g1 (by omega) | with_reducible exact (XB.alloc _).past g1 (by omega) | with_reducible exact ((XB.alloc _).alloc _).past g1 (by omega) | with_reducible exact XB.drew.past g1 (by omega) | with_reducible exact (XB.alloc _).drew.past g1 (by omega) | with_reducible exact ((XB.alloc _).alloc _).drew.past g1 (by omega))) | (have XB : Own w1 _ 28 #[.int .i64 0, .int .i64 0, .int .i64 0] := (by first | with_reducible exact (Own.new w0 _ _).past g1 (by omega) | with_reducible exact ((Own.new w0 _ _).alloc _).past g1 (by omega) | with_reducible exact (Own.new2 w0 _ _ _).past g1 (by omega) | with_reducible exact (Own.new w0 _ _).drew.past g1 (by omega) | with_reducible exact ((Own.new w0 _ _).alloc _).drew.past g1 (by omega) | with_reducible exact (Own.new2 w0 _ _ _).drew.past g1 (by omega))) | skip); obtain ⟨p, rfl⟩ := Int.eq_ofNat_of_zero_le q10; obtain ⟨z, hsl, hsl1, hsl2⟩ := sl_at p (by omega); (first | (replace hc := (SL.cell p).trans hsl) | (have hc := (SL.cell p).trans hsl) | skip); (try have lS := SL.lt); (try have lX := XB.lt))
        | (go_at_call 19; (with_reducible refine (next_x _ _ 129 _ (by omega) (by omega) (by first | with_reducible exact t1 | with_reducible exact (t1.alloc _) | with_reducible exact ((t1.alloc _).alloc _) | with_reducible exact t1.drew | with_reducible exact (t1.alloc _).drew | with_reducible exact ((t1.alloc _).alloc _).drew)).mono ?_); rintro e w2 ⟨q2, q20, q21, rfl, t2, g2⟩; have R2 : Own w2 w.heap.size 28 #[.int .i64 0, .int .i64 0, .int .i64 0] := (by first | with_reducible exact R1.past g2 (by omega) | with_reducible exact (R1.alloc _).past g2 (by omega) | with_reducible exact ((R1.alloc _).alloc _).past g2 (by omega) | with_reducible exact R1.drew.past g2 (by omega) | with_reducible exact (R1.alloc _).drew.past g2 (by omega) | with_reducible exact ((R1.alloc _).alloc _).drew.past g2 (by omega)); have gr2 : w.grownBy w2 (some b) := (by first | with_reducible exact grown_trans gr1 g2 | with_reducible exact grown_trans (grown_alloc gr1 _) g2 | with_reducible exact grown_trans (grown_alloc (grown_alloc gr1 _) _) g2 | with_reducible exact grown_trans (grown_drew gr1) g2 | with_reducible exact grown_trans (grown_drew (grown_alloc gr1 _)) g2 | with_reducible exact grown_trans (grown_drew (grown_alloc (grown_alloc gr1 _) _)) g2); have lR2 := R2.lt; have sz2 := g2.size; (try simp only [World.size_alloc] at sz2); (first | (replace SL : Own w2 _ 3 slC := (by first | with_reducible exact SL.past g2 (by omega) | with_reducible exact (SL.alloc _).past g2 (by omega) | with_reducible exact ((SL.alloc _).alloc _).past g2 (by omega) | with_reducible exact SL.drew.past g2 (by omega) | with_reducible exact (SL.alloc _).drew.past g2 (by omega) | with_reducible exact ((SL.alloc _).alloc _).drew.past g2 (by omega))) | (have SL : Own w2 _ 3 slC := (by first | with_reducible exact (Own.new w1 _ _).past g2 (by omega) | with_reducible exact ((Own.new w1 _ _).alloc _).past g2 (by omega) | with_reducible exact (Own.new2 w1 _ _ _).past g2 (by omega) | with_reducible exact (Own.new w1 _ _).drew.past g2 (by omega) | with_reducible exact ((Own.new w1 _ _).alloc _).drew.past g2 (by omega) | with_reducible exact (Own.new2 w1 _ _ _).drew.past g2 (by omega))) | skip); (first | (replace XB : Own w2 _ 28 #[.int .i64 0, .int .i64 0, .int .i64 0] := (by first | with_reducible exact XB.past g2 (by omega) | with_reducible exact (XB.alloc _).past g2 (by omega) | with_reducible exact ((XB.alloc _).alloc _).past g2 (by omega) | with_reducible exact XB.drew.past g2 (by omega) | with_reducible exact (XB.alloc _).drew.past g2 (by omega) | with_reducible exact ((XB.alloc _).alloc _).drew.past g2 (by omega))) | (have XB : Own w2 _ 28 #[.int .i64 0, .int .i64 0, .int .i64 0] := (by first | with_reducible exact (Own.new w1 _ _).past g2 (by omega) | with_reducible exact ((Own.new w1 _ _).alloc _).past g2 (by omega) | with_reducible exact (Own.new2 w1 _ _ _).past g2 (by omega) | with_reducible exact (Own.new w1 _ _).drew.past g2 (by omega) | with_reducible exact ((Own.new w1 _ _).alloc _).drew.past g2 (by omega) | with_reducible exact (Own.new2 w1 _ _ _).drew.past g2 (by omega))) | skip); (first | (replace hc := (SL.cell p).trans hsl) | (have hc := (SL.cell p).trans hsl) | skip); (try have lS := SL.lt); (try have lX := XB.lt))
        | (go_at_call 19; (with_reducible refine (next_x _ _ 256 _ (by omega) (by omega) (by first | with_reducible exact t2 | with_reducible exact (t2.alloc _) | with_reducible exact ((t2.alloc _).alloc _) | with_reducible exact t2.drew | with_reducible exact (t2.alloc _).drew | with_reducible exact ((t2.alloc _).alloc _).drew)).mono ?_); rintro e w3 ⟨q3, q30, q31, rfl, t3, g3⟩; have R3 : Own w3 w.heap.size 28 #[.int .i64 0, .int .i64 0, .int .i64 0] := (by first | with_reducible exact R2.past g3 (by omega) | with_reducible exact (R2.alloc _).past g3 (by omega) | with_reducible exact ((R2.alloc _).alloc _).past g3 (by omega) | with_reducible exact R2.drew.past g3 (by omega) | with_reducible exact (R2.alloc _).drew.past g3 (by omega) | with_reducible exact ((R2.alloc _).alloc _).drew.past g3 (by omega)); have gr3 : w.grownBy w3 (some b) := (by first | with_reducible exact grown_trans gr2 g3 | with_reducible exact grown_trans (grown_alloc gr2 _) g3 | with_reducible exact grown_trans (grown_alloc (grown_alloc gr2 _) _) g3 | with_reducible exact grown_trans (grown_drew gr2) g3 | with_reducible exact grown_trans (grown_drew (grown_alloc gr2 _)) g3 | with_reducible exact grown_trans (grown_drew (grown_alloc (grown_alloc gr2 _) _)) g3); have lR3 := R3.lt; have sz3 := g3.size; (try simp only [World.size_alloc] at sz3); (first | (replace SL : Own w3 _ 3 slC := (by first | with_reducible exact SL.past g3 (by omega) | with_reducible exact (SL.alloc _).past g3 (by omega) | with_reducible exact ((SL.alloc _).alloc _).past g3 (by omega) | with_reducible exact SL.drew.past g3 (by omega) | with_reducible exact (SL.alloc _).drew.past g3 (by omega) | with_reducible exact ((SL.alloc _).alloc _).drew.past g3 (by omega))) | (have SL : Own w3 _ 3 slC := (by first | with_reducible exact (Own.new w2 _ _).past g3 (by omega) | with_reducible exact ((Own.new w2 _ _).alloc _).past g3 (by omega) | with_reducible exact (Own.new2 w2 _ _ _).past g3 (by omega) | with_reducible exact (Own.new w2 _ _).drew.past g3 (by omega) | with_reducible exact ((Own.new w2 _ _).alloc _).drew.past g3 (by omega) | with_reducible exact (Own.new2 w2 _ _ _).drew.past g3 (by omega))) | skip); (first | (replace XB : Own w3 _ 28 #[.int .i64 0, .int .i64 0, .int .i64 0] := (by first | with_reducible exact XB.past g3 (by omega) | with_reducible exact (XB.alloc _).past g3 (by omega) | with_reducible exact ((XB.alloc _).alloc _).past g3 (by omega) | with_reducible exact XB.drew.past g3 (by omega) | with_reducible exact (XB.alloc _).drew.past g3 (by omega) | with_reducible exact ((XB.alloc _).alloc _).drew.past g3 (by omega))) | (have XB : Own w3 _ 28 #[.int .i64 0, .int .i64 0, .int .i64 0] := (by first | with_reducible exact (Own.new w2 _ _).past g3 (by omega) | with_reducible exact ((Own.new w2 _ _).alloc _).past g3 (by omega) | with_reducible exact (Own.new2 w2 _ _ _).past g3 (by omega) | with_reducible exact (Own.new w2 _ _).drew.past g3 (by omega) | with_reducible exact ((Own.new w2 _ _).alloc _).drew.past g3 (by omega) | with_reducible exact (Own.new2 w2 _ _ _).drew.past g3 (by omega))) | skip); (first | (replace hc := (SL.cell p).trans hsl) | (have hc := (SL.cell p).trans hsl) | skip); (try have lS := SL.lt); (try have lX := XB.lt); (try obtain ⟨X0, X1, X2, X3, X4, X5⟩ := XB.three)))
    all_goals go_wp2_with fail
    all_goals go_meet
    all_goals unfold DrawnCut
    all_goals first
      | with_reducible exact ⟨_, _, _, _, rfl, by omega, XB.store3 rfl, R3.far3 rfl (by omega), t3.far3 rfl (by omega), grown_far3 gr3 rfl (by omega)⟩
      | with_reducible exact ⟨_, _, _, _, rfl, by omega, Own.new _ _ _, R3.alloc _, t3.alloc _, grown_alloc gr3 _⟩
      | with_reducible exact ⟨_, _, _, _, rfl, by omega, Own.new2 _ _ _ _, (R3.alloc _).alloc _, (t3.alloc _).alloc _, grown_alloc (grown_alloc gr3 _) _⟩
      | with_reducible exact ⟨_, _, _, _, rfl, by omega, (Own.new _ _ _).alloc _, (R3.alloc _).alloc _, (t3.alloc _).alloc _, grown_alloc (grown_alloc gr3 _) _⟩
      | with_reducible exact ⟨_, _, _, _, rfl, by omega, (XB.store3 rfl).alloc _, (R3.far3 rfl (by omega)).alloc _, (t3.far3 rfl (by omega)).alloc _, grown_alloc (grown_far3 gr3 rfl (by omega)) _⟩
      | with_reducible exact ⟨_, _, _, _, rfl, by omega, (XB.alloc _).store3 rfl, (R3.alloc _).far3 rfl (by omega), (t3.alloc _).far3 rfl (by omega), grown_far3 (grown_alloc gr3 _) rfl (by omega)⟩
  case rest =>
    clear tp R gr hz0
    obtain ⟨g, q, z, x, rfl, hg, G, R, tp, gr⟩ := hcut
    obtain ⟨G0, G1, G2, G3, G4, G5⟩ := G.three
    obtain ⟨R0, R1, R2, R3, R4, R5⟩ := R.three
    have l_G := G.lt
    have l_R := R.lt
    have hBw := tp.lt
    go_wp2_with fail
    with_reducible refine (next_x _ _ _ _ (by omega) (by omega) tp).mono ?_
    rintro e w2 ⟨k, k0, k1, rfl, t2, g2⟩
    replace G := G.past g2 (by omega)
    replace R := R.past g2 (by omega)
    replace gr := grown_trans gr g2
    clear tp g2 G0 G1 G2 G3 G4 G5 R0 R1 R2 R3 R4 R5 l_G l_R
    obtain ⟨G0, G1, G2, G3, G4, G5⟩ := G.three
    obtain ⟨R0, R1, R2, R3, R4, R5⟩ := R.three
    have l_G := G.lt
    have l_R := R.lt
    have hkc : k = 0 ∨ k = 1 ∨ k = 2 ∨ 3 ≤ k := by omega
    rcases hkc with rfl | rfl | rfl | hk
    · go_wp2_with fail
      with_reducible refine (odd_x _ _ _ t2 (by omega)).mono ?_
      rintro e w3 ⟨o, rfl, t3, g3⟩
      replace G := G.past g3 (by omega)
      replace R := R.past g3 (by omega)
      replace gr := grown_trans gr g3
      clear t2 g3 G0 G1 G2 G3 G4 G5 R0 R1 R2 R3 R4 R5
      obtain ⟨G0, G1, G2, G3, G4, G5⟩ := G.three
      obtain ⟨R0, R1, R2, R3, R4, R5⟩ := R.three
      go_wp2
      refine bodyPost_ret (v := inoV o z x) (by simp [results, Try.results9, go_sem, R0, R1, R2]) rfl ⟨_, _, _, rfl, ?_, ?_⟩
      · repeat (first | with_reducible exact t3 | with_reducible refine Tp.set ?_ (by simp; omega) _)
      · repeat (first | with_reducible exact gr | with_reducible refine grown_set ?_ (.inr (by first | (simp; done) | (simp; omega))) _)
    · go_wp2_with fail
      with_reducible refine (odd_x _ _ _ t2 (by omega)).mono ?_
      rintro e w3 ⟨o, rfl, t3, g3⟩
      replace G := G.past g3 (by omega)
      replace R := R.past g3 (by omega)
      replace gr := grown_trans gr g3
      clear t2 g3 G0 G1 G2 G3 G4 G5 R0 R1 R2 R3 R4 R5
      obtain ⟨G0, G1, G2, G3, G4, G5⟩ := G.three
      obtain ⟨R0, R1, R2, R3, R4, R5⟩ := R.three
      go_wp2
      refine bodyPost_ret (v := inoV q o x) (by simp [results, Try.results9, go_sem, R0, R1, R2]) rfl ⟨_, _, _, rfl, ?_, ?_⟩
      · repeat (first | with_reducible exact t3 | with_reducible refine Tp.set ?_ (by simp; omega) _)
      · repeat (first | with_reducible exact gr | with_reducible refine grown_set ?_ (.inr (by first | (simp; done) | (simp; omega))) _)
    · go_wp2_with fail
      with_reducible refine (odd_x _ _ _ t2 (by omega)).mono ?_
      rintro e w3 ⟨o, rfl, t3, g3⟩
      replace G := G.past g3 (by omega)
      replace R := R.past g3 (by omega)
      replace gr := grown_trans gr g3
      clear t2 g3 G0 G1 G2 G3 G4 G5 R0 R1 R2 R3 R4 R5
      obtain ⟨G0, G1, G2, G3, G4, G5⟩ := G.three
      obtain ⟨R0, R1, R2, R3, R4, R5⟩ := R.three
      go_wp2
      refine bodyPost_ret (v := inoV q z o) (by simp [results, Try.results9, go_sem, R0, R1, R2]) rfl ⟨_, _, _, rfl, ?_, ?_⟩
      · repeat (first | with_reducible exact t3 | with_reducible refine Tp.set ?_ (by simp; omega) _)
      · repeat (first | with_reducible exact gr | with_reducible refine grown_set ?_ (.inr (by first | (simp; done) | (simp; omega))) _)
    · have e0 : (k == 0) = false := beq_eq_false_iff_ne.2 (by omega)
      have e1 : (k == 1) = false := beq_eq_false_iff_ne.2 (by omega)
      have e2 : (k == 2) = false := beq_eq_false_iff_ne.2 (by omega)
      go_wp2
      refine bodyPost_ret (v := inoV q z x) (by simp [results, Try.results9, go_sem, R0, R1, R2]) rfl ⟨_, _, _, rfl, ?_, ?_⟩
      · repeat (first | with_reducible exact t2 | with_reducible refine Tp.set ?_ (by simp; omega) _)
      · repeat (first | with_reducible exact gr | with_reducible refine grown_set ?_ (.inr (by first | (simp; done) | (simp; omega))) _)
end Go.Proofs.Ytbcakadefineiaa

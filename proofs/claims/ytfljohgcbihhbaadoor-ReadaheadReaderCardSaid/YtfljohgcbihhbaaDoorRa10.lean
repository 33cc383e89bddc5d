/- Small helpers of the laws of layer 7: the table as the row lays it, equal lists, what the package does at one input. -/
import Derived.Test.YtfljohgcbihhbaaDoorRa6
import Derived.Test.YtfljohgcbihhbaaDoorRa7
import Derived.Test.YtfljohgcbihhbaaDoorOdd
import Derived.BigQuiet
import Derived.LaidMore
import Derived.Lay
namespace Go.Proofs.YtfljohgcbihhbaaDoor
open Go.ChangeShapes Go.WideShapes Go.ChangeAt Go.RowKit Go.Mine

def szL : List Int := [2, 4, 8]
theorem of_laid {W : World} (h : laidMetH Tryd.prog [("pagecache/readahead.sizes", Rows.laid_pagecache_readahead_sizes)] W) : Sz W := by
  rw [MakeChecks.laidMetH_plain _ _ _ (by kernel_rfl)] at h
  obtain ⟨ps, ⟨g, t, cs, fuel, p, q, hg, ht, hv, hd, _, _⟩, _, _⟩ := h
  obtain rfl := Option.some.inj ((show Tryd.prog.globalNamed "pagecache/readahead.sizes" = some 0 by kernel_rfl).symm.trans hg)
  obtain rfl := Option.some.inj ((show (Tryd.prog.globals[0]?).map (·.type) = some 58 by kernel_rfl).symm.trans ht)
  obtain ⟨xs, m, _, ex, _, hl, hel⟩ := DataW.trod_array Tryd.underlying58 hd
  have c5 : Tryd.prog.cellsOf 3 = 1 := by kernel_rfl
  have K : ∀ r, r < 3 → W.cell? ⟨0, r, none⟩ = some (.int .i64 (szL.getD r 0)) := by
    intro r hr
    have hE := hel r hr
    rw [c5, Nat.mul_one, List.getElem?_eq_getElem (by omega)] at hE
    obtain ⟨z, e1, e2, _⟩ := DataW.trod_int Tryd.underlying3 hE
    have e3 : (xs.map (·.1)) = szL.map fun n => .lit (.int .i64 n) := (DataW.agg.inj (Prod.mk.inj ex).1).symm
    have e4 : (xs.map (·.1))[r]? = (szL.map fun n => (DataW.lit (.int .i64 n) : DataW Unit))[r]? := by rw [e3]
    rw [List.getElem?_map, List.getElem?_map, List.getElem?_eq_getElem (by omega : r < xs.length), List.getElem?_eq_getElem (show r < szL.length from hr), e2] at e4
    have hz : z = szL.getD r 0 := by
      simp only [Option.map_some, Option.some.injEq, DataW.lit.injEq, Lit.int.injEq, true_and] at e4
      rw [e4, List.getD, List.getElem?_eq_getElem (show r < szL.length from hr)]; rfl
    rw [World.var?_cell hg hv r, ← hz]
    have : cs.toList[r]? = some (.int .i64 z) := by
      have h0 : ((cs.toList.drop r).take 1)[0]? = some (.int .i64 z) := by rw [e1]; rfl
      simpa using h0
    simpa using this
  exact ⟨K 0 (by omega), K 1 (by omega), K 2 (by omega)⟩
set_option maxHeartbeats 1000000 in
theorem ints_same {L : List Int} {B C : Nat} (v u : Value) (w : World) (R : RowE 3 1 enc1 w B v L) (S : RowE 3 1 enc1 w C u L) (hl : L.length ≤ 100000) :
    Calls Tryd.prog 13 #[v, u] w (RetG (.bool true) w) := by
  obtain ⟨a, n, c, rfl, hn, hv⟩ := R.ints
  obtain ⟨a', n', c', rfl, hn', hu⟩ := S.ints
  obtain rfl : n = n' := by omega
  have HV := Lib.hid hv
  have HU := Lib.hid hu
  clear R S hv hu hn'
  go_enter Tryd.func13, Tryd.ntmps13
  go_wp2_with fail
  go_loopw [5] (fun iv wr => ∃ i : Nat, iv = .int .i64 i ∧ i ≤ n ∧ Grew w wr) (fun iv _ => n - (intOf iv).toNat)
  case atStart => exact ⟨0, rfl, by omega, Grew.refl _⟩
  case round =>
    obtain ⟨i, rfl, hi, G⟩ := hrel
    obtain ⟨wo, rfl⟩ : ∃ wo : World, wo = wr := ⟨_, rfl⟩
    by_cases hlt : i < n
    · obtain ⟨g, rfl, hg, -, x0⟩ := HV.out i hlt
      obtain ⟨h, rfl, hh, -, y0⟩ := HU.out i hlt
      have x1 := (G.cells.1 g _ hg).trans x0
      have y1 := (G.cells.1 h _ hh).trans y0
      have i0 : (0 : Int) ≤ (i : Int) := by omega
      have i1 : (i : Int) < (n : Int) := by omega
      clear x0 y0
      generalize L.getD i 0 = z at *
      go_upto_region 6 with fail
      go_quiet (fail)
      revert nq; intro nq1
      have G2 := G.drewN nq1
      generalize World.drewN wo nq1 = w2 at *
      go_wp2
      exact ⟨⟨i + 1, by go_num, by omega, G2⟩, by simp [intOf]; omega⟩
    · have hin : i = n := by omega
      subst hin
      go_wp2
      go_ret
      exact ⟨rfl, G⟩
theorem prL_all (x : Str) : ∀ m, ∀ p ∈ prL x m, p < 256
  | 0 => by intro p hp; simp [prL] at hp
  | m + 1 => by
    intro p hp
    rw [prL] at hp
    split at hp
    · next h =>
      rcases List.mem_append.1 hp with h1 | h1
      · exact prL_all x m p h1
      · rw [List.mem_singleton] at h1
        subst h1
        have : 0 ≤ pgF x m ∧ pgF x m ≤ 255 := of_decide_eq_true h.2
        omega
    · exact prL_all x m p hp
theorem prF_all (x : Str) (n : Int) : kpL 256 (prF x n) = prF x n := kpL_all fun p hp => by
  unfold prF at hp
  split at hp
  · exact prL_all x _ p hp
  · simp at hp
theorem rpred_v {L : List Int} (x : Str) (n : Int) (w : World) (h : prF x n = L) : Calls Tryd.prog 23 #[strV x, .int .i64 n] w (RetI1 L w) := h ▸ rpredict_any x n w
set_option maxRecDepth 100000 in
set_option maxHeartbeats 1000000 in
theorem awake_any (w : World) (hZ : Sz w) : Calls Tryd.prog 20 #[] w (RetG (.bool true) w) := by
  have GS : Grew w (w.alloc (.cells (csS ⟨2, 2, 3, 0, 2, 0⟩) 29)) := (Grew.refl _).alloc _
  have Z1 := hZ.grew GS
  go_enter Tryd.func20, Tryd.ntmps20
  go_wp2_with fail
  with_reducible refine (plan_q (z := ⟨3, 2, 2⟩) (L := [3, 4]) (er := 0) ⟨0, 0, 0⟩ ⟨2, 2, 3, 0, 2, 0⟩ 2 3 8 _ (by unfold Mild; decide) Z1 (by kernel_rfl) (by kernel_rfl) (by kernel_rfl)).mono ?_
  rintro e w1 ⟨v, rfl, R, G1⟩
  obtain ⟨a, n, c, rfl, hn, hc⟩ := R.ints
  obtain rfl : n = 2 := hn
  obtain ⟨q, rfl, hq, -, x0⟩ := hc 0 (by omega)
  rw [show [(3 : Int), 4].getD 0 0 = 3 from rfl] at x0
  have GA := GS.trans G1
  clear R hc Z1 G1 GS
  go_wp2_with fail
  with_reducible refine (marker_v (m := 3) (v := true) ⟨3, 2, 2⟩ _ (by kernel_rfl) (by kernel_rfl)).mono ?_
  rintro e w2 ⟨rfl, G2⟩
  have O := (Own.new w1 32 (csW ⟨3, 2, 2⟩)).grew G2
  obtain ⟨o0, o1, o2, o3, o4, o5⟩ := O.three
  have G3 := ((Grew.refl w1).alloc (.cells (csW ⟨3, 2, 2⟩) 32)).trans G2
  have y0 := (G3.cells.1 q 0 hq).trans x0
  have GB := GA.trans G3
  have Z3 := hZ.grew GB
  clear x0 G2 G3 GA
  go_wp2_with fail
  with_reducible refine (first_v (v := 8) 3 _ Z3 (by kernel_rfl)).mono ?_
  rintro e w3 ⟨rfl, rfl⟩
  go_wp2_with fail
  with_reducible refine (wgrown_v (v := 4) 2 _ (by kernel_rfl)).mono ?_
  rintro e w3 ⟨rfl, rfl⟩
  go_wp2_with fail
  with_reducible refine (wcheck_v (v := true) ⟨3, 2, 2⟩ _ (by kernel_rfl)).mono ?_
  rintro e w3 ⟨rfl, G4⟩
  have GC := GB.trans G4
  clear o0 o1 o2 o3 o4 o5 y0 O
  go_wp2_with fail
  with_reducible refine (wcheck_v (v := false) ⟨0, 9, 0⟩ _ (by kernel_rfl)).mono ?_
  rintro e w4 ⟨rfl, G5⟩
  go_wp2
  go_ret
  exact ⟨rfl, GC.trans G5⟩
end Go.Proofs.YtfljohgcbihhbaaDoor

/- The reference of layer 1: Set. -/
import Derived.Test.YtdlhihllmidfeaaWr1
import Derived.Test.YtdlhihllmidfeaaRo1
import Derived.Test.YtdlhihllmidfeaaSp15
namespace Go.Proofs.Ytdlhihllmidfeaa
open Go.RowKit Go.Mine

def neE (i : Nat) (e : En) : Bool := !(e.1 == (i : Int))
theorem fnOf_flt {L : List En} {i : Nat} (j : Nat) : fnOf (L.filter (neE i)) j = if j = i then (0, 0) else fnOf L j := by
  by_cases e : j = i
  · subst e
    rw [if_pos rfl]
    unfold fnOf
    rw [show (L.filter (neE j)).find? (fun e => e.1 == (j : Int)) = none from List.find?_eq_none.2 fun e he h => by
      have := (List.mem_filter.1 he).2
      unfold neE at this
      rw [h] at this
      cases this]
  · rw [if_neg e]
    unfold fnOf
    rw [find_filter fun x hx => by
      have : x.1 = (j : Int) := by simpa using hx
      unfold neE
      rw [this]
      simp; omega]
theorem fnOf_add {L : List En} {i : Nat} {l : Lef} (j : Nat) (h : fnOf L i = (0, 0)) (hn : ∀ e ∈ L, ¬e.1 = (i : Int)) : fnOf (L ++ [((i : Int), l)]) j = if j = i then l else fnOf L j := by
  unfold fnOf
  rw [List.find?_append]
  by_cases e : j = i
  · subst e
    rw [if_pos rfl, show L.find? (fun e => e.1 == (j : Int)) = none from List.find?_eq_none.2 fun x hx h => hn x hx (by simpa using h)]
    simp
  · rw [if_neg e]
    have : (([((i : Int), l)] : List En).find? fun e => e.1 == (j : Int)) = none := List.find?_eq_none.2 fun x hx h => by
      rw [List.mem_singleton] at hx
      subst hx
      have h2 : (i : Int) = (j : Int) := by simpa using h
      omega
    rw [this, Option.or_none]
theorem entOK_R {h : Nat} {f : Fen} (hh : h ≤ 4) (hf : GoodF f) : EntOK (entR h f 0) := fun e he => by
  rw [entR_S] at he
  obtain ⟨i, hi, rfl, hn⟩ := entS_mem he
  have := p4_256' hh
  exact ⟨by show (0 : Int) ≤ 0 + (i : Nat); omega, by show (0 : Int) + (i : Nat) < 256; omega, hf i, hn⟩
/-- What Set keeps and adds. -/
def outL (L : List En) (i : Nat) (v : Int) : List En := L.filter (neE i) ++ (match decide (v = 0) with | true => [] | false => [((i : Int), (v, 0))])
theorem out_fn {h : Nat} {f : Fen} (hf : GoodF f) (ho : ∀ j, p4 h ≤ j → f j = (0, 0)) (i : Nat) (v : Int) : fnOf (outL (entR h f 0) i v) = updG f i (v, 0) := by
  have hR := fnOf_R (h := h) hf ho
  funext j
  unfold outL updG
  by_cases h0 : v = 0
  · rw [decide_eq_true h0]
    show fnOf (_ ++ []) j = _
    rw [List.append_nil, fnOf_flt, hR, h0]
  · rw [decide_eq_false h0]
    show fnOf (_ ++ [((i : Int), (v, 0))]) j = _
    rw [fnOf_add j (by rw [fnOf_flt, if_pos rfl]) (fun e he h => by
      have := (List.mem_filter.1 he).2
      unfold neE at this
      rw [h] at this
      simp at this), fnOf_flt, hR]
    by_cases e : j = i
    · rw [if_pos e, if_pos e]
    · rw [if_neg e, if_neg e, if_neg e]
theorem out_ok {h : Nat} {f : Fen} (hh : h ≤ 4) (hf : GoodF f) {i : Nat} (hi : i < 256) {v : Int} (hv : (Lit.int .i64 v).wf = true) : EntOK (outL (entR h f 0) i v) := fun e he => by
  unfold outL at he
  rcases List.mem_append.1 he with he | he
  · exact entOK_R hh hf e (List.mem_filter.1 he).1
  · by_cases h0 : v = 0
    · rw [decide_eq_true h0] at he; exact absurd he (by simp)
    · rw [decide_eq_false h0] at he
      have he2 : e = ((i : Int), (v, 0)) := List.mem_singleton.1 he
      subst he2
      exact ⟨by show (0 : Int) ≤ (i : Int); omega, by show (i : Int) < 256; omega, leaf_zero hv, h0⟩
theorem out_len {h : Nat} {f : Fen} (hh : h ≤ 4) {i : Nat} {v : Int} : (outL (entR h f 0) i v).length ≤ 300 := by
  have h1 := entR_len h f 0
  have h2 := p4_256' hh
  have h3 := List.length_filter_le (neE i) (entR h f 0)
  unfold outL
  rw [List.length_append]
  by_cases h0 : v = 0
  · rw [decide_eq_true h0]; show _ + 0 ≤ 300; omega
  · rw [decide_eq_false h0]; show _ + 1 ≤ 300; omega
theorem filt_snoc {L : List En} {i k : Nat} (hk : k < L.length) : (L.take (k + 1)).filter (neE i) = (L.take k).filter (neE i) ++ (match ((L.getD k eZ).1 == (i : Int)) with | true => [] | false => [L.getD k eZ]) := by
  rw [take_snoc_getD (d := eZ) L k hk, List.filter_append]
  congr 1
  generalize L.getD k eZ = e
  cases h : (e.1 == (i : Int))
  · simp [neE, h]
  · simp [neE, h]
section
variable (H : Int) (a : Option Addr) (n c : Nat) (x m : Int) (w : World)
set_option maxHeartbeats 2000000 in
theorem setq_bad (i v : Int) (b : BadT w H (.slice a n c) x m) : Calls Try.prog 29 #[treeI H (.slice a n c) x m, .int .i64 i, .int .i64 v] w (NoV zTree 1 w) := by
  have HB := Lib.hid b
  clear b
  go_enter Try.func29, Try.ntmps29
  have R := Own.new2 w (.cells #[.int .i64 H, .slice a n c, .int .i64 x, .int .i64 m] 28) 28 #[.int .i64 0, .slice none 0 0, .int .i64 0, .int .i64 0]
  have G := ((Grew.refl w).alloc (.cells #[.int .i64 H, .slice a n c, .int .i64 x, .int .i64 m] 28)).alloc (.cells #[.int .i64 0, .slice none 0 0, .int .i64 0, .int .i64 0] 28)
  go_wp2_with fail
  with_reducible refine (validq_bad H _ _ _ _ (HB.out.grew G)).mono ?_
  rintro e w1 ⟨rfl, g1⟩
  replace R := R.grew g1
  replace G := G.trans g1
  clear g1
  have hlR := R.lt
  obtain ⟨R0, R1, R2, R3, R4, R5, R6, R7⟩ := R.four
  go_wp2_with fail
  generalize hw3 : World.setCell (World.setCell (World.setCell (World.setCell _ _ _) _ _) _ _) _ _ = w3
  have OE := own4 hw3 R
  have GE := grew4 hw3 G (by omega)
  clear hw3 R0 R1 R2 R3 R4 R5 R6 R7
  obtain ⟨b0, b1, b2, b3, -⟩ := OE.four
  exact bodyPost_ret (v := .tuple #[zTree, .int .i64 1]) (by simp [results, Try.results29, go_sem, b0, b1, b2, b3]) rfl ⟨rfl, GE⟩
set_option maxHeartbeats 2000000 in
theorem setq_rng (h : Nat) (f : Fen) (i v : Int) (nn : TreeF w AllP h f (.slice a n c) x m) (hi : rangeI i = false) : Calls Try.prog 29 #[treeI h (.slice a n c) x m, .int .i64 i, .int .i64 v] w (NoV zTree 2 w) := by
  have HN := Lib.hid nn
  have hh := nn.le
  have hi2 := of_decide_eq_false hi
  clear nn hi
  by_cases h0 : i < 0
  · clear hi2
    go_enter Try.func29, Try.ntmps29
    have R := Own.new2 w (.cells #[.int .i64 h, .slice a n c, .int .i64 x, .int .i64 m] 28) 28 #[.int .i64 0, .slice none 0 0, .int .i64 0, .int .i64 0]
    have G := ((Grew.refl w).alloc (.cells #[.int .i64 h, .slice a n c, .int .i64 x, .int .i64 m] 28)).alloc (.cells #[.int .i64 0, .slice none 0 0, .int .i64 0, .int .i64 0] 28)
    go_wp2_with fail
    with_reducible refine (validq_node h f _ _ _ _ hh (HN.out.node.grew G) HN.out.good).mono ?_
    rintro e w1 ⟨rfl, g1⟩
    rw [HN.out.valid]
    replace R := R.grew g1
    replace G := G.trans g1
    clear g1
    have hlR := R.lt
    obtain ⟨R0, R1, R2, R3, R4, R5, R6, R7⟩ := R.four
    go_wp2_with fail
    generalize hw3 : World.setCell (World.setCell (World.setCell (World.setCell _ _ _) _ _) _ _) _ _ = w3
    have OE := own4 hw3 R
    have GE := grew4 hw3 G (by omega)
    clear hw3 R0 R1 R2 R3 R4 R5 R6 R7
    obtain ⟨b0, b1, b2, b3, -⟩ := OE.four
    exact bodyPost_ret (v := .tuple #[zTree, .int .i64 2]) (by simp [results, Try.results29, go_sem, b0, b1, b2, b3]) rfl ⟨rfl, GE⟩
  · have h1 : 255 < i := by omega
    clear hi2
    go_enter Try.func29, Try.ntmps29
    have R := Own.new2 w (.cells #[.int .i64 h, .slice a n c, .int .i64 x, .int .i64 m] 28) 28 #[.int .i64 0, .slice none 0 0, .int .i64 0, .int .i64 0]
    have G := ((Grew.refl w).alloc (.cells #[.int .i64 h, .slice a n c, .int .i64 x, .int .i64 m] 28)).alloc (.cells #[.int .i64 0, .slice none 0 0, .int .i64 0, .int .i64 0] 28)
    go_wp2_with fail
    with_reducible refine (validq_node h f _ _ _ _ hh (HN.out.node.grew G) HN.out.good).mono ?_
    rintro e w1 ⟨rfl, g1⟩
    rw [HN.out.valid]
    replace R := R.grew g1
    replace G := G.trans g1
    clear g1
    have hlR := R.lt
    obtain ⟨R0, R1, R2, R3, R4, R5, R6, R7⟩ := R.four
    go_wp2_with fail
    generalize hw3 : World.setCell (World.setCell (World.setCell (World.setCell _ _ _) _ _) _ _) _ _ = w3
    have OE := own4 hw3 R
    have GE := grew4 hw3 G (by omega)
    clear hw3 R0 R1 R2 R3 R4 R5 R6 R7
    obtain ⟨b0, b1, b2, b3, -⟩ := OE.four
    exact bodyPost_ret (v := .tuple #[zTree, .int .i64 2]) (by simp [results, Try.results29, go_sem, b0, b1, b2, b3]) rfl ⟨rfl, GE⟩
end
end Go.Proofs.Ytdlhihllmidfeaa

/- Sectors that the laws draw: some string, whatever the tape. -/
import Derived.Test.YtbcakadefineiaaRefI
import Derived.Test.YtbcakadefineiaaDrawn
import Derived.Test.YtbcakadefineiaaInoH
namespace Go.Proofs.Ytbcakadefineiaa
open Go.RowKit Go.Mine

def RetStr (B b : Nat) (w : World) (e : Ending) (w' : World) : Prop := ∃ s : ByteArray, e = .returned (.string s) ∧ Tp B w' b ∧ w.grownBy w' (some b)
theorem encS_size (q z b f : Int) : (encS q z b f).size = 0 ∨ (encS q z b f).size = 8 := by
  unfold encS
  split
  · exact .inr rfl
  · exact .inl rfl

def Row8 (w : World) (g : Nat) (c : Nat → Int) : Prop := ∀ j, j < 8 → w.cell? ⟨g, j, none⟩ = some (.int .u8 (c j)) ∧ w.frozen? ⟨g, j, none⟩ = false
theorem Row8.kept {w w' : World} {g : Nat} {c : Nat → Int} (h : Row8 w g c) (e : w'.heap[g]? = w.heap[g]?) : Row8 w' g c :=
  fun j hj => ⟨(World.cell?_of_block (a := ⟨g, j, none⟩) e).trans (h j hj).1, (World.frozen?_of_block (a := ⟨g, j, none⟩) e).trans (h j hj).2⟩
theorem Row8.past {w w' : World} {g b : Nat} {c : Nat → Int} (h : Row8 w g c) (k : w.grownBy w' (some b)) (hl : g < w.heap.size) (hne : g ≠ b) : Row8 w' g c :=
  h.kept (k.block g hl (fun e => hne (by injection e)))
theorem Row8.drew {w : World} {g : Nat} {c : Nat → Int} (h : Row8 w g c) : Row8 w.drew g c := h
theorem cv_row (s : ByteArray) (W : World) (h8 : s.size = 8) : Row8 (cvW s W) W.heap.size (fun j => ((s.data.toList.getD j 0).toNat : Int)) := fun j hj => by
  refine ⟨cv_cell s W j (by omega), ?_⟩
  have hb := Lib.bytesWorld_at_new W 5 s
  unfold cvW World.frozen?
  rw [hb]
  have hs : s.size ≤ (Lib.bytesCells W 5 s).size := by
    unfold Lib.bytesCells
    rw [Array.size_append, Array.size_map]
    exact Nat.le_add_right _ _
  simp
  omega
def setL (c : Nat → Int) (p : Nat) (V : Int) : List Int := (List.range 8).map fun j => if j = p then V else c j
theorem conv_set (w : World) (g p cap : Nat) (c : Nat → Int) (h : Row8 w g c) (hp : p < 8) (V : Int) : (convert 47 9 (.slice (some ⟨g, 0, none⟩) 8 cap)).run Try.prog (w.setCell ⟨g, p, none⟩ (.int .u8 V)) =
    .ok (.string (strOfNums (setL c p V))) (w.setCell ⟨g, p, none⟩ (.int .u8 V)) :=
  run_convert_bytes_arg _ _ _ Try.underlying47 Try.underlying5 g 0 8 cap (setL c p V) (by simp [setL]) (fun i hi => by
    have hv : (setL c p V).getD i 0 = if i = p then V else c i := by simp [setL, List.getD, hi]
    rw [hv, Nat.zero_add]
    by_cases e : i = p
    · subst e
      rw [if_pos rfl]
      exact World.cell?_setCell_same _ _ _ (h i hi).1
    · rw [if_neg e]
      exact (World.cell?_setCell_other _ _ _ _ (fun e' => e (by injection e' with _ e2; exact e2.symm))).trans (h i hi).1) _ Try.underlying9

set_option maxHeartbeats 8000000 in
theorem sector_x (B b : Nat) (f : Int) (w : World) (ht : Tp B w b) (hbw : B ≤ w.heap.size) :
    Calls Try.prog 10 #[.pointer (some ⟨b, 0, none⟩), .int .i64 f] w (RetStr B b w) := by
  have hbb := ht.ltB
  have gr := grown_refl w (some b)
  go_enter Try.func10, Try.ntmps10
  go_wp2_with fail
  with_reducible refine (drawn_x _ _ _ ht hbw).mono ?_
  rintro e w1 ⟨q, z, x, rfl, t1, g1⟩
  replace gr := grown_trans gr g1
  have hz1 := g1.size
  clear g1 ht
  go_wp2_with fail
  with_reducible refine (rEncode_all _ _ _ _ _).mono ?_
  rintro e w2 ⟨rfl, g2⟩
  have t2 := t1.grew g2
  replace gr := grown_trans gr (grown_row g2.grown)
  have hz2 := g2.size
  clear t1 g2
  have hsz := encS_size q z x f
  generalize encS q z x f = s at *
  generalize encE q z x f = ee at *
  have HSZ := Lib.hid hsz
  clear hsz
  go_wp2_with fail
  with_reducible refine (next_x _ _ _ _ (by omega) (by omega) t2).mono ?_
  rintro e w3 ⟨k, k0, k1, rfl, t3, g3⟩
  replace gr := grown_trans gr g3
  have hz3 := g3.size
  clear t2 g3
  have hkc : k = 0 ∨ k = 1 ∨ k = 2 ∨ 3 ≤ k := by omega
  rcases hkc with rfl | rfl | rfl | hk
  · go_wp2_with fail
    with_reducible refine (drawn_x _ _ _ t3 (by omega)).mono ?_
    rintro e w4 ⟨q', z', x', rfl, t4, g4⟩
    replace gr := grown_trans gr g4
    clear t3 g4
    go_wp2_with fail
    with_reducible refine (rEncode_all _ _ _ _ _).mono ?_
    rintro e w5 ⟨rfl, g5⟩
    have t5 := t4.grew g5
    replace gr := grown_trans gr (grown_row g5.grown)
    clear t4 g5
    go_wp2_with fail
    with_reducible refine (next_x _ _ _ _ (by omega) (by omega) t5).mono ?_
    rintro e w6 ⟨h, h0, h1, rfl, t6, g6⟩
    replace gr := grown_trans gr g6
    clear t5 g6
    go_wp2_with fail
    with_reducible refine (rTorn_all _ _ _ _).mono ?_
    rintro e w7 ⟨rfl, g7⟩
    have t7 := t6.grew g7
    replace gr := grown_trans gr (grown_row g7.grown)
    clear t6 g7
    go_wp2
    go_ret
    exact ⟨_, rfl, t7, gr⟩
  · rcases HSZ.out with h0 | h8
    · have hs0 : ((s.size : Int)) ≤ 0 := by omega
      clear h0
      go_wp2
      go_ret
      exact ⟨_, rfl, t3, gr⟩
    · have hk1 : ∀ W, (convert 9 47 (.string s)).run Try.prog W = .ok (.slice (some ⟨W.heap.size, 0, none⟩) s.size (cvC s W)) (cvW s W) := fun W => Lib.run_convert_string_bytes W _ _ _ s Try.underlying9 Try.underlying47 Try.underlying5
      have hRow := cv_row s w3 h8
      have hzc := cv_size s w3
      have t4 := t3.grew (cv_grew s w3)
      replace gr := grown_trans gr (grown_row (cv_grew s w3).grown)
      generalize hcap : cvC s w3 = cap at *
      go_upto_region 9 with fail
      clear hk1
      clear hcap
      generalize hw4 : cvW s w3 = w4 at *
      clear hw4
      have hlg : w3.heap.size < w4.heap.size := by omega
      have hgb : w3.heap.size ≠ b := by omega
      clear hzc
      have n3 : B ≤ w3.heap.size := by omega
      go_region_with (first
        | (go_at_call 19; (with_reducible refine (next_x _ _ 8 _ (by omega) (by omega) t4.drew).mono ?_); rintro e w5 ⟨i, i0, i1, rfl, t5, g5⟩; have l5 : w3.heap.size < w5.heap.size := Nat.lt_of_lt_of_le hlg g5.size; have hR5 := hRow.drew.past g5 hlg hgb; have gr5 := grown_trans (grown_drew gr) g5; obtain ⟨p, rfl⟩ := Int.eq_ofNat_of_zero_le i0; have hp : p < 8 := (by omega); have hc := (hR5 p hp).1; have hfz := (hR5 p hp).2)
        | (go_at_call 19; (with_reducible refine (next_x _ _ 8 _ (by omega) (by omega) t5).mono ?_); rintro e w6 ⟨h, h0, h1, rfl, t6, g6⟩; have l6 : w3.heap.size < w6.heap.size := Nat.lt_of_lt_of_le l5 g6.size; have hR6 := hR5.past g6 l5 hgb; have gr6 := grown_trans gr5 g6; clear hc hfz; have hc := (hR6 p hp).1; have hfz := (hR6 p hp).2; have hcv := fun V => conv_set w6 w3.heap.size p cap _ hR6 hp V))
      all_goals go_wp2
      all_goals go_ret
      all_goals exact ⟨_, rfl, t6.set (p := ⟨w3.heap.size, p, none⟩) n3 _, grown_set (p := ⟨w3.heap.size, p, none⟩) gr6 (.inr (by simp; omega)) _⟩
  · go_wp2_with fail
    with_reducible refine (next_x _ _ _ _ (by omega) (by omega) t3).mono ?_
    rintro e w4 ⟨h, h0, h1, rfl, t4, g4⟩
    replace gr := grown_trans gr g4
    clear t3 g4
    have hhc : h = 0 ∨ h = 1 ∨ h = 2 := by omega
    rcases hhc with rfl | rfl | rfl
    · have hmk : ∀ W, (Instr.makeSlice 47 (.int .i64 7) (.int .i64 7)).run Try.prog W = .ok (.slice (some ⟨W.heap.size, 0, none⟩) 7 7) (W.alloc (.cells #[.int .u8 0, .int .u8 0, .int .u8 0, .int .u8 0, .int .u8 0, .int .u8 0, .int .u8 0] 5)) := fun W => by kernel_rfl
      have hcv := run_convert_bytes_arg (P := Try.prog) (w4.alloc (.cells #[.int .u8 0, .int .u8 0, .int .u8 0, .int .u8 0, .int .u8 0, .int .u8 0, .int .u8 0] 5)) 47 5 Try.underlying47 Try.underlying5 w4.heap.size 0 7 7 [0, 0, 0, 0, 0, 0, 0] rfl (fun i hi => by
        rw [Nat.zero_add]
        refine ((Own.new w4 _ _).cell i).trans ?_
        have hc : i = 0 ∨ i = 1 ∨ i = 2 ∨ i = 3 ∨ i = 4 ∨ i = 5 ∨ i = 6 := by omega
        rcases hc with rfl | rfl | rfl | rfl | rfl | rfl | rfl <;> rfl) _ Try.underlying9
      go_wp2
      go_ret
      exact ⟨_, rfl, t4.alloc _, grown_alloc gr _⟩
    · have hmk : ∀ W, (Instr.makeSlice 47 (.int .i64 8) (.int .i64 8)).run Try.prog W = .ok (.slice (some ⟨W.heap.size, 0, none⟩) 8 8) (W.alloc (.cells #[.int .u8 0, .int .u8 0, .int .u8 0, .int .u8 0, .int .u8 0, .int .u8 0, .int .u8 0, .int .u8 0] 5)) := fun W => by kernel_rfl
      have hcv := run_convert_bytes_arg (P := Try.prog) (w4.alloc (.cells #[.int .u8 0, .int .u8 0, .int .u8 0, .int .u8 0, .int .u8 0, .int .u8 0, .int .u8 0, .int .u8 0] 5)) 47 5 Try.underlying47 Try.underlying5 w4.heap.size 0 8 8 [0, 0, 0, 0, 0, 0, 0, 0] rfl (fun i hi => by
        rw [Nat.zero_add]
        refine ((Own.new w4 _ _).cell i).trans ?_
        have hc : i = 0 ∨ i = 1 ∨ i = 2 ∨ i = 3 ∨ i = 4 ∨ i = 5 ∨ i = 6 ∨ i = 7 := by omega
        rcases hc with rfl | rfl | rfl | rfl | rfl | rfl | rfl | rfl <;> rfl) _ Try.underlying9
      go_wp2
      go_ret
      exact ⟨_, rfl, t4.alloc _, grown_alloc gr _⟩
    · have hmk : ∀ W, (Instr.makeSlice 47 (.int .i64 9) (.int .i64 9)).run Try.prog W = .ok (.slice (some ⟨W.heap.size, 0, none⟩) 9 9) (W.alloc (.cells #[.int .u8 0, .int .u8 0, .int .u8 0, .int .u8 0, .int .u8 0, .int .u8 0, .int .u8 0, .int .u8 0, .int .u8 0] 5)) := fun W => by kernel_rfl
      have hcv := run_convert_bytes_arg (P := Try.prog) (w4.alloc (.cells #[.int .u8 0, .int .u8 0, .int .u8 0, .int .u8 0, .int .u8 0, .int .u8 0, .int .u8 0, .int .u8 0, .int .u8 0] 5)) 47 5 Try.underlying47 Try.underlying5 w4.heap.size 0 9 9 [0, 0, 0, 0, 0, 0, 0, 0, 0] rfl (fun i hi => by
        rw [Nat.zero_add]
        refine ((Own.new w4 _ _).cell i).trans ?_
        have hc : i = 0 ∨ i = 1 ∨ i = 2 ∨ i = 3 ∨ i = 4 ∨ i = 5 ∨ i = 6 ∨ i = 7 ∨ i = 8 := by omega
        rcases hc with rfl | rfl | rfl | rfl | rfl | rfl | rfl | rfl | rfl <;> rfl) _ Try.underlying9
      go_wp2
      go_ret
      exact ⟨_, rfl, t4.alloc _, grown_alloc gr _⟩
  · have e0 : (k == 0) = false := beq_eq_false_iff_ne.2 (by omega)
    have e1 : (k == 1) = false := beq_eq_false_iff_ne.2 (by omega)
    have e2 : (k == 2) = false := beq_eq_false_iff_ne.2 (by omega)
    go_wp2
    go_ret
    exact ⟨_, rfl, t3, gr⟩
end Go.Proofs.Ytbcakadefineiaa

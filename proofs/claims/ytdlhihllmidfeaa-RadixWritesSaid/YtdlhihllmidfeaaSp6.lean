/- The reference of layer 1: Valid, Entries. -/
import Derived.Test.YtdlhihllmidfeaaSp5
import Derived.Test.YtdlhihllmidfeaaSp3
import Derived.Test.YtdlhihllmidfeaaRm1
namespace Go.Proofs.Ytdlhihllmidfeaa
open Go.RowKit Go.Mine

/-- The last entry. -/
theorem last_S {f : Fen} : ∀ {n : Nat}, (entS f 0 n = [] ∧ ∀ i, i < n → (f i).1 = 0) ∨ ∃ j : Nat, j < n ∧ 0 < (entS f 0 n).length ∧ (entS f 0 n).getD ((entS f 0 n).length - 1) (0, (0, 0)) = ((j : Int), f j) ∧ (f j).1 ≠ 0 ∧ ∀ i, j < i → i < n → (f i).1 = 0
  | 0 => .inl ⟨rfl, fun i hi => by omega⟩
  | n + 1 => by
    by_cases e : (f n).1 = 0
    · rw [entS, if_pos e, List.append_nil]
      rcases last_S (f := f) (n := n) with ⟨h1, h2⟩ | ⟨j, h1, h2, h3, h4, h5⟩
      · refine .inl ⟨h1, fun i hi => ?_⟩
        by_cases hi2 : i = n
        · rw [hi2]; exact e
        · exact h2 i (by omega)
      · refine .inr ⟨j, by omega, h2, h3, h4, fun i h6 h7 => ?_⟩
        by_cases hi2 : i = n
        · rw [hi2]; exact e
        · exact h5 i h6 (by omega)
    · rw [entS, if_neg e]
      refine .inr ⟨n, by omega, by simp, ?_, e, fun i h6 h7 => by omega⟩
      rw [List.length_append, List.length_singleton, Nat.add_sub_cancel]
      simp [List.getD]
theorem only_zero {k : Nat} {f : Fen} (hf : GoodF f) : onlyB k f = true ↔ ∀ i, p4 k ≤ i → i < p4 (k + 1) → (f i).1 = 0 := by
  rw [onlyB_iff]
  exact ⟨fun h i h1 h2 => by rw [h i h1 h2], fun h i h1 h2 => Prod.ext (h i h1 h2) ((hf i).2.2.2 (by rw [h i h1 h2]; exact Int.le_refl _))⟩
theorem valid_last {h j : Nat} {f : Fen} (hf : GoodF f) (hh : h ≤ 4) (hj : j < p4 h) (h4 : (f j).1 ≠ 0) (h5 : ∀ i, j < i → i < p4 h → (f i).1 = 0) : ((h : Int) == (hF j : Int)) = validB h f := by
  have hp : p4 h ≤ 256 := p4_mono hh
  cases h with
  | zero =>
    have : j = 0 := by have : p4 0 = 1 := rfl; omega
    subst this
    rfl
  | succ k =>
    have hle : hF j ≤ k + 1 := Classical.byContradiction fun e => by have := hF_ge (i := j) (q := k + 1) (by omega); omega
    show _ = !onlyB k f
    cases ho : onlyB k f
    · have hn : ¬∀ i, p4 k ≤ i → i < p4 (k + 1) → (f i).1 = 0 := fun e => by rw [(only_zero hf).2 e] at ho; cases ho
      have hge : p4 k ≤ j := Classical.byContradiction fun e => hn fun i h1 h2 => h5 i (by omega) h2
      have : ¬hF j ≤ k := fun e => by
        have h6 := hF_lt (i := j) (by omega)
        have h7 := p4_mono e
        omega
      have e : ((k + 1 : Nat) : Int) = (hF j : Int) := by omega
      rw [e]; simp
    · have hlt : j < p4 k := Classical.byContradiction fun e => h4 ((only_zero hf).1 ho j (by omega) hj)
      have : hF j ≤ k := Classical.byContradiction fun e => by have := hF_ge (i := j) (q := k) (by omega); omega
      simp; omega
theorem valid_none {h : Nat} {f : Fen} (hf : GoodF f) (h5 : ∀ i, i < p4 h → (f i).1 = 0) : ((h : Int) == 0) = validB h f := by
  cases h with
  | zero => rfl
  | succ k =>
    show _ = !onlyB k f
    rw [(only_zero hf).2 fun i _ h2 => h5 i h2]
    simp; omega
set_option maxHeartbeats 4000000 in
theorem validq_node (h : Nat) (f : Fen) (s : Value) (x m : Int) (w : World) (hh : h ≤ 4) (n : NodeF w AllP h f s x m) (hf : GoodF f) : Calls Try.prog 16 #[treeI h s x m] w (RetG (.bool (validB h f)) w) := by
  obtain ⟨a, j, c, rfl⟩ := n.slice
  have HN := Lib.hid n
  have HF := Lib.hid hf
  have h4 : (h : Int) ≤ 4 := by omega
  have h0 : (0 : Int) ≤ (h : Int) := by omega
  have h5 : h ≤ 5 := by omega
  clear n hf
  go_enter Try.func16, Try.ntmps16
  have B := Own.new w 28 #[.int .i64 h, .slice a j c, .int .i64 x, .int .i64 m]
  have G := (Grew.refl w).alloc (.cells #[.int .i64 h, .slice a j c, .int .i64 x, .int .i64 m] 28)
  go_wp2_with fail
  with_reducible refine ((subtree_q h h5).1 f _ _ _ _ (HN.out.grew G) HF.out).mono ?_
  rintro e w1 ⟨rfl, g1⟩
  replace B := B.grew g1
  replace G := G.trans g1
  clear g1
  obtain ⟨B0, B1, B2, B3, B4, B5, B6, B7⟩ := B.four
  go_wp2_with fail
  with_reducible refine (list_new h f _ _ _ _ hh (HN.out.grew G) HF.out).mono ?_
  rintro e w2 ⟨v, rfl, R, g2⟩
  replace B := B.grew g2
  replace G := G.trans g2
  clear g2 B0 B1 B2 B3 B4 B5 B6 B7
  obtain ⟨B0, B1, B2, B3, B4, B5, B6, B7⟩ := B.four
  have HLn := Lib.hid (show (entR h f 0).length ≤ 256 from Nat.le_trans (entR_len h f 0) (p4_mono hh))
  have hr := entR_S h f 0
  rcases last_S (f := f) (n := p4 h) with ⟨e1, e2⟩ | ⟨jj, e1, e2, e3, e4, e5⟩
  · have e6 : entR h f 0 = [] := hr.trans e1
    have HV := Lib.hid (valid_none HF.out e2)
    rw [e6] at R
    obtain ⟨a0, c0, rfl⟩ := R.len
    clear e1 e2 e6 hr R
    go_wp2
    go_ret
    exact ⟨ret_bool HV.out, G⟩
  · have HV := Lib.hid (valid_last HF.out hh e1 e4 e5)
    obtain ⟨a0, nn, c0, rfl, hnn, hcells⟩ := RowE.ents R
    rw [hr] at hnn hcells
    have hnn2 : nn ≤ 256 := by rw [hnn, ← hr]; exact HLn.out
    obtain ⟨n', rfl⟩ : ∃ n', nn = n' + 1 := ⟨nn - 1, by omega⟩
    obtain ⟨g, rfl, hg, -, k0, -, -⟩ := hcells n' (by omega)
    rw [show n' = (entS f 0 (p4 h)).length - 1 by omega, e3] at k0
    rw [show (entS f 0 (p4 h)).length - 1 = n' by omega] at k0
    have hj256 : jj < 256 := Nat.lt_of_lt_of_le e1 (p4_mono hh)
    have HH := Lib.hid (fun w' => heightFor_q jj w' hj256)
    have en : (((n' + 1 : Nat) : Int) == 0) = false := by simp; omega
    clear e1 e2 e3 e4 e5 hr hnn hcells R
    have hw1 : IntKind.i64.wrap (n' : Int) = (n' : Int) := IntWalk.i64_in _ (by omega)
    have hi0 : (0 : Int) ≤ (n' : Int) := by omega
    have hi1 : (n' : Int) < (n' : Int) + 1 := by omega
    go_wp2_with fail
    go_quiet ((go_at_call 48; exact Calls.quiet_of_same ((HH.out _).mono fun e w' h => ⟨h.1, h.2.symm⟩)))
    go_wp2
    go_ret
    exact ⟨ret_bool HV.out, G.drewN _⟩
theorem validq_bad (H : Int) (s : Value) (x m : Int) (w : World) (b : BadT w H s x m) : Calls Try.prog 16 #[treeI H s x m] w (RetG (.bool false) w) := by
  obtain ⟨⟨a, n, c, rfl⟩, hb⟩ := b
  have G := (Grew.refl w).alloc (.cells #[.int .i64 H, .slice a n c, .int .i64 x, .int .i64 m] 28)
  by_cases h0 : H < 0
  · clear hb
    go_enter Try.func16, Try.ntmps16
    go_wp2
    go_ret
    exact ⟨rfl, G⟩
  · by_cases h4 : 4 < H
    · clear hb
      go_enter Try.func16, Try.ntmps16
      go_wp2
      go_ret
      exact ⟨rfl, G⟩
    · obtain ⟨h, rfl, hh, hn⟩ := (hb.resolve_left h0).resolve_left h4
      rcases hn with hn | ⟨f, hn, hf, hv⟩
      · have HN := Lib.hid hn
        have h5 : h ≤ 5 := by omega
        clear hb hn
        go_enter Try.func16, Try.ntmps16
        go_wp2_with fail
        with_reducible refine ((subtree_q h h5).2 _ _ _ _ (HN.out.grew G)).mono ?_
        rintro e w1 ⟨rfl, g1⟩
        go_wp2
        go_ret
        exact ⟨rfl, G.trans g1⟩
      · have := validq_node h f _ _ _ w hh hn hf
        rw [hv] at this
        exact this
theorem entriesq_f (h : Nat) (f : Fen) (s : Value) (x m : Int) (w : World) (n : TreeF w AllP h f s x m) :
    Calls Try.prog 25 #[treeI h s x m] w (fun e w' => ∃ v, e = .returned v ∧ RowE 51 3 encE w' w.heap.size v (entR h f 0) ∧ Grew w w') := by
  obtain ⟨a, j, c, rfl⟩ := n.node.slice
  have HN := Lib.hid n
  have hh := n.le
  clear n
  go_enter Try.func25, Try.ntmps25
  have B := Own.new w 28 #[.int .i64 h, .slice a j c, .int .i64 x, .int .i64 m]
  have G := (Grew.refl w).alloc (.cells #[.int .i64 h, .slice a j c, .int .i64 x, .int .i64 m] 28)
  go_wp2_with fail
  with_reducible refine (validq_node h f _ _ _ _ hh (HN.out.node.grew G) HN.out.good).mono ?_
  rintro e w1 ⟨rfl, g1⟩
  rw [HN.out.valid]
  replace B := B.grew g1
  replace G := G.trans g1
  clear g1
  obtain ⟨B0, B1, B2, B3, B4, B5, B6, B7⟩ := B.four
  go_wp2_with fail
  with_reducible refine (list_new h f _ _ _ _ hh (HN.out.node.grew G) HN.out.good).mono ?_
  rintro e w2 ⟨v, rfl, R, g2⟩
  go_wp2
  go_ret
  exact ⟨_, rfl, R.wider G.size, G.trans g2⟩
theorem entriesq_bad (H : Int) (s : Value) (x m : Int) (w : World) (b : BadT w H s x m) :
    Calls Try.prog 25 #[treeI H s x m] w (fun e w' => ∃ v, e = .returned v ∧ RowE 51 3 encE w' w.heap.size v [] ∧ Grew w w') := by
  obtain ⟨a, n, c, rfl⟩ := b.1
  have HB := Lib.hid b
  clear b
  have G := (Grew.refl w).alloc (.cells #[.int .i64 H, .slice a n c, .int .i64 x, .int .i64 m] 28)
  go_enter Try.func25, Try.ntmps25
  go_wp2_with fail
  with_reducible refine (validq_bad H _ _ _ _ (HB.out.grew G)).mono ?_
  rintro e w1 ⟨rfl, g1⟩
  go_wp2
  go_ret
  exact ⟨_, rfl, RowE.nil _ _, G.trans g1⟩
/-- What a tree holds: the list of its entries (nothing, if it is not valid). -/
def TreeL (w : World) (H : Int) (s : Value) (x m : Int) (L : List En) : Prop := (∃ h f, H = (h : Nat) ∧ TreeF w AllP h f s x m ∧ L = entR h f 0) ∨ (BadT w H s x m ∧ L = [])
theorem TreeL.slice {w : World} {H : Int} {s : Value} {x m : Int} {L : List En} (t : TreeL w H s x m L) : ∃ a n c, s = .slice a n c := by
  rcases t with ⟨h, f, rfl, n, -⟩ | ⟨b, -⟩
  · exact n.node.slice
  · exact b.1
theorem TreeL.grew {w w' : World} {H : Int} {s : Value} {x m : Int} {L : List En} (t : TreeL w H s x m L) (G : Grew w w') : TreeL w' H s x m L := by
  rcases t with ⟨h, f, e, n, e2⟩ | ⟨b, e⟩
  · exact .inl ⟨h, f, e, n.grew G, e2⟩
  · exact .inr ⟨b.grew G, e⟩
theorem TreeL.len {w : World} {H : Int} {s : Value} {x m : Int} {L : List En} (t : TreeL w H s x m L) : L.length ≤ 256 := by
  rcases t with ⟨h, f, rfl, n, rfl⟩ | ⟨-, rfl⟩
  · exact Nat.le_trans (entR_len h f 0) (p4_mono n.le)
  · exact Nat.zero_le _
theorem entriesq_l (H : Int) (s : Value) (x m : Int) (L : List En) (w : World) (t : TreeL w H s x m L) :
    Calls Try.prog 25 #[treeI H s x m] w (fun e w' => ∃ v, e = .returned v ∧ RowE 51 3 encE w' w.heap.size v L ∧ Grew w w') := by
  rcases t with ⟨h, f, rfl, n, rfl⟩ | ⟨b, rfl⟩
  · exact entriesq_f h f s x m w n
  · exact entriesq_bad H s x m w b
end Go.Proofs.Ytdlhihllmidfeaa

/- pagecacheref01.Made: the tree of a list of entries. -/
import Derived.Test.YtdlhihllmidfeaaRm3
namespace Go.Proofs.Ytdlhihllmidfeaa
open Go.RowKit Go.Mine

/-- The greatest index of a list of entries, 0 if there is none. -/
def topOf (L : List En) : Nat := L.foldl (fun t e => if t < e.1.toNat then e.1.toNat else t) 0
theorem topOf_snoc (L : List En) (e : En) : topOf (L ++ [e]) = if topOf L < e.1.toNat then e.1.toNat else topOf L := by simp [topOf, List.foldl_append]
theorem topOf_spec : ∀ (n : Nat) (L : List En), L.length = n → (∀ e ∈ L, e.1.toNat ≤ topOf L) ∧ (topOf L = 0 ∨ ∃ e ∈ L, e.1.toNat = topOf L) := by
  intro n
  induction n with
  | zero => intro L h; have : L = [] := List.length_eq_zero_iff.1 h; subst this; exact ⟨by simp, .inl rfl⟩
  | succ n ih =>
    intro L h
    have hne : L ≠ [] := fun e => by rw [e] at h; cases h
    obtain ⟨M, x, rfl⟩ : ∃ M x, L = M ++ [x] := ⟨L.dropLast, L.getLast hne, (List.dropLast_concat_getLast hne).symm⟩
    have hM : M.length = n := by simp at h; omega
    obtain ⟨i1, i2⟩ := ih M hM
    rw [topOf_snoc]
    split
    · rename_i hlt
      refine ⟨fun e he => ?_, .inr ⟨x, by simp, rfl⟩⟩
      rcases List.mem_append.1 he with he | he
      · have := i1 e he; omega
      · simp at he; subst he; exact Nat.le_refl _
    · rename_i hge
      refine ⟨fun e he => ?_, ?_⟩
      · rcases List.mem_append.1 he with he | he
        · exact i1 e he
        · simp at he; subst he; omega
      · rcases i2 with i2 | ⟨e, he, h2⟩
        · exact .inl i2
        · exact .inr ⟨e, List.mem_append_left _ he, h2⟩
theorem fnOf_out {L : List En} {t : Nat} (h : ∀ e ∈ L, e.1.toNat ≤ t) (ok : EntOK L) {j : Nat} (hj : t < j) : fnOf L j = (0, 0) := by
  unfold fnOf
  cases hf : L.find? (fun e => e.1 == (j : Int)) with
  | none => rfl
  | some e =>
    exfalso
    have h1 := List.mem_of_find?_eq_some hf
    have h2 : e.1 = (j : Int) := by simpa using List.find?_some hf
    have h3 := h e h1
    omega
theorem fnOf_ne {L : List En} (ok : EntOK L) {e : En} (he : e ∈ L) : fnOf L e.1.toNat ≠ (0, 0) := by
  have h0 := (ok e he).1
  unfold fnOf
  rw [show ((e.1.toNat : Nat) : Int) = e.1 from by omega]
  cases hf : L.find? (fun x => x.1 == e.1) with
  | none => exact absurd (List.find?_eq_none.1 hf e he) (by simp)
  | some y =>
    have := (ok y (List.mem_of_find?_eq_some hf)).2.2.2
    intro h
    dsimp only at h
    rw [h] at this
    exact this rfl
theorem made_tree {w : World} {p : Nat → Prop} {L : List En} {s : Value} {x m : Int} (ok : EntOK L) (n : NodeF w p (hF (topOf L)) (fnOf L) s x m) : TreeF w p (hF (topOf L)) (fnOf L) s x m := by
  obtain ⟨h1, h2⟩ := topOf_spec L.length L rfl
  have ht : topOf L < 256 := by
    rcases h2 with h2 | ⟨e, he, h2⟩
    · omega
    · have := ok e he; omega
  refine ⟨hF_le _, n, fnOf_good ok, ?_, fun j hj => fnOf_out h1 ok (Nat.lt_of_lt_of_le (hF_lt ht) hj)⟩
  cases hh : hF (topOf L) with
  | zero => rfl
  | succ q =>
    have hq : p4 q ≤ topOf L := hF_ge (by omega)
    have hlt := hF_lt ht
    rw [hh] at hlt
    show (!onlyB q (fnOf L)) = true
    cases hb : onlyB q (fnOf L)
    · rfl
    · exfalso
      rcases h2 with h2 | ⟨e, he, h2⟩
      · have := p4_pos q; omega
      · have := (onlyB_iff q (fnOf L)).1 hb (topOf L) hq hlt
        rw [← h2] at this
        exact fnOf_ne ok he this
theorem node_0 (h B : Nat) (v : Value) (L : List En) (w : World) (hh : h ≤ 4) (hL : L.length ≤ 300) (ok : EntOK L) (R : RowE 51 3 encE w B v L) : Calls Try.prog 74 #[v, .int .i64 (h : Nat), .int .i64 0] w (RetNd h (fnOf L) (fun b => w.heap.size ≤ b) w) := by
  have h0 : 0 + p4 h ≤ 256 := by rw [Nat.zero_add]; exact Nat.le_trans (p4_mono hh) (by decide)
  have h1 := node_f h B 0 v L w hh hL h0 ok R
  rw [show (fun i => fnOf L (0 + i)) = fnOf L from by funext i; rw [Nat.zero_add]] at h1
  exact h1
set_option maxHeartbeats 2000000 in
theorem made_f (B : Nat) (v : Value) (L : List En) (w : World) (hL : L.length ≤ 300) (ok : EntOK L) (R : RowE 51 3 encE w B v L) :
    Calls Try.prog 56 #[v] w (RetTr (hF (topOf L)) (fnOf L) (fun b => w.heap.size ≤ b) w) := by
  have HR := Lib.hid R
  have HOK := Lib.hid ok
  have HL := Lib.hid hL
  have htop : topOf L < 256 := by
    obtain ⟨-, h2⟩ := topOf_spec L.length L rfl
    rcases h2 with h2 | ⟨e, he, h2⟩
    · omega
    · have := ok e he; omega
  obtain ⟨a, X, c, rfl, hX, hcell⟩ := RowE.ents R
  have HC := Lib.hid hcell
  have HX := Lib.hid hX
  have HT := Lib.hid htop
  have hX3 : X ≤ 300 := by omega
  clear hcell hX R ok hL htop
  go_enter Try.func56, Try.ntmps56
  have N0 := Own.new w 28 #[.int .i64 0, .slice none 0 0, .int .i64 0, .int .i64 0]
  have G0 := (Grew.refl w).alloc (.cells #[.int .i64 0, .slice none 0 0, .int .i64 0, .int .i64 0] 28)
  go_wp2_with fail
  have HN := Lib.hid N0
  have HG := Lib.hid G0
  clear N0 G0
  go_loopw [3, 4] (fun tv i wr => ∃ k : Nat, i = .int .i64 k ∧ tv = .int .i64 (topOf (L.take k) : Nat) ∧ k ≤ X ∧ Own wr w.heap.size 28 #[.int .i64 0, .slice none 0 0, .int .i64 0, .int .i64 0] ∧ Grew w wr) (fun _ i _ => X - (intOf i).toNat)
  case atStart => exact ⟨0, rfl, rfl, by omega, HN.out, HG.out⟩
  case round =>
    clear HN HG
    obtain ⟨k, rfl, rfl, hk, N, G⟩ := hrel
    by_cases hlt : k < X
    · obtain ⟨g, rfl, hg, -, d0, d1, d2⟩ := HC.out k hlt
      have e0 := (G.cells.1 g _ hg).trans d0
      have hk3 : k < L.length := by rw [← HX.out]; exact hlt
      have htk := take_getD (d := ((0 : Int), ((0 : Int), (0 : Int)))) L k hk3
      have hoke := HOK.out _ (show L.getD k (0, (0, 0)) ∈ L from by simp [List.getD, hk3])
      have HTK := Lib.hid (show topOf (L.take (k + 1)) = _ from by rw [htk, topOf_snoc])
      generalize L.getD k (0, (0, 0)) = en at *
      obtain ⟨ei, ex, em⟩ := en
      dsimp only at e0 HTK
      have hi0 : 0 ≤ ei := hoke.1
      obtain ⟨en, rfl⟩ := Int.eq_ofNat_of_zero_le hi0
      have hi1 : (0 : Int) ≤ (k : Int) := by omega
      have hi2 : (k : Int) < (X : Int) := by omega
      generalize topOf (L.take k) = t at *
      clear d0 d1 d2 htk hoke hk3 hi0
      by_cases hm : t < en
      · have hm1 : (t : Int) < (en : Int) := by omega
        go_wp2_with fail
        go_roundw
        case rel => exact ⟨k + 1, by go_num, by rw [HTK.out]; simp [hm]; try omega, by omega, N, G⟩
        case measure => simp [intOf]; omega
      · have hm1 : ¬((t : Int) < (en : Int)) := by omega
        go_wp2_with fail
        go_roundw
        case rel => exact ⟨k + 1, by go_num, by rw [HTK.out]; simp [hm]; try omega, by omega, N, G⟩
        case measure => simp [intOf]; omega
    · have hkX : k = X := by omega
      subst hkX
      rw [show L.take k = L from List.take_of_length_le (by rw [← HX.out]; exact Nat.le_refl _)]
      obtain ⟨N0, N1, N2, N3, N4, N5, N6, N7⟩ := N.four
      go_wp2_with fail
      with_reducible refine (heightFor_q (topOf L) _ HT.out).mono ?_
      rintro e w1 ⟨rfl, rfl⟩
      have h4 := hF_le (topOf L)
      go_wp2_with fail
      with_reducible refine (node_0 (hF (topOf L)) B _ L _ h4 HL.out HOK.out (HR.out.grew G)).mono ?_
      rintro e w2 ⟨s, x, m, rfl, n, g2⟩
      obtain ⟨a2, j2, c2, rfl⟩ := n.slice
      have hwr : w.heap.size < wr.heap.size := N.lt
      have NN := Lib.hid n
      have N9 := N.grew g2
      have G9 := G.trans g2
      clear n g2 N0 N1 N2 N3 N4 N5 N6 N7 N G
      obtain ⟨N0, N1, N2, N3, N4, N5, N6, N7⟩ := N9.four
      go_wp2_with fail
      generalize hw3 : World.setCell (World.setCell (World.setCell (World.setCell _ _ _) _ _) _ _) _ _ = w3
      have OE := own4 hw3 N9
      have GE := grew4 hw3 G9 (Nat.le_refl _)
      have nE := node4 hw3 NN.out (fun b hb => by omega)
      clear hw3 N0 N1 N2 N3 N4 N5 N6 N7
      obtain ⟨b0, b1, b2, b3, -⟩ := OE.four
      exact bodyPost_ret (v := treeV (hF (topOf L)) (.slice a2 j2 c2) x m) (by simp [results, Try.results56, go_sem, b0, b1, b2, b3]) rfl ⟨_, _, _, rfl, nE.mono (fun b hb _ => by omega), GE⟩
end Go.Proofs.Ytdlhihllmidfeaa

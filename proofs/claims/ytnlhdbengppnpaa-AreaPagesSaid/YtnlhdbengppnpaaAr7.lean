/- Areas (layer 16): slices.Insert of one area. -/
import Derived.Test.YtnlhdbengppnpaaAr6
import Derived.Test.YtnlhdbengppnpaaInsM
import Derived.Deep.RegionLaw
namespace Go.Proofs.Ytnlhdbengppnpaa
open Go.RowKit Go.Mine

/-- It returns a row that holds L; nothing but the row's own block has turned. -/
def RetIn (L : List Ar) (B : Nat) (v : Value) (w : World) (e : Ending) (w' : World) : Prop := ∃ u, e = .returned u ∧ RowE 30 5 enc5 w' B u L ∧ w.grownBy w' v.ownBlock
theorem sz_ar : (Try.prog.info? 30).map (·.size) = some 5 := by kernel_rfl
set_option maxRecDepth 100000 in
set_option maxHeartbeats 8000000 in
theorem ins_r {L : List Ar} {B : Nat} (v : Value) (i : Nat) (x : Ar) (w : World) (G c : Nat) (R : RowE 30 5 enc5 w B v L) (hl : L.length ≤ 1000) (hi : i ≤ L.length) (hG : Own w G 30 (enc5 x).toArray) (hne : v.ownBlock ≠ some G) (hB : B ≤ w.heap.size) :
    Calls Try.prog 29 #[v, .int .i64 i, .slice (some ⟨G, 0, none⟩) 1 c] w (RetIn (L.take i ++ x :: L.drop i) B v w) := by
  by_cases hend : i = L.length
  · have hR : RetIn (L ++ [x]) B v w = RetIn (L.take i ++ x :: L.drop i) B v w := by rw [hend, List.take_length, List.drop_length]
    rw [← hR]
    have HR := Lib.hid R
    have HGO := Lib.hid hG
    have HB := Lib.hid hB
    obtain ⟨a, cp, rfl⟩ := R.len
    obtain ⟨n, hn⟩ : ∃ n, L.length = n := ⟨_, rfl⟩
    rw [hn] at hend HR hne ⊢
    subst hend
    have hx6 : L.length < 1000000 := by omega
    have hcp : (i : Int) ≤ (cp : Int) ∧ (cp : Int) ≤ 9223372036854775807 := by
      rcases R.shape enc5_len with ⟨e, h0⟩ | ⟨g, cap, e, -, -, h1, h2, -⟩
      · injection e with e1 e2 e3
        subst e3
        rw [h0] at hn
        have : i = 0 := by simpa using hn.symm
        omega
      · injection e with e1 e2 e3
        subst e3
        unfold maxLen at h2
        omega
    obtain ⟨hcp1, hcp2⟩ := hcp
    clear R hG hB hR hl hi hne hn
    rcases (show cp = i ∨ ¬cp = i by omega) with rfl | hci
    all_goals
     go_enter Try.func29, Try.ntmps29
     go_wp2_with (at_builtin; go_loud (refine wpList_append_row _ rfl _ _ 26 rfl B info_ar Try.underlying26 (by decide) (by decide) enc5_len _ L rfl HR.out _ _ x rfl HGO.out enc5_one hx6 (by decide) HB.out ?_; intro g7 cap w7 R7 G7 o7; have HR7 := Lib.hid R7; have HG7 := Lib.hid (show w.grownBy w7 (Value.slice a _ _).ownBlock from G7); clear R7 G7 o7))
     all_goals (go_ret; exact ⟨_, rfl, HR7.out, HG7.out⟩)
  · have hlt : i < L.length := by omega
    rcases R.shape enc5_len with ⟨-, e⟩ | ⟨g, cp, rfl, -⟩
    · rw [e] at hlt; exact absurd hlt (by simp)
    obtain ⟨-, hBg, hnc, hm, cur, hO, hsz, hcs⟩ := row_ownN R
    have hF := fm_len enc5_len L
    have hfm := fm_ins enc5_len L x hi
    obtain ⟨F, hFF⟩ : ∃ F, L.flatMap enc5 = F := ⟨_, rfl⟩
    have h1F : ∀ u ∈ F, u.oneCell' = true := fun u hu => by
      rw [← hFF] at hu
      obtain ⟨y, -, hy⟩ := List.mem_flatMap.1 hu
      exact enc5_one u hy
    rw [hFF] at hcs hF hfm
    obtain ⟨n, hn⟩ : ∃ n, L.length = n := ⟨_, rfl⟩
    have hlen : (L.take i ++ x :: L.drop i).length = n + 1 := by simp; omega
    rw [hn] at hlt hnc hcs hF hend hi hl ⊢
    have hgG : G ≠ g := fun e => hne (by rw [e]; rfl)
    have hGc : ∀ j u, (enc5 x)[j]? = some u → w.cell? ⟨G, j, none⟩ = some u := fun j u hu => by rw [hG.cell j]; simpa using hu
    have hw1 : IntKind.i64.wrap ((i : Int) + 1) = (i : Int) + 1 := IntWalk.i64_in _ (by omega)
    have hw2 : IntKind.i64.wrap ((n : Int) + 1) = (n : Int) + 1 := IntWalk.i64_in _ (by omega)
    have hb0 : (0 : Int) ≤ (i : Int) := by omega
    have hb1 : (0 : Int) ≤ (i : Int) + 1 := by omega
    have hb2 : (0 : Int) ≤ (n : Int) + 1 := by omega
    have hin : (i : Int) ≤ (n : Int) := by omega
    have hin2 : (i : Int) ≤ (n : Int) + 1 := by omega
    have htn : ((i : Int) + 1).toNat = i + 1 := by omega
    have htm : ((n : Int) + 1).toNat = n + 1 := by omega
    have hz2 : ((i : Int) == (n : Int)) = false := beq_false_of_ne (by omega)
    have hci : ¬cp = i := by omega
    unfold maxLen at hm
    have hdl : (F.drop (i * 5)).length = (n - i) * 5 := by rw [List.length_drop, hF, Nat.sub_mul]
    by_cases hroom : n + 1 ≤ cp
    · have hov : ∀ o lb cb, (callFunc 38 #[.slice (some ⟨G, 0, none⟩) 1 c, .slice (some ⟨g, o, none⟩) lb cb]).run Try.prog w = .ok (.value (.bool false)) w := fun o lb cb => by
        rw [run_callFunc_extern Try.func38 (by kernel_rfl) (by kernel_rfl) (by kernel_rfl) (e := Extern.SlicesOverlaps.overlaps #[26, 26] #[4]) (by kernel_rfl),
          Lib.run_overlaps_apart w 26 4 30 Try.underlying26 5 Try.sizeOf30 ⟨G, 0, none⟩ ⟨g, o, none⟩ 1 c lb cb hgG 30 30 5 cur.size (shape_ownN hG) (shape_ownN hO) (by omega) (hG.frozen _) (hG.frozen _)]
        rfl
      have hlr : (n : Int) + 1 ≤ (cp : Int) := by omega
      have hc1 : ¬cp = i + 1 := by omega
      have hcp1 : ∀ ty dc sc, (Builtin.copy_ #[26, 26] ty #[.slice (some ⟨g, (i + 1) * 5, none⟩) (n - i) dc, .slice (some ⟨g, i * 5, none⟩) (n + 1 - i) sc]).run Try.prog w.drew = .ok (goInt (Nat.min (n + 1 - i) (n - i) : Nat)) (w.drew.setCells g ((i + 1) * 5) (F.drop (i * 5))) := fun ty dc sc =>
        run_copy_cellsN w.drew _ _ ty 30 5 g ((i + 1) * 5) (n - i) dc ⟨g, i * 5, none⟩ (n + 1 - i) sc (F.drop (i * 5)) Try.underlying26 sz_ar (by rw [hdl, show Nat.min (n + 1 - i) (n - i) = n - i by simp only [Nat.min_def]; split <;> omega])
          (fun j v hj => by
            rw [List.getElem?_drop] at hj
            have hjl := (List.getElem?_eq_some_iff.1 hj).1
            rw [Addr.add_lit, ← hj, ← hcs (i * 5 + j) (by rw [← hF]; exact hjl)]
            rfl)
          (fun j hj => some_ownN hO.drew (by rw [hsz]; omega)) (fun j hj => hO.drew.frozen _) (fun v hv => h1F v (List.mem_of_mem_drop hv))
      obtain ⟨W1, hW1⟩ : ∃ W1, W1 = w.drew.setCells g ((i + 1) * 5) (F.drop (i * 5)) := ⟨_, rfl⟩
      obtain ⟨cu1, hO1, hs1⟩ := own_cellsN (F.drop (i * 5)) ((i + 1) * 5) w.drew cur hO.drew
      rw [← hW1] at hcp1 hO1
      have hcp2 : ∀ ty dc, (Builtin.copy_ #[26, 26] ty #[.slice (some ⟨g, i * 5, none⟩) (n + 1 - i) dc, .slice (some ⟨G, 0, none⟩) 1 c]).run Try.prog W1 = .ok (goInt (Nat.min 1 (n + 1 - i) : Nat)) (W1.setCells g (i * 5) (enc5 x)) := fun ty dc =>
        run_copy_cellsN W1 _ _ ty 30 5 g (i * 5) (n + 1 - i) dc ⟨G, 0, none⟩ 1 c (enc5 x) Try.underlying26 sz_ar (by rw [show Nat.min 1 (n + 1 - i) = 1 by simp only [Nat.min_def]; split <;> omega]; rfl)
          (fun j v hj => by
            rw [Addr.add_lit, Nat.zero_add, hW1, World.cell?_setCells_out g _ _ _ _ (fun h _ => absurd h hgG)]
            exact hGc j v hj)
          (fun j hj => some_ownN hO1 (by rw [hs1, hsz]; rw [enc5_len] at hj; omega)) (fun j hj => hO1.frozen _) (fun v hv => enc5_one v hv)
      have key := insC (X := enc5 x) (k := i * 5) hO.drew (F := F) (by rw [hF]; omega) (by rw [hF, enc5_len, hsz]; omega) (fun j hj => hcs j (by omega))
      rw [enc5_len, show i * 5 + 5 = (i + 1) * 5 by omega, ← hW1, hF, show n * 5 + 5 = (n + 1) * 5 by omega] at key
      obtain ⟨⟨cu2, k1, k2⟩, k3⟩ := key
      have HROW : Hid (RowE 30 5 enc5 (W1.setCells g (i * 5) (enc5 x)) B (.slice (some ⟨g, 0, none⟩) (n + 1) cp) (L.take i ++ x :: L.drop i)) := Lib.hid (row_cellsN enc5_len k1 (by rw [k2, hsz]) (by unfold maxLen; omega) hroom hBg hlen (fun j hj => by rw [hfm]; exact k3 j hj))
      have HGR : Hid (w.grownBy (W1.setCells g (i * 5) (enc5 x)) (some g)) := Lib.hid (by rw [hW1]; exact grown_setCellsN (.inl rfl) _ _ _ (grown_setCellsN (.inl rfl) _ _ _ (grown_drew (grown_refl _ _))))
      clear k1 k2 k3 hW1 hO1 hs1 hfm hFF h1F hF hcs R hGc hdl hO hsz
      go_enter Try.func29, Try.ntmps29
      go_upto_region 15 with (simp only [hov])
      go_region_law (refine step_copy_runI rfl _ _ 26 26 rfl _ _ (by simp [Act.eval, Act.put]) (by simp [Act.eval, Act.put]) (hcp1 _ _ _) ?_)
      go_wp2_with (at_builtin; refine wpList_copy_runI _ rfl _ _ 26 26 rfl _ _ rfl rfl (hcp2 _ _) ?_)
      go_ret
      exact ⟨_, rfl, HROW.out, HGR.out⟩
    · obtain ⟨i0, hi0, hz0, hzs, hzb⟩ := info_parts info_ar
      have hcn : cp = n := by omega
      subst hcn
      have hkk : (cp : Int) + 1 - (i : Int) = ((cp + 1 - i : Nat) : Int) := by omega
      have hik : i + (cp + 1 - i) = cp + 1 := by omega
      have hw3 : IntKind.i64.wrap ((cp : Int) + 1 - (i : Int)) = (cp : Int) + 1 - (i : Int) := IntWalk.i64_in _ (by omega)
      have hold : (Builtin.firstCells i0.size i (.slice (some ⟨g, 0, none⟩) i cp)).run Try.prog w.drew = .ok (F.take (i * 5)).toArray w.drew := by
        rw [hzs]
        exact run_firstCells_some w.drew 5 i ⟨g, 0, none⟩ i cp (F.take (i * 5)) (by rw [List.length_take, hF]; omega) (fun j v hj => by
          rw [Addr.add_lit, Nat.zero_add]
          rw [List.getElem?_take] at hj
          split at hj
          · rename_i hj2
            rw [← hj]
            exact hcs j (by omega)
          · cases hj)
      have hrz : ∀ ty, (Builtin.append_ #[26, 3] ty #[.slice (some ⟨g, 0, none⟩) i cp, .int .i64 ((cp : Int) + 1 - (i : Int))]).run Try.prog w =
          .ok (.slice (some ⟨w.heap.size, 0, none⟩) (cp + 1) (grownCap w (cp + 1) cp 30)) (w.drew.alloc (.cells ((F.take (i * 5)).toArray ++ Builtin.zeroCells (arV zR).cells (cp + 1 - i) ++ Builtin.zeroCells (arV zR).cells (grownCap w (cp + 1) cp 30 - (cp + 1))) 30)) := fun ty => by
        have h := Lib.run_append_grow_zeros w 26 3 ty 30 i0 _ .i64 .i64 Try.underlying26 Try.underlying3 hi0 hz0 (some ⟨g, 0, none⟩) i cp (F.take (i * 5)) hold (cp + 1 - i) (by omega) (by omega) (by omega) (by omega) (by rw [hzb]; omega) (by rw [hzb, hik]; exact growslice_fits (by omega) (by omega))
        rw [hik] at h
        rw [hkk]
        exact h
      have hge := grownCap_ge w (cp + 1) cp 30
      have hle := grownCap_le_maxLen w (cp + 1) cp 30 (by unfold maxLen; omega)
      obtain ⟨GC, hGC⟩ : ∃ GC, GC = grownCap w (cp + 1) cp 30 := ⟨_, rfl⟩
      rw [← hGC] at hrz hge hle
      have hle2 := hle
      unfold maxLen at hle2
      obtain ⟨ROW, hROW⟩ : ∃ ROW : Array Value, ROW = (F.take (i * 5)).toArray ++ Builtin.zeroCells (arV zR).cells (cp + 1 - i) ++ Builtin.zeroCells (arV zR).cells (GC - (cp + 1)) := ⟨_, rfl⟩
      have hRs : ROW.size = GC * 5 := by
        rw [hROW]
        simp [Builtin.zeroCells, Value.cells, hF]
        omega
      have hRc : ∀ j, j < i * 5 → ROW[j]? = F[j]? := fun j hj => by
        rw [hROW, Array.getElem?_append_left (by rw [Array.size_append]; simp [hF]; omega), Array.getElem?_append_left (by simp [hF]; omega), List.getElem?_toArray, List.getElem?_take_of_lt hj]
      rw [← hROW] at hrz
      have hgw := hO.lt
      have hGw := hG.lt
      have hN := Own.new w.drew 30 ROW
      rw [show w.drew.heap.size = w.heap.size from rfl] at hN
      have hga : (w.drew.alloc (.cells ROW 30)).heap.size = w.heap.size + 1 := by simp
      obtain ⟨W1, hW1⟩ : ∃ W1, W1 = w.drew.alloc (.cells ROW 30) := ⟨_, rfl⟩
      have hOg : Own W1 g 30 cur := by rw [hW1]; exact hO.drew.alloc _
      have hOG : Own W1 G 30 (enc5 x).toArray := by rw [hW1]; exact hG.drew.alloc _
      rw [← hW1] at hrz hN
      obtain ⟨cu1, hO1, hs1⟩ := own_cellsN (enc5 x) (i * 5) W1 ROW hN
      have hcpA : ∀ ty dc, (Builtin.copy_ #[26, 26] ty #[.slice (some ⟨w.heap.size, i * 5, none⟩) (cp + 1 - i) dc, .slice (some ⟨G, 0, none⟩) 1 c]).run Try.prog W1 = .ok (goInt (Nat.min 1 (cp + 1 - i) : Nat)) (W1.setCells w.heap.size (i * 5) (enc5 x)) := fun ty dc =>
        run_copy_cellsN W1 _ _ ty 30 5 w.heap.size (i * 5) (cp + 1 - i) dc ⟨G, 0, none⟩ 1 c (enc5 x) Try.underlying26 sz_ar (by rw [show Nat.min 1 (cp + 1 - i) = 1 by simp only [Nat.min_def]; split <;> omega]; rfl)
          (fun j v hj => by rw [Addr.add_lit, Nat.zero_add, hOG.cell j]; simpa using hj)
          (fun j hj => some_ownN hN (by rw [hRs]; rw [enc5_len] at hj; omega)) (fun j hj => hN.frozen _) (fun v hv => enc5_one v hv)
      obtain ⟨W2, hW2⟩ : ∃ W2, W2 = W1.setCells w.heap.size (i * 5) (enc5 x) := ⟨_, rfl⟩
      rw [← hW2] at hcpA hO1
      have hOg2 : ∀ j v, F[j]? = some v → W2.cell? ⟨g, j, none⟩ = some v := fun j v hj => by
        have hjl := (List.getElem?_eq_some_iff.1 hj).1
        rw [hW2, World.cell?_setCells_out _ _ _ _ _ (fun h _ => absurd h (by show ¬g = w.heap.size; omega)), hOg.cell j, ← hO.cell j, hcs j (by rw [← hF]; exact hjl), hj]
      have hcpB : ∀ ty dc sc, (Builtin.copy_ #[26, 26] ty #[.slice (some ⟨w.heap.size, (i + 1) * 5, none⟩) (cp - i) dc, .slice (some ⟨g, i * 5, none⟩) (cp - i) sc]).run Try.prog W2.drew = .ok (goInt (Nat.min (cp - i) (cp - i) : Nat)) (W2.drew.setCells w.heap.size ((i + 1) * 5) (F.drop (i * 5))) := fun ty dc sc =>
        run_copy_cellsN W2.drew _ _ ty 30 5 w.heap.size ((i + 1) * 5) (cp - i) dc ⟨g, i * 5, none⟩ (cp - i) sc (F.drop (i * 5)) Try.underlying26 sz_ar (by rw [hdl, show Nat.min (cp - i) (cp - i) = cp - i by simp only [Nat.min_def]; split <;> omega])
          (fun j v hj => by
            rw [List.getElem?_drop] at hj
            rw [Addr.add_lit]
            exact hOg2 _ v hj)
          (fun j hj => some_ownN hO1.drew (by rw [hs1, hRs]; omega)) (fun j hj => hO1.drew.frozen _) (fun v hv => h1F v (List.mem_of_mem_drop hv))
      have key := insD (X := enc5 x) (k := i * 5) hN (F := F) (by rw [hF]; omega) (by rw [hF, enc5_len, hRs]; omega) (fun j hj => by rw [hN.cell j]; exact hRc j hj)
      rw [enc5_len, show i * 5 + 5 = (i + 1) * 5 by omega, ← hW2, hF, show cp * 5 + 5 = (cp + 1) * 5 by omega] at key
      obtain ⟨⟨cu2, k1, k2⟩, k3⟩ := key
      have HROW : Hid (RowE 30 5 enc5 (W2.drew.setCells w.heap.size ((i + 1) * 5) (F.drop (i * 5))) B (.slice (some ⟨w.heap.size, 0, none⟩) (cp + 1) GC) (L.take i ++ x :: L.drop i)) := Lib.hid (row_cellsN enc5_len k1 (by rw [k2, hRs]) hle hge hB hlen (fun j hj => by rw [hfm]; exact k3 j hj))
      have HGR : Hid (w.grownBy (W2.drew.setCells w.heap.size ((i + 1) * 5) (F.drop (i * 5))) (some g)) := Lib.hid (by
        rw [hW2, hW1]
        exact grown_setCellsN (.inr (Nat.le_refl _)) _ _ _ (grown_drew (grown_setCellsN (.inr (Nat.le_refl _)) _ _ _ (grown_alloc (grown_drew (grown_refl _ _)) _))))
      have hcpi : (cp : Int) < (cp : Int) + 1 := by omega
      have hGi : ¬GC = i := by omega
      have hGi2 : ¬GC = i + 1 := by omega
      have hGi3 : (i : Int) + 1 ≤ (GC : Int) := by omega
      have hGi4 : (GC : Int) ≤ 9223372036854775807 := by omega
      clear k1 k2 k3 hW1 hW2 hO1 hs1 hfm hFF h1F hF hcs R hGc hdl hO hsz hold hi0 hz0 hzs hzb hRs hRc hROW hN hOg hOG hOg2 hga hGC hle hle2 hkk hik
      go_enter Try.func29, Try.ntmps29
      go_upto_region 11 with (first
        | (at_builtin; refine Lib.wpList_append_run _ rfl _ _ _ _ rfl _ _ rfl rfl _ _ (hrz _) ?_)
        | (at_builtin; refine wpList_copy_runI _ rfl _ _ 26 26 rfl _ _ rfl rfl (hcpA _ _) ?_))
      go_region_law (refine step_copy_runI rfl _ _ 26 26 rfl _ _ (by simp [Act.eval, Act.put]) (by simp [Act.eval, Act.put]) (hcpB _ _ _) ?_)
      go_wp2
      go_ret
      exact ⟨_, rfl, HROW.out, HGR.out⟩
end Go.Proofs.Ytnlhdbengppnpaa

/- Page tables (layer 17): slices.Insert of one entry, Enter of the program. -/
import Derived.Test.YtjkkhfionmdmpaaPt3
import Derived.Test.YtjkkhfionmdmpaaInsM
import Derived.Deep.RegionLaw
namespace Go.Mine
open Go Go.RowKit
theorem RowE.nT {T : TypeId} {w : World} {B : Nat} {a : Option Addr} {n c : Nat} {L : List Pt} (h : RowE T 5 encT w B (.slice a n c) L) : n = L.length := by
  obtain ⟨a', c', e⟩ := h.len
  injection e
/-- One field of an entry is stored. -/
theorem RowE.put1T {T : TypeId} {w : World} {B g n c k : Nat} {L : List Pt} (h : RowE T 5 encT w B (.slice (some ⟨g, 0, none⟩) n c) L) (hk : k < L.length) (j : Nat) (hj : j < 5) (u : Value) (x : Pt) (he : encT x = (encT (L.getD k zT)).set j u) :
    RowE T 5 encT (w.setCell ⟨g, k * 5 + j, none⟩ u) B (.slice (some ⟨g, 0, none⟩) n c) (L.set k x) := by
  have e := h.nT
  subst e
  rw [tD hk] at he
  exact RowE.stored h (k * 5 + j) u (L' := L.set k x) (List.length_set ..) (fm_setZ encT_len L k hk j _ x hj he)
theorem setD {L : List Pt} {k : Nat} (hk : k < L.length) (y : Pt) : (L.set k y).getD k zT = y := by rw [tD (by rw [List.length_set]; exact hk), List.getElem_set_self]
/-- An entry is stored. -/
theorem RowE.put5T {T : TypeId} {w w' : World} {B g n c k : Nat} {L : List Pt} (h : RowE T 5 encT w B (.slice (some ⟨g, 0, none⟩) n c) L) (hk : k < L.length) (x : Pt)
    (hw : ((((w.setCell ⟨g, k * 5, none⟩ (.int .i64 x.p)).setCell ⟨g, k * 5 + 1, none⟩ (.int .i64 x.v)).setCell ⟨g, k * 5 + 2, none⟩ (.int .i64 x.f)).setCell ⟨g, k * 5 + 3, none⟩ (.bool x.w)).setCell ⟨g, k * 5 + 4, none⟩ (.bool x.a) = w') :
    RowE T 5 encT w' B (.slice (some ⟨g, 0, none⟩) n c) (L.set k x) := by
  obtain ⟨d, hd⟩ : ∃ d, L.getD k zT = d := ⟨_, rfl⟩
  have hs : ∀ y, k < (L.set k y).length := fun y => by rw [List.length_set]; exact hk
  have h0 := h.put1T hk 0 (by decide) (.int .i64 x.p) ⟨x.p, d.v, d.f, d.w, d.a⟩ (by rw [hd]; rfl)
  have h1 := h0.put1T (hs _) 1 (by decide) (.int .i64 x.v) ⟨x.p, x.v, d.f, d.w, d.a⟩ (by rw [setD hk]; rfl)
  rw [List.set_set] at h1
  have h2 := h1.put1T (hs _) 2 (by decide) (.int .i64 x.f) ⟨x.p, x.v, x.f, d.w, d.a⟩ (by rw [setD hk]; rfl)
  rw [List.set_set] at h2
  have h3 := h2.put1T (hs _) 3 (by decide) (.bool x.w) ⟨x.p, x.v, x.f, x.w, d.a⟩ (by rw [setD hk]; rfl)
  rw [List.set_set] at h3
  have h4 := h3.put1T (hs _) 4 (by decide) (.bool x.a) x (by rw [setD hk]; rfl)
  rw [List.set_set] at h4
  rw [← hw]
  exact h4
theorem grown5T {a w w' : World} {g : Nat} {o0 o1 o2 o3 o4 : Nat} {u0 u1 u2 u3 u4 : Value} (h : Grew a w) (hg : a.heap.size ≤ g)
    (hw : ((((w.setCell ⟨g, o0, none⟩ u0).setCell ⟨g, o1, none⟩ u1).setCell ⟨g, o2, none⟩ u2).setCell ⟨g, o3, none⟩ u3).setCell ⟨g, o4, none⟩ u4 = w') : Grew a w' := by
  rw [← hw]
  exact ((((h.set (p := ⟨g, o0, none⟩) hg _).set (p := ⟨g, o1, none⟩) hg _).set (p := ⟨g, o2, none⟩) hg _).set (p := ⟨g, o3, none⟩) hg _).set (p := ⟨g, o4, none⟩) hg _
theorem entT_1 {L : List Pt} {x : Pt} (h : okT L = false) : entT L x = (L, 1) := by unfold entT; rw [h]
theorem entT_2 {L : List Pt} {x : Pt} (h : okT L = true) (k : rtT x = false) : entT L x = (L, 2) := by unfold entT; rw [h, k]
theorem entT_0 {L : List Pt} {x : Pt} (h : okT L = true) (k : rtT x = true) : entT L x = (insT L x, 0) := by unfold entT; rw [h, k]
end Go.Mine
namespace Go.Proofs.Ytjkkhfionmdmpaa
open Go.RowKit Go.Mine

/-- It returns a row that holds L; nothing but the row's own block has turned. -/
def RetIn (L : List Pt) (B : Nat) (v : Value) (w : World) (e : Ending) (w' : World) : Prop := ∃ u, e = .returned u ∧ RowE 30 5 encT w' B u L ∧ w.grownBy w' v.ownBlock
theorem sz_pt : (Try.prog.info? 30).map (·.size) = some 5 := by kernel_rfl
set_option maxRecDepth 100000 in
set_option maxHeartbeats 8000000 in
theorem ins_r {L : List Pt} {B : Nat} (v : Value) (i : Nat) (x : Pt) (w : World) (G c : Nat) (R : RowE 30 5 encT w B v L) (hl : L.length ≤ 1000) (hi : i ≤ L.length) (hG : Own w G 30 (encT x).toArray) (hne : v.ownBlock ≠ some G) (hB : B ≤ w.heap.size) :
    Calls Try.prog 34 #[v, .int .i64 i, .slice (some ⟨G, 0, none⟩) 1 c] w (RetIn (L.take i ++ x :: L.drop i) B v w) := by
  by_cases hend : i = L.length
  · have hR : RetIn (L ++ [x]) B v w = RetIn (L.take i ++ x :: L.drop i) B v w := by rw [hend, List.take_length, List.drop_length]
    rw [← hR]
    have HR := Lib.hid R
    have HGO := Lib.hid hG
    have HB := Lib.hid hB
    obtain ⟨a, cp, rfl⟩ := R.len
    obtain ⟨n, hn⟩ : ∃ n, L.length = n := ⟨_, rfl⟩
    rw [hn] at hend HR hne ⊢
    subst hend
    have hx6 : L.length < 1000000 := by omega
    have hcp : (i : Int) ≤ (cp : Int) ∧ (cp : Int) ≤ 9223372036854775807 := by
      rcases R.shape encT_len with ⟨e, h0⟩ | ⟨g, cap, e, -, -, h1, h2, -⟩
      · injection e with e1 e2 e3
        subst e3
        rw [h0] at hn
        have : i = 0 := by simpa using hn.symm
        omega
      · injection e with e1 e2 e3
        subst e3
        unfold maxLen at h2
        omega
    obtain ⟨hcp1, hcp2⟩ := hcp
    clear R hG hB hR hl hi hne hn
    rcases (show cp = i ∨ ¬cp = i by omega) with rfl | hci
    all_goals
     go_enter Try.func34, Try.ntmps34
     go_wp2_with (at_builtin; go_loud (refine wpList_append_row _ rfl _ _ 26 rfl B info_pt Try.underlying26 (by decide) (by decide) encT_len _ L rfl HR.out _ _ x rfl HGO.out encT_one hx6 (by decide) HB.out ?_; intro g7 cap w7 R7 G7 o7; have HR7 := Lib.hid R7; have HG7 := Lib.hid (show w.grownBy w7 (Value.slice a _ _).ownBlock from G7); clear R7 G7 o7))
     all_goals (go_ret; exact ⟨_, rfl, HR7.out, HG7.out⟩)
  · have hlt : i < L.length := by omega
    rcases R.shape encT_len with ⟨-, e⟩ | ⟨g, cp, rfl, -⟩
    · rw [e] at hlt; exact absurd hlt (by simp)
    obtain ⟨-, hBg, hnc, hm, cur, hO, hsz, hcs⟩ := row_ownN R
    have hF := fm_len encT_len L
    have hfm := fm_ins encT_len L x hi
    obtain ⟨F, hFF⟩ : ∃ F, L.flatMap encT = F := ⟨_, rfl⟩
    have h1F : ∀ u ∈ F, u.oneCell' = true := fun u hu => by
      rw [← hFF] at hu
      obtain ⟨y, -, hy⟩ := List.mem_flatMap.1 hu
      exact encT_one u hy
    rw [hFF] at hcs hF hfm
    obtain ⟨n, hn⟩ : ∃ n, L.length = n := ⟨_, rfl⟩
    have hlen : (L.take i ++ x :: L.drop i).length = n + 1 := by simp; omega
    rw [hn] at hlt hnc hcs hF hend hi hl ⊢
    have hgG : G ≠ g := fun e => hne (by rw [e]; rfl)
    have hGc : ∀ j u, (encT x)[j]? = some u → w.cell? ⟨G, j, none⟩ = some u := fun j u hu => by rw [hG.cell j]; simpa using hu
    have hw1 : IntKind.i64.wrap ((i : Int) + 1) = (i : Int) + 1 := IntWalk.i64_in _ (by omega)
    have hw2 : IntKind.i64.wrap ((n : Int) + 1) = (n : Int) + 1 := IntWalk.i64_in _ (by omega)
    have hb0 : (0 : Int) ≤ (i : Int) := by omega
    have hb1 : (0 : Int) ≤ (i : Int) + 1 := by omega
    have hb2 : (0 : Int) ≤ (n : Int) + 1 := by omega
    have hin : (i : Int) ≤ (n : Int) := by omega
    have hin2 : (i : Int) ≤ (n : Int) + 1 := by omega
    have htn : ((i : Int) + 1).toNat = i + 1 := by omega
    have htm : ((n : Int) + 1).toNat = n + 1 := by omega
    have hz2 : ((i : Int) == (n : Int)) = false := beq_false_of_ne (by omega)
    have hci : ¬cp = i := by omega
    unfold maxLen at hm
    have hdl : (F.drop (i * 5)).length = (n - i) * 5 := by rw [List.length_drop, hF, Nat.sub_mul]
    by_cases hroom : n + 1 ≤ cp
    · have hov : ∀ o lb cb, (callFunc 43 #[.slice (some ⟨G, 0, none⟩) 1 c, .slice (some ⟨g, o, none⟩) lb cb]).run Try.prog w = .ok (.value (.bool false)) w := fun o lb cb => by
        rw [run_callFunc_extern Try.func43 (by kernel_rfl) (by kernel_rfl) (by kernel_rfl) (e := Extern.SlicesOverlaps.overlaps #[26, 26] #[4]) (by kernel_rfl),
          Lib.run_overlaps_apart w 26 4 30 Try.underlying26 5 Try.sizeOf30 ⟨G, 0, none⟩ ⟨g, o, none⟩ 1 c lb cb hgG 30 30 5 cur.size (shape_ownN hG) (shape_ownN hO) (by omega) (hG.frozen _) (hG.frozen _)]
        rfl
      have hlr : (n : Int) + 1 ≤ (cp : Int) := by omega
      have hc1 : ¬cp = i + 1 := by omega
      have hcp1 : ∀ ty dc sc, (Builtin.copy_ #[26, 26] ty #[.slice (some ⟨g, (i + 1) * 5, none⟩) (n - i) dc, .slice (some ⟨g, i * 5, none⟩) (n + 1 - i) sc]).run Try.prog w.drew = .ok (goInt (Nat.min (n + 1 - i) (n - i) : Nat)) (w.drew.setCells g ((i + 1) * 5) (F.drop (i * 5))) := fun ty dc sc =>
        run_copy_cellsN w.drew _ _ ty 30 5 g ((i + 1) * 5) (n - i) dc ⟨g, i * 5, none⟩ (n + 1 - i) sc (F.drop (i * 5)) Try.underlying26 sz_pt (by rw [hdl, show Nat.min (n + 1 - i) (n - i) = n - i by simp only [Nat.min_def]; split <;> omega])
          (fun j v hj => by
            rw [List.getElem?_drop] at hj
            have hjl := (List.getElem?_eq_some_iff.1 hj).1
            rw [Addr.add_lit, ← hj, ← hcs (i * 5 + j) (by rw [← hF]; exact hjl)]
            rfl)
          (fun j hj => some_ownN hO.drew (by rw [hsz]; omega)) (fun j hj => hO.drew.frozen _) (fun v hv => h1F v (List.mem_of_mem_drop hv))
      obtain ⟨W1, hW1⟩ : ∃ W1, W1 = w.drew.setCells g ((i + 1) * 5) (F.drop (i * 5)) := ⟨_, rfl⟩
      obtain ⟨cu1, hO1, hs1⟩ := own_cellsN (F.drop (i * 5)) ((i + 1) * 5) w.drew cur hO.drew
      rw [← hW1] at hcp1 hO1
      have hcp2 : ∀ ty dc, (Builtin.copy_ #[26, 26] ty #[.slice (some ⟨g, i * 5, none⟩) (n + 1 - i) dc, .slice (some ⟨G, 0, none⟩) 1 c]).run Try.prog W1 = .ok (goInt (Nat.min 1 (n + 1 - i) : Nat)) (W1.setCells g (i * 5) (encT x)) := fun ty dc =>
        run_copy_cellsN W1 _ _ ty 30 5 g (i * 5) (n + 1 - i) dc ⟨G, 0, none⟩ 1 c (encT x) Try.underlying26 sz_pt (by rw [show Nat.min 1 (n + 1 - i) = 1 by simp only [Nat.min_def]; split <;> omega]; rfl)
          (fun j v hj => by
            rw [Addr.add_lit, Nat.zero_add, hW1, World.cell?_setCells_out g _ _ _ _ (fun h _ => absurd h hgG)]
            exact hGc j v hj)
          (fun j hj => some_ownN hO1 (by rw [hs1, hsz]; rw [encT_len] at hj; omega)) (fun j hj => hO1.frozen _) (fun v hv => encT_one v hv)
      have key := insC (X := encT x) (k := i * 5) hO.drew (F := F) (by rw [hF]; omega) (by rw [hF, encT_len, hsz]; omega) (fun j hj => hcs j (by omega))
      rw [encT_len, show i * 5 + 5 = (i + 1) * 5 by omega, ← hW1, hF, show n * 5 + 5 = (n + 1) * 5 by omega] at key
      obtain ⟨⟨cu2, k1, k2⟩, k3⟩ := key
      have HROW : Hid (RowE 30 5 encT (W1.setCells g (i * 5) (encT x)) B (.slice (some ⟨g, 0, none⟩) (n + 1) cp) (L.take i ++ x :: L.drop i)) := Lib.hid (row_cellsN encT_len k1 (by rw [k2, hsz]) (by unfold maxLen; omega) hroom hBg hlen (fun j hj => by rw [hfm]; exact k3 j hj))
      have HGR : Hid (w.grownBy (W1.setCells g (i * 5) (encT x)) (some g)) := Lib.hid (by rw [hW1]; exact grown_setCellsN (.inl rfl) _ _ _ (grown_setCellsN (.inl rfl) _ _ _ (grown_drew (grown_refl _ _))))
      clear k1 k2 k3 hW1 hO1 hs1 hfm hFF h1F hF hcs R hGc hdl hO hsz
      go_enter Try.func34, Try.ntmps34
      go_upto_region 15 with (simp only [hov])
      go_region_law (refine step_copy_runI rfl _ _ 26 26 rfl _ _ (by simp [Act.eval, Act.put]) (by simp [Act.eval, Act.put]) (hcp1 _ _ _) ?_)
      go_wp2_with (at_builtin; refine wpList_copy_runI _ rfl _ _ 26 26 rfl _ _ rfl rfl (hcp2 _ _) ?_)
      go_ret
      exact ⟨_, rfl, HROW.out, HGR.out⟩
    · obtain ⟨i0, hi0, hz0, hzs, hzb⟩ := info_parts info_pt
      have hcn : cp = n := by omega
      subst hcn
      have hkk : (cp : Int) + 1 - (i : Int) = ((cp + 1 - i : Nat) : Int) := by omega
      have hik : i + (cp + 1 - i) = cp + 1 := by omega
      have hw3 : IntKind.i64.wrap ((cp : Int) + 1 - (i : Int)) = (cp : Int) + 1 - (i : Int) := IntWalk.i64_in _ (by omega)
      have hold : (Builtin.firstCells i0.size i (.slice (some ⟨g, 0, none⟩) i cp)).run Try.prog w.drew = .ok (F.take (i * 5)).toArray w.drew := by
        rw [hzs]
        exact run_firstCells_some w.drew 5 i ⟨g, 0, none⟩ i cp (F.take (i * 5)) (by rw [List.length_take, hF]; omega) (fun j v hj => by
          rw [Addr.add_lit, Nat.zero_add]
          rw [List.getElem?_take] at hj
          split at hj
          · rename_i hj2
            rw [← hj]
            exact hcs j (by omega)
          · cases hj)
      have hrz : ∀ ty, (Builtin.append_ #[26, 3] ty #[.slice (some ⟨g, 0, none⟩) i cp, .int .i64 ((cp : Int) + 1 - (i : Int))]).run Try.prog w =
          .ok (.slice (some ⟨w.heap.size, 0, none⟩) (cp + 1) (grownCap w (cp + 1) cp 30)) (w.drew.alloc (.cells ((F.take (i * 5)).toArray ++ Builtin.zeroCells (ptV zT).cells (cp + 1 - i) ++ Builtin.zeroCells (ptV zT).cells (grownCap w (cp + 1) cp 30 - (cp + 1))) 30)) := fun ty => by
        have h := Lib.run_append_grow_zeros w 26 3 ty 30 i0 _ .i64 .i64 Try.underlying26 Try.underlying3 hi0 hz0 (some ⟨g, 0, none⟩) i cp (F.take (i * 5)) hold (cp + 1 - i) (by omega) (by omega) (by omega) (by omega) (by rw [hzb]; omega) (by rw [hzb, hik]; exact growslice_fits (by omega) (by omega))
        rw [hik] at h
        rw [hkk]
        exact h
      have hge := grownCap_ge w (cp + 1) cp 30
      have hle := grownCap_le_maxLen w (cp + 1) cp 30 (by unfold maxLen; omega)
      obtain ⟨GC, hGC⟩ : ∃ GC, GC = grownCap w (cp + 1) cp 30 := ⟨_, rfl⟩
      rw [← hGC] at hrz hge hle
      have hle2 := hle
      unfold maxLen at hle2
      obtain ⟨ROW, hROW⟩ : ∃ ROW : Array Value, ROW = (F.take (i * 5)).toArray ++ Builtin.zeroCells (ptV zT).cells (cp + 1 - i) ++ Builtin.zeroCells (ptV zT).cells (GC - (cp + 1)) := ⟨_, rfl⟩
      have hRs : ROW.size = GC * 5 := by
        rw [hROW]
        simp [Builtin.zeroCells, Value.cells, hF]
        omega
      have hRc : ∀ j, j < i * 5 → ROW[j]? = F[j]? := fun j hj => by
        rw [hROW, Array.getElem?_append_left (by rw [Array.size_append]; simp [hF]; omega), Array.getElem?_append_left (by simp [hF]; omega), List.getElem?_toArray, List.getElem?_take_of_lt hj]
      rw [← hROW] at hrz
      have hgw := hO.lt
      have hGw := hG.lt
      have hN := Own.new w.drew 30 ROW
      rw [show w.drew.heap.size = w.heap.size from rfl] at hN
      have hga : (w.drew.alloc (.cells ROW 30)).heap.size = w.heap.size + 1 := by simp
      obtain ⟨W1, hW1⟩ : ∃ W1, W1 = w.drew.alloc (.cells ROW 30) := ⟨_, rfl⟩
      have hOg : Own W1 g 30 cur := by rw [hW1]; exact hO.drew.alloc _
      have hOG : Own W1 G 30 (encT x).toArray := by rw [hW1]; exact hG.drew.alloc _
      rw [← hW1] at hrz hN
      obtain ⟨cu1, hO1, hs1⟩ := own_cellsN (encT x) (i * 5) W1 ROW hN
      have hcpA : ∀ ty dc, (Builtin.copy_ #[26, 26] ty #[.slice (some ⟨w.heap.size, i * 5, none⟩) (cp + 1 - i) dc, .slice (some ⟨G, 0, none⟩) 1 c]).run Try.prog W1 = .ok (goInt (Nat.min 1 (cp + 1 - i) : Nat)) (W1.setCells w.heap.size (i * 5) (encT x)) := fun ty dc =>
        run_copy_cellsN W1 _ _ ty 30 5 w.heap.size (i * 5) (cp + 1 - i) dc ⟨G, 0, none⟩ 1 c (encT x) Try.underlying26 sz_pt (by rw [show Nat.min 1 (cp + 1 - i) = 1 by simp only [Nat.min_def]; split <;> omega]; rfl)
          (fun j v hj => by rw [Addr.add_lit, Nat.zero_add, hOG.cell j]; simpa using hj)
          (fun j hj => some_ownN hN (by rw [hRs]; rw [encT_len] at hj; omega)) (fun j hj => hN.frozen _) (fun v hv => encT_one v hv)
      obtain ⟨W2, hW2⟩ : ∃ W2, W2 = W1.setCells w.heap.size (i * 5) (encT x) := ⟨_, rfl⟩
      rw [← hW2] at hcpA hO1
      have hOg2 : ∀ j v, F[j]? = some v → W2.cell? ⟨g, j, none⟩ = some v := fun j v hj => by
        have hjl := (List.getElem?_eq_some_iff.1 hj).1
        rw [hW2, World.cell?_setCells_out _ _ _ _ _ (fun h _ => absurd h (by show ¬g = w.heap.size; omega)), hOg.cell j, ← hO.cell j, hcs j (by rw [← hF]; exact hjl), hj]
      have hcpB : ∀ ty dc sc, (Builtin.copy_ #[26, 26] ty #[.slice (some ⟨w.heap.size, (i + 1) * 5, none⟩) (cp - i) dc, .slice (some ⟨g, i * 5, none⟩) (cp - i) sc]).run Try.prog W2.drew = .ok (goInt (Nat.min (cp - i) (cp - i) : Nat)) (W2.drew.setCells w.heap.size ((i + 1) * 5) (F.drop (i * 5))) := fun ty dc sc =>
        run_copy_cellsN W2.drew _ _ ty 30 5 w.heap.size ((i + 1) * 5) (cp - i) dc ⟨g, i * 5, none⟩ (cp - i) sc (F.drop (i * 5)) Try.underlying26 sz_pt (by rw [hdl, show Nat.min (cp - i) (cp - i) = cp - i by simp only [Nat.min_def]; split <;> omega])
          (fun j v hj => by
            rw [List.getElem?_drop] at hj
            rw [Addr.add_lit]
            exact hOg2 _ v hj)
          (fun j hj => some_ownN hO1.drew (by rw [hs1, hRs]; omega)) (fun j hj => hO1.drew.frozen _) (fun v hv => h1F v (List.mem_of_mem_drop hv))
      have key := insD (X := encT x) (k := i * 5) hN (F := F) (by rw [hF]; omega) (by rw [hF, encT_len, hRs]; omega) (fun j hj => by rw [hN.cell j]; exact hRc j hj)
      rw [encT_len, show i * 5 + 5 = (i + 1) * 5 by omega, ← hW2, hF, show cp * 5 + 5 = (cp + 1) * 5 by omega] at key
      obtain ⟨⟨cu2, k1, k2⟩, k3⟩ := key
      have HROW : Hid (RowE 30 5 encT (W2.drew.setCells w.heap.size ((i + 1) * 5) (F.drop (i * 5))) B (.slice (some ⟨w.heap.size, 0, none⟩) (cp + 1) GC) (L.take i ++ x :: L.drop i)) := Lib.hid (row_cellsN encT_len k1 (by rw [k2, hRs]) hle hge hB hlen (fun j hj => by rw [hfm]; exact k3 j hj))
      have HGR : Hid (w.grownBy (W2.drew.setCells w.heap.size ((i + 1) * 5) (F.drop (i * 5))) (some g)) := Lib.hid (by
        rw [hW2, hW1]
        exact grown_setCellsN (.inr (Nat.le_refl _)) _ _ _ (grown_drew (grown_setCellsN (.inr (Nat.le_refl _)) _ _ _ (grown_alloc (grown_drew (grown_refl _ _)) _))))
      have hcpi : (cp : Int) < (cp : Int) + 1 := by omega
      have hGi : ¬GC = i := by omega
      have hGi2 : ¬GC = i + 1 := by omega
      have hGi3 : (i : Int) + 1 ≤ (GC : Int) := by omega
      have hGi4 : (GC : Int) ≤ 9223372036854775807 := by omega
      clear k1 k2 k3 hW1 hW2 hO1 hs1 hfm hFF h1F hF hcs R hGc hdl hO hsz hold hi0 hz0 hzs hzb hRs hRc hROW hN hOg hOG hOg2 hga hGC hle hle2 hkk hik
      go_enter Try.func34, Try.ntmps34
      go_upto_region 11 with (first
        | (at_builtin; refine Lib.wpList_append_run _ rfl _ _ _ _ rfl _ _ rfl rfl _ _ (hrz _) ?_)
        | (at_builtin; refine wpList_copy_runI _ rfl _ _ 26 26 rfl _ _ rfl rfl (hcpA _ _) ?_))
      go_region_law (refine step_copy_runI rfl _ _ 26 26 rfl _ _ (by simp [Act.eval, Act.put]) (by simp [Act.eval, Act.put]) (hcpB _ _ _) ?_)
      go_wp2
      go_ret
      exact ⟨_, rfl, HROW.out, HGR.out⟩
set_option maxRecDepth 100000 in
set_option maxHeartbeats 8000000 in
theorem enter_p {B0 B : Nat} {v : Value} {L : List Pt} {x : Pt} {w : World} (h : RdS 5 encT w B0 v L) (hB : B ≤ w.heap.size) (hl : L.length ≤ 1000) : Calls Try.prog 10 #[v, ptV x] w (RetPtE B (entT L x) w) := by
  have HH := Lib.hid (h.alloc (.cells #[.int .i64 x.p, .int .i64 x.v, .int .i64 x.f, .bool x.w, .bool x.a] 30))
  have HO := Lib.hid (Own.new w 30 #[.int .i64 x.p, .int .i64 x.v, .int .i64 x.f, .bool x.w, .bool x.a])
  have HG := Lib.hid ((Grew.refl w).alloc (.cells #[.int .i64 x.p, .int .i64 x.v, .int .i64 x.f, .bool x.w, .bool x.a] 30))
  have HB := Lib.hid hB
  have hbx := HO.out.lt
  clear h hB
  obtain ⟨bx, hbx0⟩ : ∃ bx, w.heap.size = bx := ⟨_, rfl⟩
  rw [hbx0] at HO HB hbx
  go_enter Try.func10, Try.ntmps10
  go_upto_region 1 with fail
  try rw [hbx0]
  generalize World.alloc w _ = w1 at *
  go_wp2_with fail
  with_reducible refine (clone_r HH.out hl).mono ?_
  rintro e9 w2 ⟨v2, rfl, R2, g2⟩
  have HR2 := Lib.hid R2
  have HH2 := Lib.hid (HH.out.grew g2)
  have HO2 := Lib.hid (HO.out.grew g2)
  have HG2 := Lib.hid (HG.out.trans g2)
  have hs2 : bx ≤ w1.heap.size := Nat.le_of_lt hbx
  have z2 := g2.size
  clear R2 g2 HH HO
  cases h1 : okT L
  · have HE := Lib.hid (entT_1 (x := x) h1)
    have H1 := Lib.hid h1
    clear h1
    go_wp2_with fail
    with_reducible refine (check_p HH2.out hl H1.out).mono ?_
    rintro e9 w3 ⟨rfl, g3⟩
    go_wp2
    refine bodyPost_ret (v := .tuple #[v2, .int .i64 1]) (by simp [results, Try.results10, go_sem]) rfl ?_
    exact ⟨v2, by rw [HE.out], by rw [HE.out]; exact (RowE.rdS encT_len (HR2.out.grew g3)).wider (Nat.le_trans HB.out hs2), HG2.out.trans g3⟩
  · have H1 := Lib.hid h1
    clear h1
    go_wp2_with fail
    with_reducible refine (check_p HH2.out hl H1.out).mono ?_
    rintro e9 w3 ⟨rfl, g3⟩
    have HR3 := Lib.hid (HR2.out.grew g3)
    have HH3 := Lib.hid (HH2.out.grew g3)
    have HO3 := Lib.hid (HO2.out.grew g3)
    have HG3 := Lib.hid (HG2.out.trans g3)
    obtain ⟨x0, x1, x2, x3, x4⟩ := HO3.out.fiveT
    have z3 := g3.size
    clear g3 HR2 HH2 HO2 HG2
    cases h2 : rtT x
    · have HE := Lib.hid (entT_2 H1.out h2)
      have H2 := Lib.hid h2
      clear h2
      go_wp2_with fail
      with_reducible refine (right_p (x := x) H2.out).mono ?_
      rintro e9 w4 ⟨rfl, g4⟩
      go_wp2
      refine bodyPost_ret (v := .tuple #[v2, .int .i64 2]) (by simp [results, Try.results10, go_sem]) rfl ?_
      exact ⟨v2, by rw [HE.out], by rw [HE.out]; exact (RowE.rdS encT_len (HR3.out.grew g4)).wider (Nat.le_trans HB.out hs2), HG3.out.trans g4⟩
    · have HE := Lib.hid (entT_0 H1.out h2)
      have H2 := Lib.hid h2
      clear h2
      go_wp2_with fail
      with_reducible refine (right_p (x := x) H2.out).mono ?_
      rintro e9 w4 ⟨rfl, g4⟩
      have HR4 := Lib.hid (HR3.out.grew g4)
      have HH4 := Lib.hid (HH3.out.grew g4)
      have HO4 := Lib.hid (HO3.out.grew g4)
      have HG4 := Lib.hid (HG3.out.trans g4)
      have z4 := g4.size
      clear x0 x1 x2 x3 x4 g4 HR3 HH3 HO3 HG3
      obtain ⟨x0, x1, x2, x3, x4⟩ := HO4.out.fiveT
      go_wp2_with fail
      with_reducible refine (find_p (x := x) HH4.out hl H1.out).mono ?_
      rintro e9 w5 ⟨i, rfl, HP, g5⟩
      have HI := Lib.hid (insT_at HP)
      have hil := HP.1
      have HR5 := Lib.hid (HR4.out.grew g5)
      have HO5 := Lib.hid (HO4.out.grew g5)
      have HG5 := Lib.hid (HG4.out.trans g5)
      have z5 := g5.size
      clear x0 x1 x2 x3 x4 g5 HR4 HH4 HO4 HG4
      obtain ⟨x0, x1, x2, x3, x4⟩ := HO5.out.fiveT
      cases hh : hasT L x i
      · have HE2 : Hid (entT L x = (L.take i ++ x :: L.drop i, 0)) := Lib.hid (by rw [HE.out, HI.out, hh])
        have HN5 := Lib.hid (show v2.ownBlock ≠ some w5.heap.size from fun e => absurd (HR5.out.lt _ e) (Nat.lt_irrefl _))
        have HX5 := Lib.hid (show Own (w5.alloc (.cells #[.int .i64 x.p, .int .i64 x.v, .int .i64 x.f, .bool x.w, .bool x.a] 30)) w5.heap.size 30 (encT x).toArray from Own.new w5 30 #[.int .i64 x.p, .int .i64 x.v, .int .i64 x.f, .bool x.w, .bool x.a])
        have HR6 := Lib.hid (HR5.out.alloc (.cells #[.int .i64 x.p, .int .i64 x.v, .int .i64 x.f, .bool x.w, .bool x.a] 30))
        have HG6 := Lib.hid (HG5.out.alloc (.cells #[.int .i64 x.p, .int .i64 x.v, .int .i64 x.f, .bool x.w, .bool x.a] 30))
        have hs6 : w1.heap.size ≤ (w5.alloc (.cells #[.int .i64 x.p, .int .i64 x.v, .int .i64 x.f, .bool x.w, .bool x.a] 30)).heap.size := by simp; omega
        clear hh HI HE
        go_wp2_with fail
        with_reducible refine (ins_r (B := w1.heap.size) v2 i x _ _ 1 HR6.out hl hil HX5.out HN5.out hs6).mono ?_
        rintro e9 w7 ⟨u, rfl, R7, g7⟩
        have G7 : Grew w w7 := Grew.keptA (B := w1.heap.size) HG6.out g7 (fun y e => HR6.out.above y e) (by omega)
        go_wp2
        refine bodyPost_ret (v := .tuple #[u, .int .i64 0]) (by simp [results, Try.results10, go_sem]) rfl ?_
        exact ⟨u, by rw [HE2.out], by rw [HE2.out]; exact (RowE.rdS encT_len R7).wider (Nat.le_trans HB.out hs2), G7⟩
      · have hi : i < L.length := by
          by_cases hi : i < L.length
          · exact hi
          · rw [hasT_end (by omega)] at hh; cases hh
        have HE2 : Hid (entT L x = (L.set i x, 0)) := Lib.hid (by rw [HE.out, HI.out, hh])
        clear hh HI HE
        rcases HR5.out.shape encT_len with ⟨-, e9⟩ | ⟨gr, cap, rfl, hBg, hg, -, -, -, hfr⟩
        · rw [e9] at hi; exact absurd hi (by simp)
        · obtain ⟨gq, oq, e7, -, -, y0, y1, y2, y3, y4⟩ := (RowE.rdS encT_len HR5.out).atT hi
          injection e7 with e7
          injection e7 with e7 e6
          subst e7 e6
          rw [Nat.zero_add] at y0 y1 y2 y3 y4
          have f0 := hfr (i * 5)
          have f1 := hfr (i * 5 + 1)
          have f2 := hfr (i * 5 + 2)
          have f3 := hfr (i * 5 + 3)
          have f4 := hfr (i * 5 + 4)
          have hi0 : (0 : Int) ≤ (i : Int) := by omega
          have hi1 : (i : Int) < (L.length : Int) := by omega
          clear hfr
          go_wp2
          generalize hw : World.setCell (World.setCell (World.setCell (World.setCell (World.setCell w5 _ _) _ _) _ _) _ _) _ _ = E
          refine bodyPost_ret (v := .tuple #[.slice (some ⟨gr, 0, none⟩) L.length cap, .int .i64 0]) (by simp [results, Try.results10, go_sem]) rfl ?_
          exact ⟨_, by rw [HE2.out], by rw [HE2.out]; exact (RowE.rdS encT_len (HR5.out.put5T hi x hw)).wider (Nat.le_trans HB.out hs2), grown5T HG5.out (by omega) hw⟩
end Go.Proofs.Ytjkkhfionmdmpaa

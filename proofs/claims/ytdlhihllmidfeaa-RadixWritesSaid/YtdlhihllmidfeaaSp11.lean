/- Made states of layer 1: SpoilNode: some node. -/
import Derived.Test.YtdlhihllmidfeaaSp9
import Derived.Test.YtdlhihllmidfeaaTape
import Derived.Deep.RegionHeld3
import Derived.Deep.RegionWith
import Derived.Deep.DeepCutAuto
import Derived.Deep.CutBlock
namespace Go.Proofs.Ytdlhihllmidfeaa
open Go.RowKit Go.Mine

theorem RowE.far3n {T : TypeId} {sz B b : Nat} {α : Type} {enc : α → List Value} {w w' : World} {v x y z : Value} {L : List α} (h : RowE T sz enc w B v L) (hw : ((w.setCell ⟨b, 0, none⟩ x).setCell ⟨b, 1, none⟩ y).setCell ⟨b, 2, none⟩ z = w') (hb : v.ownBlock ≠ some b) : RowE T sz enc w' B v L := by
  subst hw
  exact ((h.set (p := ⟨b, 0, none⟩) hb x).set (p := ⟨b, 1, none⟩) hb y).set (p := ⟨b, 2, none⟩) hb z
theorem und_kn : Try.prog.underlying 24 = some (.slice 26) := by kernel_rfl
/-- Behind the copy of the kids. -/
def SpCut (w : World) (M : List Kdn) (x m : Int) (v7 : Value) (wx : World) : Prop := ∃ (Z : Nat) (a2 : Option Addr) (c2 : Nat), v7 = .pointer (some ⟨Z, 0, none⟩) ∧ Own wx Z 26 #[.slice a2 M.length c2, .int .i64 x, .int .i64 m] ∧
  RwK wx (w.heap.size + 2) (.slice a2 M.length c2) M ∧ w.heap.size + 2 ≤ Z ∧ (∀ k, (Value.slice a2 M.length c2).ownBlock = some k → k ≠ Z) ∧ Own wx (w.heap.size + 1) 26 #[.slice none 0 0, .int .i64 0, .int .i64 0] ∧ Grew w wx
theorem zero12_at {w : World} {g : Nat} (O : Own w g 26 zero12) : ∀ k, k < 4 → w.cell? ⟨g, k * 3, none⟩ = some (.slice none 0 0) ∧ w.cell? ⟨g, k * 3 + 1, none⟩ = some (.int .i64 0) ∧ w.cell? ⟨g, k * 3 + 2, none⟩ = some (.int .i64 0) := fun k hk => by
  have : k = 0 ∨ k = 1 ∨ k = 2 ∨ k = 3 := by omega
  rcases this with rfl | rfl | rfl | rfl <;> exact ⟨(O.cell _).trans rfl, (O.cell _).trans rfl, (O.cell _).trans rfl⟩
/-- Blocks of C and from D on stay. -/
def Stab (C : Nat → Prop) (D : Nat) (w w' : World) : Prop := w.heap.size ≤ w'.heap.size ∧ ∀ b, b < w.heap.size → (C b ∨ D ≤ b) → w'.heap[b]? = w.heap[b]?
/-- It returns some node, seen at the height h; it stays one while blocks of C and those from the call's start on stay. -/
def RetAny (C : Nat → Prop) (h : Nat) (w : World) (e : Ending) (w' : World) : Prop := ∃ (q : Kdn), e = .returned (nodeV (.slice q.1 q.2.1 q.2.2.1) q.2.2.2.1 q.2.2.2.2) ∧ Grew w w' ∧ ∀ w3, Stab C w.heap.size w' w3 → KnP (AnyF w3 h) q
def RetRec (C : Nat → Prop) (h k : Nat) (M : List Kdn) (w : World) (e : Ending) (w' : World) : Prop := ∃ (q : Kdn), e = .returned (nodeV (.slice q.1 q.2.1 q.2.2.1) q.2.2.2.1 q.2.2.2.2) ∧ Grew w w' ∧
  ∀ w3 B a2 c2 x' m', Stab C w.heap.size w' w3 → RwK w3 B (.slice a2 M.length c2) (M.set k q) → (Lit.int .i64 x').wf = true → AnyF w3 h (.slice a2 M.length c2) x' m'
theorem RowE.stab {T : TypeId} {C : Nat → Prop} {sz B D : Nat} {α : Type} {enc : α → List Value} {w w' : World} {v : Value} {L : List α} (h : RowE T sz enc w B v L) (s : Stab C D w w') (hD : D ≤ B) : RowE T sz enc w' B v L := by
  refine ⟨h.1, ?_⟩
  rcases h.2 with h0 | ⟨g0, cap, cur, rfl, hb, hg, rest⟩
  · exact .inl h0
  · exact .inr ⟨g0, cap, cur, rfl, hb, (s.2 g0 (Array.getElem?_eq_some_iff.1 hg).1 (.inr (Nat.le_trans hD hb))).trans hg, rest⟩
theorem Stab.old {C : Nat → Prop} {D : Nat} {w w1 w' : World} (s : Stab C D w1 w') (G : Grew w w1) (hC : ∀ b, C b → b < w.heap.size) : ∀ b, C b → w'.heap[b]? = w.heap[b]? := fun b hb =>
  (s.2 b (Nat.lt_of_lt_of_le (hC b hb) G.size) (.inl hb)).trans (Below.block G b (hC b hb))
theorem any_ne {w : World} {h n c : Nat} {a : Option Addr} {x m : Int} (hn : ¬n = 4) (hx : (Lit.int .i64 x).wf = true) : AnyF w h (.slice a n c) x m := by
  cases h with
  | zero => exact anyF_leaf hx
  | succ h => exact anyF_flat hn
theorem any_zero4 {w : World} {h c g : Nat} {x m : Int} (hx : (Lit.int .i64 x).wf = true) (hz : ∀ k, k < 4 → w.cell? ⟨g, k * 3, none⟩ = some (.slice none 0 0) ∧ w.cell? ⟨g, k * 3 + 1, none⟩ = some (.int .i64 0) ∧ w.cell? ⟨g, k * 3 + 2, none⟩ = some (.int .i64 0)) :
    AnyF w h (.slice (some ⟨g, 0, none⟩) 4 c) x m := by
  cases h with
  | zero => exact anyF_leaf hx
  | succ h => exact anyF_node fun k hk => ⟨_, _, _, (hz k hk).1, (hz k hk).2.1, (hz k hk).2.2, .inl ⟨fZ, NodeF.empty _ (emp_Z _) _ _, good_Z⟩⟩
set_option maxHeartbeats 8000000 in
theorem spoil_core (h : Nat) (a : Option Addr) (c : Nat) (x m at' by' : Int) (M : List Kdn) (w : World) (hM : M = [] ∨ ∃ g, a = some ⟨g, 0, none⟩ ∧ ∀ j u, (M.flatMap encKn)[j]? = some u → w.cell? ((⟨g, 0, none⟩ : Addr).add j) = some u) (hl : M.length = 0 ∨ M.length = 4) (C : Nat → Prop) (hC : ∀ b, C b → b < w.heap.size)
    (hx : (Lit.int .i64 x).wf = true) (hAny : ∀ w3 B a2 c2 x' m', RwK w3 B (.slice a2 M.length c2) M → (∀ b, C b → w3.heap[b]? = w.heap[b]?) → (Lit.int .i64 x').wf = true → AnyF w3 h (.slice a2 M.length c2) x' m')
    (hRec : ∀ k, k < M.length → ∀ (at' by' : Int) (w1 : World), (∀ b, C b → b < w1.heap.size) → (∀ b, C b → w1.heap[b]? = w.heap[b]?) → Calls Try.prog 39 #[nodeV (.slice (M.getD k knZ).1 (M.getD k knZ).2.1 (M.getD k knZ).2.2.1) (M.getD k knZ).2.2.2.1 (M.getD k knZ).2.2.2.2, .int .i64 at', .int .i64 by'] w1 (RetRec C h k M w1)) :
    Calls Try.prog 39 #[nodeV (.slice a M.length c) x m, .int .i64 at', .int .i64 by'] w (RetAny C h w) := by
  have HM := Lib.hid (show ∀ w', Grew w w' → (M = [] ∨ ∃ g, a = some ⟨g, 0, none⟩ ∧ ∀ j u, (M.flatMap encKn)[j]? = some u → w'.cell? ((⟨g, 0, none⟩ : Addr).add j) = some u) from fun w' G => by
    rcases hM with hM | ⟨g, e, hc⟩
    · exact .inl hM
    · refine .inr ⟨g, e, fun j u hu => ?_⟩
      have := hc j u hu
      rw [Addr.add_lit] at this ⊢
      exact (G.cells.1 g _ (World.block_lt_of_cell? w _ this)).trans this)
  have HL := Lib.hid hl
  have HC := Lib.hid hC
  have HX := Lib.hid hx
  have HAny := Lib.hid hAny
  have HRec := Lib.hid hRec
  clear hC hx hAny hRec
  obtain ⟨n, hn⟩ : ∃ n, M.length = n := ⟨_, rfl⟩
  have HN := Lib.hid hn
  rw [hn] at hl
  rw [hn]
  clear hM hn
  go_enter Try.func39, Try.ntmps39
  have O0 := Own.new w 26 #[.slice a n c, .int .i64 x, .int .i64 m]
  have O1 := Own.new2 w (.cells #[.slice a n c, .int .i64 x, .int .i64 m] 26) 26 #[.slice none 0 0, .int .i64 0, .int .i64 0]
  have G := ((Grew.refl w).alloc (.cells #[.slice a n c, .int .i64 x, .int .i64 m] 26)).alloc (.cells #[.slice none 0 0, .int .i64 0, .int .i64 0] 26)
  replace O0 := O0.alloc (.cells #[.slice none 0 0, .int .i64 0, .int .i64 0] 26)
  go_upto_region 1 with fail
  generalize World.alloc (World.alloc w _) _ = w0 at *
  go_cut [7] from 9 to 16 (SpCut w M x m)
  case first =>
    have hw0 : w.heap.size + 2 ≤ w0.heap.size := O1.lt
    have HO1 := Lib.hid O1.drew
    have HG := Lib.hid G.drew
    have HO0 := Lib.hid O0.drew
    obtain ⟨o0, o1, o2, -⟩ := O0.three
    clear O0 O1 G
    go_region_held3 (fun w' => w'.cell? ⟨w.heap.size, 0, none⟩ = some (.slice a n c) ∧ w'.cell? ⟨w.heap.size, 1, none⟩ = some (.int .i64 x) ∧ w'.cell? ⟨w.heap.size, 2, none⟩ = some (.int .i64 m))
      (refine ⟨?_, ?_, ?_⟩ <;> (repeat (first | (with_reducible assumption) | (with_reducible refine far_drew ?_) | (with_reducible refine far_alloc ?_) | (with_reducible refine far_cell (by simp; omega) ?_))))
      (first
        | (refine step_append_kids _ (by rfl) (.const (.slice none 0 0)) (.tmp 10) 24 (by rfl) und_kn (by rfl) M a c (by rw [HN.out]; rfl) (by have := HL.out; omega) (HM.out _ (by first | exact HG.out | exact HG.out.alloc _)) ?_
           intro v3 w3 R3 G3
           obtain ⟨a3, c3, rfl⟩ := R3.len
           have HR3 := Lib.hid R3
           have HGG := Lib.hid G3
           have hn2 := HN.out
           have HO13 := Lib.hid (show Own w3 (w.heap.size + 1) 26 #[.slice none 0 0, .int .i64 0, .int .i64 0] from by first | exact HO1.out.grew G3 | exact (HO1.out.alloc _).grew G3)
           have HG3 := Lib.hid (show Grew w w3 from by first | exact HG.out.trans G3 | exact (HG.out.alloc _).trans G3)
           have HO03 := Lib.hid (show Own w3 w.heap.size 26 #[.slice a n c, .int .i64 x, .int .i64 m] from by first | exact HO0.out.grew G3 | exact (HO0.out.alloc _).grew G3)
           rw [hn2]
           try (have HZ : Own w3 w0.heap.size 26 #[.slice none 0 0, .int .i64 0, .int .i64 0] := (Own.new w0.drew 26 #[.slice none 0 0, .int .i64 0, .int .i64 0]).grew G3
                have HZZ := Lib.hid HZ
                have hzl := HZ.lt
                obtain ⟨z0, z1, z2, z3, z4, z5⟩ := HZ.three
                clear HZ)
           clear hn2 R3 G3 o0 o1 o2
           obtain ⟨o0, o1, o2, -⟩ := HO03.out.three))
    · go_wp2
      go_meet
      have hn2 := HN.out
      subst hn2
      have hz := HGG.out.size
      have hz2 : w.heap.size + 2 ≤ w3.heap.size := Nat.le_trans hw0 hz
      exact ⟨w3.heap.size, a3, c3, rfl, Own.new w3 _ _, (HR3.out.alloc _).wider hw0, hz2, fun k e => by have := HR3.out.lt k e; omega, HO13.out.alloc _, HG3.out.alloc _⟩
    · go_wp2
      go_meet
      have hn2 := HN.out
      subst hn2
      have hB : w.heap.size + 2 ≤ (w0.drew.alloc (.cells #[.slice none 0 0, .int .i64 0, .int .i64 0] 26)).heap.size := Nat.le_trans hw0 (by simp)
      have hk : ∀ k, (Value.slice a3 M.length c3).ownBlock = some k → w0.heap.size < k := fun k e => by have := HR3.out.above k e; simp at this; omega
      generalize hw : World.setCell _ _ _ = wz
      have HR4 := RowE.far3n HR3.out hw (fun e => by have := hk _ e; omega)
      exact ⟨w0.heap.size, a3, c3, rfl, HZZ.out.store3 hw, HR4.wider hB, hw0, fun k e => by have := hk k e; omega, HO13.out.far3 hw (by omega), HG3.out.far3 hw (by omega)⟩
  case rest =>
    clear O0 O1 G
    obtain ⟨Z, a2, c2, rfl, O, R, hZ, hne, Or, G⟩ := hcut
    have hn2 := HN.out
    subst hn2
    have HNE := Lib.hid hne
    have HR := Lib.hid R
    have hrr : ∀ k, (Value.slice a2 M.length c2).ownBlock = some k → k ≠ w.heap.size + 1 := fun k e => by have := R.above k e; omega
    have HRR := Lib.hid hrr
    have HO := Lib.hid O
    have HOr := Lib.hid Or
    have HG := Lib.hid G
    obtain ⟨o0, o1, o2, o3, o4, o5⟩ := O.three
    obtain ⟨r0, r1, r2, r3, r4, r5⟩ := Or.three
    have lZ := O.lt
    have lr := Or.lt
    have hwx : w.heap.size + 2 ≤ wc.heap.size := by omega
    obtain ⟨q5, hq5⟩ : ∃ q, cut by' 5 = q := ⟨_, rfl⟩
    obtain ⟨p0, p1⟩ := cut_lt by' 5 (by omega)
    rw [hq5] at p0 p1
    have HQ5 := Lib.hid hq5
    clear hne hrr hq5 R O Or G
    rcases HL.out with hl0 | hl4
    · have hL6 : M.length < 1000000 := by omega
      have HL6 := Lib.hid hL6
      rw [hl0] at HR HNE HRR HO HAny o0 ⊢
      have HL0 := Lib.hid hl0
      clear hl0 hL6
      go_wp2_with fail
      with_reducible refine (cut_any _ _ _ (by omega) (by omega)).mono ?_
      rintro e wq ⟨rfl, rfl⟩
      rw [HQ5.out]
      have hk : q5 = 0 ∨ q5 = 1 ∨ q5 = 2 ∨ q5 = 3 ∨ q5 = 4 := by omega
      clear p0 p1
      rcases hk with rfl | rfl | rfl | rfl | rfl
      · obtain ⟨r, hr⟩ : ∃ r, cut (wrap64 (Int.tdiv by' 5)) 5 = r := ⟨_, rfl⟩
        obtain ⟨s0, s1⟩ := cut_lt (wrap64 (Int.tdiv by' 5)) 5 (by omega)
        rw [hr] at s0 s1
        have HRq := Lib.hid hr
        clear hr
        go_wp2_with fail
        with_reducible refine (cut_any _ _ _ (by omega) (by omega)).mono ?_
        rintro e wq ⟨rfl, rfl⟩
        rw [HRq.out]
        go_wp2_with fail
        have XW : (Lit.int .i64 (r - 2)).wf = true := WalkArith.wf_i64 (by omega)
        have R2 := RowE.set HR.out (p := ⟨Z, 1, none⟩) (fun e => HNE.out _ e rfl) (.int .i64 (r - 2))
        have OR2 := HOr.out.far (p := ⟨Z, 1, none⟩) (by simp; omega) (.int .i64 (r - 2))
        have G2 := HG.out.set (p := ⟨Z, 1, none⟩) (by simp; omega) (.int .i64 (r - 2))
        generalize hwz : World.setCell (World.setCell (World.setCell _ ⟨w.heap.size + 1, 0, none⟩ _) ⟨w.heap.size + 1, 1, none⟩ _) ⟨w.heap.size + 1, 2, none⟩ _ = wz
        have OE := OR2.store3 hwz
        have GE := G2.far3 hwz (by omega)
        obtain ⟨b0, b1, b2, -⟩ := OE.three
        refine bodyPost_ret (v := nodeV (.slice a2 0 c2) (r - 2) m) (by simp [results, Try.results39, go_sem, b0, b1, b2]) rfl ⟨(a2, 0, c2, r - 2, m), rfl, GE, fun w3 hs => ?_⟩
        have RE := RowE.far3n R2 hwz (fun e => HRR.out _ e rfl)
        exact HAny.out w3 (w.heap.size + 2) _ _ _ _ (RowE.stab RE hs (by omega)) (hs.old GE HC.out) XW
      · obtain ⟨r, hr⟩ : ∃ r, cut (wrap64 (Int.tdiv by' 5)) 10 = r := ⟨_, rfl⟩
        obtain ⟨s0, s1⟩ := cut_lt (wrap64 (Int.tdiv by' 5)) 10 (by omega)
        rw [hr] at s0 s1
        have HRq := Lib.hid hr
        clear hr
        go_wp2_with fail
        with_reducible refine (cut_any _ _ _ (by omega) (by omega)).mono ?_
        rintro e wq ⟨rfl, rfl⟩
        rw [HRq.out]
        go_wp2_with fail
        have XW := HX.out
        have R2 := RowE.set HR.out (p := ⟨Z, 2, none⟩) (fun e => HNE.out _ e rfl) (.int .i64 (r - 1))
        have OR2 := HOr.out.far (p := ⟨Z, 2, none⟩) (by simp; omega) (.int .i64 (r - 1))
        have G2 := HG.out.set (p := ⟨Z, 2, none⟩) (by simp; omega) (.int .i64 (r - 1))
        generalize hwz : World.setCell (World.setCell (World.setCell _ ⟨w.heap.size + 1, 0, none⟩ _) ⟨w.heap.size + 1, 1, none⟩ _) ⟨w.heap.size + 1, 2, none⟩ _ = wz
        have OE := OR2.store3 hwz
        have GE := G2.far3 hwz (by omega)
        obtain ⟨b0, b1, b2, -⟩ := OE.three
        refine bodyPost_ret (v := nodeV (.slice a2 0 c2) x (r - 1)) (by simp [results, Try.results39, go_sem, b0, b1, b2]) rfl ⟨(a2, 0, c2, x, r - 1), rfl, GE, fun w3 hs => ?_⟩
        have RE := RowE.far3n R2 hwz (fun e => HRR.out _ e rfl)
        exact HAny.out w3 (w.heap.size + 2) _ _ _ _ (RowE.stab RE hs (by omega)) (hs.old GE HC.out) XW
      · have Hb2 := Lib.hid (fun o => show w.heap.size + 2 ≤ (wc.alloc o).heap.size by simp; omega)
        go_wp2_with (at_builtin; go_loud (refine wpList_append_row _ rfl (.tmp 65) (.tmp 67) 24 rfl (w.heap.size + 2) info_kn und_kn (by decide) (by decide) encKn_len (.slice a2 0 c2) M rfl (HR.out.alloc _) _ _ knZ rfl (Own.new _ _ _) encKn_one HL6.out (by decide) (Hb2.out _) ?_; intro g9 cap9 w9 R9 G9 o9; have K9 := Own.keptN (HO.out.alloc (.cells #[.slice none 0 0, .int .i64 0, .int .i64 0] 26)) G9 (fun e => HNE.out _ e rfl); have K8 := Own.keptN (HOr.out.alloc (.cells #[.slice none 0 0, .int .i64 0, .int .i64 0] 26)) G9 (fun e => HRR.out _ e rfl); have G8 := Grew.keptA (HG.out.alloc (.cells #[.slice none 0 0, .int .i64 0, .int .i64 0] 26)) G9 (B := w.heap.size + 2) (fun y e => HR.out.above y e) (by omega); clear o0 o1 o2 o3 o4 o5 r0 r1 r2 r3 r4 r5; obtain ⟨o0, o1, o2, o3, o4, o5⟩ := K9.three; obtain ⟨r0, r1, r2, r3, r4, r5⟩ := K8.three))
        obtain ⟨nn, hnn⟩ : ∃ nn, M.length + 1 = nn := ⟨_, rfl⟩
        have hn4 : ¬nn = 4 := by have := HL.out; omega
        rw [hnn]
        clear hnn
        have OR2 := K8.far (p := ⟨Z, 0, none⟩) (by simp; omega) (.slice (some ⟨g9, 0, none⟩) nn cap9)
        have G2 := G8.set (p := ⟨Z, 0, none⟩) (by simp; omega) (.slice (some ⟨g9, 0, none⟩) nn cap9)
        generalize hwz : World.setCell (World.setCell (World.setCell _ ⟨w.heap.size + 1, 0, none⟩ _) ⟨w.heap.size + 1, 1, none⟩ _) ⟨w.heap.size + 1, 2, none⟩ _ = wz
        have OE := OR2.store3 hwz
        have GE := G2.far3 hwz (by omega)
        obtain ⟨b0, b1, b2, -⟩ := OE.three
        refine bodyPost_ret (v := nodeV (.slice (some ⟨g9, 0, none⟩) nn cap9) x m) (by simp [results, Try.results39, go_sem, b0, b1, b2]) rfl ⟨(some ⟨g9, 0, none⟩, nn, cap9, x, m), rfl, GE, fun w3 hs => ?_⟩
        exact any_ne hn4 HX.out
      · go_wp2_with fail
        have OR2 := HOr.out.far (p := ⟨Z, 0, none⟩) (by simp; omega) (.slice none 0 0)
        have G2 := HG.out.set (p := ⟨Z, 0, none⟩) (by simp; omega) (.slice none 0 0)
        generalize hwz : World.setCell (World.setCell (World.setCell _ ⟨w.heap.size + 1, 0, none⟩ _) ⟨w.heap.size + 1, 1, none⟩ _) ⟨w.heap.size + 1, 2, none⟩ _ = wz
        have OE := OR2.store3 hwz
        have GE := G2.far3 hwz (by omega)
        obtain ⟨b0, b1, b2, -⟩ := OE.three
        refine bodyPost_ret (v := nodeV (.slice none 0 0) x m) (by simp [results, Try.results39, go_sem, b0, b1, b2]) rfl ⟨(none, 0, 0, x, m), rfl, GE, fun w3 hs => ?_⟩
        exact any_ne (show ¬(0 : Nat) = 4 by decide) HX.out
      · have hmk := make4 wc
        have OR2 := HOr.out.far (p := ⟨Z, 0, none⟩) (by simp; omega) (.slice (some ⟨wc.heap.size, 0, none⟩) 4 4)
        have G2 := HG.out.set (p := ⟨Z, 0, none⟩) (by simp; omega) (.slice (some ⟨wc.heap.size, 0, none⟩) 4 4)
        have HOR := Lib.hid OR2
        have HG2 := Lib.hid G2
        clear OR2 G2
        go_wp2_with fail
        generalize hwz : World.setCell (World.setCell (World.setCell _ ⟨w.heap.size + 1, 0, none⟩ _) ⟨w.heap.size + 1, 1, none⟩ _) ⟨w.heap.size + 1, 2, none⟩ _ = wz
        have OE := (HOR.out.store3 hwz).alloc (.cells zero12 26)
        have GE := (HG2.out.far3 hwz (by omega)).alloc (.cells zero12 26)
        have hzs : wc.heap.size = wz.heap.size := by rw [← hwz]; simp [World.setCell]
        rw [hzs] at OE ⊢
        have OZ := Own.new wz 26 zero12
        have hzd : w.heap.size ≤ wz.heap.size := by omega
        clear hwz
        obtain ⟨b0, b1, b2, -⟩ := OE.three
        refine bodyPost_ret (v := nodeV (.slice (some ⟨wz.heap.size, 0, none⟩) 4 4) x m) (by simp [results, Try.results39, go_sem, b0, b1, b2]) rfl ⟨(some ⟨wz.heap.size, 0, none⟩, 4, 4, x, m), rfl, GE, fun w3 hs => ?_⟩
        exact any_zero4 HX.out (zero12_at (OZ.since (hs.2 wz.heap.size OZ.lt (.inr hzd))))
    · have hL6 : M.length < 1000000 := by omega
      have HL6 := Lib.hid hL6
      rw [hl4] at HR HNE HRR HO HAny o0 ⊢
      have HL4 := Lib.hid hl4
      clear hl4 hL6
      obtain ⟨q3, hq3⟩ : ∃ q, cut at' 3 = q := ⟨_, rfl⟩
      obtain ⟨t0, t1⟩ := cut_lt at' 3 (by omega)
      rw [hq3] at t0 t1
      have HQ3 := Lib.hid hq3
      clear hq3
      by_cases hq0 : q3 = 0
      · subst hq0
        go_wp2_with fail
        with_reducible refine (cut_any _ _ _ (by omega) (by omega)).mono ?_
        rintro e wq ⟨rfl, rfl⟩
        rw [HQ3.out]
        go_wp2_with fail
        with_reducible refine (cut_any _ _ _ (by omega) (by omega)).mono ?_
        rintro e wq ⟨rfl, rfl⟩
        rw [HQ5.out]
        have hk : q5 = 0 ∨ q5 = 1 ∨ q5 = 2 ∨ q5 = 3 ∨ q5 = 4 := by omega
        clear p0 p1
        rcases hk with rfl | rfl | rfl | rfl | rfl
        · obtain ⟨r, hr⟩ : ∃ r, cut (wrap64 (Int.tdiv by' 5)) 5 = r := ⟨_, rfl⟩
          obtain ⟨s0, s1⟩ := cut_lt (wrap64 (Int.tdiv by' 5)) 5 (by omega)
          rw [hr] at s0 s1
          have HRq := Lib.hid hr
          clear hr
          go_wp2_with fail
          with_reducible refine (cut_any _ _ _ (by omega) (by omega)).mono ?_
          rintro e wq ⟨rfl, rfl⟩
          rw [HRq.out]
          go_wp2_with fail
          have XW : (Lit.int .i64 (r - 2)).wf = true := WalkArith.wf_i64 (by omega)
          have R2 := RowE.set HR.out (p := ⟨Z, 1, none⟩) (fun e => HNE.out _ e rfl) (.int .i64 (r - 2))
          have OR2 := HOr.out.far (p := ⟨Z, 1, none⟩) (by simp; omega) (.int .i64 (r - 2))
          have G2 := HG.out.set (p := ⟨Z, 1, none⟩) (by simp; omega) (.int .i64 (r - 2))
          generalize hwz : World.setCell (World.setCell (World.setCell _ ⟨w.heap.size + 1, 0, none⟩ _) ⟨w.heap.size + 1, 1, none⟩ _) ⟨w.heap.size + 1, 2, none⟩ _ = wz
          have OE := OR2.store3 hwz
          have GE := G2.far3 hwz (by omega)
          obtain ⟨b0, b1, b2, -⟩ := OE.three
          refine bodyPost_ret (v := nodeV (.slice a2 4 c2) (r - 2) m) (by simp [results, Try.results39, go_sem, b0, b1, b2]) rfl ⟨(a2, 4, c2, r - 2, m), rfl, GE, fun w3 hs => ?_⟩
          have RE := RowE.far3n R2 hwz (fun e => HRR.out _ e rfl)
          exact HAny.out w3 (w.heap.size + 2) _ _ _ _ (RowE.stab RE hs (by omega)) (hs.old GE HC.out) XW
        · obtain ⟨r, hr⟩ : ∃ r, cut (wrap64 (Int.tdiv by' 5)) 10 = r := ⟨_, rfl⟩
          obtain ⟨s0, s1⟩ := cut_lt (wrap64 (Int.tdiv by' 5)) 10 (by omega)
          rw [hr] at s0 s1
          have HRq := Lib.hid hr
          clear hr
          go_wp2_with fail
          with_reducible refine (cut_any _ _ _ (by omega) (by omega)).mono ?_
          rintro e wq ⟨rfl, rfl⟩
          rw [HRq.out]
          go_wp2_with fail
          have XW := HX.out
          have R2 := RowE.set HR.out (p := ⟨Z, 2, none⟩) (fun e => HNE.out _ e rfl) (.int .i64 (r - 1))
          have OR2 := HOr.out.far (p := ⟨Z, 2, none⟩) (by simp; omega) (.int .i64 (r - 1))
          have G2 := HG.out.set (p := ⟨Z, 2, none⟩) (by simp; omega) (.int .i64 (r - 1))
          generalize hwz : World.setCell (World.setCell (World.setCell _ ⟨w.heap.size + 1, 0, none⟩ _) ⟨w.heap.size + 1, 1, none⟩ _) ⟨w.heap.size + 1, 2, none⟩ _ = wz
          have OE := OR2.store3 hwz
          have GE := G2.far3 hwz (by omega)
          obtain ⟨b0, b1, b2, -⟩ := OE.three
          refine bodyPost_ret (v := nodeV (.slice a2 4 c2) x (r - 1)) (by simp [results, Try.results39, go_sem, b0, b1, b2]) rfl ⟨(a2, 4, c2, x, r - 1), rfl, GE, fun w3 hs => ?_⟩
          have RE := RowE.far3n R2 hwz (fun e => HRR.out _ e rfl)
          exact HAny.out w3 (w.heap.size + 2) _ _ _ _ (RowE.stab RE hs (by omega)) (hs.old GE HC.out) XW
        · have Hb2 := Lib.hid (fun o => show w.heap.size + 2 ≤ (wc.alloc o).heap.size by simp; omega)
          go_wp2_with (at_builtin; go_loud (refine wpList_append_row _ rfl (.tmp 65) (.tmp 67) 24 rfl (w.heap.size + 2) info_kn und_kn (by decide) (by decide) encKn_len (.slice a2 4 c2) M rfl (HR.out.alloc _) _ _ knZ rfl (Own.new _ _ _) encKn_one HL6.out (by decide) (Hb2.out _) ?_; intro g9 cap9 w9 R9 G9 o9; have K9 := Own.keptN (HO.out.alloc (.cells #[.slice none 0 0, .int .i64 0, .int .i64 0] 26)) G9 (fun e => HNE.out _ e rfl); have K8 := Own.keptN (HOr.out.alloc (.cells #[.slice none 0 0, .int .i64 0, .int .i64 0] 26)) G9 (fun e => HRR.out _ e rfl); have G8 := Grew.keptA (HG.out.alloc (.cells #[.slice none 0 0, .int .i64 0, .int .i64 0] 26)) G9 (B := w.heap.size + 2) (fun y e => HR.out.above y e) (by omega); clear o0 o1 o2 o3 o4 o5 r0 r1 r2 r3 r4 r5; obtain ⟨o0, o1, o2, o3, o4, o5⟩ := K9.three; obtain ⟨r0, r1, r2, r3, r4, r5⟩ := K8.three))
          obtain ⟨nn, hnn⟩ : ∃ nn, M.length + 1 = nn := ⟨_, rfl⟩
          have hn4 : ¬nn = 4 := by have := HL.out; omega
          rw [hnn]
          clear hnn
          have OR2 := K8.far (p := ⟨Z, 0, none⟩) (by simp; omega) (.slice (some ⟨g9, 0, none⟩) nn cap9)
          have G2 := G8.set (p := ⟨Z, 0, none⟩) (by simp; omega) (.slice (some ⟨g9, 0, none⟩) nn cap9)
          generalize hwz : World.setCell (World.setCell (World.setCell _ ⟨w.heap.size + 1, 0, none⟩ _) ⟨w.heap.size + 1, 1, none⟩ _) ⟨w.heap.size + 1, 2, none⟩ _ = wz
          have OE := OR2.store3 hwz
          have GE := G2.far3 hwz (by omega)
          obtain ⟨b0, b1, b2, -⟩ := OE.three
          refine bodyPost_ret (v := nodeV (.slice (some ⟨g9, 0, none⟩) nn cap9) x m) (by simp [results, Try.results39, go_sem, b0, b1, b2]) rfl ⟨(some ⟨g9, 0, none⟩, nn, cap9, x, m), rfl, GE, fun w3 hs => ?_⟩
          exact any_ne hn4 HX.out
        · go_wp2_with fail
          have OR2 := HOr.out.far (p := ⟨Z, 0, none⟩) (by simp; omega) (.slice none 0 0)
          have G2 := HG.out.set (p := ⟨Z, 0, none⟩) (by simp; omega) (.slice none 0 0)
          generalize hwz : World.setCell (World.setCell (World.setCell _ ⟨w.heap.size + 1, 0, none⟩ _) ⟨w.heap.size + 1, 1, none⟩ _) ⟨w.heap.size + 1, 2, none⟩ _ = wz
          have OE := OR2.store3 hwz
          have GE := G2.far3 hwz (by omega)
          obtain ⟨b0, b1, b2, -⟩ := OE.three
          refine bodyPost_ret (v := nodeV (.slice none 0 0) x m) (by simp [results, Try.results39, go_sem, b0, b1, b2]) rfl ⟨(none, 0, 0, x, m), rfl, GE, fun w3 hs => ?_⟩
          exact any_ne (show ¬(0 : Nat) = 4 by decide) HX.out
        · have hmk := make4 wc
          have OR2 := HOr.out.far (p := ⟨Z, 0, none⟩) (by simp; omega) (.slice (some ⟨wc.heap.size, 0, none⟩) 4 4)
          have G2 := HG.out.set (p := ⟨Z, 0, none⟩) (by simp; omega) (.slice (some ⟨wc.heap.size, 0, none⟩) 4 4)
          have HOR := Lib.hid OR2
          have HG2 := Lib.hid G2
          clear OR2 G2
          go_wp2_with fail
          generalize hwz : World.setCell (World.setCell (World.setCell _ ⟨w.heap.size + 1, 0, none⟩ _) ⟨w.heap.size + 1, 1, none⟩ _) ⟨w.heap.size + 1, 2, none⟩ _ = wz
          have OE := (HOR.out.store3 hwz).alloc (.cells zero12 26)
          have GE := (HG2.out.far3 hwz (by omega)).alloc (.cells zero12 26)
          have hzs : wc.heap.size = wz.heap.size := by rw [← hwz]; simp [World.setCell]
          rw [hzs] at OE ⊢
          have OZ := Own.new wz 26 zero12
          have hzd : w.heap.size ≤ wz.heap.size := by omega
          clear hwz
          obtain ⟨b0, b1, b2, -⟩ := OE.three
          refine bodyPost_ret (v := nodeV (.slice (some ⟨wz.heap.size, 0, none⟩) 4 4) x m) (by simp [results, Try.results39, go_sem, b0, b1, b2]) rfl ⟨(some ⟨wz.heap.size, 0, none⟩, 4, 4, x, m), rfl, GE, fun w3 hs => ?_⟩
          exact any_zero4 HX.out (zero12_at (OZ.since (hs.2 wz.heap.size OZ.lt (.inr hzd))))
      · have hq1 : 0 < q3 := by omega
        clear hq0 t0 t1
        obtain ⟨i, hi⟩ : ∃ i, cut (wrap64 (Int.tdiv at' 3)) 4 = i := ⟨_, rfl⟩
        obtain ⟨i0, i1⟩ := cut_lt (wrap64 (Int.tdiv at' 3)) 4 (by omega)
        rw [hi] at i0 i1
        have HI := Lib.hid hi
        clear hi
        obtain ⟨i, rfl⟩ := Int.eq_ofNat_of_zero_le i0
        have hil : i < M.length := by have := HL4.out; omega
        have HIL := Lib.hid hil
        go_wp2_with fail
        with_reducible refine (cut_any _ _ _ (by omega) (by omega)).mono ?_
        rintro e wq ⟨rfl, rfl⟩
        rw [HQ3.out]
        go_wp2_with fail
        with_reducible refine (cut_any _ _ _ (by omega) (by omega)).mono ?_
        rintro e wq ⟨rfl, rfl⟩
        rw [HI.out]
        rcases hkd : M.getD i knZ with ⟨ka, kn, kc, kx, km⟩
        obtain ⟨g2, rfl, hg2, hgB, d0, d1, d2, df⟩ := rwK_at HR.out hil
        have HRi := Lib.hid (show ∀ (at' by' : Int) (w1 : World), (∀ b, C b → b < w1.heap.size) → (∀ b, C b → w1.heap[b]? = w.heap[b]?) → Calls Try.prog 39 #[nodeV (.slice ka kn kc) kx km, .int .i64 at', .int .i64 by'] w1 (RetRec C h i M w1) from by have := HRec.out i hil; rw [hkd] at this; exact this)
        rw [hkd] at d0 d1 d2
        have HD0 := Lib.hid d0
        have HD1 := Lib.hid d1
        have HD2 := Lib.hid d2
        have hZg : Z ≠ g2 := fun e => HNE.out g2 rfl e.symm
        have hrg : w.heap.size + 1 ≠ g2 := by omega
        have hCw : ∀ b, C b → b < wc.drew.heap.size := fun b hb => by have := HC.out b hb; show b < wc.heap.size; omega
        have HCw := Lib.hid hCw
        have HOLD := Lib.hid (show ∀ b, C b → wc.drew.heap[b]? = w.heap[b]? from fun b hb => Below.block HG.out b (HC.out b hb))
        have HDF := Lib.hid df
        clear hil hkd df hCw
        go_upto_region 4 with fail
        go_region_with
          (first
            | (go_at_call 39; (with_reducible refine Calls.mono (HRi.out _ by' _ HCw.out HOLD.out) ?_); rintro e w5 ⟨⟨qa, qn, qc, qx, qm⟩, rfl, G5, hq⟩
               have HQq := Lib.hid hq
               have HR5 := Lib.hid (HR.out.drew.grew G5)
               have HO5 := Lib.hid (HO.out.drew.grew G5)
               have HOr5 := Lib.hid (HOr.out.drew.grew G5)
               have HG5 := Lib.hid (HG.out.drew.trans G5)
               have HGG := Lib.hid G5
               have hc5 := rwK_at HR5.out HIL.out
               obtain ⟨g3, eg, hg3, -, e0, e1, e2, ef⟩ := hc5
               obtain rfl : g2 = g3 := by injection eg with eg; injection eg
               have hf0 := ef (i * 3)
               have hf1 := ef (i * 3 + 1)
               have hf2 := ef (i * 3 + 2)
               clear hq G5 eg ef o0 o1 o2 o3 o4 o5 r0 r1 r2 r3 r4 r5 d0 d1 d2
               have d0 := (HGG.out.cells.1 g2 (i * 3) hg2).trans HD0.out
               have d1 := (HGG.out.cells.1 g2 (i * 3 + 1) hg2).trans HD1.out
               have d2 := (HGG.out.cells.1 g2 (i * 3 + 2) hg2).trans HD2.out
               obtain ⟨o0, o1, o2, o3, o4, o5⟩ := HO5.out.three
               obtain ⟨r0, r1, r2, r3, r4, r5⟩ := HOr5.out.three))
        all_goals
          generalize hw6 : World.setCell (World.setCell (World.setCell _ _ _) _ _) _ _ = w6
          have hg5 := HGG.out.size
          have R5 : RwK w5 (w.heap.size + 2) (.slice (some ⟨g2, 0, none⟩) M.length c2) M := by rw [HL4.out]; exact HR5.out
          have R6 : RwK w6 (w.heap.size + 2) (.slice (some ⟨g2, 0, none⟩) M.length c2) (M.set i (qa, qn, qc, qx, qm)) := by rw [← hw6]; exact rwK_store R5 HIL.out (qa, qn, qc, qx, qm)
          have O6 := Own.off3 hw6 HO5.out hZg
          have Or6 := Own.off3 hw6 HOr5.out hrg
          have G6 := Grew.off3 hw6 HG5.out (by omega)
          have H6 := Lib.hid (fun b (hb : b ≠ g2) => heap3 hw6 b hb)
          have hs6 := size3 hw6
          have HR6 := Lib.hid R6
          have HOr6 := Lib.hid Or6
          have HG6 := Lib.hid G6
          clear hw6 o0 o1 o2 o3 o4 o5 r0 r1 r2 r3 r4 r5 d0 d1 d2 hf0 hf1 hf2 R5 R6 G6 e0 e1 e2
          obtain ⟨o0, o1, o2, o3, o4, o5⟩ := O6.three
          obtain ⟨r0, r1, r2, r3, r4, r5⟩ := Or6.three
          have lZ6 := O6.lt
          have lr6 := Or6.lt
          clear O6 Or6
          go_wp2
          generalize hwz : World.setCell (World.setCell (World.setCell _ ⟨w.heap.size + 1, 0, none⟩ _) ⟨w.heap.size + 1, 1, none⟩ _) ⟨w.heap.size + 1, 2, none⟩ _ = wz
          have OE := HOr6.out.store3 hwz
          have GE := HG6.out.far3 hwz (by omega)
          have RE := RowE.far3n HR6.out hwz (fun e => hrg (by injection e with e; exact e.symm))
          have HZ6 : ∀ b, b ≠ w.heap.size + 1 → wz.heap[b]? = w6.heap[b]? := fun b hb => by
            rw [← hwz, Below.heap_setCell _ ⟨w.heap.size + 1, 2, none⟩ _ b hb, Below.heap_setCell _ ⟨w.heap.size + 1, 1, none⟩ _ b hb, Below.heap_setCell _ ⟨w.heap.size + 1, 0, none⟩ _ b hb]
          have hsz : wz.heap.size = w6.heap.size := by rw [← hwz]; simp [World.setCell]
          clear hwz
          obtain ⟨b0, b1, b2, -⟩ := OE.three
          refine bodyPost_ret (v := nodeV (.slice (some ⟨g2, 0, none⟩) 4 c2) x m) (by simp [results, Try.results39, go_sem, b0, b1, b2]) rfl ⟨(some ⟨g2, 0, none⟩, 4, c2, x, m), rfl, GE, fun w3 hs => ?_⟩
          have hC := HC.out
          have hst : Stab C wc.drew.heap.size w5 w3 := ⟨by have := hs.1; omega, fun b hb hbc => by
            have hbc2 : C b ∨ wc.heap.size ≤ b := hbc
            have h3 : b < w.heap.size ∨ wc.heap.size ≤ b := hbc2.imp (hC b) id
            rw [hs.2 b (by omega) (hbc2.imp id (fun h => by omega)), HZ6 b (by omega), H6.out b (by omega)]⟩
          have hfin := HQq.out w3 (w.heap.size + 2) (some ⟨g2, 0, none⟩) c2 x m hst (RowE.stab RE hs (by omega)) HX.out
          rw [HL4.out] at hfin
          exact hfin
end Go.Proofs.Ytdlhihllmidfeaa

/- A copy of a whole row, and tables that are copied one by one (layer 18): words of my own, no program is named here. -/
import Derived.Test.YtokijggckiidjaaDsP
import Derived.Test.YtokijggckiidjaaInsM
namespace Go.Mine
open Go Go.RowKit
theorem fmI1 (L : List Int) : (L.flatMap enc1).length = L.length := by rw [fm_len enc1_len, Nat.mul_one]
/-- copy into a row of the same length. -/
theorem copy_run {P : Program} {w : World} {B B2 g n c cap : Nat} {a : Option Addr} {L Z : List Int} {Ti dT sT : TypeId} (hs : RdS 1 enc1 w B (.slice a n c) L) (hd : RowE Ti 1 enc1 w B2 (.slice (some ⟨g, 0, none⟩) n cap) Z) (hu : P.underlying dT = some (.slice Ti)) (hi : (P.info? Ti).map (·.size) = some 1) (ty : TypeId) :
    (Builtin.copy_ #[dT, sT] ty #[slV g n cap, .slice a n c]).run P w = .ok (goInt (n : Int)) (w.setCells g 0 (L.flatMap enc1)) := by
  obtain ⟨hn, h1, h2⟩ := RdS.lies enc1_len hs
  obtain ⟨hz, hB, hc, hm, cur, hO, hsz, hcell⟩ := row_ownN hd
  subst hn
  by_cases h0 : L = []
  · subst h0
    exact run_copy_none w dT sT ty Ti _ _ _ _ _ _ hu hi (by simp)
  · cases a with
    | none => exact absurd (h1.resolve_left h0) (by simp)
    | some A =>
      obtain ⟨b, e, hb⟩ := h2.resolve_left h0
      injection e with e
      subst e
      have hk := run_copy_cellsN (P := P) w dT sT ty Ti 1 g 0 L.length cap A L.length c (L.flatMap enc1) hu hi (by rw [fmI1]; simp) hb (fun j hj => some_ownN hO (by rw [fmI1] at hj; omega)) (fun j _ => hO.frozen (0 + j)) (fun v hv => by
        obtain ⟨x, -, hx⟩ := List.mem_flatMap.1 hv
        exact enc1_one v hx)
      rw [show Nat.min L.length L.length = L.length from Nat.min_self _] at hk
      exact hk
theorem copy_row {w : World} {B2 g n cap : Nat} {L Z : List Int} {Ti : TypeId} (hn : n = L.length) (hd : RowE Ti 1 enc1 w B2 (.slice (some ⟨g, 0, none⟩) n cap) Z) : RowE Ti 1 enc1 (w.setCells g 0 (L.flatMap enc1)) B2 (slV g n cap) L := by
  obtain ⟨hz, hB, hc, hm, cur, hO, hsz, -⟩ := row_ownN hd
  subst hn
  obtain ⟨cur', h1, h2⟩ := own_cellsN (L.flatMap enc1) 0 w cur hO
  refine row_cellsN enc1_len h1 (by rw [h2, hsz]) hm hc hB rfl fun j hj => ?_
  have hj2 : j < (L.flatMap enc1).length := by rw [fmI1]; omega
  have q := World.cell?_setCells_in g (L.flatMap enc1) 0 w (fun i hi => some_ownN hO (by rw [fmI1] at hi; omega)) j hj2
  rw [Nat.zero_add] at q
  rw [q, List.getElem?_eq_getElem hj2]
theorem copy_grown (w : World) (g : Nat) (L : List Value) : w.grownBy (w.setCells g 0 L) (some g) := grown_setCellsN (.inl rfl) L 0 w (grown_refl w (some g))
/-- The first i tables copied, the others as they were. -/
def parL (G C : Nat → Nat) (T : List (List Int)) (vs : List Value) (i : Nat) : List Value := (List.range T.length).map fun k => if k < i then slV (G k) (T.getD k []).length (C k) else vs.getD k nilV
theorem parL_len (G C : Nat → Nat) (T : List (List Int)) (vs : List Value) (i : Nat) : (parL G C T vs i).length = T.length := by simp [parL]
theorem parL_0 {G C : Nat → Nat} {T : List (List Int)} {vs : List Value} (h : vs.length = T.length) : parL G C T vs 0 = vs := by
  refine List.ext_getElem (by rw [parL_len, h]) fun k h1 h2 => ?_
  simp [parL, List.getD, h2]
theorem parL_all (G C : Nat → Nat) (T : List (List Int)) (vs : List Value) : parL G C T vs T.length = slL G C T := by
  unfold parL slL
  exact List.map_congr_left fun k hk => by rw [if_pos (List.mem_range.1 hk)]
theorem parL_s {G C : Nat → Nat} {T : List (List Int)} {vs : List Value} {i g c : Nat} (_ : i < T.length) : parL (fun k => if k = i then g else G k) (fun k => if k = i then c else C k) T vs (i + 1) = (parL G C T vs i).set i (slV g (T.getD i []).length c) := by
  refine List.ext_getElem (by rw [List.length_set, parL_len, parL_len]) fun k h1 h2 => ?_
  rw [List.getElem_set]
  by_cases e : i = k
  · subst e
    simp [parL]
  · rw [if_neg e]
    have e2 : ¬k = i := fun h => e h.symm
    have e3 : k < i + 1 ↔ k < i := by omega
    simp [parL, e2, e3]
theorem parL_at {G C : Nat → Nat} {T : List (List Int)} {vs : List Value} {i k : Nat} (hk : k < T.length) (hi : k < i) : (parL G C T vs i).getD k nilV = slV (G k) (T.getD k []).length (C k) := by
  have h2 : k < (parL G C T vs i).length := by rw [parL_len]; exact hk
  rw [getD_get h2]
  simp [parL, hi]
/-- Tables under copy: the slice v, the blocks of the first i rows. -/
structure TbP (Ts Ti : TypeId) (w : World) (B : Nat) (v : Value) (G C : Nat → Nat) (T : List (List Int)) (vs : List Value) (i : Nat) : Prop where
  row : RowE Ts 1 eV w B v (parL G C T vs i)
  inn : ∀ k, k < i → RowE Ti 1 enc1 w B (slV (G k) (T.getD k []).length (C k)) (T.getD k [])
  far : ∀ k, k < i → v.ownBlock ≠ some (G k)
  inj : ∀ k, k < i → ∀ j, j < i → G j = G k → j = k
section
variable {Ts Ti : TypeId} {w w' : World} {B : Nat} {v : Value} {G C : Nat → Nat} {T : List (List Int)} {vs : List Value} {i : Nat}
theorem TbP.start (h : RowE Ts 1 eV w B v vs) (hl : vs.length = T.length) : TbP Ts Ti w B v G C T vs 0 := ⟨by rw [parL_0 hl]; exact h, fun k hk => absurd hk (Nat.not_lt_zero k), fun k hk => absurd hk (Nat.not_lt_zero k), fun k hk => absurd hk (Nat.not_lt_zero k)⟩
theorem TbP.done (h : TbP Ts Ti w B v G C T vs T.length) : TbK Ts Ti w B v G C T := ⟨by have := h.row; rwa [parL_all] at this, h.inn, h.far, h.inj⟩
theorem TbP.keptG {r : Option Nat} (h : TbP Ts Ti w B v G C T vs i) (g : w.grownBy w' r) (h1 : ∀ x, r = some x → v.ownBlock ≠ some x) (h2 : ∀ x, r = some x → ∀ k, k < i → G k ≠ x) : TbP Ts Ti w' B v G C T vs i :=
  ⟨h.row.keptG g h1, fun k hk => (h.inn k hk).keptG g (fun x e ho => h2 x e k hk (by have : some (G k) = some x := ho; injection this)), h.far, h.inj⟩
theorem TbP.grew (h : TbP Ts Ti w B v G C T vs i) (g : Grew w w') : TbP Ts Ti w' B v G C T vs i := h.keptG g.grown (by simp) (by simp)
theorem TbP.above (h : TbP Ts Ti w B v G C T vs i) {k : Nat} (hk : k < i) : B ≤ G k ∧ G k < w.heap.size := ⟨(h.inn k hk).above _ rfl, (h.inn k hk).lt _ rfl⟩
/-- The element's cell. -/
theorem TbP.at_ {a : Option Addr} {n c : Nat} (h : TbP Ts Ti w B (.slice a n c) G C T vs i) {k : Nat} (hk : k < T.length) : ∃ g, a = some ⟨g, 0, none⟩ ∧ B ≤ g ∧ g < w.heap.size ∧ w.cell? ⟨g, k, none⟩ = some ((parL G C T vs i).getD k nilV) ∧ w.frozen? ⟨g, k, none⟩ = false := by
  have hk2 : k < (parL G C T vs i).length := by rw [parL_len]; exact hk
  rcases h.row.shape eV_len with ⟨e, e2⟩ | ⟨g, cap, e, hB, hg, -, -, hcell, hfr⟩
  · rw [e2] at hk2; exact absurd hk2 (by simp)
  · injection e with e1 e2 e3
    refine ⟨g, e1, hB, hg, ?_, hfr k⟩
    have := hcell k hk2 0 (by omega)
    rw [Nat.mul_one, Nat.add_zero] at this
    rw [this]
    simp [eV, List.getD, hk2]
/-- One more: a row g that was made is put into its place, and filled. -/
theorem TbP.next {gv n c g : Nat} {wz : World} (h : TbP Ts Ti w B (.slice (some ⟨gv, 0, none⟩) n c) G C T vs i) (hi : i < T.length) (hg : Grew w wz) (hgg : w.heap.size ≤ g) {m cap : Nat} (hm : m = (T.getD i []).length) {Z : List Int} (hz : RowE Ti 1 enc1 wz B (slV g m cap) Z) :
    TbP Ts Ti ((wz.setCell ⟨gv, i, none⟩ (slV g m cap)).setCells g 0 ((T.getD i []).flatMap enc1)) B (.slice (some ⟨gv, 0, none⟩) n c) (fun k => if k = i then g else G k) (fun k => if k = i then cap else C k) T vs (i + 1) := by
  subst hm
  have hlt : gv < w.heap.size := h.row.lt _ rfl
  have hne : gv ≠ g := by omega
  have h1 := h.grew hg
  obtain ⟨a2, c2, e2⟩ := h1.row.len
  rw [parL_len] at e2
  have r0 := h1.row
  rw [e2] at r0
  have el : (some ⟨gv, 0, none⟩ : Option Addr) = a2 ∧ n = T.length ∧ c = c2 := by injection e2 with q1 q2 q3; exact ⟨q1, q2, q3⟩
  obtain ⟨rfl, rfl, rfl⟩ := el
  have hpl : i < (parL G C T vs i).length := by rw [parL_len]; exact hi
  have hset : RowE Ts 1 eV (wz.setCell ⟨gv, i, none⟩ (slV g (T.getD i []).length cap)) B (.slice (some ⟨gv, 0, none⟩) T.length c) ((parL G C T vs i).set i (slV g (T.getD i []).length cap)) := by
    have e3 := parL_len G C T vs i
    rw [← e3] at r0 ⊢
    have q := RowE.stored r0 (i * 1 + 0) (slV g (T.getD i []).length cap) (L' := (parL G C T vs i).set i (slV g (T.getD i []).length cap)) (List.length_set ..) (fm_setZ eV_len _ i hpl 0 _ _ (by omega) (by rfl))
    simpa using q
  have g1 : wz.grownBy (wz.setCell ⟨gv, i, none⟩ (slV g (T.getD i []).length cap)) (some gv) := grown_set (p := ⟨gv, i, none⟩) (grown_refl wz (some gv)) (.inl rfl) _
  have g2 := copy_grown (wz.setCell ⟨gv, i, none⟩ (slV g (T.getD i []).length cap)) g ((T.getD i []).flatMap enc1)
  have hz1 : RowE Ti 1 enc1 (wz.setCell ⟨gv, i, none⟩ (slV g (T.getD i []).length cap)) B (slV g (T.getD i []).length cap) Z := hz.set (p := ⟨gv, i, none⟩) (fun e => by have e2 : some g = some gv := e; injection e2 with e2; exact hne e2.symm) _
  refine ⟨?_, fun k hk => ?_, fun k hk e => ?_, fun k hk j hj e => ?_⟩
  · rw [parL_s hi]
    exact hset.keptG g2 (fun x e e2 => by injection e with e; subst e; have e3 : some gv = some g := e2; injection e3 with e3; exact hne e3)
  · by_cases e : k = i
    · subst e
      simp only [if_pos]
      exact copy_row rfl hz1
    · simp only [if_neg e]
      have hk2 : k < i := by omega
      have ha := h.above hk2
      refine ((h1.inn k hk2).keptG g1 (fun x e1 e2 => ?_)).keptG g2 (fun x e1 e2 => ?_)
      · injection e1 with e1; subst e1
        exact h.far k hk2 (by have e3 : some (G k) = some gv := e2; exact e3.symm)
      · injection e1 with e1; subst e1
        have e3 : some (G k) = some g := e2
        injection e3 with e3
        omega
  · by_cases e2 : k = i
    · simp only [if_pos e2] at e
      have e3 : some gv = some g := e
      injection e3 with e3
      exact hne e3
    · simp only [if_neg e2] at e
      exact h.far k (by omega) e
  · by_cases e1 : k = i <;> by_cases e2 : j = i
    · omega
    · simp only [if_pos e1, if_neg e2] at e
      have := (h.above (k := j) (by omega)).2; omega
    · simp only [if_neg e1, if_pos e2] at e
      have := (h.above (k := k) (by omega)).2; omega
    · simp only [if_neg e1, if_neg e2] at e
      exact h.inj k (by omega) j (by omega) e
end
end Go.Mine

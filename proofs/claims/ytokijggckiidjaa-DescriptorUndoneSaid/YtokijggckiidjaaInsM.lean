/- slices.Insert of one struct: what the library's copies make of a row; words of my own, no program is named here. -/
import Derived.Shelf.Spec.SlicesInsertGrow
import Derived.Test.YtokijggckiidjaaRdS
namespace Go.Mine
open Go Go.RowKit

theorem own_cellsN {g : Nat} {T : TypeId} : ∀ (vs : List Value) (o : Nat) (w : World) (cs : Array Value), Own w g T cs → ∃ cs', Own (w.setCells g o vs) g T cs' ∧ cs'.size = cs.size
  | [], _, _, cs, h => ⟨cs, h, rfl⟩
  | v :: vs, o, w, cs, h => by
    obtain ⟨cs', h1, h2⟩ := own_cellsN vs (o + 1) _ _ (h.set o v)
    exact ⟨cs', h1, by rw [h2]; simp⟩
theorem grown_setCellsN {a : World} {g : Nat} {r : Option Nat} (hr : r = some g ∨ a.heap.size ≤ g) : ∀ (vs : List Value) (o : Nat) (w : World), a.grownBy w r → a.grownBy (w.setCells g o vs) r
  | [], _, _, h => h
  | v :: vs, o, w, h => grown_setCellsN hr vs (o + 1) (w.setCell ⟨g, o, none⟩ v) (grown_set h (p := ⟨g, o, none⟩) hr v)
theorem some_ownN {w : World} {g : Nat} {T : TypeId} {cur : Array Value} (hb : Own w g T cur) {j : Nat} (hj : j < cur.size) : (w.cell? ⟨g, j, none⟩).isSome = true := by rw [hb.cell j]; simp [hj]
theorem shape_ownN {w : World} {g : Nat} {T : TypeId} {cs : Array Value} (h : Own w g T cs) : w.shape? g = some (T, cs.size) := by
  have h' : w.heap[g]? = some (.cells cs T (0, 0)) := h
  simp [World.shape?, h']
/-- copy of elements of sz cells each. -/
theorem run_copy_cellsN {P : Program} (w : World) (dT sT ty elem : TypeId) (sz b o dLen dCap : Nat) (a : Addr) (sLen sCap : Nat) (cs : List Value)
    (hu : P.underlying dT = some (.slice elem)) (hs : (P.info? elem).map (·.size) = some sz) (hn : cs.length = Nat.min sLen dLen * sz)
    (hsrc : ∀ j v, cs[j]? = some v → w.cell? (a.add j) = some v) (hc : ∀ j, j < cs.length → (w.cell? ⟨b, o + j, none⟩).isSome = true) (hf : ∀ j, j < cs.length → w.frozen? ⟨b, o + j, none⟩ = false) (h1 : ∀ v ∈ cs, v.oneCell' = true) :
    (Builtin.copy_ #[dT, sT] ty #[.slice (some ⟨b, o, none⟩) dLen dCap, .slice (some a) sLen sCap]).run P w = .ok (goInt (Nat.min sLen dLen : Nat)) (w.setCells b o cs) := by
  have hl := run_loadCells_list (P := P) w a cs hsrc
  have hst := run_storeCells_cells (P := P) b o cs 0 w (by simpa using hc) (by simpa using hf) h1
  cases hq : P.info? elem with
  | none => simp [hq] at hs
  | some i =>
    have hi : i.size = sz := by simpa [hq] using hs
    simp [Builtin.copy_, run_underlying hu, Builtin.lenOf, Builtin.firstCells, sizeOf, typeInfo, hq, hi, ← hn, hl, hst]
section
variable {w : World} {g k : Nat} {T : TypeId} {cur : Array Value} {F X : List Value}
/-- What stands in the row when what was behind place k has moved on and X has come. -/
theorem insC (hb : Own w g T cur) (hk : k ≤ F.length) (hn : F.length + X.length ≤ cur.size) (hc : ∀ j, j < k → w.cell? ⟨g, j, none⟩ = F[j]?) :
    (∃ cur', Own ((w.setCells g (k + X.length) (F.drop k)).setCells g k X) g T cur' ∧ cur'.size = cur.size) ∧
    ∀ j, j < F.length + X.length → ((w.setCells g (k + X.length) (F.drop k)).setCells g k X).cell? ⟨g, j, none⟩ = (F.take k ++ (X ++ F.drop k))[j]? := by
  obtain ⟨c1, h1, s1⟩ := own_cellsN (F.drop k) (k + X.length) w cur hb
  obtain ⟨c2, h2, s2⟩ := own_cellsN X k _ c1 h1
  refine ⟨⟨c2, h2, by omega⟩, fun j hj => ?_⟩
  have ht : (F.take k).length = k := by rw [List.length_take]; omega
  have hd : (F.drop k).length = F.length - k := List.length_drop
  by_cases lt : j < k
  · rw [World.cell?_setCells_out g X k _ ⟨g, j, none⟩ (fun _ _ => .inl lt), World.cell?_setCells_out g _ (k + X.length) _ ⟨g, j, none⟩ (fun _ _ => .inl (by show j < k + X.length; omega)), hc j lt, List.getElem?_append_left (by omega), List.getElem?_take_of_lt lt]
  · obtain ⟨m, rfl⟩ : ∃ m, j = k + m := ⟨j - k, by omega⟩
    rw [List.getElem?_append_right (by omega), ht, Nat.add_sub_cancel_left]
    by_cases lx : m < X.length
    · have q := World.cell?_setCells_in g X k (w.setCells g (k + X.length) (F.drop k)) (fun i hi => some_ownN h1 (by omega)) m lx
      rw [q, List.getElem?_append_left lx, List.getElem?_eq_getElem lx]
    · rw [World.cell?_setCells_out g X k _ ⟨g, k + m, none⟩ (fun _ _ => .inr (by show k + X.length ≤ k + m; omega))]
      obtain ⟨q, rfl⟩ : ∃ q, m = X.length + q := ⟨m - X.length, by omega⟩
      have hq : q < (F.drop k).length := by omega
      have e := World.cell?_setCells_in g (F.drop k) (k + X.length) w (fun i hi => some_ownN hb (by omega)) q hq
      rw [show k + (X.length + q) = k + X.length + q by omega, e, List.getElem?_append_right (by omega), Nat.add_sub_cancel_left, List.getElem?_eq_getElem hq]
/-- The same where X has come first. -/
theorem insD (hb : Own w g T cur) (hk : k ≤ F.length) (hn : F.length + X.length ≤ cur.size) (hc : ∀ j, j < k → w.cell? ⟨g, j, none⟩ = F[j]?) :
    (∃ cur', Own ((w.setCells g k X).drew.setCells g (k + X.length) (F.drop k)) g T cur' ∧ cur'.size = cur.size) ∧
    ∀ j, j < F.length + X.length → ((w.setCells g k X).drew.setCells g (k + X.length) (F.drop k)).cell? ⟨g, j, none⟩ = (F.take k ++ (X ++ F.drop k))[j]? := by
  obtain ⟨c1, h1, s1⟩ := own_cellsN X k w cur hb
  obtain ⟨c2, h2, s2⟩ := own_cellsN (F.drop k) (k + X.length) _ c1 h1.drew
  refine ⟨⟨c2, h2, by omega⟩, fun j hj => ?_⟩
  have ht : (F.take k).length = k := by rw [List.length_take]; omega
  have hd : (F.drop k).length = F.length - k := List.length_drop
  by_cases lt : j < k + X.length
  · rw [World.cell?_setCells_out g _ (k + X.length) _ ⟨g, j, none⟩ (fun _ _ => .inl lt)]
    show (w.setCells g k X).cell? ⟨g, j, none⟩ = _
    by_cases l2 : j < k
    · rw [World.cell?_setCells_out g X k _ ⟨g, j, none⟩ (fun _ _ => .inl l2), hc j l2, List.getElem?_append_left (by omega), List.getElem?_take_of_lt l2]
    · obtain ⟨m, rfl⟩ : ∃ m, j = k + m := ⟨j - k, by omega⟩
      have lx : m < X.length := by omega
      have q := World.cell?_setCells_in g X k w (fun i hi => some_ownN hb (by omega)) m lx
      rw [q, List.getElem?_append_right (by omega), ht, Nat.add_sub_cancel_left, List.getElem?_append_left lx, List.getElem?_eq_getElem lx]
  · obtain ⟨q, rfl⟩ : ∃ q, j = k + X.length + q := ⟨j - k - X.length, by omega⟩
    have hq : q < (F.drop k).length := by omega
    have e := World.cell?_setCells_in g (F.drop k) (k + X.length) (w.setCells g k X).drew (fun i hi => some_ownN h1.drew (by omega)) q hq
    rw [e, List.getElem?_append_right (by omega), ht, List.getElem?_append_right (by omega), show k + X.length + q - k - X.length = q by omega, List.getElem?_eq_getElem hq]
end
section
variable {α : Type} {T : TypeId} {sz : Nat} {enc : α → List Value}
/-- A row out of its cells. -/
theorem row_cellsN {w : World} {g cap n B : Nat} {cur : Array Value} {L : List α} (he : ∀ a, (enc a).length = sz) (hb : Own w g T cur) (hs : cur.size = cap * sz) (hm : cap ≤ maxLen) (hn : n ≤ cap) (hB : B ≤ g) (hl : L.length = n)
    (hc : ∀ j, j < n * sz → w.cell? ⟨g, j, none⟩ = (L.flatMap enc)[j]?) : RowE T sz enc w B (.slice (some ⟨g, 0, none⟩) n cap) L := by
  have hsz : n * sz ≤ cap * sz := Nat.mul_le_mul_right sz hn
  refine ⟨fm_len he _, .inr ⟨g, cap, cur, by rw [hl], hB, hb, by omega, hm, hs, ?_⟩⟩
  apply List.ext_getElem?
  intro j
  rw [hl]
  by_cases hj : j < n * sz
  · have h1 := (hb.cell j).symm.trans (hc j hj)
    rw [List.getElem?_take_of_lt hj, Array.getElem?_toList, h1]
  · rw [List.getElem?_eq_none (by rw [List.length_take]; omega), List.getElem?_eq_none (by rw [fm_len he, hl]; omega)]
theorem row_ownN {w : World} {B g n c : Nat} {L : List α} (h : RowE T sz enc w B (.slice (some ⟨g, 0, none⟩) n c) L) : n = L.length ∧ B ≤ g ∧ n ≤ c ∧ c ≤ maxLen ∧ ∃ cur, Own w g T cur ∧ cur.size = c * sz ∧ ∀ j, j < n * sz → w.cell? ⟨g, j, none⟩ = (L.flatMap enc)[j]? := by
  obtain ⟨h1, h2 | ⟨g0, cap, cur, e, hB, hg, hc, hm, hs, ht⟩⟩ := h
  · exact absurd h2.1 (by simp)
  · injection e with e1 e2 e3
    injection e1 with e1
    injection e1 with e1
    subst e1 e2 e3
    refine ⟨rfl, hB, hc, hm, cur, hg, hs, fun j hj => ?_⟩
    have hO : Own w g T cur := hg
    rw [hO.cell j, ← ht, List.getElem?_take_of_lt hj, Array.getElem?_toList]
theorem fm_ins (he : ∀ a, (enc a).length = sz) (L : List α) (x : α) {i : Nat} (hi : i ≤ L.length) : (L.take i ++ x :: L.drop i).flatMap enc = (L.flatMap enc).take (i * sz) ++ (enc x ++ (L.flatMap enc).drop (i * sz)) := by
  have e : L.flatMap enc = (L.take i).flatMap enc ++ (L.drop i).flatMap enc := by rw [← List.flatMap_append, List.take_append_drop]
  have hl : ((L.take i).flatMap enc).length = i * sz := by rw [fm_len he, List.length_take, Nat.min_eq_left hi]
  rw [List.flatMap_append, List.flatMap_cons, e, List.take_left' hl, List.drop_left' hl]
end
end Go.Mine

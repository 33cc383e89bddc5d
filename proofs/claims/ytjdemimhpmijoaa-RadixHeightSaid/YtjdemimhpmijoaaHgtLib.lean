/- RadixHeight: a map from int to bool that is ranged over, and what the least height is. -/
import Derived.Test.YtjdemimhpmijoaaRx15
import Derived.Test.YtjdemimhpmijoaaTape
import Derived.Maps.OwnSet
import Derived.Maps.OwnOps
import Derived.Maps.Views
import Derived.Maps.Range
namespace Go.Proofs.Ytjdemimhpmijoaa
open Go.RowKit Go.Mine Go.Maps

theorem plainBool {v : Value} {z : DataW Unit × List MemPlace} (h : plainElem Try.prog 4 v = some z) : ∃ y, v = .bool y ∧ z = (.lit (.bool y), []) := by
  have he := Try.underlying4
  unfold plainElem at h
  split at h
  · cases h; exact ⟨_, rfl, rfl⟩
  · rename_i hu
    rw [he] at hu
    cases hu
  · rename_i hu
    rw [he] at hu
    cases hu
  · cases h
theorem keyInt {v : Value} {l : Lit} (h : keyOf Try.prog 3 v = some l) : ∃ x, v = .int .i64 x ∧ l = .int .i64 x ∧ (Lit.int .i64 x).wf = true := by
  have hk := Try.underlying3
  have h2 : mapKey Try.prog 3 v = some l := by simpa [keyOf, hk] using h
  cases v <;> simp [mapKey, hk] at h2
  obtain ⟨⟨rfl, h3⟩, rfl⟩ := h2
  exact ⟨_, rfl, rfl, h3⟩
/-- Block b is a map in which g is written. -/
def BMap (w : World) (b n : Nat) (g : Int → Bool) : Prop :=
  ∃ D : DataW Unit, w.ownsMap Try.prog 3 (plainElem Try.prog 4) b n D ∧ ∀ x, (Lit.int .i64 x).wf = true → D.atKey (.int .i64 x) (.lit (.bool false)) = .lit (.bool (g x))
section
variable {w w' : World} {b r n : Nat} {g : Int → Bool}
theorem BMap.made (w : World) : BMap (w.alloc (.map #[] 0)) w.heap.size 0 (fun _ => false) := ⟨_, World.ownsMap_made w Try.prog _ _, fun _ _ => rfl⟩
theorem BMap.lt (h : BMap w b n g) : b < w.heap.size := h.elim fun _ h => h.1.lt
theorem BMap.kept {r : Option Nat} (h : BMap w b n g) (k : w.grownBy w' r) (hr : r ≠ some b) : BMap w' b n g := by
  obtain ⟨D, h1, h2⟩ := h
  exact ⟨D, h1.kept k (Ne.symm hr), h2⟩
theorem BMap.grew (h : BMap w b n g) (k : Grew w w') : BMap w' b n g := h.kept k.grown (by simp)
theorem BMap.alloc (h : BMap w b n g) (o : Obj) : BMap (w.alloc o) b n g := h.kept (World.grownBy_alloc w o none) (by simp)
theorem BMap.store (h : BMap w b n g) (hn : n < maxLen) {x : Int} (hx : (Lit.int .i64 x).wf = true) (v : Bool) :
    ∃ w', (Instr.mapUpdate 58 (.map (some b)) (.int .i64 x) (.bool v)).run Try.prog w = .ok () w' ∧ BMap w' b (n + 1) (fun y => if y = x then v else g y) ∧ w.grownBy w' (some b) := by
  obtain ⟨D, h1, h3⟩ := h
  have hk := Try.underlying3
  have hkey := keyOf_int_mk hk hx
  have isk := (int_keyed hk).key hkey
  have ty := h1.tidy (int_keyed hk)
  obtain ⟨w', hr, ho, hg⟩ := h1.update (int_keyed hk) Try.underlying58 hn hkey (plainElem_bool Try.underlying4 v)
  refine ⟨w', hr, ⟨_, ho, fun y hy => ?_⟩, hg⟩
  by_cases e : y = x
  · subst e
    rw [atKey_put_same ty.isMap isk]
    dsimp only
    rw [if_pos rfl]
  · have ne : (Lit.int .i64 y) ≠ Lit.int .i64 x := fun h => e (by injection h)
    rw [atKey_put_other ne, h3 y hy]
    dsimp only
    rw [if_neg e]
/-- The iterator r is on its way over the map b; t is no less than the keys with true that it has given out. -/
def RgIs (w : World) (b r n : Nat) (g : Int → Bool) (t : Int) : Prop :=
  ∃ (D : DataW Unit) (left : Lit → Bool) (cnt : Nat), w.ranges Try.prog 3 (plainElem Try.prog 4) b r n D left cnt ∧ (∀ x, (Lit.int .i64 x).wf = true → D.atKey (.int .i64 x) (.lit (.bool false)) = .lit (.bool (g x))) ∧
    ∀ x, (Lit.int .i64 x).wf = true → left (.int .i64 x) = false → g x = true → x ≤ t
theorem BMap.range (h : BMap w b n g) (t : Int) : ∃ w', (Instr.range 58 (.map (some b))).run Try.prog w = .ok (.pointer (some ⟨w.heap.size, 0, none⟩)) w' ∧ RgIs w' b w.heap.size n g t ∧ Grew w w' ∧ w'.heap.size = w.heap.size + 1 := by
  obtain ⟨D, h1, h3⟩ := h
  obtain ⟨w', e1, e2, e3, e4⟩ := h1.range (int_keyed Try.underlying3) Try.underlying58
  refine ⟨w', e1, ⟨D, _, _, e2, h3, fun x hx hl hg => ?_⟩, below_of_grown e3, e4⟩
  have h4 := h3 x hx
  rw [atKey_of_not_has hl] at h4
  injection h4 with h4
  injection h4 with h4
  rw [hg] at h4
  cases h4
theorem RgIs.next {t : Int} (h : RgIs w b r n g t) (ty : TypeId) :
    ((∀ x, (Lit.int .i64 x).wf = true → g x = true → x ≤ t) ∧ BMap w b n g ∧ (Instr.next (.pointer (some ⟨r, 0, none⟩)) false ty).run Try.prog w = .ok (.tuple #[.bool false]) w) ∨
    ∃ x w', (Lit.int .i64 x).wf = true ∧ (Instr.next (.pointer (some ⟨r, 0, none⟩)) false ty).run Try.prog w = .ok (.tuple #[.bool true, .int .i64 x, .bool (g x)]) w' ∧ (∀ t', t ≤ t' → (g x = true → x ≤ t') → RgIs w' b r n g t') ∧ w.grownBy w' (some r) ∧
      (Instr.entry (.pointer (some ⟨r, 0, none⟩))).run Try.prog w' = .ok (.tuple #[.int .i64 x, .bool (g x)]) w' ∧ w'.rangeLeft b r < w.rangeLeft b r ∧ w'.heap.size = w.heap.size := by
  obtain ⟨D, left, cnt, h1, h2, h3⟩ := h
  rcases h1.next (int_keyed Try.underlying3) ty with ⟨-, hl, hrun⟩ | ⟨key, v, kl, y, w', cnt', hk, hlk, hv, hat, hrun, hrg, hc, hg, hsz, hen⟩
  · exact .inl ⟨fun x hx hg => h3 x hx (hl _) hg, ⟨D, h1.owns, h2⟩, hrun⟩
  · obtain ⟨x, rfl, rfl, hx⟩ := keyInt hk
    obtain ⟨vb, rfl, rfl⟩ := plainBool hv
    have e := (h2 x hx).symm.trans (hat _)
    injection e with e
    injection e with e
    subst e
    refine .inr ⟨x, w', hx, hrun, fun t' ht hgx => ⟨D, _, _, hrg, h2, fun z hz hl hgz => ?_⟩, hg, hen, by rw [hrg.left_eq, h1.left_eq]; exact hc, hsz⟩
    by_cases hlz : left (.int .i64 z) = false
    · exact Int.le_trans (h3 z hz hlz hgz) ht
    · have hs : (Lit.int .i64 z).sameKey (Lit.int .i64 x) = true := by
        cases hs : (Lit.int .i64 z).sameKey (Lit.int .i64 x)
        · rw [hs] at hl
          simp at hl
          exact absurd hl hlz
        · rfl
      have := WideAt.sameKey_eq hs
      injection this with _ this
      subst this
      exact hgx hgz
end
theorem grown4 {w w' : World} {K : Nat} {s x m y : Value} (hw : (((w.setCell ⟨K, 0, none⟩ s).setCell ⟨K, 1, none⟩ x).setCell ⟨K, 2, none⟩ m).setCell ⟨K, 3, none⟩ y = w') : w.grownBy w' (some K) := by
  rw [← hw]
  have h1 := grown_set (grown_refl w (some K)) (p := ⟨K, 0, none⟩) (.inl rfl) s
  have h2 := grown_set h1 (p := ⟨K, 1, none⟩) (.inl rfl) x
  have h3 := grown_set h2 (p := ⟨K, 2, none⟩) (.inl rfl) m
  exact grown_set h3 (p := ⟨K, 3, none⟩) (.inl rfl) y
/-- The numbers that the law draws. -/
abbrev pick9 : Array Value := #[.int .i64 0, .int .i64 1, .int .i64 3, .int .i64 4, .int .i64 15, .int .i64 16, .int .i64 63, .int .i64 64, .int .i64 255]
theorem pick_at (q : Nat) (h : q < 9) : ∃ i : Nat, i < 256 ∧ pick9[q]? = some (.int .i64 (i : Nat)) := by
  have hc : q = 0 ∨ q = 1 ∨ q = 2 ∨ q = 3 ∨ q = 4 ∨ q = 5 ∨ q = 6 ∨ q = 7 ∨ q = 8 := by omega
  rcases hc with rfl | rfl | rfl | rfl | rfl | rfl | rfl | rfl | rfl
  · exact ⟨0, by omega, rfl⟩
  · exact ⟨1, by omega, rfl⟩
  · exact ⟨3, by omega, rfl⟩
  · exact ⟨4, by omega, rfl⟩
  · exact ⟨15, by omega, rfl⟩
  · exact ⟨16, by omega, rfl⟩
  · exact ⟨63, by omega, rfl⟩
  · exact ⟨64, by omega, rfl⟩
  · exact ⟨255, by omega, rfl⟩
/-- g tells which entries f has. -/
def Same (f : Fen) (g : Int → Bool) : Prop := (∀ x, g x = true → 0 ≤ x ∧ x < 256) ∧ ∀ j : Nat, f j ≠ (0, 0) ↔ g (j : Int) = true
theorem Same.start : Same f0 (fun _ => false) := ⟨fun _ h => by simp at h, fun j => by simp [f0]⟩
theorem Same.next {f : Fen} {g : Int → Bool} (h : Same f g) {i : Nat} (hi : i < 256) (v : Int) : Same (updG f i (v, 0)) (fun y => if y = (i : Int) then !(v == 0) else g y) := by
  refine ⟨fun x hx => ?_, fun j => ?_⟩
  · by_cases e : x = (i : Int)
    · omega
    · dsimp only at hx
      rw [if_neg e] at hx
      exact h.1 x hx
  · unfold updG
    by_cases e : j = i
    · subst e
      simp
    · dsimp only
      rw [if_neg e, if_neg (by omega)]
      exact h.2 j
theorem BMap.store2 {w : World} {b n : Nat} {g : Int → Bool} (h : BMap w b n g) (hn : n < maxLen) {i : Nat} (hi : i < 256) {f : Fen} (hs : Same f g) (v : Int) :
    ∃ w' g', (Instr.mapUpdate 58 (.map (some b)) (.int .i64 (i : Int)) (.bool (v != 0))).run Try.prog w = .ok () w' ∧ BMap w' b (n + 1) g' ∧ Same (updG f i (v, 0)) g' ∧ w.grownBy w' (some b) := by
  obtain ⟨w', h1, h2, h3⟩ := h.store hn (x := (i : Int)) (WalkArith.wf_i64 (by omega)) (v != 0)
  exact ⟨w', _, h1, h2, hs.next hi v, h3⟩
/-- The height of a valid tree: the least one above its greatest entry. -/
theorem height_of {w : World} {p : Nat → Prop} {k : Nat} {f : Fen} {s : Value} {x m : Int} {g : Int → Bool} {t : Int} (n : TreeF w p k f s x m) (hs : Same f g) (h0 : 0 ≤ t) (h1 : t = 0 ∨ g t = true) (h2 : ∀ x, g x = true → x ≤ t) :
    t < (p4 k : Nat) ∧ ∀ q, q < k → (p4 q : Nat) ≤ t := by
  refine ⟨?_, fun q hq => ?_⟩
  · rcases h1 with rfl | h1
    · have := p4_pos k; omega
    · obtain ⟨j, rfl⟩ := Int.eq_ofNat_of_zero_le h0
      have h3 := (hs.2 j).2 h1
      by_cases hj : p4 k ≤ j
      · exact absurd (n.out j hj) h3
      · omega
  · have hk := n.le
    have hv := n.valid
    obtain ⟨k', rfl⟩ : ∃ k', k = k' + 1 := ⟨k - 1, by omega⟩
    have ho : onlyB k' f = false := by
      cases hb : onlyB k' f
      · rfl
      · have : validB (k' + 1) f = !onlyB k' f := rfl
        rw [this, hb] at hv
        cases hv
    have hne : ¬ ∀ j, p4 k' ≤ j → j < p4 (k' + 1) → f j = (0, 0) := fun e => by
      rw [(onlyB_iff k' f).2 e] at ho
      cases ho
    have hex : ∃ j, p4 k' ≤ j ∧ f j ≠ (0, 0) := by
      refine Classical.byContradiction fun e => hne fun j hj _ => ?_
      exact Classical.byContradiction fun e2 => e ⟨j, hj, e2⟩
    obtain ⟨j, hj, hf⟩ := hex
    have h4 := h2 _ ((hs.2 j).1 hf)
    have h5 : p4 q ≤ p4 k' := p4_mono (by omega)
    omega
end Go.Proofs.Ytjdemimhpmijoaa

/- Sets of integers that a call keeps as maps from int to bool in which only true is stored: words of my own, no program is named here. -/
import Derived.Test.YtmdechoajmbhoaaBase
import Derived.Maps.OwnSet
import Derived.Maps.OwnOps
import Derived.Maps.Views
namespace Go.Mine
open Go Go.RowKit Go.Maps

/-- Block b is such a map: f tells what is in it, sz how many there are; n bounds its entries. -/
def BSet (P : Program) (K E : TypeId) (w : World) (b n : Nat) (f : Int → Bool) (sz : Nat) : Prop :=
  ∃ D : DataW Unit, w.ownsMap P K (plainElem P E) b n D ∧ Maps.size D = sz ∧ ∀ x, (Lit.int .i64 x).wf = true → D.atKey (.int .i64 x) (.lit (.bool false)) = .lit (.bool (f x)) ∧ Maps.has D (.int .i64 x) = f x
theorem plainElem_bool_inv {P : Program} {e : TypeId} (he : P.underlying e = some .bool) {v : Value} {z : DataW Unit × List MemPlace} (h : plainElem P e v = some z) : ∃ y, v = .bool y ∧ z = (.lit (.bool y), []) := by
  unfold plainElem at h
  split at h
  · cases h; exact ⟨_, rfl, rfl⟩
  · rename_i hu
    rw [he] at hu
    cases hu
  · rename_i hu
    rw [he] at hu
    cases hu
  · cases h
section
variable {P : Program} {K E T : TypeId} {w w' : World} {b n : Nat} {f : Int → Bool} {sz : Nat}
theorem BSet.made (w : World) (P : Program) (K E : TypeId) : BSet P K E (w.alloc (.map #[] 0)) w.heap.size 0 (fun _ => false) 0 :=
  ⟨_, World.ownsMap_made w P K _, rfl, fun _ _ => ⟨rfl, rfl⟩⟩
theorem BSet.lt (h : BSet P K E w b n f sz) : b < w.heap.size := h.elim fun _ h => h.1.lt
theorem BSet.kept {r : Option Nat} (h : BSet P K E w b n f sz) (g : w.grownBy w' r) (hr : r ≠ some b) : BSet P K E w' b n f sz := by
  obtain ⟨D, h1, h2⟩ := h
  exact ⟨D, h1.kept g (Ne.symm hr), h2⟩
theorem BSet.grew (h : BSet P K E w b n f sz) (g : Grew w w') : BSet P K E w' b n f sz := h.kept g.grown (by simp)
theorem BSet.below {C : Nat} (h : BSet P K E w b n f sz) (g : Below C w w') (hb : b < C) : BSet P K E w' b n f sz := by
  obtain ⟨D, ⟨es, clock, h0, h1⟩, h2⟩ := h
  exact ⟨D, ⟨es, clock, (Below.block g b hb).trans h0, h1⟩, h2⟩
theorem BSet.alloc (h : BSet P K E w b n f sz) (o : Obj) : BSet P K E (w.alloc o) b n f sz := h.kept (World.grownBy_alloc w o none) (by simp)
theorem BSet.drewN (h : BSet P K E w b n f sz) (k : Nat) : BSet P K E (w.drewN k) b n f sz := h
theorem BSet.congr {g : Int → Bool} {sz' : Nat} (h : BSet P K E w b n f sz) (e : ∀ x, (Lit.int .i64 x).wf = true → f x = g x) (hs : sz = sz') : BSet P K E w b n g sz' := by
  obtain ⟨D, h1, h2, h3⟩ := h
  exact ⟨D, h1, h2.trans hs, fun x hx => by rw [← e x hx]; exact h3 x hx⟩
theorem BSet.mono {m : Nat} (h : BSet P K E w b n f sz) (hm : n ≤ m) : BSet P K E w b m f sz := by
  obtain ⟨D, h1, h2⟩ := h
  exact ⟨D, h1.mono hm, h2⟩
theorem BSet.look (h : BSet P K E w b n f sz) (hk : P.underlying K = some (.int .i64)) (he : P.underlying E = some .bool) (ht : P.underlying T = some (.map K E)) (hz : (zeroValue E).run P w = .ok (.bool false) w) {x : Int} (hx : (Lit.int .i64 x).wf = true) :
    (Instr.lookup T (.map (some b)) (.int .i64 x) false).run P w = .ok (.bool (f x)) w := by
  obtain ⟨D, h1, -, h3⟩ := h
  obtain ⟨v, ps, hr, hv⟩ := h1.lookup (int_keyed hk) ht hz (plainElem_bool he false) (keyOf_int_mk hk hx)
  rw [(h3 x hx).1] at hv
  obtain ⟨y, rfl, e⟩ := plainElem_bool_inv he hv
  simp at e
  rw [hr, e.1]
theorem BSet.store (h : BSet P K E w b n f sz) (hk : P.underlying K = some (.int .i64)) (he : P.underlying E = some .bool) (ht : P.underlying T = some (.map K E)) (hn : n < maxLen) {x : Int} (hx : (Lit.int .i64 x).wf = true) :
    ∃ w', (Instr.mapUpdate T (.map (some b)) (.int .i64 x) (.bool true)).run P w = .ok () w' ∧ BSet P K E w' b (n + 1) (fun y => f y || decide (y = x)) (if f x then sz else sz + 1) ∧ w.grownBy w' (some b) := by
  obtain ⟨D, h1, h2, h3⟩ := h
  have hkey := keyOf_int_mk hk hx
  have isk := (int_keyed hk).key hkey
  have ty := h1.tidy (int_keyed hk)
  obtain ⟨w', hr, ho, hg⟩ := h1.update (int_keyed hk) ht hn hkey (plainElem_bool he true)
  refine ⟨w', hr, ⟨_, ho, ?_, fun y hy => ?_⟩, hg⟩
  · rw [size_put ty, (h3 x hx).2, h2]
  · by_cases e : y = x
    · subst e
      rw [atKey_put_same ty.isMap isk, has_put_same ty.isMap isk]
      simp
    · have ne : (Lit.int .i64 y) ≠ Lit.int .i64 x := fun h => e (by injection h)
      rw [atKey_put_other ne, has_put_other ne]
      simp [e, h3 y hy]
theorem BSet.len (h : BSet P K E w b n f sz) (ht : P.underlying T = some (.map K E)) (ty : TypeId) : (Builtin.len_ #[T] ty #[.map (some b)]).run P w = .ok (.int .i64 sz) w := by
  obtain ⟨D, h1, h2, -⟩ := h
  rw [h1.len ht ty, h2]
end
end Go.Mine

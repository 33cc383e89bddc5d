/- Maps from int to int that a call keeps: words of my own, no program is named here. -/
import Derived.Test.YtmdechoajmbhoaaBase
import Derived.Maps.OwnSet
import Derived.Maps.OwnOps
import Derived.Maps.Views
import Derived.Maps.Range
namespace Go.Mine
open Go Go.RowKit Go.Maps

/-- What a datum says of the integers. -/
def SaysI (D : DataW Unit) (g : Int → Option Int) : Prop := ∀ x, (Lit.int .i64 x).wf = true → Maps.has D (.int .i64 x) = (g x).isSome ∧ D.atKey (.int .i64 x) (.lit (.int .i64 0)) = .lit (.int .i64 ((g x).getD 0))
/-- Block b is such a map: g tells what is in it; n bounds its entries. -/
def IMap (P : Program) (K E : TypeId) (w : World) (b n : Nat) (g : Int → Option Int) : Prop := ∃ D : DataW Unit, w.ownsMap P K (plainElem P E) b n D ∧ SaysI D g
/-- r is on its way over it. -/
def RgI (P : Program) (K E : TypeId) (w : World) (b r n : Nat) (g : Int → Option Int) : Prop := ∃ (D : DataW Unit) (left : Lit → Bool) (cnt : Nat), w.ranges P K (plainElem P E) b r n D left cnt ∧ SaysI D g
section
variable {P : Program} {K E T : TypeId} {w w' : World} {b r n : Nat} {g : Int → Option Int}
theorem IMap.made (w : World) (P : Program) (K E : TypeId) : IMap P K E (w.alloc (.map #[] 0)) w.heap.size 0 (fun _ => none) := ⟨_, World.ownsMap_made w P K _, fun _ _ => ⟨rfl, rfl⟩⟩
theorem IMap.lt (h : IMap P K E w b n g) : b < w.heap.size := h.elim fun _ h => h.1.lt
theorem IMap.kept {r : Option Nat} (h : IMap P K E w b n g) (k : w.grownBy w' r) (hr : r ≠ some b) : IMap P K E w' b n g := by
  obtain ⟨D, h1, h2⟩ := h
  exact ⟨D, h1.kept k (Ne.symm hr), h2⟩
theorem IMap.grew (h : IMap P K E w b n g) (k : Grew w w') : IMap P K E w' b n g := h.kept k.grown (by simp)
theorem IMap.alloc (h : IMap P K E w b n g) (o : Obj) : IMap P K E (w.alloc o) b n g := h.kept (World.grownBy_alloc w o none) (by simp)
theorem IMap.drewN (h : IMap P K E w b n g) (k : Nat) : IMap P K E (w.drewN k) b n g := h
theorem IMap.drew (h : IMap P K E w b n g) : IMap P K E w.drew b n g := h
theorem IMap.congr {g' : Int → Option Int} (h : IMap P K E w b n g) (e : ∀ x, g x = g' x) : IMap P K E w b n g' := by
  obtain ⟨D, h1, h2⟩ := h
  exact ⟨D, h1, fun x hx => by rw [← e x]; exact h2 x hx⟩
theorem IMap.mono {m : Nat} (h : IMap P K E w b n g) (hm : n ≤ m) : IMap P K E w b m g := by
  obtain ⟨D, h1, h2⟩ := h
  exact ⟨D, h1.mono hm, h2⟩
theorem IMap.look (h : IMap P K E w b n g) (hk : P.underlying K = some (.int .i64)) (he : P.underlying E = some (.int .i64)) (ht : P.underlying T = some (.map K E)) (hz : (zeroValue E).run P w = .ok (.int .i64 0) w) {x : Int} (hx : (Lit.int .i64 x).wf = true) :
    (Instr.lookup T (.map (some b)) (.int .i64 x) false).run P w = .ok (.int .i64 ((g x).getD 0)) w := by
  obtain ⟨D, h1, h3⟩ := h
  obtain ⟨c, hr, hv, -⟩ := h1.lookup_int (int_keyed hk) ht he hz (keyOf_int_mk hk hx)
  have := (h3 x hx).2
  rw [hv] at this
  injection this with this
  injection this with _ this
  rw [hr, this]
theorem IMap.look_ok (h : IMap P K E w b n g) (hk : P.underlying K = some (.int .i64)) (he : P.underlying E = some (.int .i64)) (ht : P.underlying T = some (.map K E)) (hz : (zeroValue E).run P w = .ok (.int .i64 0) w) {x : Int} (hx : (Lit.int .i64 x).wf = true) :
    (Instr.lookup T (.map (some b)) (.int .i64 x) true).run P w = .ok (.tuple #[.int .i64 ((g x).getD 0), .bool (g x).isSome]) w := by
  obtain ⟨D, h1, h3⟩ := h
  obtain ⟨v, ps, hr, hv⟩ := h1.look_ok (int_keyed hk) ht hz (plainElem_int he (by decide)) (keyOf_int_mk hk hx)
  obtain ⟨e1, e2⟩ := h3 x hx
  rw [e2] at hv
  obtain ⟨a, rfl, e, -⟩ := plainElem_int_inv he hv
  injection e with e _
  injection e with e
  injection e with _ e
  rw [hr, e1, e]
theorem IMap.store (h : IMap P K E w b n g) (hk : P.underlying K = some (.int .i64)) (he : P.underlying E = some (.int .i64)) (ht : P.underlying T = some (.map K E)) (hn : n < maxLen) {x s : Int} (hx : (Lit.int .i64 x).wf = true) (hs : (Lit.int .i64 s).wf = true) :
    ∃ w', (Instr.mapUpdate T (.map (some b)) (.int .i64 x) (.int .i64 s)).run P w = .ok () w' ∧ IMap P K E w' b (n + 1) (fun y => if y = x then some s else g y) ∧ w.grownBy w' (some b) := by
  obtain ⟨D, h1, h3⟩ := h
  have hkey := keyOf_int_mk hk hx
  have isk := (int_keyed hk).key hkey
  have ty := h1.tidy (int_keyed hk)
  obtain ⟨w', hr, ho, hg⟩ := h1.update (int_keyed hk) ht hn hkey (plainElem_int he hs)
  refine ⟨w', hr, ⟨_, ho, fun y hy => ?_⟩, hg⟩
  by_cases e : y = x
  · subst e
    dsimp only
    rw [atKey_put_same ty.isMap isk, has_put_same ty.isMap isk, if_pos rfl]
    exact ⟨rfl, rfl⟩
  · have ne : (Lit.int .i64 y) ≠ Lit.int .i64 x := fun h => e (by injection h)
    dsimp only
    rw [atKey_put_other ne, has_put_other ne, if_neg e]
    exact h3 y hy
theorem IMap.del (h : IMap P K E w b n g) (hk : P.underlying K = some (.int .i64)) (ht : P.underlying T = some (.map K E)) {x : Int} (hx : (Lit.int .i64 x).wf = true) :
    ∃ w', (∀ ty, (Builtin.delete_ #[T, K] ty #[.map (some b), .int .i64 x]).run P w = .ok (.tuple #[]) w') ∧ IMap P K E w' b n (fun y => if y = x then none else g y) ∧ w.grownBy w' (some b) := by
  obtain ⟨D, h1, h3⟩ := h
  have hkey := keyOf_int_mk hk hx
  obtain ⟨w', hr, ho, hg⟩ := h1.drop (int_keyed hk) ht hkey 0
  refine ⟨w', fun ty => ?_, ⟨_, ho, fun y hy => ?_⟩, hg.grown⟩
  · exact hr
  · by_cases e : y = x
    · subst e
      dsimp only
      rw [atKey_del_same, has_del_same, if_pos rfl]
      exact ⟨rfl, rfl⟩
    · have ne : (Lit.int .i64 y) ≠ Lit.int .i64 x := fun h => e (by injection h)
      dsimp only
      rw [atKey_del_other ne, has_del_other ne, if_neg e]
      exact h3 y hy
theorem IMap.range (h : IMap P K E w b n g) (hk : P.underlying K = some (.int .i64)) (ht : P.underlying T = some (.map K E)) :
    ∃ w', (Instr.range T (.map (some b))).run P w = .ok (.pointer (some ⟨w.heap.size, 0, none⟩)) w' ∧ RgI P K E w' b w.heap.size n g ∧ Grew w w' ∧ w'.heap.size = w.heap.size + 1 := by
  obtain ⟨D, h1, h3⟩ := h
  obtain ⟨w', e1, e2, e3, e4⟩ := h1.range (int_keyed hk) ht
  exact ⟨w', e1, ⟨D, _, _, e2, h3⟩, below_of_grown e3, e4⟩
theorem RgI.owns (h : RgI P K E w b r n g) : IMap P K E w b n g := by
  obtain ⟨D, left, cnt, h1, h2⟩ := h
  exact ⟨D, h1.owns, h2⟩
theorem RgI.lt (h : RgI P K E w b r n g) : r < w.heap.size := by
  obtain ⟨D, left, cnt, h1, h2⟩ := h
  exact h1.lt
theorem RgI.kept {q : Option Nat} (h : RgI P K E w b r n g) (k : w.grownBy w' q) (hb : q ≠ some b) (hr : q ≠ some r) : RgI P K E w' b r n g := by
  obtain ⟨D, left, cnt, h1, h2⟩ := h
  exact ⟨D, left, cnt, h1.kept k (Ne.symm hb) (Ne.symm hr), h2⟩
/-- The step: nothing is left, or an entry has come. -/
theorem RgI.next (h : RgI P K E w b r n g) (hk : P.underlying K = some (.int .i64)) (he : P.underlying E = some (.int .i64)) :
    (∀ ty, (Instr.next (.pointer (some ⟨r, 0, none⟩)) false ty).run P w = .ok (.tuple #[.bool false]) w) ∨
    ∃ x c w', (Lit.int .i64 x).wf = true ∧ g x = some c ∧ (∀ ty, (Instr.next (.pointer (some ⟨r, 0, none⟩)) false ty).run P w = .ok (.tuple #[.bool true, .int .i64 x, .int .i64 c]) w') ∧ RgI P K E w' b r n g ∧ w.grownBy w' (some r) ∧
      (Instr.entry (.pointer (some ⟨r, 0, none⟩))).run P w' = .ok (.tuple #[.int .i64 x, .int .i64 c]) w' ∧ w'.rangeLeft b r < w.rangeLeft b r ∧ w'.heap.size = w.heap.size := by
  obtain ⟨D, left, cnt, h1, h2⟩ := h
  rcases h1.next (int_keyed hk) 0 with ⟨-, hl, hrun⟩ | ⟨key, v, kl, y, w', cnt', hkk, hlk, hv, hat, hrun, hrg, hc, hg, hsz, hen⟩
  · exact .inl fun _ => hrun
  · obtain ⟨x, rfl, rfl, hx⟩ : ∃ x, key = .int .i64 x ∧ kl = .int .i64 x ∧ (Lit.int .i64 x).wf = true := by
      have h2 : mapKey P K key = some kl := by simpa [keyOf, hk] using hkk
      cases key <;> simp [mapKey, hk] at h2
      obtain ⟨⟨rfl, h3⟩, rfl⟩ := h2
      exact ⟨_, rfl, rfl, h3⟩
    obtain ⟨a, rfl, e, -⟩ := plainElem_int_inv he hv
    obtain ⟨e1, e2⟩ := h2 x hx
    have e3 := hat (.lit (.int .i64 0))
    rw [e2, e] at e3
    injection e3 with e3
    injection e3 with _ e3
    rw [has_true_of_atKey (fun z => hat z)] at e1
    obtain ⟨s, hs⟩ := Option.isSome_iff_exists.1 e1.symm
    rw [hs] at e3
    have e4 : s = a := e3
    subst e4
    exact .inr ⟨x, s, w', hx, hs, fun _ => hrun, ⟨D, _, _, hrg, h2⟩, hg, hen, by rw [hrg.left_eq, h1.left_eq]; exact hc, hsz⟩
end
end Go.Mine

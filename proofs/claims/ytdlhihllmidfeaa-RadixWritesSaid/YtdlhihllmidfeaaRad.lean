/- Radix trees in memory: words of my own, no program is named here. A tree is told by its height and its entries (a function of the index to value and marks). -/
import Derived.Test.YtdlhihllmidfeaaRows2
namespace Go.Mine
open Go Go.RowKit

abbrev Lef := Int × Int
abbrev Fen := Nat → Lef
def p4 : Nat → Nat
  | 0 => 1
  | h + 1 => 4 * p4 h
theorem p4_pos : ∀ h, 0 < p4 h
  | 0 => by decide
  | h + 1 => by have := p4_pos h; unfold p4; omega
/-- The entries of the kid k of a tree whose kids have the height h. -/
def sub (h : Nat) (f : Fen) (k : Nat) : Fen := fun i => f (k * p4 h + i)
def emp : Nat → Fen → Bool
  | 0, f => decide (f 0 = (0, 0))
  | h + 1, f => emp h (sub h f 0) && emp h (sub h f 1) && emp h (sub h f 2) && emp h (sub h f 3)
def orI (a b : Int) : Int := bits .or .i64 a b
def orM : Nat → Fen → Int
  | 0, f => (f 0).2
  | h + 1, f => orI (orI (orI (orI 0 (orM h (sub h f 0))) (orM h (sub h f 1))) (orM h (sub h f 2))) (orM h (sub h f 3))
/-- Values fit, marks are 0 to 7, and what is no frame has none. -/
def GoodF (f : Fen) : Prop := ∀ i, (Lit.int .i64 (f i).1).wf = true ∧ 0 ≤ (f i).2 ∧ (f i).2 ≤ 7 ∧ ((f i).1 ≤ 0 → (f i).2 = 0)
theorem GoodF.sub {f : Fen} (h : GoodF f) (n k : Nat) : GoodF (sub n f k) := fun i => h _
theorem split4 {h i : Nat} (hi : i < p4 (h + 1)) : i / p4 h < 4 ∧ i % p4 h < p4 h ∧ i = i / p4 h * p4 h + i % p4 h := by
  have hp := p4_pos h
  refine ⟨?_, Nat.mod_lt _ hp, ?_⟩
  · rw [Nat.div_lt_iff_lt_mul hp]; unfold p4 at hi; exact hi
  · have := Nat.div_add_mod i (p4 h); rw [Nat.mul_comm] at this; exact this.symm
theorem emp_iff : ∀ (h : Nat) (f : Fen), emp h f = true ↔ ∀ i, i < p4 h → f i = (0, 0)
  | 0, f => by
    simp only [emp, decide_eq_true_eq]
    exact ⟨fun e i hi => by have : i = 0 := by unfold p4 at hi; omega
                            rw [this]; exact e, fun e => e 0 (by decide)⟩
  | h + 1, f => by
    simp only [emp, Bool.and_eq_true, emp_iff h]
    constructor
    · rintro ⟨⟨⟨a, b⟩, c⟩, d⟩ i hi
      obtain ⟨h1, h2, h3⟩ := split4 hi
      generalize i / p4 h = q at h1 h3
      have hk : q = 0 ∨ q = 1 ∨ q = 2 ∨ q = 3 := by omega
      rw [h3]
      rcases hk with e | e | e | e <;> rw [e]
      · exact a _ h2
      · exact b _ h2
      · exact c _ h2
      · exact d _ h2
    · intro e
      have hb : ∀ k, k < 4 → ∀ i, i < p4 h → sub h f k i = (0, 0) := fun k hk i hi => e _ (by
        have : k * p4 h ≤ 3 * p4 h := Nat.mul_le_mul_right _ (by omega)
        show k * p4 h + i < 4 * p4 h
        omega)
      exact ⟨⟨⟨hb 0 (by omega), hb 1 (by omega)⟩, hb 2 (by omega)⟩, hb 3 (by omega)⟩
theorem or8 {a b : Int} (a0 : 0 ≤ a) (a1 : a ≤ 7) (b0 : 0 ≤ b) (b1 : b ≤ 7) : 0 ≤ orI a b ∧ orI a b ≤ 7 ∧ (orI a b = 0 ↔ a = 0 ∧ b = 0) := by
  have ha : a = 0 ∨ a = 1 ∨ a = 2 ∨ a = 3 ∨ a = 4 ∨ a = 5 ∨ a = 6 ∨ a = 7 := by omega
  have hb : b = 0 ∨ b = 1 ∨ b = 2 ∨ b = 3 ∨ b = 4 ∨ b = 5 ∨ b = 6 ∨ b = 7 := by omega
  rcases ha with rfl | rfl | rfl | rfl | rfl | rfl | rfl | rfl <;> rcases hb with rfl | rfl | rfl | rfl | rfl | rfl | rfl | rfl <;> decide +kernel
theorem orM_in : ∀ (h : Nat) (f : Fen), GoodF f → 0 ≤ orM h f ∧ orM h f ≤ 7
  | 0, f, g => ⟨(g 0).2.1, (g 0).2.2.1⟩
  | h + 1, f, g => by
    have i0 := orM_in h _ (g.sub h 0)
    have i1 := orM_in h _ (g.sub h 1)
    have i2 := orM_in h _ (g.sub h 2)
    have i3 := orM_in h _ (g.sub h 3)
    have j0 := or8 (a := 0) (by omega) (by omega) i0.1 i0.2
    have j1 := or8 j0.1 j0.2.1 i1.1 i1.2
    have j2 := or8 j1.1 j1.2.1 i2.1 i2.2
    have j3 := or8 j2.1 j2.2.1 i3.1 i3.2
    exact ⟨j3.1, j3.2.1⟩
theorem orM_emp : ∀ (h : Nat) (f : Fen), emp h f = true → orM h f = 0
  | 0, f, e => by simp only [emp, decide_eq_true_eq] at e; simp [orM, e]
  | h + 1, f, e => by
    simp only [emp, Bool.and_eq_true] at e
    obtain ⟨⟨⟨a, b⟩, c⟩, d⟩ := e
    simp only [orM, orM_emp h _ a, orM_emp h _ b, orM_emp h _ c, orM_emp h _ d]
    decide +kernel
/-- A node with the kids s, the value x and the marks m is the subtree of the height h that has the entries f; its blocks are of those of p. -/
def NodeF (w : World) (p : Nat → Prop) : Nat → Fen → Value → Int → Int → Prop
  | 0, f, s, x, m => (∃ a c, s = .slice a 0 c) ∧ x = (f 0).1 ∧ m = (f 0).2
  | h + 1, f, s, x, m => x = 0 ∧ m = orM (h + 1) f ∧ ((emp (h + 1) f = true ∧ ∃ a c, s = .slice a 0 c) ∨
      (emp (h + 1) f = false ∧ ∃ g c, s = .slice (some ⟨g, 0, none⟩) 4 c ∧ p g ∧ ∀ k, k < 4 → ∃ s' x' m', w.cell? ⟨g, k * 3, none⟩ = some s' ∧ w.cell? ⟨g, k * 3 + 1, none⟩ = some (.int .i64 x') ∧ w.cell? ⟨g, k * 3 + 2, none⟩ = some (.int .i64 m') ∧
        NodeF w p h (sub h f k) s' x' m'))
section
variable {w w' : World} {p q : Nat → Prop}
theorem NodeF.keep : ∀ {h : Nat} {f : Fen} {s : Value} {x m : Int}, NodeF w p h f s x m → (∀ g, p g → g < w.heap.size → q g) → (∀ g, p g → g < w.heap.size → w'.heap[g]? = w.heap[g]?) → NodeF w' q h f s x m
  | 0, _, _, _, _, n, _, _ => n
  | h + 1, f, s, x, m, n, hp, k => by
    obtain ⟨n1, n2, n3⟩ := n
    refine ⟨n1, n2, ?_⟩
    rcases n3 with n3 | ⟨n3, g, c, rfl, hg, hk⟩
    · exact .inl n3
    · obtain ⟨s0, x0, m0, c0, -⟩ := hk 0 (by omega)
      have hlt := World.block_lt_of_cell? w _ c0
      have e := k g hg hlt
      refine .inr ⟨n3, g, c, rfl, hp g hg hlt, fun j hj => ?_⟩
      obtain ⟨s', x', m', e1, e2, e3, n'⟩ := hk j hj
      exact ⟨s', x', m', (World.cell?_of_block (a := ⟨g, j * 3, none⟩) e).trans e1, (World.cell?_of_block (a := ⟨g, j * 3 + 1, none⟩) e).trans e2, (World.cell?_of_block (a := ⟨g, j * 3 + 2, none⟩) e).trans e3, NodeF.keep n' hp k⟩
theorem NodeF.grew {h : Nat} {f : Fen} {s : Value} {x m : Int} (n : NodeF w p h f s x m) (g : Grew w w') : NodeF w' p h f s x m := n.keep (fun _ a _ => a) fun b _ hb => Below.block g b hb
theorem NodeF.any {h : Nat} {f : Fen} {s : Value} {x m : Int} (n : NodeF w p h f s x m) : NodeF w (fun _ => True) h f s x m := n.keep (fun _ _ _ => trivial) fun _ _ _ => rfl
theorem NodeF.old {h : Nat} {f : Fen} {s : Value} {x m : Int} (n : NodeF w p h f s x m) : NodeF w (fun b => b < w.heap.size) h f s x m := n.keep (fun _ _ hb => hb) fun _ _ _ => rfl
theorem NodeF.mono {h : Nat} {f : Fen} {s : Value} {x m : Int} (n : NodeF w p h f s x m) (hp : ∀ g, p g → g < w.heap.size → q g) : NodeF w q h f s x m := n.keep hp fun _ _ _ => rfl
theorem NodeF.congr : ∀ {h : Nat} {f f' : Fen} {s : Value} {x m : Int}, NodeF w p h f s x m → (∀ i, i < p4 h → f i = f' i) → NodeF w p h f' s x m
  | 0, f, f', _, _, _, n, e => by
    have := e 0 (by decide)
    exact ⟨n.1, by rw [← this]; exact n.2.1, by rw [← this]; exact n.2.2⟩
  | h + 1, f, f', s, x, m, n, e => by
    have hs : ∀ k, k < 4 → ∀ i, i < p4 h → sub h f k i = sub h f' k i := fun k hk i hi => e _ (by
      have : k * p4 h ≤ 3 * p4 h := Nat.mul_le_mul_right _ (by omega)
      show k * p4 h + i < 4 * p4 h
      omega)
    have he : emp (h + 1) f = emp (h + 1) f' := by
      rw [Bool.eq_iff_iff, emp_iff, emp_iff]
      exact ⟨fun a i hi => (e i hi) ▸ a i hi, fun a i hi => (e i hi).symm ▸ a i hi⟩
    have ho : ∀ (j : Nat) (a b : Fen), (∀ i, i < p4 j → a i = b i) → orM j a = orM j b := by
      intro j
      induction j with
      | zero => intro a b e; simp [orM, e 0 (by decide)]
      | succ j ih =>
        intro a b e
        have hs : ∀ k, k < 4 → orM j (sub j a k) = orM j (sub j b k) := fun k hk => ih _ _ fun i hi => e _ (by
          have : k * p4 j ≤ 3 * p4 j := Nat.mul_le_mul_right _ (by omega)
          show k * p4 j + i < 4 * p4 j
          omega)
        simp only [orM, hs 0 (by omega), hs 1 (by omega), hs 2 (by omega), hs 3 (by omega)]
    obtain ⟨n1, n2, n3⟩ := n
    refine ⟨n1, by rw [n2]; exact ho (h + 1) f f' e, ?_⟩
    rw [← he]
    rcases n3 with n3 | ⟨n3, g, c, rfl, hg, hk⟩
    · exact .inl n3
    · refine .inr ⟨n3, g, c, rfl, hg, fun j hj => ?_⟩
      obtain ⟨s', x', m', e1, e2, e3, n'⟩ := hk j hj
      exact ⟨s', x', m', e1, e2, e3, NodeF.congr n' (hs j hj)⟩
/-- What a node shows at once. -/
theorem NodeF.show_ {h : Nat} {f : Fen} {s : Value} {x m : Int} (n : NodeF w p h f s x m) (hf : GoodF f) :
    (emp h f = true ∧ x = 0 ∧ m = 0 ∧ ∃ a c, s = .slice a 0 c) ∨ (emp h f = false ∧ 0 ≤ m ∧ m ≤ 7 ∧ ∃ a j c, s = .slice a j c ∧ ((h = 0 ∧ j = 0 ∧ x = (f 0).1 ∧ m = (f 0).2 ∧ x ≠ 0) ∨ (0 < h ∧ j = 4 ∧ x = 0))) := by
  cases h with
  | zero =>
    obtain ⟨⟨a, c, rfl⟩, rfl, rfl⟩ := n
    by_cases e : f 0 = (0, 0)
    · exact .inl ⟨by simp [emp, e], by rw [e], by rw [e], a, c, rfl⟩
    · refine .inr ⟨by simp [emp, e], (hf 0).2.1, (hf 0).2.2.1, a, 0, c, rfl, .inl ⟨rfl, rfl, rfl, rfl, fun e2 => e ?_⟩⟩
      exact Prod.ext e2 ((hf 0).2.2.2 (by omega))
  | succ h =>
    obtain ⟨rfl, rfl, n3⟩ := n
    rcases n3 with ⟨e, a, c, rfl⟩ | ⟨e, g, c, rfl, -, -⟩
    · exact .inl ⟨e, rfl, orM_emp _ _ e, a, c, rfl⟩
    · exact .inr ⟨e, (orM_in _ _ hf).1, (orM_in _ _ hf).2, _, 4, c, rfl, .inr ⟨by omega, rfl, rfl⟩⟩
theorem NodeF.slice {h : Nat} {f : Fen} {s : Value} {x m : Int} (n : NodeF w p h f s x m) : ∃ a j c, s = .slice a j c := by
  cases h with
  | zero => obtain ⟨⟨a, c, rfl⟩, -⟩ := n; exact ⟨_, _, _, rfl⟩
  | succ h => obtain ⟨-, -, ⟨-, a, c, rfl⟩ | ⟨-, g, c, rfl, -⟩⟩ := n <;> exact ⟨_, _, _, rfl⟩
theorem NodeF.marks {h : Nat} {f : Fen} {s : Value} {x m : Int} (n : NodeF w p h f s x m) : m = orM h f := by
  cases h with
  | zero => exact n.2.2
  | succ h => exact n.2.1
/-- The empty subtree. -/
theorem NodeF.empty (h : Nat) {f : Fen} (e : emp h f = true) (a : Option Addr) (c : Nat) : NodeF w p h f (.slice a 0 c) 0 0 := by
  cases h with
  | zero =>
    simp only [emp, decide_eq_true_eq] at e
    exact ⟨⟨a, c, rfl⟩, by rw [e], by rw [e]⟩
  | succ h => exact ⟨rfl, (orM_emp _ _ e).symm, .inl ⟨e, a, c, rfl⟩⟩
/-- The kid k of an empty subtree is empty. -/
theorem emp_sub {h : Nat} {f : Fen} (e : emp (h + 1) f = true) {k : Nat} (hk : k < 4) : emp h (sub h f k) = true := by
  simp only [emp, Bool.and_eq_true] at e
  obtain ⟨⟨⟨a, b⟩, c⟩, d⟩ := e
  have : k = 0 ∨ k = 1 ∨ k = 2 ∨ k = 3 := by omega
  rcases this with rfl | rfl | rfl | rfl <;> assumption
/-- The entry i (the last digits of it) becomes l. -/
def upd (h : Nat) (f : Fen) (i : Nat) (l : Lef) : Fen := fun j => if j = i % p4 h then l else f j
theorem mod_p4 (h i : Nat) : i % p4 (h + 1) = i / p4 h % 4 * p4 h + i % p4 h := by
  show i % (4 * p4 h) = _
  rw [Nat.mul_comm 4, Nat.mod_mul, Nat.mul_comm, Nat.add_comm]
theorem two_digits {P a b c d : Nat} (hb : b < P) (hd : d < P) : a * P + b = c * P + d ↔ a = c ∧ b = d := by
  constructor
  · intro e
    have h1 : (a * P + b) / P = a := by rw [Nat.mul_comm, Nat.mul_add_div (by omega), Nat.div_eq_of_lt hb]; omega
    have h2 : (c * P + d) / P = c := by rw [Nat.mul_comm, Nat.mul_add_div (by omega), Nat.div_eq_of_lt hd]; omega
    have h3 : a = c := by rw [← h1, ← h2, e]
    subst h3
    exact ⟨rfl, by omega⟩
  · rintro ⟨rfl, rfl⟩; rfl
theorem upd_sub_in (h : Nat) (f : Fen) (i : Nat) (l : Lef) {k : Nat} (hk : k = i / p4 h % 4) : ∀ j, j < p4 h → upd h (sub h f k) i l j = sub h (upd (h + 1) f i l) k j := fun j hj => by
  have e : (k * p4 h + j = i % p4 (h + 1)) ↔ j = i % p4 h := by
    rw [mod_p4, ← hk, two_digits hj (Nat.mod_lt _ (p4_pos h))]
    exact ⟨fun a => a.2, fun a => ⟨rfl, a⟩⟩
  simp only [upd, sub, e]
theorem upd_sub_out (h : Nat) (f : Fen) (i : Nat) (l : Lef) {k : Nat} (hk : k ≠ i / p4 h % 4) : ∀ j, j < p4 h → sub h f k j = sub h (upd (h + 1) f i l) k j := fun j hj => by
  have e : ¬(k * p4 h + j = i % p4 (h + 1)) := by
    rw [mod_p4, two_digits hj (Nat.mod_lt _ (p4_pos h))]
    exact fun a => hk a.1
  simp only [upd, sub, if_neg e]
def LefOK (l : Lef) : Prop := (Lit.int .i64 l.1).wf = true ∧ 0 ≤ l.2 ∧ l.2 ≤ 7 ∧ (l.1 ≤ 0 → l.2 = 0)
theorem GoodF.upd {f : Fen} (g : GoodF f) (h i : Nat) {l : Lef} (hl : LefOK l) : GoodF (upd h f i l) := fun j => by
  unfold Go.Mine.upd
  split
  · exact hl
  · exact g j
/-- The digits of i below 4^h stand in a row, the greatest first. -/
def WayAt (w : World) (b o h i : Nat) : Prop := ∀ j, j < h → w.cell? ⟨b, o + j, none⟩ = some (.int .i64 ((i / p4 (h - 1 - j) % 4 : Nat) : Int))
theorem WayAt.tail {w : World} {b o h i : Nat} (a : WayAt w b o (h + 1) i) : WayAt w b (o + 1) h i := fun j hj => by
  have := a (j + 1) (by omega)
  rw [show o + 1 + j = o + (j + 1) from by omega, this, show h + 1 - 1 - (j + 1) = h - 1 - j from by omega]
theorem WayAt.head {w : World} {b o h i : Nat} (a : WayAt w b o (h + 1) i) : w.cell? ⟨b, o, none⟩ = some (.int .i64 ((i / p4 h % 4 : Nat) : Int)) := a 0 (by omega)
theorem WayAt.grew {w w' : World} {b o h i : Nat} (a : WayAt w b o h i) (g : Grew w w') : WayAt w' b o h i := fun j hj => (g.cells.1 b _ (World.block_lt_of_cell? w _ (a j hj))).trans (a j hj)
/-- The four kids in block g. -/
def KidsF (w : World) (p : Nat → Prop) (h : Nat) (f : Fen) (g : Nat) : Prop :=
  ∀ k, k < 4 → ∃ s' x' m', w.cell? ⟨g, k * 3, none⟩ = some s' ∧ w.cell? ⟨g, k * 3 + 1, none⟩ = some (.int .i64 x') ∧ w.cell? ⟨g, k * 3 + 2, none⟩ = some (.int .i64 m') ∧ NodeF w p h (sub h f k) s' x' m'
theorem KidsF.grew {h : Nat} {f : Fen} {g : Nat} (n : KidsF w p h f g) (k : Grew w w') : KidsF w' p h f g := fun j hj => by
  obtain ⟨s', x', m', c0, c1, c2, n'⟩ := n j hj
  have hlt := World.block_lt_of_cell? w _ c0
  exact ⟨s', x', m', (k.cells.1 g _ hlt).trans c0, (k.cells.1 g _ hlt).trans c1, (k.cells.1 g _ hlt).trans c2, n'.grew k⟩
def orUp (h : Nat) (f : Fen) : Nat → Int
  | 0 => 0
  | k + 1 => orI (orUp h f k) (orM h (sub h f k))
def allE (h : Nat) (f : Fen) : Nat → Bool
  | 0 => true
  | k + 1 => allE h f k && emp h (sub h f k)
theorem emp_all (h : Nat) (f : Fen) : emp (h + 1) f = allE h f 4 := by simp [emp, allE]
theorem NodeF.some {h : Nat} {f : Fen} {g c : Nat} (hk : KidsF w p h f g) (hg : p g) (e : emp (h + 1) f = false) : NodeF w p (h + 1) f (.slice (.some ⟨g, 0, none⟩) 4 c) 0 (orUp h f 4) :=
  ⟨rfl, rfl, .inr ⟨e, g, c, rfl, hg, hk⟩⟩
theorem NodeF.kids {h : Nat} {f : Fen} {s : Value} {x m : Int} (n : NodeF w p (h + 1) f s x m) (e : emp (h + 1) f = false) : ∃ g c, s = .slice (.some ⟨g, 0, none⟩) 4 c ∧ x = 0 ∧ p g ∧ KidsF w p h f g := by
  obtain ⟨rfl, -, ⟨e2, -⟩ | ⟨-, g, c, rfl, hg, hk⟩⟩ := n
  · rw [e] at e2; cases e2
  · exact ⟨g, c, rfl, rfl, hg, hk⟩
/-- The first k kids stand in the cells of a block of the call's own. -/
def KDone (w : World) (q : Nat → Prop) (cs : Array Value) (h : Nat) (f : Fen) (k : Nat) : Prop :=
  cs.size = 12 ∧ ∀ j, j < k → ∃ s' x' m', cs[j * 3]? = .some s' ∧ cs[j * 3 + 1]? = .some (.int .i64 x') ∧ cs[j * 3 + 2]? = .some (.int .i64 m') ∧ NodeF w q h (sub h f j) s' x' m'
theorem KDone.keep {cs : Array Value} {h : Nat} {f : Fen} {k : Nat} (d : KDone w q cs h f k) (hk : ∀ g, q g → g < w.heap.size → w'.heap[g]? = w.heap[g]?) : KDone w' q cs h f k :=
  ⟨d.1, fun j hj => by
    obtain ⟨s', x', m', c0, c1, c2, n⟩ := d.2 j hj
    exact ⟨s', x', m', c0, c1, c2, n.keep (fun _ a _ => a) hk⟩⟩
theorem KDone.grew {cs : Array Value} {h : Nat} {f : Fen} {k : Nat} (d : KDone w q cs h f k) (g : Grew w w') : KDone w' q cs h f k := d.keep fun b _ hb => Below.block g b hb
theorem KDone.next {cs : Array Value} {h : Nat} {f : Fen} {k : Nat} (d : KDone w q cs h f k) (hk : k < 4) {s : Value} {x m : Int} (n : NodeF w q h (sub h f k) s x m) :
    KDone w q (((cs.setIfInBounds (k * 3) s).setIfInBounds (k * 3 + 1) (.int .i64 x)).setIfInBounds (k * 3 + 2) (.int .i64 m)) h f (k + 1) := by
  refine ⟨by simp [d.1], fun j hj => ?_⟩
  have hs := d.1
  by_cases e : j = k
  · subst e
    exact ⟨s, x, m, by simp [Array.getElem?_setIfInBounds, hs]; omega, by simp [Array.getElem?_setIfInBounds, hs]; omega, by simp [Array.getElem?_setIfInBounds, hs]; omega, n⟩
  · obtain ⟨s', x', m', c0, c1, c2, n'⟩ := d.2 j (by omega)
    refine ⟨s', x', m', ?_, ?_, ?_, n'⟩
    · rw [Array.getElem?_setIfInBounds_ne (by omega), Array.getElem?_setIfInBounds_ne (by omega), Array.getElem?_setIfInBounds_ne (by omega)]; exact c0
    · rw [Array.getElem?_setIfInBounds_ne (by omega), Array.getElem?_setIfInBounds_ne (by omega), Array.getElem?_setIfInBounds_ne (by omega)]; exact c1
    · rw [Array.getElem?_setIfInBounds_ne (by omega), Array.getElem?_setIfInBounds_ne (by omega), Array.getElem?_setIfInBounds_ne (by omega)]; exact c2
/-- The cells of the kid k may be written. -/
theorem Own.spot3 {w : World} {K k : Nat} {T : TypeId} {cs : Array Value} (o : Own w K T cs) (hs : cs.size = 12) (hk : k < 4) : (∃ u, w.cell? ⟨K, k * 3, none⟩ = .some u) ∧ (∃ u, w.cell? ⟨K, k * 3 + 1, none⟩ = .some u) ∧ (∃ u, w.cell? ⟨K, k * 3 + 2, none⟩ = .some u) ∧
    w.frozen? ⟨K, k * 3, none⟩ = false ∧ w.frozen? ⟨K, k * 3 + 1, none⟩ = false ∧ w.frozen? ⟨K, k * 3 + 2, none⟩ = false :=
  ⟨⟨_, (o.cell _).trans (Array.getElem?_eq_getElem (by omega))⟩, ⟨_, (o.cell _).trans (Array.getElem?_eq_getElem (by omega))⟩, ⟨_, (o.cell _).trans (Array.getElem?_eq_getElem (by omega))⟩, o.frozen _, o.frozen _, o.frozen _⟩
section
variable {K k : Nat} {T : TypeId} {cs : Array Value} {s x m : Value} (hw : ((w.setCell ⟨K, k * 3, none⟩ s).setCell ⟨K, k * 3 + 1, none⟩ x).setCell ⟨K, k * 3 + 2, none⟩ m = w')
include hw
theorem heap3 (b : Nat) (hb : b ≠ K) : w'.heap[b]? = w.heap[b]? := by
  rw [← hw, Below.heap_setCell _ ⟨K, k * 3 + 2, none⟩ _ b hb, Below.heap_setCell _ ⟨K, k * 3 + 1, none⟩ _ b hb, Below.heap_setCell _ ⟨K, k * 3, none⟩ _ b hb]
theorem size3 : w'.heap.size = w.heap.size := by rw [← hw]; simp [World.setCell]
theorem Own.put3 (o : Own w K T cs) : Own w' K T (((cs.setIfInBounds (k * 3) s).setIfInBounds (k * 3 + 1) x).setIfInBounds (k * 3 + 2) m) := by
  rw [← hw]
  exact ((o.set (k * 3) s).set (k * 3 + 1) x).set (k * 3 + 2) m
theorem Own.off3 {g : Nat} (o : Own w g T cs) (hne : g ≠ K) : Own w' g T cs := o.since (heap3 hw g hne)
theorem Grew.off3 {a : World} (h : Grew a w) (hK : a.heap.size ≤ K) : Grew a w' := by
  rw [← hw]
  exact ((h.set (p := ⟨K, k * 3, none⟩) hK s).set (p := ⟨K, k * 3 + 1, none⟩) hK x).set (p := ⟨K, k * 3 + 2, none⟩) hK m
theorem KDone.off3 {ds : Array Value} {h : Nat} {f : Fen} {n : Nat} (d : KDone w q ds h f n) (hq : ∀ b, q b → b ≠ K) : KDone w' q ds h f n := d.keep fun b hb _ => heap3 hw b (hq b hb)
theorem NodeF.off3 {h : Nat} {f : Fen} {u : Value} {y z : Int} (n : NodeF w q h f u y z) (hq : ∀ b, q b → b ≠ K) : NodeF w' q h f u y z := n.keep (fun _ a _ => a) fun b hb _ => heap3 hw b (hq b hb)
end
theorem KDone.kids {cs : Array Value} {h : Nat} {f : Fen} {K : Nat} {T : TypeId} (d : KDone w q cs h f 4) (o : Own w K T cs) : KidsF w q h f K := fun k hk => by
  obtain ⟨s', x', m', c0, c1, c2, n⟩ := d.2 k hk
  exact ⟨s', x', m', (o.cell _).trans c0, (o.cell _).trans c1, (o.cell _).trans c2, n⟩
end
end Go.Mine

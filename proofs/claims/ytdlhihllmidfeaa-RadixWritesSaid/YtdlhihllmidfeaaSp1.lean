/- Nodes that need not be subtrees: words of my own. A node seen at a height is a subtree (NodeF) or it is none (NotF). -/
import Derived.Test.YtdlhihllmidfeaaRx9
namespace Go.Proofs.Ytdlhihllmidfeaa
open Go.RowKit Go.Mine

abbrev AllP : Nat → Prop := fun _ => True
def KidAt (w : World) (P : Value → Int → Int → Prop) (g k : Nat) : Prop :=
  ∃ s' x' m', w.cell? ⟨g, k * 3, none⟩ = some s' ∧ w.cell? ⟨g, k * 3 + 1, none⟩ = some (.int .i64 x') ∧ w.cell? ⟨g, k * 3 + 2, none⟩ = some (.int .i64 m') ∧ P s' x' m'
/-- It is no subtree of the height. -/
def NotF (w : World) : Nat → Value → Int → Int → Prop
  | 0, s, x, m => ∃ a n c, s = .slice a n c ∧ emptyB n x m = false ∧ leafB n x m = false
  | h + 1, s, x, m => ∃ a n c, s = .slice a n c ∧ emptyB n x m = false ∧ (¬n = 4 ∨ ¬x = 0 ∨ ∃ g f, a = some ⟨g, 0, none⟩ ∧ n = 4 ∧ x = 0 ∧ GoodF f ∧
      ((KidsF w AllP h f g ∧ (emp (h + 1) f = true ∨ ¬m = orM (h + 1) f)) ∨
        ∃ j, j < 4 ∧ (∀ k, k < j → KidAt w (fun s' x' m' => NodeF w AllP h (sub h f k) s' x' m') g k) ∧ KidAt w (fun s' x' m' => NotF w h s' x' m') g j))
theorem KidAt.imp {w w' : World} {P Q : Value → Int → Int → Prop} {g k : Nat} (h : KidAt w P g k) (G : Grew w w') (hq : ∀ s x m, P s x m → Q s x m) : KidAt w' Q g k := by
  obtain ⟨s', x', m', c0, c1, c2, n⟩ := h
  have hlt := World.block_lt_of_cell? w _ c0
  exact ⟨s', x', m', (G.cells.1 g _ hlt).trans c0, (G.cells.1 g _ hlt).trans c1, (G.cells.1 g _ hlt).trans c2, hq _ _ _ n⟩
theorem NotF.grew {w w' : World} (G : Grew w w') : ∀ {h : Nat} {s : Value} {x m : Int}, NotF w h s x m → NotF w' h s x m
  | 0, _, _, _, n => n
  | h + 1, s, x, m, n => by
    obtain ⟨a, n, c, rfl, he, hn⟩ := n
    refine ⟨a, n, c, rfl, he, ?_⟩
    rcases hn with hn | hn | ⟨g, f, e1, e2, e3, e4, e5⟩
    · exact .inl hn
    · exact .inr (.inl hn)
    · refine .inr (.inr ⟨g, f, e1, e2, e3, e4, ?_⟩)
      rcases e5 with ⟨e5, e6⟩ | ⟨j, hj, e5, e6⟩
      · exact .inl ⟨e5.grew G, e6⟩
      · exact .inr ⟨j, hj, fun k hk => (e5 k hk).imp G fun _ _ _ n => n.grew G, e6.imp G fun _ _ _ n => NotF.grew G n⟩
theorem NotF.slice {w : World} {h : Nat} {s : Value} {x m : Int} (n : NotF w h s x m) : ∃ a j c, s = .slice a j c ∧ emptyB j x m = false := by
  cases h with
  | zero => obtain ⟨a, j, c, e, h, -⟩ := n; exact ⟨a, j, c, e, h⟩
  | succ h => obtain ⟨a, j, c, e, h, -⟩ := n; exact ⟨a, j, c, e, h⟩
/-- A node seen at some height. -/
def AnyF (w : World) (h : Nat) (s : Value) (x m : Int) : Prop := (∃ f, NodeF w AllP h f s x m ∧ GoodF f) ∨ NotF w h s x m
theorem AnyF.grew {w w' : World} {h : Nat} {s : Value} {x m : Int} (n : AnyF w h s x m) (G : Grew w w') : AnyF w' h s x m := by
  rcases n with ⟨f, n, g⟩ | n
  · exact .inl ⟨f, n.grew G, g⟩
  · exact .inr (n.grew G)
theorem AnyF.slice {w : World} {h : Nat} {s : Value} {x m : Int} (n : AnyF w h s x m) : ∃ a j c, s = .slice a j c := by
  rcases n with ⟨f, n, -⟩ | n
  · exact n.slice
  · obtain ⟨a, j, c, e, -⟩ := n.slice; exact ⟨a, j, c, e⟩
def fZ : Fen := fun _ => (0, 0)
theorem good_Z : GoodF fZ := fun _ => ⟨by show (Lit.int .i64 0).wf = true; decide, by show (0 : Int) ≤ 0; omega, by show (0 : Int) ≤ 7; omega, fun _ => rfl⟩
theorem emp_Z (h : Nat) : emp h fZ = true := (emp_iff _ _).2 fun _ _ => rfl
theorem sub_Z (h k : Nat) : sub h fZ k = fZ := rfl
theorem first_bad {P : Nat → Prop} (h : ¬∀ k, k < 4 → P k) : ∃ j, j < 4 ∧ (∀ k, k < j → P k) ∧ ¬P j := by
  by_cases h0 : P 0
  · by_cases h1 : P 1
    · by_cases h2 : P 2
      · by_cases h3 : P 3
        · refine absurd (fun k hk => ?_) h
          have : k = 0 ∨ k = 1 ∨ k = 2 ∨ k = 3 := by omega
          rcases this with rfl | rfl | rfl | rfl <;> assumption
        · refine ⟨3, by omega, fun k hk => ?_, h3⟩
          have : k = 0 ∨ k = 1 ∨ k = 2 := by omega
          rcases this with rfl | rfl | rfl <;> assumption
      · refine ⟨2, by omega, fun k hk => ?_, h2⟩
        have : k = 0 ∨ k = 1 := by omega
        rcases this with rfl | rfl <;> assumption
    · refine ⟨1, by omega, fun k hk => ?_, h1⟩
      have : k = 0 := by omega
      subst this; exact h0
  · exact ⟨0, by omega, fun k hk => by omega, h0⟩
theorem emp_four {h : Nat} {f : Fen} : emp (h + 1) f = true ↔ ∀ k, k < 4 → emp h (sub h f k) = true := by
  constructor
  · exact fun e k hk => emp_sub e hk
  · intro e
    show (emp h (sub h f 0) && emp h (sub h f 1) && emp h (sub h f 2) && emp h (sub h f 3)) = true
    rw [e 0 (by omega), e 1 (by omega), e 2 (by omega), e 3 (by omega)]; rfl
/-- A subtree with entries is none of another height. -/
theorem NodeF.at_ {w : World} : ∀ (h h' : Nat) {f : Fen} {s : Value} {x m : Int}, NodeF w AllP h f s x m → GoodF f → ¬h = h' → emp h f = false → NotF w h' s x m
  | 0, 0, _, _, _, _, _, _, hne, _ => absurd rfl hne
  | 0, h' + 1, f, s, x, m, n, hf, _, he => by
    rcases n.show_ hf with ⟨e, -⟩ | ⟨-, -, -, a, j, c, rfl, hj⟩
    · rw [he] at e; cases e
    · rcases hj with ⟨-, rfl, -, -, hx⟩ | ⟨h0, -⟩
      · exact ⟨a, 0, c, rfl, decide_eq_false fun e => hx e.2.1, .inl (by omega)⟩
      · omega
  | h + 1, 0, f, s, x, m, n, hf, _, he => by
    obtain ⟨g, c, rfl, -, -, -⟩ := n.kids he
    exact ⟨_, 4, c, rfl, decide_eq_false fun e => by omega, decide_eq_false fun e => by omega⟩
  | h + 1, h' + 1, f, s, x, m, n, hf, hne, he => by
    obtain ⟨g, c, rfl, rfl, -, hk⟩ := n.kids he
    have hb : ¬∀ k, k < 4 → emp h (sub h f k) = true := fun e => by rw [emp_four.2 e] at he; cases he
    obtain ⟨j, hj, h1, h2⟩ := first_bad hb
    refine ⟨_, 4, c, rfl, decide_eq_false fun e => by omega, .inr (.inr ⟨g, fZ, rfl, rfl, rfl, good_Z, .inr ⟨j, hj, fun k hkj => ?_, ?_⟩⟩)⟩
    · obtain ⟨s', x', m', c0, c1, c2, n'⟩ := hk k (by omega)
      refine ⟨s', x', m', c0, c1, c2, ?_⟩
      rcases n'.show_ (hf.sub _ _) with ⟨-, rfl, rfl, a, c', rfl⟩ | ⟨e, -⟩
      · exact NodeF.empty h' (emp_Z h') _ _
      · rw [h1 k hkj] at e; cases e
    · obtain ⟨s', x', m', c0, c1, c2, n'⟩ := hk j hj
      exact ⟨s', x', m', c0, c1, c2, NodeF.at_ h h' n' (hf.sub _ _) (fun e => hne (by omega)) (by simpa using h2)⟩
theorem anyF_leaf {w : World} {a : Option Addr} {n c : Nat} {x m : Int} (hx : (Lit.int .i64 x).wf = true) : AnyF w 0 (.slice a n c) x m := by
  by_cases h1 : emptyB n x m = true
  · obtain ⟨rfl, rfl, rfl⟩ := of_decide_eq_true h1
    exact .inl ⟨fZ, ⟨⟨a, c, rfl⟩, rfl, rfl⟩, good_Z⟩
  · by_cases h2 : leafB n x m = true
    · obtain ⟨rfl, hx0, hm⟩ := of_decide_eq_true h2
      exact .inl ⟨fun _ => (x, m), ⟨⟨a, c, rfl⟩, rfl, rfl⟩, fun _ => ⟨hx, by show 0 ≤ m; omega, by show m ≤ 7; omega, fun h => by have : x ≤ 0 := h; show m = 0; omega⟩⟩
    · exact .inr ⟨a, n, c, rfl, by simpa using h1, by simpa using h2⟩
theorem anyF_flat {w : World} {h : Nat} {a : Option Addr} {n c : Nat} {x m : Int} (hn : ¬n = 4) : AnyF w (h + 1) (.slice a n c) x m := by
  by_cases h1 : emptyB n x m = true
  · obtain ⟨rfl, rfl, rfl⟩ := of_decide_eq_true h1
    exact .inl ⟨fZ, NodeF.empty _ (emp_Z _) _ _, good_Z⟩
  · exact .inr ⟨a, n, c, rfl, by simpa using h1, .inl hn⟩
/-- Four functions as one. -/
def glue (h : Nat) (F : Nat → Fen) : Fen := fun i => F (i / p4 h) (i % p4 h)
theorem glue_sub (h : Nat) (F : Nat → Fen) (k : Nat) : ∀ i, i < p4 h → F k i = sub h (glue h F) k i := fun i hi => by
  have hp := p4_pos h
  show F k i = F ((k * p4 h + i) / p4 h) ((k * p4 h + i) % p4 h)
  rw [show (k * p4 h + i) / p4 h = k by rw [Nat.mul_comm, Nat.mul_add_div hp, Nat.div_eq_of_lt hi]; omega, Nat.mul_comm, Nat.mul_add_mod, Nat.mod_eq_of_lt hi]
theorem good_glue {h : Nat} {F : Nat → Fen} (g : ∀ k, GoodF (F k)) : GoodF (glue h F) := fun i => g _ _
theorem anyF_node {w : World} {h g c : Nat} {x m : Int} (hk : ∀ k, k < 4 → KidAt w (AnyF w h) g k) : AnyF w (h + 1) (.slice (some ⟨g, 0, none⟩) 4 c) x m := by
  by_cases hx : x = 0
  · subst hx
    have hF : ∀ k, ∃ f, GoodF f ∧ (KidAt w (fun s' x' m' => ∃ f, NodeF w AllP h f s' x' m' ∧ GoodF f) g k → KidAt w (fun s' x' m' => NodeF w AllP h f s' x' m') g k) := fun k => by
      by_cases e : KidAt w (fun s' x' m' => ∃ f, NodeF w AllP h f s' x' m' ∧ GoodF f) g k
      · obtain ⟨s', x', m', c0, c1, c2, f, n, hf⟩ := e
        exact ⟨f, hf, fun _ => ⟨s', x', m', c0, c1, c2, n⟩⟩
      · exact ⟨fZ, good_Z, fun e2 => absurd e2 e⟩
    obtain ⟨F, hF⟩ := Classical.axiomOfChoice hF
    have hg : GoodF (glue h F) := good_glue fun k => (hF k).1
    have hgo : ∀ k, KidAt w (fun s' x' m' => ∃ f, NodeF w AllP h f s' x' m' ∧ GoodF f) g k → KidAt w (fun s' x' m' => NodeF w AllP h (sub h (glue h F) k) s' x' m') g k := fun k e =>
      ((hF k).2 e).imp (Grew.refl w) fun _ _ _ n => n.congr (glue_sub h F k)
    by_cases all : ∀ k, k < 4 → KidAt w (fun s' x' m' => ∃ f, NodeF w AllP h f s' x' m' ∧ GoodF f) g k
    · have K : KidsF w AllP h (glue h F) g := fun k hk4 => hgo k (all k hk4)
      by_cases e : emp (h + 1) (glue h F) = true ∨ ¬m = orM (h + 1) (glue h F)
      · exact .inr ⟨_, 4, c, rfl, decide_eq_false fun e => by omega, .inr (.inr ⟨g, glue h F, rfl, rfl, rfl, hg, .inl ⟨K, e⟩⟩)⟩
      · have e1 : emp (h + 1) (glue h F) = false := by
          cases e2 : emp (h + 1) (glue h F)
          · rfl
          · exact absurd (.inl e2) e
        have e2 : m = orM (h + 1) (glue h F) := Classical.byContradiction fun e3 => e (.inr e3)
        exact .inl ⟨glue h F, ⟨rfl, e2, .inr ⟨e1, g, c, rfl, trivial, K⟩⟩, hg⟩
    · obtain ⟨j, hj, h1, h2⟩ := first_bad all
      refine .inr ⟨_, 4, c, rfl, decide_eq_false fun e => by omega, .inr (.inr ⟨g, glue h F, rfl, rfl, rfl, hg, .inr ⟨j, hj, fun k hkj => hgo k (h1 k hkj), ?_⟩⟩)⟩
      obtain ⟨s', x', m', c0, c1, c2, n⟩ := hk j hj
      rcases n with n | n
      · exact absurd ⟨s', x', m', c0, c1, c2, n⟩ h2
      · exact ⟨s', x', m', c0, c1, c2, n⟩
  · exact .inr ⟨_, 4, c, rfl, decide_eq_false fun e => by omega, .inr (.inl hx)⟩
/-- A tree that is not valid. -/
def BadT (w : World) (H : Int) (s : Value) (x m : Int) : Prop := (∃ a n c, s = .slice a n c) ∧
  (H < 0 ∨ 4 < H ∨ ∃ h : Nat, H = h ∧ h ≤ 4 ∧ (NotF w h s x m ∨ ∃ f, NodeF w AllP h f s x m ∧ GoodF f ∧ validB h f = false))
theorem BadT.grew {w w' : World} {H : Int} {s : Value} {x m : Int} (b : BadT w H s x m) (G : Grew w w') : BadT w' H s x m := by
  refine ⟨b.1, ?_⟩
  rcases b.2 with h | h | ⟨h, e, hh, n⟩
  · exact .inl h
  · exact .inr (.inl h)
  · refine .inr (.inr ⟨h, e, hh, ?_⟩)
    rcases n with n | ⟨f, n, hf, hv⟩
    · exact .inl (n.grew G)
    · exact .inr ⟨f, n.grew G, hf, hv⟩
/-- The entries of a subtree, told for all indices. -/
def cutF (h : Nat) (f : Fen) : Fen := fun i => if i < p4 h then f i else (0, 0)
theorem cutF_in {h : Nat} {f : Fen} : ∀ i, i < p4 h → f i = cutF h f i := fun i hi => by unfold cutF; rw [if_pos hi]
theorem good_cut {h : Nat} {f : Fen} (g : GoodF f) : GoodF (cutF h f) := fun i => by
  unfold cutF
  split
  · exact g i
  · exact good_Z i
/-- A tree is valid or it is not. -/
theorem tree_or {w : World} {H : Int} {s : Value} {x m : Int} (hs : ∃ a n c, s = .slice a n c) (hn : ∀ h : Nat, H = h → h ≤ 4 → AnyF w h s x m) : (∃ h f, H = (h : Nat) ∧ TreeF w AllP h f s x m) ∨ BadT w H s x m := by
  by_cases h0 : H < 0
  · exact .inr ⟨hs, .inl h0⟩
  · by_cases h4 : 4 < H
    · exact .inr ⟨hs, .inr (.inl h4)⟩
    · obtain ⟨h, rfl⟩ := Int.eq_ofNat_of_zero_le (show 0 ≤ H by omega)
      rcases hn h rfl (by omega) with ⟨f, n, hf⟩ | n
      · have n2 := n.congr (cutF_in (h := h) (f := f))
        cases hv : validB h (cutF h f)
        · exact .inr ⟨hs, .inr (.inr ⟨h, rfl, by omega, .inr ⟨_, n2, good_cut hf, hv⟩⟩)⟩
        · exact .inl ⟨h, _, rfl, by omega, n2, good_cut hf, hv, fun j hj => by unfold cutF; rw [if_neg (by omega)]⟩
      · exact .inr ⟨hs, .inr (.inr ⟨h, rfl, by omega, .inl n⟩)⟩
end Go.Proofs.Ytdlhihllmidfeaa

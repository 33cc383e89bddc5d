/- Made states of layer 1: SpoilNode at a subtree; drawn: some tree. -/
import Derived.Test.YtdlhihllmidfeaaSp11
import Derived.Test.YtdlhihllmidfeaaSp8
import Derived.Test.YtdlhihllmidfeaaRm8
namespace Go.Proofs.Ytdlhihllmidfeaa
open Go.RowKit Go.Mine

theorem getD_set {M : List Kdn} {k j : Nat} {q : Kdn} (hk : k < M.length) : (M.set k q).getD j knZ = if j = k then q else M.getD j knZ := by
  by_cases e : j = k
  · subst e
    rw [if_pos rfl, List.getD, List.getElem?_set_self hk]; rfl
  · rw [if_neg e, List.getD, List.getElem?_set_ne (Ne.symm e), List.getD]
theorem spoil_f : ∀ (h : Nat) (f : Fen) (s : Value) (x m at' by' : Int) (C : Nat → Prop) (w : World), NodeF w C h f s x m → GoodF f → (∀ b, C b → b < w.heap.size) → Calls Try.prog 39 #[nodeV s x m, .int .i64 at', .int .i64 by'] w (RetAny C h w) := by
  intro h
  induction h with
  | zero =>
    intro f s x m at' by' C w n hf hC
    obtain ⟨⟨a, c, rfl⟩, e2, e3⟩ := n
    exact spoil_core 0 a c x m at' by' [] w (.inl rfl) (.inl rfl) C hC (by rw [e2]; exact (hf 0).1) (fun w3 B a2 c2 x' m' _ _ hx => any_ne (show ¬(0 : Nat) = 4 by decide) hx) (fun k hk => absurd hk (by simp))
  | succ h ih =>
    intro f s x m at' by' C w n hf hC
    cases he : emp (h + 1) f
    · obtain ⟨g, c, rfl, rfl, hg, hk⟩ := n.kids he
      obtain ⟨M, hl, hnews, hkd⟩ := kids_list (P := fun k s' x' m' => NodeF w C h (sub h f k) s' x' m') hk (fun k s x m n => n.slice)
      have kept : ∀ w3 : World, (∀ b, C b → w3.heap[b]? = w.heap[b]?) → ∀ k, k < 4 → KnP (fun s' x' m' => NodeF w3 C h (sub h f k) s' x' m') (M.getD k knZ) := fun w3 hold k hk4 => NodeF.keep (hkd k hk4) (fun _ a _ => a) (fun b hb _ => hold b hb)
      have node : ∀ (w3 : World) B a2 c2 x' m' (M' : List Kdn), M'.length = 4 → RwK w3 B (.slice a2 M'.length c2) M' → (∀ k, k < 4 → KnP (AnyF w3 h) (M'.getD k knZ)) → AnyF w3 (h + 1) (.slice a2 M'.length c2) x' m' := fun w3 B a2 c2 x' m' M' hl' R hp => by
        obtain ⟨g', rfl, -⟩ := rwK_at R (k := 0) (by omega)
        rw [hl']
        rw [hl'] at R
        exact anyF_node fun k hk4 => rwK_kid R (by omega) (hp k hk4)
      have := spoil_core (h + 1) (some ⟨g, 0, none⟩) c 0 m at' by' M w (.inr ⟨g, rfl, hnews⟩) (.inr hl) C hC (by decide)
        (fun w3 B a2 c2 x' m' R hold _ => node w3 B a2 c2 x' m' M hl R fun k hk4 => .inl ⟨_, NodeF.any (kept w3 hold k hk4), hf.sub h k⟩)
        (fun k hkl at2 by2 w1 hC1 hold => by
          have hk4 : k < 4 := by omega
          refine (ih (sub h f k) _ _ _ at2 by2 C w1 (kept w1 hold k hk4) (hf.sub h k) hC1).mono ?_
          rintro e w' ⟨q, e1, G, hq⟩
          refine ⟨q, e1, G, fun w3 B a2 c2 x' m' hs R _ => ?_⟩
          have hold3 : ∀ b, C b → w3.heap[b]? = w.heap[b]? := fun b hb => (hs.2 b (Nat.lt_of_lt_of_le (hC1 b hb) G.size) (.inl hb)).trans ((Below.block G b (hC1 b hb)).trans (hold b hb))
          have hl2 : (M.set k q).length = M.length := by simp
          rw [← hl2] at R ⊢
          refine node w3 B a2 c2 x' m' (M.set k q) (by simp [hl]) R fun j hj => ?_
          rw [getD_set hkl]
          by_cases ej : j = k
          · rw [if_pos ej]; exact hq w3 hs
          · rw [if_neg ej]; exact .inl ⟨_, NodeF.any (kept w3 hold3 j hj), hf.sub h j⟩)
      rw [hl] at this
      exact this
    · rcases n.show_ hf with ⟨-, rfl, rfl, a, c, rfl⟩ | ⟨e2, -⟩
      · exact spoil_core (h + 1) a c 0 0 at' by' [] w (.inl rfl) (.inl rfl) C hC (by decide) (fun w3 B a2 c2 x' m' _ _ hx => any_ne (show ¬(0 : Nat) = 4 by decide) hx) (fun k hk => absurd hk (by simp))
      · rw [he] at e2; cases e2
end Go.Proofs.Ytdlhihllmidfeaa

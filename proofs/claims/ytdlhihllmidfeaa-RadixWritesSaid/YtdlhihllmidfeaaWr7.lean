/- A tree that stays while its own variable and the tape are written (layer 1). -/
import Derived.Test.YtdlhihllmidfeaaWr5
import Derived.Test.YtdlhihllmidfeaaSp13
import Derived.Test.YtdlhihllmidfeaaTape
import Derived.BigQuiet
namespace Go.Proofs.Ytdlhihllmidfeaa
open Go.RowKit Go.Mine

/-- All blocks but two stand as they were. -/
def KeepX (tb tk : Nat) (w w' : World) : Prop := w.heap.size ≤ w'.heap.size ∧ ∀ b, b < w.heap.size → b ≠ tb → b ≠ tk → w'.heap[b]? = w.heap[b]?
theorem KeepX.refl (tb tk : Nat) (w : World) : KeepX tb tk w w := ⟨Nat.le_refl _, fun _ _ _ _ => rfl⟩
theorem KeepX.of {tb tk : Nat} {w w' : World} (G : Grew w w') : KeepX tb tk w w' := ⟨G.size, fun b hb _ _ => Below.block G b hb⟩
theorem KeepX.tape {tb tk : Nat} {w w' : World} (k : w.grownBy w' (some tk)) : KeepX tb tk w w' := ⟨k.size, fun b hb _ h => k.block b hb (fun e => by injection e with e; exact h e)⟩
theorem KeepX.trans {tb tk : Nat} {w w1 w' : World} (h : KeepX tb tk w w1) (k : KeepX tb tk w1 w') : KeepX tb tk w w' := ⟨Nat.le_trans h.1 k.1, fun b hb h1 h2 => (k.2 b (Nat.lt_of_lt_of_le hb h.1) h1 h2).trans (h.2 b hb h1 h2)⟩
theorem KeepX.store {tb tk : Nat} {w w' : World} {x y z u : Value} (hw : (((w.setCell ⟨tb, 0, none⟩ x).setCell ⟨tb, 1, none⟩ y).setCell ⟨tb, 2, none⟩ z).setCell ⟨tb, 3, none⟩ u = w') : KeepX tb tk w w' := by
  subst hw
  refine ⟨by simp [World.setCell], fun b _ hb _ => ?_⟩
  rw [Below.heap_setCell _ ⟨tb, 3, none⟩ _ b hb, Below.heap_setCell _ ⟨tb, 2, none⟩ _ b hb, Below.heap_setCell _ ⟨tb, 1, none⟩ _ b hb, Below.heap_setCell _ ⟨tb, 0, none⟩ _ b hb]
def TvX (tb tk : Nat) (w : World) (H : Int) (s : Value) (x m : Int) (o : Option Fen) : Prop := ∀ w', KeepX tb tk w w' → TvO w' H s x m o
theorem TvX.at {tb tk : Nat} {w : World} {H : Int} {s : Value} {x m : Int} {o : Option Fen} (t : TvX tb tk w H s x m o) : TvO w H s x m o := t w (KeepX.refl _ _ _)
theorem TvX.step {tb tk : Nat} {w w1 : World} {H : Int} {s : Value} {x m : Int} {o : Option Fen} (t : TvX tb tk w H s x m o) (k : KeepX tb tk w w1) : TvX tb tk w1 H s x m o := fun w' h => t w' (k.trans h)
/-- A tree whose blocks came later than both. -/
theorem TvX.new {tb tk : Nat} {w : World} {k : Nat} {F : Fen} {s : Value} {x m : Int} (hb : tb < tk) (n : TreeF w (fun b => tk < b) k F s x m) : TvX tb tk w k s x m (some F) := fun _ h =>
  ⟨k, rfl, n.le, (n.node.keep (fun _ a _ => a) (fun b hbb hl => h.2 b hl (by omega) (by omega))).any, n.2.2⟩
theorem TreeF.keepX {tb tk : Nat} {w w' : World} {k : Nat} {F : Fen} {s : Value} {x m : Int} (hb : tb < tk) (n : TreeF w (fun b => tk < b) k F s x m) (h : KeepX tb tk w w') : TreeF w' (fun b => tk < b) k F s x m :=
  ⟨n.le, n.node.keep (fun _ a _ => a) (fun b hbb hl => h.2 b hl (by omega) (by omega)), n.2.2⟩
/-- A tree that came ahead of both. -/
theorem TvX.old {tb tk : Nat} {w1 w : World} {H : Int} {s : Value} {x m : Int} {L : List En} (t : TreeL w1 H s x m L) (h1 : w1.heap.size ≤ tb) (h2 : w1.heap.size ≤ tk) (k : Keeps w1 w) : ∃ o, TvX tb tk w H s x m o := by
  have kk : ∀ w', KeepX tb tk w w' → Keeps w1 w' := fun w' h => ⟨Nat.le_trans k.1 h.1, fun b hb => (h.2 b (Nat.lt_of_lt_of_le hb k.1) (by omega) (by omega)).trans (k.2 b hb)⟩
  rcases t with ⟨hh, f, rfl, n, -⟩ | ⟨b, -⟩
  · exact ⟨some f, fun w' h => ⟨hh, rfl, n.1, NodeF.keeps n.2.1 (kk w' h), n.2.2⟩⟩
  · exact ⟨none, fun w' h => BadT.keeps b (kk w' h)⟩

def TapN (N : Nat) (w : World) (b : Nat) : Prop := ∃ A c xs i, i ≤ xs.length ∧ xs.length ≤ maxLen ∧ IntRow w A xs ∧ (xs ≠ [] → ∀ x o, A = some ⟨x, o, none⟩ → x < N) ∧ N ≤ b ∧
  w.cell? ⟨b, 0, none⟩ = some (.slice A xs.length c) ∧ w.cell? ⟨b, 1, none⟩ = some (.int .i64 (i : Nat)) ∧ w.frozen? ⟨b, 1, none⟩ = false
theorem TapN.lt {N b : Nat} {w : World} (h : TapN N w b) : b < w.heap.size := by
  obtain ⟨A, c, xs, i, -, -, -, -, -, h0, -⟩ := h
  exact World.block_lt_of_cell? w _ h0
theorem TapN.since {N b : Nat} {w w' : World} (h : TapN N w b) (hs : w.heap.size ≤ w'.heap.size) (hk : ∀ k, (k < N ∨ k = b) → k < w.heap.size → w'.heap[k]? = w.heap[k]?) : TapN N w' b := by
  have hb := h.lt
  obtain ⟨A, c, xs, i, h1, h2, h3, h4, h5, h6, h7, h8⟩ := h
  have hk' := hk b (.inr rfl) hb
  refine ⟨A, c, xs, i, h1, h2, ⟨?_, h3.2⟩, h4, h5, (World.cell?_of_block (a := ⟨b, 0, none⟩) hk').trans h6, (World.cell?_of_block (a := ⟨b, 1, none⟩) hk').trans h7, (World.frozen?_of_block (a := ⟨b, 1, none⟩) hk').trans h8⟩
  by_cases hn : xs = []
  · exact .inl hn
  · rcases h3.1 with h | ⟨x, o, hA, hx, hc⟩
    · exact .inl h
    · exact .inr ⟨x, o, hA, by omega, fun k hk2 => (World.cell?_of_block (hk x (.inl (h4 hn x o hA)) hx)).trans (hc k hk2)⟩
theorem TapN.grew {N b : Nat} {w w' : World} (h : TapN N w b) (g : Grew w w') : TapN N w' b := h.since g.size fun k _ hk => Below.block g k hk
theorem TapN.kept {N b r : Nat} {w w' : World} (h : TapN N w b) (g : w.grownBy w' (some r)) (hr : N ≤ r) (hb : r ≠ b) : TapN N w' b :=
  h.since g.size fun k hk hl => g.block k hl (fun e => by injection e with e; rcases hk with hk | hk <;> omega)
theorem TapN.made {N : Nat} {w w1 : World} {A : Option Addr} {xs : List Int} (h : IntRow w A xs) (hm : xs.length ≤ maxLen) (hN : w.heap.size = N) (G : Grew w w1) (c : Nat) (t : TypeId) :
    TapN N (w1.alloc (.cells #[.slice A xs.length c, .int .i64 0] t)) w1.heap.size := by
  have hs := G.size
  have O := Own.new w1 t #[.slice A xs.length c, .int .i64 0]
  refine ⟨A, c, xs, 0, Nat.zero_le _, hm, introw_grew (introw_grew h G) ((Grew.refl w1).alloc _), fun hne x o e => ?_, by omega, (O.cell 0).trans rfl, (O.cell 1).trans rfl, O.frozen 1⟩
  rcases h.1 with h | ⟨b, o', hA, hb, -⟩
  · exact absurd h hne
  · rw [hA] at e
    injection e with e
    injection e with e
    omega
def RetNN (n : Int) (N b : Nat) (w : World) (e : Ending) (w' : World) : Prop := ∃ q : Int, 0 ≤ q ∧ q < n ∧ e = .returned (.int .i64 q) ∧ TapN N w' b ∧ w.grownBy w' (some b)
set_option maxHeartbeats 1000000 in
theorem next_n (N b : Nat) (n : Int) (w : World) (h0 : 1 ≤ n) (h1 : n ≤ 1000000) (ht : TapN N w b) : Calls Try.prog 12 #[.pointer (some ⟨b, 0, none⟩), .int .i64 n] w (RetNN n N b w) := by
  obtain ⟨A, c, xs, i, hi, hm, hrow, hne, hbB, hc0, hc1, hfz⟩ := ht
  unfold maxLen at hm
  by_cases hlt : i < xs.length
  · rcases hrow.1 with hnil | ⟨x, o, rfl, hx, hc⟩
    · simp [hnil] at hlt
    have hci := hc i hlt
    have hxN := hne (fun e => by simp [e] at hlt) x o rfl
    have HR := Lib.hid hrow
    have HN := Lib.hid hne
    clear hc hrow hne
    go_enter Try.func12, Try.ntmps12
    go_wp2
    go_quiet (fail)
    revert nq; intro nq1
    go_wp2
    go_quiet ((go_at_call 38; exact Calls.quiet_of_same (cut_quiet _ _ _ h0 h1)))
    go_wp2
    go_ret
    have hg : w.grownBy (((w.drewN nq1).setCell ⟨b, 1, none⟩ (.int .i64 ((i : Int) + 1))).drewN nq) (some b) := grown_drewN (grown_set (grown_drewN (grown_refl _ _) _) (.inl rfl) _) _
    have hcl := cut_lt (xs.getD i 0) n (by omega)
    refine ⟨cut (xs.getD i 0) n, hcl.1, hcl.2, ?_, ⟨some ⟨x, o, none⟩, c, xs, i + 1, by omega, by unfold maxLen; omega, ?_, HN.out, hbB, ?_, ?_, ?_⟩, hg⟩
    · simp [List.getD, hlt]
    · exact HR.out.kept hg.size (fun b' o' e => by injection e with e; injection e with e1 e2; subst e1; exact hg.block _ hx (fun e => by injection e with e; omega))
    · go_simp
    · go_simp
    · go_simp
  · have : i = xs.length := by omega
    subst this
    go_enter Try.func12, Try.ntmps12
    go_wp2
    go_quiet (fail)
    go_wp2
    go_ret
    exact ⟨0, by omega, by omega, rfl, ⟨A, c, xs, xs.length, Nat.le_refl _, hm, hrow, hne, hbB, hc0, hc1, hfz⟩, grown_drewN (grown_refl _ _) _⟩
def RetEN (N b : Nat) (w : World) (e : Ending) (w' : World) : Prop := ∃ q : Bool, e = .returned (.bool q) ∧ TapN N w' b ∧ Grew w w'
theorem end_n (N b : Nat) (w : World) (ht : TapN N w b) : Calls Try.prog 27 #[.pointer (some ⟨b, 0, none⟩)] w (RetEN N b w) := by
  have HT := Lib.hid ht
  obtain ⟨A, c, xs, i, hi, hm, hrow, hne, hbB, hc0, hc1, hfz⟩ := ht
  clear hrow hne hm hi
  go_enter Try.func27, Try.ntmps27
  go_wp2
  go_quiet (fail)
  go_wp2
  go_ret
  exact ⟨_, rfl, HT.out.grew ((Grew.refl w).drewN _), (Grew.refl w).drewN _⟩
end Go.Proofs.Ytdlhihllmidfeaa

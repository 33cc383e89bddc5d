/- Made lists and what the scans leave of them (layer 8): words for the laws. -/
import Derived.Test.YteaofieijginhaaLp11
import Derived.Test.YteaofieijginhaaLf8
import Derived.Test.YteaofieijginhaaLrM
import Derived.BigQuiet
namespace Go.Proofs.Yteaofieijginhaa
open Go.RowKit Go.Mine

theorem scnN_r {h : Int → Bool} {L : List Int} {n : Int} : ∀ (k : Nat) (s : Lr × List Int), (scnN h L n k s).1.r.length ≤ s.1.r.length
  | 0, _ => Nat.le_refl _
  | k + 1, s => by
    unfold scnN
    split
    · refine Nat.le_trans (scnN_r k _) ?_
      unfold scnS
      cases h (L.getD k 0)
      · cases decide (L.getD k 0 ∈ s.1.r)
        · exact Nat.le_refl _
        · exact wol_len _ _
      · exact Nat.le_refl _
    · exact Nat.le_refl _
theorem scnN_v {h : Int → Bool} {L : List Int} {n : Int} : ∀ (k : Nat) (s : Lr × List Int), (scnN h L n k s).2.length ≤ s.2.length + k
  | 0, _ => Nat.le_refl _
  | k + 1, s => by
    unfold scnN
    split
    · have h1 := scnN_v (h := h) (L := L) (n := n) k (scnS h (L.getD k 0) s)
      have h2 : (scnS h (L.getD k 0) s).2.length ≤ s.2.length + 1 := by
        unfold scnS
        cases h (L.getD k 0)
        · cases decide (L.getD k 0 ∈ s.1.r)
          · show (s.2 ++ [L.getD k 0]).length ≤ _
            simp
          · exact Nat.le_succ _
        · exact Nat.le_succ _
      omega
    · omega
theorem scnF_v {x : Lr} {n : Int} {h : Int → Bool} : (scnF x n h).2.length ≤ x.i.length := by
  unfold scnF
  split
  · exact Nat.zero_le _
  · have := scnN_v (h := h) (L := x.i) (n := n) x.i.length (x, [])
    simpa using this
theorem ln_scn {x : Lr} {n : Int} {h : Int → Bool} {k : Nat} (hok : OkP x) (hl : LnP k x) : LnP k (scnF x n h).1 := by
  have hp := (ok_scn (n := n) (held := h) hok).2.1.length_eq
  unfold Lr.all at hp
  rw [List.length_append, List.length_append] at hp
  refine ⟨by rw [hp]; exact hl.1, ?_⟩
  have : (scnF x n h).1.r.length ≤ x.r.length := by
    unfold scnF
    split
    · exact Nat.le_refl _
    · exact scnN_r _ _
  exact Nat.le_trans this hl.2
theorem scnF_held {x : Lr} {n g : Int} {h : Int → Bool} (hg : g ∈ (scnF x n h).2) : h g = false := by
  unfold scnF at hg
  split at hg
  · simp at hg
  · rcases scn_held _ hg with h1 | h1
    · simp at h1
    · exact h1
theorem LrR.keptG {w w' : World} {B : Nat} {va vi vr : Value} {x : Lr} (h : LrR w B va vi vr x) {b : Nat} (g : w.grownBy w' (some b)) (hb : Far3 b va vi vr) : LrR w' B va vi vr x :=
  ⟨RowE.keptG h.a g (fun k e => by injection e with e; exact e ▸ hb.1), RowE.keptG h.i g (fun k e => by injection e with e; exact e ▸ hb.2.1), RowE.keptG h.r g (fun k e => by injection e with e; exact e ▸ hb.2.2)⟩
theorem Far3.of_lt {w : World} {B b : Nat} {va vi vr : Value} {x : Lr} (h : LrR w B va vi vr x) (hb : w.heap.size ≤ b) : Far3 b va vi vr :=
  ⟨fun e => by have := h.a.lt _ e; omega, fun e => by have := h.i.lt _ e; omega, fun e => by have := h.r.lt _ e; omega⟩
/-- Block b is a tape whose numbers lie below block N. -/
def TapN (N : Nat) (w : World) (b : Nat) : Prop := ∃ A c xs i, i ≤ xs.length ∧ xs.length ≤ maxLen ∧ IntRow w A xs ∧ (xs ≠ [] → ∀ x o, A = some ⟨x, o, none⟩ → x < N) ∧ N ≤ b ∧
  w.cell? ⟨b, 0, none⟩ = some (.slice A xs.length c) ∧ w.cell? ⟨b, 1, none⟩ = some (.int .i64 (i : Nat)) ∧ w.frozen? ⟨b, 1, none⟩ = false
theorem TapN.lt {N b : Nat} {w : World} (h : TapN N w b) : b < w.heap.size := by
  obtain ⟨A, c, xs, i, -, -, -, -, -, h0, -⟩ := h
  exact World.block_lt_of_cell? w _ h0
theorem TapN.since {N b : Nat} {w w' : World} (h : TapN N w b) (hs : w.heap.size ≤ w'.heap.size) (hk : ∀ k, (k < N ∨ k = b) → k < w.heap.size → w'.heap[k]? = w.heap[k]?) : TapN N w' b := by
  have hb := h.lt
  obtain ⟨A, c, xs, i, h1, h2, h3, h4, h5, h6, h7, h8⟩ := h
  have hk' := hk b (.inr rfl) hb
  refine ⟨A, c, xs, i, h1, h2, ⟨?_, h3.2⟩, h4, h5, (World.cell?_of_block (a := ⟨b, 0, none⟩) hk').trans h6, (World.cell?_of_block (a := ⟨b, 1, none⟩) hk').trans h7, (World.frozen?_of_block (a := ⟨b, 1, none⟩) hk').trans h8⟩
  by_cases hn : xs = []
  · exact .inl hn
  · rcases h3.1 with h | ⟨x, o, hA, hx, hc⟩
    · exact .inl h
    · exact .inr ⟨x, o, hA, by omega, fun k hk2 => (World.cell?_of_block (hk x (.inl (h4 hn x o hA)) hx)).trans (hc k hk2)⟩
theorem TapN.grew {N b : Nat} {w w' : World} (h : TapN N w b) (g : Grew w w') : TapN N w' b := h.since g.size fun k _ hk => Below.block g k hk
theorem TapN.kept {N b r : Nat} {w w' : World} (h : TapN N w b) (g : w.grownBy w' (some r)) (hr : N ≤ r) (hb : r ≠ b) : TapN N w' b :=
  h.since g.size fun k hk hl => g.block k hl (fun e => by injection e with e; rcases hk with hk | hk <;> omega)
theorem TapN.made {N : Nat} {w w1 : World} {A : Option Addr} {xs : List Int} (h : IntRow w A xs) (hm : xs.length ≤ maxLen) (hN : w.heap.size = N) (G : Grew w w1) (c : Nat) (t : TypeId) :
    TapN N (w1.alloc (.cells #[.slice A xs.length c, .int .i64 0] t)) w1.heap.size := by
  have hs := G.size
  have O := Mine.Own.new w1 t #[.slice A xs.length c, .int .i64 0]
  refine ⟨A, c, xs, 0, Nat.zero_le _, hm, (h.grew G).grew ((Grew.refl w1).alloc _), fun hne x o e => ?_, by omega, (O.cell 0).trans rfl, (O.cell 1).trans rfl, O.frozen 1⟩
  rcases h.1 with h | ⟨b, o', hA, hb, -⟩
  · exact absurd h hne
  · rw [hA] at e
    injection e with e
    injection e with e
    omega
def RetNN (n : Int) (N b : Nat) (w : World) (e : Ending) (w' : World) : Prop := ∃ q : Int, 0 ≤ q ∧ q < n ∧ e = .returned (.int .i64 q) ∧ TapN N w' b ∧ w.grownBy w' (some b)
set_option maxHeartbeats 1000000 in
theorem next_n (N b : Nat) (n : Int) (w : World) (h0 : 1 ≤ n) (h1 : n ≤ 1000000) (ht : TapN N w b) : Calls Try.prog 10 #[.pointer (some ⟨b, 0, none⟩), .int .i64 n] w (RetNN n N b w) := by
  obtain ⟨A, c, xs, i, hi, hm, hrow, hne, hbB, hc0, hc1, hfz⟩ := ht
  unfold maxLen at hm
  by_cases hlt : i < xs.length
  · rcases hrow.1 with hnil | ⟨x, o, rfl, hx, hc⟩
    · simp [hnil] at hlt
    have hci := hc i hlt
    have hxN := hne (fun e => by simp [e] at hlt) x o rfl
    have HR := Lib.hid hrow
    have HN := Lib.hid hne
    clear hc hrow hne
    go_enter Try.func10, Try.ntmps10
    go_wp2
    go_quiet (fail)
    revert nq; intro nq1
    go_wp2
    go_quiet ((go_at_call 25; exact Calls.quiet_of_same (cut_quiet _ _ _ h0 h1)))
    go_wp2
    go_ret
    have hg : w.grownBy (((w.drewN nq1).setCell ⟨b, 1, none⟩ (.int .i64 ((i : Int) + 1))).drewN nq) (some b) := grown_drewN (grown_set (grown_drewN (grown_refl _ _) _) (.inl rfl) _) _
    have hcl := cut_lt (xs.getD i 0) n (by omega)
    refine ⟨cut (xs.getD i 0) n, hcl.1, hcl.2, ?_, ⟨some ⟨x, o, none⟩, c, xs, i + 1, by omega, by unfold maxLen; omega, ?_, HN.out, hbB, ?_, ?_, ?_⟩, hg⟩
    · simp [List.getD, hlt]
    · exact HR.out.kept hg.size (fun b' o' e => by injection e with e; injection e with e1 e2; subst e1; exact hg.block _ hx (fun e => by injection e with e; omega))
    · go_simp
    · go_simp
    · go_simp
  · have : i = xs.length := by omega
    subst this
    go_enter Try.func10, Try.ntmps10
    go_wp2
    go_quiet (fail)
    go_wp2
    go_ret
    exact ⟨0, by omega, by omega, rfl, ⟨A, c, xs, xs.length, Nat.le_refl _, hm, hrow, hne, hbB, hc0, hc1, hfz⟩, grown_drewN (grown_refl _ _) _⟩
/-- What stands behind a step of the made lists: the box sb holds the right lists y; the tape stands behind it. -/
def LrSt (w : World) (k sb : Nat) (wx : World) : Prop := ∃ (y : Lr) (a1 : Option Addr) (c1 : Nat) (a2 : Option Addr) (c2 : Nat) (a3 : Option Addr) (c3 : Nat), OkP y ∧ LnP k y ∧
  LrR wx (w.heap.size + 1) (.slice a1 y.a.length c1) (.slice a2 y.i.length c2) (.slice a3 y.r.length c3) y ∧ Far3 sb (.slice a1 y.a.length c1) (.slice a2 y.i.length c2) (.slice a3 y.r.length c3) ∧ Far3 (sb + 1) (.slice a1 y.a.length c1) (.slice a2 y.i.length c2) (.slice a3 y.r.length c3) ∧
  Mine.Own wx sb 27 #[.slice a1 y.a.length c1, .slice a2 y.i.length c2, .slice a3 y.r.length c3] ∧ TapN w.heap.size wx (sb + 1) ∧ Grew w wx
end Go.Proofs.Yteaofieijginhaa

/- pagecacheref01.sameNode at two subtrees of one function: true. -/
import Derived.Test.YtdlhihllmidfeaaRm4
namespace Go.Proofs.Ytdlhihllmidfeaa
open Go.RowKit Go.Mine

theorem same_flat (a a2 : Option Addr) (c c2 : Nat) (x m : Int) (w : World) : Calls Try.prog 59 #[nodeV (.slice a 0 c) x m, nodeV (.slice a2 0 c2) x m] w (RetG (.bool true) w) := by
  go_enter Try.func59, Try.ntmps59
  go_wp2
  refine wp_loop_rounds 1 ?_; rw [rounds_succ]
  go_wp2
  go_ret
  exact ⟨rfl, ((Grew.refl w).alloc _).alloc _⟩
set_option maxHeartbeats 2000000 in
theorem same_node (h : Nat) (ih : ∀ (f : Fen) (s s2 : Value) (x x2 m m2 : Int) (p q : Nat → Prop) (w : World), NodeF w p h f s x m → NodeF w q h f s2 x2 m2 → GoodF f → Calls Try.prog 59 #[nodeV s x m, nodeV s2 x2 m2] w (RetG (.bool true) w))
    (f : Fen) (g g2 c c2 : Nat) (m : Int) (p q : Nat → Prop) (w : World) (k1 : KidsF w p h f g) (k2 : KidsF w q h f g2) (hf : GoodF f) :
    Calls Try.prog 59 #[nodeV (.slice (some ⟨g, 0, none⟩) 4 c) 0 m, nodeV (.slice (some ⟨g2, 0, none⟩) 4 c2) 0 m] w (RetG (.bool true) w) := by
  have K1 := Lib.hid k1
  have K2 := Lib.hid k2
  have HF := Lib.hid hf
  have IH := Lib.hid ih
  clear k1 k2 hf ih
  go_enter Try.func59, Try.ntmps59
  have A0 := (Own.new w 26 #[.slice (some ⟨g, 0, none⟩) 4 c, .int .i64 0, .int .i64 m]).alloc (.cells #[.slice (some ⟨g2, 0, none⟩) 4 c2, .int .i64 0, .int .i64 m] 26)
  have B0 := Own.new2 w (.cells #[.slice (some ⟨g, 0, none⟩) 4 c, .int .i64 0, .int .i64 m] 26) 26 #[.slice (some ⟨g2, 0, none⟩) 4 c2, .int .i64 0, .int .i64 m]
  have G0 := ((Grew.refl w).alloc (.cells #[.slice (some ⟨g, 0, none⟩) 4 c, .int .i64 0, .int .i64 m] 26)).alloc (.cells #[.slice (some ⟨g2, 0, none⟩) 4 c2, .int .i64 0, .int .i64 m] 26)
  have HA := Lib.hid A0
  have HB := Lib.hid B0
  have HG := Lib.hid G0
  clear A0 B0 G0
  go_wp2_with fail
  go_loopw [5] (fun i wr => ∃ k : Nat, i = .int .i64 k ∧ k ≤ 4 ∧ Own wr w.heap.size 26 #[.slice (some ⟨g, 0, none⟩) 4 c, .int .i64 0, .int .i64 m] ∧ Own wr (w.heap.size + 1) 26 #[.slice (some ⟨g2, 0, none⟩) 4 c2, .int .i64 0, .int .i64 m] ∧ Grew w wr) (fun i _ => 4 - (intOf i).toNat)
  case atStart => exact ⟨0, rfl, by omega, HA.out, HB.out, HG.out⟩
  case round =>
    clear HA HB HG
    obtain ⟨k, rfl, hk4, A, B, G⟩ := hrel
    obtain ⟨A0, A1, A2, -⟩ := A.three
    obtain ⟨B0, B1, B2, -⟩ := B.three
    by_cases hlt : k < 4
    · obtain ⟨s', x', m', c0, c1, c2', n⟩ := K1.out.grew G k hlt
      obtain ⟨t', y', z', d0, d1, d2, n2⟩ := K2.out.grew G k hlt
      obtain ⟨a1, j1, q1, rfl⟩ := n.slice
      obtain ⟨a2, j2, q2, rfl⟩ := n2.slice
      have hk0 : (0 : Int) ≤ (k : Int) := by omega
      have hk1 : (k : Int) < 4 := by omega
      have HN1 := Lib.hid (n.grew (Grew.refl wr).drew)
      have HN2 := Lib.hid (n2.grew (Grew.refl wr).drew)
      have hg1 := World.block_lt_of_cell? wr _ c0
      have hg2 := World.block_lt_of_cell? wr _ d0
      have HA := Lib.hid A.drew
      have HB := Lib.hid B.drew
      have HG := Lib.hid G.drew
      clear n n2 A B G
      go_upto_region 6 with fail
      go_region_held3 (fun w' => (w'.cell? ⟨w.heap.size, 0, none⟩ = some (.slice (some ⟨g, 0, none⟩) 4 c) ∧ w'.cell? ⟨w.heap.size + 1, 0, none⟩ = some (.slice (some ⟨g2, 0, none⟩) 4 c2)) ∧
          (w'.cell? ⟨g, k * 3, none⟩ = some (.slice a1 j1 q1) ∧ w'.cell? ⟨g, k * 3 + 1, none⟩ = some (.int .i64 x') ∧ w'.cell? ⟨g, k * 3 + 2, none⟩ = some (.int .i64 m')) ∧
          (w'.cell? ⟨g2, k * 3, none⟩ = some (.slice a2 j2 q2) ∧ w'.cell? ⟨g2, k * 3 + 1, none⟩ = some (.int .i64 y') ∧ w'.cell? ⟨g2, k * 3 + 2, none⟩ = some (.int .i64 z')))
        (refine ⟨⟨?_, ?_⟩, ⟨?_, ?_, ?_⟩, ?_, ?_, ?_⟩ <;> (repeat (first | (with_reducible assumption) | (with_reducible refine far_drew ?_))))
        (first | (go_at_call 59; (with_reducible refine (IH.out (sub h f k) _ _ _ _ _ _ p q wr.drew HN1.out HN2.out (HF.out.sub _ _)).mono ?_); rintro e w2 ⟨rfl, g3⟩; have u0 := (g3.cells.1 g _ hg1).trans c0; have u1 := (g3.cells.1 g _ hg1).trans c1; have u2 := (g3.cells.1 g _ hg1).trans c2'; have v0 := (g3.cells.1 g2 _ hg2).trans d0; have v1 := (g3.cells.1 g2 _ hg2).trans d1; have v2 := (g3.cells.1 g2 _ hg2).trans d2; have AA := HA.out.grew g3; have BB := HB.out.grew g3; have GG := HG.out.trans g3; clear A0 A1 A2 B0 B1 B2 c0 c1 c2' d0 d1 d2; obtain ⟨A0, A1, A2, -⟩ := AA.three; obtain ⟨B0, B1, B2, -⟩ := BB.three))
      go_wp2_with fail
      go_roundw
      case rel => exact ⟨k + 1, by go_num, by omega, AA, BB, GG⟩
      case measure => simp [intOf]; omega
    · have hk : k = 4 := by omega
      subst hk
      go_wp2
      go_ret
      exact ⟨rfl, G⟩
theorem same_f : ∀ (h : Nat) (f : Fen) (s s2 : Value) (x x2 m m2 : Int) (p q : Nat → Prop) (w : World), NodeF w p h f s x m → NodeF w q h f s2 x2 m2 → GoodF f → Calls Try.prog 59 #[nodeV s x m, nodeV s2 x2 m2] w (RetG (.bool true) w) := by
  intro h
  induction h with
  | zero =>
    intro f s s2 x x2 m m2 p q w n n2 hf
    obtain ⟨⟨a, c, rfl⟩, rfl, rfl⟩ := n
    obtain ⟨⟨a2, c2, rfl⟩, rfl, rfl⟩ := n2
    exact same_flat a a2 c c2 _ _ w
  | succ h ih =>
    intro f s s2 x x2 m m2 p q w n n2 hf
    cases he : emp (h + 1) f
    · obtain ⟨g, c, rfl, rfl, -, k1⟩ := n.kids he
      obtain ⟨g2, c2, rfl, rfl, -, k2⟩ := n2.kids he
      have e1 := n.marks
      have e2 := n2.marks
      subst e1
      subst e2
      exact same_node h ih f g g2 c c2 _ p q w k1 k2 hf
    · rcases n.show_ hf with ⟨-, rfl, rfl, a, c, rfl⟩ | ⟨e2, -⟩
      · rcases n2.show_ hf with ⟨-, rfl, rfl, a2, c2, rfl⟩ | ⟨e2, -⟩
        · exact same_flat a a2 c c2 0 0 w
        · rw [he] at e2; cases e2
      · rw [he] at e2; cases e2
theorem Same_f (h : Nat) (f : Fen) (s s2 : Value) (x x2 m m2 : Int) (p q : Nat → Prop) (w : World) (n : NodeF w p h f s x m) (n2 : NodeF w q h f s2 x2 m2) (hf : GoodF f) :
    Calls Try.prog 34 #[treeV h s x m, treeV h s2 x2 m2] w (RetG (.bool true) w) := by
  obtain ⟨a, j, c, rfl⟩ := n.slice
  obtain ⟨a2, j2, c2, rfl⟩ := n2.slice
  have HN := Lib.hid n
  have HN2 := Lib.hid n2
  have HF := Lib.hid hf
  clear n n2 hf
  go_enter Try.func34, Try.ntmps34
  have G := ((Grew.refl w).alloc (.cells #[.int .i64 h, .slice a j c, .int .i64 x, .int .i64 m] 28)).alloc (.cells #[.int .i64 h, .slice a2 j2 c2, .int .i64 x2, .int .i64 m2] 28)
  go_wp2_with fail
  with_reducible refine (same_f h f _ _ _ _ _ _ p q _ (HN.out.grew G) (HN2.out.grew G) HF.out).mono ?_
  rintro e w1 ⟨rfl, g1⟩
  go_wp2
  go_ret
  exact ⟨rfl, G.trans g1⟩
end Go.Proofs.Ytdlhihllmidfeaa

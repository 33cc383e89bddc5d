/- radix.lowered, radix.replace, radix.Set. -/
import Derived.Test.YtdlhihllmidfeaaRx6
import Derived.Deep.LoopGhost
namespace Go.Proofs.Ytdlhihllmidfeaa
open Go.RowKit Go.Mine

/-- The height of the lowest tree that has the entries. -/
def low : Nat → Fen → Nat
  | 0, _ => 0
  | k + 1, f => match onlyB k f with | true => low k f | false => k + 1
theorem sub_zero (k : Nat) (f : Fen) : sub k f 0 = f := by funext j; unfold sub; rw [Nat.zero_mul, Nat.zero_add]
section
variable {w w' : World} {K : Nat} {s x m y : Value} (hw : (((w.setCell ⟨K, 0, none⟩ s).setCell ⟨K, 1, none⟩ x).setCell ⟨K, 2, none⟩ m).setCell ⟨K, 3, none⟩ y = w')
include hw
theorem heap4 (b : Nat) (hb : b ≠ K) : w'.heap[b]? = w.heap[b]? := by
  rw [← hw, Below.heap_setCell _ ⟨K, 3, none⟩ _ b hb, Below.heap_setCell _ ⟨K, 2, none⟩ _ b hb, Below.heap_setCell _ ⟨K, 1, none⟩ _ b hb, Below.heap_setCell _ ⟨K, 0, none⟩ _ b hb]
theorem own4 {T : TypeId} {a b c d : Value} (o : Own w K T #[a, b, c, d]) : Own w' K T #[s, x, m, y] := by
  rw [← hw]
  exact (((o.set 0 s).set 1 x).set 2 m).set 3 y
theorem off4 {T : TypeId} {cs : Array Value} {g : Nat} (o : Own w g T cs) (hne : g ≠ K) : Own w' g T cs := o.since (heap4 hw g hne)
theorem grew4 {a : World} (h : Grew a w) (hK : a.heap.size ≤ K) : Grew a w' := by
  rw [← hw]
  exact (((h.set (p := ⟨K, 0, none⟩) hK s).set (p := ⟨K, 1, none⟩) hK x).set (p := ⟨K, 2, none⟩) hK m).set (p := ⟨K, 3, none⟩) hK y
theorem node4 {q : Nat → Prop} {h : Nat} {f : Fen} {u : Value} {i j : Int} (n : NodeF w q h f u i j) (hq : ∀ b, q b → b ≠ K) : NodeF w' q h f u i j := n.keep (fun _ a _ => a) fun b hb _ => heap4 hw b (hq b hb)
end
theorem kid_z (h : Nat) (f : Fen) (s : Value) (x m : Int) (p : Nat → Prop) (w : World) (n : NodeF w p (h + 1) f s x m) : Calls Try.prog 66 #[nodeV s x m, .int .i64 0] w (RetNd h f p w) := by
  have h1 := kid_f h f s x m 0 p w n (by omega)
  rw [sub_zero] at h1
  exact h1
/-- It returns a tree of the height k with the entries f. -/
def RetTr (k : Nat) (f : Fen) (p : Nat → Prop) (w : World) (e : Ending) (w' : World) : Prop := ∃ s x m, e = .returned (treeV k s x m) ∧ NodeF w' p k f s x m ∧ Grew w w'
set_option maxHeartbeats 4000000 in
theorem lowered_f (h : Nat) (f : Fen) (s : Value) (x m : Int) (p : Nat → Prop) (w : World) (n : NodeF w p h f s x m) (hf : GoodF f) (hh : h ≤ 5) :
    Calls Try.prog 72 #[treeV h s x m] w (RetTr (low h f) f p w) := by
  obtain ⟨a, j, c, rfl⟩ := n.slice
  have HN := Lib.hid (n.mono (q := fun b => p b ∧ b < w.heap.size) (fun b h1 h2 => ⟨h1, h2⟩))
  have HF := Lib.hid hf
  clear n hf
  go_enter Try.func72, Try.ntmps72
  have T := Own.new w 28 #[.int .i64 h, .slice a j c, .int .i64 x, .int .i64 m]
  have R := Own.new2 w (.cells #[.int .i64 h, .slice a j c, .int .i64 x, .int .i64 m] 28) 28 #[.int .i64 0, .slice none 0 0, .int .i64 0, .int .i64 0]
  replace T := T.alloc (.cells #[.int .i64 0, .slice none 0 0, .int .i64 0, .int .i64 0] 28)
  have G := ((Grew.refl w).alloc (.cells #[.int .i64 h, .slice a j c, .int .i64 x, .int .i64 m] 28)).alloc (.cells #[.int .i64 0, .slice none 0 0, .int .i64 0, .int .i64 0] 28)
  go_wp2_with fail
  have HT := Lib.hid T
  have HR := Lib.hid R
  have HG := Lib.hid G
  clear T R G
  go_loopg [] h (fun k wr => k ≤ h ∧ low k f = low h f ∧ ∃ s' x' m', Own wr w.heap.size 28 #[.int .i64 k, s', .int .i64 x', .int .i64 m'] ∧ NodeF wr (fun b => p b ∧ b < w.heap.size) k f s' x' m' ∧
    Own wr (w.heap.size + 1) 28 #[.int .i64 0, .slice none 0 0, .int .i64 0, .int .i64 0] ∧ Grew w wr)
  case atStart => exact ⟨Nat.le_refl _, rfl, _, _, _, HT.out, HN.out.grew HG.out, HR.out, HG.out⟩
  case round =>
    clear HT HR HG
    obtain ⟨hk, hl, s', x', m', T, n', R, G⟩ := hrel
    obtain ⟨a', j', c', rfl⟩ := n'.slice
    have HL := Lib.hid hl
    have Hn := Lib.hid n'
    clear n' hl
    cases gk with
    | zero =>
      obtain ⟨T0, T1, T2, T3, T4, T5, T6, T7⟩ := T.four
      obtain ⟨R0, R1, R2, R3, R4, R5, R6, R7⟩ := R.four
      go_wp2_with fail
      generalize hwE : World.setCell (World.setCell (World.setCell (World.setCell _ _ _) _ _) _ _) _ _ = E
      have OE := own4 hwE R
      have GE := grew4 hwE G (by omega)
      have nE := node4 hwE Hn.out (fun b hb => by omega)
      obtain ⟨b0, b1, b2, b3, -⟩ := OE.four
      refine bodyPost_ret (v := treeV 0 (.slice a' j' c') x' m') (by simp [results, Try.results72, go_sem, b0, b1, b2, b3]) rfl ?_
      refine ⟨.slice a' j' c', x', m', ?_, ?_, GE⟩
      · rw [← HL.out, show low 0 f = 0 from rfl]
      · rw [← HL.out, show low 0 f = 0 from rfl]
        exact nE.mono (fun b hb _ => hb.1)
    | succ q =>
      rw [show ((q + 1 : Nat) : Int) = (q : Int) + 1 from by omega] at T
      obtain ⟨T0, T1, T2, T3, T4, T5, T6, T7⟩ := T.four
      go_wp2_with fail
      with_reducible refine (onlyFirst_f q f _ _ _ _ _ Hn.out HF.out).mono ?_
      rintro e w1 ⟨rfl, g1⟩
      replace T := T.grew g1
      replace R := R.grew g1
      replace G := G.trans g1
      have Hn1 := Lib.hid (Hn.out.grew g1)
      clear g1 T0 T1 T2 T3 T4 T5 T6 T7 Hn
      obtain ⟨T0, T1, T2, T3, T4, T5, T6, T7⟩ := T.four
      have HLo := Lib.hid (show low (q + 1) f = match onlyB q f with | true => low q f | false => q + 1 from rfl)
      cases ho : onlyB q f
      · rw [ho] at HLo
        clear ho
        obtain ⟨R0, R1, R2, R3, R4, R5, R6, R7⟩ := R.four
        go_wp2_with fail
        generalize hwE : World.setCell (World.setCell (World.setCell (World.setCell _ _ _) _ _) _ _) _ _ = E
        have OE := own4 hwE R
        have GE := grew4 hwE G (by omega)
        have nE := node4 hwE Hn1.out (fun b hb => by omega)
        obtain ⟨b0, b1, b2, b3, -⟩ := OE.four
        refine bodyPost_ret (v := treeV (q + 1) (.slice a' j' c') x' m') (by simp [results, Try.results72, go_sem, b0, b1, b2, b3]) rfl ?_
        refine ⟨.slice a' j' c', x', m', ?_, ?_, GE⟩
        · rw [← HL.out, HLo.out]
        · rw [← HL.out, HLo.out]
          exact nE.mono (fun b hb _ => hb.1)
      · rw [ho] at HLo
        clear ho
        have k1 : IntKind.i64.wrap ((q : Int) + 1 - 1) = (q : Int) := by rw [show (q : Int) + 1 - 1 = q from by omega]; exact IntWalk.i64_in _ (by omega)
        have k2 : IntKind.i64.wrap (q : Int) = (q : Int) := IntWalk.i64_in _ (by omega)
        go_upto_region 2 with fail
        replace T := T.drew
        go_region_with (go_at_call 66; (with_reducible refine (kid_z q f _ _ _ _ w1.drew (Hn1.out.grew (Grew.refl w1).drew)).mono ?_); rintro e w2 ⟨y0, y1, y2, rfl, n2, g2⟩; obtain ⟨a2, j2, c2, rfl⟩ := n2.slice; have N2 := Lib.hid n2; have T2' := T.grew g2; clear T0 T1 T2 T3 T4 T5 T6 T7; obtain ⟨T0, T1, T2, T3, T4, T5, T6, T7⟩ := T2'.four; clear n2)
        all_goals
          generalize hw5 : World.setCell (World.setCell (World.setCell (World.setCell _ _ _) _ _) _ _) _ _ = w5
          have hR := R.drew.grew g2
          have hG := G.drew.trans g2
          have T5 := own4 hw5 T2'
          have R5 := off4 hw5 hR (by omega)
          have G5 := grew4 hw5 hG (Nat.le_refl _)
          have n5 := node4 hw5 N2.out (fun b hb => by omega)
          clear hw5
          go_wp2_with fail
          go_roundg q
        all_goals first | exact ⟨by omega, by rw [← HL.out, HLo.out], _, _, _, T5, n5, R5, G5⟩ | omega
end Go.Proofs.Ytdlhihllmidfeaa

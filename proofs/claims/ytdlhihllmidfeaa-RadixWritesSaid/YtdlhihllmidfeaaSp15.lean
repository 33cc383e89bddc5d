/- Trees stay while blocks that came later are written. -/
import Derived.Test.YtdlhihllmidfeaaSp8
namespace Go.Proofs.Ytdlhihllmidfeaa
open Go.RowKit Go.Mine

/-- All blocks of w stand in w' as they were. -/
def Keeps (w w' : World) : Prop := w.heap.size ≤ w'.heap.size ∧ ∀ b, b < w.heap.size → w'.heap[b]? = w.heap[b]?
theorem Keeps.of {w w' : World} (G : Grew w w') : Keeps w w' := ⟨G.size, fun b hb => Below.block G b hb⟩
theorem Keeps.past {w w1 w' : World} {b : Nat} (h : Keeps w w1) (k : w1.grownBy w' (some b)) (hb : w.heap.size ≤ b) : Keeps w w' :=
  ⟨Nat.le_trans h.1 k.size, fun i hi => (k.block i (Nat.lt_of_lt_of_le hi h.1) (fun e => by injection e with e; omega)).trans (h.2 i hi)⟩
theorem Keeps.trans {w w1 w' : World} (h : Keeps w w1) (k : Keeps w1 w') : Keeps w w' := ⟨Nat.le_trans h.1 k.1, fun i hi => (k.2 i (Nat.lt_of_lt_of_le hi h.1)).trans (h.2 i hi)⟩
theorem Keeps.set {w w1 : World} (h : Keeps w w1) {p : Addr} (hp : w.heap.size ≤ p.block) (u : Value) : Keeps w (w1.setCell p u) :=
  ⟨by simpa [World.setCell] using h.1, fun i hi => (Below.heap_setCell w1 p u i (by omega)).trans (h.2 i hi)⟩
theorem KidAt.keeps {w w' : World} {P Q : Value → Int → Int → Prop} {g k : Nat} (h : KidAt w P g k) (G : Keeps w w') (hq : ∀ s x m, P s x m → Q s x m) : KidAt w' Q g k := by
  obtain ⟨s', x', m', c0, c1, c2, n⟩ := h
  have hlt := World.block_lt_of_cell? w _ c0
  have e := G.2 g hlt
  exact ⟨s', x', m', (World.cell?_of_block (a := ⟨g, k * 3, none⟩) e).trans c0, (World.cell?_of_block (a := ⟨g, k * 3 + 1, none⟩) e).trans c1, (World.cell?_of_block (a := ⟨g, k * 3 + 2, none⟩) e).trans c2, hq _ _ _ n⟩
theorem NodeF.keeps {w w' : World} {p : Nat → Prop} {h : Nat} {f : Fen} {s : Value} {x m : Int} (n : NodeF w p h f s x m) (G : Keeps w w') : NodeF w' p h f s x m := n.keep (fun _ a _ => a) fun b _ hb => G.2 b hb
theorem NotF.keeps {w w' : World} (G : Keeps w w') : ∀ {h : Nat} {s : Value} {x m : Int}, NotF w h s x m → NotF w' h s x m
  | 0, _, _, _, n => n
  | h + 1, s, x, m, n => by
    obtain ⟨a, n, c, rfl, he, hn⟩ := n
    refine ⟨a, n, c, rfl, he, ?_⟩
    rcases hn with hn | hn | ⟨g, f, e1, e2, e3, e4, e5⟩
    · exact .inl hn
    · exact .inr (.inl hn)
    · refine .inr (.inr ⟨g, f, e1, e2, e3, e4, ?_⟩)
      rcases e5 with ⟨e5, e6⟩ | ⟨j, hj, e5, e6⟩
      · exact .inl ⟨fun k hk => KidAt.keeps (e5 k hk) G fun _ _ _ n => NodeF.keeps n G, e6⟩
      · exact .inr ⟨j, hj, fun k hk => (e5 k hk).keeps G fun _ _ _ n => NodeF.keeps n G, e6.keeps G fun _ _ _ n => NotF.keeps G n⟩
theorem BadT.keeps {w w' : World} {H : Int} {s : Value} {x m : Int} (b : BadT w H s x m) (G : Keeps w w') : BadT w' H s x m := by
  refine ⟨b.1, ?_⟩
  rcases b.2 with h | h | ⟨h, e, hh, n⟩
  · exact .inl h
  · exact .inr (.inl h)
  · refine .inr (.inr ⟨h, e, hh, ?_⟩)
    rcases n with n | ⟨f, n, hf, hv⟩
    · exact .inl (n.keeps G)
    · exact .inr ⟨f, NodeF.keeps n G, hf, hv⟩
theorem TreeL.keeps {w w' : World} {H : Int} {s : Value} {x m : Int} {L : List En} (t : TreeL w H s x m L) (G : Keeps w w') : TreeL w' H s x m L := by
  rcases t with ⟨h, f, e, n, e2⟩ | ⟨b, e⟩
  · exact .inl ⟨h, f, e, ⟨n.1, NodeF.keeps n.2.1 G, n.2.2⟩, e2⟩
  · exact .inr ⟨b.keeps G, e⟩
end Go.Proofs.Ytdlhihllmidfeaa

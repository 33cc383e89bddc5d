/- Boxes of a law and the descriptors that it holds (layer 18): words of my own, no program is named here. -/
import Derived.Test.YtokijggckiidjaaDm3
namespace Go.Mine
open Go Go.RowKit
abbrev Bx := Nat × TypeId × Array Value
/-- The boxes bs, the descriptors ds, whose blocks are none of them and lie from lo on. -/
structure BxL (w0 : World) (lo : Nat) (bs : List Bx) (ds : List (Value × Value × Dd)) (wr : World) : Prop where
  own : ∀ e, e ∈ bs → Own wr e.1 e.2.1 e.2.2 ∧ lo ≤ e.1
  nd : (bs.map (·.1)).Nodup
  dd : ∀ e, e ∈ ds → DdP wr (pS lo (bs.map (·.1))) e.1 e.2.1 e.2.2
  g : Grew w0 wr
  hl : lo ≤ wr.heap.size
  h0 : w0.heap.size ≤ lo
section
variable {w0 wr w' w2 E : World} {lo : Nat} {bs l1 l2 : List Bx} {ds ds' : List (Value × Value × Dd)}
theorem BxL.lt (h : BxL w0 lo bs ds wr) {x : Nat} (hx : x ∈ bs.map (·.1)) : x < wr.heap.size := by
  obtain ⟨e, he, rfl⟩ := List.mem_map.1 hx
  exact (h.own e he).1.lt
theorem BxL.grew (h : BxL w0 lo bs ds wr) (k : Grew wr w') : BxL w0 lo bs ds w' :=
  ⟨fun e he => ⟨(h.own e he).1.grew k, (h.own e he).2⟩, h.nd, fun e he => (h.dd e he).grew k, h.g.trans k, Nat.le_trans h.hl k.size, h.h0⟩
theorem BxL.next (h : BxL w0 lo bs ds wr) {b : Nat} (k : wr.grownBy w' (some b)) (hb : b < lo) (hw : w0.heap.size ≤ b) : BxL w0 lo bs ds w' :=
  ⟨fun e he => ⟨(h.own e he).1.past k (fun e2 => by have := (h.own e he).2; omega), (h.own e he).2⟩, h.nd, fun e he => (h.dd e he).past k (fun e2 => by have := e2.1; omega), h.g.past k hw, Nat.le_trans h.hl k.size, h.h0⟩
theorem BxL.push (h : BxL w0 lo bs ds wr) (T : TypeId) (cs : Array Value) : BxL w0 lo ((wr.heap.size, T, cs) :: bs) ds (wr.alloc (.cells cs T)) := by
  have k := (Grew.refl wr).alloc (.cells cs T)
  refine ⟨fun e he => ?_, ?_, fun e he => ?_, h.g.trans k, Nat.le_trans h.hl k.size, h.h0⟩
  · rcases List.mem_cons.1 he with rfl | he
    · exact ⟨Own.new wr T cs, h.hl⟩
    · exact ⟨(h.own e he).1.grew k, (h.own e he).2⟩
  · rw [List.map_cons]
    exact List.nodup_cons.2 ⟨fun hm => by have := h.lt hm; simp at this, h.nd⟩
  · rw [List.map_cons]
    exact ((h.dd e he).more (Nat.le_refl _)).grew k
theorem BxL.add (h : BxL w0 lo bs ds wr) {a b : Value} {d : Dd} (k : Grew wr w') (D : DdP w' (pW (pS lo (bs.map (·.1))) wr) a b d) : BxL w0 lo bs ((a, b, d) :: ds) w' := by
  have h2 := h.grew k
  refine ⟨h2.own, h2.nd, fun e he => ?_, h2.g, h2.hl, h2.h0⟩
  rcases List.mem_cons.1 he with rfl | he
  · exact D.next h.hl fun s hs => h.lt hs
  · exact h2.dd e he
theorem BxL.put {g : Nat} {T : TypeId} {u v x y : Value} (h : BxL w0 lo (l1 ++ (g, T, #[u, v]) :: l2) ds wr) (hw : (wr.setCell ⟨g, 0, none⟩ x).setCell ⟨g, 1, none⟩ y = E) : BxL w0 lo (l1 ++ (g, T, #[x, y]) :: l2) ds E := by
  have gg := grown2D hw
  have hm : (l1 ++ (g, T, #[x, y]) :: l2).map (·.1) = (l1 ++ (g, T, #[u, v]) :: l2).map (·.1) := by rw [List.map_append, List.map_append, List.map_cons, List.map_cons]
  have hg : (g, T, #[u, v]) ∈ l1 ++ (g, T, #[u, v]) :: l2 := List.mem_append.2 (.inr (List.mem_cons_self ..))
  have hlo := (h.own _ hg).2
  have h0 := h.h0
  have hnd := h.nd
  rw [List.map_append, List.map_cons, List.nodup_append] at hnd
  have hne : ∀ e, e ∈ l1 ∨ e ∈ l2 → e.1 ≠ g := fun e he e2 => by
    rcases he with he | he
    · exact hnd.2.2 e.1 (List.mem_map.2 ⟨e, he, rfl⟩) g (List.mem_cons_self ..) e2
    · exact (List.nodup_cons.1 hnd.2.1).1 (by rw [← e2]; exact List.mem_map.2 ⟨e, he, rfl⟩)
  refine ⟨fun e he => ?_, by rw [hm]; exact h.nd, fun e he => ?_, h.g.far2D hw (by show w0.heap.size ≤ g; have : lo ≤ g := hlo; omega), Nat.le_trans h.hl gg.size, h.h0⟩
  · rcases List.mem_append.1 he with he | he
    · have := h.own e (List.mem_append.2 (.inl he))
      exact ⟨this.1.far2D hw (hne e (.inl he)), this.2⟩
    · rcases List.mem_cons.1 he with rfl | he
      · exact ⟨(h.own _ hg).1.store2D hw, hlo⟩
      · have := h.own e (List.mem_append.2 (.inr (List.mem_cons.2 (.inr he))))
        exact ⟨this.1.far2D hw (hne e (.inr he)), this.2⟩
  · rw [hm]
    exact (h.dd e he).past gg (fun e2 => e2.2 (List.mem_map.2 ⟨_, hg, rfl⟩))
/-- One cell of a box is stored. -/
theorem BxL.put1 {g : Nat} {T : TypeId} {cs : Array Value} (h : BxL w0 lo (l1 ++ (g, T, cs) :: l2) ds wr) (i : Nat) (u : Value) : BxL w0 lo (l1 ++ (g, T, cs.setIfInBounds i u) :: l2) ds (wr.setCell ⟨g, i, none⟩ u) := by
  have gg : wr.grownBy (wr.setCell ⟨g, i, none⟩ u) (some g) := grown_set (p := ⟨g, i, none⟩) (grown_refl wr (some g)) (.inl rfl) u
  have hm : (l1 ++ (g, T, cs.setIfInBounds i u) :: l2).map (·.1) = (l1 ++ (g, T, cs) :: l2).map (·.1) := by rw [List.map_append, List.map_append, List.map_cons, List.map_cons]
  have hg : (g, T, cs) ∈ l1 ++ (g, T, cs) :: l2 := List.mem_append.2 (.inr (List.mem_cons_self ..))
  have hlo := (h.own _ hg).2
  have h0 := h.h0
  have hnd := h.nd
  rw [List.map_append, List.map_cons, List.nodup_append] at hnd
  have hne : ∀ e, e ∈ l1 ∨ e ∈ l2 → e.1 ≠ g := fun e he e2 => by
    rcases he with he | he
    · exact hnd.2.2 e.1 (List.mem_map.2 ⟨e, he, rfl⟩) g (List.mem_cons_self ..) e2
    · exact (List.nodup_cons.1 hnd.2.1).1 (by rw [← e2]; exact List.mem_map.2 ⟨e, he, rfl⟩)
  refine ⟨fun e he => ?_, by rw [hm]; exact h.nd, fun e he => ?_, h.g.set (p := ⟨g, i, none⟩) (by show w0.heap.size ≤ g; have : lo ≤ g := hlo; omega) _, Nat.le_trans h.hl gg.size, h.h0⟩
  · rcases List.mem_append.1 he with he | he
    · have := h.own e (List.mem_append.2 (.inl he))
      exact ⟨this.1.far (p := ⟨g, i, none⟩) (hne e (.inl he)) _, this.2⟩
    · rcases List.mem_cons.1 he with rfl | he
      · exact ⟨(h.own _ hg).1.set i u, hlo⟩
      · have := h.own e (List.mem_append.2 (.inr (List.mem_cons.2 (.inr he))))
        exact ⟨this.1.far (p := ⟨g, i, none⟩) (hne e (.inr he)) _, this.2⟩
  · rw [hm]
    exact (h.dd e he).past gg (fun e2 => e2.2 (List.mem_map.2 ⟨_, hg, rfl⟩))
theorem BxL.less (h : BxL w0 lo bs ds wr) (hs : ∀ e, e ∈ ds' → e ∈ ds) : BxL w0 lo bs ds' wr := ⟨h.own, h.nd, fun e he => h.dd e (hs e he), h.g, h.hl, h.h0⟩
end
/-- Small enough to be compared. -/
structure SmX (d : Dd) : Prop where
  o : d.o.length ≤ 1000
  t : d.t.length ≤ 1000
  r : ∀ p, p < d.t.length → (d.t.getD p []).length ≤ 1000
theorem OkDd.sm {d : Dd} (h : OkDd d) : SmX d := ⟨by have := h.o; omega, by have := h.t8; omega, fun p hp => by rw [h.t p hp]; decide⟩
theorem SmD.sm {d : Dd} (h : SmD d) : SmX d := ⟨h.o, by have := h.t3; omega, h.r⟩
theorem opnD_sm {d : Dd} (h : SmX d) (p : Int) {x : Ds} (hx : x.r = 1) : SmX (opnD d p x).1 := by
  cases hk : okD d
  · rw [opnD_1 hk]; exact h
  · exact (opnD_ok (okD_iff.1 hk) p hx).1.sm
theorem dupD_sm {d : Dd} (h : SmX d) (p q : Int) : SmX (dupD d p q).1 := by
  cases hk : okD d
  · rw [dupD_e (by rw [lkD_1 hk]; simp)]; exact h
  · exact (dupD_ok (okD_iff.1 hk) p q).1.sm
theorem clsD_sm {d : Dd} (h : SmX d) (p q : Int) : SmX (clsD d p q).1 := by
  cases hk : okD d
  · rw [clsD_e (by rw [lkD_1 hk]; simp)]; exact h
  · exact (clsD_ok (okD_iff.1 hk) p q).1.sm
theorem frkD_sm {d : Dd} (h : SmX d) (p q : Int) : SmX (frkD d p q).1 := by
  cases hk : okD d
  · rw [frkD_1 hk]; exact h
  · exact (frkD_keeps (okD_iff.1 hk) p q).1.sm
theorem updD_ok {d : Dd} (h : OkDd d) (n : Int) (x : Ds) : OkDd (updD d n x).1 ∧ (updD d n x).1.t = d.t := by
  have hk := okD_iff.2 h
  by_cases hn : 0 ≤ n ∧ n ≤ (d.o.length : Int) - 1
  · obtain ⟨k, rfl⟩ : ∃ k : Nat, n = k := ⟨n.toNat, by omega⟩
    by_cases hr : (d.o.getD k zDs).r = 0
    · rw [updD_4r hk hr]; exact ⟨h, rfl⟩
    · by_cases hx : (0 ≤ x.o ∧ x.o ≤ 128) ∧ 0 ≤ x.c ∧ x.c ≤ 1000000
      · rw [updD_0 hk (by omega) hr hx]; exact ⟨upO_ok h (by omega) hr hx, rfl⟩
      · rw [updD_2 hk (by omega) hr hx]; exact ⟨h, rfl⟩
  · rw [updD_4 hk hn]; exact ⟨h, rfl⟩
theorem updD_sm {d : Dd} (h : SmX d) (n : Int) (x : Ds) : SmX (updD d n x).1 := by
  cases hk : okD d
  · rw [updD_1 hk]; exact h
  · exact (updD_ok (okD_iff.1 hk) n x).1.sm
theorem nwD_sm (n : Int) : SmX (nwD n).1 := by
  by_cases hn : 1 ≤ n ∧ n ≤ 8
  · obtain ⟨k, rfl⟩ : ∃ k : Nat, n = k := ⟨n.toNat, by omega⟩
    rw [nwD_0 (by omega) (by omega)]
    exact (newD_ok (by omega) (by omega)).sm
  · rw [nwD_2 hn]
    exact ⟨Nat.zero_le _, Nat.zero_le _, fun p hp => absurd hp (by simp)⟩
end Go.Mine
namespace Go.Mine
open Go Go.RowKit
theorem BxL.tail {w0 wr : World} {lo : Nat} {e : Bx} {bs : List Bx} {ds : List (Value × Value × Dd)} (h : BxL w0 lo (e :: bs) ds wr) : BxL w0 lo bs ds wr := by
  have hn := h.nd
  rw [List.map_cons] at hn
  refine ⟨fun x hx => h.own x (List.mem_cons.2 (.inr hx)), (List.nodup_cons.1 hn).2, fun x hx => (h.dd x hx).mono fun z hz => ⟨hz.1, fun hm => hz.2 ?_⟩, h.g, h.hl, h.h0⟩
  rw [List.map_cons]
  exact List.mem_cons.2 (.inr hm)
end Go.Mine
namespace Go.Mine
open Go Go.RowKit
theorem BxL.ne01 {w0 wr : World} {lo : Nat} {e f : Bx} {bs : List Bx} {ds : List (Value × Value × Dd)} (h : BxL w0 lo (e :: f :: bs) ds wr) : e.1 ≠ f.1 := fun q => by
  have hn := h.nd
  rw [List.map_cons, List.map_cons] at hn
  exact (List.nodup_cons.1 hn).1 (by rw [q]; exact List.mem_cons_self ..)
end Go.Mine
namespace Go.Mine
open Go Go.RowKit
theorem Tp.put2 {B b g : Nat} {w E : World} {x y : Value} (h : Tp B w b) (hw : (w.setCell ⟨g, 0, none⟩ x).setCell ⟨g, 1, none⟩ y = E) (hg : B ≤ g) : Tp B E b := by
  rw [← hw]
  exact (h.set (p := ⟨g, 0, none⟩) hg x).set (p := ⟨g, 1, none⟩) hg y
end Go.Mine

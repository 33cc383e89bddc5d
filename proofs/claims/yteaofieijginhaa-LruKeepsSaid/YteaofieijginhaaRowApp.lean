/- append of a whole row of integers onto a row of the call's own: no program is named here. -/
import Derived.Test.YteaofieijginhaaRows2
import Derived.Deep.Upon
namespace Go.Mine
open Go Go.RowKit

theorem RowE.newsI {T : TypeId} {w : World} {B g n c : Nat} {L : List Int} (h : RowE T 1 enc1 w B (.slice (some ⟨g, 0, none⟩) n c) L) : ∀ j u, (L.flatMap enc1)[j]? = some u → w.cell? ((⟨g, 0, none⟩ : Addr).add j) = some u := by
  intro j u hu
  obtain rfl : n = L.length := by
    rcases h.shape enc1_len with ⟨e, -⟩ | ⟨g', c', e, -⟩
    · cases e
    · injection e
  have hj : j < (L.flatMap enc1).length := (List.getElem?_eq_some_iff.1 hu).1
  rw [fm_len enc1_len] at hj
  rw [Addr.add_lit, Nat.zero_add]
  exact (World.ownsRow.cellAt h j hj).trans hu
theorem enc1_ones {L : List Int} : ∀ u ∈ L.flatMap enc1, u.oneCell' = true := by
  intro u hu
  obtain ⟨x, -, hx⟩ := List.mem_flatMap.1 hu
  exact enc1_one u hx
section
variable {P : Program}
theorem run_append_ints (w : World) (t ty : TypeId) (B : Nat) {T : TypeId} {z : Value} {bytes : Nat}
    (hinfo : (P.info? T).map (fun i => (i.zero, i.size, i.bytes)) = some (some z, 1, bytes)) (ht : P.underlying t = some (.slice T))
    (v : Value) (L : List Int) (hown : RowE T 1 enc1 w B v L) {C : Nat} (xv : Value) (hM : RowE T 1 enc1 w C xv []) : (Builtin.append_ #[t, t] ty #[v, xv]).run P w = .ok v w := by
  obtain ⟨i0, hi, hz0, hz1, hz2⟩ := info_parts hinfo
  have hs : Src P i0.size t xv 0 [] w := by
    rcases hM.shape enc1_len with ⟨rfl, -⟩ | ⟨g, cap, rfl, -⟩
    · exact Src.ofNil w ht 0
    · exact Src.ofSlice w ht _ 0 cap [] (by simp) (fun j u hu => by simp at hu) (fun u hu => by simp at hu)
  rcases hown.shape enc1_len with ⟨rfl, -⟩ | ⟨g, cap, rfl, -, -, hc, -⟩
  · exact run_append_nothing w t t ty T i0 ht hi none 0 0 (Nat.le_refl _) xv hs
  · exact run_append_nothing w t t ty T i0 ht hi _ _ cap hc xv hs
/-- At the operation. -/
theorem wp_append_ints (w : World) {o : Oper} {a : Act} {K : Act → World → Prop} {Q : Exit → Act → World → Prop} (s x : Operand) (t : TypeId)
    (ho : o.op = .call { callee := .builtin .append, args := #[s, x], argTypes := #[t, t] }) (B : Nat) {T : TypeId} {z : Value} {bytes : Nat}
    (hinfo : (P.info? T).map (fun i => (i.zero, i.size, i.bytes)) = some (some z, 1, bytes)) (ht : P.underlying t = some (.slice T)) (hzs : z.cells.size = 1)
    (v : Value) (L : List Int) (hs : a.eval s = v) (hown : RowE T 1 enc1 w B v L) {C : Nat} (xv : Value) (M : List Int) (hx : a.eval x = xv) (hM : RowE T 1 enc1 w C xv M)
    (hlen : L.length + M.length < 1000000) (hby : bytes ≤ 1000) (hB : B ≤ w.heap.size)
    (h : ∀ v' w', RowE T 1 enc1 w' B v' (L ++ M) → w.grownBy w' v.ownBlock → (v'.ownBlock = v.ownBlock ∨ v'.ownBlock = some w.heap.size) → K (a.put o.dst v') w') : Oper.wp P o a w K Q := by
  have h0 := hM
  have none_ : M = [] → Oper.wp P o a w K Q := fun e => by
    subst e
    have hrun := run_append_ints (P := P) w t o.type B hinfo ht v L hown _ h0
    unfold Oper.wp execOp
    simp only [ho, resolve, invoke, builtin, Sem.run_bind, Sem.run_pure, Result.andThen_ok, List.map_toArray, List.map_cons, List.map_nil, hs, hx, hrun]
    exact h v w (by rw [List.append_nil]; exact hown) (grown_refl _ _) (.inl rfl)
  rcases hM.shape enc1_len with ⟨-, hM0⟩ | ⟨g, cap, rfl, -, -, -, -, -⟩
  · exact none_ hM0
  · by_cases hz : M.length = 0
    · exact none_ (List.length_eq_zero_iff.1 hz)
    · obtain ⟨i0, hi, hz0, hz1, hz2⟩ := info_parts hinfo
      refine wp_append_lies w s x t ho B T i0 z 1 bytes ht hi hz0 hz1 hz2 hzs (by omega) v L.length _ hs hown ⟨g, 0, none⟩ M.length cap (M.flatMap enc1) hx (fm_len enc1_len M) h0.newsI enc1_ones (by omega) (by unfold maxLen; omega)
        (Nat.le_trans (Nat.mul_le_mul (show L.length + M.length ≤ 1000000 by omega) hby) (by decide)) hB _ rfl ?_
      intro g2 cap2 w1 r1 r2 r3 _
      refine h _ w1 ?_ r2 ?_
      · unfold RowE
        rw [List.length_append, List.flatMap_append]
        exact r1
      · rcases r3 with r3 | r3
        · exact .inl r3.symm
        · exact .inr (by rw [r3]; rfl)
theorem wpList_append_ints (w : World) {ops : Array Oper} {rest : List Oper} {o : Oper} {a : Act} {Q : Exit → Act → World → Prop} (hgd : o.guard = none) (s x : Operand) (t : TypeId)
    (ho : o.op = .call { callee := .builtin .append, args := #[s, x], argTypes := #[t, t] }) (B : Nat) {T : TypeId} {z : Value} {bytes : Nat}
    (hinfo : (P.info? T).map (fun i => (i.zero, i.size, i.bytes)) = some (some z, 1, bytes)) (ht : P.underlying t = some (.slice T)) (hzs : z.cells.size = 1)
    (v : Value) (L : List Int) (hs : a.eval s = v) (hown : RowE T 1 enc1 w B v L) {C : Nat} (xv : Value) (M : List Int) (hx : a.eval x = xv) (hM : RowE T 1 enc1 w C xv M)
    (hlen : L.length + M.length < 1000000) (hby : bytes ≤ 1000) (hB : B ≤ w.heap.size)
    (h : ∀ v' w', RowE T 1 enc1 w' B v' (L ++ M) → w.grownBy w' v.ownBlock → (v'.ownBlock = v.ownBlock ∨ v'.ownBlock = some w.heap.size) → wpList P ops Q rest (a.put o.dst v') w') : wpList P ops Q (o :: rest) a w :=
  wpList_plain hgd fun _ hK => wp_append_ints w s x t ho B hinfo ht hzs v L hs hown xv M hx hM hlen hby hB fun v' w' h1 h2 h3 => hK _ _ (h v' w' h1 h2 h3)
/-- At a step of a region that draws its order. -/
theorem step_append_ints (w : World) {ops : Array Oper} {o : Oper} {a : Act} {K : Act → World → Prop} {Q : Exit → Act → World → Prop} {E : Prop} (hgd : o.guard = none) (s x : Operand) (t : TypeId)
    (ho : o.op = .call { callee := .builtin .append, args := #[s, x], argTypes := #[t, t] }) (B : Nat) {T : TypeId} {z : Value} {bytes : Nat}
    (hinfo : (P.info? T).map (fun i => (i.zero, i.size, i.bytes)) = some (some z, 1, bytes)) (ht : P.underlying t = some (.slice T)) (hzs : z.cells.size = 1)
    (v : Value) (L : List Int) (hs : a.eval s = v) (hown : RowE T 1 enc1 w B v L) {C : Nat} (xv : Value) (M : List Int) (hx : a.eval x = xv) (hM : RowE T 1 enc1 w C xv M)
    (hlen : L.length + M.length < 1000000) (hby : bytes ≤ 1000) (hB : B ≤ w.heap.size)
    (h : ∀ v' w', RowE T 1 enc1 w' B v' (L ++ M) → w.grownBy w' v.ownBlock → (v'.ownBlock = v.ownBlock ∨ v'.ownBlock = some w.heap.size) → K (a.put o.dst v') w') : if Region.wanted o (yielded ops a.tmps) = true then Oper.wp P o a w K Q else E := by
  rw [if_pos (by unfold Region.wanted; rw [hgd])]
  exact wp_append_ints w s x t ho B hinfo ht hzs v L hs hown xv M hx hM hlen hby hB h
end
end Go.Mine

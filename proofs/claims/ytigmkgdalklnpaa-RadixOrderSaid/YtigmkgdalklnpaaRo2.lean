/- What stays while one block and the tape are written: lists that are read, trees; a slice cut out of a list. -/
import Derived.Test.YtigmkgdalklnpaaRo1
import Derived.Test.YtigmkgdalklnpaaRegRow
import Derived.Deep.RegionLawGrows
namespace Go.Proofs.Ytigmkgdalklnpaa
open Go.RowKit Go.Mine

/-- Every block of Q stays. -/
def KeepQ (Q : Nat → Prop) (w w' : World) : Prop := w.heap.size ≤ w'.heap.size ∧ ∀ c, Q c → c < w.heap.size → w'.heap[c]? = w.heap[c]?
theorem KeepQ.grew {Q : Nat → Prop} {w w' : World} (g : Grew w w') : KeepQ Q w w' := ⟨g.size, fun c _ hc => Below.block g c hc⟩
theorem KeepQ.past {Q : Nat → Prop} {w w' : World} {b : Nat} (g : w.grownBy w' (some b)) (h : ¬Q b) : KeepQ Q w w' := ⟨g.size, fun c hq hc => g.block c hc (fun e => by injection e with e; subst e; exact h hq)⟩
theorem KeepQ.set4 {Q : Nat → Prop} {w w' : World} {K : Nat} {s x m y : Value} (hw : (((w.setCell ⟨K, 0, none⟩ s).setCell ⟨K, 1, none⟩ x).setCell ⟨K, 2, none⟩ m).setCell ⟨K, 3, none⟩ y = w') (h : ¬Q K) : KeepQ Q w w' :=
  ⟨by rw [← hw]; simp [World.setCell], fun c hq _ => heap4 hw c (fun e => by subst e; exact h hq)⟩
theorem TreeF.kq {Q : Nat → Prop} {w w' : World} {h : Nat} {f : Fen} {s : Value} {x m : Int} (n : TreeF w Q h f s x m) (k : KeepQ Q w w') : TreeF w' Q h f s x m :=
  ⟨n.1, n.node.keep (fun _ a _ => a) (fun c hq hc => k.2 c hq hc), n.2.2⟩
theorem Own.kq {Q : Nat → Prop} {w w' : World} {g : Nat} {T : TypeId} {cs : Array Value} (o : Own w g T cs) (k : KeepQ Q w w') (hq : Q g) : Own w' g T cs := o.since (k.2 g hq o.lt)
/-- A list of entries that is only read. -/
def RdE (Q : Nat → Prop) (w : World) (v : Value) (M : List En) : Prop := ∃ a c, v = .slice a M.length c ∧ M.length ≤ c ∧ (M = [] ∨ ∃ g, a = some ⟨g, 0, none⟩ ∧ Q g ∧ g < w.heap.size ∧ ∀ j u, (M.flatMap encE)[j]? = some u → w.cell? ⟨g, j, none⟩ = some u)
theorem RdE.kq {Q : Nat → Prop} {w w' : World} {v : Value} {M : List En} (r : RdE Q w v M) (k : KeepQ Q w w') : RdE Q w' v M := by
  obtain ⟨a, c, e, hc, hm⟩ := r
  refine ⟨a, c, e, hc, hm.imp id fun ⟨g, ea, hq, hg, hu⟩ => ⟨g, ea, hq, Nat.lt_of_lt_of_le hg k.1, fun j u hj => ?_⟩⟩
  rw [World.cell?_of_block (a := ⟨g, j, none⟩) (k.2 g hq hg)]
  exact hu j u hj
theorem fm_cell {M : List En} {k : Nat} (hk : k < M.length) : (M.flatMap encE)[k * 3]? = some (.int .i64 M[k].1) ∧ (M.flatMap encE)[k * 3 + 1]? = some (.int .i64 M[k].2.1) ∧ (M.flatMap encE)[k * 3 + 2]? = some (.int .i64 M[k].2.2) :=
  ⟨fm_at encE_len M k hk 0 (by omega), fm_at encE_len M k hk 1 (by omega), fm_at encE_len M k hk 2 (by omega)⟩
theorem RdE.at {Q : Nat → Prop} {w : World} {v : Value} {M : List En} (r : RdE Q w v M) {k : Nat} (hk : k < M.length) : ∃ g c, v = .slice (some ⟨g, 0, none⟩) M.length c ∧ M.length ≤ c ∧ Q g ∧ g < w.heap.size ∧ w.cell? ⟨g, k * 3, none⟩ = some (.int .i64 M[k].1) ∧ w.cell? ⟨g, k * 3 + 1, none⟩ = some (.int .i64 M[k].2.1) ∧ w.cell? ⟨g, k * 3 + 2, none⟩ = some (.int .i64 M[k].2.2) := by
  obtain ⟨a, c, e, hc, rfl | ⟨g, rfl, hq, hg, hu⟩⟩ := r
  · simp at hk
  · obtain ⟨c0, c1, c2⟩ := fm_cell hk
    exact ⟨g, c, e, hc, hq, hg, hu _ _ c0, hu _ _ c1, hu _ _ c2⟩
theorem fm_take {M : List En} {i j : Nat} {u : Value} (h : ((M.take i).flatMap encE)[j]? = some u) : (M.flatMap encE)[j]? = some u := by
  have e : M.flatMap encE = (M.take i).flatMap encE ++ (M.drop i).flatMap encE := by rw [← List.flatMap_append, List.take_append_drop]
  rw [e, List.getElem?_append_left (List.getElem?_eq_some_iff.1 h).1]
  exact h
theorem fm_drop {M : List En} {i j : Nat} {u : Value} (hi : i ≤ M.length) (h : ((M.drop i).flatMap encE)[j]? = some u) : (M.flatMap encE)[i * 3 + j]? = some u := by
  have e : M.flatMap encE = (M.take i).flatMap encE ++ (M.drop i).flatMap encE := by rw [← List.flatMap_append, List.take_append_drop]
  have hl : ((M.take i).flatMap encE).length = i * 3 := by rw [fm_len encE_len, List.length_take, Nat.min_eq_left hi]
  rw [e, List.getElem?_append_right (by omega), hl, Nat.add_sub_cancel_left]
  exact h
theorem RdE.take {Q : Nat → Prop} {w : World} {g c : Nat} {M : List En} (r : RdE Q w (.slice (some ⟨g, 0, none⟩) M.length c) M) (i : Nat) (hi : i < M.length) : RdE Q w (.slice (some ⟨g, 0, none⟩) i i) (M.take i) := by
  have hl : (M.take i).length = i := by rw [List.length_take]; omega
  obtain ⟨a, c', e, hc, rfl | ⟨g', rfl, hq, hg, hu⟩⟩ := r
  · simp at hi
  · injection e with e1 e2 e3
    injection e1 with e1
    injection e1 with e1
    subst e1
    exact ⟨_, i, by rw [hl], by omega, .inr ⟨g, rfl, hq, hg, fun j u h => hu j u (fm_take h)⟩⟩
theorem RdE.row {Q : Nat → Prop} {T : TypeId} {w : World} {B : Nat} {v : Value} {M : List En} (r : RowE T 3 encE w B v M) (hQ : ∀ c, B ≤ c → c < w.heap.size → Q c) : RdE Q w v M := by
  rcases r.shape encE_len with ⟨rfl, rfl⟩ | ⟨g, cap, rfl, hB, hg, hcap, -, hcell, -⟩
  · exact ⟨none, 0, rfl, by simp, .inl rfl⟩
  · refine ⟨_, cap, rfl, hcap, .inr ⟨g, rfl, hQ g hB hg, hg, fun j u h => ?_⟩⟩
    have hj := (List.getElem?_eq_some_iff.1 h).1
    rw [fm_len encE_len] at hj
    have h1 := hcell (j / 3) (by omega) (j % 3) (by omega)
    have h2 := fm_at encE_len M (j / 3) (by omega) (j % 3) (by omega)
    rw [show j / 3 * 3 + j % 3 = j from by omega] at h1 h2
    rw [h1, ← h2]
    exact h
theorem add_at (g o j : Nat) : (⟨g, o, none⟩ : Addr).add j = ⟨g, o + j, none⟩ := by
  cases j with
  | zero => simp [Addr.add]
  | succ j => simp [Addr.add]
/-- A list with one element cut out, as a new row. -/
theorem step_cut {ops : Array Oper} {o : Oper} {a : Act} {w : World} {K : Act → World → Prop} {Q : Exit → Act → World → Prop} {E : Prop} (hgd : o.guard = none) (s x : Operand)
    (ho : o.op = .call { callee := .builtin .append, args := #[s, x], argTypes := #[41, 41] }) {QQ : Nat → Prop} {g c : Nat} {M : List En} (r : RdE QQ w (.slice (some ⟨g, 0, none⟩) M.length c) M) (i : Nat) (hi : i + 1 < M.length) (hM : M.length ≤ 300)
    (hs : a.eval s = .slice (some ⟨g, 0, none⟩) i i) {cc : Nat} (hx : a.eval x = .slice (some ⟨g, (i + 1) * 3, none⟩) (M.length - (i + 1)) cc)
    (h : ∀ v' w', RowE 51 3 encE w' w.heap.size v' (M.eraseIdx i) → Grew w w' → K (a.put o.dst v') w') : if Region.wanted o (yielded ops a.tmps) = true then Oper.wp Try.prog o a w K Q else E := by
  obtain ⟨i0, hi0, hz0, hz1, hz2⟩ := info_parts info_entry
  have hu : ∀ j u, (M.flatMap encE)[j]? = some u → w.cell? ⟨g, j, none⟩ = some u := by
    obtain ⟨a, c', e, hc, rfl | ⟨g', rfl, hq, hg, hu⟩⟩ := r
    · simp at hi
    · injection e with e1 e2 e3
      injection e1 with e1
      injection e1 with e1
      subst e1
      exact hu
  have e1 : M.eraseIdx i = M.take i ++ M.drop (i + 1) := List.eraseIdx_eq_take_drop_succ M i
  refine step_append_grows hgd s x 41 ho 51 i0 _ 3 _ Try.underlying41 hi0 hz0 hz1 hz2 (by decide) (by decide) (some ⟨g, 0, none⟩) i i ((M.take i).flatMap encE) hs (fun e => by cases e) (by rw [fm_len encE_len, List.length_take]; omega)
    (fun b e j u hj => by injection e with e; subst e; rw [add_at, Nat.zero_add]; exact hu j u (fm_take hj)) ⟨g, (i + 1) * 3, none⟩ (M.length - (i + 1)) cc ((M.drop (i + 1)).flatMap encE) hx (by rw [fm_len encE_len, List.length_drop])
    (fun j u hj => by rw [add_at]; exact hu _ u (fm_drop (by omega) hj)) (fun u hmem => by obtain ⟨e, -, he⟩ := List.mem_flatMap.1 hmem; exact encE_one u he) (by omega) (by unfold maxLen; omega)
    (Nat.le_trans (Nat.mul_le_mul (show i + (M.length - (i + 1)) ≤ 300 by omega) (Nat.le_refl _)) (by decide)) ?_
  intro v' w' r1 r2
  refine h v' w' ?_ (below_of_grown r2)
  have hl : (M.eraseIdx i).length = i + (M.length - (i + 1)) := by rw [List.length_eraseIdx]; rw [if_pos (by omega)]; omega
  unfold RowE
  rw [hl, e1, List.flatMap_append]
  exact r1
end Go.Proofs.Ytigmkgdalklnpaa

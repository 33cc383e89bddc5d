/- Zones in memory (layer 10): appending what lies anywhere; rows of zones of the call's own: words of my own, no program is named here. -/
import Derived.Test.YtokijggckiidjaaZnR
import Derived.Deep.Upon
namespace Go.Mine
open Go Go.RowKit

section
variable {α : Type} {enc : α → List Value} {sz : Nat}
/-- The elements M lie where a slice begins. -/
def Lies (enc : α → List Value) (w : World) (a : Option Addr) (M : List α) : Prop := M = [] ∨ ∃ b, a = some b ∧ ∀ j u, (M.flatMap enc)[j]? = some u → w.cell? (b.add j) = some u
variable {P : Program}
theorem wp_append_src (w : World) {o : Oper} {a : Act} {K : Act → World → Prop} {Q : Exit → Act → World → Prop} (s x : Operand) (t : TypeId)
    (ho : o.op = .call { callee := .builtin .append, args := #[s, x], argTypes := #[t, t] }) (B : Nat) {T : TypeId} {z : Value} {bytes : Nat}
    (hinfo : (P.info? T).map (fun i => (i.zero, i.size, i.bytes)) = some (some z, sz, bytes)) (ht : P.underlying t = some (.slice T)) (hzs : z.cells.size = sz) (hsz : 0 < sz)
    (he : ∀ a, (enc a).length = sz) (h1 : ∀ a, ∀ u ∈ enc a, u.oneCell' = true)
    (v : Value) (L : List α) (hs : a.eval s = v) (hown : RowE T sz enc w B v L) (xa : Option Addr) (n c : Nat) (M : List α) (hx : a.eval x = .slice xa n c) (hn : n = M.length) (hM : Lies enc w xa M)
    (hlen : L.length + M.length < 1000000) (hby : bytes ≤ 1000) (hB : B ≤ w.heap.size)
    (h : ∀ v' w', RowE T sz enc w' B v' (L ++ M) → w.grownBy w' v.ownBlock → (v'.ownBlock = v.ownBlock ∨ v'.ownBlock = some w.heap.size) → K (a.put o.dst v') w') : Oper.wp P o a w K Q := by
  subst hn
  obtain ⟨i0, hi, hz0, hz1, hz2⟩ := info_parts hinfo
  by_cases hM0 : M = []
  · subst hM0
    have hsrc : Src P i0.size t (.slice xa 0 c) 0 [] w := by
      cases xa with
      | none => exact Src.ofNil w ht c
      | some b => exact Src.ofSlice w ht b 0 c [] (by simp) (fun j u hu => by simp at hu) (fun u hu => by simp at hu)
    have hrun : (Builtin.append_ #[t, t] o.type #[v, .slice xa 0 c]).run P w = .ok v w := by
      rcases hown.shape he with ⟨rfl, -⟩ | ⟨g, cap, rfl, -, -, hc, -⟩
      · exact run_append_nothing w t t _ T i0 ht hi none 0 0 (Nat.le_refl _) _ hsrc
      · exact run_append_nothing w t t _ T i0 ht hi _ _ cap hc _ hsrc
    unfold Oper.wp execOp
    simp only [List.length_nil] at hx
    simp only [ho, resolve, invoke, builtin, Sem.run_bind, Sem.run_pure, Result.andThen_ok, List.map_toArray, List.map_cons, List.map_nil, hs, hx, hrun]
    exact h v w (by rw [List.append_nil]; exact hown) (grown_refl _ _) (.inl rfl)
  · obtain ⟨b, rfl, hc⟩ := hM.resolve_left hM0
    have hpos : 0 < M.length := List.length_pos_iff.2 hM0
    refine wp_append_lies w s x t ho B T i0 z sz bytes ht hi hz0 hz1 hz2 hzs hsz v L.length _ hs hown b M.length c (M.flatMap enc) hx (fm_len he M) hc (fun u hu => ?_) hpos (by unfold maxLen; omega)
      (Nat.le_trans (Nat.mul_le_mul (show L.length + M.length ≤ 1000000 by omega) hby) (by decide)) hB _ rfl ?_
    · obtain ⟨y, -, hy⟩ := List.mem_flatMap.1 hu
      exact h1 y u hy
    intro g2 cap2 w1 r1 r2 r3 _
    refine h _ w1 ?_ r2 ?_
    · unfold RowE
      rw [List.length_append, List.flatMap_append]
      exact r1
    · rcases r3 with r3 | r3
      · exact .inl r3.symm
      · exact .inr (by rw [r3]; rfl)
theorem wpList_append_src (w : World) {ops : Array Oper} {rest : List Oper} {o : Oper} {a : Act} {Q : Exit → Act → World → Prop} (hgd : o.guard = none) (s x : Operand) (t : TypeId)
    (ho : o.op = .call { callee := .builtin .append, args := #[s, x], argTypes := #[t, t] }) (B : Nat) {T : TypeId} {z : Value} {bytes : Nat}
    (hinfo : (P.info? T).map (fun i => (i.zero, i.size, i.bytes)) = some (some z, sz, bytes)) (ht : P.underlying t = some (.slice T)) (hzs : z.cells.size = sz) (hsz : 0 < sz)
    (he : ∀ a, (enc a).length = sz) (h1 : ∀ a, ∀ u ∈ enc a, u.oneCell' = true)
    (v : Value) (L : List α) (hs : a.eval s = v) (hown : RowE T sz enc w B v L) (xa : Option Addr) (n c : Nat) (M : List α) (hx : a.eval x = .slice xa n c) (hn : n = M.length) (hM : Lies enc w xa M)
    (hlen : L.length + M.length < 1000000) (hby : bytes ≤ 1000) (hB : B ≤ w.heap.size)
    (h : ∀ v' w', RowE T sz enc w' B v' (L ++ M) → w.grownBy w' v.ownBlock → (v'.ownBlock = v.ownBlock ∨ v'.ownBlock = some w.heap.size) → wpList P ops Q rest (a.put o.dst v') w') : wpList P ops Q (o :: rest) a w :=
  wpList_plain hgd fun _ hK => wp_append_src w s x t ho B hinfo ht hzs hsz he h1 v L hs hown xa n c M hx hn hM hlen hby hB fun v' w' h1 h2 h3 => hK _ _ (h v' w' h1 h2 h3)
theorem step_append_src (w : World) {ops : Array Oper} {o : Oper} {a : Act} {K : Act → World → Prop} {Q : Exit → Act → World → Prop} {E : Prop} (hgd : o.guard = none) (s x : Operand) (t : TypeId)
    (ho : o.op = .call { callee := .builtin .append, args := #[s, x], argTypes := #[t, t] }) (B : Nat) {T : TypeId} {z : Value} {bytes : Nat}
    (hinfo : (P.info? T).map (fun i => (i.zero, i.size, i.bytes)) = some (some z, sz, bytes)) (ht : P.underlying t = some (.slice T)) (hzs : z.cells.size = sz) (hsz : 0 < sz)
    (he : ∀ a, (enc a).length = sz) (h1 : ∀ a, ∀ u ∈ enc a, u.oneCell' = true)
    (v : Value) (L : List α) (hs : a.eval s = v) (hown : RowE T sz enc w B v L) (xa : Option Addr) (n c : Nat) (M : List α) (hx : a.eval x = .slice xa n c) (hn : n = M.length) (hM : Lies enc w xa M)
    (hlen : L.length + M.length < 1000000) (hby : bytes ≤ 1000) (hB : B ≤ w.heap.size)
    (h : ∀ v' w', RowE T sz enc w' B v' (L ++ M) → w.grownBy w' v.ownBlock → (v'.ownBlock = v.ownBlock ∨ v'.ownBlock = some w.heap.size) → K (a.put o.dst v') w') : if Region.wanted o (yielded ops a.tmps) = true then Oper.wp P o a w K Q else E := by
  rw [if_pos (by unfold Region.wanted; rw [hgd])]
  exact wp_append_src w s x t ho B hinfo ht hzs hsz he h1 v L hs hown xa n c M hx hn hM hlen hby hB h
theorem fm_setZ (he : ∀ a, (enc a).length = sz) : ∀ (L : List α) (k : Nat) (hk : k < L.length) (j : Nat) (u : Value) (b : α), j < sz → enc b = (enc L[k]).set j u → (L.flatMap enc).set (k * sz + j) u = (L.set k b).flatMap enc
  | a :: L, 0, _, j, u, b, hj, h => by
    rw [List.flatMap_cons, List.set_append_left _ _ (by rw [he]; omega), List.set_cons_zero, List.flatMap_cons, h]
    simp
  | a :: L, k + 1, hk, j, u, b, hj, h => by
    rw [List.flatMap_cons, List.set_append_right _ _ (by rw [he, Nat.succ_mul]; omega), he, List.set_cons_succ, List.flatMap_cons]
    have e : (k + 1) * sz + j - sz = k * sz + j := by rw [Nat.succ_mul]; omega
    rw [e, fm_setZ he L k (by simpa using hk) j u b hj (by simpa using h)]
end
theorem fmI (L : List Int) : L.flatMap enc1 = L.map (Value.int .i64) := by
  induction L with
  | nil => rfl
  | cons x l ih => rw [List.flatMap_cons, ih]; rfl
section
variable {w w' : World} {p q : Nat → Prop}
theorem RdI.lies {a : Option Addr} {n : Nat} {xs : List Int} (h : RdI w p a n xs) : n = xs.length ∧ Lies enc1 w a xs := by
  refine ⟨h.1, ?_⟩
  rcases h.2 with h | ⟨g, o, rfl, -, -, hc⟩
  · exact .inl h
  · refine .inr ⟨_, rfl, fun j u hu => ?_⟩
    rw [fmI] at hu
    have hj : j < xs.length := by have := (List.getElem?_eq_some_iff.1 hu).1; simpa using this
    rw [List.getElem?_map, List.getElem?_eq_getElem hj] at hu
    rw [Addr.add_lit, hc j hj, ← hu]
    simp [List.getD, hj]
/-- What stands at a place. -/
theorem RdI.at_ {a : Option Addr} {n : Nat} {xs : List Int} (h : RdI w p a n xs) {k : Nat} (hk : k < xs.length) : ∃ g o, a = some ⟨g, o, none⟩ ∧ p g ∧ g < w.heap.size ∧ w.cell? ⟨g, o + k, none⟩ = some (.int .i64 (xs.getD k 0)) := by
  rcases h.2 with h | ⟨g, o, e, hp, hg, hc⟩
  · rw [h] at hk; exact absurd hk (by simp)
  · exact ⟨g, o, e, hp, hg, hc k hk⟩
theorem RdI.drop1 {g o n : Nat} {x : Int} {xs : List Int} (h : RdI w p (some ⟨g, o, none⟩) (n + 1) (x :: xs)) : RdI w p (some ⟨g, o + 1, none⟩) n xs := by
  refine ⟨by have := h.1; simpa using this, ?_⟩
  rcases h.2 with h | ⟨g', o', e, hp, hg, hc⟩
  · exact absurd h (by simp)
  · injection e with e
    injection e with e1 e2
    subst e1 e2
    refine .inr ⟨g, o + 1, rfl, hp, hg, fun k hk => ?_⟩
    have := hc (k + 1) (by simpa using hk)
    rw [show o + 1 + k = o + (k + 1) by omega]
    simpa using this
theorem RowE.rdI {T : TypeId} {B : Nat} {v : Value} {xs : List Int} (h : RowE T 1 enc1 w B v xs) : ∃ a c, v = .slice a xs.length c ∧ RdI w (fun g => B ≤ g) a xs.length xs ∧ xs.length ≤ c := by
  rcases h.shape enc1_len with ⟨rfl, rfl⟩ | ⟨g, cap, rfl, hB, hg, hcap, -, hc, -⟩
  · exact ⟨none, 0, rfl, ⟨rfl, .inl rfl⟩, Nat.le_refl _⟩
  · refine ⟨_, cap, rfl, ⟨rfl, .inr ⟨g, 0, rfl, hB, hg, fun k hk => ?_⟩⟩, hcap⟩
    have := hc k hk 0 (by omega)
    rw [Nat.zero_add]
    simpa [enc1, List.getD, hk] using this
theorem RdI.nil (a : Option Addr) : RdI w p a 0 [] := ⟨rfl, .inl rfl⟩
/-- A row of zones of the call's own. -/
def ZsO (T : TypeId) (w : World) (B : Nat) (p : Nat → Prop) (v : Value) (L : List Zo) : Prop := ∃ M : List Zc, RowE T 6 encZ w B v M ∧ M.length = L.length ∧ ∀ k, k < L.length → RdZ w p (M.getD k zcZ) (L.getD k zoZ)
theorem RdZ.keep {zc : Zc} {z : Zo} (h : RdZ w p zc z) (hs : w.heap.size ≤ w'.heap.size) (hp : ∀ g, p g → g < w.heap.size → q g) (hk : ∀ g, p g → g < w.heap.size → w'.heap[g]? = w.heap[g]?) : RdZ w' q zc z := ⟨h.1, h.2.1.keep hs hp hk, h.2.2⟩
theorem getD_get {α : Type} {d : α} {M : List α} {k : Nat} (h : k < M.length) : M.getD k d = M[k] := by simp [List.getD, h]
/-- It is read. -/
theorem ZsO.read {T : TypeId} {B : Nat} {v : Value} {L : List Zo} (h : ZsO T w B p v L) (hB : ∀ g, B ≤ g → g < w.heap.size → q g) (hp : ∀ g, p g → g < w.heap.size → q g) : ZsR w q v L := by
  obtain ⟨M, h1, h2, h3⟩ := h
  rcases h1.shape encZ_len with ⟨rfl, rfl⟩ | ⟨g, cap, rfl, hBg, hg, -, -, hc, -⟩
  · have : L = [] := List.length_eq_zero_iff.1 (by simpa using h2.symm)
    subst this
    exact ZsR.nil _ _ _ _
  · refine ⟨M, _, cap, by rw [h2], h2, .inr ⟨g, rfl, hB g hBg hg, hg, fun k hk r u hu => ?_⟩, fun k hk => (h3 k hk).keep (Nat.le_refl _) hp fun _ _ _ => rfl⟩
    rw [getD_get (by omega)] at hu
    rw [hc k (by omega) r (by have := (List.getElem?_eq_some_iff.1 hu).1; rwa [encZ_len] at this)]
    exact hu
/-- What a list of zones that is read has in its cells: for appends. -/
theorem ZsR.cells {v : Value} {L : List Zo} (h : ZsR w p v L) : ∃ (M : List Zc) (a : Option Addr) (c : Nat), v = .slice a L.length c ∧ M.length = L.length ∧ Lies encZ w a M ∧ ∀ k, k < L.length → RdZ w p (M.getD k zcZ) (L.getD k zoZ) := by
  obtain ⟨M, a, c, e, hl, h1, h2⟩ := h
  refine ⟨M, a, c, e, hl, ?_, h2⟩
  rcases h1 with h1 | ⟨g, rfl, -, -, hc⟩
  · exact .inl (List.length_eq_zero_iff.1 (by rw [hl, h1]; rfl))
  · refine .inr ⟨_, rfl, fun j u hu => ?_⟩
    have hj : j < M.length * 6 := by have := (List.getElem?_eq_some_iff.1 hu).1; rwa [fm_len encZ_len] at this
    have hk : j / 6 < M.length := by omega
    have e : j / 6 * 6 + j % 6 = j := by omega
    have := fm_at encZ_len M (j / 6) hk (j % 6) (by omega)
    rw [e, hu] at this
    have h3 := hc (j / 6) (by omega) (j % 6) u (by rw [getD_get hk]; exact this.symm)
    rw [Addr.add_lit, Nat.zero_add]
    rw [e] at h3
    exact h3
/-- A cell of a zone is stored. -/
theorem ZsO.stored {T : TypeId} {B : Nat} {g n c : Nat} {L : List Zo} (h : ZsO T w B p (.slice (some ⟨g, 0, none⟩) n c) L) {k r : Nat} (hk : k < L.length) (hr : r < 6) {u : Value} {z' : Zo}
    (hg : ∀ x, p x → x ≠ g) (hz : ∀ zc, RdZ w p zc (L.getD k zoZ) → ∃ zc', encZ zc' = (encZ zc).set r u ∧ RdZ w p zc' z') : ZsO T (w.setCell ⟨g, k * 6 + r, none⟩ u) B p (.slice (some ⟨g, 0, none⟩) n c) (L.set k z') := by
  obtain ⟨M, h1, h2, h3⟩ := h
  obtain ⟨zc', e1, e2⟩ := hz _ (h3 k hk)
  have hkM : k < M.length := by omega
  obtain rfl : n = M.length := by
    rcases h1.shape encZ_len with ⟨e, -⟩ | ⟨_, _, e, -⟩
    · cases e
    · injection e
  have h4 : RowE T 6 encZ (w.setCell ⟨g, k * 6 + r, none⟩ u) B (.slice (some ⟨g, 0, none⟩) M.length c) (M.set k zc') :=
    RowE.stored h1 (k * 6 + r) u (List.length_set ..) (fm_setZ encZ_len M k hkM r u zc' hr (by rw [e1, getD_get hkM]))
  refine ⟨M.set k zc', h4, by simp [h2], fun j hj => ?_⟩
  rw [List.length_set] at hj
  have hK : ∀ {zc z}, RdZ w p zc z → RdZ (w.setCell ⟨g, k * 6 + r, none⟩ u) p zc z := fun h => h.keep (by simp [World.setCell]) (fun _ a _ => a) fun x hx _ => Below.heap_setCell w _ u x (hg x hx)
  by_cases ej : j = k
  · subst ej
    rw [getD_get (by simpa using hkM), getD_get (by simpa using hj), List.getElem_set_self, List.getElem_set_self]
    exact hK e2
  · have e3 : (M.set k zc').getD j zcZ = M.getD j zcZ := by simp [List.getD, Ne.symm ej]
    have e4 : (L.set k z').getD j zoZ = L.getD j zoZ := by simp [List.getD, Ne.symm ej]
    rw [e3, e4]
    exact hK (h3 j hj)
end
/-- A whole zone is stored. -/
theorem rowZ_cell {T : TypeId} {w : World} {B g c k r : Nat} {M : List Zc} (R : RowE T 6 encZ w B (.slice (some ⟨g, 0, none⟩) M.length c) M) (hk : k < M.length) (hr : r < 6) {u : Value} {z' : Zc} (hz : encZ z' = (encZ (M.getD k zcZ)).set r u) :
    RowE T 6 encZ (w.setCell ⟨g, k * 6 + r, none⟩ u) B (.slice (some ⟨g, 0, none⟩) (M.set k z').length c) (M.set k z') := by
  rw [List.length_set]
  exact RowE.stored R (k * 6 + r) u (List.length_set ..) (fm_setZ encZ_len M k hk r u z' hr (by rw [hz, getD_get hk]))
theorem set_setZ {M : List Zc} {k : Nat} (hk : k < M.length) (z : Zc) : (M.set k z).getD k zcZ = z := by simp [List.getD, hk]
theorem rowZ_store {T : TypeId} {w : World} {B g c k n : Nat} {M : List Zc} (R : RowE T 6 encZ w B (.slice (some ⟨g, 0, none⟩) n c) M) (hk : k < n) (f s mn lo hi : Int) (a : Option Addr) (n' c' : Nat) :
    RowE T 6 encZ ((((((w.setCell ⟨g, k * 6, none⟩ (.int .i64 f)).setCell ⟨g, k * 6 + 1, none⟩ (.int .i64 s)).setCell ⟨g, k * 6 + 2, none⟩ (.int .i64 mn)).setCell ⟨g, k * 6 + 3, none⟩ (.int .i64 lo)).setCell ⟨g, k * 6 + 4, none⟩ (.int .i64 hi)).setCell ⟨g, k * 6 + 5, none⟩ (.slice a n' c'))
      B (.slice (some ⟨g, 0, none⟩) n c) (M.set k ((f, s, mn, lo, hi), (a, n', c'))) := by
  obtain rfl : n = M.length := by
    rcases R.shape encZ_len with ⟨e, -⟩ | ⟨_, _, e, -⟩
    · cases e
    · injection e
  have hl : ∀ z, k < (M.set k z).length := fun z => by rw [List.length_set]; exact hk
  generalize hz0 : M.getD k zcZ = z0
  obtain ⟨⟨f0, s0, m0, l0, h0⟩, a0, n0, c0⟩ := z0
  have R1 := rowZ_cell (r := 0) R hk (by omega) (u := .int .i64 f) (z' := ((f, s0, m0, l0, h0), (a0, n0, c0))) (by rw [hz0]; rfl)
  have R2 := rowZ_cell (r := 1) R1 (hl _) (by omega) (u := .int .i64 s) (z' := ((f, s, m0, l0, h0), (a0, n0, c0))) (by rw [set_setZ hk]; rfl)
  rw [List.set_set] at R2
  have R3 := rowZ_cell (r := 2) R2 (hl _) (by omega) (u := .int .i64 mn) (z' := ((f, s, mn, l0, h0), (a0, n0, c0))) (by rw [set_setZ hk]; rfl)
  rw [List.set_set] at R3
  have R4 := rowZ_cell (r := 3) R3 (hl _) (by omega) (u := .int .i64 lo) (z' := ((f, s, mn, lo, h0), (a0, n0, c0))) (by rw [set_setZ hk]; rfl)
  rw [List.set_set] at R4
  have R5 := rowZ_cell (r := 4) R4 (hl _) (by omega) (u := .int .i64 hi) (z' := ((f, s, mn, lo, hi), (a0, n0, c0))) (by rw [set_setZ hk]; rfl)
  rw [List.set_set] at R5
  have R6 := rowZ_cell (r := 5) R5 (hl _) (by omega) (u := .slice a n' c') (z' := ((f, s, mn, lo, hi), (a, n', c'))) (by rw [set_setZ hk]; rfl)
  rw [List.set_set, List.length_set] at R6
  exact R6
theorem six_block {w w' : World} {g o : Nat} {a b c d e f : Value} (hw : (((((w.setCell ⟨g, o, none⟩ a).setCell ⟨g, o + 1, none⟩ b).setCell ⟨g, o + 2, none⟩ c).setCell ⟨g, o + 3, none⟩ d).setCell ⟨g, o + 4, none⟩ e).setCell ⟨g, o + 5, none⟩ f = w') : w.grownBy w' (some g) := by
  rw [← hw]
  exact grown_set (grown_set (grown_set (grown_set (grown_set (grown_set (grown_refl w (some g)) (p := ⟨g, o, none⟩) (.inl rfl) a) (p := ⟨g, o + 1, none⟩) (.inl rfl) b) (p := ⟨g, o + 2, none⟩) (.inl rfl) c) (p := ⟨g, o + 3, none⟩) (.inl rfl) d) (p := ⟨g, o + 4, none⟩) (.inl rfl) e) (p := ⟨g, o + 5, none⟩) (.inl rfl) f
/-- The row of zones with another zone, of which the free frames lie apart. -/
theorem ZsO.put {T : TypeId} {w w' : World} {B g n c k : Nat} {p : Nat → Prop} {L : List Zo} (h : ZsO T w B p (.slice (some ⟨g, 0, none⟩) n c) L) (hk : k < L.length) {z : Zo} {a : Option Addr} {c' : Nat} (hr : RdI w p a z.fr.length z.fr) (hc : z.fr.length ≤ c') (hg : ∀ x, p x → x ≠ g)
    (hw : (((((w.setCell ⟨g, k * 6, none⟩ (.int .i64 z.f)).setCell ⟨g, k * 6 + 1, none⟩ (.int .i64 z.s)).setCell ⟨g, k * 6 + 2, none⟩ (.int .i64 z.mn)).setCell ⟨g, k * 6 + 3, none⟩ (.int .i64 z.lo)).setCell ⟨g, k * 6 + 4, none⟩ (.int .i64 z.hi)).setCell ⟨g, k * 6 + 5, none⟩ (.slice a z.fr.length c') = w') :
    ZsO T w' B p (.slice (some ⟨g, 0, none⟩) n c) (L.set k z) := by
  obtain ⟨M, h1, h2, h3⟩ := h
  have hG := six_block hw
  have hn : n = M.length := by
    rcases h1.shape encZ_len with ⟨e, -⟩ | ⟨_, _, e, -⟩
    · cases e
    · injection e
  refine ⟨M.set k ((z.f, z.s, z.mn, z.lo, z.hi), (a, z.fr.length, c')), ?_, by simp [h2], fun j hj => ?_⟩
  · rw [← hw]
    exact rowZ_store h1 (by omega) _ _ _ _ _ _ _ _
  · rw [List.length_set] at hj
    have hK : ∀ {zc z}, RdZ w p zc z → RdZ w' p zc z := fun h => h.keep hG.size (fun _ a _ => a) fun x hx hl => hG.block x hl (fun e => by injection e with e; exact hg x hx e)
    by_cases ej : j = k
    · subst ej
      rw [set_setZ (by omega)]
      have e4 : (L.set j z).getD j zoZ = z := by simp [List.getD, hj]
      rw [e4]
      exact hK ⟨rfl, hr, hc⟩
    · have e3 : (M.set k ((z.f, z.s, z.mn, z.lo, z.hi), (a, z.fr.length, c'))).getD j zcZ = M.getD j zcZ := by simp [List.getD, Ne.symm ej]
      have e4 : (L.set k z).getD j zoZ = L.getD j zoZ := by simp [List.getD, Ne.symm ej]
      rw [e3, e4]
      exact hK (h3 j hj)
abbrev cZ (f s mn lo hi : Int) (a : Option Addr) (n c : Nat) : Array Value := #[.int .i64 f, .int .i64 s, .int .i64 mn, .int .i64 lo, .int .i64 hi, .slice a n c]
theorem Own.six {w : World} {g : Nat} {t : TypeId} {a b c d e f : Value} (o : Own w g t #[a, b, c, d, e, f]) : w.cell? ⟨g, 0, none⟩ = some a ∧ w.cell? ⟨g, 1, none⟩ = some b ∧ w.cell? ⟨g, 2, none⟩ = some c ∧ w.cell? ⟨g, 3, none⟩ = some d ∧
    w.cell? ⟨g, 4, none⟩ = some e ∧ w.cell? ⟨g, 5, none⟩ = some f := ⟨(o.cell 0).trans rfl, (o.cell 1).trans rfl, (o.cell 2).trans rfl, (o.cell 3).trans rfl, (o.cell 4).trans rfl, (o.cell 5).trans rfl⟩
end Go.Mine

/- Rows of nodes: words of my own; append of a whole row onto nil. -/
import Derived.Test.YtdlhihllmidfeaaSp1
import Derived.Deep.Upon
import Derived.Laws.MakeOwn
namespace Go.Proofs.Ytdlhihllmidfeaa
open Go Go.RowKit Go.Mine

/-- A node: its kids' slice, value, marks. -/
abbrev Kdn := Option Addr × Nat × Nat × Int × Int
def encKn (k : Kdn) : List Value := [.slice k.1 k.2.1 k.2.2.1, .int .i64 k.2.2.2.1, .int .i64 k.2.2.2.2]
theorem encKn_len (k : Kdn) : (encKn k).length = 3 := rfl
theorem encKn_one {k : Kdn} : ∀ u ∈ encKn k, u.oneCell' = true := by intro u hu; simp [encKn] at hu; rcases hu with rfl | rfl | rfl <;> rfl
theorem encKn_ones {L : List Kdn} : ∀ u ∈ L.flatMap encKn, u.oneCell' = true := by
  intro u hu
  obtain ⟨x, -, hx⟩ := List.mem_flatMap.1 hu
  exact encKn_one u hx
theorem info_kn : (Try.prog.info? 26).map (fun i => (i.zero, i.size, i.bytes)) = some (some (.agg #[.slice none 0 0, .int .i64 0, .int .i64 0]), 3, 40) := by kernel_rfl
abbrev RwK (w : World) (B : Nat) (v : Value) (L : List Kdn) : Prop := RowE 26 3 encKn w B v L
abbrev knZ : Kdn := (none, 0, 0, 0, 0)
def KnP (P : Value → Int → Int → Prop) (k : Kdn) : Prop := P (.slice k.1 k.2.1 k.2.2.1) k.2.2.2.1 k.2.2.2.2
/-- The kids of a node as a list. -/
theorem kids_list {w : World} {P : Nat → Value → Int → Int → Prop} {g : Nat} (h : ∀ k, k < 4 → KidAt w (P k) g k) (hs : ∀ k s x m, P k s x m → ∃ a n c, s = .slice a n c) :
    ∃ M : List Kdn, M.length = 4 ∧ (∀ j u, (M.flatMap encKn)[j]? = some u → w.cell? ((⟨g, 0, none⟩ : Addr).add j) = some u) ∧ ∀ k, k < 4 → KnP (P k) (M.getD k knZ) := by
  have one : ∀ k, k < 4 → ∃ q : Kdn, (∀ r u, (encKn q)[r]? = some u → w.cell? ⟨g, k * 3 + r, none⟩ = some u) ∧ KnP (P k) q := fun k hk => by
    obtain ⟨s', x', m', c0, c1, c2, n⟩ := h k hk
    obtain ⟨a, n', c, rfl⟩ := hs k _ _ _ n
    refine ⟨(a, n', c, x', m'), fun r u hu => ?_, n⟩
    have hr : r = 0 ∨ r = 1 ∨ r = 2 := by
      have := (List.getElem?_eq_some_iff.1 hu).1
      rw [encKn_len] at this
      omega
    rcases hr with rfl | rfl | rfl <;> simp [encKn] at hu <;> subst hu <;> assumption
  obtain ⟨q0, h0, p0⟩ := one 0 (by omega)
  obtain ⟨q1, h1, p1⟩ := one 1 (by omega)
  obtain ⟨q2, h2, p2⟩ := one 2 (by omega)
  obtain ⟨q3, h3, p3⟩ := one 3 (by omega)
  refine ⟨[q0, q1, q2, q3], rfl, fun j u hu => ?_, fun k hk => ?_⟩
  · have hj := (List.getElem?_eq_some_iff.1 hu).1
    rw [fm_len encKn_len] at hj
    have hj2 : j < 12 := hj
    rw [Addr.add_lit, Nat.zero_add]
    have e : j = j / 3 * 3 + j % 3 := by omega
    have hk : j / 3 < [q0, q1, q2, q3].length := by show j / 3 < 4; omega
    rw [e, fm_at encKn_len _ _ hk _ (by omega)] at hu
    rw [e]
    have hq : j / 3 = 0 ∨ j / 3 = 1 ∨ j / 3 = 2 ∨ j / 3 = 3 := by omega
    generalize j / 3 = q at *
    rcases hq with rfl | rfl | rfl | rfl
    · exact h0 _ _ hu
    · exact h1 _ _ hu
    · exact h2 _ _ hu
    · exact h3 _ _ hu
  · have : k = 0 ∨ k = 1 ∨ k = 2 ∨ k = 3 := by omega
    rcases this with rfl | rfl | rfl | rfl <;> assumption
/-- At a step of a region that draws its order: append(nil, kids...). -/
theorem step_append_kids (w : World) {ops : Array Oper} {o : Oper} {a : Act} {K : Act → World → Prop} {Q : Exit → Act → World → Prop} {E : Prop} (hgd : o.guard = none) (s x : Operand) (t : TypeId)
    (ho : o.op = .call { callee := .builtin .append, args := #[s, x], argTypes := #[t, t] }) (ht : Try.prog.underlying t = some (.slice 26))
    (hs : a.eval s = .slice none 0 0) (M : List Kdn) (ao : Option Addr) (c : Nat) (hx : a.eval x = .slice ao M.length c) (hlen : M.length ≤ 100)
    (hM : M = [] ∨ ∃ g, ao = some ⟨g, 0, none⟩ ∧ ∀ j u, (M.flatMap encKn)[j]? = some u → w.cell? ((⟨g, 0, none⟩ : Addr).add j) = some u)
    (h : ∀ v' w', RwK w' w.heap.size v' M → Grew w w' → K (a.put o.dst v') w') : if Region.wanted o (yielded ops a.tmps) = true then Oper.wp Try.prog o a w K Q else E := by
  rw [if_pos (by unfold Region.wanted; rw [hgd])]
  obtain ⟨i0, hi, hz0, hz1, hz2⟩ := info_parts info_kn
  by_cases hm : M = []
  · subst hm
    have hsrc : Src Try.prog i0.size t (.slice ao 0 c) 0 [] w := by
      cases ao with
      | none => exact Src.ofNil w ht c
      | some ad => exact Src.ofSlice w ht ad 0 c [] (by simp) (fun j u hu => by simp at hu) (fun u hu => by simp at hu)
    have hrun := run_append_nothing w t t o.type 26 i0 ht hi none 0 0 (Nat.le_refl _) _ hsrc
    have hx2 : a.eval x = .slice ao 0 c := hx
    unfold Oper.wp execOp
    simp only [ho, resolve, invoke, builtin, Sem.run_bind, Sem.run_pure, Result.andThen_ok, List.map_toArray, List.map_cons, List.map_nil, hs, hx2, hrun]
    exact h _ w (RowE.nil _ _) (Grew.refl _)
  · obtain ⟨g, rfl, hc⟩ := hM.resolve_left hm
    have hl0 : 0 < M.length := List.length_pos_iff.2 hm
    refine wp_append_lies w s x t ho w.heap.size 26 i0 _ 3 40 ht hi hz0 hz1 hz2 (by decide) (by omega) _ 0 [] hs (World.ownsRow_nil w _ _ _) ⟨g, 0, none⟩ M.length c (M.flatMap encKn) hx (fm_len encKn_len M) hc encKn_ones hl0
      (by unfold maxLen; omega) (Nat.le_trans (Nat.mul_le_mul (show 0 + M.length ≤ 100 by omega) (Nat.le_refl 40)) (by decide)) (Nat.le_refl _) _ rfl ?_
    intro g2 cap2 w1 r1 r2 r3 _
    refine h _ w1 ?_ (below_of_grown r2)
    unfold RwK RowE
    rw [Nat.zero_add, List.nil_append] at r1
    rw [Nat.zero_add]
    exact r1
theorem fm_set {α : Type} {enc : α → List Value} {sz : Nat} (he : ∀ a, (enc a).length = sz) : ∀ (L : List α) (k : Nat) (hk : k < L.length) (j : Nat) (u : Value) (b : α), j < sz → enc b = (enc L[k]).set j u → (L.flatMap enc).set (k * sz + j) u = (L.set k b).flatMap enc
  | a :: L, 0, _, j, u, b, hj, hb => by
    rw [List.flatMap_cons, List.set_cons_zero, List.flatMap_cons, Nat.zero_mul, Nat.zero_add, List.set_append_left _ _ (by rw [he]; exact hj)]
    rw [hb]; rfl
  | a :: L, k + 1, hk, j, u, b, hj, hb => by
    rw [List.flatMap_cons, List.set_cons_succ, List.flatMap_cons, List.set_append_right _ _ (by rw [he, Nat.succ_mul]; omega), he]
    congr 1
    rw [show (k + 1) * sz + j - sz = k * sz + j by rw [Nat.succ_mul]; omega]
    exact fm_set he L k (by simpa using hk) j u b hj hb
/-- A whole node is stored. -/
theorem rwK_store {w : World} {B g c k : Nat} {M : List Kdn} (R : RwK w B (.slice (some ⟨g, 0, none⟩) M.length c) M) (hk : k < M.length) (q : Kdn) :
    RwK (((w.setCell ⟨g, k * 3, none⟩ (.slice q.1 q.2.1 q.2.2.1)).setCell ⟨g, k * 3 + 1, none⟩ (.int .i64 q.2.2.2.1)).setCell ⟨g, k * 3 + 2, none⟩ (.int .i64 q.2.2.2.2)) B (.slice (some ⟨g, 0, none⟩) M.length c) (M.set k q) := by
  have e1 := fm_set encKn_len M k hk 0 (.slice q.1 q.2.1 q.2.2.1) (q.1, q.2.1, q.2.2.1, M[k].2.2.2.1, M[k].2.2.2.2) (by omega) rfl
  have R1 := RowE.stored R (k * 3 + 0) _ (L' := M.set k (q.1, q.2.1, q.2.2.1, M[k].2.2.2.1, M[k].2.2.2.2)) (by simp) e1
  generalize hM1 : M.set k (q.1, q.2.1, q.2.2.1, M[k].2.2.2.1, M[k].2.2.2.2) = M1 at *
  have hl1 : M1.length = M.length := by rw [← hM1]; simp
  have hk1 : M1[k]'(by omega) = (q.1, q.2.1, q.2.2.1, M[k].2.2.2.1, M[k].2.2.2.2) := by simp [← hM1]
  rw [← hl1] at R1
  have e2 := fm_set encKn_len M1 k (by omega) 1 (.int .i64 q.2.2.2.1) (q.1, q.2.1, q.2.2.1, q.2.2.2.1, M[k].2.2.2.2) (by omega) (by rw [hk1]; rfl)
  have R2 := RowE.stored R1 (k * 3 + 1) _ (L' := M1.set k (q.1, q.2.1, q.2.2.1, q.2.2.2.1, M[k].2.2.2.2)) (by simp) e2
  generalize hM2 : M1.set k (q.1, q.2.1, q.2.2.1, q.2.2.2.1, M[k].2.2.2.2) = M2 at *
  have hl2 : M2.length = M1.length := by rw [← hM2]; simp
  have hk2 : M2[k]'(by omega) = (q.1, q.2.1, q.2.2.1, q.2.2.2.1, M[k].2.2.2.2) := by simp [← hM2]
  rw [← hl2] at R2
  have e3 := fm_set encKn_len M2 k (by omega) 2 (.int .i64 q.2.2.2.2) q (by omega) (by rw [hk2]; rfl)
  have R3 := RowE.stored R2 (k * 3 + 2) _ (L' := M2.set k q) (by simp) e3
  have e4 : M2.set k q = M.set k q := by rw [← hM2, ← hM1, List.set_set, List.set_set]
  rw [e4, hl2, hl1] at R3
  exact R3
/-- What stands at a place of a row. -/
theorem rwK_at {w : World} {B c n k : Nat} {a : Option Addr} {M : List Kdn} (R : RwK w B (.slice a n c) M) (hk : k < M.length) : ∃ g, a = some ⟨g, 0, none⟩ ∧ g < w.heap.size ∧ B ≤ g ∧
    w.cell? ⟨g, k * 3, none⟩ = some (.slice (M.getD k knZ).1 (M.getD k knZ).2.1 (M.getD k knZ).2.2.1) ∧ w.cell? ⟨g, k * 3 + 1, none⟩ = some (.int .i64 (M.getD k knZ).2.2.2.1) ∧ w.cell? ⟨g, k * 3 + 2, none⟩ = some (.int .i64 (M.getD k knZ).2.2.2.2) ∧
    (∀ j, w.frozen? ⟨g, j, none⟩ = false) := by
  rcases RowE.shape encKn_len R with ⟨-, e⟩ | ⟨g, cap, e, hB, hg, -, -, hc, hf⟩
  · rw [e] at hk; exact absurd hk (by simp)
  · injection e with e1 e2 e3
    have hd : M.getD k knZ = M[k] := by rw [List.getD, List.getElem?_eq_getElem hk]; rfl
    refine ⟨g, e1, hg, hB, ?_, ?_, ?_, hf⟩
    · have := hc k hk 0 (by omega); rw [hd]; simpa [encKn] using this
    · have := hc k hk 1 (by omega); rw [hd]; simpa [encKn] using this
    · have := hc k hk 2 (by omega); rw [hd]; simpa [encKn] using this
theorem rwK_kid {w : World} {B c n k : Nat} {g : Nat} {M : List Kdn} {P : Value → Int → Int → Prop} (R : RwK w B (.slice (some ⟨g, 0, none⟩) n c) M) (hk : k < M.length) (hp : KnP P (M.getD k knZ)) : KidAt w P g k := by
  obtain ⟨g', e, -, -, c0, c1, c2, -⟩ := rwK_at R hk
  injection e with e
  injection e with e
  subst e
  exact ⟨_, _, _, c0, c1, c2, hp⟩
end Go.Proofs.Ytdlhihllmidfeaa

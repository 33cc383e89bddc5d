/- For ZoneOnce (layer 10): the frames that are taken, as a list in memory; what taking and giving make of zones and of that list. -/
import Derived.Test.YtphccdfdknihdaaZm1
import Derived.Deep.RegionLawGrows
namespace Go.Mine
open Go Go.RowKit
theorem wh_zone {L : List Zo} {f : Int} {i : Nat} {z : Zo} (h : RtZ 1 L) (hz : L[i]? = some z) (h1 : z.f ≤ f) (h2 : f < z.f + z.s) : whZ f L = some i := by
  have hi : i < L.length := (List.getElem?_eq_some_iff.1 hz).1
  have hd : L.getD i zoZ = z := by rw [List.getD, hz]; rfl
  refine whZ_some hi (by rw [hd]; exact decide_eq_true ⟨h1, h2⟩) fun j hj => ?_
  cases hq : inZ f (L.getD j zoZ)
  · rfl
  · obtain ⟨h3, h4⟩ := of_decide_eq_true hq
    have := zone_one h (getZ (show j < L.length by omega)) hz h3 h4 h1 h2
    omega
theorem sum_frees : ∀ L : List Zo, sumZ frN L = ((frees L).length : Int)
  | [] => rfl
  | z :: L => by
    have := sum_frees L
    show (z.fr.length : Int) + sumZ frN L = ((z.fr ++ frees L).length : Int)
    rw [List.length_append]
    omega
theorem OnceZ.start {s t : Int} (h1 : 1 ≤ s) (h2 : 1 ≤ t) (h3 : s + t ≤ 64) : OnceZ (frees [mkZ 1 s, mkZ (1 + s) t]) [mkZ 1 s, mkZ (1 + s) t] [] := by
  have hr : RtZ 1 [mkZ 1 s, mkZ (1 + s) t] := ⟨mkZ_ok h1 (by omega), mkZ_ok h2 (by omega), trivial⟩
  obtain ⟨a, b⟩ := RtZ.free hr
  refine ⟨hr, List.Pairwise.imp (fun h => by omega) b, ?_, a, by rw [List.append_nil]⟩
  show (((frmI 1 s.toNat) ++ ((frmI (1 + s) t.toNat) ++ [])).length : Int) = s + (t + 0)
  rw [List.append_nil, List.length_append, frmI_len, frmI_len]
  omega
theorem OnceZ.ok {P : List Int} {L : List Zo} {T : List Int} (h : OnceZ P L T) (h0 : 0 < L.length) : okB L = true := okB_iff.2 ⟨h0, h.1⟩
/-- What Give answers at a frame that is taken. -/
theorem OnceZ.give_x {P : List Int} {L : List Zo} {T : List Int} {k : Nat} (h : OnceZ P L T) (h0 : 0 < L.length) (hk : k < T.length) : ∃ L', givX L (T.getD k 0) = (L', 0) ∧ OnceZ P L' (T.eraseIdx k) ∧ L'.length = L.length := by
  obtain ⟨i, z, hi, hz, h1, h2, h3, h4⟩ := h.give hk
  have hd : L.getD i zoZ = z := by rw [List.getD, hz]; rfl
  have hT : T.getD k 0 = T[k] := by simp [List.getD, hk]
  rw [hT]
  refine ⟨_, givX_0 (h.ok h0) (wh_zone h.1 hz h1 h2) (by unfold frI; rw [hd]; exact h3), ?_, setF_len _ _ _⟩
  unfold setF frI
  rw [hd]
  exact h4
/-- What Take answers, if it is urgent. -/
theorem OnceZ.take_x {P : List Int} {L : List Zo} {T : List Int} (h : OnceZ P L T) (h2 : L.length = 2) : (takX true L 1 = (L, 0, 3) ∧ (T.length : Int) = P.length) ∨
    ∃ L' f, takX true L 1 = (L', f, 0) ∧ OnceZ P L' (T ++ [f]) ∧ ¬f ∈ T ∧ (T.length : Int) < P.length ∧ L'.length = 2 := by
  have hok := h.ok (by omega)
  have hl := h.len
  have hP := h.2.2.1
  cases hf : fromZ true L 2 with
  | none =>
    left
    refine ⟨takX_3 hok (by rw [h2]; decide) hf, ?_⟩
    have := urgent_none h.1 (by omega) hf
    rw [this] at hl
    simp at hl
    omega
  | some i =>
    right
    obtain ⟨-, z, hz, hh, -⟩ := fromZ_some hf
    have hd : L.getD i zoZ = z := by rw [List.getD, hz]; rfl
    have hpos : 0 < z.fr.length := by
      unfold hasZ at hh
      obtain ⟨nx, b1, b2⟩ := ok_at hok (fromZ_lt hf)
      rw [hd] at b2
      have h0 : 0 ≤ z.mn := b2.2.2.2.1
      rw [Bool.or_eq_true, Bool.and_eq_true, decide_eq_true_iff, decide_eq_true_iff] at hh
      rcases hh with hh | ⟨-, hh⟩
      · omega
      · exact hh
    obtain ⟨f, r, hr⟩ : ∃ f r, z.fr = f :: r := by
      cases hq : z.fr with
      | nil => rw [hq] at hpos; exact absurd hpos (by simp)
      | cons f r => exact ⟨f, r, rfl⟩
    obtain ⟨h3, h4⟩ := h.take hz hr
    have hX := takX_0 (u := true) (p := 1) hok (by rw [h2]; decide) hf
    have hfi : frI L i = f :: r := by unfold frI; rw [hd, hr]
    rw [hfi] at hX
    have hs : setF L i ((f :: r).drop 1) = L.set i { z with fr := r } := by unfold setF; rw [hd]; rfl
    rw [hs] at hX
    have hl2 := h3.len
    have hP2 := h3.2.2.1
    rw [List.length_append, List.length_singleton] at hl2
    exact ⟨_, f, hX, h3, h4, by omega, by rw [List.length_set]; exact h2⟩
/-- Integers in a row of the call's own, or in a slice without capacity left. -/
def TkR (T : TypeId) (w : World) (B : Nat) (r : Value) (L : List Int) : Prop := RowE T 1 enc1 w B r L ∨ ∃ g, r = .slice (some ⟨g, 0, none⟩) L.length L.length ∧ B ≤ g ∧ g < w.heap.size ∧ ∀ k, k < L.length → w.cell? ⟨g, k, none⟩ = some (.int .i64 (L.getD k 0))
section
variable {T : TypeId} {w w' : World} {B b : Nat} {r : Value} {L : List Int}
theorem TkR.grew (h : TkR T w B r L) (G : Grew w w') : TkR T w' B r L := h.imp (fun h => h.grew G) fun ⟨g, e, hB, hg, hc⟩ => ⟨g, e, hB, Nat.lt_of_lt_of_le hg G.size, fun k hk => (G.cells.1 g k hg).trans (hc k hk)⟩
theorem TkR.past (h : TkR T w B r L) (G : w.grownBy w' (some b)) (hb : b < B) : TkR T w' B r L := h.imp (fun h => h.past G hb) fun ⟨g, e, hB, hg, hc⟩ => ⟨g, e, hB, Nat.lt_of_lt_of_le hg G.size, fun k hk => (World.cell?_of_block (a := ⟨g, k, none⟩) (G.block g hg (fun e => by have := Option.some.inj e; omega))).trans (hc k hk)⟩
theorem TkR.len (h : TkR T w B r L) : ∃ a c, r = .slice a L.length c := by
  rcases h with h | ⟨g, e, -⟩
  · exact h.len
  · exact ⟨_, _, e⟩
theorem TkR.lt (h : TkR T w B r L) : ∀ x, r.ownBlock = some x → x < w.heap.size := fun x hx => by
  rcases h with h | ⟨g, e, -, hg, -⟩
  · exact h.lt x hx
  · subst e
    have : g = x := Option.some.inj hx
    omega
/-- What is read of it. -/
theorem TkR.read (h : TkR T w B r L) (h0 : 0 < L.length) : ∃ g c, r = .slice (some ⟨g, 0, none⟩) L.length c ∧ B ≤ g ∧ g < w.heap.size ∧ L.length ≤ c ∧ ∀ k, k < L.length → w.cell? ⟨g, k, none⟩ = some (.int .i64 (L.getD k 0)) := by
  rcases h with h | ⟨g, e, hB, hg, hc⟩
  · rcases h.shape enc1_len with ⟨-, e⟩ | ⟨g, cap, e, hB, hg, hcap, -, hc, -⟩
    · rw [e] at h0; exact absurd h0 (by simp)
    · refine ⟨g, cap, e, hB, hg, hcap, fun k hk => ?_⟩
      have := hc k hk 0 (by omega)
      simpa [enc1, List.getD, hk] using this
  · exact ⟨g, _, e, hB, hg, Nat.le_refl _, hc⟩
end
theorem erase_list (L : List Int) (i : Nat) : L.eraseIdx i = L.take i ++ L.drop (i + 1) := List.eraseIdx_eq_take_drop_succ L i
end Go.Mine
namespace Go.Proofs.Ytphccdfdknihdaa
open Go.RowKit Go.Mine

/-- A list with one element cut out, as a new row. -/
theorem wpList_cutI {ops : Array Oper} {rest : List Oper} {o : Oper} {a : Act} {Q : Exit → Act → World → Prop} (w : World) (hgd : o.guard = none) (s x : Operand)
    (ho : o.op = .call { callee := .builtin .append, args := #[s, x], argTypes := #[22, 22] }) {g : Nat} {M : List Int} (hc : ∀ k, k < M.length → w.cell? ⟨g, k, none⟩ = some (.int .i64 (M.getD k 0))) (i n : Nat) (hn : n = M.length) (hi : i + 1 < n) (hM : n ≤ 300)
    (hs : a.eval s = .slice (some ⟨g, 0, none⟩) i i) {cc : Nat} (hx : a.eval x = .slice (some ⟨g, i + 1, none⟩) (n - (i + 1)) cc)
    (h : ∀ v' w', RowE 3 1 enc1 w' w.heap.size v' (M.eraseIdx i) → Grew w w' → wpList Try.prog ops Q rest (a.put o.dst v') w') : wpList Try.prog ops Q (o :: rest) a w := by
  subst hn
  obtain ⟨i0, hi0, hz0, hz1, hz2⟩ := info_parts info_int
  have hu : ∀ (q o' : Nat) (N : List Int), (∀ k, k < N.length → w.cell? ⟨g, o' + k, none⟩ = some (.int .i64 (N.getD k 0))) → ∀ j u, (N.flatMap enc1)[j]? = some u → w.cell? ⟨g, o' + j, none⟩ = some u := fun q o' N hN j u hj => by
    rw [fmI, List.getElem?_map] at hj
    obtain ⟨y, hy, rfl⟩ := Option.map_eq_some_iff.1 hj
    have hl := (List.getElem?_eq_some_iff.1 hy).1
    rw [hN j hl, List.getD, hy]
    rfl
  refine wpList_append_grows w hgd s x 22 ho 3 i0 _ 1 _ Try.underlying22 hi0 hz0 hz1 hz2 (by decide) (by decide) (some ⟨g, 0, none⟩) i i ((M.take i).flatMap enc1) hs (fun e => by cases e) (by rw [fm_len enc1_len, List.length_take]; omega)
    (fun b e j u hj => by
      injection e with e
      subst e
      rw [Addr.add_lit]
      exact hu 0 0 (M.take i) (fun k hk => by
        rw [List.length_take] at hk
        rw [Nat.zero_add, hc k (by omega), List.getD, List.getD, List.getElem?_take_of_lt (by omega)]) j u hj)
    ⟨g, i + 1, none⟩ (M.length - (i + 1)) cc ((M.drop (i + 1)).flatMap enc1) hx (by rw [fm_len enc1_len, List.length_drop, Nat.mul_one])
    (fun j u hj => by
      rw [Addr.add_lit]
      exact hu 0 (i + 1) (M.drop (i + 1)) (fun k hk => by
        rw [List.length_drop] at hk
        rw [hc (i + 1 + k) (by omega), List.getD, List.getD, List.getElem?_drop]) j u hj)
    (fun u hmem => by obtain ⟨e, -, he⟩ := List.mem_flatMap.1 hmem; exact enc1_one u he) (by omega) (by unfold maxLen; omega)
    (Nat.le_trans (Nat.mul_le_mul (show i + (M.length - (i + 1)) ≤ 300 by omega) (Nat.le_refl _)) (by decide)) ?_
  intro v' w' r1 r2
  refine h v' w' ?_ (below_of_grown r2)
  have hl : (M.eraseIdx i).length = i + (M.length - (i + 1)) := by rw [List.length_eraseIdx]; rw [if_pos (by omega)]; omega
  unfold RowE
  rw [hl, erase_list, List.flatMap_append]
  exact r1
theorem wpList_append_none {ops : Array Oper} {rest : List Oper} {o : Oper} {a : Act} {Q : Exit → Act → World → Prop} (w : World) (hgd : o.guard = none) (s x : Operand)
    (ho : o.op = .call { callee := .builtin .append, args := #[s, x], argTypes := #[22, 22] }) (base : Option Addr) (n c : Nat) (hle : n ≤ c) (hs : a.eval s = .slice base n c) (xa : Option Addr) (cc : Nat) (hx : a.eval x = .slice xa 0 cc)
    (h : wpList Try.prog ops Q rest (a.put o.dst (.slice base n c)) w) : wpList Try.prog ops Q (o :: rest) a w := by
  refine wpList_plain hgd fun K hK => ?_
  obtain ⟨i0, hi, hz0, hz1, hz2⟩ := info_parts info_int
  have hsrc : Src Try.prog i0.size 22 (.slice xa 0 cc) 0 [] w := by
    cases xa with
    | none => exact Src.ofNil w Try.underlying22 cc
    | some b => exact Src.ofSlice w Try.underlying22 b 0 cc [] (by simp) (fun j u hu => by simp at hu) (fun u hu => by simp at hu)
  have hrun := run_append_nothing w 22 22 o.type 3 i0 Try.underlying22 hi base n c hle _ hsrc
  unfold Oper.wp execOp
  simp only [ho, resolve, invoke, builtin, Sem.run_bind, Sem.run_pure, Result.andThen_ok, List.map_toArray, List.map_cons, List.map_nil, hs, hx, hrun]
  exact hK _ _ h
end Go.Proofs.Ytphccdfdknihdaa

/- Slices of structs: rows of elements, each of some cells; words of my own, no program is named here. -/
import Derived.Test.YtokijggckiidjaaBase
import Derived.Laws.OwnMore
import Derived.Deep.AppendLies
import Derived.ArgAppend
import Derived.Deep.RegionLawGrows
import Derived.OwnWalk
namespace Go.Mine
open Go Go.RowKit

section
variable {α : Type} {T : TypeId} {sz : Nat} {enc : α → List Value}
theorem fm_len (he : ∀ a, (enc a).length = sz) : ∀ L : List α, (L.flatMap enc).length = L.length * sz
  | [] => by simp
  | a :: L => by rw [List.flatMap_cons, List.length_append, he, fm_len he L, List.length_cons, Nat.succ_mul, Nat.add_comm]
theorem fm_at (he : ∀ a, (enc a).length = sz) : ∀ (L : List α) (k : Nat) (hk : k < L.length) (j : Nat), j < sz → (L.flatMap enc)[k * sz + j]? = (enc L[k])[j]?
  | a :: L, 0, _, j, hj => by
    rw [List.flatMap_cons, List.getElem?_append_left (by rw [he]; omega)]
    simp
  | a :: L, k + 1, hk, j, hj => by
    rw [List.flatMap_cons, List.getElem?_append_right (by rw [he, Nat.succ_mul]; omega), he]
    have e : (k + 1) * sz + j - sz = k * sz + j := by rw [Nat.succ_mul]; omega
    rw [e, fm_at he L k (by simpa using hk) j hj]
    simp
/-- The slice v holds the elements of L, in a row of a block from B on (or is nil, where there are none). -/
def RowE (T : TypeId) (sz : Nat) (enc : α → List Value) (w : World) (B : Nat) (v : Value) (L : List α) : Prop := w.ownsRow B T sz v L.length (L.flatMap enc)
variable {w w' : World} {B : Nat} {v : Value} {L : List α}
theorem RowE.keptG {r : Option Nat} (h : RowE T sz enc w B v L) (g : w.grownBy w' r) (hr : ∀ k, r = some k → v.ownBlock ≠ some k) : RowE T sz enc w' B v L := by
  refine World.ownsRow.kept h g ?_
  cases ho : v.ownBlock with
  | none => exact .inl rfl
  | some k => exact .inr fun e => hr k e.symm ho
theorem RowE.keptB {r : Option Nat} (h : RowE T sz enc w B v L) (g : w.grownBy w' r) (hr : ∀ k, r = some k → k < B) : RowE T sz enc w' B v L :=
  h.keptG g fun k e ho => by have h1 := (World.ownsRow.lt h k ho).1; have h2 := hr k e; omega
theorem RowE.grew (h : RowE T sz enc w B v L) (g : Grew w w') : RowE T sz enc w' B v L := h.keptB g.grown (by simp)
theorem RowE.past (h : RowE T sz enc w B v L) {b : Nat} (g : w.grownBy w' (some b)) (hb : b < B) : RowE T sz enc w' B v L := h.keptB g (fun k e => by injection e with e; omega)
/-- Whatever is written from C on: a row that lies below C stays. -/
theorem RowE.below {C : Nat} (h : RowE T sz enc w B v L) (g : Below C w w') (hC : ∀ k, v.ownBlock = some k → k < C) : RowE T sz enc w' B v L := by
  refine ⟨h.1, ?_⟩
  rcases h.2 with h0 | ⟨g0, cap, cur, rfl, hb, hg, rest⟩
  · exact .inl h0
  · exact .inr ⟨g0, cap, cur, rfl, hb, (Below.block g g0 (hC g0 rfl)).trans hg, rest⟩
theorem RowE.set (h : RowE T sz enc w B v L) {p : Addr} (hp : v.ownBlock ≠ some p.block) (u : Value) : RowE T sz enc (w.setCell p u) B v L :=
  h.keptG (r := some p.block) (grown_set (grown_refl w (some p.block)) (.inl rfl) u) (fun k e => by injection e with e; subst e; exact hp)
theorem RowE.alloc (h : RowE T sz enc w B v L) (o : Obj) : RowE T sz enc (w.alloc o) B v L := World.ownsRow.alloc h o
theorem RowE.drew (h : RowE T sz enc w B v L) : RowE T sz enc w.drew B v L := h
theorem RowE.drewN (h : RowE T sz enc w B v L) (n : Nat) : RowE T sz enc (w.drewN n) B v L := h
theorem RowE.wider {C : Nat} (h : RowE T sz enc w B v L) (hC : C ≤ B) : RowE T sz enc w C v L := by
  refine ⟨h.1, ?_⟩
  rcases h.2 with h0 | ⟨g0, cap, cur, rfl, hb, rest⟩
  · exact .inl h0
  · exact .inr ⟨g0, cap, cur, rfl, Nat.le_trans hC hb, rest⟩
theorem RowE.nil (w : World) (B : Nat) : RowE T sz enc w B (.slice none 0 0) [] := World.ownsRow_nil w B T sz
theorem RowE.above (h : RowE T sz enc w B v L) : ∀ k, v.ownBlock = some k → B ≤ k := fun k hk => (World.ownsRow.lt h k hk).1
theorem RowE.lt (h : RowE T sz enc w B v L) : ∀ k, v.ownBlock = some k → k < w.heap.size := fun k hk => (World.ownsRow.lt h k hk).2
theorem RowE.snoc {a : α} (h : w.ownsRow B T sz v (L.length + 1) (L.flatMap enc ++ enc a)) : RowE T sz enc w B v (L ++ [a]) := by
  unfold RowE
  rw [List.length_append, List.flatMap_append]
  simpa using h
theorem RowE.lit (w : World) (cs : Array Value) (he : cs.toList = L.flatMap enc) (hs : cs.size = L.length * sz) (hm : L.length ≤ maxLen) (hB : B ≤ w.heap.size) :
    RowE T sz enc (w.alloc (.cells cs T)) B (.slice (some ⟨w.heap.size, 0, none⟩) L.length L.length) L := by
  have h := World.ownsRow_lit (e := T) (size := sz) w cs L.length hB hm hs
  rw [he] at h
  exact h
theorem RowE.len (h : RowE T sz enc w B v L) : ∃ a c, v = .slice a L.length c := by
  rcases h.2 with ⟨h0, h1⟩ | ⟨g0, cap, cur, rfl, -⟩
  · exact ⟨none, 0, by rw [h0, h1]⟩
  · exact ⟨_, _, rfl⟩
/-- What is read of it. -/
theorem RowE.shape (he : ∀ a, (enc a).length = sz) (h : RowE T sz enc w B v L) : (v = .slice none 0 0 ∧ L = []) ∨
    ∃ g cap, v = .slice (some ⟨g, 0, none⟩) L.length cap ∧ B ≤ g ∧ g < w.heap.size ∧ L.length ≤ cap ∧ cap ≤ maxLen ∧ (∀ k (hk : k < L.length) j, j < sz → w.cell? ⟨g, k * sz + j, none⟩ = (enc L[k])[j]?) ∧ ∀ j, w.frozen? ⟨g, j, none⟩ = false := by
  have h0 := h
  obtain ⟨-, h1 | ⟨g, cap, cur, rfl, hB, hb, hc, hm, -⟩⟩ := h
  · exact .inl ⟨h1.1, List.length_eq_zero_iff.1 h1.2⟩
  · refine .inr ⟨g, cap, rfl, hB, (Array.getElem?_eq_some_iff.1 hb).1, hc, hm, fun k hk j hj => ?_, World.ownsRow.frozenAt h0⟩
    have hlt : k * sz + j < L.length * sz := by
      have : (k + 1) * sz ≤ L.length * sz := Nat.mul_le_mul_right sz hk
      rw [Nat.succ_mul] at this
      omega
    exact (World.ownsRow.cellAt h0 (k * sz + j) hlt).trans (fm_at he L k hk j hj)
/-- An element is stored anew, cell by cell: the row behind it. -/
theorem RowE.stored {g cap : Nat} (h : RowE T sz enc w B (.slice (some ⟨g, 0, none⟩) L.length cap) L) (j : Nat) (u : Value) {L' : List α} (hl : L'.length = L.length) (e : (L.flatMap enc).set j u = L'.flatMap enc) :
    RowE T sz enc (w.setCell ⟨g, j, none⟩ u) B (.slice (some ⟨g, 0, none⟩) L.length cap) L' := by
  have k := (World.ownsRow.stored h j u).1
  rw [e] at k
  unfold RowE
  rw [hl]
  exact k
end
section
variable {w w' : World} {B : Nat} {r : Option Nat}
theorem Own.keptA {g : Nat} {t : TypeId} {cs : Array Value} (h : Own w g t cs) (k : w.grownBy w' r) (hr : ∀ x, r = some x → B ≤ x) (hg : g < B) : Own w' g t cs :=
  h.since (k.block g h.lt (fun e => by have := hr g e.symm; omega))
theorem Own.keptN {g : Nat} {t : TypeId} {cs : Array Value} (h : Own w g t cs) (k : w.grownBy w' r) (hr : r ≠ some g) : Own w' g t cs := h.since (k.block g h.lt (Ne.symm hr))
theorem Own.below {C g : Nat} {t : TypeId} {cs : Array Value} (h : Own w g t cs) (k : Below C w w') (hg : g < C) : Own w' g t cs := h.since (Below.block k g hg)
theorem Tp.keptA {b B0 : Nat} (h : Tp B0 w b) (k : w.grownBy w' r) (hr : ∀ x, r = some x → B ≤ x) (hB : B0 ≤ B) : Tp B0 w' b :=
  h.elim fun rem h => ⟨rem, h.since k.size fun j hj hw => k.block j hw (fun e => by have := hr j e.symm; omega)⟩
theorem Tp.below {b B0 C : Nat} (h : Tp B0 w b) (k : Below C w w') (hB : B0 ≤ C) : Tp B0 w' b :=
  h.elim fun rem h => ⟨rem, h.since (Below.size k) fun j hj hw => Below.block k j (by omega)⟩
theorem Grew.keptA {a : World} (h : Grew a w) (k : w.grownBy w' r) (hr : ∀ x, r = some x → B ≤ x) (hB : a.heap.size ≤ B) : Grew a w' :=
  Below.grown h k h.size (fun x e => by have := hr x e; omega)
theorem Grew.below {a : World} {C : Nat} (h : Grew a w) (k : Below C w w') (hC : a.heap.size ≤ C) : Grew a w' := Below.trans h (Below.mono k hC)
end
theorem grown_above {a b c : World} {r s : Option Nat} (h : a.grownBy b r) (k : b.grownBy c s) (hs : ∀ x, s = some x → a.heap.size ≤ x) : a.grownBy c r :=
  ⟨k.os.trans h.os, k.tape.trans h.tape, k.output.trans h.output, Nat.le_trans h.size k.size,
    fun i hi hr => (k.block i (Nat.lt_of_lt_of_le hi h.size) (fun e => by have := hs i e.symm; omega)).trans (h.block i hi hr)⟩
theorem World.add_block' (a : Addr) (_h : a.spot = none) (j : Nat) : (a.add j).block = a.block := by
  unfold Addr.add
  split <;> simp_all
/-! append of one element, which was laid into a block of its own just before. -/
section
variable {P : Program} (w : World) {α : Type} {enc : α → List Value}
theorem own_news {w : World} {G : Nat} {T : TypeId} {l : List Value} (h : Own w G T l.toArray) : ∀ j u, l[j]? = some u → w.cell? ((⟨G, 0, none⟩ : Addr).add j) = some u := by
  have k := World.news_of_block h
  simpa using k
/-- Onto a row of the call's own. -/
theorem wpList_append_row {ops : Array Oper} {rest : List Oper} {o : Oper} {a : Act} {Q : Exit → Act → World → Prop} (hgd : o.guard = none) (s x : Operand) (t : TypeId)
    (ho : o.op = .call { callee := .builtin .append, args := #[s, x], argTypes := #[t, t] }) (B : Nat) {T : TypeId} {z : Value} {sz bytes : Nat}
    (hinfo : (P.info? T).map (fun i => (i.zero, i.size, i.bytes)) = some (some z, sz, bytes)) (ht : P.underlying t = some (.slice T)) (hzs : z.cells.size = sz) (hsz : 0 < sz)
    (he : ∀ a, (enc a).length = sz) (v : Value) (L : List α) (hs : a.eval s = v) (hown : RowE T sz enc w B v L) (G c : Nat) (x1 : α) (hx : a.eval x = .slice (some ⟨G, 0, none⟩) 1 c)
    (hnew : Own w G T (enc x1).toArray) (h1 : ∀ u ∈ enc x1, u.oneCell' = true) (hlen : L.length < 1000000) (hby : bytes ≤ 1000) (hB : B ≤ w.heap.size)
    (h : ∀ g cap w', RowE T sz enc w' B (.slice (some ⟨g, 0, none⟩) (L.length + 1) cap) (L ++ [x1]) → w.grownBy w' v.ownBlock → (v.ownBlock = some g ∨ g = w.heap.size) →
      wpList P ops Q rest (a.put o.dst (.slice (some ⟨g, 0, none⟩) (L.length + 1) cap)) w') : wpList P ops Q (o :: rest) a w := by
  obtain ⟨i0, hi, hz0, hz1, hz2⟩ := info_parts hinfo
  refine wpList_append_lies w hgd s x t ho B T i0 z sz bytes ht hi hz0 hz1 hz2 hzs hsz v L.length _ hs hown ⟨G, 0, none⟩ 1 c (enc x1) hx (by rw [he, Nat.one_mul]) (own_news hnew) h1 (by omega) (by unfold maxLen; omega)
    (Nat.le_trans (Nat.mul_le_mul (show L.length + 1 ≤ 1000000 by omega) hby) (by decide)) hB _ rfl ?_
  intro g cap w1 r1 r2 r3 _
  exact h g cap w1 (RowE.snoc r1) r2 r3
/-- Onto a slice that has no capacity left: a new row. -/
theorem wpList_append_new {ops : Array Oper} {rest : List Oper} {o : Oper} {a : Act} {Q : Exit → Act → World → Prop} (hgd : o.guard = none) (s x : Operand) (t : TypeId)
    (ho : o.op = .call { callee := .builtin .append, args := #[s, x], argTypes := #[t, t] }) {T : TypeId} {z : Value} {sz bytes : Nat}
    (hinfo : (P.info? T).map (fun i => (i.zero, i.size, i.bytes)) = some (some z, sz, bytes)) (ht : P.underlying t = some (.slice T)) (hzs : z.cells.size = sz) (hsz : 0 < sz)
    (he : ∀ a, (enc a).length = sz) (ao : Option Addr) (n : Nat) (L : List α) (hs : a.eval s = .slice ao n n) (hn : L.length = n) (hnone : ao = none → n = 0)
    (hold : ∀ b, ao = some b → ∀ j u, (L.flatMap enc)[j]? = some u → w.cell? (b.add j) = some u) (G c : Nat) (x1 : α) (hx : a.eval x = .slice (some ⟨G, 0, none⟩) 1 c)
    (hnew : Own w G T (enc x1).toArray) (h1 : ∀ u ∈ enc x1, u.oneCell' = true) (hlen : n < 1000000) (hby : bytes ≤ 1000)
    (h : ∀ g cap w', RowE T sz enc w' w.heap.size (.slice (some ⟨g, 0, none⟩) (n + 1) cap) (L ++ [x1]) → w.grownBy w' none →
      wpList P ops Q rest (a.put o.dst (.slice (some ⟨g, 0, none⟩) (n + 1) cap)) w') : wpList P ops Q (o :: rest) a w := by
  obtain ⟨i0, hi, hz0, hz1, hz2⟩ := info_parts hinfo
  subst hn
  refine wpList_append_grows w hgd s x t ho T i0 z sz bytes ht hi hz0 hz1 hz2 hzs hsz ao L.length L.length (L.flatMap enc) hs (fun e => ⟨hnone e, hnone e⟩) (fm_len he L) hold ⟨G, 0, none⟩ 1 c (enc x1) hx (by rw [he, Nat.one_mul]) (own_news hnew) h1 (by omega) (by unfold maxLen; omega)
    (Nat.le_trans (Nat.mul_le_mul (show L.length + 1 ≤ 1000000 by omega) hby) (by decide)) ?_
  intro v' w1 r1 r2
  obtain ⟨g, cap, rfl, -, -⟩ := r1.form (by omega)
  exact h g cap w1 (RowE.snoc r1) r2
/-- The same at a step of a region that draws its order. -/
theorem step_append_new {ops : Array Oper} {o : Oper} {a : Act} {w : World} {K : Act → World → Prop} {Q : Exit → Act → World → Prop} {E : Prop} (hgd : o.guard = none) (s x : Operand) (t : TypeId)
    (ho : o.op = .call { callee := .builtin .append, args := #[s, x], argTypes := #[t, t] }) {T : TypeId} {z : Value} {sz bytes : Nat}
    (hinfo : (P.info? T).map (fun i => (i.zero, i.size, i.bytes)) = some (some z, sz, bytes)) (ht : P.underlying t = some (.slice T)) (hzs : z.cells.size = sz) (hsz : 0 < sz)
    (he : ∀ a, (enc a).length = sz) (ao : Option Addr) (n : Nat) (L : List α) (hs : a.eval s = .slice ao n n) (hn : L.length = n) (hnone : ao = none → n = 0)
    (hold : ∀ b, ao = some b → ∀ j u, (L.flatMap enc)[j]? = some u → w.cell? (b.add j) = some u) (G c : Nat) (x1 : α) (hx : a.eval x = .slice (some ⟨G, 0, none⟩) 1 c)
    (hnew : Own w G T (enc x1).toArray) (h1 : ∀ u ∈ enc x1, u.oneCell' = true) (hlen : n < 1000000) (hby : bytes ≤ 1000)
    (h : ∀ g cap w', RowE T sz enc w' w.heap.size (.slice (some ⟨g, 0, none⟩) (n + 1) cap) (L ++ [x1]) → w.grownBy w' none →
      K (a.put o.dst (.slice (some ⟨g, 0, none⟩) (n + 1) cap)) w') : if Region.wanted o (yielded ops a.tmps) = true then Oper.wp P o a w K Q else E := by
  obtain ⟨i0, hi, hz0, hz1, hz2⟩ := info_parts hinfo
  subst hn
  refine step_append_grows hgd s x t ho T i0 z sz bytes ht hi hz0 hz1 hz2 hzs hsz ao L.length L.length (L.flatMap enc) hs (fun e => ⟨hnone e, hnone e⟩) (fm_len he L) hold ⟨G, 0, none⟩ 1 c (enc x1) hx (by rw [he, Nat.one_mul]) (own_news hnew) h1 (by omega) (by unfold maxLen; omega)
    (Nat.le_trans (Nat.mul_le_mul (show L.length + 1 ≤ 1000000 by omega) hby) (by decide)) ?_
  intro v' w1 r1 r2
  obtain ⟨g, cap, rfl, -, -⟩ := r1.form (by omega)
  exact h g cap w1 (RowE.snoc r1) r2
/-- Onto a row of the call's own, at a step of a region that draws its order. -/
theorem step_append_row {ops : Array Oper} {o : Oper} {a : Act} {w : World} {K : Act → World → Prop} {Q : Exit → Act → World → Prop} {E : Prop} (hgd : o.guard = none) (s x : Operand) (t : TypeId)
    (ho : o.op = .call { callee := .builtin .append, args := #[s, x], argTypes := #[t, t] }) (B : Nat) {T : TypeId} {z : Value} {sz bytes : Nat}
    (hinfo : (P.info? T).map (fun i => (i.zero, i.size, i.bytes)) = some (some z, sz, bytes)) (ht : P.underlying t = some (.slice T)) (hzs : z.cells.size = sz) (hsz : 0 < sz)
    (he : ∀ a, (enc a).length = sz) (v : Value) (L : List α) (hs : a.eval s = v) (hown : RowE T sz enc w B v L) (G c : Nat) (x1 : α) (hx : a.eval x = .slice (some ⟨G, 0, none⟩) 1 c)
    (hnew : Own w G T (enc x1).toArray) (h1 : ∀ u ∈ enc x1, u.oneCell' = true) (hlen : L.length < 1000000) (hby : bytes ≤ 1000) (hB : B ≤ w.heap.size)
    (h : ∀ g cap w', RowE T sz enc w' B (.slice (some ⟨g, 0, none⟩) (L.length + 1) cap) (L ++ [x1]) → w.grownBy w' v.ownBlock → (v.ownBlock = some g ∨ g = w.heap.size) →
      K (a.put o.dst (.slice (some ⟨g, 0, none⟩) (L.length + 1) cap)) w') : if Region.wanted o (yielded ops a.tmps) = true then Oper.wp P o a w K Q else E := by
  obtain ⟨i0, hi, hz0, hz1, hz2⟩ := info_parts hinfo
  refine step_append_lies w hgd s x t ho B T i0 z sz bytes ht hi hz0 hz1 hz2 hzs hsz v L.length _ hs hown ⟨G, 0, none⟩ 1 c (enc x1) hx (by rw [he, Nat.one_mul]) (own_news hnew) h1 (by omega) (by unfold maxLen; omega)
    (Nat.le_trans (Nat.mul_le_mul (show L.length + 1 ≤ 1000000 by omega) hby) (by decide)) hB _ rfl ?_
  intro g cap w1 r1 r2 r3 _
  exact h g cap w1 (RowE.snoc r1) r2 r3
end
theorem IntRow.grew {w w' : World} {A : Option Addr} {xs : List Int} (h : IntRow w A xs) (g : Grew w w') : IntRow w' A xs := by
  refine ⟨?_, h.2⟩
  rcases h.1 with h | ⟨b, o, hA, hb, hc⟩
  · exact .inl h
  · exact .inr ⟨b, o, hA, Nat.lt_of_lt_of_le hb g.size, fun k hk => (g.cells.1 b _ hb).trans (hc k hk)⟩
section
variable {α : Type} {T : TypeId} {sz : Nat} {enc : α → List Value} {w w' : World} {B : Nat} {v : Value} {L : List α}
/-- A row ahead of block b stays where b is written; and where blocks behind b are. -/
theorem RowE.farT {b : Nat} (h : RowE T sz enc w B v L) (hk : ∀ k, v.ownBlock = some k → k < b) (g : w.grownBy w' (some b)) : RowE T sz enc w' B v L :=
  h.keptG g fun k e ho => by injection e with e; have := hk k ho; omega
theorem RowE.farR {b : Nat} {r : Option Nat} (h : RowE T sz enc w B v L) (hk : ∀ k, v.ownBlock = some k → k < b) (g : w.grownBy w' r) (hr : ∀ x, r = some x → b ≤ x) : RowE T sz enc w' B v L :=
  h.keptG g fun k e ho => by have := hk k ho; have := hr k e; omega
end
/-! Rows of integers, of pairs of integers. -/
def enc1 (x : Int) : List Value := [.int .i64 x]
def enc2 (x : Int × Int) : List Value := [.int .i64 x.1, .int .i64 x.2]
theorem enc1_len (x : Int) : (enc1 x).length = 1 := rfl
theorem enc2_len (x : Int × Int) : (enc2 x).length = 2 := rfl
theorem enc1_one {x : Int} : ∀ u ∈ enc1 x, u.oneCell' = true := by intro u hu; simp [enc1] at hu; subst hu; rfl
theorem enc2_one {x : Int × Int} : ∀ u ∈ enc2 x, u.oneCell' = true := by intro u hu; simp [enc2] at hu; rcases hu with rfl | rfl <;> rfl
/-- A slice of integers as the walk reads it; of its address nothing is said where it is empty. -/
theorem RowE.ints {T : TypeId} {w : World} {B : Nat} {v : Value} {xs : List Int} (h : RowE T 1 enc1 w B v xs) : ∃ a n c, v = .slice a n c ∧ n = xs.length ∧
    ∀ k, k < n → ∃ g, a = some ⟨g, 0, none⟩ ∧ g < w.heap.size ∧ v.ownBlock = some g ∧ w.cell? ⟨g, k, none⟩ = some (.int .i64 (xs.getD k 0)) := by
  rcases h.shape enc1_len with ⟨rfl, rfl⟩ | ⟨g, cap, rfl, -, hg, -, -, hcell, -⟩
  · exact ⟨none, 0, 0, rfl, rfl, fun k hk => by omega⟩
  · refine ⟨_, _, cap, rfl, rfl, fun k hk => ⟨g, rfl, hg, rfl, ?_⟩⟩
    have := hcell k hk 0 (by omega)
    simpa [enc1, List.getD, hk] using this
/-- A slice of pairs. -/
theorem RowE.pairs {T : TypeId} {w : World} {B : Nat} {v : Value} {xs : List (Int × Int)} (h : RowE T 2 enc2 w B v xs) : ∃ a n c, v = .slice a n c ∧ n = xs.length ∧
    ∀ k, k < n → ∃ g, a = some ⟨g, 0, none⟩ ∧ g < w.heap.size ∧ v.ownBlock = some g ∧ w.cell? ⟨g, k * 2, none⟩ = some (.int .i64 (xs.getD k (0, 0)).1) ∧ w.cell? ⟨g, k * 2 + 1, none⟩ = some (.int .i64 (xs.getD k (0, 0)).2) := by
  rcases h.shape enc2_len with ⟨rfl, rfl⟩ | ⟨g, cap, rfl, -, hg, -, -, hcell, -⟩
  · exact ⟨none, 0, 0, rfl, rfl, fun k hk => by omega⟩
  · refine ⟨_, _, cap, rfl, rfl, fun k hk => ⟨g, rfl, hg, rfl, ?_, ?_⟩⟩
    · have := hcell k hk 0 (by omega)
      simpa [enc2, List.getD, hk] using this
    · have := hcell k hk 1 (by omega)
      simpa [enc2, List.getD, hk] using this
/-- The same at a slice that is one already: what is read, and that it may be written. -/
theorem RowE.atI {T : TypeId} {w : World} {B : Nat} {a : Option Addr} {n c : Nat} {xs : List Int} (h : RowE T 1 enc1 w B (.slice a n c) xs) : n = xs.length ∧
    ∀ k, k < n → ∃ g, a = some ⟨g, 0, none⟩ ∧ B ≤ g ∧ g < w.heap.size ∧ w.cell? ⟨g, k, none⟩ = some (.int .i64 (xs.getD k 0)) ∧ w.frozen? ⟨g, k, none⟩ = false := by
  rcases h.shape enc1_len with ⟨e, rfl⟩ | ⟨g, cap, e, hB, hg, -, -, hcell, hfr⟩
  · injection e with e1 e2 e3
    exact ⟨e2, fun k hk => by omega⟩
  · injection e with e1 e2 e3
    refine ⟨e2, fun k hk => ⟨g, e1, hB, hg, ?_, hfr k⟩⟩
    have := hcell k (by omega) 0 (by omega)
    rw [e2] at hk
    simpa [enc1, List.getD, hk] using this
/-- An integer is stored in it. -/
theorem fm1_set (L : List Int) (j : Nat) (y : Int) : (L.flatMap enc1).set j (.int .i64 y) = (L.set j y).flatMap enc1 := by
  have e : ∀ M : List Int, M.flatMap enc1 = M.map (fun x => Value.int .i64 x) := fun M => by
    induction M with
    | nil => rfl
    | cons a M ih => rw [List.flatMap_cons, ih]; rfl
  rw [e, e, List.map_set]
theorem RowE.storeI {T : TypeId} {w : World} {B g n c : Nat} {L : List Int} (h : RowE T 1 enc1 w B (.slice (some ⟨g, 0, none⟩) n c) L) (j : Nat) (y : Int) :
    RowE T 1 enc1 (w.setCell ⟨g, j, none⟩ (.int .i64 y)) B (.slice (some ⟨g, 0, none⟩) n c) (L.set j y) := by
  have e := h.atI.1
  subst e
  exact RowE.stored h j (.int .i64 y) (List.length_set ..) (fm1_set L j y)
theorem take_getD {α : Type} {d : α} (xs : List α) (k : Nat) (h : k < xs.length) : xs.take (k + 1) = xs.take k ++ [xs.getD k d] := by
  rw [List.take_succ_eq_append_getElem h]
  simp [List.getD, h]
theorem Own.eight {w : World} {g : Nat} {t : TypeId} {a b c d e f h i : Value} (o : Own w g t #[a, b, c, d, e, f, h, i]) : w.cell? ⟨g, 0, none⟩ = some a ∧ w.cell? ⟨g, 1, none⟩ = some b ∧ w.cell? ⟨g, 2, none⟩ = some c ∧ w.cell? ⟨g, 3, none⟩ = some d ∧
    w.cell? ⟨g, 4, none⟩ = some e ∧ w.cell? ⟨g, 5, none⟩ = some f ∧ w.cell? ⟨g, 6, none⟩ = some h ∧ w.cell? ⟨g, 7, none⟩ = some i :=
  ⟨(o.cell 0).trans rfl, (o.cell 1).trans rfl, (o.cell 2).trans rfl, (o.cell 3).trans rfl, (o.cell 4).trans rfl, (o.cell 5).trans rfl, (o.cell 6).trans rfl, (o.cell 7).trans rfl⟩
theorem Own.eight_free {w : World} {g : Nat} {t : TypeId} {cs : Array Value} (o : Own w g t cs) : w.frozen? ⟨g, 0, none⟩ = false ∧ w.frozen? ⟨g, 1, none⟩ = false ∧ w.frozen? ⟨g, 2, none⟩ = false ∧ w.frozen? ⟨g, 3, none⟩ = false ∧
    w.frozen? ⟨g, 4, none⟩ = false ∧ w.frozen? ⟨g, 5, none⟩ = false ∧ w.frozen? ⟨g, 6, none⟩ = false ∧ w.frozen? ⟨g, 7, none⟩ = false :=
  ⟨o.frozen 0, o.frozen 1, o.frozen 2, o.frozen 3, o.frozen 4, o.frozen 5, o.frozen 6, o.frozen 7⟩
end Go.Mine

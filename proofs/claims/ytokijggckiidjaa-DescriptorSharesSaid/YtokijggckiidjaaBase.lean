/- Words of my own for laws over made states: no program is named here. -/
import Derived.WalkKit
import Derived.WalkSpells
import Derived.WalkLawsBesides
import Derived.ProofKit
import Derived.Deep.QuietTactic
import Derived.BigQuiet
import Derived.Lib.Hide
import Derived.Handy
import GoSem.ClaimJoined
namespace Go.Mine
open Go Go.RowKit Go.ChangeShapes Go.WideShapes Go.ChangeAt

section
variable {H : Type} {enc : TypeId × Value → H} {P : Program}

/-- Every argument reads as it did, when nothing below the heap's old size has turned. -/
theorem trodAll_kept (hl : laidOutB P = true) {W W' : World} (hb : Below W.heap.size W W') :
    ∀ (ts : List TypeId) (vs : List Value) (ds : List (DataW H)) (ps : List MemPlace), (∀ t ∈ ts, P.readableRec t = true ∧ t < P.types.size) →
      DataW.TrodAll enc P W 0 (fun _ => true) true ts vs ds ps → (∀ x ∈ ps, x.block < W.heap.size) →
      DataW.TrodAll enc P W' 0 (fun b => decide (b < W.heap.size)) true ts vs ds ps
  | [], [], [], _, _, h, _ => h
  | t :: ts, v :: vs, d :: ds, ps, hT, ⟨p, q, h1, h2, e⟩, hs =>
    ⟨p, q, Below.trod hl (hT t (List.mem_cons.2 (Or.inl rfl))).1 (hT t (List.mem_cons.2 (Or.inl rfl))).2 h1 hb (fun x hx => hs x (by rw [e]; exact List.mem_append_left _ hx)),
      trodAll_kept hl hb ts vs ds q (fun t ht => hT t (List.mem_cons.2 (Or.inr ht))) h2 (fun x hx => hs x (by rw [e]; exact List.mem_append_right _ hx)), e⟩

/-- A law's end: the answer is true, and nothing that was there has turned. -/
theorem law_close {f : Func} {s : ChangeSpec} {W W' : World} {args : Array Value} {ds gs : List (DataW H)} {before : List MemPlace} {tb : TypeId}
    (hl : laidOutB P = true) (hT : ∀ t ∈ f.params.toList, P.readableRec t = true ∧ t < P.types.size) (htb : P.underlying tb = some .bool) (hr : f.resultTypes = #[tb])
    (hv : s.vars = []) (hW : DataW.Whole enc P f.params.toList s.vars false W args.toList ds gs before)
    (hs : (s.fn H (ds ++ gs)).results = [.lit (.bool true)]) (ha : (s.fn H (ds ++ gs)).args = ds) (hsv : (s.fn H (ds ++ gs)).vars = []) (hb : Below W.heap.size W W') :
    s.post enc P f false true false false W args (.bool true) W' := by
  obtain ⟨p, q, h1, h2, rfl, h3⟩ := id hW
  rw [hv] at h2
  have hlt := hW.lt
  obtain ⟨hg, hq⟩ := trodVars_none h2
  subst hq
  refine ⟨ds, gs, p ++ [], [], p, [], hW, ?_, ?_, ?_, ?_, fun h => absurd h (by decide)⟩
  · rw [hr, hs]
    exact trodAll_mk1 (shut_bool htb true)
  · rw [ha]
    exact trodAll_kept hl hb _ _ _ _ hT h1 (fun x hx => hlt x (List.mem_append_left _ hx))
  · rw [hv, hsv]
    rfl
  · exact hb.frame _
end

/-- One argument; two; .. -/
theorem args_1 {H : Type} {enc : TypeId × Value → H} {P : Program} {W : World} {t : TypeId} {args : Array Value} {ds : List (DataW H)} {p : List MemPlace}
    (h : DataW.TrodAll enc P W 0 (fun _ => true) true (#[t] : Array TypeId).toList args.toList ds p) : ∃ v d p1, args = #[v] ∧ ds = [d] ∧ p = p1 ∧ DataW.Trod enc P W 0 (fun _ => true) true t v d p1 := by
  obtain ⟨l⟩ := args
  rcases l with _ | ⟨v, _ | ⟨v2, l⟩⟩ <;> rcases ds with _ | ⟨d, _ | ⟨d2, ds⟩⟩
  case cons.nil.cons.nil =>
    obtain ⟨p1, q, h1, h2, e⟩ := h
    have hq : q = [] := h2
    subst hq
    exact ⟨v, d, p, rfl, rfl, rfl, by rw [e, List.append_nil]; exact h1⟩
  all_goals first | exact h.elim | (obtain ⟨_, _, _, h2, _⟩ := h; exact h2.elim)
theorem args_cons {H : Type} {enc : TypeId × Value → H} {P : Program} {W : World} {t : TypeId} {ts : List TypeId} {vs : List Value} {ds : List (DataW H)} {p : List MemPlace}
    (h : DataW.TrodAll enc P W 0 (fun _ => true) true (t :: ts) vs ds p) : ∃ v vs' d ds' p1 q, vs = v :: vs' ∧ ds = d :: ds' ∧ p = p1 ++ q ∧ DataW.Trod enc P W 0 (fun _ => true) true t v d p1 ∧ DataW.TrodAll enc P W 0 (fun _ => true) true ts vs' ds' q := by
  rcases vs with _ | ⟨v, vs⟩ <;> rcases ds with _ | ⟨d, ds⟩
  case cons.cons =>
    obtain ⟨p1, q, h1, h2, e⟩ := h
    exact ⟨v, vs, d, ds, p1, q, rfl, rfl, e, h1, h2⟩
  all_goals exact h.elim
theorem args_nil {H : Type} {enc : TypeId × Value → H} {P : Program} {W : World} {vs : List Value} {ds : List (DataW H)} {p : List MemPlace}
    (h : DataW.TrodAll enc P W 0 (fun _ => true) true [] vs ds p) : vs = [] ∧ ds = [] := by
  rcases vs with _ | ⟨v, vs⟩ <;> rcases ds with _ | ⟨d, ds⟩
  · exact ⟨rfl, rfl⟩
  all_goals exact h.elim
theorem args_2 {H : Type} {enc : TypeId × Value → H} {P : Program} {W : World} {t u : TypeId} {args : Array Value} {ds : List (DataW H)} {p : List MemPlace}
    (h : DataW.TrodAll enc P W 0 (fun _ => true) true (#[t, u] : Array TypeId).toList args.toList ds p) :
    ∃ v v' d d' p1 p2, args = #[v, v'] ∧ ds = [d, d'] ∧ p = p1 ++ p2 ∧ DataW.Trod enc P W 0 (fun _ => true) true t v d p1 ∧ DataW.Trod enc P W 0 (fun _ => true) true u v' d' p2 := by
  obtain ⟨l⟩ := args
  obtain ⟨v, vs, d, ds', p1, q, e1, rfl, rfl, h1, h2⟩ := args_cons h
  obtain ⟨v', vs', d', ds2, p2, q2, e2, rfl, rfl, h3, h4⟩ := args_cons h2
  obtain ⟨rfl, rfl⟩ := args_nil h4
  have e3 : l = [v, v'] := by simpa [e2] using e1
  subst e3
  have hq : q2 = [] := h4
  subst hq
  exact ⟨v, v', d, d', p1, p2 ++ [], rfl, rfl, rfl, h1, by rw [List.append_nil]; exact h3⟩

theorem args_3 {H : Type} {enc : TypeId × Value → H} {P : Program} {W : World} {t u x : TypeId} {args : Array Value} {ds : List (DataW H)} {p : List MemPlace}
    (h : DataW.TrodAll enc P W 0 (fun _ => true) true (#[t, u, x] : Array TypeId).toList args.toList ds p) :
    ∃ v v' v2 d d' d2 p1 p2 p3, args = #[v, v', v2] ∧ ds = [d, d', d2] ∧ p = p1 ++ (p2 ++ p3) ∧ DataW.Trod enc P W 0 (fun _ => true) true t v d p1 ∧ DataW.Trod enc P W 0 (fun _ => true) true u v' d' p2 ∧ DataW.Trod enc P W 0 (fun _ => true) true x v2 d2 p3 := by
  obtain ⟨l⟩ := args
  obtain ⟨v, vs, d, ds', p1, q, e1, rfl, rfl, h1, h2⟩ := args_cons h
  obtain ⟨v', vs', d', ds2, p2, q2, e2, rfl, rfl, h3, h4⟩ := args_cons h2
  obtain ⟨v2, vs2, d2, ds3, p3, q3, e3, rfl, rfl, h5, h6⟩ := args_cons h4
  obtain ⟨rfl, rfl⟩ := args_nil h6
  have e4 : l = [v, v', v2] := by simpa [e2, e3] using e1
  subst e4
  have hq : q3 = [] := h6
  subst hq
  exact ⟨v, v', v2, d, d', d2, p1, p2, p3 ++ [], rfl, rfl, rfl, h1, h3, by rw [List.append_nil]; exact h5⟩

/-! Integers that are read off a slice. -/
/-- The slice at A (its length that of xs) holds the integers xs, in one block that is there. -/
def IntRow (w : World) (A : Option Addr) (xs : List Int) : Prop :=
  (xs = [] ∨ ∃ b o, A = some ⟨b, o, none⟩ ∧ b < w.heap.size ∧ ∀ k, k < xs.length → w.cell? ⟨b, o + k, none⟩ = some (.int .i64 (xs.getD k 0))) ∧ (∀ x ∈ xs, (Lit.int .i64 x).wf = true)

theorem open_introw {H : Type} {enc : TypeId × Value → H} {P : Program} {W : World} {base : Nat} {t e : TypeId} {v : Value} {d : DataW H} {ps : List MemPlace} {b0 : Nat}
    (ht : P.underlying t = some (.slice e)) (he : P.underlying e = some (.int .i64)) (hc : P.cellsOf e = 1)
    (hval : Value.okWide P W .any b0 t v) (h : DataW.Trod enc P W base (fun _ => true) true t v d ps) :
    ∃ A c xs, v = .slice A xs.length c ∧ IntRow W A xs ∧ xs.length ≤ maxLen := by
  obtain ⟨a0, len, cap, rfl⟩ := okWide_slice ht hval
  obtain ⟨fuel, hf⟩ := h
  rcases open_ints ht he hc hf with ⟨hcs, hx⟩ | ⟨a, len', cap', zs, hcs, _, hl, hm, hz, hx, hcell, hwz⟩
  · simp [Value.cells] at hcs
    obtain ⟨rfl, rfl, rfl⟩ := hcs
    exact ⟨none, 0, [], rfl, ⟨.inl rfl, by simp⟩, by simp⟩
  · simp [Value.cells] at hcs
    obtain ⟨rfl, rfl, rfl⟩ := hcs
    simp only [if_true] at hz
    have hlt : (zs.take len).length = len := by simp; omega
    refine ⟨some a, cap, zs.take len, by rw [hlt], ⟨?_, fun x hx => hwz x (List.mem_of_mem_take hx)⟩, by omega⟩
    by_cases hl0 : len = 0
    · exact .inl (by simp [hl0])
    · right
      obtain ⟨b, off, spot⟩ := a
      have hspot : spot = none := by simpa [Addr.add] using World.cell?_spot (hcell 0 (by omega))
      subst hspot
      refine ⟨b, off, rfl, World.block_lt_of_cell? W _ (hcell 0 (by omega)), fun k hk => ?_⟩
      rw [hlt] at hk
      rw [← add_plain, hcell k (by omega)]
      simp [List.getD, hk]

theorem wf_le {x : Int} (h : (Lit.int .i64 x).wf = true) : -9223372036854775808 ≤ x ∧ x ≤ 9223372036854775807 := by
  have h1 : IntKind.i64.min = -9223372036854775808 := rfl
  have h2 : IntKind.i64.max = 9223372036854775807 := rfl
  simp only [Lit.wf, Bool.and_eq_true, decide_eq_true_eq] at h
  omega

/-! Worlds that grow: 'grownBy', one behind the other. -/
theorem grown_trans {a b c : World} {r : Option Nat} (h : a.grownBy b r) (k : b.grownBy c r) : a.grownBy c r :=
  ⟨k.os.trans h.os, k.tape.trans h.tape, k.output.trans h.output, Nat.le_trans h.size k.size,
    fun i hi hr => (k.block i (Nat.lt_of_lt_of_le hi h.size) hr).trans (h.block i hi hr)⟩
theorem grown_row {a b : World} {r : Option Nat} (h : a.grownBy b none) : a.grownBy b r := ⟨h.os, h.tape, h.output, h.size, fun i hi _ => h.block i hi (by simp)⟩
theorem grown_refl (w : World) (r : Option Nat) : w.grownBy w r := ⟨rfl, rfl, rfl, Nat.le_refl _, fun _ _ _ => rfl⟩
theorem grown_alloc {a b : World} {r : Option Nat} (h : a.grownBy b r) (o : Obj) : a.grownBy (b.alloc o) r := grown_trans h (World.grownBy_alloc b o r)
theorem grown_drew {a b : World} {r : Option Nat} (h : a.grownBy b r) : a.grownBy b.drew r := ⟨h.os, h.tape, h.output, h.size, h.block⟩
theorem grown_drewN {a b : World} {r : Option Nat} (h : a.grownBy b r) (n : Nat) : a.grownBy (b.drewN n) r := ⟨h.os, h.tape, h.output, h.size, h.block⟩
theorem grown_set {a b : World} {r : Option Nat} (h : a.grownBy b r) {p : Addr} (hp : r = some p.block ∨ a.heap.size ≤ p.block) (u : Value) : a.grownBy (b.setCell p u) r :=
  ⟨h.os, h.tape, h.output, by simpa [World.setCell] using h.size, fun i hi hr => (Below.heap_setCell b p u i (by rintro rfl; rcases hp with hp | hp; exact hr hp.symm; omega)).trans (h.block i hi hr)⟩
theorem grown_of_below {a b : World} (h : Below a.heap.size a b) : a.grownBy b none := ⟨h.os, h.tape, h.output, h.size, fun i hi _ => h.block i hi⟩
theorem below_of_grown {a b : World} (h : a.grownBy b none) : Below a.heap.size a b := ⟨h.os, h.tape, h.output, h.size, fun i hi => h.block i hi (by simp)⟩
theorem below_grown {B : Nat} {a b c : World} {r : Option Nat} (h : Below B a b) (k : b.grownBy c r) (hB : B ≤ b.heap.size) (hr : ∀ x, r = some x → B ≤ x) : Below B a c := h.grown k hB hr
theorem IntRow.kept {w w' : World} {A : Option Addr} {xs : List Int} (h : IntRow w A xs) (hs : w.heap.size ≤ w'.heap.size) (hk : ∀ b o, A = some ⟨b, o, none⟩ → w'.heap[b]? = w.heap[b]?) : IntRow w' A xs := by
  refine ⟨?_, h.2⟩
  rcases h.1 with h | ⟨b, o, hA, hb, hc⟩
  · exact .inl h
  · exact .inr ⟨b, o, hA, by omega, fun k hk' => (World.cell?_of_block (hk b o hA)).trans (hc k hk')⟩

/-! The tape. -/
/-- Block b is a tape: a slice of integers and a place in it; 'rem' are the numbers behind the place; all of it lies below block B. -/
def TapeAt (B : Nat) (w : World) (b : Nat) (rem : List Int) : Prop :=
  ∃ A c xs i, i ≤ xs.length ∧ xs.length ≤ maxLen ∧ rem = xs.drop i ∧ IntRow w A xs ∧ (xs ≠ [] → ∀ x o, A = some ⟨x, o, none⟩ → x ≠ b ∧ x < B) ∧ b < B ∧
    w.cell? ⟨b, 0, none⟩ = some (.slice A xs.length c) ∧ w.cell? ⟨b, 1, none⟩ = some (.int .i64 (i : Nat)) ∧ w.frozen? ⟨b, 1, none⟩ = false
/-- What 'Cut' gives. -/
def cut (x n : Int) : Int := IntKind.u64.wrap x % n
/-- What 'Next' gives. -/
def tnext (rem : List Int) (n : Int) : Int := match rem with | [] => 0 | x :: _ => cut x n
theorem cut_lt (x n : Int) (h : 0 < n) : 0 ≤ cut x n ∧ cut x n < n := ⟨Int.emod_nonneg _ (by omega), Int.emod_lt_of_pos _ h⟩
theorem tnext_lt (r : List Int) (n : Int) (h : 0 < n) : 0 ≤ tnext r n ∧ tnext r n < n := by cases r with | nil => exact ⟨Int.le_refl _, h⟩ | cons x r => exact cut_lt x n h
theorem u64_nonneg (x : Int) : 0 ≤ IntKind.u64.wrap x := by rw [IntKind.wrap_u64]; omega
theorem TapeAt.lt {B : Nat} {w : World} {b : Nat} {rem : List Int} (h : TapeAt B w b rem) : b < w.heap.size := by
  obtain ⟨A, c, xs, i, _, _, _, _, _, _, h0, _⟩ := h
  exact World.block_lt_of_cell? w _ h0
theorem TapeAt.ltB {B : Nat} {w : World} {b : Nat} {rem : List Int} (h : TapeAt B w b rem) : b < B := by
  obtain ⟨A, c, xs, i, _, _, _, _, _, h0, _⟩ := h
  exact h0
theorem TapeAt.wider {B B' : Nat} {w : World} {b : Nat} {rem : List Int} (h : TapeAt B w b rem) (hB : B ≤ B') : TapeAt B' w b rem := by
  obtain ⟨A, c, xs, i, h1, h2, h3, h4, h5, h6, h7⟩ := h
  exact ⟨A, c, xs, i, h1, h2, h3, h4, fun n x o e => ⟨(h5 n x o e).1, Nat.lt_of_lt_of_le (h5 n x o e).2 hB⟩, Nat.lt_of_lt_of_le h6 hB, h7⟩
/-- A tape stays one while blocks from B on are written. -/
theorem TapeAt.since {B : Nat} {w w' : World} {b : Nat} {rem : List Int} (h : TapeAt B w b rem) (hs : w.heap.size ≤ w'.heap.size) (hk : ∀ k, k < B → k < w.heap.size → w'.heap[k]? = w.heap[k]?) : TapeAt B w' b rem := by
  have hb := h.lt
  obtain ⟨A, c, xs, i, h1, h2, h3, h4, h5, h6, h7, h8, h9⟩ := h
  have hk' := hk b h6 hb
  refine ⟨A, c, xs, i, h1, h2, h3, ⟨?_, h4.2⟩, h5, h6, (World.cell?_of_block (a := ⟨b, 0, none⟩) hk').trans h7, (World.cell?_of_block (a := ⟨b, 1, none⟩) hk').trans h8, (World.frozen?_of_block (a := ⟨b, 1, none⟩) hk').trans h9⟩
  by_cases hn : xs = []
  · exact .inl hn
  · rcases h4.1 with h | ⟨x, o, hA, hx, hc⟩
    · exact .inl h
    · exact .inr ⟨x, o, hA, by omega, fun k hk2 => (World.cell?_of_block (hk x (h5 hn x o hA).2 hx)).trans (hc k hk2)⟩
theorem TapeAt.set {B : Nat} {w : World} {b : Nat} {rem : List Int} (h : TapeAt B w b rem) {p : Addr} (hp : B ≤ p.block) (u : Value) : TapeAt B (w.setCell p u) b rem :=
  h.since (by simp [World.setCell]) fun k hk _ => Below.heap_setCell w p u k (by omega)
theorem TapeAt.alloc {B : Nat} {w : World} {b : Nat} {rem : List Int} (h : TapeAt B w b rem) (o : Obj) : TapeAt B (w.alloc o) b rem :=
  h.since (by simp) fun k _ hk => Below.heap_alloc w o k hk
theorem TapeAt.drewN {B : Nat} {w : World} {b : Nat} {rem : List Int} (h : TapeAt B w b rem) (n : Nat) : TapeAt B (w.drewN n) b rem := h.since (Nat.le_refl _) fun _ _ _ => rfl
theorem TapeAt.drew {B : Nat} {w : World} {b : Nat} {rem : List Int} (h : TapeAt B w b rem) : TapeAt B w.drew b rem := h.since (Nat.le_refl _) fun _ _ _ => rfl

/-! Worlds that grow: nothing that was there has turned. -/
def Grew (a b : World) : Prop := Below a.heap.size a b
theorem Grew.refl (a : World) : Grew a a := Below.refl _ _
theorem Grew.size {a b : World} (h : Grew a b) : a.heap.size ≤ b.heap.size := Below.size h
theorem Grew.trans {a b c : World} (h : Grew a b) (k : Grew b c) : Grew a c := Below.trans h (Below.mono k h.size)
theorem Grew.drew {a b : World} (h : Grew a b) : Grew a b.drew := Below.drew h
theorem Grew.drewN {a b : World} (h : Grew a b) (n : Nat) : Grew a (b.drewN n) := below_of_grown (grown_drewN (grown_of_below h) n)
theorem Grew.alloc {a b : World} (h : Grew a b) (o : Obj) : Grew a (b.alloc o) := Below.alloc h h.size o
theorem Grew.set {a b : World} (h : Grew a b) {p : Addr} (hp : a.heap.size ≤ p.block) (u : Value) : Grew a (b.setCell p u) := Below.setCell h hp u
theorem Grew.cells {a b : World} (h : Grew a b) : (∀ k o, k < a.heap.size → b.cell? ⟨k, o, none⟩ = a.cell? ⟨k, o, none⟩) ∧ (∀ k o, k < a.heap.size → b.frozen? ⟨k, o, none⟩ = a.frozen? ⟨k, o, none⟩) :=
  ⟨fun k o hk => Below.cell h (p := ⟨k, o, none⟩) hk, fun k o hk => Below.frozen h (p := ⟨k, o, none⟩) hk⟩
theorem TapeAt.grew {B : Nat} {w w' : World} {b : Nat} {rem : List Int} (h : TapeAt B w b rem) (g : Grew w w') : TapeAt B w' b rem := h.since g.size fun k _ hk => Below.block g k hk
/-- Block b is some tape. -/
def Tp (B : Nat) (w : World) (b : Nat) : Prop := ∃ rem, TapeAt B w b rem
theorem Tp.ltB {B : Nat} {w : World} {b : Nat} (h : Tp B w b) : b < B := h.elim fun _ h => h.ltB
theorem Tp.lt {B : Nat} {w : World} {b : Nat} (h : Tp B w b) : b < w.heap.size := h.elim fun _ h => h.lt
theorem Tp.wider {B B' : Nat} {w : World} {b : Nat} (h : Tp B w b) (hB : B ≤ B') : Tp B' w b := h.elim fun r h => ⟨r, h.wider hB⟩
theorem Tp.set {B : Nat} {w : World} {b : Nat} (h : Tp B w b) {p : Addr} (hp : B ≤ p.block) (u : Value) : Tp B (w.setCell p u) b := h.elim fun r h => ⟨r, h.set hp u⟩
theorem Tp.alloc {B : Nat} {w : World} {b : Nat} (h : Tp B w b) (o : Obj) : Tp B (w.alloc o) b := h.elim fun r h => ⟨r, h.alloc o⟩
theorem Tp.drew {B : Nat} {w : World} {b : Nat} (h : Tp B w b) : Tp B w.drew b := h.elim fun r h => ⟨r, h.drew⟩
theorem Tp.drewN {B : Nat} {w : World} {b : Nat} (h : Tp B w b) (n : Nat) : Tp B (w.drewN n) b := h.elim fun r h => ⟨r, h.drewN n⟩
theorem Tp.grew {B : Nat} {w w' : World} {b : Nat} (h : Tp B w b) (g : Grew w w') : Tp B w' b := h.elim fun r h => ⟨r, h.grew g⟩
theorem Grew.grown {a b : World} (h : Grew a b) : a.grownBy b none := grown_of_below h

/-! A block of the call's own, known whole. -/
def Own (w : World) (g : Nat) (t : TypeId) (cs : Array Value) : Prop := w.heap[g]? = some (.cells cs t (0, 0))
section
variable {w w' : World} {g : Nat} {t : TypeId} {cs : Array Value}
theorem Own.cell (h : Own w g t cs) (i : Nat) : w.cell? ⟨g, i, none⟩ = cs[i]? := by unfold Own at h; simp [World.cell?, h]
theorem Own.frozen (h : Own w g t cs) (i : Nat) : w.frozen? ⟨g, i, none⟩ = false := by unfold Own at h; simp [World.frozen?, h]
theorem Own.lt (h : Own w g t cs) : g < w.heap.size := by
  have h' : w.heap[g]? = some (.cells cs t (0, 0)) := h
  exact (Array.getElem?_eq_some_iff.1 h').1
theorem Own.since (h : Own w g t cs) (e : w'.heap[g]? = w.heap[g]?) : Own w' g t cs := e.trans h
theorem Own.grew (h : Own w g t cs) (k : Grew w w') : Own w' g t cs := h.since (Below.block k g h.lt)
theorem Own.past (h : Own w g t cs) {r : Nat} (k : w.grownBy w' (some r)) (hr : g ≠ r) : Own w' g t cs := h.since (k.block g h.lt (fun e => hr (by injection e)))
theorem Own.alloc (h : Own w g t cs) (o : Obj) : Own (w.alloc o) g t cs := h.since (Below.heap_alloc w o g h.lt)
theorem Own.drew (h : Own w g t cs) : Own w.drew g t cs := h
theorem Own.drewN (h : Own w g t cs) (n : Nat) : Own (w.drewN n) g t cs := h
theorem Own.far (h : Own w g t cs) {p : Addr} (hp : g ≠ p.block) (u : Value) : Own (w.setCell p u) g t cs := h.since (Below.heap_setCell w p u g hp)
theorem Own.set (h : Own w g t cs) (i : Nat) (u : Value) : Own (w.setCell ⟨g, i, none⟩ u) g t (cs.setIfInBounds i u) := by
  unfold Own at h ⊢
  simp [World.setCell, Array.getElem?_modify, h]
theorem Own.new (w : World) (t : TypeId) (cs : Array Value) : Own (w.alloc (.cells cs t)) w.heap.size t cs := heap_alloc_new w _
/-- What the walk wants of a block of three cells. -/
theorem Own.three {a b c : Value} (h : Own w g t #[a, b, c]) : w.cell? ⟨g, 0, none⟩ = some a ∧ w.cell? ⟨g, 1, none⟩ = some b ∧ w.cell? ⟨g, 2, none⟩ = some c ∧
    w.frozen? ⟨g, 0, none⟩ = false ∧ w.frozen? ⟨g, 1, none⟩ = false ∧ w.frozen? ⟨g, 2, none⟩ = false :=
  ⟨(h.cell 0).trans rfl, (h.cell 1).trans rfl, (h.cell 2).trans rfl, h.frozen 0, h.frozen 1, h.frozen 2⟩
theorem Own.two {a b : Value} (h : Own w g t #[a, b]) : w.cell? ⟨g, 0, none⟩ = some a ∧ w.cell? ⟨g, 1, none⟩ = some b ∧ w.frozen? ⟨g, 0, none⟩ = false ∧ w.frozen? ⟨g, 1, none⟩ = false :=
  ⟨(h.cell 0).trans rfl, (h.cell 1).trans rfl, h.frozen 0, h.frozen 1⟩
theorem Own.four {a b c d : Value} (h : Own w g t #[a, b, c, d]) : w.cell? ⟨g, 0, none⟩ = some a ∧ w.cell? ⟨g, 1, none⟩ = some b ∧ w.cell? ⟨g, 2, none⟩ = some c ∧ w.cell? ⟨g, 3, none⟩ = some d ∧
    w.frozen? ⟨g, 0, none⟩ = false ∧ w.frozen? ⟨g, 1, none⟩ = false ∧ w.frozen? ⟨g, 2, none⟩ = false ∧ w.frozen? ⟨g, 3, none⟩ = false :=
  ⟨(h.cell 0).trans rfl, (h.cell 1).trans rfl, (h.cell 2).trans rfl, (h.cell 3).trans rfl, h.frozen 0, h.frozen 1, h.frozen 2, h.frozen 3⟩
theorem Own.new2 (w : World) (o : Obj) (t : TypeId) (cs : Array Value) : Own ((w.alloc o).alloc (.cells cs t)) (w.heap.size + 1) t cs := by
  have h := Own.new (w.alloc o) t cs
  rwa [World.size_alloc] at h
/-- The law's own tape, just made. -/
theorem Tp.made {w : World} {A : Option Addr} {xs : List Int} (h : IntRow w A xs) (hm : xs.length ≤ maxLen) (c : Nat) (t : TypeId) :
    Tp (w.heap.size + 1) (w.alloc (.cells #[.slice A xs.length c, .int .i64 0] t)) w.heap.size := by
  have o := (Own.new w t #[.slice A xs.length c, .int .i64 0]).two
  have hx : xs ≠ [] → ∀ x o, A = some ⟨x, o, none⟩ → x < w.heap.size := fun n x o e => by
    rcases h.1 with h0 | ⟨b', o2, hA, hb, _⟩
    · exact absurd h0 n
    · rw [e] at hA
      injection hA with hA
      injection hA with hA
      omega
  refine ⟨xs, A, c, xs, 0, Nat.zero_le _, hm, rfl, ⟨?_, h.2⟩, fun n x o' e => ⟨by have := hx n x o' e; omega, by have := hx n x o' e; omega⟩, Nat.lt_succ_self _, o.1, o.2.1, o.2.2.2⟩
  by_cases hn : xs = []
  · exact .inl hn
  · rcases h.1 with h0 | ⟨b', o2, hA, hb, hc⟩
    · exact .inl h0
    · exact .inr ⟨b', o2, hA, by simp; omega, fun k hk => (World.cell?_of_block (a := ⟨b', o2 + k, none⟩) (Below.heap_alloc w _ _ hb)).trans (hc k hk)⟩
theorem far_cell {b i j : Nat} {v u : Value} (hne : b ≠ g) (h : w.cell? ⟨g, j, none⟩ = some u) : (w.setCell ⟨b, i, none⟩ v).cell? ⟨g, j, none⟩ = some u :=
  (World.cell?_of_block (a := ⟨g, j, none⟩) (Below.heap_setCell w ⟨b, i, none⟩ v g (fun e => hne e.symm))).trans h
theorem far_alloc {j : Nat} {u : Value} {o : Obj} (h : w.cell? ⟨g, j, none⟩ = some u) : (w.alloc o).cell? ⟨g, j, none⟩ = some u :=
  (World.cell?_of_block (a := ⟨g, j, none⟩) (Below.heap_alloc w o g (World.block_lt_of_cell? w _ h))).trans h
theorem far_drew {j : Nat} {u : Value} (h : w.cell? ⟨g, j, none⟩ = some u) : w.drew.cell? ⟨g, j, none⟩ = some u := h
theorem Own.store3 {a b c x y z : Value} (h : Own w g t #[a, b, c]) (hw : ((w.setCell ⟨g, 0, none⟩ x).setCell ⟨g, 1, none⟩ y).setCell ⟨g, 2, none⟩ z = w') : Own w' g t #[x, y, z] := by
  rw [← hw]
  exact ((h.set 0 x).set 1 y).set 2 z
theorem Own.far3 {b : Nat} {x y z : Value} (h : Own w g t cs) (hw : ((w.setCell ⟨b, 0, none⟩ x).setCell ⟨b, 1, none⟩ y).setCell ⟨b, 2, none⟩ z = w') (hne : g ≠ b) : Own w' g t cs := by
  rw [← hw]
  exact ((h.far (p := ⟨b, 0, none⟩) hne x).far (p := ⟨b, 1, none⟩) hne y).far (p := ⟨b, 2, none⟩) hne z
theorem Grew.far3 {a : World} {b : Nat} {x y z : Value} (h : Grew a w) (hw : ((w.setCell ⟨b, 0, none⟩ x).setCell ⟨b, 1, none⟩ y).setCell ⟨b, 2, none⟩ z = w') (hb : a.heap.size ≤ b) : Grew a w' := by
  rw [← hw]
  exact ((h.set (p := ⟨b, 0, none⟩) hb x).set (p := ⟨b, 1, none⟩) hb y).set (p := ⟨b, 2, none⟩) hb z
theorem Tp.far3 {B k b : Nat} {x y z : Value} (h : Tp B w k) (hw : ((w.setCell ⟨b, 0, none⟩ x).setCell ⟨b, 1, none⟩ y).setCell ⟨b, 2, none⟩ z = w') (hb : B ≤ b) : Tp B w' k := by
  rw [← hw]
  exact ((h.set (p := ⟨b, 0, none⟩) hb x).set (p := ⟨b, 1, none⟩) hb y).set (p := ⟨b, 2, none⟩) hb z
theorem Own.one {a : Value} (h : Own w g t #[a]) : w.cell? ⟨g, 0, none⟩ = some a ∧ w.frozen? ⟨g, 0, none⟩ = false := ⟨(h.cell 0).trans rfl, h.frozen 0⟩
theorem Grew.past {a : World} {b : Nat} (h : Grew a w) (k : w.grownBy w' (some b)) (hb : a.heap.size ≤ b) : Grew a w' := Below.grown h k h.size (fun x e => by injection e with e; omega)
end

/-! Posts, closed to the walk. -/
/-- It returns v, and the world is as it was. -/
def RetS (v : Value) (w : World) (e : Ending) (w' : World) : Prop := e = .returned v ∧ w = w'
/-- It returns v, and the world has only grown. -/
def RetG (v : Value) (w : World) (e : Ending) (w' : World) : Prop := e = .returned v ∧ Grew w w'
theorem ret_bool {a b : Bool} (h : a = b) : Ending.returned (.bool a) = .returned (.bool b) := by rw [h]
theorem ret_int {k : IntKind} {a b : Int} (h : a = b) : Ending.returned (.int k a) = .returned (.int k b) := by rw [h]
theorem ret_str {a b : ByteArray} (h : a = b) : Ending.returned (.string a) = .returned (.string b) := by rw [h]
theorem ret_val {a b : Value} (h : a = b) : Ending.returned a = .returned b := by rw [h]
end Go.Mine

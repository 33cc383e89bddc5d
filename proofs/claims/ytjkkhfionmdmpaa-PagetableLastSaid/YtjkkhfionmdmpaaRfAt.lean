/- A range over a function that goes through places in their order: words of my own, no program is named here. -/
import Derived.RangeFuncNested
import Derived.RangeFuncBound
import Derived.RangeFuncCalls
import Derived.RangeFuncLeaves
import Derived.Shelf.Abstract
import Derived.Test.YtjkkhfionmdmpaaBase
namespace Go.Mine
open Go Go.RowKit

/-- The iterator goes through the places 0 .. N - 1 and calls yield at those that hit, whatever the rounds do that keep Kp. -/
def SeqAt (F : Fence) (n : Nat) (P : Program) (g : Nat) (lb : Array Value) (encs : Nat → Array Value) (hit : Nat → Bool) (N : Nat) (Kp : World → World → Prop) (w : World) : Prop :=
  ∀ (l : Nat) (J : Nat → World → Prop) (W : World), Below w.heap.size w W → AbidesFrom W.heap.size J →
    (∀ i W1, i < N → hit i = true → J i W1 → YieldAt F (n - 1) P l (encs i) W1 fun e W' => e = .returned (.bool true) ∧ J (i + 1) W' ∧ Kp W1 W') →
    (∀ i W1, i < N → hit i = false → J i W1 → J (i + 1) W1) →
    J 0 W → CallsIn F n P g (#[.func (.yield l) #[] #[]] ++ lb) W fun e W' => (∃ v, e = .returned v) ∧ J N W'
/-- How a round's body ends: it goes on. -/
def bodyAt (B : Nat) (Kp : World → World → Prop) (J : World → Prop) (W : World) : Exit → Act → World → Prop
  | .normal, _, W' => KeepsFrom B W W' ∧ Kp W W' ∧ J W'
  | _, _, _ => False
/-- The block for the rounds' deferred calls and the loop's record. -/
structure BkAt (b : Nat) (r : Obj) (W : World) : Prop where
  rec_ : W.heap[b + 1]? = some r
  def_ : W.heap[b]? = some (.deferred (some []))
theorem BkAt.put {b : Nat} {r r' : Obj} {W : World} (h : BkAt b r W) : BkAt b r' (W.putObj (b + 1) r') :=
  ⟨World.putObj_heap_same (Array.getElem?_eq_some_iff.1 h.rec_).1, (World.putObj_heap_other (by omega)).trans h.def_⟩
theorem wpIn_rangeAt {F : Fence} {n : Nat} {P : Program} {g : Operand} {ps : Array Tmp} {assign body : Code} {Q : Exit → Act → World → Prop} {a : Act} {w : World}
    (hro : F.round = none) (h1 : 1 ≤ n) {gf : Nat} {lb : Array Value} (hg : a.eval g = .func (.func gf) #[] lb) (hF : F.fn gf) (eg : ∀ args w, (callFunc gf args).run P w = .ok (.enter gf args) w)
    {encs : Nat → Array Value} {hit : Nat → Bool} {N : Nat} {Kp : World → World → Prop} (hseq : SeqAt F (n - 1) P gf lb encs hit N Kp w)
    (hKt : ∀ {A B C : World}, Kp A B → Kp B C → Kp A C) (hKb : ∀ (W : World) (l : Nat) (o o' : Obj), w.heap.size ≤ l → W.heap[l]? = some o → o.isCells = false → o.isWalk = false → Kp W (W.putObj l o')) (hps : ∀ i, (encs i).size = ps.size)
    (I : Nat → World → Prop) (hI : OwnFrom w.heap.size I) (hskip : ∀ i W, i < N → hit i = false → I i W → I (i + 1) W) (h0 : I 0 w) (M : Nat → Act → World → Prop) (hM : ∀ a', OwnFrom w.heap.size (fun i W => M i a' W))
    (hassign : ∀ (l i : Nat) (W : World) (K : Act → World → Prop), i < N → hit i = true → I i W → (∀ a' W', KeepsFrom w.heap.size W W' → Kp W W' → M i a' W' → K a' W') →
      assign.wpIn (F.inRound l) (n - 1 - 1) P (Exit.then K (fun _ _ _ => False)) { tmps := (ps.zip (encs i)).foldl (fun t (p, v) => t.setIfInBounds p v) a.tmps, defers := [] } W)
    (hbody : ∀ (l i : Nat) (a' : Act) (W : World), i < N → hit i = true → M i a' W → body.wpIn (F.inRound l) (n - 1 - 1) P (bodyAt w.heap.size Kp (I (i + 1)) W) a' W)
    (hdone : ∀ (D : Nat) (W : World), w.heap.size ≤ D → I N W → W.heap[D]? = some (.deferred (some [])) → Q .normal { a with defers := { target := .collected D, args := #[] } :: a.defers } W) :
    (Code.rangeFunc g ps assign body).wpIn F n P Q a w := by
  refine wpIn_rangeFunc fun fn hfn => ?_
  rw [hro]
  obtain ⟨R, hR⟩ : ∃ R : LoopState → Loop, ∀ s, R s = { state := s, pending := none, fn, tmps := a.tmps, params := ps, assign, body, defers := w.heap.size } := ⟨_, fun _ => rfl⟩
  have hz : w.heap.size ≤ w.heap.size + 1 := Nat.le_succ _
  -- what the statement's own two blocks bear
  have iput : ∀ {i : Nat} {s : Obj} {W : World} (o : Obj), BkAt w.heap.size s W → s.isCells = false → I i W → I i (W.putObj (w.heap.size + 1) o) := fun o hb hs hi => hI.putObj o hi hz hb.rec_ hs
  have kput : ∀ {s : Obj} {W : World} (o : Obj), BkAt w.heap.size s W → s.isCells = false → s.isWalk = false → Kp W (W.putObj (w.heap.size + 1) o) := fun o hb hs hs' => hKb _ _ _ o hz hb.rec_ hs hs'
  obtain ⟨W1, hW1⟩ : ∃ W1, (w.alloc (.deferred (some []))).alloc (.loop (R .ready)) = W1 := ⟨_, rfl⟩
  have hB1 : BkAt w.heap.size (.loop (R .ready)) W1 := by
    rw [← hW1]
    refine ⟨?_, (Below.heap_alloc _ _ _ (by simp)).trans (World.alloc_heap_new w _)⟩
    have := World.alloc_heap_new (w.alloc (.deferred (some []))) (.loop (R .ready))
    rwa [World.size_alloc] at this
  have hI1 : I 0 W1 := by rw [← hW1]; exact hI.alloc _ (hI.alloc _ h0)
  have hw1 : Below w.heap.size w W1 := by rw [← hW1]; exact ((Below.refl _ w).alloc (Nat.le_refl _) _).alloc (by simp) _
  refine ⟨w.heap.size + 1, [{ target := .collected w.heap.size, args := #[] }], W1, { target := .fn (.func gf) lb, args := #[.func (.yield (w.heap.size + 1)) #[] #[]] }, W1, gf,
    #[.func (.yield (w.heap.size + 1)) #[] #[]] ++ lb, W1, ?_, ?_, ?_, ?_, fun _ => h1, ?_⟩
  · rw [← hW1, hR]; exact run_enterLoop_outer _ _ _ _ _
  · simp only [resolve, hg]; simp [go_sem]
  · intro f' hf'; simp [Target.leads] at hf'; subst hf'; exact hF
  · simp [invoke, go_sem, eg]
  refine (hseq (w.heap.size + 1) (fun i W => I i W ∧ BkAt w.heap.size (.loop (R .ready)) W) W1 hw1 ?_ ?_ (fun i W hi hh h => ⟨hskip i W hi hh h.1, h.2⟩) ⟨hI1, hB1⟩).mono ?_
  · intro i A B row hs hgr hr
    have hr1 : ∀ r, row = some r → ∃ o : Obj, A.heap[r]? = some o ∧ o.isWalk = true := fun r e => (hr r e).2
    refine ⟨hI i A B row hs.1 hgr fun r e => ?_, (grownBy_keeps hgr hr1 hs.2.rec_ rfl).trans hs.2.rec_, (grownBy_keeps hgr hr1 hs.2.def_ rfl).trans hs.2.def_⟩
    obtain ⟨hB, o, ho, hw⟩ := hr r e
    exact ⟨Nat.le_trans hw1.size hB, o, ho, Obj.not_cells_of_walk hw⟩
  · rintro i W hi hh ⟨hIi, hb⟩
    have hy := run_yield (P := P) (args := encs i) hb.rec_ (by rw [hR]; exact hps i)
    rw [hR] at hy
    refine ⟨fn, _, assign, body, hy, roundIn_of_wpIn hfn (hassign _ i W _ hi hh hIi ?_)⟩
    clear hy
    intro a' Wa hka hkpa hMa
    replace hb : BkAt w.heap.size (.loop (R .ready)) Wa := ⟨hka.same _ _ hz hb.rec_ rfl, hka.same _ _ (Nat.le_refl _) hb.def_ rfl⟩
    refine ⟨_, run_beginRound (P := P) hb.rec_ (by rw [hR]), ?_⟩
    have hb2 := hb.put (r' := .loop { R .ready with state := .busy })
    refine wpIn_mono (hbody _ i a' _ hi hh ((hM a').putObj _ hMa hz hb.rec_ rfl)) ?_
    rintro e a3 W3 hp
    cases e <;> first | exact hp.elim | skip
    obtain ⟨hk3, hkp3, hi3⟩ := hp
    have hb3 : BkAt w.heap.size (.loop { R .ready with state := .busy }) W3 := ⟨hk3.same _ _ hz hb2.rec_ rfl, hk3.same _ _ (Nat.le_refl _) hb2.def_ rfl⟩
    have he := run_endRound (P := P) none hb3.rec_
    have hRR : Loop.mk .ready none (R .ready).fn (R .ready).tmps (R .ready).params (R .ready).assign (R .ready).body (R .ready).defers = R .ready := by rw [hR]
    refine ⟨_, _, he, rfl, ⟨iput _ hb3 rfl hi3, ?_⟩, hKt hkpa (hKt (kput _ hb rfl rfl) (hKt hkp3 (kput _ hb3 rfl rfl)))⟩
    have hb4 := hb3.put (r' := .loop (R .ready))
    rw [← hRR] at hb4
    simpa [hR] using hb4
  · rintro e W2 ⟨⟨v, rfl⟩, hi, hb⟩
    have he := run_endLoop (P := P) hb.rec_ (by rw [hR]; simp)
    have hp : (R .ready).pending = none := by rw [hR]
    rw [hp] at he
    exact ⟨none, _, he, hdone _ _ (Nat.le_refl _) (iput _ hb rfl hi) ((World.putObj_heap_other (by omega)).trans hb.def_)⟩
end Go.Mine

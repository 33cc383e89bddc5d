/- Package stream: clones of lists, the place of a stream, what matches (layer 6): contracts. -/
import Derived.Test.YtfljohgcbihhbaaDoorStB
import Derived.Test.YtfljohgcbihhbaaDoorStR
import Derived.ArgAppend
import Derived.Lib.SliceRun
namespace Go.Proofs.YtfljohgcbihhbaaDoor
open Go.RowKit Go.Mine

theorem info_S : (Tryd.prog.info? 29).map (fun i => (i.zero, i.size, i.bytes)) = some (some (.agg #[.int .i64 0, .int .i64 0, .int .i64 0, .int .i64 0, .int .i64 0, .int .i64 0]), 6, 48) := by kernel_rfl
theorem und_S : Tryd.prog.underlying 26 = some (.slice 29) := by kernel_rfl
theorem wpList_append_all {ops : Array Oper} {rest : List Oper} {o : Oper} {a : Act} {Q : Exit → Act → World → Prop} (w : World) (hgd : o.guard = none) (s x : Operand)
    (ho : o.op = .call { callee := .builtin .append, args := #[s, x], argTypes := #[26, 26] }) (ao : Option Addr) (hs : a.eval s = .slice ao 0 0) (g n cp : Nat) (f : Nat → Str) (hx : a.eval x = .slice (some ⟨g, 0, none⟩) n cp)
    (hr : Rd w (some ⟨g, 0, none⟩) n f) (h0 : 1 ≤ n) (hn : n ≤ 1000000)
    (h : ∀ v' w', RowN 29 w' w.heap.size v' (lsF f n) → Grew w w' → wpList Tryd.prog ops Q rest (a.put o.dst v') w') : wpList Tryd.prog ops Q (o :: rest) a w := by
  obtain ⟨i0, hi, hz0, hz1, hz2⟩ := info_parts info_S
  refine wpList_append_grows w hgd s x _ ho _ i0 _ 6 48 und_S hi hz0 hz1 hz2 rfl (by omega) ao 0 0 [] hs (fun _ => ⟨rfl, rfl⟩) rfl (fun b _ j u hu => by simp at hu) ⟨g, 0, none⟩ n cp ((lsF f n).flatMap encS) hx
    (by rw [fm_len encS_len, lsF_len]) hr.news encS_ones (by omega) (by unfold maxLen; omega) (by omega) ?_
  intro v' w1 r1 r2
  refine h v' w1 ⟨?_, fun e => ?_⟩ (below_of_grown r2)
  · unfold RowE
    rw [lsF_len]
    simpa using r1
  · have := congrArg List.length e
    rw [lsF_len] at this
    simp at this
    omega
theorem clone_any (a : Option Addr) (n cp : Nat) (f : Nat → Str) (w : World) (hn : n ≤ 1000000) (hr : Rd w a n f) (h0 : n = 0 → a = none ∧ cp = 0) :
    Calls Tryd.prog 38 #[.slice a n cp] w (RetRow 29 (lsF f n) w) := by
  by_cases hz : n = 0
  · obtain ⟨rfl, rfl⟩ := h0 hz
    subst hz
    clear hr h0
    have q : ∀ (w : World) (a : Option Addr) (n c : Nat), (binOp .eql 26 (.slice a n c) (.slice none 0 0)).run Tryd.prog w = .ok (.bool a.isNone) w := fun w a n c => Lib.run_eql_slice_nil w _ _ a n c 0 0 und_S
    go_enter Tryd.func38, Tryd.ntmps38
    go_wp2
    go_ret
    exact ⟨_, rfl, ⟨RowE.nil _ _, fun _ => rfl⟩, Grew.refl _⟩
  · obtain ⟨g, rfl, -, -⟩ := hr 0 (by omega)
    have HR := Lib.hid hr
    have HZ := Lib.hid hz
    clear h0 hr hz
    have G : Grew w (w.alloc (.cells #[] 29)) := (Grew.refl _).alloc _
    have q : ∀ (w : World) (a : Option Addr) (n c : Nat), (binOp .eql 26 (.slice a n c) (.slice none 0 0)).run Tryd.prog w = .ok (.bool a.isNone) w := fun w a n c => Lib.run_eql_slice_nil w _ _ a n c 0 0 und_S
    go_enter Tryd.func38, Tryd.ntmps38
    go_wp2_with (refine wpList_append_all _ rfl _ _ rfl _ rfl g n cp f rfl (HR.out.grew G) (by have := HZ.out; omega) hn ?_; intro v w1 hv g1)
    go_ret
    exact ⟨_, rfl, hv.wider (by simp), G.trans g1⟩
end Go.Proofs.YtfljohgcbihhbaaDoor

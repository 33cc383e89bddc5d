/- An append in a region that goes by an invariant (Reg). No program is imported. -/
import Derived.Test.YtigmkgdalklnpaaReg
import Derived.Test.YtigmkgdalklnpaaRows2
namespace Go.Mine
open Go
section
variable {P : Program} {α : Type} {enc : α → List Value} {sz : Nat}
/-- Onto a row of the call's own, as a step of a region. -/
theorem wp_append_row {o : Oper} {a : Act} {w : World} {K : Act → World → Prop} {Q : Exit → Act → World → Prop} (hgd : o.guard = none) (s x : Operand) (t : TypeId)
    (ho : o.op = .call { callee := .builtin .append, args := #[s, x], argTypes := #[t, t] }) (B : Nat) {T : TypeId} {z : Value} {sz bytes : Nat}
    (hinfo : (P.info? T).map (fun i => (i.zero, i.size, i.bytes)) = some (some z, sz, bytes)) (ht : P.underlying t = some (.slice T)) (hzs : z.cells.size = sz) (hsz : 0 < sz)
    (he : ∀ a, (enc a).length = sz) (v : Value) (L : List α) (hs : a.eval s = v) (hown : RowE T sz enc w B v L) (G c : Nat) (x1 : α) (hx : a.eval x = .slice (some ⟨G, 0, none⟩) 1 c)
    (hnew : Own w G T (enc x1).toArray) (h1 : ∀ u ∈ enc x1, u.oneCell' = true) (hlen : L.length < 1000000) (hby : bytes ≤ 1000) (hB : B ≤ w.heap.size)
    (h : ∀ g cap w', RowE T sz enc w' B (.slice (some ⟨g, 0, none⟩) (L.length + 1) cap) (L ++ [x1]) → w.grownBy w' v.ownBlock → (v.ownBlock = some g ∨ g = w.heap.size) →
      K (a.put o.dst (.slice (some ⟨g, 0, none⟩) (L.length + 1) cap)) w') : Oper.wp P o a w K Q := by
  have h2 := step_append_row (ops := #[]) (E := False) (Q := Q) hgd s x t ho B hinfo ht hzs hsz he v L hs hown G c x1 hx hnew h1 hlen hby hB h
  rwa [if_pos (by unfold Region.wanted; rw [hgd])] at h2
end
end Go.Mine

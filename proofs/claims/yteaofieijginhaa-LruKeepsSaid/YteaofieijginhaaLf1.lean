/- Lists of frames (layer 8): the reference's small functions: contracts. -/
import Derived.Test.YteaofieijginhaaRows
import Derived.Test.YteaofieijginhaaTape
import Derived.Test.YteaofieijginhaaLr
import Derived.Test.YteaofieijginhaaRowApp
import Derived.BigQuiet
import Derived.Deep.RegionHeld3
import Derived.Deep.DeepCutAuto
import Derived.Deep.CutBlock
namespace Go.Proofs.Yteaofieijginhaa
open Go.RowKit Go.Mine

theorem info_I : (Try.prog.info? 3).map (fun i => (i.zero, i.size, i.bytes)) = some (some (.int .i64 0), 1, 8) := by kernel_rfl
theorem und_I : Try.prog.underlying 22 = some (.slice 3) := by kernel_rfl
abbrev RwI (w : World) (B : Nat) (v : Value) (L : List Int) : Prop := RowE 3 1 enc1 w B v L
theorem beqF {x y : Int} (h : ¬x = y) : (x == y) = false := by simpa using h
/-- It returns a new row of the numbers L. -/
def RetL1 (L : List Int) (w : World) (e : Ending) (w' : World) : Prop := ∃ v, e = .returned v ∧ RwI w' w.heap.size v L ∧ Grew w w'
/-- It returns some number, at least 0 just when b says so; nothing has turned. -/
def RetAt (b : Bool) (w : World) (e : Ending) (w' : World) : Prop := ∃ z : Int, e = .returned (.int .i64 z) ∧ -1 ≤ z ∧ (0 ≤ z ↔ b = true) ∧ w = w'
theorem rowI_at {w : World} {B n c k : Nat} {a : Option Addr} {L : List Int} (h : RwI w B (.slice a n c) L) (hk : k < L.length) : ∃ g, a = some ⟨g, 0, none⟩ ∧ g < w.heap.size ∧ w.cell? ⟨g, k, none⟩ = some (.int .i64 (L.getD k 0)) := by
  obtain ⟨a', n', c', e, hn, hv⟩ := h.ints
  injection e with e1 e2 e3
  subst e1
  obtain ⟨g, hg, hlt, -, hc⟩ := hv k (by omega)
  exact ⟨g, hg, hlt, hc⟩
theorem mem_take1 {L : List Int} {i : Nat} (hi : i < L.length) (n : Int) : n ∈ L.take (i + 1) ↔ n ∈ L.take i ∨ n = L.getD i 0 := by
  rw [List.take_add_one, List.getElem?_eq_getElem hi, List.mem_append, List.getD, List.getElem?_eq_getElem hi]
  simp
theorem take_full {L : List Int} {i : Nat} (h : L.length ≤ i) : L.take i = L := List.take_of_length_le h
set_option maxHeartbeats 1000000 in
theorem at_q {L : List Int} {B : Nat} (v : Value) (n : Int) (w : World) (R : RwI w B v L) (hl : L.length ≤ 100000) : Calls Try.prog 30 #[v, .int .i64 n] w fun e w' => e = .returned (.int .i64 (atI L n)) ∧ w' = w := by
  obtain ⟨a, c, rfl⟩ := R.len
  have HR := Lib.hid R
  clear R
  go_enter Try.func30, Try.ntmps30
  go_wp2_with fail
  go_loopw [5] (fun iv wr => ∃ i : Nat, iv = .int .i64 i ∧ i ≤ L.length ∧ w = wr ∧ ¬n ∈ L.take i) (fun iv _ => L.length - (intOf iv).toNat)
  case atStart => exact ⟨0, rfl, by omega, rfl, by simp⟩
  case round =>
    obtain ⟨i, rfl, hi, rfl, hn⟩ := hrel
    have HN := Lib.hid hn
    clear hn
    by_cases hlt : i < L.length
    · obtain ⟨g, rfl, -, x0⟩ := rowI_at HR.out hlt
      have hmt := Lib.hid (mem_take1 hlt n)
      have hat := Lib.hid (atI_at L n i hlt HN.out)
      generalize L.getD i 0 = y at *
      have i0 : (0 : Int) ≤ (i : Int) := by omega
      have i1 : (i : Int) < (L.length : Int) := by omega
      by_cases e : y = n
      · subst e
        go_wp2
        go_ret
        exact ⟨ret_int (hat.out (by first | rfl | trivial)).symm, by first | rfl | trivial⟩
      · have d : (y == n) = false := beqF e
        have HE := Lib.hid e
        clear e
        go_wp2
        exact ⟨⟨i + 1, by go_num, by omega, by first | rfl | trivial, fun h => (hmt.out.1 h).elim HN.out fun h => HE.out h.symm⟩, by simp [intOf]; omega⟩
    · have hin : i = L.length := by omega
      subst hin
      have hno := HN.out
      rw [take_full (Nat.le_refl _)] at hno
      have HNO := Lib.hid hno
      clear hno
      go_wp2
      go_ret
      exact ⟨ret_int (atI_no HNO.out).symm, rfl⟩
theorem at_any {L : List Int} {B : Nat} (v : Value) (n : Int) (w : World) (R : RwI w B v L) (hl : L.length ≤ 100000) : Calls Try.prog 30 #[v, .int .i64 n] w (RetAt (decide (n ∈ L)) w) :=
  (at_q v n w R hl).mono fun _ _ ⟨e, hw⟩ => ⟨_, e, atI_ge L n, atI_in.trans decide_eq_true_iff.symm, hw.symm⟩
theorem at_v {b : Bool} {L : List Int} {B : Nat} (v : Value) (n : Int) (w : World) (R : RwI w B v L) (hl : L.length ≤ 100000) (h : decide (n ∈ L) = b) : Calls Try.prog 30 #[v, .int .i64 n] w (RetAt b w) := h ▸ at_any v n w R hl
theorem wol_take {L : List Int} {i : Nat} (hi : i < L.length) (n : Int) : wol (L.take (i + 1)) n = if L.getD i 0 = n then wol (L.take i) n else wol (L.take i) n ++ [L.getD i 0] := by
  rw [List.take_add_one, List.getElem?_eq_getElem hi, List.getD, List.getElem?_eq_getElem hi]
  unfold wol
  rw [List.filter_append]
  by_cases h : L[i] = n <;> simp [h]
theorem wol_len (L : List Int) (n : Int) : (wol L n).length ≤ L.length := List.length_filter_le ..
set_option maxHeartbeats 1000000 in
theorem without_any {L : List Int} {B : Nat} (v : Value) (n : Int) (w : World) (R : RwI w B v L) (hl : L.length ≤ 100000) : Calls Try.prog 39 #[v, .int .i64 n] w (RetL1 (wol L n) w) := by
  obtain ⟨a, c, rfl⟩ := R.len
  have HR := Lib.hid R
  clear R
  go_enter Try.func39, Try.ntmps39
  go_wp2_with fail
  go_loopw [5, 6] (fun ov iv wr => ∃ (i : Nat) (r : Value), r = ov ∧ iv = .int .i64 i ∧ i ≤ L.length ∧ RwI wr w.heap.size r (wol (L.take i) n) ∧ Grew w wr) (fun _ iv _ => L.length - (intOf iv).toNat)
  case atStart => exact ⟨0, _, rfl, rfl, by omega, RowE.nil _ _, Grew.refl _⟩
  case round =>
    obtain ⟨i, r, rfl, rfl, hi, RO, G⟩ := hrel
    obtain ⟨wo, rfl⟩ : ∃ wo : World, wo = wr := ⟨_, rfl⟩
    by_cases hlt : i < L.length
    · obtain ⟨g, rfl, hg, x0⟩ := rowI_at HR.out hlt
      have x1 := (G.cells.1 g _ hg).trans x0
      have hwt := wol_take hlt n
      have hwl := wol_len (L.take i) n
      rw [List.length_take] at hwl
      generalize L.getD i 0 = y at *
      have i0 : (0 : Int) ≤ (i : Int) := by omega
      have i1 : (i : Int) < (L.length : Int) := by omega
      have HRO := Lib.hid RO
      have HG := Lib.hid G
      have HL := Lib.hid (show (wol (L.take i) n).length < 1000000 by omega)
      have hws : w.heap.size ≤ wo.heap.size := G.size
      by_cases e : y = n
      · have d : (y != n) = false := by simp [e]
        rw [if_pos e] at hwt
        have HW := Lib.hid hwt
        clear e hwt hwl RO G x0
        go_wp2
        exact ⟨⟨i + 1, _, rfl, by go_num, by omega, by rw [HW.out]; exact HRO.out, HG.out⟩, by simp [intOf]; omega⟩
      · have d : (y != n) = true := by simpa [bne] using e
        rw [if_neg e] at hwt
        have HW := Lib.hid hwt
        clear e hwt hwl RO G x0
        have HA := Lib.hid (fun (k : Nat) (e : r.ownBlock = some k) => HRO.out.above k e)
        go_wp2_with (at_builtin; go_loud (refine wpList_append_row _ rfl (.tmp 19) (.tmp 24) 22 rfl w.heap.size info_I und_I (by decide) (by decide) enc1_len r (wol (L.take i) n) rfl (HRO.out.alloc _) _ _ y rfl (Own.new _ _ _) enc1_one HL.out (by decide) (by simp; omega) ?_; intro g3 cap w3 R3 G3 o3))
        exact ⟨⟨i + 1, _, rfl, by go_num, by omega, by rw [HW.out]; exact R3, (HG.out.alloc _).keptA G3 (fun x e => HA.out x e) (Nat.le_refl _)⟩, by simp [intOf]; omega⟩
    · have hin : i = L.length := by omega
      subst hin
      rw [take_full (Nat.le_refl _)] at RO
      have HRO := Lib.hid RO
      have HG := Lib.hid G
      clear RO G
      go_wp2
      go_ret
      exact ⟨_, rfl, HRO.out, HG.out⟩
end Go.Proofs.Yteaofieijginhaa

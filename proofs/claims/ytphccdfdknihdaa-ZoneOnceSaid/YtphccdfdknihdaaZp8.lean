/- The program's zones (layer 10): slices.BinarySearch, inserted. -/
import Derived.Test.YtphccdfdknihdaaZp4
import Derived.Laws.CopyOwn
import Derived.Deep.OwnRows
import Derived.StillTailTactics
namespace Go.Mine
open Go Go.RowKit
theorem madeI (n : Nat) : ∃ A : List Value, madeCells #[Value.int .i64 0] n = A.toArray ∧ A.length = n := ⟨(madeCells #[Value.int .i64 0] n).toList, by simp, by simp [size_madeCells]⟩
theorem rowOf {T : TypeId} {w : World} {g B : Nat} {cs : List Value} {L : List Int} {n : Nat} (h : Own w g T cs.toArray) (hc : cs = L.map (Value.int .i64)) (hn : n = L.length) (hB : B ≤ g) (hm : n ≤ maxLen) : RowE T 1 enc1 w B (.slice (some ⟨g, 0, none⟩) n n) L := by
  subst hc hn
  refine ⟨fm_len enc1_len _, .inr ⟨g, L.length, _, rfl, hB, h, Nat.le_refl _, hm, by simp, ?_⟩⟩
  rw [fmI, Nat.mul_one]
  exact List.take_of_length_le (by simp)
/-- A row of integers behind two copies and a store. -/
theorem spl_ins {A : List Value} {f : Value} {xs ys : List Value} {n : Nat} (hA : A.length = n + 1) (h : xs.length + ys.length = n) : splice ((splice A 0 xs).set xs.length f) (xs.length + 1) ys = xs ++ f :: ys := by
  unfold splice
  rw [List.take_zero, List.nil_append, Nat.zero_add]
  obtain ⟨a, B, hB⟩ : ∃ a B, A.drop xs.length = a :: B := by
    cases hd : A.drop xs.length with
    | nil => have := congrArg List.length hd; simp at this; omega
    | cons a B => exact ⟨a, B, rfl⟩
  have hl : B.length = ys.length := by have := congrArg List.length hB; simp at this; omega
  rw [hB, List.set_append_right _ _ (Nat.le_refl _), Nat.sub_self, List.set_cons_zero]
  rw [List.take_append, List.take_of_length_le (by omega), show xs.length + 1 - xs.length = 1 by omega, List.take_succ_cons, List.take_zero]
  rw [List.drop_of_length_le (by simp; omega), List.append_nil]
  simp
end Go.Mine
namespace Go.Proofs.Ytphccdfdknihdaa
open Go.RowKit Go.Mine

def RetRw2 (xs : List Int) (w : World) (e : Ending) (w' : World) : Prop := ∃ v, e = .returned v ∧ RowE 3 1 enc1 w' w.heap.size v xs ∧ Grew w w'
set_option maxHeartbeats 2000000 in
theorem inserted_p {p : Nat → Prop} {a : Option Addr} {n c k : Nat} {f : Int} {xs : List Int} {w : World} (h : RdI w p a n xs) (hl : xs.length ≤ 1000) (hk : k ≤ n) (hc : n ≤ c) :
    Calls Try.prog 37 #[.slice a n c, .int .i64 k, .int .i64 f] w (RetRw2 (xs.take k ++ f :: xs.drop k) w) := by
  obtain ⟨hn, h2⟩ := h
  have HN := Lib.hid hn
  have hn6 : n ≤ 1000 := by omega
  have hmk0 := run_make_row' (P := Try.prog) 22 3 (.int .i64 0) 8 Try.underlying22 info_int rfl .i64 .i64 (n + 1) (by omega) (by omega)
  obtain ⟨A, hA, hA1⟩ := madeI (n + 1)
  rw [hA] at hmk0
  have hmk : ∀ w : World, (Instr.makeSlice 22 (.int .i64 ((n : Int) + 1)) (.int .i64 ((n : Int) + 1))).run Try.prog w = .ok (.slice (some ⟨w.heap.size, 0, none⟩) (n + 1) (n + 1)) (w.alloc (.cells A.toArray 3)) := fun w => by have h := hmk0 w; rwa [show ((n + 1 : Nat) : Int) = (n : Int) + 1 by omega] at h
  clear hmk0 hA hn hl
  by_cases hn0 : n = 0
  · subst hn0
    obtain rfl : k = 0 := by omega
    have hxs : xs = [] := List.length_eq_zero_iff.1 HN.out.symm
    subst hxs
    obtain ⟨u0, hA⟩ : ∃ u0, A = [u0] := by
      match A, hA1 with
      | [u0], _ => exact ⟨u0, rfl⟩
    subst hA
    have HO := Lib.hid (Own.new w 3 ([u0] : List Value).toArray)
    have HG := Lib.hid ((Grew.refl w).alloc (.cells ([u0] : List Value).toArray 3))
    have hsz3 : (Try.prog.info? 3).map (·.size) = some 1 := by kernel_rfl
    have w1 : IntKind.i64.wrap 1 = 1 := by decide
    have hmk1 : ∀ w : World, (Instr.makeSlice 22 (.int .i64 1) (.int .i64 1)).run Try.prog w = .ok (.slice (some ⟨w.heap.size, 0, none⟩) 1 1) (w.alloc (.cells ([u0] : List Value).toArray 3)) := fun w => hmk w
    clear hA1 h2 hmk
    rw [show ((0 : Nat) : Int) = 0 from rfl]
    rcases a with _ | ad
    all_goals
      go_enter Try.func37, Try.ntmps37
      go_upto_region 2 with fail
      generalize World.alloc w _ = wa at *
      have hu2 : wa.cell? ⟨w.heap.size, 0, none⟩ = some u0 := HO.out.cell 0
      have hf2 := HO.out.frozen 0
      go_upto_region 4 with ((with_reducible show wpList _ _ _ _ _ _); refine wpList_copy_nothing (P := Try.prog) rfl (.tmp 12) (.tmp 15) 22 22 rfl 3 Try.underlying22 hsz3 _ _ _ _ _ _ rfl rfl rfl ?_)
      have HR3 : Hid (RowE 3 1 enc1 (wa.setCell ⟨w.heap.size, 0, none⟩ (.int .i64 f)) w.heap.size (.slice (some ⟨w.heap.size, 0, none⟩) 1 1) [f]) := Lib.hid (rowOf (cs := [.int .i64 f]) (HO.out.set 0 (.int .i64 f)) rfl rfl (Nat.le_refl _) (by decide))
      have HG3 : Hid (Grew w (wa.setCell ⟨w.heap.size, 0, none⟩ (.int .i64 f))) := Lib.hid (HG.out.set (p := ⟨w.heap.size, 0, none⟩) (Nat.le_refl _) _)
      generalize World.setCell wa _ _ = w3 at *
      go_still_tail 7, (by kernel_rfl)
      change wpList _ _ _ _ _ w3.drew
      refine wpList_copy_nothing (P := Try.prog) rfl (.tmp 24) (.tmp 27) 22 22 rfl 3 Try.underlying22 hsz3 _ _ _ _ _ _ rfl rfl rfl ?_
      go_wp2
      go_ret
      exact ⟨_, rfl, HR3.out.drew, HG3.out.drew⟩
  · obtain ⟨g, o, rfl, -, hg, hcell⟩ := h2.resolve_left fun e => hn0 (by rw [HN.out, e]; rfl)
    have hc0 : ¬c = 0 := by omega
    clear h2
    obtain ⟨C1, hC1⟩ : ∃ C1, (xs.take k).map (Value.int .i64) = C1 := ⟨_, rfl⟩
    obtain ⟨C2, hC2⟩ : ∃ C2, (xs.drop k).map (Value.int .i64) = C2 := ⟨_, rfl⟩
    have HL1 : Hid (C1.length = k) := Lib.hid (by rw [← hC1]; have := HN.out; simp; omega)
    have HL2 : Hid (C2.length = n - k) := Lib.hid (by rw [← hC2]; have := HN.out; simp; omega)
    have HC1 := Lib.hid hC1
    have HC2 := Lib.hid hC2
    have HCE := Lib.hid hcell
    have HO := Lib.hid (Own.new w 3 A.toArray)
    have HG := Lib.hid ((Grew.refl w).alloc (.cells A.toArray 3))
    clear hC1 hC2 hcell
    go_enter Try.func37, Try.ntmps37
    go_upto_region 2 with fail
    generalize World.alloc w _ = wa at *
    have F1 : Hid (C1.length = Nat.min k (n + 1)) := Lib.hid (by rw [HL1.out]; exact (Nat.min_eq_left (by omega)).symm)
    have F2 : Hid (0 + C1.length ≤ A.length) := Lib.hid (by rw [HL1.out]; omega)
    have F3 : Hid (∀ v ∈ C1, v.oneCell' = true) := Lib.hid (by rw [← HC1.out]; intro v hv; obtain ⟨y, -, rfl⟩ := List.mem_map.1 hv; rfl)
    have F4 : Hid (∀ j v, C1[j]? = some v → wa.cell? ((⟨g, o, none⟩ : Addr).add j) = some v) := Lib.hid fun j v hv => by
      rw [← HC1.out, List.getElem?_map] at hv
      obtain ⟨y, hy, rfl⟩ := Option.map_eq_some_iff.1 hv
      have hj : j < (xs.take k).length := (List.getElem?_eq_some_iff.1 hy).1
      rw [List.length_take] at hj
      rw [List.getElem?_take_of_lt (by omega)] at hy
      rw [Addr.add_lit, HG.out.cells.1 g _ hg, HCE.out j (by omega), List.getD, hy]
      rfl
    go_upto_region 4 with ((with_reducible show wpList _ _ _ _ _ _); refine wpList_copy_splice rfl (.tmp 12) (.tmp 15) 22 22 rfl 3 Try.underlying22 (by kernel_rfl) _ _ _ _ _ _ rfl rfl w.heap.size 0 A 3 HO.out C1 F1.out (fun _ => ⟨rfl, _, rfl, F4.out⟩) F2.out F3.out w.heap.size w HG.out (Nat.le_refl _) ?_; intro w2 HG2 hB2; have HO2 : Hid (Own w2 w.heap.size 3 (splice A 0 C1).toArray) := Lib.hid HG2.out; have hls : (splice A 0 C1).length = n + 1 := (length_splice A 0 C1 F2.out).trans hA1; obtain ⟨u2, hu2⟩ : ∃ u, w2.cell? ⟨w.heap.size, k, none⟩ = some u := ⟨_, by rw [HO2.out.cell, List.getElem?_toArray, List.getElem?_eq_getElem (by omega)]⟩; have hf2 := HO2.out.frozen k; clear HG2 hls)
    obtain ⟨CU, hCU⟩ : ∃ CU, (splice A 0 C1).set k (.int .i64 f) = CU := ⟨_, rfl⟩
    have HCU := Lib.hid hCU
    have hBw : Below w.heap.size w w2 := hB2
    have HO3 : Hid (Own (w2.setCell ⟨w.heap.size, k, none⟩ (.int .i64 f)) w.heap.size 3 CU.toArray) := Lib.hid (by
      have h := HO2.out.set k (.int .i64 f)
      rw [List.setIfInBounds_toArray, hCU] at h
      exact h)
    have HG3 : Hid (Below w.heap.size w (w2.setCell ⟨w.heap.size, k, none⟩ (.int .i64 f))) := Lib.hid (Grew.set hBw (p := ⟨w.heap.size, k, none⟩) (Nat.le_refl _) _)
    have E1 : Hid (C2.length = Nat.min (n - k) (n - k)) := Lib.hid (by rw [HL2.out]; exact (Nat.min_self _).symm)
    have E2 : Hid (k + 1 + C2.length ≤ CU.length) := Lib.hid (by rw [HL2.out, ← hCU, List.length_set, length_splice A 0 C1 F2.out, hA1]; omega)
    have E3 : Hid (∀ v ∈ C2, v.oneCell' = true) := Lib.hid (by rw [← HC2.out]; intro v hv; obtain ⟨y, -, rfl⟩ := List.mem_map.1 hv; rfl)
    have E4 : Hid (∀ j v, C2[j]? = some v → (w2.setCell ⟨w.heap.size, k, none⟩ (.int .i64 f)).cell? ((⟨g, o + k, none⟩ : Addr).add j) = some v) := Lib.hid fun j v hv => by
      rw [← HC2.out, List.getElem?_map] at hv
      obtain ⟨y, hy, rfl⟩ := Option.map_eq_some_iff.1 hv
      have hj : j < (xs.drop k).length := (List.getElem?_eq_some_iff.1 hy).1
      rw [List.length_drop] at hj
      rw [List.getElem?_drop] at hy
      have h1 := Below.cell HG3.out (p := ⟨g, o + (k + j), none⟩) hg
      rw [Addr.add_lit, show o + k + j = o + (k + j) by omega, h1, HCE.out (k + j) (by omega), List.getD, hy]
      rfl
    have E5 : Hid (splice CU (k + 1) C2 = (xs.take k ++ f :: xs.drop k).map (Value.int .i64)) := Lib.hid (by
      have h := spl_ins (f := .int .i64 f) (xs := C1) (ys := C2) hA1 (by rw [HL1.out, HL2.out]; omega)
      rw [HL1.out, hCU] at h
      rw [h, ← HC1.out, ← HC2.out]
      simp)
    have E6 : Hid ((splice CU (k + 1) C2).length = n + 1) := Lib.hid (by rw [length_splice CU (k + 1) C2 E2.out, ← hCU, List.length_set, length_splice A 0 C1 F2.out, hA1])
    clear hCU hBw hB2 hu2 hf2 HO2 HO F1 F2 F3 F4 hA1
    generalize World.setCell w2 _ _ = w3 at *
    have hsz3 : (Try.prog.info? 3).map (·.size) = some 1 := by kernel_rfl
    have w1 : IntKind.i64.wrap ((k : Int) + 1) = (k : Int) + 1 := by rw [IntKind.wrap_i64]; omega
    have w2' : ((k : Int) + 1).toNat = k + 1 := by omega
    have w3' : (0 : Int) ≤ (k : Int) + 1 := by omega
    have w4' : (k : Int) + 1 ≤ (n : Int) + 1 := by omega
    by_cases hkn : k = n
    · have hc2 : C2.length = 0 := by rw [HL2.out]; omega
      have HV := Lib.hid (show ¬0 < C2.length by omega)
      clear hc2
      subst hkn
      go_still_tail 7, (by kernel_rfl)
      generalize (if c = k then (some (⟨g, o, none⟩ : Addr)) else some ⟨g, o + k, none⟩) = sp
      change wpList _ _ _ _ _ w3.drew
      refine wpList_copy_splice (P := Try.prog) rfl (.tmp 24) (.tmp 27) 22 22 rfl 3 Try.underlying22 hsz3 _ _ _ _ _ _ rfl rfl w.heap.size (k + 1) CU 3 HO3.out.drew C2 (by have := HL2.out; rw [this, Nat.sub_self]; rfl) (fun h => absurd h HV.out) E2.out E3.out w.heap.size w (Below.drew HG3.out) (Nat.le_refl _) ?_
      intro w4 HG4 hB4
      have HRW : Hid (RowE 3 1 enc1 w4 w.heap.size (.slice (some ⟨w.heap.size, 0, none⟩) (k + 1) (k + 1)) (xs.take k ++ f :: xs.drop k)) := Lib.hid (rowOf HG4.out E5.out (by have := HN.out; simp; omega) (Nat.le_refl _) (by unfold maxLen; omega))
      have HGW := Lib.hid (show Grew w w4 from hB4)
      clear HG4 hB4
      go_wp2
      go_ret
      exact ⟨_, rfl, HRW.out, HGW.out⟩
    · have hkn2 : k < n := by omega
      have hkc : ¬c = k := by omega
      have hnk : ¬n = k := by omega
      go_still_tail 7, (by kernel_rfl)
      change wpList _ _ _ _ _ w3.drew
      refine wpList_copy_splice (P := Try.prog) rfl (.tmp 24) (.tmp 27) 22 22 rfl 3 Try.underlying22 hsz3 _ _ _ _ _ _ rfl rfl w.heap.size (k + 1) CU 3 HO3.out.drew C2 E1.out (fun _ => ⟨rfl, _, rfl, E4.out⟩) E2.out E3.out w.heap.size w (Below.drew HG3.out) (Nat.le_refl _) ?_
      intro w4 HG4 hB4
      have HRW : Hid (RowE 3 1 enc1 w4 w.heap.size (.slice (some ⟨w.heap.size, 0, none⟩) (n + 1) (n + 1)) (xs.take k ++ f :: xs.drop k)) := Lib.hid (rowOf HG4.out E5.out (by have := HN.out; simp; omega) (Nat.le_refl _) (by unfold maxLen; omega))
      have HGW := Lib.hid (show Grew w w4 from hB4)
      clear HG4 hB4
      go_wp2
      go_ret
      exact ⟨_, rfl, HRW.out, HGW.out⟩
end Go.Proofs.Ytphccdfdknihdaa

/- Page tables (layer 17): slices.IndexFunc, slices.DeleteFunc with the closure of Zap, Zap of the program. -/
import Derived.Test.YtjkkhfionmdmpaaPt8
import Derived.Test.YtjkkhfionmdmpaaRowCut
import Derived.Lib.SliceRun
namespace Go.Mine
open Go Go.RowKit
theorem take_getDT {L : List Pt} {k : Nat} (h : k < L.length) : L.take (k + 1) = L.take k ++ [L.getD k zT] := take_succT h
theorem fil_snoc (q : Pt → Bool) (L : List Pt) (x : Pt) : (L ++ [x]).filter (fun y => !q y) = match q x with | true => L.filter (fun y => !q y) | false => L.filter (fun y => !q y) ++ [x] := by
  rw [List.filter_append]
  cases h : q x
  · rw [List.filter_cons_of_pos (by rw [h]; rfl)]; rfl
  · rw [List.filter_cons_of_neg (by rw [h]; decide)]; exact List.append_nil _
/-- M is L behind the deletion's first j entries: i of them stand at the front. -/
def DelT (q : Pt → Bool) (L M : List Pt) (i j : Nat) : Prop := M.length = L.length ∧ i < j ∧ j ≤ L.length ∧ M.take i = (L.take j).filter (fun y => !q y) ∧ ∀ k, j ≤ k → k < L.length → M.getD k zT = L.getD k zT
theorem setT_get {L : List Pt} {j i : Nat} (x : Pt) (hi : i < L.length) : (L.set j x).getD i zT = if i = j then x else L.getD i zT := by
  simp only [List.getD, List.getElem?_set]
  by_cases e : j = i
  · subst e; simp [hi]
  · rw [if_neg e, if_neg (fun h => e h.symm)]
theorem DelT.first {q : Pt → Bool} {L : List Pt} {m : Nat} (hm : m < L.length) (h : ∀ k, k < m → q (L.getD k zT) = false) (hn : q (L.getD m zT) = true) : DelT q L L m (m + 1) := by
  refine ⟨rfl, by omega, hm, ?_, fun k _ _ => rfl⟩
  rw [take_getDT hm, fil_snoc, hn]
  refine (List.filter_eq_self.2 fun p hp => ?_).symm
  obtain ⟨k, hk, rfl⟩ := List.mem_iff_getElem.1 hp
  rw [List.length_take] at hk
  have := h k (by omega)
  rw [List.getElem_take, ← tD (by omega), this]
  rfl
theorem DelT.keep {q : Pt → Bool} {L M : List Pt} {i j : Nat} (h : DelT q L M i j) (hj : j < L.length) (hv : q (L.getD j zT) = false) : DelT q L (M.set i (L.getD j zT)) (i + 1) (j + 1) := by
  obtain ⟨h1, h2, h3, h4, h5⟩ := h
  refine ⟨by rw [List.length_set]; exact h1, by omega, hj, ?_, fun k hk hk2 => ?_⟩
  · rw [take_getDT hj, fil_snoc, hv, ← h4, take_getDT (by rw [List.length_set]; omega), setT_get _ (by omega), if_pos rfl, List.take_set_of_le (Nat.le_refl _)]
  · rw [setT_get _ (by omega), if_neg (by omega)]
    exact h5 k (by omega) hk2
theorem DelT.drop {q : Pt → Bool} {L M : List Pt} {i j : Nat} (h : DelT q L M i j) (hj : j < L.length) (hv : q (L.getD j zT) = true) : DelT q L M i (j + 1) := by
  obtain ⟨h1, h2, h3, h4, h5⟩ := h
  refine ⟨h1, by omega, hj, ?_, fun k hk hk2 => h5 k (by omega) hk2⟩
  rw [take_getDT hj, fil_snoc, hv]
  exact h4
theorem DelT.last {q : Pt → Bool} {L M : List Pt} {i : Nat} (h : DelT q L M i L.length) : M.take i = L.filter (fun y => !q y) ∧ i < M.length := by
  obtain ⟨h1, h2, h3, h4, h5⟩ := h
  rw [List.take_length] at h4
  exact ⟨h4, by omega⟩
/-- The closure's three variables. -/
def ClZ (TI : TypeId) (w : World) (b : Nat) (p v n : Int) : Prop := Own w b TI #[.int .i64 p] ∧ Own w (b + 1) TI #[.int .i64 v] ∧ Own w (b + 2) TI #[.int .i64 n]
theorem ClZ.grew {TI : TypeId} {w w' : World} {b : Nat} {p v n : Int} (h : ClZ TI w b p v n) (g : Grew w w') : ClZ TI w' b p v n := ⟨h.1.grew g, h.2.1.grew g, h.2.2.grew g⟩
theorem ClZ.by_ {TI : TypeId} {w w' : World} {b : Nat} {p v n : Int} {r : Option Nat} (h : ClZ TI w b p v n) (g : w.grownBy w' r) (hr : ∀ k, r = some k → k ≠ b ∧ k ≠ b + 1 ∧ k ≠ b + 2) : ClZ TI w' b p v n :=
  ⟨h.1.keptN g (fun e => (hr _ e).1 rfl), h.2.1.keptN g (fun e => (hr _ e).2.1 rfl), h.2.2.keptN g (fun e => (hr _ e).2.2 rfl)⟩
/-- The place of the first entry that meets q; -1 if there is none. -/
def RetFT (q : Pt → Bool) (L : List Pt) (w : World) (e : Ending) (w' : World) : Prop := ∃ j : Int, e = .returned (.int .i64 j) ∧ Grew w w' ∧
  ((j = -1 ∧ ∀ k, k < L.length → q (L.getD k zT) = false) ∨ ∃ m : Nat, j = m ∧ m < L.length ∧ (∀ k, k < m → q (L.getD k zT) = false) ∧ q (L.getD m zT) = true)
theorem zapT_y {L : List Pt} {p v c : Int} (h : 1 ≤ c) (k : okT L = true) : zapT L p v c = L.filter (fun x => !zpB p v c x) := by unfold zapT; rw [decide_eq_true h, k]; rfl
theorem zapT_n {L : List Pt} {p v c : Int} (h : ¬1 ≤ c) : zapT L p v c = L := by unfold zapT; rw [decide_eq_false h]; rfl
theorem zapT_0 {L : List Pt} {p v c : Int} (k : okT L = false) : zapT L p v c = L := by unfold zapT; rw [k, Bool.and_false]
end Go.Mine
namespace Go.Proofs.Ytjkkhfionmdmpaa
open Go.RowKit Go.Mine

theorem zap1_p {x : Pt} {p v n : Int} {b : Nat} {r : Bool} {w : World} (hC : ClZ 3 w b p v n) (hx : rtT x = true) (h1 : 1 ≤ n) (h2 : n ≤ 9223372036854775807) (hr : zpB p v n x = r) :
    Calls Try.prog 40 #[ptV x, .pointer (some ⟨b, 0, none⟩), .pointer (some ⟨b + 1, 0, none⟩), .pointer (some ⟨b + 2, 0, none⟩)] w (RetG (.bool r) w) := by
  obtain ⟨xp, xv, xf, xw, xa⟩ := x
  have hxv := (rtT_iff.1 hx).2.1
  simp only at hxv
  have HR : Hid (decide (xp = p ∧ v ≤ xv ∧ xv - n < v) = r) := Lib.hid hr
  have HG := Lib.hid ((Grew.refl w).alloc (.cells #[.int .i64 xp, .int .i64 xv, .int .i64 xf, .bool xw, .bool xa] 30))
  have c0 := (hC.1.alloc (.cells #[.int .i64 xp, .int .i64 xv, .int .i64 xf, .bool xw, .bool xa] 30)).one.1
  have c1 := (hC.2.1.alloc (.cells #[.int .i64 xp, .int .i64 xv, .int .i64 xf, .bool xw, .bool xa] 30)).one.1
  have c2 := (hC.2.2.alloc (.cells #[.int .i64 xp, .int .i64 xv, .int .i64 xf, .bool xw, .bool xa] 30)).one.1
  have hw : IntKind.i64.wrap (xv - n) = xv - n := IntWalk.i64_in _ (by omega)
  clear hr hx hC hxv h1 h2
  by_cases t1 : xp = p
  · have e1 : (xp == p) = true := by simp [t1]
    by_cases t2 : v ≤ xv
    · by_cases t3 : xv - n < v
      · have HE : Hid (r = true) := Lib.hid (by rw [← HR.out]; exact decide_eq_true ⟨t1, t2, t3⟩)
        clear t1
        go_enter Try.func40, Try.ntmps40
        go_wp2
        go_ret
        exact ⟨ret_bool HE.out.symm, HG.out⟩
      · have HE : Hid (r = false) := Lib.hid (by rw [← HR.out]; exact decide_eq_false (fun k => t3 k.2.2))
        clear t1
        go_enter Try.func40, Try.ntmps40
        go_wp2
        go_ret
        exact ⟨ret_bool HE.out.symm, HG.out⟩
    · have HE : Hid (r = false) := Lib.hid (by rw [← HR.out]; exact decide_eq_false (fun k => t2 k.2.1))
      clear t1
      go_enter Try.func40, Try.ntmps40
      go_wp2
      go_ret
      exact ⟨ret_bool HE.out.symm, HG.out⟩
  · have e1 : (xp == p) = false := by simp [t1]
    have HE : Hid (r = false) := Lib.hid (by rw [← HR.out]; exact decide_eq_false (fun k => t1 k.1))
    clear t1
    go_enter Try.func40, Try.ntmps40
    go_wp2
    go_ret
    exact ⟨ret_bool HE.out.symm, HG.out⟩
set_option maxHeartbeats 2000000 in
theorem indexZ_p {B b : Nat} {a : Option Addr} {n c : Nat} {L : List Pt} {p v m : Int} {w : World} (h : RdS 5 encT w B (.slice a n c) L) (hl : L.length ≤ 1000) (hok : okT L = true) (hC : ClZ 3 w b p v m) (h1 : 1 ≤ m) (h2 : m ≤ 9223372036854775807) :
    Calls Try.prog 48 #[.slice a n c, .func (.func 40) #[] #[.pointer (some ⟨b, 0, none⟩), .pointer (some ⟨b + 1, 0, none⟩), .pointer (some ⟨b + 2, 0, none⟩)]] w (RetFT (zpB p v m) L w) := by
  obtain ⟨hn, -, -⟩ := h.slen
  have HN := Lib.hid hn.symm
  rw [← hn] at hl
  have HZ := Lib.hid h
  have HOK := Lib.hid hok
  have HC := Lib.hid hC
  clear h hok hn hC
  go_enter Try.func48, Try.ntmps48
  go_wp2_with fail
  go_loopw [8] (fun iv wr => ∃ i : Nat, iv = .int .i64 i ∧ i ≤ n ∧ Hid (∀ j, j < i → zpB p v m (L.getD j zT) = false) ∧ Grew w wr) (fun iv _ => n - (intOf iv).toNat)
  case atStart => exact ⟨0, rfl, by omega, Lib.hid fun j hj => by omega, Grew.refl _⟩
  case round =>
    obtain ⟨i, rfl, hi, HB, G⟩ := hrel
    obtain ⟨wo, rfl⟩ : ∃ wo : World, wo = wr := ⟨_, rfl⟩
    by_cases hlt : i < n
    · have hiL : i < L.length := by rw [HN.out]; exact hlt
      obtain ⟨g, o, rfl, -, hg, c0, c1, c2, c3, c4⟩ := (HZ.out.grew G).atT hiL
      have hrt := rtTD HOK.out hiL
      have HNX : Hid (zpB p v m (L.getD i zT) = false → ∀ j, j < i + 1 → zpB p v m (L.getD j zT) = false) := Lib.hid fun h j hj => by
        by_cases e : j = i
        · rw [e]; exact h
        · exact HB.out j (by omega)
      obtain ⟨d, hd⟩ : ∃ d, L.getD i zT = d := ⟨_, rfl⟩
      have HD := Lib.hid hd
      rw [show L.getD i (⟨0, 0, 0, false, false⟩ : Pt) = d from hd] at c0 c1 c2 c3 c4
      rw [hd] at hrt HNX
      have hi0 : (0 : Int) ≤ (i : Int) := by omega
      have hi1 : (i : Int) < (n : Int) := by omega
      have HC2 := Lib.hid (HC.out.grew G)
      have HG := Lib.hid G
      have HRT := Lib.hid hrt
      clear hd G hrt
      cases hq : zpB p v m d
      · have HNX2 := Lib.hid (HNX.out hq)
        have HQ := Lib.hid hq
        clear hq
        go_wp2_with (go_at_call 40; (with_reducible refine (zap1_p (x := d) HC2.out HRT.out h1 h2 HQ.out).mono ?_); rintro e2 w2 ⟨rfl, g2⟩)
        have HG2 := Lib.hid (HG.out.trans g2)
        clear g2
        go_wp2
        exact ⟨⟨i + 1, by go_num, by omega, HNX2, HG2.out⟩, by simp [intOf] <;> omega⟩
      · have HQ := Lib.hid hq
        clear hq
        go_wp2_with (go_at_call 40; (with_reducible refine (zap1_p (x := d) HC2.out HRT.out h1 h2 HQ.out).mono ?_); rintro e2 w2 ⟨rfl, g2⟩)
        have HG2 := Lib.hid (HG.out.trans g2)
        clear g2
        go_wp2
        go_ret
        exact ⟨i, rfl, HG2.out, .inr ⟨i, rfl, hiL, HB.out, by rw [HD.out]; exact HQ.out⟩⟩
    · obtain rfl : i = n := by omega
      go_wp2
      go_ret
      exact ⟨-1, rfl, G, .inl ⟨rfl, by rw [HN.out]; exact HB.out⟩⟩
theorem zero_pt (w : World) : (zeroValue 30).run Try.prog w = .ok (ptV zT) w := by kernel_rfl
theorem zeroT_one (n : Nat) : ∀ v ∈ (Builtin.zeroCells (ptV zT).cells n).toList, v.oneCell' = true := by
  intro v hv
  unfold Builtin.zeroCells at hv
  rw [Array.toList_map, List.mem_map] at hv
  obtain ⟨i, -, rfl⟩ := hv
  have h5 : i % 5 < 5 := Nat.mod_lt _ (by decide)
  have e : (ptV zT).cells.size = 5 := rfl
  rw [e]
  rcases (show i % 5 = 0 ∨ i % 5 = 1 ∨ i % 5 = 2 ∨ i % 5 = 3 ∨ i % 5 = 4 by omega) with h | h | h | h | h <;> rw [h] <;> rfl
theorem run_clear_pt (w : World) (ty : TypeId) (g o n c : Nat) (hn : 0 < n) (hc : ∀ j, j < n * 5 → (w.cell? ⟨g, o + j, none⟩).isSome = true) (hf : ∀ j, j < n * 5 → w.frozen? ⟨g, o + j, none⟩ = false) :
    (Builtin.clear_ #[26] ty #[.slice (some ⟨g, o, none⟩) n c]).run Try.prog w = .ok (.tuple #[]) (w.setCells g o (Builtin.zeroCells (ptV zT).cells n).toList) := by
  have hl : (Builtin.zeroCells (ptV zT).cells n).toList.length = n * 5 := by rw [Array.length_toList]; simp [Builtin.zeroCells, Value.cells]
  have hst := run_storeCells_cells (P := Try.prog) g o (Builtin.zeroCells (ptV zT).cells n).toList 0 w (by rw [hl]; simpa using hc) (by rw [hl]; simpa using hf) (zeroT_one n)
  simp only [Nat.add_zero] at hst
  obtain ⟨m, rfl⟩ : ∃ m, n = m + 1 := ⟨n - 1, by omega⟩
  have hu := run_underlying (w := w) Try.underlying26
  simp only [Builtin.clear_]
  simp [hu, zero_pt, hst, Result.andThen]
end Go.Proofs.Ytjkkhfionmdmpaa

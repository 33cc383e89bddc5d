/- The reference of layer 1: find, one, Get, Marked, Next, Count. -/
import Derived.Test.YtdlhihllmidfeaaSp6
import Derived.Test.YtdlhihllmidfeaaRw1
namespace Go.Proofs.Ytdlhihllmidfeaa
open Go.RowKit Go.Mine

abbrev eZ : En := (0, (0, 0))
theorem one_q (m : Int) (w : World) : Calls Try.prog 43 #[.int .i64 m] w (RetS (.bool (markB m)) w) := by
  obtain ⟨r, hr⟩ : ∃ r, markB m = r := ⟨_, rfl⟩
  have HR := Lib.hid hr
  rw [hr]
  clear hr
  go_enter Try.func43, Try.ntmps43
  go_wp2
  all_goals
    go_ret
    refine ⟨ret_bool ?_, rfl⟩
    have hr := HR.out
    unfold markB at hr
    rw [← hr]
    try simp only [beq_eq_false_iff_ne, ne_eq, beq_iff_eq, bne_iff_ne] at *
    first | (symm; rw [decide_eq_false_iff_not]; omega) | (symm; rw [decide_eq_true_iff]; omega) | (rw [Bool.eq_iff_iff]; simp only [decide_eq_true_eq, Bool.and_eq_true, Bool.or_eq_true, beq_iff_eq, bne_iff_ne, ne_eq]; omega)
/-- The place of an index in a list of entries, or -1. -/
def FindP (L : List En) (i p : Int) : Prop := (∃ k : Nat, k < L.length ∧ p = k ∧ (L.getD k eZ).1 = i) ∨ (p = -1 ∧ ∀ k, k < L.length → ¬(L.getD k eZ).1 = i)
theorem find_q {T : TypeId} {B : Nat} (v : Value) (L : List En) (i : Int) (w : World) (R : RowE T 3 encE w B v L) (hL : L.length ≤ 1000) :
    Calls Try.prog 51 #[v, .int .i64 i] w (fun e w' => ∃ p, e = .returned (.int .i64 p) ∧ FindP L i p ∧ w = w') := by
  obtain ⟨a, n, c, rfl, hn, hc⟩ := RowE.ents R
  have HC := Lib.hid hc
  have HN := Lib.hid hn
  have hn2 : n ≤ 1000 := by rw [hn]; exact hL
  clear R hL hc hn
  go_enter Try.func51, Try.ntmps51
  go_wp2_with fail
  go_loopw [5] (fun iv wr => ∃ k : Nat, iv = .int .i64 k ∧ k ≤ n ∧ (∀ j, j < k → ¬(L.getD j eZ).1 = i) ∧ wr = w) (fun iv _ => n - (intOf iv).toNat)
  case atStart => exact ⟨0, rfl, by omega, fun j hj => by omega, rfl⟩
  case round =>
    obtain ⟨k, rfl, hk, hno, rfl⟩ := hrel
    have HNO := Lib.hid hno
    clear hno
    by_cases hlt : k < n
    · obtain ⟨g, rfl, hg, -, c0, c1, c2⟩ := HC.out k hlt
      have HX := Lib.hid (show ∃ z, (L.getD k eZ).1 = z from ⟨_, rfl⟩)
      obtain ⟨z, hz⟩ := HX.out
      rw [hz] at c0
      have HZ := Lib.hid hz
      clear hz HX
      by_cases he : z = i
      · subst he
        go_wp2
        go_ret
        exact ⟨_, rfl, .inl ⟨k, by rw [← HN.out]; exact hlt, rfl, HZ.out⟩, rfl⟩
      · have e2 : (z == i) = false := by simpa using he
        go_wp2_with fail
        go_roundw
        case rel =>
          refine ⟨k + 1, by go_num, by omega, fun j hj => ?_, by trivial⟩
          by_cases hjk : j = k
          · rw [hjk, HZ.out]; exact he
          · exact HNO.out j (by omega)
        case measure => simp [intOf]; omega
    · have hkn : k = n := by omega
      subst hkn
      go_wp2
      go_ret
      exact ⟨_, rfl, .inr ⟨rfl, by rw [← HN.out]; exact HNO.out⟩, rfl⟩
/-- The value of an index. -/
def GetP (L : List En) (i v : Int) : Prop := (∃ k, k < L.length ∧ (L.getD k eZ).1 = i ∧ v = (L.getD k eZ).2.1) ∨ (v = 0 ∧ ∀ k, k < L.length → ¬(L.getD k eZ).1 = i)
set_option maxHeartbeats 1000000 in
theorem getq_l (H : Int) (s : Value) (x m i : Int) (L : List En) (w : World) (t : TreeL w H s x m L) : Calls Try.prog 18 #[treeI H s x m, .int .i64 i] w (fun e w' => ∃ v, e = .returned (.int .i64 v) ∧ GetP L i v ∧ Grew w w') := by
  obtain ⟨a, n, c, rfl⟩ := t.slice
  have HT := Lib.hid t
  have hl := t.len
  have HL := Lib.hid (show L.length ≤ 1000 by omega)
  clear t hl
  go_enter Try.func18, Try.ntmps18
  have G := (Grew.refl w).alloc (.cells #[.int .i64 H, .slice a n c, .int .i64 x, .int .i64 m] 28)
  go_wp2_with fail
  with_reducible refine (entriesq_l H _ _ _ L _ (HT.out.grew G)).mono ?_
  rintro e w1 ⟨v, rfl, R, g1⟩
  replace G := G.trans g1
  have HR := Lib.hid R
  obtain ⟨a2, n2, c2, rfl, hn, hc⟩ := RowE.ents R
  have HN := Lib.hid hn
  have HC := Lib.hid hc
  have hn2 : n2 ≤ 1000 := by rw [hn]; exact HL.out
  clear R g1 hn hc
  go_wp2_with fail
  with_reducible refine (find_q _ L i _ HR.out HL.out).mono ?_
  rintro e w2 ⟨p, rfl, hp, rfl⟩
  rcases hp with ⟨k, hk, rfl, hi⟩ | ⟨rfl, hno⟩
  · have hkn : k < n2 := by rw [HN.out]; exact hk
    obtain ⟨g, rfl, hg, -, c0, c1, c2⟩ := HC.out k hkn
    have HI := Lib.hid (And.intro hk hi)
    have hk0 : (0 : Int) ≤ (k : Int) := by omega
    have hk1 : (k : Int) < (n2 : Int) := by omega
    obtain ⟨z, hz⟩ : ∃ z, (L.getD k eZ).2.1 = z := ⟨_, rfl⟩
    rw [hz] at c1
    have HZ := Lib.hid hz
    clear hk hi c0 c2 hz
    go_wp2
    go_ret
    exact ⟨_, rfl, .inl ⟨k, HI.out.1, HI.out.2, HZ.out.symm⟩, G⟩
  · have HI := Lib.hid hno
    clear hno
    go_wp2
    go_ret
    exact ⟨_, rfl, .inr ⟨rfl, HI.out⟩, G⟩
/-- Whether an index has a mark. -/
def MkdP (L : List En) (i mk : Int) (b : Bool) : Prop := (∃ k, k < L.length ∧ (L.getD k eZ).1 = i ∧ b = (markB mk && !(andI (L.getD k eZ).2.2 mk == 0))) ∨ (b = false ∧ ∀ k, k < L.length → ¬(L.getD k eZ).1 = i)
set_option maxHeartbeats 1000000 in
theorem markedq_l (H : Int) (s : Value) (x m i mk : Int) (L : List En) (w : World) (t : TreeL w H s x m L) : Calls Try.prog 20 #[treeI H s x m, .int .i64 i, .int .i64 mk] w (fun e w' => ∃ b, e = .returned (.bool b) ∧ MkdP L i mk b ∧ Grew w w') := by
  obtain ⟨a, n, c, rfl⟩ := t.slice
  have HT := Lib.hid t
  have hl := t.len
  have HL := Lib.hid (show L.length ≤ 1000 by omega)
  clear t hl
  go_enter Try.func20, Try.ntmps20
  have G := (Grew.refl w).alloc (.cells #[.int .i64 H, .slice a n c, .int .i64 x, .int .i64 m] 28)
  go_wp2_with fail
  with_reducible refine (entriesq_l H _ _ _ L _ (HT.out.grew G)).mono ?_
  rintro e w1 ⟨v, rfl, R, g1⟩
  replace G := G.trans g1
  have HR := Lib.hid R
  obtain ⟨a2, n2, c2, rfl, hn, hc⟩ := RowE.ents R
  have HN := Lib.hid hn
  have HC := Lib.hid hc
  have hn2 : n2 ≤ 1000 := by rw [hn]; exact HL.out
  clear R g1 hn hc
  go_wp2_with fail
  with_reducible refine (find_q _ L i _ HR.out HL.out).mono ?_
  rintro e w2 ⟨p, rfl, hp, rfl⟩
  go_wp2_with fail
  with_reducible refine (one_q mk _).mono ?_
  rintro e w2 ⟨rfl, rfl⟩
  rcases hp with ⟨k, hk, rfl, hi⟩ | ⟨rfl, hno⟩
  · have hkn : k < n2 := by rw [HN.out]; exact hk
    obtain ⟨g, rfl, hg, -, c0, c1, c2⟩ := HC.out k hkn
    have HI := Lib.hid (And.intro hk hi)
    have hk0 : (0 : Int) ≤ (k : Int) := by omega
    have hk1 : (k : Int) < (n2 : Int) := by omega
    obtain ⟨z, hz⟩ : ∃ z, (L.getD k eZ).2.2 = z := ⟨_, rfl⟩
    rw [hz] at c2
    have HZ := Lib.hid hz
    clear hk hi c0 c1 hz
    cases hm : markB mk
    · have HM := Lib.hid hm
      clear hm
      go_wp2
      go_ret
      exact ⟨_, rfl, .inl ⟨k, HI.out.1, HI.out.2, by rw [HM.out]; rfl⟩, G⟩
    · have HM := Lib.hid hm
      clear hm
      go_wp2
      go_ret
      exact ⟨_, rfl, .inl ⟨k, HI.out.1, HI.out.2, by rw [HM.out, HZ.out]; rfl⟩, G⟩
  · have HI := Lib.hid hno
    clear hno
    cases hm : markB mk
    · go_wp2
      go_ret
      exact ⟨_, rfl, .inr ⟨rfl, HI.out⟩, G⟩
    · go_wp2
      go_ret
      exact ⟨_, rfl, .inr ⟨rfl, HI.out⟩, G⟩
/-- Whether an entry is a frame with a mark, or any frame if the mark is 0. -/
def rawB (mk : Int) (e : En) : Bool := frB e.2.1 && ((mk == 0) || (markB mk && !(andI e.2.2 mk == 0)))
theorem raw_1 {mk : Int} {e : En} (h : ¬0 < e.2.1) : rawB mk e = false := by unfold rawB frB; rw [decide_eq_false h]; rfl
theorem raw_2 {mk : Int} {e : En} (h : 0 < e.2.1) (h0 : mk = 0) : rawB mk e = true := by unfold rawB frB; rw [decide_eq_true h, h0]; rfl
theorem raw_3 {mk : Int} {e : En} (h0 : (mk == 0) = false) (h : markB mk = false) : rawB mk e = false := by unfold rawB; rw [h0, h]; simp
theorem raw_4 {mk : Int} {e : En} (h : 0 < e.2.1) (h0 : (mk == 0) = false) (hm : markB mk = true) : rawB mk e = !(andI e.2.2 mk == 0) := by unfold rawB frB; rw [decide_eq_true h, h0, hm]; simp
/-- How many of a list. -/
def cntL (mk : Int) (L : List En) : Nat := (L.filter (rawB mk)).length
theorem cntL_snoc (mk : Int) (L : List En) (k : Nat) (hk : k < L.length) : cntL mk (L.take (k + 1)) = cntL mk (L.take k) + (if rawB mk (L.getD k eZ) = true then 1 else 0) := by
  rw [take_snoc_getD (d := eZ) L k hk]
  unfold cntL
  rw [List.filter_append, List.length_append]
  generalize L.getD k eZ = e
  cases h : rawB mk e <;> simp [h]
theorem cntL_le (mk : Int) (L : List En) : cntL mk L ≤ L.length := List.length_filter_le _ _
set_option maxHeartbeats 4000000 in
theorem countq_l (H : Int) (s : Value) (x m mk : Int) (L : List En) (w : World) (t : TreeL w H s x m L) : Calls Try.prog 22 #[treeI H s x m, .int .i64 mk] w (fun e w' => e = .returned (.int .i64 (cntL mk L)) ∧ Grew w w') := by
  obtain ⟨a, n, c, rfl⟩ := t.slice
  have HT := Lib.hid t
  have hl := t.len
  have HL := Lib.hid (show L.length ≤ 1000 by omega)
  clear t hl
  go_enter Try.func22, Try.ntmps22
  have G := (Grew.refl w).alloc (.cells #[.int .i64 H, .slice a n c, .int .i64 x, .int .i64 m] 28)
  go_wp2_with fail
  with_reducible refine (entriesq_l H _ _ _ L _ (HT.out.grew G)).mono ?_
  rintro e w1 ⟨v, rfl, R, g1⟩
  replace G := G.trans g1
  obtain ⟨a2, n2, c2, rfl, hn, hc⟩ := RowE.ents R
  have HN := Lib.hid hn
  have HC := Lib.hid hc
  have hn2 : n2 ≤ 1000 := by rw [hn]; exact HL.out
  clear R g1 hn hc
  go_wp2_with fail
  have HG := Lib.hid G
  clear G
  go_loopw [6, 7] (fun nv iv wr => ∃ (k q : Nat), iv = .int .i64 k ∧ nv = .int .i64 q ∧ k ≤ n2 ∧ q = cntL mk (L.take k) ∧ wr = w1) (fun _ iv _ => n2 - (intOf iv).toNat)
  case atStart => exact ⟨0, 0, rfl, rfl, by omega, rfl, rfl⟩
  case round =>
    obtain ⟨k, q, rfl, rfl, hk, hq, rfl⟩ := hrel
    have hq1 : q ≤ k := by
      rw [hq]
      exact Nat.le_trans (cntL_le _ _) (by rw [List.length_take]; exact Nat.min_le_left _ _)
    have HQ := Lib.hid hq
    clear hq
    by_cases hlt : k < n2
    · have HS := Lib.hid (cntL_snoc mk L k (by rw [← HN.out]; exact hlt))
      obtain ⟨g, rfl, hg, -, c0, c1, c2⟩ := HC.out k hlt
      obtain ⟨y, hy⟩ : ∃ y, (L.getD k eZ).2.1 = y := ⟨_, rfl⟩
      obtain ⟨z, hz⟩ : ∃ z, (L.getD k eZ).2.2 = z := ⟨_, rfl⟩
      rw [hy] at c1
      rw [hz] at c2
      have HY := Lib.hid hy
      have HZ := Lib.hid hz
      clear hy hz
      by_cases h2 : 0 < y
      · by_cases h3 : mk = 0
        · have HF := Lib.hid (show rawB mk (L.getD k eZ) = true from raw_2 (by rw [HY.out]; exact h2) h3)
          have e3 : (mk == 0) = true := by simpa using h3
          clear h3
          go_wp2_with fail
          go_roundw
          case rel => exact ⟨k + 1, q + 1, by go_num, by go_num, by omega, by rw [HS.out, HF.out, HQ.out]; rfl, by trivial⟩
          case measure => simp [intOf]; omega
        · have e3 : (mk == 0) = false := by simpa using h3
          clear h3
          cases hm : markB mk
          · have HF := Lib.hid (show rawB mk (L.getD k eZ) = false from raw_3 e3 hm)
            have HM := Lib.hid hm
            clear hm
            go_wp2_with fail
            with_reducible refine (one_q mk _).mono ?_
            rintro e wq ⟨rfl, rfl⟩
            rw [HM.out]
            go_wp2_with fail
            go_roundw
            case rel => exact ⟨k + 1, q, by go_num, rfl, by omega, by rw [HS.out, HF.out, HQ.out]; rfl, by trivial⟩
            case measure => simp [intOf]; omega
          · have HG := Lib.hid (show rawB mk (L.getD k eZ) = !(andI (L.getD k eZ).2.2 mk == 0) from raw_4 (by rw [HY.out]; exact h2) e3 hm)
            have HM := Lib.hid hm
            clear hm
            cases h5 : (bits .and .i64 z mk == 0)
            · have HF := Lib.hid (show rawB mk (L.getD k eZ) = true from by rw [HG.out, HZ.out, show (andI z mk == 0) = false from h5]; rfl)
              have h6 : (bits .and .i64 z mk != 0) = true := by simp [bne, h5]
              go_wp2_with fail
              with_reducible refine (one_q mk _).mono ?_
              rintro e wq ⟨rfl, rfl⟩
              rw [HM.out]
              go_wp2_with fail
              go_roundw
              case rel => exact ⟨k + 1, q + 1, by go_num, by go_num, by omega, by rw [HS.out, HF.out, HQ.out]; rfl, by trivial⟩
              case measure => simp [intOf]; omega
            · have HF := Lib.hid (show rawB mk (L.getD k eZ) = false from by rw [HG.out, HZ.out, show (andI z mk == 0) = true from h5]; rfl)
              have h6 : (bits .and .i64 z mk != 0) = false := by simp [bne, h5]
              go_wp2_with fail
              with_reducible refine (one_q mk _).mono ?_
              rintro e wq ⟨rfl, rfl⟩
              rw [HM.out]
              go_wp2_with fail
              go_roundw
              case rel => exact ⟨k + 1, q, by go_num, rfl, by omega, by rw [HS.out, HF.out, HQ.out]; rfl, by trivial⟩
              case measure => simp [intOf]; omega
      · have HF := Lib.hid (show rawB mk (L.getD k eZ) = false from raw_1 (by rw [HY.out]; exact h2))
        go_wp2_with fail
        go_roundw
        case rel => exact ⟨k + 1, q, by go_num, rfl, by omega, by rw [HS.out, HF.out, HQ.out]; rfl, by trivial⟩
        case measure => simp [intOf]; omega
    · have hkn : k = n2 := by omega
      subst hkn
      have hq2 : q = cntL mk L := by rw [HQ.out, HN.out, List.take_length]
      subst hq2
      go_wp2
      go_ret
      exact ⟨rfl, HG.out⟩
/-- The first hit of a list from an index on. -/
def NxP (mk fr : Int) (L : List En) (o : Int × Bool) : Prop :=
  (∃ k, k < L.length ∧ fr ≤ (L.getD k eZ).1 ∧ rawB mk (L.getD k eZ) = true ∧ (∀ j, j < k → fr ≤ (L.getD j eZ).1 → rawB mk (L.getD j eZ) = false) ∧ o = ((L.getD k eZ).1, true)) ∨
  (o = (0, false) ∧ ∀ j, j < L.length → fr ≤ (L.getD j eZ).1 → rawB mk (L.getD j eZ) = false)
set_option maxHeartbeats 4000000 in
theorem nextq_l (H : Int) (s : Value) (x m fr mk : Int) (L : List En) (w : World) (t : TreeL w H s x m L) : Calls Try.prog 14 #[treeI H s x m, .int .i64 fr, .int .i64 mk] w (fun e w' => ∃ o, e = .returned (.tuple #[.int .i64 o.1, .bool o.2]) ∧ NxP mk fr L o ∧ Grew w w') := by
  obtain ⟨a, n, c, rfl⟩ := t.slice
  have HT := Lib.hid t
  have hl := t.len
  have HL := Lib.hid (show L.length ≤ 1000 by omega)
  clear t hl
  go_enter Try.func14, Try.ntmps14
  have G := (Grew.refl w).alloc (.cells #[.int .i64 H, .slice a n c, .int .i64 x, .int .i64 m] 28)
  go_wp2_with fail
  with_reducible refine (entriesq_l H _ _ _ L _ (HT.out.grew G)).mono ?_
  rintro e w1 ⟨v, rfl, R, g1⟩
  replace G := G.trans g1
  obtain ⟨a2, n2, c2, rfl, hn, hc⟩ := RowE.ents R
  have HN := Lib.hid hn
  have HC := Lib.hid hc
  have hn2 : n2 ≤ 1000 := by rw [hn]; exact HL.out
  clear R g1 hn hc
  go_wp2_with fail
  have HG0 := Lib.hid G
  clear G
  go_loopw [9] (fun iv wr => ∃ k : Nat, iv = .int .i64 k ∧ k ≤ n2 ∧ (∀ j, j < k → fr ≤ (L.getD j eZ).1 → rawB mk (L.getD j eZ) = false) ∧ wr = w1) (fun iv _ => n2 - (intOf iv).toNat)
  case atStart => exact ⟨0, rfl, by omega, fun j hj => by omega, rfl⟩
  case round =>
    obtain ⟨k, rfl, hk, hno, rfl⟩ := hrel
    have HNO := Lib.hid hno
    clear hno
    by_cases hlt : k < n2
    · have HK := Lib.hid (show k < L.length by rw [← HN.out]; exact hlt)
      obtain ⟨g, rfl, hg, -, c0, c1, c2⟩ := HC.out k hlt
      obtain ⟨y, hy⟩ : ∃ y, (L.getD k eZ).2.1 = y := ⟨_, rfl⟩
      obtain ⟨z, hz⟩ : ∃ z, (L.getD k eZ).2.2 = z := ⟨_, rfl⟩
      rw [hy] at c1
      rw [hz] at c2
      have HY := Lib.hid hy
      have HZ := Lib.hid hz
      clear hy hz
      obtain ⟨ix, hix⟩ : ∃ z, (L.getD k eZ).1 = z := ⟨_, rfl⟩
      rw [hix] at c0
      have HX := Lib.hid hix
      clear hix
      by_cases h1 : fr ≤ ix
      · by_cases h2 : 0 < y
        · by_cases h3 : mk = 0
          · have HF := Lib.hid (show rawB mk (L.getD k eZ) = true from raw_2 (by rw [HY.out]; exact h2) h3)
            have e3 : (mk == 0) = true := by simpa using h3
            clear h3
            go_wp2
            refine bodyPost_ret (v := .tuple #[.int .i64 ix, .bool true]) (by simp [results, Try.results14, go_sem]) rfl ⟨(ix, true), rfl, .inl ⟨k, HK.out, by rw [HX.out]; exact h1, HF.out, HNO.out, by rw [HX.out]⟩, HG0.out⟩
          · have e3 : (mk == 0) = false := by simpa using h3
            clear h3
            cases hm : markB mk
            · have HF := Lib.hid (show rawB mk (L.getD k eZ) = false from raw_3 e3 hm)
              have HM := Lib.hid hm
              clear hm
              go_wp2_with fail
              with_reducible refine (one_q mk _).mono ?_
              rintro e wq ⟨rfl, rfl⟩
              rw [HM.out]
              go_wp2_with fail
              go_roundw
              case rel =>
                refine ⟨k + 1, by go_num, by omega, fun j hj hf => ?_, by trivial⟩
                by_cases hjk : j = k
                · rw [hjk]; exact HF.out
                · exact HNO.out j (by omega) hf
              case measure => simp [intOf]; omega
            · have HG := Lib.hid (show rawB mk (L.getD k eZ) = !(andI (L.getD k eZ).2.2 mk == 0) from raw_4 (by rw [HY.out]; exact h2) e3 hm)
              have HM := Lib.hid hm
              clear hm
              cases h5 : (bits .and .i64 z mk == 0)
              · have HF := Lib.hid (show rawB mk (L.getD k eZ) = true from by rw [HG.out, HZ.out, show (andI z mk == 0) = false from h5]; rfl)
                have h6 : (bits .and .i64 z mk != 0) = true := by simp [bne, h5]
                go_wp2_with fail
                with_reducible refine (one_q mk _).mono ?_
                rintro e wq ⟨rfl, rfl⟩
                rw [HM.out]
                go_wp2
                refine bodyPost_ret (v := .tuple #[.int .i64 ix, .bool true]) (by simp [results, Try.results14, go_sem]) rfl ⟨(ix, true), rfl, .inl ⟨k, HK.out, by rw [HX.out]; exact h1, HF.out, HNO.out, by rw [HX.out]⟩, HG0.out⟩
              · have HF := Lib.hid (show rawB mk (L.getD k eZ) = false from by rw [HG.out, HZ.out, show (andI z mk == 0) = true from h5]; rfl)
                have h6 : (bits .and .i64 z mk != 0) = false := by simp [bne, h5]
                go_wp2_with fail
                with_reducible refine (one_q mk _).mono ?_
                rintro e wq ⟨rfl, rfl⟩
                rw [HM.out]
                go_wp2_with fail
                go_roundw
                case rel =>
                  refine ⟨k + 1, by go_num, by omega, fun j hj hf => ?_, by trivial⟩
                  by_cases hjk : j = k
                  · rw [hjk]; exact HF.out
                  · exact HNO.out j (by omega) hf
                case measure => simp [intOf]; omega
        · have HF := Lib.hid (show rawB mk (L.getD k eZ) = false from raw_1 (by rw [HY.out]; exact h2))
          go_wp2_with fail
          go_roundw
          case rel =>
            refine ⟨k + 1, by go_num, by omega, fun j hj hf => ?_, by trivial⟩
            by_cases hjk : j = k
            · rw [hjk]; exact HF.out
            · exact HNO.out j (by omega) hf
          case measure => simp [intOf]; omega
      · go_wp2_with fail
        go_roundw
        case rel =>
          refine ⟨k + 1, by go_num, by omega, fun j hj hf => ?_, by trivial⟩
          by_cases hjk : j = k
          · rw [hjk, HX.out] at hf; exact absurd hf h1
          · exact HNO.out j (by omega) hf
        case measure => simp [intOf]; omega
    · have hkn : k = n2 := by omega
      subst hkn
      go_wp2
      refine bodyPost_ret (v := .tuple #[.int .i64 0, .bool false]) (by simp [results, Try.results14, go_sem]) rfl ⟨(0, false), rfl, .inr ⟨rfl, by rw [← HN.out]; exact HNO.out⟩, HG0.out⟩
end Go.Proofs.Ytdlhihllmidfeaa

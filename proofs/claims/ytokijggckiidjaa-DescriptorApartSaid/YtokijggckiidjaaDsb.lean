/- Fork of the reference (layer 18). mkdsb.py writes this text out of dsb.base. -/
import Derived.Test.YtokijggckiidjaaDsa
namespace Go.Mine
open Go Go.RowKit
/-- A table of which i descriptors have been written over. -/
def rowK (A Z : List Int) (i : Nat) : List Int := A.take i ++ Z.drop i
theorem rowK_0 (A Z : List Int) : rowK A Z 0 = Z := by simp [rowK]
theorem rowK_len {A Z : List Int} (h : A.length = 16) (h2 : Z.length = 16) {i : Nat} (hi : i ≤ 16) : (rowK A Z i).length = 16 := by unfold rowK; rw [List.length_append, List.length_take, List.length_drop]; omega
theorem rowK_all {A Z : List Int} (h : A.length = 16) (h2 : Z.length = 16) : rowK A Z 16 = A := by unfold rowK; rw [List.take_of_length_le (by omega), List.drop_eq_nil_of_le (by omega), List.append_nil]
theorem rowK_s {A Z : List Int} (h : A.length = 16) (h2 : Z.length = 16) {i : Nat} (hi : i < 16) : rowK A Z (i + 1) = (rowK A Z i).set i (A.getD i 0) := by
  unfold rowK
  have hA : i < A.length := by omega
  have hZ : i < Z.length := by omega
  have hl : (A.take i).length = i := by rw [List.length_take]; omega
  rw [List.drop_eq_getElem_cons hZ, List.set_append_right _ _ (by omega), hl, Nat.sub_self, List.set_cons_zero, take_getD A i hA (d := 0), List.append_assoc]
  rfl
theorem rowK_at {A Z : List Int} (h : A.length = 16) (_ : Z.length = 16) {i : Nat} (hi : i < 16) : (rowK A Z i).getD i 0 = Z.getD i 0 := by
  unfold rowK
  have hl : (A.take i).length = i := by rw [List.length_take]; omega
  simp only [List.getD]
  rw [List.getElem?_append_right (by omega), hl, Nat.sub_self, List.getElem?_drop, Nat.add_zero]
theorem set_same {L : List Int} {i : Nat} (hi : i < L.length) : L.set i (L.getD i 0) = L := by
  refine List.ext_getElem (by simp) fun k h1 h2 => ?_
  rw [List.getElem_set]
  by_cases e : i = k
  · subst e; rw [if_pos rfl]; exact getD_get hi
  · rw [if_neg e]
/-- What has been forked of i descriptors. -/
def fkP (d : Dd) (a b i : Nat) : Dd := ⟨d.t.set b (rowK (d.t.getD a []) (d.t.getD b []) i), addD d.o ((d.t.getD a []).take i)⟩
theorem fkP_len (d : Dd) (a b i : Nat) : (fkP d a b i).t.length = d.t.length := List.length_set
theorem fkP_0 {d : Dd} {a b : Nat} (hb : b < d.t.length) : fkP d a b 0 = d := by
  unfold fkP
  rw [rowK_0, List.take_zero, addD_nil]
  have : d.t.set b (d.t.getD b []) = d.t := by
    refine List.ext_getElem (by simp) fun k h1 h2 => ?_
    rw [List.getElem_set]
    by_cases e : b = k
    · subst e; rw [if_pos rfl]; exact getD_get hb
    · rw [if_neg e]
  rw [this]
theorem fkP_all {d : Dd} {a b : Nat} (h : OkDd d) (ha : a < d.t.length) (hb : b < d.t.length) : fkP d a b 16 = fkD d a b := by
  unfold fkP fkD
  rw [rowK_all (h.t a ha) (h.t b hb), List.take_of_length_le (by rw [h.t a ha]; exact Nat.le_refl _)]
theorem fkP_row {d : Dd} {a b i : Nat} (hb : b < d.t.length) : (fkP d a b i).t.getD b [] = rowK (d.t.getD a []) (d.t.getD b []) i := by
  show (d.t.set b _).getD b [] = _
  simp [List.getD, hb]
theorem fkP_s {d : Dd} {a b i : Nat} (h : OkDd d) (ha : a < d.t.length) (hb : b < d.t.length) (hi : i < 16) : (fkP d a b (i + 1)).t = setT (fkP d a b i).t b i ((d.t.getD a []).getD i 0) := by
  unfold setT
  rw [fkP_row hb]
  show d.t.set b _ = (d.t.set b _).set b _
  rw [List.set_set, rowK_s (h.t a ha) (h.t b hb) hi]
theorem fkP_o {d : Dd} {a b i : Nat} (h : OkDd d) (ha : a < d.t.length) (hi : i < 16) : (fkP d a b (i + 1)).o = addD d.o ((d.t.getD a []).take i ++ [(d.t.getD a []).getD i 0]) := by
  show addD d.o ((d.t.getD a []).take (i + 1)) = _
  rw [take_getD (d := 0) _ _ (by rw [h.t a ha]; exact hi)]
theorem fkP_z {d : Dd} {a b i : Nat} (h : OkDd d) (ha : a < d.t.length) (hb : b < d.t.length) (hi : i < 16) (hz : (d.t.getD b []).getD i 0 = 0) (h0 : (d.t.getD a []).getD i 0 = 0) : fkP d a b (i + 1) = fkP d a b i := by
  have h1 := fkP_s h ha hb hi
  have h2 := fkP_o (b := b) h ha hi
  rw [h0, addD_0 _ _ (Int.le_refl 0)] at h2
  have h3 : (fkP d a b i).t.getD b [] = rowK (d.t.getD a []) (d.t.getD b []) i := fkP_row hb
  have h4 : ((fkP d a b i).t.getD b []).set i 0 = (fkP d a b i).t.getD b [] := by
    rw [h3]
    have h5 := set_same (L := rowK (d.t.getD a []) (d.t.getD b []) i) (i := i) (by rw [rowK_len (h.t a ha) (h.t b hb) (by omega)]; exact hi)
    rw [rowK_at (h.t a ha) (h.t b hb) hi, hz] at h5
    exact h5
  have h6 : setT (fkP d a b i).t b i 0 = (fkP d a b i).t := by
    unfold setT
    rw [h4]
    refine List.ext_getElem (by simp) fun k h1 h2 => ?_
    rw [List.getElem_set]
    by_cases e : b = k
    · subst e; rw [if_pos rfl]; exact getD_get (by rw [fkP_len]; exact hb)
    · rw [if_neg e]
  rw [h0, h6] at h1
  show (⟨(fkP d a b (i + 1)).t, (fkP d a b (i + 1)).o⟩ : Dd) = ⟨(fkP d a b i).t, (fkP d a b i).o⟩
  rw [h1, h2]
  rfl
theorem fkP_k {d : Dd} {a b i k : Nat} (h : OkDd d) (ha : a < d.t.length) (hb : b < d.t.length) (hi : i < 16) (h0 : (d.t.getD a []).getD i 0 = (k : Int) + 1) : fkP d a b (i + 1) = ⟨setT (fkP d a b i).t b i ((k : Int) + 1), (fkP d a b i).o.set k { (fkP d a b i).o.getD k zDs with r := ((fkP d a b i).o.getD k zDs).r + 1 }⟩ := by
  have h1 := fkP_s h ha hb hi
  have h2 := fkP_o (b := b) h ha hi
  rw [h0, addD_s] at h2
  rw [h0] at h1
  show (⟨(fkP d a b (i + 1)).t, (fkP d a b (i + 1)).o⟩ : Dd) = _
  rw [h1, h2]
  rfl
theorem fkP_r {d : Dd} {a b i k : Nat} (hk : k < d.o.length) : ((fkP d a b i).o.getD k zDs).r = (d.o.getD k zDs).r + cntD ((d.t.getD a []).take i) k := by
  show ((addD d.o _).getD k zDs).r = _
  rw [addD_at hk]
end Go.Mine
namespace Go.Proofs.Ytokijggckiidjaa
open Go.ChangeShapes Go.WideShapes Go.ChangeAt Go.RowKit Go.Mine
set_option maxHeartbeats 16000000 in
theorem fork_q {pp : Nat → Prop} {a b : Value} {d : Dd} {p q : Int} {x : Dd × Int} {w : World} (h0 : DdP w pp a b d) (ho : d.o.length ≤ 1000) (ht : d.t.length ≤ 1000) (hx : frkD d p q = x) :
    Calls Try.prog 16 #[.agg #[a, b], .int .i64 p, .int .i64 q] w (RetDE pp x w) := by
  have HP := Lib.hid h0
  have h := h0.rd
  clear h0
  obtain ⟨a1, ca, rfl, -, -⟩ := h.o.slice
  obtain ⟨b1, cb, rfl, -, -⟩ := h.t.slice
  obtain ⟨m, hm⟩ : ∃ m, d.o.length = m := ⟨_, rfl⟩
  obtain ⟨N, hN⟩ : ∃ N, d.t.length = N := ⟨_, rfl⟩
  have HM := Lib.hid hm
  have HN := Lib.hid hN
  have HX := Lib.hid hx
  have HH := Lib.hid h
  rw [hm] at h ho ⊢
  rw [hN] at h ht ⊢
  have W0 := BxD.start w 29 _ _ h
  have HW := Lib.hid W0
  obtain ⟨x0, x1, x2, x3⟩ := W0.dbox.two
  obtain ⟨bb, hb⟩ : ∃ bb, okD d = bb := ⟨_, rfl⟩
  have HC := Lib.hid (check_q W0.dd (by rw [HM.out]; exact ho) (by rw [HN.out]; exact ht) hb)
  have HB := Lib.hid hb
  clear hx hm hN h W0 hb
  go_enter Try.func16, Try.ntmps16
  go_wp2_with fail
  with_reducible refine HC.out.mono ?_
  rintro e9 w1 ⟨rfl, g1⟩
  clear x0 x1 x2 x3
  replace HW := Lib.hid (HW.out.grew g1)
  obtain ⟨x0, x1, x2, x3⟩ := HW.out.dbox.two
  obtain ⟨r0, r1, r2, r3⟩ := HW.out.res.two
  clear HC g1
  cases bb
  · have HE : Hid (x = (d, 1)) := Lib.hid (HX.out.symm.trans (frkD_1 HB.out))
    go_wp2
    generalize hw : World.setCell (World.setCell _ _ _) _ _ = E
    obtain ⟨RR, GG⟩ := HW.out.ret hw
    obtain ⟨k0, k1, -, -⟩ := RR.two
    refine bodyPost_ret (v := .tuple #[.agg #[.slice a1 m ca, .slice b1 N cb], .int .i64 1]) (by simp [results, Try.results16, go_sem, k0, k1]) rfl ?_
    exact ⟨_, _, by rw [HE.out], by rw [HE.out]; have hq := HP.out.keep GG; rw [HM.out, HN.out] at hq; exact hq, GG⟩
  by_cases p0 : p < 0
  · have HE : Hid (x = (d, 2)) := Lib.hid (HX.out.symm.trans (frkD_2 HB.out (by omega)))
    go_wp2
    generalize hw : World.setCell (World.setCell _ _ _) _ _ = E
    obtain ⟨RR, GG⟩ := HW.out.ret hw
    obtain ⟨k0, k1, -, -⟩ := RR.two
    refine bodyPost_ret (v := .tuple #[.agg #[.slice a1 m ca, .slice b1 N cb], .int .i64 2]) (by simp [results, Try.results16, go_sem, k0, k1]) rfl ?_
    exact ⟨_, _, by rw [HE.out], by rw [HE.out]; have hq := HP.out.keep GG; rw [HM.out, HN.out] at hq; exact hq, GG⟩
  by_cases p1 : (N : Int) ≤ p
  · have HE : Hid (x = (d, 2)) := Lib.hid (HX.out.symm.trans (frkD_2 HB.out (by rw [HN.out]; omega)))
    go_wp2
    generalize hw : World.setCell (World.setCell _ _ _) _ _ = E
    obtain ⟨RR, GG⟩ := HW.out.ret hw
    obtain ⟨k0, k1, -, -⟩ := RR.two
    refine bodyPost_ret (v := .tuple #[.agg #[.slice a1 m ca, .slice b1 N cb], .int .i64 2]) (by simp [results, Try.results16, go_sem, k0, k1]) rfl ?_
    exact ⟨_, _, by rw [HE.out], by rw [HE.out]; have hq := HP.out.keep GG; rw [HM.out, HN.out] at hq; exact hq, GG⟩
  obtain ⟨pn, rfl⟩ : ∃ n : Nat, p = n := ⟨p.toNat, by omega⟩
  have hpN : pn < N := by omega
  have p2 : decide ((N : Int) ≤ (pn : Int)) = false := decide_eq_false (by omega)
  have p6 : decide ((pn : Int) < 0) = false := decide_eq_false (by omega)
  have p3 : decide (N ≤ pn) = false := decide_eq_false (by omega)
  have p4 : (pn : Int) < (N : Int) := by omega
  have p5 : (0 : Int) ≤ (pn : Int) := by omega
  have hpt : pn < d.t.length := by rw [HN.out]; exact hpN
  clear p0 p1
  by_cases q0 : q < 0
  · have HE : Hid (x = (d, 2)) := Lib.hid (HX.out.symm.trans (frkD_2 HB.out (by omega)))
    go_wp2
    generalize hw : World.setCell (World.setCell _ _ _) _ _ = E
    obtain ⟨RR, GG⟩ := HW.out.ret hw
    obtain ⟨k0, k1, -, -⟩ := RR.two
    refine bodyPost_ret (v := .tuple #[.agg #[.slice a1 m ca, .slice b1 N cb], .int .i64 2]) (by simp [results, Try.results16, go_sem, k0, k1]) rfl ?_
    exact ⟨_, _, by rw [HE.out], by rw [HE.out]; have hq := HP.out.keep GG; rw [HM.out, HN.out] at hq; exact hq, GG⟩
  by_cases q1 : (N : Int) ≤ q
  · have HE : Hid (x = (d, 2)) := Lib.hid (HX.out.symm.trans (frkD_2 HB.out (by rw [HN.out]; omega)))
    go_wp2
    generalize hw : World.setCell (World.setCell _ _ _) _ _ = E
    obtain ⟨RR, GG⟩ := HW.out.ret hw
    obtain ⟨k0, k1, -, -⟩ := RR.two
    refine bodyPost_ret (v := .tuple #[.agg #[.slice a1 m ca, .slice b1 N cb], .int .i64 2]) (by simp [results, Try.results16, go_sem, k0, k1]) rfl ?_
    exact ⟨_, _, by rw [HE.out], by rw [HE.out]; have hq := HP.out.keep GG; rw [HM.out, HN.out] at hq; exact hq, GG⟩
  obtain ⟨qn, rfl⟩ : ∃ n : Nat, q = n := ⟨q.toNat, by omega⟩
  have hqN : qn < N := by omega
  have q2 : decide ((N : Int) ≤ (qn : Int)) = false := decide_eq_false (by omega)
  have q6 : decide ((qn : Int) < 0) = false := decide_eq_false (by omega)
  have q3 : decide (N ≤ qn) = false := decide_eq_false (by omega)
  have q4 : (qn : Int) < (N : Int) := by omega
  have q5 : (0 : Int) ≤ (qn : Int) := by omega
  have hqt : qn < d.t.length := by rw [HN.out]; exact hqN
  clear q0 q1
  by_cases hpq : pn = qn
  · subst hpq
    have HE : Hid (x = (d, 2)) := Lib.hid (HX.out.symm.trans (frkD_2 HB.out (fun h => h.2.2 rfl)))
    go_wp2
    generalize hw : World.setCell (World.setCell _ _ _) _ _ = E
    obtain ⟨RR, GG⟩ := HW.out.ret hw
    obtain ⟨k0, k1, -, -⟩ := RR.two
    refine bodyPost_ret (v := .tuple #[.agg #[.slice a1 m ca, .slice b1 N cb], .int .i64 2]) (by simp [results, Try.results16, go_sem, k0, k1]) rfl ?_
    exact ⟨_, _, by rw [HE.out], by rw [HE.out]; have hq := HP.out.keep GG; rw [HM.out, HN.out] at hq; exact hq, GG⟩
  have e1 : decide (pn = qn) = false := decide_eq_false hpq
  have e2 : ((pn : Int) == (qn : Int)) = false := by simp; omega
  have HPQ := Lib.hid hpq
  have HOK := Lib.hid (okD_iff.1 HB.out)
  have h8 := HOK.out.t8
  clear hpq
  go_wp2_with fail
  go_loopw [8] (fun iv wr => ∃ i : Nat, iv = .int .i64 i ∧ i ≤ 16 ∧ Hid (∀ j, j < i → (d.t.getD qn []).getD j 0 = 0) ∧ Hid (w1 = wr)) (fun iv _ => 16 - (intOf iv).toNat)
  case atStart => exact ⟨0, rfl, Nat.zero_le _, Lib.hid (fun j hj => by omega), Lib.hid rfl⟩
  case round =>
    obtain ⟨i, rfl, hi, HZ, HE1⟩ := hrel
    obtain rfl := HE1.out
    by_cases hlt : i < 16
    · have hi0 : (0 : Int) ≤ (i : Int) := by omega
      have hi1 : (i : Int) < 16 := by omega
      obtain ⟨g, o, ta, tc, rfl, -, hg, hc, RT⟩ := HW.out.dd.t.at_ (k := qn) hqt
      obtain ⟨g2, o2, rfl, -, hg2, hc2⟩ := RT.atI (k := i) (by rw [HOK.out.t qn hqt]; exact hlt)
      rw [HOK.out.t qn hqt] at hc
      obtain ⟨n, hn⟩ : ∃ n, (d.t.getD qn []).getD i 0 = n := ⟨_, rfl⟩
      rw [hn] at hc2
      have HNV := Lib.hid hn
      clear RT hn
      by_cases hz : n = 0
      · subst hz
        have HZ2 : Hid (∀ j, j < i + 1 → (d.t.getD qn []).getD j 0 = 0) := Lib.hid (fun j hj => by
          by_cases e : j = i
          · rw [e]; exact HNV.out
          · exact HZ.out j (by omega))
        go_wp2_with fail
        go_roundw
        case rel => exact ⟨i + 1, by go_num, by omega, HZ2, Lib.hid (by first | rfl | trivial)⟩
        case measure => simp [intOf] <;> omega
      · have HE : Hid (x = (d, 5)) := Lib.hid (HX.out.symm.trans (frkD_5 HB.out hpt hqt HPQ.out (fun h => hz (HNV.out.symm.trans (h i hlt)))))
        have hz1 : (n != 0) = true := by simpa using hz
        have hz2 : (n == 0) = false := by simpa using hz
        clear hz
        go_wp2
        generalize hw : World.setCell (World.setCell _ _ _) _ _ = E
        obtain ⟨RR, GG⟩ := HW.out.ret hw
        obtain ⟨k0, k1, -, -⟩ := RR.two
        refine bodyPost_ret (v := .tuple #[.agg #[.slice a1 m ca, .slice (some ⟨g, o, none⟩) N cb], .int .i64 5]) (by simp [results, Try.results16, go_sem, k0, k1]) rfl ?_
        exact ⟨_, _, by rw [HE.out], by rw [HE.out]; have hq := HP.out.keep GG; rw [HM.out, HN.out] at hq; exact hq, GG⟩
    · obtain rfl : i = 16 := by omega
      rw [show ((16 : Nat) : Int) = 16 from rfl]
      have HE : Hid (x = (fkD d pn qn, 0)) := Lib.hid (HX.out.symm.trans (frkD_0 HB.out hpt hqt HPQ.out HZ.out))
      have HHd := HW.out.dd
      have HCP := Lib.hid (copied_q HHd (by rw [HM.out]; exact ho) (by rw [HN.out]; exact ht) HOK.out.t)
      obtain ⟨w3, hw3⟩ : ∃ w3 : World, w1 = w3 := ⟨_, rfl⟩
      subst hw3
      clear HHd r0 r1 r2 r3 hi hlt
      go_wp2_with fail
      with_reducible refine HCP.out.mono ?_
      rintro e9 w4 ⟨a2, b2, G, C, rfl, K, g4⟩
      obtain ⟨a3, c3, rfl⟩ := K.o.len
      obtain ⟨b3, c4, rfl⟩ := K.t.slice
      have HU := Lib.hid (OuW.start HW.out.res HW.out.g HW.out.lo K g4)
      have HDB := Lib.hid ((HW.out.dbox.grew g4).alloc (.cells #[.slice a3 d.o.length c3, .slice b3 d.t.length c4] 29))
      rw [HM.out, HN.out] at HU HDB ⊢
      clear K g4 x0 x1 x2 x3 HW HCP
      go_upto_region 11 with fail
      generalize w1.heap.size = B3 at HU
      generalize w4.alloc _ = w5 at *
      generalize w4.heap.size = go at *
      have hB3 := HU.out.lo
      rw [← fkP_0 (d := d) (a := pn) hqt] at HU
      go_wp2_with fail
      go_loopw [10] (fun iv wr => ∃ i : Nat, iv = .int .i64 i ∧ i ≤ 16 ∧ Hid (Mine.Own wr w.heap.size 29 #[.slice a1 m ca, .slice b1 N cb]) ∧ Hid (OuW w 29 34 22 3 B3 go (.slice a3 m c3) (.slice b3 N c4) (.slice none 0 0) (.slice none 0 0) G C (fkP d pn qn i) wr)) (fun iv _ => 16 - (intOf iv).toNat)
      case atStart => exact ⟨0, rfl, Nat.zero_le _, HDB, HU⟩
      case round =>
        clear HU HDB
        obtain ⟨i, rfl, hi, HDB, HU⟩ := hrel
        obtain ⟨wo, rfl⟩ : ∃ wo : World, wo = wr := ⟨_, rfl⟩
        by_cases hlt : i < 16
        · have hi0 : (0 : Int) ≤ (i : Int) := by omega
          have hi1 : (i : Int) < 16 := by omega
          have HIL := Lib.hid hlt
          obtain ⟨x0, x1, x2, x3⟩ := HDB.out.two
          have hDD := HH.out.grew HU.out.g
          rw [HM.out, HN.out] at hDD
          obtain ⟨g, o, ta, tc, rfl, -, hg, hc, RT⟩ := hDD.t.at_ (k := pn) hpt
          obtain ⟨g2, o2, rfl, -, hg2, hc2⟩ := RT.atI (k := i) (by rw [HOK.out.t pn hpt]; exact hlt)
          rw [HOK.out.t pn hpt] at hc
          have hnn := HOK.out.n pn hpt i hlt
          obtain ⟨n, hn⟩ : ∃ n, (d.t.getD pn []).getD i 0 = n := ⟨_, rfl⟩
          rw [hn] at hc2 hnn
          have HNV := Lib.hid hn
          have HOI := Lib.hid hnn
          clear RT hn hDD
          by_cases hz : n = 0
          · subst hz
            have hFK := fkP_z HOK.out hpt hqt hlt (HZ.out i hlt) HNV.out
            have HU2 := HU
            rw [← hFK] at HU2
            clear hFK hnn
            go_wp2_with fail
            go_roundw
            case rel => exact ⟨i + 1, by go_num, by omega, HDB, HU2⟩
            case measure => simp [intOf] <;> omega
          · obtain ⟨k, rfl⟩ : ∃ k : Nat, n = (k : Int) + 1 := ⟨(n - 1).toNat, by omega⟩
            have hko : k < d.o.length := by omega
            have hkm : k < m := by rw [← HM.out]; exact hko
            have hk5 : (0 : Int) ≤ (k : Int) := by omega
            have hk4 : (k : Int) < (m : Int) := by omega
            have hk1 : (0 : Int) < (k : Int) + 1 := by omega
            have wk : IntKind.i64.wrap ((k : Int) + 1 - 1) = (k : Int) := by rw [IntWalk.i64_in _ (by omega)]; omega
            clear hnn hz
            go_upto_region 16 with fail
            clear x0 x1 x2 x3 hc hc2
            obtain ⟨x0, x1, x2, x3⟩ := HU.out.box.two
            have hqt' : qn < (fkP d pn qn i).t.length := by rw [fkP_len]; exact hqt
            have hrow : ((fkP d pn qn i).t.getD qn []).length = 16 := by rw [fkP_row hqt]; exact rowK_len (HOK.out.t pn hpt) (HOK.out.t qn hqt) hi
            obtain ⟨gv, rfl, -, hgv, d0, -⟩ := HU.out.k.t.at_ (k := qn) hqt'
            obtain ⟨e0, ef, -, hgp⟩ := HU.out.k.t.in_ (k := qn) (i := i) hqt' (by rw [hrow]; exact hlt)
            rw [hrow] at d0
            have HQT := Lib.hid hqt'
            generalize ((fkP d pn qn i).t.getD qn []).getD i 0 = y at e0
            clear hrow hqt'
            go_upto_region 17 with fail
            have hab := (HU.out.k.t.above HQT.out).1
            have HDB2 := Lib.hid (HDB.out.far (p := ⟨G qn, i, none⟩) (show w.heap.size ≠ G qn by omega) (.int .i64 ((k : Int) + 1)))
            have HU2 := Lib.hid (HU.out.storeT (p := qn) HQT.out i ((k : Int) + 1))
            clear hab
            generalize World.setCell wo _ _ = w6 at *
            clear x0 x1 x2 x3 d0 e0 ef
            obtain ⟨x0, x1, x2, x3⟩ := HU2.out.box.two
            have hko2 : k < (fkP d pn qn i).o.length := by show k < (addD _ _).length; rw [addD_len]; exact hko
            obtain ⟨ga, rfl, -, hga, -, -, -, -, c4', cf⟩ := HU2.out.k.atO (k := k) hko2
            have cf4 := cf (k * 5 + 4)
            dsimp only at c4'
            have hrr := fkP_r (d := d) (a := pn) (b := qn) (i := i) hko
            have hrb : (d.o.getD k zDs).r ≤ 128 := by
              have h1 := (HOK.out.r k hko).1
              have h2 := cntD_le d.t.flatten k
              rw [flat_len HOK.out.t] at h2
              omega
            have hrb0 : 0 ≤ (d.o.getD k zDs).r := by have h1 := (HOK.out.r k hko).1; omega
            have hcb : cntD ((d.t.getD pn []).take i) k ≤ 16 := Nat.le_trans (cntD_le _ _) (by rw [List.length_take]; omega)
            obtain ⟨r, hr⟩ : ∃ r, ((fkP d pn qn i).o.getD k zDs).r = r := ⟨_, rfl⟩
            have HRV := Lib.hid hr
            rw [hr] at c4' hrr
            have hr1 : 0 ≤ r := by omega
            have hr2 : r ≤ 1000 := by omega
            have wr1 : IntKind.i64.wrap (r + 1) = r + 1 := IntWalk.i64_in _ (by omega)
            have HK2 := Lib.hid hko2
            clear cf hr hrr hrb hrb0 hcb hko2
            go_upto_region 13 with fail
            have hab := HU2.out.k.o.above ga rfl
            have HDB3 := Lib.hid (HDB2.out.far (p := ⟨ga, k * 5 + 4, none⟩) (show w.heap.size ≠ ga by omega) (.int .i64 (r + 1)))
            have HU3 := Lib.hid (HU2.out.storeO (k := k) (j := 4) HK2.out (by omega) (x := .int .i64 (r + 1)) (y := { (fkP d pn qn i).o.getD k zDs with r := ((fkP d pn qn i).o.getD k zDs).r + 1 }) (by rw [← HRV.out]; rfl))
            clear hab
            generalize World.setCell w6 _ _ = w7 at *
            have hFK := fkP_k HOK.out hpt hqt HIL.out HNV.out
            dsimp only at HU3
            rw [← hFK] at HU3
            clear hFK x0 x1 x2 x3 c4' cf4
            go_wp2_with fail
            go_roundw
            case rel => exact ⟨i + 1, by go_num, by omega, HDB3, HU3⟩
            case measure => simp [intOf] <;> omega
        · obtain rfl : i = 16 := by omega
          have HF16 := Lib.hid (fkP_all HOK.out hpt hqt)
          rw [HF16.out] at HU
          rw [show ((16 : Nat) : Int) = 16 from rfl]
          obtain ⟨x0, x1, x2, x3⟩ := HU.out.box.two
          obtain ⟨r0, r1, r2, r3⟩ := HU.out.res.two
          go_wp2
          generalize hw : World.setCell (World.setCell _ _ _) _ _ = E
          obtain ⟨RR, GG, DD⟩ := HU.out.ret hw
          obtain ⟨k0, k1, -, -⟩ := RR.two
          refine bodyPost_ret (v := .tuple #[.agg #[.slice a3 m c3, .slice b3 N c4], .int .i64 0]) (by simp [results, Try.results16, go_sem, k0, k1]) rfl ?_
          exact ⟨_, _, by rw [HE.out], by rw [HE.out]; exact DD.own, GG⟩
end Go.Proofs.Ytokijggckiidjaa

/- Page tables (layer 17): Protect, Young, Enter of the answer. -/
import Derived.Test.YtjkkhfionmdmpaaPq1
namespace Go.Mine
open Go Go.RowKit
/-- How far entering has come: nothing is placed yet, or the entry is. -/
def EnT (L : List Pt) (e : Pt) (i : Nat) : Bool → List Pt → Prop
  | false, M => M = L.take i ∧ ∀ j, j < i → ltT (L.getD j zT) e = true
  | true, M => M = insT (L.take i) e ∧ ∃ j, j < i ∧ ltT (L.getD j zT) e = false
theorem EnT.len {L : List Pt} {e : Pt} {i : Nat} {b : Bool} {M : List Pt} (h : EnT L e i b M) : M.length ≤ i + 1 := by
  have ht : (L.take i).length ≤ i := by rw [List.length_take]; omega
  cases b
  · rw [h.1]; omega
  · rw [h.1]
    have := @insT_le (L.take i) e
    omega
theorem take_allT {L : List Pt} {e : Pt} {i : Nat} (hi : i ≤ L.length) (h : ∀ j, j < i → ltT (L.getD j zT) e = true) : ∀ x ∈ L.take i, ltT x e = true := fun x hx => by
  obtain ⟨j, hj, rfl⟩ := List.mem_iff_getElem.1 hx
  rw [List.length_take] at hj
  rw [List.getElem_take, ← tD (by omega)]
  exact h j (by omega)
theorem EnT.a1 {L : List Pt} {e : Pt} {i : Nat} {M : List Pt} (h : EnT L e i false M) (hi : i < L.length) (hl : ltT (L.getD i zT) e = true) : EnT L e (i + 1) false (M ++ [L.getD i zT]) := by
  refine ⟨by rw [h.1, take_succT hi], fun j hj => ?_⟩
  by_cases k : j = i
  · rw [k]; exact hl
  · exact h.2 j (by omega)
theorem EnT.a2 {L : List Pt} {e : Pt} {i : Nat} {M : List Pt} (h : EnT L e i false M) (hi : i < L.length) (hl : ltT (L.getD i zT) e = false) (hk : ltT e (L.getD i zT) = true) : EnT L e (i + 1) true (M ++ [e] ++ [L.getD i zT]) := by
  refine ⟨?_, i, Nat.lt_succ_self _, hl⟩
  rw [h.1, take_succT hi, insT_lt (take_allT (Nat.le_of_lt hi) h.2), insT_2 hl hk, List.append_assoc]; rfl
theorem EnT.a3 {L : List Pt} {e : Pt} {i : Nat} {M : List Pt} (h : EnT L e i false M) (hi : i < L.length) (hl : ltT (L.getD i zT) e = false) (hk : ltT e (L.getD i zT) = false) : EnT L e (i + 1) true (M ++ [e]) := by
  refine ⟨?_, i, Nat.lt_succ_self _, hl⟩
  rw [h.1, take_succT hi, insT_lt (take_allT (Nat.le_of_lt hi) h.2), insT_3 hl hk]
theorem EnT.b0 {L : List Pt} {e : Pt} {i : Nat} {M : List Pt} (h : EnT L e i true M) (hi : i < L.length) (hok : okT L = true) : ltT (L.getD i zT) e = false ∧ ltT e (L.getD i zT) = true := by
  obtain ⟨-, j, hj, hl⟩ := h
  have h1 := okT_lt hok hj hi
  rw [ltT_no] at hl ⊢
  rw [ltT_iff] at h1 ⊢
  omega
theorem EnT.b1 {L : List Pt} {e : Pt} {i : Nat} {M : List Pt} (h : EnT L e i true M) (hi : i < L.length) : EnT L e (i + 1) true (M ++ [L.getD i zT]) := by
  obtain ⟨h1, j, hj, hl⟩ := h
  refine ⟨?_, j, by omega, hl⟩
  rw [h1, take_succT hi, insT_snoc ⟨L.getD j zT, ?_, hl⟩]
  have hjl : j < (L.take i).length := by rw [List.length_take]; omega
  have := List.getElem_mem hjl
  rw [List.getElem_take] at this
  rw [tD (by omega)]
  exact this
theorem EnT.end0 {L : List Pt} {e : Pt} {M : List Pt} (h : EnT L e L.length false M) : M ++ [e] = insT L e := by
  have := insT_lt (B := []) (fun x hx => take_allT (Nat.le_refl _) h.2 x (by rw [List.take_length]; exact hx))
  rw [List.append_nil] at this
  rw [this, h.1, List.take_length]; rfl
theorem EnT.end1 {L : List Pt} {e : Pt} {M : List Pt} (h : EnT L e L.length true M) : M = insT L e := by rw [h.1, List.take_length]
end Go.Mine
namespace Go.Proofs.Ytjkkhfionmdmpaa
open Go.RowKit Go.Mine

set_option maxHeartbeats 4000000 in
theorem protect_q {B : Nat} {v : Value} {L : List Pt} {f : Int} {w : World} (h : RdS 5 encT w B v L) (hB : B ≤ w.heap.size) (hl : L.length ≤ 1000) : Calls Try.prog 26 #[v, .int .i64 f] w (RetPq B (prtT L f) w) := by
  have HH := Lib.hid h
  have HB := Lib.hid hB
  clear h hB
  cases h1 : okT L
  · have H1 := Lib.hid h1
    have HE := Lib.hid (prtT_0 (f := f) h1)
    clear h1
    go_enter Try.func26, Try.ntmps26
    go_wp2_with fail
    with_reducible refine (check_q HH.out hl H1.out).mono ?_
    rintro e9 w1 ⟨rfl, g1⟩
    go_wp2
    go_ret
    exact ⟨_, rfl, by rw [HE.out]; exact HH.out.grew g1, g1⟩
  · have H1 := Lib.hid h1
    obtain ⟨a0, c0, rfl, -, -⟩ := HH.out.slice
    have HC := Lib.hid (check_q HH.out hl H1.out)
    have hl2 := hl
    obtain ⟨n, hn⟩ : ∃ n, L.length = n := ⟨_, rfl⟩
    have HN := Lib.hid hn
    rw [hn] at HH HC hl ⊢
    clear hn h1
    go_enter Try.func26, Try.ntmps26
    go_wp2_with fail
    with_reducible refine HC.out.mono ?_
    rintro e9 w1 ⟨rfl, g1⟩
    have HG1 := Lib.hid g1
    have hs1 := g1.size
    have hx6 : ([] : List Pt).length + L.length < 1000000 := by simp; omega
    have HL1 := Lib.hid ((HH.out.grew g1).lies encT_len).2.2
    clear g1 HC
    go_upto_region 4 with (at_builtin; go_loud (refine wpList_append_src _ rfl (.const (.slice none 0 0)) (.tmp 11) 26 rfl w.heap.size info_pt Try.underlying26 (by decide) (by decide) encT_len (fun z => encT_one) (.slice none 0 0) [] rfl (RowE.nil _ _) _ _ _ L rfl HN.out.symm HL1.out hx6 (by decide) hs1 ?_; intro v2 w2 R2 G2 o2; have HR2 := Lib.hid (show RowE 30 5 encT w2 w.heap.size v2 L from R2); have HG2 := Lib.hid (HG1.out.trans (below_of_grown (show w1.grownBy w2 none from G2))); clear R2 G2 o2))
    obtain ⟨ra, q2, rc, rfl⟩ : ∃ a q c, v2 = Value.slice a q c := by obtain ⟨a, c, e⟩ := HR2.out.len; exact ⟨a, _, c, e⟩
    obtain rfl : q2 = n := HR2.out.nT.trans HN.out
    clear HG1 HL1 hx6 hs1
    go_wp2_with fail
    go_loopw [6] (fun iv wr => ∃ (i : Nat), iv = .int .i64 i ∧ i ≤ q2 ∧ RowE 30 5 encT wr w.heap.size (.slice ra q2 rc) (mixT (prX f) L i) ∧ Grew w wr) (fun iv _ => q2 - (intOf iv).toNat)
    case atStart => exact ⟨0, rfl, by omega, HR2.out, HG2.out⟩
    case round =>
      clear HR2 HG2
      obtain ⟨i, rfl, hi, R, G⟩ := hrel
      obtain ⟨wo, rfl⟩ : ∃ wo : World, wo = wr := ⟨_, rfl⟩
      by_cases hlt : i < q2
      · have hiL : i < L.length := by rw [HN.out]; exact hlt
        have hML : (mixT (prX f) L i).length = L.length := mixT_len _ _ _
        have HD := Lib.hid (mixT_get (g := prX f) (Nat.le_refl i) hiL)
        have HS := Lib.hid (mixT_step (g := prX f) hiL)
        have HK := Lib.hid (fun h => mixT_skip (g := prX f) hiL h)
        obtain ⟨M, hM⟩ : ∃ M, mixT (prX f) L i = M := ⟨_, rfl⟩
        rw [hM] at hML HD HS HK R
        have hiM : i < M.length := by rw [hML]; exact hiL
        obtain ⟨g, o, e7, -, hg, c0, c1, c2, c3, c4⟩ := (RowE.rdS encT_len R).atT hiM
        have hMd := HD.out
        rcases R.shape encT_len with ⟨e5, -⟩ | ⟨gs, caps, e5, hBg, -, -, -, -, hfr⟩
        · injection e5 with e5 e8 e9
          rw [e5] at e7
          exact absurd e7 (by simp)
        injection e5 with e5 e4 e3
        subst e5
        injection e7 with e7
        injection e7 with e7 e6
        subst e7 e6
        obtain ⟨d, hd⟩ : ∃ d, L.getD i zT = d := ⟨_, rfl⟩
        rw [show M.getD i (⟨0, 0, 0, false, false⟩ : Pt) = d from hMd.trans hd] at c0 c1 c2 c3 c4
        rw [hd] at HS HK HD
        have HDD := Lib.hid hd
        rw [Nat.zero_add] at c0 c1 c2 c3 c4
        have hi0 : (0 : Int) ≤ (i : Int) := by omega
        have hi1 : (i : Int) < (q2 : Int) := by omega
        have f0 := hfr (i * 5 + 3)
        have HR := Lib.hid R
        have HG := Lib.hid G
        clear R G hM hfr hMd hd e4 e3 hML
        by_cases q1 : d.f = f
        · have e1 : (d.f == f) = true := by simp [q1]
          have HP := Lib.hid (prX_hit q1)
          have HRE := Lib.hid (HR.out.put1T hiM 3 (by decide) (.bool false) (prX f d) (by rw [HD.out, HP.out]; rfl))
          have HGE := Lib.hid (HG.out.set (p := ⟨gs, i * 5 + 3, none⟩) hBg (.bool false))
          clear q1 HK
          go_wp2
          exact ⟨⟨i + 1, by go_num, by omega, by rw [HS.out]; exact HRE.out, HGE.out⟩, by simp [intOf] <;> omega⟩
        · have e1 : (d.f == f) = false := by simp [q1]
          have HS2 := Lib.hid (HK.out (prX_miss q1))
          clear q1 HK
          go_wp2
          exact ⟨⟨i + 1, by go_num, by omega, by rw [HS2.out]; exact HR.out, HG.out⟩, by simp [intOf] <;> omega⟩
      · obtain rfl : i = q2 := by omega
        have HE : Hid (mixT (prX f) L i = prtT L f) := Lib.hid (by rw [← HN.out, mixT_all, prtT_1 H1.out])
        have HR := Lib.hid R
        clear R
        go_wp2
        go_ret
        exact ⟨_, rfl, by rw [← HE.out]; exact (RowE.rdS encT_len HR.out).wider HB.out, G⟩
set_option maxHeartbeats 4000000 in
theorem young_q {B : Nat} {v : Value} {L : List Pt} {f : Int} {w : World} (h : RdS 5 encT w B v L) (hB : B ≤ w.heap.size) (hl : L.length ≤ 1000) : Calls Try.prog 15 #[v, .int .i64 f] w (RetPtB B (yngT L f) w) := by
  have HH := Lib.hid h
  have HB := Lib.hid hB
  clear h hB
  cases h1 : okT L
  · have H1 := Lib.hid h1
    have HE := Lib.hid (yngT_0 (f := f) h1)
    clear h1
    go_enter Try.func15, Try.ntmps15
    go_wp2_with fail
    with_reducible refine (check_q HH.out hl H1.out).mono ?_
    rintro e9 w1 ⟨rfl, g1⟩
    obtain ⟨a0, c0, rfl, -, -⟩ := HH.out.slice
    go_wp2
    refine bodyPost_ret (v := .tuple #[.slice a0 L.length c0, .bool false]) (by simp [results, Try.results15, go_sem]) rfl ?_
    exact ⟨_, by rw [HE.out], by rw [HE.out]; exact HH.out.grew g1, g1⟩
  · have H1 := Lib.hid h1
    obtain ⟨a0, c0, rfl, -, -⟩ := HH.out.slice
    have HC := Lib.hid (check_q HH.out hl H1.out)
    have hl2 := hl
    obtain ⟨n, hn⟩ : ∃ n, L.length = n := ⟨_, rfl⟩
    have HN := Lib.hid hn
    rw [hn] at HH HC hl ⊢
    clear hn h1
    go_enter Try.func15, Try.ntmps15
    go_wp2_with fail
    with_reducible refine HC.out.mono ?_
    rintro e9 w1 ⟨rfl, g1⟩
    have HG1 := Lib.hid g1
    have hs1 := g1.size
    have hx6 : ([] : List Pt).length + L.length < 1000000 := by simp; omega
    have HL1 := Lib.hid ((HH.out.grew g1).lies encT_len).2.2
    clear g1 HC
    go_upto_region 5 with (at_builtin; go_loud (refine wpList_append_src _ rfl (.const (.slice none 0 0)) (.tmp 13) 26 rfl w.heap.size info_pt Try.underlying26 (by decide) (by decide) encT_len (fun z => encT_one) (.slice none 0 0) [] rfl (RowE.nil _ _) _ _ _ L rfl HN.out.symm HL1.out hx6 (by decide) hs1 ?_; intro v2 w2 R2 G2 o2; have HR2 := Lib.hid (show RowE 30 5 encT w2 w.heap.size v2 L from R2); have HG2 := Lib.hid (HG1.out.trans (below_of_grown (show w1.grownBy w2 none from G2))); clear R2 G2 o2))
    obtain ⟨ra, q2, rc, rfl⟩ : ∃ a q c, v2 = Value.slice a q c := by obtain ⟨a, c, e⟩ := HR2.out.len; exact ⟨a, _, c, e⟩
    obtain rfl : q2 = n := HR2.out.nT.trans HN.out
    clear HG1 HL1 hx6 hs1
    go_wp2_with fail
    go_loopw [7, 8] (fun bv iv wr => ∃ (i : Nat) (b : Bool), bv = .bool b ∧ iv = .int .i64 i ∧ i ≤ q2 ∧ Hid (b = acT L f i) ∧ RowE 30 5 encT wr w.heap.size (.slice ra q2 rc) (mixT (yoX f) L i) ∧ Grew w wr) (fun _ iv _ => q2 - (intOf iv).toNat)
    case atStart => exact ⟨0, false, rfl, rfl, by omega, Lib.hid rfl, HR2.out, HG2.out⟩
    case round =>
      clear HR2 HG2
      obtain ⟨i, b, rfl, rfl, hi, HBB, R, G⟩ := hrel
      obtain ⟨wo, rfl⟩ : ∃ wo : World, wo = wr := ⟨_, rfl⟩
      by_cases hlt : i < q2
      · have hiL : i < L.length := by rw [HN.out]; exact hlt
        have hML : (mixT (yoX f) L i).length = L.length := mixT_len _ _ _
        have HD := Lib.hid (mixT_get (g := yoX f) (Nat.le_refl i) hiL)
        have HS := Lib.hid (mixT_step (g := yoX f) hiL)
        have HK := Lib.hid (fun h => mixT_skip (g := yoX f) hiL h)
        obtain ⟨M, hM⟩ : ∃ M, mixT (yoX f) L i = M := ⟨_, rfl⟩
        rw [hM] at hML HD HS HK R
        have hiM : i < M.length := by rw [hML]; exact hiL
        obtain ⟨g, o, e7, -, hg, c0, c1, c2, c3, c4⟩ := (RowE.rdS encT_len R).atT hiM
        have hMd := HD.out
        rcases R.shape encT_len with ⟨e5, -⟩ | ⟨gs, caps, e5, hBg, -, -, -, -, hfr⟩
        · injection e5 with e5 e8 e9
          rw [e5] at e7
          exact absurd e7 (by simp)
        injection e5 with e5 e4 e3
        subst e5
        injection e7 with e7
        injection e7 with e7 e6
        subst e7 e6
        obtain ⟨d, hd⟩ : ∃ d, L.getD i zT = d := ⟨_, rfl⟩
        rw [show M.getD i (⟨0, 0, 0, false, false⟩ : Pt) = d from hMd.trans hd] at c0 c1 c2 c3 c4
        rw [hd] at HS HK HD
        have HDD := Lib.hid hd
        rw [Nat.zero_add] at c0 c1 c2 c3 c4
        have hi0 : (0 : Int) ≤ (i : Int) := by omega
        have hi1 : (i : Int) < (q2 : Int) := by omega
        have f0 := hfr (i * 5 + 4)
        have HR := Lib.hid R
        have HG := Lib.hid G
        clear R G hM hfr hMd hd e4 e3 hML
        by_cases q1 : d.f = f
        · have e1 : (d.f == f) = true := by simp [q1]
          have hht : htE L f i = true := by unfold htE; rw [HDD.out]; exact decide_eq_true q1
          have HA : Hid ((b || d.a) = acT L f (i + 1)) := Lib.hid (by rw [acT_hit hiL hht, HBB.out, HDD.out])
          have HP := Lib.hid (yoX_hit q1)
          have HRE := Lib.hid (HR.out.put1T hiM 4 (by decide) (.bool false) (yoX f d) (by rw [HD.out, HP.out]; rfl))
          have HGE := Lib.hid (HG.out.set (p := ⟨gs, i * 5 + 4, none⟩) hBg (.bool false))
          clear q1 HK hht HBB
          cases b
          · have HA2 : Hid (d.a = acT L f (i + 1)) := Lib.hid (by simpa using HA.out)
            go_wp2
            exact ⟨⟨i + 1, d.a, rfl, by go_num, by omega, HA2, by rw [HS.out]; exact HRE.out, HGE.out⟩, by simp [intOf] <;> omega⟩
          · have HA2 : Hid (true = acT L f (i + 1)) := Lib.hid (by simpa using HA.out)
            go_wp2
            exact ⟨⟨i + 1, true, rfl, by go_num, by omega, HA2, by rw [HS.out]; exact HRE.out, HGE.out⟩, by simp [intOf] <;> omega⟩
        · have e1 : (d.f == f) = false := by simp [q1]
          have hht : htE L f i = false := by unfold htE; rw [HDD.out]; exact decide_eq_false q1
          have HA : Hid (b = acT L f (i + 1)) := Lib.hid (by rw [acT_miss hiL hht]; exact HBB.out)
          have HS2 := Lib.hid (HK.out (yoX_miss q1))
          clear q1 HK hht HBB
          go_wp2
          exact ⟨⟨i + 1, b, rfl, by go_num, by omega, HA, by rw [HS2.out]; exact HR.out, HG.out⟩, by simp [intOf] <;> omega⟩
      · obtain rfl : i = q2 := by omega
        have HE : Hid ((mixT (yoX f) L i, b) = yngT L f) := Lib.hid (by
          have h1 := acT_end L f
          rw [H1.out, nE_1 H1.out, HN.out] at h1
          rw [← HN.out, mixT_all, yngT_1 H1.out, HBB.out, ← HN.out]
          congr 1
          rw [HN.out]
          exact h1.symm)
        have HR := Lib.hid R
        clear R
        go_wp2
        refine bodyPost_ret (v := .tuple #[.slice ra i rc, .bool b]) (by simp [results, Try.results15, go_sem]) rfl ?_
        exact ⟨_, by rw [← HE.out], by rw [← HE.out]; exact (RowE.rdS encT_len HR.out).wider HB.out, G⟩
set_option maxRecDepth 100000 in
set_option maxHeartbeats 16000000 in
theorem enter_q {B : Nat} {v : Value} {L : List Pt} {x : Pt} {w : World} (h : RdS 5 encT w B v L) (hB : B ≤ w.heap.size) (hl : L.length ≤ 1000) : Calls Try.prog 11 #[v, ptV x] w (RetPtE B (entT L x) w) := by
  have HH := Lib.hid (h.alloc (.cells #[.int .i64 x.p, .int .i64 x.v, .int .i64 x.f, .bool x.w, .bool x.a] 30))
  have HO := Lib.hid (Mine.Own.new w 30 #[.int .i64 x.p, .int .i64 x.v, .int .i64 x.f, .bool x.w, .bool x.a])
  have HG := Lib.hid ((Grew.refl w).alloc (.cells #[.int .i64 x.p, .int .i64 x.v, .int .i64 x.f, .bool x.w, .bool x.a] 30))
  have hbx := HO.out.lt
  have HB := Lib.hid hB
  clear h hB
  obtain ⟨a0, c0, rfl, -, -⟩ := HH.out.slice
  obtain ⟨bx, hbx0⟩ : ∃ bx, w.heap.size = bx := ⟨_, rfl⟩
  have hbw : w.heap.size ≤ bx := by omega
  rw [hbx0] at HO HB hbx
  obtain ⟨n, hn⟩ : ∃ n, L.length = n := ⟨_, rfl⟩
  have HN := Lib.hid hn
  have hl2 := hl
  rw [hn] at HH hl ⊢
  clear hn
  go_enter Try.func11, Try.ntmps11
  go_upto_region 1 with fail
  try rw [hbx0]
  generalize World.alloc w _ = w1 at *
  clear hbx0
  cases h1 : okT L
  · have HE := Lib.hid (entT_1 (x := x) h1)
    have H1 := Lib.hid h1
    clear h1
    go_wp2_with fail
    with_reducible refine (check_q HH.out hl2 H1.out).mono ?_
    rintro e9 w3 ⟨rfl, g3⟩
    go_wp2
    refine bodyPost_ret (v := .tuple #[.slice a0 n c0, .int .i64 1]) (by simp [results, Try.results11, go_sem]) rfl ?_
    exact ⟨_, by rw [HE.out], by rw [HE.out]; exact HH.out.grew g3, HG.out.trans g3⟩
  · have HOK := Lib.hid h1
    clear h1
    go_wp2_with fail
    with_reducible refine (check_q HH.out hl2 HOK.out).mono ?_
    rintro e9 w3 ⟨rfl, g3⟩
    replace HH := Lib.hid (HH.out.grew g3)
    replace HO := Lib.hid (HO.out.grew g3)
    replace HG := Lib.hid (HG.out.trans g3)
    replace hbx := Nat.lt_of_lt_of_le hbx g3.size
    clear g3
    obtain ⟨x0, x1, x2, x3, x4⟩ := HO.out.fiveT
    cases h2 : rtT x
    · have HE := Lib.hid (entT_2 HOK.out h2)
      have H2 := Lib.hid h2
      clear h2
      go_wp2_with fail
      with_reducible refine (right_q (x := x) H2.out).mono ?_
      rintro e9 w4 ⟨rfl, g4⟩
      go_wp2
      refine bodyPost_ret (v := .tuple #[.slice a0 n c0, .int .i64 2]) (by simp [results, Try.results11, go_sem]) rfl ?_
      exact ⟨_, by rw [HE.out], by rw [HE.out]; exact HH.out.grew g4, HG.out.trans g4⟩
    · have HE := Lib.hid (entT_0 HOK.out h2)
      have H2 := Lib.hid h2
      clear h2
      go_wp2_with fail
      with_reducible refine (right_q (x := x) H2.out).mono ?_
      rintro e9 w4 ⟨rfl, g4⟩
      replace HH := Lib.hid (HH.out.grew g4)
      replace HO := Lib.hid (HO.out.grew g4)
      replace HG := Lib.hid (HG.out.trans g4)
      replace hbx := Nat.lt_of_lt_of_le hbx g4.size
      clear g4 x0 x1 x2 x3 x4 H2
      go_wp2_with fail
      go_loopw [6, 7, 8] (fun fv pv iv wr => ∃ (i : Nat) (r : Value) (b : Bool) (M : List Pt), r = fv ∧ pv = .bool b ∧ iv = .int .i64 i ∧ i ≤ n ∧ M.length ≤ i + 1 ∧ Hid (EnT L x i b M) ∧ RowE 30 5 encT wr w4.heap.size r M ∧ Grew w4 wr) (fun _ _ iv _ => n - (intOf iv).toNat)
      case atStart => exact ⟨0, _, false, [], rfl, rfl, rfl, by omega, by simp, Lib.hid ⟨rfl, fun j hj => by omega⟩, RowE.nil _ _, Grew.refl _⟩
      case round =>
        obtain ⟨i, fv, b, M, rfl, rfl, rfl, hi, hml, HM, R, G4⟩ := hrel
        obtain ⟨wo, rfl⟩ : ∃ wo : World, wo = wr := ⟨_, rfl⟩
        have hx6 : M.length < 1000000 := by omega
        have hx7 : (M ++ [x]).length < 1000000 := by simp; omega
        by_cases hlt : i < n
        · have hiL : i < L.length := by rw [HN.out]; exact hlt
          have hi0 : (0 : Int) ≤ (i : Int) := by omega
          have hi1 : (i : Int) < (n : Int) := by omega
          obtain ⟨g, o, rfl, -, hgl, k0, k1, k2, k3, k4⟩ := (HH.out.grew G4).atT hiL
          obtain ⟨d, hd⟩ : ∃ d, L.getD i zT = d := ⟨_, rfl⟩
          have HDD := Lib.hid hd
          rw [show L.getD i (⟨0, 0, 0, false, false⟩ : Pt) = d from hd] at k0 k1 k2 k3 k4
          obtain ⟨k5, k6, k7, k8, k9⟩ := (HO.out.grew G4).fiveT
          have hbl := (HO.out.grew G4).lt
          have HR := Lib.hid R
          have HG4 := Lib.hid G4
          clear hd R G4
          cases b
          · cases hq : ltT d x
            · have H1 := Lib.hid hq
              cases hk : ltT x d
              · have H2 := Lib.hid hk
                have HM2 : Hid (EnT L x (i + 1) true (M ++ [x])) := Lib.hid (HM.out.a3 hiL (by rw [HDD.out]; exact hq) (by rw [HDD.out]; exact hk))
                clear hq hk HM
                go_upto_region 10 with fail
                refine wp_region_held_drew (S := fun w' => w'.cell? ⟨g, o + i * 5, none⟩ = some (.int .i64 d.p) ∧ w'.cell? ⟨g, o + i * 5 + 1, none⟩ = some (.int .i64 d.v) ∧ w'.cell? ⟨g, o + i * 5 + 2, none⟩ = some (.int .i64 d.f) ∧ w'.cell? ⟨g, o + i * 5 + 3, none⟩ = some (.bool d.w) ∧ w'.cell? ⟨g, o + i * 5 + 4, none⟩ = some (.bool d.a) ∧ w'.cell? ⟨bx, 0, none⟩ = some (.int .i64 x.p) ∧ w'.cell? ⟨bx, 1, none⟩ = some (.int .i64 x.v) ∧ w'.cell? ⟨bx, 2, none⟩ = some (.int .i64 x.f) ∧ w'.cell? ⟨bx, 3, none⟩ = some (.bool x.w) ∧ w'.cell? ⟨bx, 4, none⟩ = some (.bool x.a)) (by kernel_rfl) ?_ (fun hHeld => ?_)
                · (try dsimp only); (refine ⟨?_, ?_, ?_, ?_, ?_, ?_, ?_, ?_, ?_, ?_⟩ <;> (repeat (first | (with_reducible assumption) | (with_reducible refine far_drew ?_))))
                first | refine wpAnyH_take (i := 0) (v := undef) rfl (by kernel_rfl) (by kernel_rfl) (by kernel_rfl) (fun _ _ _ h => h) (Or.inr ⟨by rfl, rfl⟩) (by assumption) ?_ | (refine' wpAnyH_take (i := 0) (v := _) rfl (by kernel_rfl) (by kernel_rfl) (by kernel_rfl) (fun _ _ _ h => h) (Or.inl ⟨by rfl, ?hy0a⟩) (by assumption) ?rest0a; case hy0a => (intro w hSw; (try dsimp only at hSw); (first | (go_simp; done) | (go_simp; with_reducible rfl))))
                try simp only [Act.put, List.setIfInBounds_toArray, List.set_cons_zero, List.set_cons_succ, List.getElem_toArray, List.getElem_cons_zero, List.getElem_cons_succ]
                first | refine wpAnyH_take (i := 1) (v := undef) rfl (by kernel_rfl) (by kernel_rfl) (by kernel_rfl) (fun _ _ _ h => h) (Or.inr ⟨by rfl, rfl⟩) (by assumption) ?_ | (refine' wpAnyH_take (i := 1) (v := _) rfl (by kernel_rfl) (by kernel_rfl) (by kernel_rfl) (fun _ _ _ h => h) (Or.inl ⟨by rfl, ?hy1a⟩) (by assumption) ?rest1a; case hy1a => (intro w hSw; (try dsimp only at hSw); (first | (go_simp; done) | (go_simp; with_reducible rfl))))
                try simp only [Act.put, List.setIfInBounds_toArray, List.set_cons_zero, List.set_cons_succ, List.getElem_toArray, List.getElem_cons_zero, List.getElem_cons_succ]
                first | refine wpAnyH_take (i := 2) (v := undef) rfl (by kernel_rfl) (by kernel_rfl) (by kernel_rfl) (fun _ _ _ h => h) (Or.inr ⟨by rfl, rfl⟩) (by assumption) ?_ | (refine' wpAnyH_take (i := 2) (v := _) rfl (by kernel_rfl) (by kernel_rfl) (by kernel_rfl) (fun _ _ _ h => h) (Or.inl ⟨by rfl, ?hy2a⟩) (by assumption) ?rest2a; case hy2a => (intro w hSw; (try dsimp only at hSw); (first | (go_simp; done) | (go_simp; with_reducible rfl))))
                try simp only [Act.put, List.setIfInBounds_toArray, List.set_cons_zero, List.set_cons_succ, List.getElem_toArray, List.getElem_cons_zero, List.getElem_cons_succ]
                first | refine wpAnyH_take (i := 3) (v := undef) rfl (by kernel_rfl) (by kernel_rfl) (by kernel_rfl) (fun _ _ _ h => h) (Or.inr ⟨by rfl, rfl⟩) (by assumption) ?_ | (refine' wpAnyH_take (i := 3) (v := _) rfl (by kernel_rfl) (by kernel_rfl) (by kernel_rfl) (fun _ _ _ h => h) (Or.inl ⟨by rfl, ?hy3a⟩) (by assumption) ?rest3a; case hy3a => (intro w hSw; (try dsimp only at hSw); (first | (go_simp; done) | (go_simp; with_reducible rfl))))
                try simp only [Act.put, List.setIfInBounds_toArray, List.set_cons_zero, List.set_cons_succ, List.getElem_toArray, List.getElem_cons_zero, List.getElem_cons_succ]
                first | refine wpAnyH_take (i := 4) (v := undef) rfl (by kernel_rfl) (by kernel_rfl) (by kernel_rfl) (fun _ _ _ h => h) (Or.inr ⟨by rfl, rfl⟩) (by assumption) ?_ | (refine' wpAnyH_take (i := 4) (v := _) rfl (by kernel_rfl) (by kernel_rfl) (by kernel_rfl) (fun _ _ _ h => h) (Or.inl ⟨by rfl, ?hy4a⟩) (by assumption) ?rest4a; case hy4a => (intro w hSw; (try dsimp only at hSw); (first | (go_simp; done) | (go_simp; with_reducible rfl))))
                try simp only [Act.put, List.setIfInBounds_toArray, List.set_cons_zero, List.set_cons_succ, List.getElem_toArray, List.getElem_cons_zero, List.getElem_cons_succ]
                first | refine wpAnyH_take (i := 5) (v := undef) rfl (by kernel_rfl) (by kernel_rfl) (by kernel_rfl) (fun _ _ _ h => h) (Or.inr ⟨by rfl, rfl⟩) (by assumption) ?_ | (refine' wpAnyH_take (i := 5) (v := _) rfl (by kernel_rfl) (by kernel_rfl) (by kernel_rfl) (fun _ _ _ h => h) (Or.inl ⟨by rfl, ?hy5a⟩) (by assumption) ?rest5a; case hy5a => (intro w hSw; (try dsimp only at hSw); (first | (go_simp; done) | (go_simp; with_reducible rfl))))
                try simp only [Act.put, List.setIfInBounds_toArray, List.set_cons_zero, List.set_cons_succ, List.getElem_toArray, List.getElem_cons_zero, List.getElem_cons_succ]
                first | refine wpAnyH_take (i := 6) (v := undef) rfl (by kernel_rfl) (by kernel_rfl) (by kernel_rfl) (fun _ _ _ h => h) (Or.inr ⟨by rfl, rfl⟩) (by assumption) ?_ | (refine' wpAnyH_take (i := 6) (v := _) rfl (by kernel_rfl) (by kernel_rfl) (by kernel_rfl) (fun _ _ _ h => h) (Or.inl ⟨by rfl, ?hy6a⟩) (by assumption) ?rest6a; case hy6a => (intro w hSw; (try dsimp only at hSw); (first | (go_simp; done) | (go_simp; with_reducible rfl))))
                try simp only [Act.put, List.setIfInBounds_toArray, List.set_cons_zero, List.set_cons_succ, List.getElem_toArray, List.getElem_cons_zero, List.getElem_cons_succ]
                first | refine wpAnyH_take (i := 7) (v := undef) rfl (by kernel_rfl) (by kernel_rfl) (by kernel_rfl) (fun _ _ _ h => h) (Or.inr ⟨by rfl, rfl⟩) (by assumption) ?_ | (refine' wpAnyH_take (i := 7) (v := _) rfl (by kernel_rfl) (by kernel_rfl) (by kernel_rfl) (fun _ _ _ h => h) (Or.inl ⟨by rfl, ?hy7a⟩) (by assumption) ?rest7a; case hy7a => (intro w hSw; (try dsimp only at hSw); (first | (go_simp; done) | (go_simp; with_reducible rfl))))
                try simp only [Act.put, List.setIfInBounds_toArray, List.set_cons_zero, List.set_cons_succ, List.getElem_toArray, List.getElem_cons_zero, List.getElem_cons_succ]
                refine wpAnyH_ready (rs := [8]) (by kernel_rfl) (by simp) ?_
                refine AllReadyH.cons rfl (fun K hK => ?_) AllReadyH.nil
                try simp only [Act.put, List.setIfInBounds_toArray, List.set_cons_zero, List.set_cons_succ, List.getElem_toArray, List.getElem_cons_zero, List.getElem_cons_succ]
                go_simp; go_at_call 36; (with_reducible refine (less_q H1.out).mono ?_); rintro eg3 w3 ⟨rfl, g3⟩; have zg3 := g3.size; have m0 := (g3.cells.1 g _ hgl).trans (far_drew k0); have m1 := (g3.cells.1 g _ hgl).trans (far_drew k1); have m2 := (g3.cells.1 g _ hgl).trans (far_drew k2); have m3 := (g3.cells.1 g _ hgl).trans (far_drew k3); have m4 := (g3.cells.1 g _ hgl).trans (far_drew k4); have m5 := (g3.cells.1 bx _ hbl).trans (far_drew k5); have m6 := (g3.cells.1 bx _ hbl).trans (far_drew k6); have m7 := (g3.cells.1 bx _ hbl).trans (far_drew k7); have m8 := (g3.cells.1 bx _ hbl).trans (far_drew k8); have m9 := (g3.cells.1 bx _ hbl).trans (far_drew k9)
                refine hK.out _ _ ?_ (fun hHeld => ?_)
                · (try dsimp only); (refine ⟨?_, ?_, ?_, ?_, ?_, ?_, ?_, ?_, ?_, ?_⟩ <;> (repeat (first | (with_reducible assumption) | (with_reducible refine far_drew ?_))))
                clear hK K
                try simp only [Act.put, List.setIfInBounds_toArray, List.set_cons_zero, List.set_cons_succ, List.getElem_toArray, List.getElem_cons_zero, List.getElem_cons_succ]
                first | refine wpAnyH_take (i := 9) (v := undef) rfl (by kernel_rfl) (by kernel_rfl) (by kernel_rfl) (fun _ _ _ h => h) (Or.inr ⟨by rfl, rfl⟩) (by assumption) ?_ | (refine' wpAnyH_take (i := 9) (v := _) rfl (by kernel_rfl) (by kernel_rfl) (by kernel_rfl) (fun _ _ _ h => h) (Or.inl ⟨by rfl, ?hy9a⟩) (by assumption) ?rest9a; case hy9a => (intro w hSw; (try dsimp only at hSw); (first | (go_simp; done) | (go_simp; with_reducible rfl))))
                try simp only [Act.put, List.setIfInBounds_toArray, List.set_cons_zero, List.set_cons_succ, List.getElem_toArray, List.getElem_cons_zero, List.getElem_cons_succ]
                first | refine wpAnyH_take (i := 10) (v := undef) rfl (by kernel_rfl) (by kernel_rfl) (by kernel_rfl) (fun _ _ _ h => h) (Or.inr ⟨by rfl, rfl⟩) (by assumption) ?_ | (refine' wpAnyH_take (i := 10) (v := _) rfl (by kernel_rfl) (by kernel_rfl) (by kernel_rfl) (fun _ _ _ h => h) (Or.inl ⟨by rfl, ?hy10a⟩) (by assumption) ?rest10a; case hy10a => (intro w hSw; (try dsimp only at hSw); (first | (go_simp; done) | (go_simp; with_reducible rfl))))
                try simp only [Act.put, List.setIfInBounds_toArray, List.set_cons_zero, List.set_cons_succ, List.getElem_toArray, List.getElem_cons_zero, List.getElem_cons_succ]
                refine wpAnyH_done (by kernel_rfl) ?_ _
                replace HR := Lib.hid (HR.out.drew.grew g3)
                replace HG4 := Lib.hid (HG4.out.drew.trans g3)
                clear k0 k1 k2 k3 k4 k5 k6 k7 k8 k9
                obtain ⟨k5, k6, k7, k8, k9⟩ := (HO.out.grew HG4.out).fiveT
                go_upto_region 13 with (at_builtin; go_loud (refine wpList_append_row _ rfl (.tmp 34) (.tmp 36) 26 rfl w4.heap.size info_pt Try.underlying26 (by decide) (by decide) encT_len _ M rfl (HR.out.alloc _) _ _ x rfl (Mine.Own.new _ _ _) encT_one hx6 (by decide) (by have := HG4.out.size; simp; omega) ?_; intro g7 cap w7 R7 G7 o7; have HR7 := Lib.hid R7; have HG7 := Lib.hid (Grew.keptA (B := w4.heap.size) (HG4.out.alloc _) G7 (fun y e => HR.out.above y e) (Nat.le_refl _)); clear o7 R7 G7))
                replace HR := HR7
                replace HG4 := HG7
                clear HR7 HG7 k5 k6 k7 k8 k9 hgl hbl m0 m1 m2 m3 m4 m5 m6 m7 m8 m9 zg3
                obtain ⟨g0, o0, e7, -, hgl, k0, k1, k2, k3, k4⟩ := (HH.out.grew HG4.out).atT hiL
                injection e7 with e7
                injection e7 with e7 e6
                subst e7 e6
                rw [show L.getD i (⟨0, 0, 0, false, false⟩ : Pt) = d from HDD.out] at k0 k1 k2 k3 k4
                obtain ⟨k5, k6, k7, k8, k9⟩ := (HO.out.grew HG4.out).fiveT
                have hbl := (HO.out.grew HG4.out).lt
                refine wp_region_held_drew (S := fun w' => w'.cell? ⟨g, o + i * 5, none⟩ = some (.int .i64 d.p) ∧ w'.cell? ⟨g, o + i * 5 + 1, none⟩ = some (.int .i64 d.v) ∧ w'.cell? ⟨g, o + i * 5 + 2, none⟩ = some (.int .i64 d.f) ∧ w'.cell? ⟨g, o + i * 5 + 3, none⟩ = some (.bool d.w) ∧ w'.cell? ⟨g, o + i * 5 + 4, none⟩ = some (.bool d.a) ∧ w'.cell? ⟨bx, 0, none⟩ = some (.int .i64 x.p) ∧ w'.cell? ⟨bx, 1, none⟩ = some (.int .i64 x.v) ∧ w'.cell? ⟨bx, 2, none⟩ = some (.int .i64 x.f) ∧ w'.cell? ⟨bx, 3, none⟩ = some (.bool x.w) ∧ w'.cell? ⟨bx, 4, none⟩ = some (.bool x.a)) (by kernel_rfl) ?_ (fun hHeld => ?_)
                · (try dsimp only); (refine ⟨?_, ?_, ?_, ?_, ?_, ?_, ?_, ?_, ?_, ?_⟩ <;> (repeat (first | (with_reducible assumption) | (with_reducible refine far_drew ?_))))
                first | refine wpAnyH_take (i := 0) (v := undef) rfl (by kernel_rfl) (by kernel_rfl) (by kernel_rfl) (fun _ _ _ h => h) (Or.inr ⟨by rfl, rfl⟩) (by assumption) ?_ | (refine' wpAnyH_take (i := 0) (v := _) rfl (by kernel_rfl) (by kernel_rfl) (by kernel_rfl) (fun _ _ _ h => h) (Or.inl ⟨by rfl, ?hy0b⟩) (by assumption) ?rest0b; case hy0b => (intro w hSw; (try dsimp only at hSw); (first | (go_simp; done) | (go_simp; with_reducible rfl))))
                try simp only [Act.put, List.setIfInBounds_toArray, List.set_cons_zero, List.set_cons_succ, List.getElem_toArray, List.getElem_cons_zero, List.getElem_cons_succ]
                first | refine wpAnyH_take (i := 1) (v := undef) rfl (by kernel_rfl) (by kernel_rfl) (by kernel_rfl) (fun _ _ _ h => h) (Or.inr ⟨by rfl, rfl⟩) (by assumption) ?_ | (refine' wpAnyH_take (i := 1) (v := _) rfl (by kernel_rfl) (by kernel_rfl) (by kernel_rfl) (fun _ _ _ h => h) (Or.inl ⟨by rfl, ?hy1b⟩) (by assumption) ?rest1b; case hy1b => (intro w hSw; (try dsimp only at hSw); (first | (go_simp; done) | (go_simp; with_reducible rfl))))
                try simp only [Act.put, List.setIfInBounds_toArray, List.set_cons_zero, List.set_cons_succ, List.getElem_toArray, List.getElem_cons_zero, List.getElem_cons_succ]
                first | refine wpAnyH_take (i := 2) (v := undef) rfl (by kernel_rfl) (by kernel_rfl) (by kernel_rfl) (fun _ _ _ h => h) (Or.inr ⟨by rfl, rfl⟩) (by assumption) ?_ | (refine' wpAnyH_take (i := 2) (v := _) rfl (by kernel_rfl) (by kernel_rfl) (by kernel_rfl) (fun _ _ _ h => h) (Or.inl ⟨by rfl, ?hy2b⟩) (by assumption) ?rest2b; case hy2b => (intro w hSw; (try dsimp only at hSw); (first | (go_simp; done) | (go_simp; with_reducible rfl))))
                try simp only [Act.put, List.setIfInBounds_toArray, List.set_cons_zero, List.set_cons_succ, List.getElem_toArray, List.getElem_cons_zero, List.getElem_cons_succ]
                first | refine wpAnyH_take (i := 3) (v := undef) rfl (by kernel_rfl) (by kernel_rfl) (by kernel_rfl) (fun _ _ _ h => h) (Or.inr ⟨by rfl, rfl⟩) (by assumption) ?_ | (refine' wpAnyH_take (i := 3) (v := _) rfl (by kernel_rfl) (by kernel_rfl) (by kernel_rfl) (fun _ _ _ h => h) (Or.inl ⟨by rfl, ?hy3b⟩) (by assumption) ?rest3b; case hy3b => (intro w hSw; (try dsimp only at hSw); (first | (go_simp; done) | (go_simp; with_reducible rfl))))
                try simp only [Act.put, List.setIfInBounds_toArray, List.set_cons_zero, List.set_cons_succ, List.getElem_toArray, List.getElem_cons_zero, List.getElem_cons_succ]
                first | refine wpAnyH_take (i := 4) (v := undef) rfl (by kernel_rfl) (by kernel_rfl) (by kernel_rfl) (fun _ _ _ h => h) (Or.inr ⟨by rfl, rfl⟩) (by assumption) ?_ | (refine' wpAnyH_take (i := 4) (v := _) rfl (by kernel_rfl) (by kernel_rfl) (by kernel_rfl) (fun _ _ _ h => h) (Or.inl ⟨by rfl, ?hy4b⟩) (by assumption) ?rest4b; case hy4b => (intro w hSw; (try dsimp only at hSw); (first | (go_simp; done) | (go_simp; with_reducible rfl))))
                try simp only [Act.put, List.setIfInBounds_toArray, List.set_cons_zero, List.set_cons_succ, List.getElem_toArray, List.getElem_cons_zero, List.getElem_cons_succ]
                refine wpAnyH_ready (rs := [5]) (by kernel_rfl) (by simp) ?_
                refine AllReadyH.cons rfl (fun K hK => ?_) AllReadyH.nil
                try simp only [Act.put, List.setIfInBounds_toArray, List.set_cons_zero, List.set_cons_succ, List.getElem_toArray, List.getElem_cons_zero, List.getElem_cons_succ]
                go_simp; go_at_call 36; (with_reducible refine (less_q H1.out).mono ?_); rintro eg5 w5 ⟨rfl, g5⟩; have zg5 := g5.size; have m0 := (g5.cells.1 g _ hgl).trans (far_drew k0); have m1 := (g5.cells.1 g _ hgl).trans (far_drew k1); have m2 := (g5.cells.1 g _ hgl).trans (far_drew k2); have m3 := (g5.cells.1 g _ hgl).trans (far_drew k3); have m4 := (g5.cells.1 g _ hgl).trans (far_drew k4); have m5 := (g5.cells.1 bx _ hbl).trans (far_drew k5); have m6 := (g5.cells.1 bx _ hbl).trans (far_drew k6); have m7 := (g5.cells.1 bx _ hbl).trans (far_drew k7); have m8 := (g5.cells.1 bx _ hbl).trans (far_drew k8); have m9 := (g5.cells.1 bx _ hbl).trans (far_drew k9)
                refine hK.out _ _ ?_ (fun hHeld => ?_)
                · (try dsimp only); (refine ⟨?_, ?_, ?_, ?_, ?_, ?_, ?_, ?_, ?_, ?_⟩ <;> (repeat (first | (with_reducible assumption) | (with_reducible refine far_drew ?_))))
                clear hK K
                try simp only [Act.put, List.setIfInBounds_toArray, List.set_cons_zero, List.set_cons_succ, List.getElem_toArray, List.getElem_cons_zero, List.getElem_cons_succ]
                first | refine wpAnyH_take (i := 6) (v := undef) rfl (by kernel_rfl) (by kernel_rfl) (by kernel_rfl) (fun _ _ _ h => h) (Or.inr ⟨by rfl, rfl⟩) (by assumption) ?_ | (refine' wpAnyH_take (i := 6) (v := _) rfl (by kernel_rfl) (by kernel_rfl) (by kernel_rfl) (fun _ _ _ h => h) (Or.inl ⟨by rfl, ?hy6b⟩) (by assumption) ?rest6b; case hy6b => (intro w hSw; (try dsimp only at hSw); (first | (go_simp; done) | (go_simp; with_reducible rfl))))
                try simp only [Act.put, List.setIfInBounds_toArray, List.set_cons_zero, List.set_cons_succ, List.getElem_toArray, List.getElem_cons_zero, List.getElem_cons_succ]
                first | refine wpAnyH_take (i := 7) (v := undef) rfl (by kernel_rfl) (by kernel_rfl) (by kernel_rfl) (fun _ _ _ h => h) (Or.inr ⟨by rfl, rfl⟩) (by assumption) ?_ | (refine' wpAnyH_take (i := 7) (v := _) rfl (by kernel_rfl) (by kernel_rfl) (by kernel_rfl) (fun _ _ _ h => h) (Or.inl ⟨by rfl, ?hy7b⟩) (by assumption) ?rest7b; case hy7b => (intro w hSw; (try dsimp only at hSw); (first | (go_simp; done) | (go_simp; with_reducible rfl))))
                try simp only [Act.put, List.setIfInBounds_toArray, List.set_cons_zero, List.set_cons_succ, List.getElem_toArray, List.getElem_cons_zero, List.getElem_cons_succ]
                first | refine wpAnyH_take (i := 8) (v := undef) rfl (by kernel_rfl) (by kernel_rfl) (by kernel_rfl) (fun _ _ _ h => h) (Or.inr ⟨by rfl, rfl⟩) (by assumption) ?_ | (refine' wpAnyH_take (i := 8) (v := _) rfl (by kernel_rfl) (by kernel_rfl) (by kernel_rfl) (fun _ _ _ h => h) (Or.inl ⟨by rfl, ?hy8b⟩) (by assumption) ?rest8b; case hy8b => (intro w hSw; (try dsimp only at hSw); (first | (go_simp; done) | (go_simp; with_reducible rfl))))
                try simp only [Act.put, List.setIfInBounds_toArray, List.set_cons_zero, List.set_cons_succ, List.getElem_toArray, List.getElem_cons_zero, List.getElem_cons_succ]
                first | refine wpAnyH_take (i := 9) (v := undef) rfl (by kernel_rfl) (by kernel_rfl) (by kernel_rfl) (fun _ _ _ h => h) (Or.inr ⟨by rfl, rfl⟩) (by assumption) ?_ | (refine' wpAnyH_take (i := 9) (v := _) rfl (by kernel_rfl) (by kernel_rfl) (by kernel_rfl) (fun _ _ _ h => h) (Or.inl ⟨by rfl, ?hy9b⟩) (by assumption) ?rest9b; case hy9b => (intro w hSw; (try dsimp only at hSw); (first | (go_simp; done) | (go_simp; with_reducible rfl))))
                try simp only [Act.put, List.setIfInBounds_toArray, List.set_cons_zero, List.set_cons_succ, List.getElem_toArray, List.getElem_cons_zero, List.getElem_cons_succ]
                first | refine wpAnyH_take (i := 10) (v := undef) rfl (by kernel_rfl) (by kernel_rfl) (by kernel_rfl) (fun _ _ _ h => h) (Or.inr ⟨by rfl, rfl⟩) (by assumption) ?_ | (refine' wpAnyH_take (i := 10) (v := _) rfl (by kernel_rfl) (by kernel_rfl) (by kernel_rfl) (fun _ _ _ h => h) (Or.inl ⟨by rfl, ?hy10b⟩) (by assumption) ?rest10b; case hy10b => (intro w hSw; (try dsimp only at hSw); (first | (go_simp; done) | (go_simp; with_reducible rfl))))
                try simp only [Act.put, List.setIfInBounds_toArray, List.set_cons_zero, List.set_cons_succ, List.getElem_toArray, List.getElem_cons_zero, List.getElem_cons_succ]
                first | refine wpAnyH_take (i := 11) (v := undef) rfl (by kernel_rfl) (by kernel_rfl) (by kernel_rfl) (fun _ _ _ h => h) (Or.inr ⟨by rfl, rfl⟩) (by assumption) ?_ | (refine' wpAnyH_take (i := 11) (v := _) rfl (by kernel_rfl) (by kernel_rfl) (by kernel_rfl) (fun _ _ _ h => h) (Or.inl ⟨by rfl, ?hy11b⟩) (by assumption) ?rest11b; case hy11b => (intro w hSw; (try dsimp only at hSw); (first | (go_simp; done) | (go_simp; with_reducible rfl))))
                try simp only [Act.put, List.setIfInBounds_toArray, List.set_cons_zero, List.set_cons_succ, List.getElem_toArray, List.getElem_cons_zero, List.getElem_cons_succ]
                refine wpAnyH_ready (rs := [12]) (by kernel_rfl) (by simp) ?_
                refine AllReadyH.cons rfl (fun K hK => ?_) AllReadyH.nil
                try simp only [Act.put, List.setIfInBounds_toArray, List.set_cons_zero, List.set_cons_succ, List.getElem_toArray, List.getElem_cons_zero, List.getElem_cons_succ]
                go_simp; go_at_call 36; (with_reducible refine (less_q H2.out).mono ?_); rintro eg6 w6 ⟨rfl, g6⟩; have r0 := (g6.cells.1 g _ (Nat.lt_of_lt_of_le hgl zg5)).trans m0; have r1 := (g6.cells.1 g _ (Nat.lt_of_lt_of_le hgl zg5)).trans m1; have r2 := (g6.cells.1 g _ (Nat.lt_of_lt_of_le hgl zg5)).trans m2; have r3 := (g6.cells.1 g _ (Nat.lt_of_lt_of_le hgl zg5)).trans m3; have r4 := (g6.cells.1 g _ (Nat.lt_of_lt_of_le hgl zg5)).trans m4; have r5 := (g6.cells.1 bx _ (Nat.lt_of_lt_of_le hbl zg5)).trans m5; have r6 := (g6.cells.1 bx _ (Nat.lt_of_lt_of_le hbl zg5)).trans m6; have r7 := (g6.cells.1 bx _ (Nat.lt_of_lt_of_le hbl zg5)).trans m7; have r8 := (g6.cells.1 bx _ (Nat.lt_of_lt_of_le hbl zg5)).trans m8; have r9 := (g6.cells.1 bx _ (Nat.lt_of_lt_of_le hbl zg5)).trans m9
                refine hK.out _ _ ?_ (fun hHeld => ?_)
                · (try dsimp only); (refine ⟨?_, ?_, ?_, ?_, ?_, ?_, ?_, ?_, ?_, ?_⟩ <;> (repeat (first | (with_reducible assumption) | (with_reducible refine far_drew ?_))))
                clear hK K
                try simp only [Act.put, List.setIfInBounds_toArray, List.set_cons_zero, List.set_cons_succ, List.getElem_toArray, List.getElem_cons_zero, List.getElem_cons_succ]
                first | refine wpAnyH_take (i := 13) (v := undef) rfl (by kernel_rfl) (by kernel_rfl) (by kernel_rfl) (fun _ _ _ h => h) (Or.inr ⟨by rfl, rfl⟩) (by assumption) ?_ | (refine' wpAnyH_take (i := 13) (v := _) rfl (by kernel_rfl) (by kernel_rfl) (by kernel_rfl) (fun _ _ _ h => h) (Or.inl ⟨by rfl, ?hy13b⟩) (by assumption) ?rest13b; case hy13b => (intro w hSw; (try dsimp only at hSw); (first | (go_simp; done) | (go_simp; with_reducible rfl))))
                try simp only [Act.put, List.setIfInBounds_toArray, List.set_cons_zero, List.set_cons_succ, List.getElem_toArray, List.getElem_cons_zero, List.getElem_cons_succ]
                refine wpAnyH_done (by kernel_rfl) ?_ _
                replace HR := Lib.hid (HR.out.drew.grew g5)
                replace HG4 := Lib.hid (HG4.out.drew.trans g5)
                replace HR := Lib.hid (HR.out.grew g6)
                replace HG4 := Lib.hid (HG4.out.trans g6)
                clear k0 k1 k2 k3 k4 k5 k6 k7 k8 k9 m0 m1 m2 m3 m4 m5 m6 m7 m8 m9 r0 r1 r2 r3 r4 r5 r6 r7 r8 r9 hgl hbl
                obtain ⟨g0, o0, e7, -, hgl, k0, k1, k2, k3, k4⟩ := (HH.out.grew HG4.out).atT hiL
                injection e7 with e7
                injection e7 with e7 e6
                subst e7 e6
                rw [show L.getD i (⟨0, 0, 0, false, false⟩ : Pt) = d from HDD.out] at k0 k1 k2 k3 k4
                obtain ⟨k5, k6, k7, k8, k9⟩ := (HO.out.grew HG4.out).fiveT
                have hbl := (HO.out.grew HG4.out).lt
                go_wp2
                exact ⟨⟨i + 1, _, true, M ++ [x], rfl, rfl, by go_num, by omega, by simp; omega, HM2, HR.out, HG4.out⟩, by simp [intOf] <;> omega⟩
              · have H2 := Lib.hid hk
                have hmi : M.length ≤ i := by rw [HM.out.1, List.length_take]; omega
                have HM2 : Hid (EnT L x (i + 1) true (M ++ [x] ++ [d])) := Lib.hid (by have := HM.out.a2 hiL (by rw [HDD.out]; exact hq) (by rw [HDD.out]; exact hk); rw [HDD.out] at this; exact this)
                clear hq hk HM
                go_upto_region 10 with fail
                refine wp_region_held_drew (S := fun w' => w'.cell? ⟨g, o + i * 5, none⟩ = some (.int .i64 d.p) ∧ w'.cell? ⟨g, o + i * 5 + 1, none⟩ = some (.int .i64 d.v) ∧ w'.cell? ⟨g, o + i * 5 + 2, none⟩ = some (.int .i64 d.f) ∧ w'.cell? ⟨g, o + i * 5 + 3, none⟩ = some (.bool d.w) ∧ w'.cell? ⟨g, o + i * 5 + 4, none⟩ = some (.bool d.a) ∧ w'.cell? ⟨bx, 0, none⟩ = some (.int .i64 x.p) ∧ w'.cell? ⟨bx, 1, none⟩ = some (.int .i64 x.v) ∧ w'.cell? ⟨bx, 2, none⟩ = some (.int .i64 x.f) ∧ w'.cell? ⟨bx, 3, none⟩ = some (.bool x.w) ∧ w'.cell? ⟨bx, 4, none⟩ = some (.bool x.a)) (by kernel_rfl) ?_ (fun hHeld => ?_)
                · (try dsimp only); (refine ⟨?_, ?_, ?_, ?_, ?_, ?_, ?_, ?_, ?_, ?_⟩ <;> (repeat (first | (with_reducible assumption) | (with_reducible refine far_drew ?_))))
                first | refine wpAnyH_take (i := 0) (v := undef) rfl (by kernel_rfl) (by kernel_rfl) (by kernel_rfl) (fun _ _ _ h => h) (Or.inr ⟨by rfl, rfl⟩) (by assumption) ?_ | (refine' wpAnyH_take (i := 0) (v := _) rfl (by kernel_rfl) (by kernel_rfl) (by kernel_rfl) (fun _ _ _ h => h) (Or.inl ⟨by rfl, ?hy0c⟩) (by assumption) ?rest0c; case hy0c => (intro w hSw; (try dsimp only at hSw); (first | (go_simp; done) | (go_simp; with_reducible rfl))))
                try simp only [Act.put, List.setIfInBounds_toArray, List.set_cons_zero, List.set_cons_succ, List.getElem_toArray, List.getElem_cons_zero, List.getElem_cons_succ]
                first | refine wpAnyH_take (i := 1) (v := undef) rfl (by kernel_rfl) (by kernel_rfl) (by kernel_rfl) (fun _ _ _ h => h) (Or.inr ⟨by rfl, rfl⟩) (by assumption) ?_ | (refine' wpAnyH_take (i := 1) (v := _) rfl (by kernel_rfl) (by kernel_rfl) (by kernel_rfl) (fun _ _ _ h => h) (Or.inl ⟨by rfl, ?hy1c⟩) (by assumption) ?rest1c; case hy1c => (intro w hSw; (try dsimp only at hSw); (first | (go_simp; done) | (go_simp; with_reducible rfl))))
                try simp only [Act.put, List.setIfInBounds_toArray, List.set_cons_zero, List.set_cons_succ, List.getElem_toArray, List.getElem_cons_zero, List.getElem_cons_succ]
                first | refine wpAnyH_take (i := 2) (v := undef) rfl (by kernel_rfl) (by kernel_rfl) (by kernel_rfl) (fun _ _ _ h => h) (Or.inr ⟨by rfl, rfl⟩) (by assumption) ?_ | (refine' wpAnyH_take (i := 2) (v := _) rfl (by kernel_rfl) (by kernel_rfl) (by kernel_rfl) (fun _ _ _ h => h) (Or.inl ⟨by rfl, ?hy2c⟩) (by assumption) ?rest2c; case hy2c => (intro w hSw; (try dsimp only at hSw); (first | (go_simp; done) | (go_simp; with_reducible rfl))))
                try simp only [Act.put, List.setIfInBounds_toArray, List.set_cons_zero, List.set_cons_succ, List.getElem_toArray, List.getElem_cons_zero, List.getElem_cons_succ]
                first | refine wpAnyH_take (i := 3) (v := undef) rfl (by kernel_rfl) (by kernel_rfl) (by kernel_rfl) (fun _ _ _ h => h) (Or.inr ⟨by rfl, rfl⟩) (by assumption) ?_ | (refine' wpAnyH_take (i := 3) (v := _) rfl (by kernel_rfl) (by kernel_rfl) (by kernel_rfl) (fun _ _ _ h => h) (Or.inl ⟨by rfl, ?hy3c⟩) (by assumption) ?rest3c; case hy3c => (intro w hSw; (try dsimp only at hSw); (first | (go_simp; done) | (go_simp; with_reducible rfl))))
                try simp only [Act.put, List.setIfInBounds_toArray, List.set_cons_zero, List.set_cons_succ, List.getElem_toArray, List.getElem_cons_zero, List.getElem_cons_succ]
                first | refine wpAnyH_take (i := 4) (v := undef) rfl (by kernel_rfl) (by kernel_rfl) (by kernel_rfl) (fun _ _ _ h => h) (Or.inr ⟨by rfl, rfl⟩) (by assumption) ?_ | (refine' wpAnyH_take (i := 4) (v := _) rfl (by kernel_rfl) (by kernel_rfl) (by kernel_rfl) (fun _ _ _ h => h) (Or.inl ⟨by rfl, ?hy4c⟩) (by assumption) ?rest4c; case hy4c => (intro w hSw; (try dsimp only at hSw); (first | (go_simp; done) | (go_simp; with_reducible rfl))))
                try simp only [Act.put, List.setIfInBounds_toArray, List.set_cons_zero, List.set_cons_succ, List.getElem_toArray, List.getElem_cons_zero, List.getElem_cons_succ]
                first | refine wpAnyH_take (i := 5) (v := undef) rfl (by kernel_rfl) (by kernel_rfl) (by kernel_rfl) (fun _ _ _ h => h) (Or.inr ⟨by rfl, rfl⟩) (by assumption) ?_ | (refine' wpAnyH_take (i := 5) (v := _) rfl (by kernel_rfl) (by kernel_rfl) (by kernel_rfl) (fun _ _ _ h => h) (Or.inl ⟨by rfl, ?hy5c⟩) (by assumption) ?rest5c; case hy5c => (intro w hSw; (try dsimp only at hSw); (first | (go_simp; done) | (go_simp; with_reducible rfl))))
                try simp only [Act.put, List.setIfInBounds_toArray, List.set_cons_zero, List.set_cons_succ, List.getElem_toArray, List.getElem_cons_zero, List.getElem_cons_succ]
                first | refine wpAnyH_take (i := 6) (v := undef) rfl (by kernel_rfl) (by kernel_rfl) (by kernel_rfl) (fun _ _ _ h => h) (Or.inr ⟨by rfl, rfl⟩) (by assumption) ?_ | (refine' wpAnyH_take (i := 6) (v := _) rfl (by kernel_rfl) (by kernel_rfl) (by kernel_rfl) (fun _ _ _ h => h) (Or.inl ⟨by rfl, ?hy6c⟩) (by assumption) ?rest6c; case hy6c => (intro w hSw; (try dsimp only at hSw); (first | (go_simp; done) | (go_simp; with_reducible rfl))))
                try simp only [Act.put, List.setIfInBounds_toArray, List.set_cons_zero, List.set_cons_succ, List.getElem_toArray, List.getElem_cons_zero, List.getElem_cons_succ]
                first | refine wpAnyH_take (i := 7) (v := undef) rfl (by kernel_rfl) (by kernel_rfl) (by kernel_rfl) (fun _ _ _ h => h) (Or.inr ⟨by rfl, rfl⟩) (by assumption) ?_ | (refine' wpAnyH_take (i := 7) (v := _) rfl (by kernel_rfl) (by kernel_rfl) (by kernel_rfl) (fun _ _ _ h => h) (Or.inl ⟨by rfl, ?hy7c⟩) (by assumption) ?rest7c; case hy7c => (intro w hSw; (try dsimp only at hSw); (first | (go_simp; done) | (go_simp; with_reducible rfl))))
                try simp only [Act.put, List.setIfInBounds_toArray, List.set_cons_zero, List.set_cons_succ, List.getElem_toArray, List.getElem_cons_zero, List.getElem_cons_succ]
                refine wpAnyH_ready (rs := [8]) (by kernel_rfl) (by simp) ?_
                refine AllReadyH.cons rfl (fun K hK => ?_) AllReadyH.nil
                try simp only [Act.put, List.setIfInBounds_toArray, List.set_cons_zero, List.set_cons_succ, List.getElem_toArray, List.getElem_cons_zero, List.getElem_cons_succ]
                go_simp; go_at_call 36; (with_reducible refine (less_q H1.out).mono ?_); rintro eg3 w3 ⟨rfl, g3⟩; have zg3 := g3.size; have m0 := (g3.cells.1 g _ hgl).trans (far_drew k0); have m1 := (g3.cells.1 g _ hgl).trans (far_drew k1); have m2 := (g3.cells.1 g _ hgl).trans (far_drew k2); have m3 := (g3.cells.1 g _ hgl).trans (far_drew k3); have m4 := (g3.cells.1 g _ hgl).trans (far_drew k4); have m5 := (g3.cells.1 bx _ hbl).trans (far_drew k5); have m6 := (g3.cells.1 bx _ hbl).trans (far_drew k6); have m7 := (g3.cells.1 bx _ hbl).trans (far_drew k7); have m8 := (g3.cells.1 bx _ hbl).trans (far_drew k8); have m9 := (g3.cells.1 bx _ hbl).trans (far_drew k9)
                refine hK.out _ _ ?_ (fun hHeld => ?_)
                · (try dsimp only); (refine ⟨?_, ?_, ?_, ?_, ?_, ?_, ?_, ?_, ?_, ?_⟩ <;> (repeat (first | (with_reducible assumption) | (with_reducible refine far_drew ?_))))
                clear hK K
                try simp only [Act.put, List.setIfInBounds_toArray, List.set_cons_zero, List.set_cons_succ, List.getElem_toArray, List.getElem_cons_zero, List.getElem_cons_succ]
                first | refine wpAnyH_take (i := 9) (v := undef) rfl (by kernel_rfl) (by kernel_rfl) (by kernel_rfl) (fun _ _ _ h => h) (Or.inr ⟨by rfl, rfl⟩) (by assumption) ?_ | (refine' wpAnyH_take (i := 9) (v := _) rfl (by kernel_rfl) (by kernel_rfl) (by kernel_rfl) (fun _ _ _ h => h) (Or.inl ⟨by rfl, ?hy9c⟩) (by assumption) ?rest9c; case hy9c => (intro w hSw; (try dsimp only at hSw); (first | (go_simp; done) | (go_simp; with_reducible rfl))))
                try simp only [Act.put, List.setIfInBounds_toArray, List.set_cons_zero, List.set_cons_succ, List.getElem_toArray, List.getElem_cons_zero, List.getElem_cons_succ]
                first | refine wpAnyH_take (i := 10) (v := undef) rfl (by kernel_rfl) (by kernel_rfl) (by kernel_rfl) (fun _ _ _ h => h) (Or.inr ⟨by rfl, rfl⟩) (by assumption) ?_ | (refine' wpAnyH_take (i := 10) (v := _) rfl (by kernel_rfl) (by kernel_rfl) (by kernel_rfl) (fun _ _ _ h => h) (Or.inl ⟨by rfl, ?hy10c⟩) (by assumption) ?rest10c; case hy10c => (intro w hSw; (try dsimp only at hSw); (first | (go_simp; done) | (go_simp; with_reducible rfl))))
                try simp only [Act.put, List.setIfInBounds_toArray, List.set_cons_zero, List.set_cons_succ, List.getElem_toArray, List.getElem_cons_zero, List.getElem_cons_succ]
                refine wpAnyH_done (by kernel_rfl) ?_ _
                replace HR := Lib.hid (HR.out.drew.grew g3)
                replace HG4 := Lib.hid (HG4.out.drew.trans g3)
                clear k0 k1 k2 k3 k4 k5 k6 k7 k8 k9
                obtain ⟨k5, k6, k7, k8, k9⟩ := (HO.out.grew HG4.out).fiveT
                go_upto_region 13 with (at_builtin; go_loud (refine wpList_append_row _ rfl (.tmp 34) (.tmp 36) 26 rfl w4.heap.size info_pt Try.underlying26 (by decide) (by decide) encT_len _ M rfl (HR.out.alloc _) _ _ x rfl (Mine.Own.new _ _ _) encT_one hx6 (by decide) (by have := HG4.out.size; simp; omega) ?_; intro g7 cap w7 R7 G7 o7; have HR7 := Lib.hid R7; have HG7 := Lib.hid (Grew.keptA (B := w4.heap.size) (HG4.out.alloc _) G7 (fun y e => HR.out.above y e) (Nat.le_refl _)); clear o7 R7 G7))
                replace HR := HR7
                replace HG4 := HG7
                clear HR7 HG7 k5 k6 k7 k8 k9 hgl hbl m0 m1 m2 m3 m4 m5 m6 m7 m8 m9 zg3
                obtain ⟨g0, o0, e7, -, hgl, k0, k1, k2, k3, k4⟩ := (HH.out.grew HG4.out).atT hiL
                injection e7 with e7
                injection e7 with e7 e6
                subst e7 e6
                rw [show L.getD i (⟨0, 0, 0, false, false⟩ : Pt) = d from HDD.out] at k0 k1 k2 k3 k4
                obtain ⟨k5, k6, k7, k8, k9⟩ := (HO.out.grew HG4.out).fiveT
                have hbl := (HO.out.grew HG4.out).lt
                refine wp_region_held_drew (S := fun w' => w'.cell? ⟨g, o + i * 5, none⟩ = some (.int .i64 d.p) ∧ w'.cell? ⟨g, o + i * 5 + 1, none⟩ = some (.int .i64 d.v) ∧ w'.cell? ⟨g, o + i * 5 + 2, none⟩ = some (.int .i64 d.f) ∧ w'.cell? ⟨g, o + i * 5 + 3, none⟩ = some (.bool d.w) ∧ w'.cell? ⟨g, o + i * 5 + 4, none⟩ = some (.bool d.a) ∧ w'.cell? ⟨bx, 0, none⟩ = some (.int .i64 x.p) ∧ w'.cell? ⟨bx, 1, none⟩ = some (.int .i64 x.v) ∧ w'.cell? ⟨bx, 2, none⟩ = some (.int .i64 x.f) ∧ w'.cell? ⟨bx, 3, none⟩ = some (.bool x.w) ∧ w'.cell? ⟨bx, 4, none⟩ = some (.bool x.a)) (by kernel_rfl) ?_ (fun hHeld => ?_)
                · (try dsimp only); (refine ⟨?_, ?_, ?_, ?_, ?_, ?_, ?_, ?_, ?_, ?_⟩ <;> (repeat (first | (with_reducible assumption) | (with_reducible refine far_drew ?_))))
                first | refine wpAnyH_take (i := 0) (v := undef) rfl (by kernel_rfl) (by kernel_rfl) (by kernel_rfl) (fun _ _ _ h => h) (Or.inr ⟨by rfl, rfl⟩) (by assumption) ?_ | (refine' wpAnyH_take (i := 0) (v := _) rfl (by kernel_rfl) (by kernel_rfl) (by kernel_rfl) (fun _ _ _ h => h) (Or.inl ⟨by rfl, ?hy0d⟩) (by assumption) ?rest0d; case hy0d => (intro w hSw; (try dsimp only at hSw); (first | (go_simp; done) | (go_simp; with_reducible rfl))))
                try simp only [Act.put, List.setIfInBounds_toArray, List.set_cons_zero, List.set_cons_succ, List.getElem_toArray, List.getElem_cons_zero, List.getElem_cons_succ]
                first | refine wpAnyH_take (i := 1) (v := undef) rfl (by kernel_rfl) (by kernel_rfl) (by kernel_rfl) (fun _ _ _ h => h) (Or.inr ⟨by rfl, rfl⟩) (by assumption) ?_ | (refine' wpAnyH_take (i := 1) (v := _) rfl (by kernel_rfl) (by kernel_rfl) (by kernel_rfl) (fun _ _ _ h => h) (Or.inl ⟨by rfl, ?hy1d⟩) (by assumption) ?rest1d; case hy1d => (intro w hSw; (try dsimp only at hSw); (first | (go_simp; done) | (go_simp; with_reducible rfl))))
                try simp only [Act.put, List.setIfInBounds_toArray, List.set_cons_zero, List.set_cons_succ, List.getElem_toArray, List.getElem_cons_zero, List.getElem_cons_succ]
                first | refine wpAnyH_take (i := 2) (v := undef) rfl (by kernel_rfl) (by kernel_rfl) (by kernel_rfl) (fun _ _ _ h => h) (Or.inr ⟨by rfl, rfl⟩) (by assumption) ?_ | (refine' wpAnyH_take (i := 2) (v := _) rfl (by kernel_rfl) (by kernel_rfl) (by kernel_rfl) (fun _ _ _ h => h) (Or.inl ⟨by rfl, ?hy2d⟩) (by assumption) ?rest2d; case hy2d => (intro w hSw; (try dsimp only at hSw); (first | (go_simp; done) | (go_simp; with_reducible rfl))))
                try simp only [Act.put, List.setIfInBounds_toArray, List.set_cons_zero, List.set_cons_succ, List.getElem_toArray, List.getElem_cons_zero, List.getElem_cons_succ]
                first | refine wpAnyH_take (i := 3) (v := undef) rfl (by kernel_rfl) (by kernel_rfl) (by kernel_rfl) (fun _ _ _ h => h) (Or.inr ⟨by rfl, rfl⟩) (by assumption) ?_ | (refine' wpAnyH_take (i := 3) (v := _) rfl (by kernel_rfl) (by kernel_rfl) (by kernel_rfl) (fun _ _ _ h => h) (Or.inl ⟨by rfl, ?hy3d⟩) (by assumption) ?rest3d; case hy3d => (intro w hSw; (try dsimp only at hSw); (first | (go_simp; done) | (go_simp; with_reducible rfl))))
                try simp only [Act.put, List.setIfInBounds_toArray, List.set_cons_zero, List.set_cons_succ, List.getElem_toArray, List.getElem_cons_zero, List.getElem_cons_succ]
                first | refine wpAnyH_take (i := 4) (v := undef) rfl (by kernel_rfl) (by kernel_rfl) (by kernel_rfl) (fun _ _ _ h => h) (Or.inr ⟨by rfl, rfl⟩) (by assumption) ?_ | (refine' wpAnyH_take (i := 4) (v := _) rfl (by kernel_rfl) (by kernel_rfl) (by kernel_rfl) (fun _ _ _ h => h) (Or.inl ⟨by rfl, ?hy4d⟩) (by assumption) ?rest4d; case hy4d => (intro w hSw; (try dsimp only at hSw); (first | (go_simp; done) | (go_simp; with_reducible rfl))))
                try simp only [Act.put, List.setIfInBounds_toArray, List.set_cons_zero, List.set_cons_succ, List.getElem_toArray, List.getElem_cons_zero, List.getElem_cons_succ]
                refine wpAnyH_ready (rs := [5]) (by kernel_rfl) (by simp) ?_
                refine AllReadyH.cons rfl (fun K hK => ?_) AllReadyH.nil
                try simp only [Act.put, List.setIfInBounds_toArray, List.set_cons_zero, List.set_cons_succ, List.getElem_toArray, List.getElem_cons_zero, List.getElem_cons_succ]
                go_simp; go_at_call 36; (with_reducible refine (less_q H1.out).mono ?_); rintro eg5 w5 ⟨rfl, g5⟩; have zg5 := g5.size; have m0 := (g5.cells.1 g _ hgl).trans (far_drew k0); have m1 := (g5.cells.1 g _ hgl).trans (far_drew k1); have m2 := (g5.cells.1 g _ hgl).trans (far_drew k2); have m3 := (g5.cells.1 g _ hgl).trans (far_drew k3); have m4 := (g5.cells.1 g _ hgl).trans (far_drew k4); have m5 := (g5.cells.1 bx _ hbl).trans (far_drew k5); have m6 := (g5.cells.1 bx _ hbl).trans (far_drew k6); have m7 := (g5.cells.1 bx _ hbl).trans (far_drew k7); have m8 := (g5.cells.1 bx _ hbl).trans (far_drew k8); have m9 := (g5.cells.1 bx _ hbl).trans (far_drew k9)
                refine hK.out _ _ ?_ (fun hHeld => ?_)
                · (try dsimp only); (refine ⟨?_, ?_, ?_, ?_, ?_, ?_, ?_, ?_, ?_, ?_⟩ <;> (repeat (first | (with_reducible assumption) | (with_reducible refine far_drew ?_))))
                clear hK K
                try simp only [Act.put, List.setIfInBounds_toArray, List.set_cons_zero, List.set_cons_succ, List.getElem_toArray, List.getElem_cons_zero, List.getElem_cons_succ]
                first | refine wpAnyH_take (i := 6) (v := undef) rfl (by kernel_rfl) (by kernel_rfl) (by kernel_rfl) (fun _ _ _ h => h) (Or.inr ⟨by rfl, rfl⟩) (by assumption) ?_ | (refine' wpAnyH_take (i := 6) (v := _) rfl (by kernel_rfl) (by kernel_rfl) (by kernel_rfl) (fun _ _ _ h => h) (Or.inl ⟨by rfl, ?hy6d⟩) (by assumption) ?rest6d; case hy6d => (intro w hSw; (try dsimp only at hSw); (first | (go_simp; done) | (go_simp; with_reducible rfl))))
                try simp only [Act.put, List.setIfInBounds_toArray, List.set_cons_zero, List.set_cons_succ, List.getElem_toArray, List.getElem_cons_zero, List.getElem_cons_succ]
                first | refine wpAnyH_take (i := 7) (v := undef) rfl (by kernel_rfl) (by kernel_rfl) (by kernel_rfl) (fun _ _ _ h => h) (Or.inr ⟨by rfl, rfl⟩) (by assumption) ?_ | (refine' wpAnyH_take (i := 7) (v := _) rfl (by kernel_rfl) (by kernel_rfl) (by kernel_rfl) (fun _ _ _ h => h) (Or.inl ⟨by rfl, ?hy7d⟩) (by assumption) ?rest7d; case hy7d => (intro w hSw; (try dsimp only at hSw); (first | (go_simp; done) | (go_simp; with_reducible rfl))))
                try simp only [Act.put, List.setIfInBounds_toArray, List.set_cons_zero, List.set_cons_succ, List.getElem_toArray, List.getElem_cons_zero, List.getElem_cons_succ]
                first | refine wpAnyH_take (i := 8) (v := undef) rfl (by kernel_rfl) (by kernel_rfl) (by kernel_rfl) (fun _ _ _ h => h) (Or.inr ⟨by rfl, rfl⟩) (by assumption) ?_ | (refine' wpAnyH_take (i := 8) (v := _) rfl (by kernel_rfl) (by kernel_rfl) (by kernel_rfl) (fun _ _ _ h => h) (Or.inl ⟨by rfl, ?hy8d⟩) (by assumption) ?rest8d; case hy8d => (intro w hSw; (try dsimp only at hSw); (first | (go_simp; done) | (go_simp; with_reducible rfl))))
                try simp only [Act.put, List.setIfInBounds_toArray, List.set_cons_zero, List.set_cons_succ, List.getElem_toArray, List.getElem_cons_zero, List.getElem_cons_succ]
                first | refine wpAnyH_take (i := 9) (v := undef) rfl (by kernel_rfl) (by kernel_rfl) (by kernel_rfl) (fun _ _ _ h => h) (Or.inr ⟨by rfl, rfl⟩) (by assumption) ?_ | (refine' wpAnyH_take (i := 9) (v := _) rfl (by kernel_rfl) (by kernel_rfl) (by kernel_rfl) (fun _ _ _ h => h) (Or.inl ⟨by rfl, ?hy9d⟩) (by assumption) ?rest9d; case hy9d => (intro w hSw; (try dsimp only at hSw); (first | (go_simp; done) | (go_simp; with_reducible rfl))))
                try simp only [Act.put, List.setIfInBounds_toArray, List.set_cons_zero, List.set_cons_succ, List.getElem_toArray, List.getElem_cons_zero, List.getElem_cons_succ]
                first | refine wpAnyH_take (i := 10) (v := undef) rfl (by kernel_rfl) (by kernel_rfl) (by kernel_rfl) (fun _ _ _ h => h) (Or.inr ⟨by rfl, rfl⟩) (by assumption) ?_ | (refine' wpAnyH_take (i := 10) (v := _) rfl (by kernel_rfl) (by kernel_rfl) (by kernel_rfl) (fun _ _ _ h => h) (Or.inl ⟨by rfl, ?hy10d⟩) (by assumption) ?rest10d; case hy10d => (intro w hSw; (try dsimp only at hSw); (first | (go_simp; done) | (go_simp; with_reducible rfl))))
                try simp only [Act.put, List.setIfInBounds_toArray, List.set_cons_zero, List.set_cons_succ, List.getElem_toArray, List.getElem_cons_zero, List.getElem_cons_succ]
                first | refine wpAnyH_take (i := 11) (v := undef) rfl (by kernel_rfl) (by kernel_rfl) (by kernel_rfl) (fun _ _ _ h => h) (Or.inr ⟨by rfl, rfl⟩) (by assumption) ?_ | (refine' wpAnyH_take (i := 11) (v := _) rfl (by kernel_rfl) (by kernel_rfl) (by kernel_rfl) (fun _ _ _ h => h) (Or.inl ⟨by rfl, ?hy11d⟩) (by assumption) ?rest11d; case hy11d => (intro w hSw; (try dsimp only at hSw); (first | (go_simp; done) | (go_simp; with_reducible rfl))))
                try simp only [Act.put, List.setIfInBounds_toArray, List.set_cons_zero, List.set_cons_succ, List.getElem_toArray, List.getElem_cons_zero, List.getElem_cons_succ]
                refine wpAnyH_ready (rs := [12]) (by kernel_rfl) (by simp) ?_
                refine AllReadyH.cons rfl (fun K hK => ?_) AllReadyH.nil
                try simp only [Act.put, List.setIfInBounds_toArray, List.set_cons_zero, List.set_cons_succ, List.getElem_toArray, List.getElem_cons_zero, List.getElem_cons_succ]
                go_simp; go_at_call 36; (with_reducible refine (less_q H2.out).mono ?_); rintro eg6 w6 ⟨rfl, g6⟩; have r0 := (g6.cells.1 g _ (Nat.lt_of_lt_of_le hgl zg5)).trans m0; have r1 := (g6.cells.1 g _ (Nat.lt_of_lt_of_le hgl zg5)).trans m1; have r2 := (g6.cells.1 g _ (Nat.lt_of_lt_of_le hgl zg5)).trans m2; have r3 := (g6.cells.1 g _ (Nat.lt_of_lt_of_le hgl zg5)).trans m3; have r4 := (g6.cells.1 g _ (Nat.lt_of_lt_of_le hgl zg5)).trans m4; have r5 := (g6.cells.1 bx _ (Nat.lt_of_lt_of_le hbl zg5)).trans m5; have r6 := (g6.cells.1 bx _ (Nat.lt_of_lt_of_le hbl zg5)).trans m6; have r7 := (g6.cells.1 bx _ (Nat.lt_of_lt_of_le hbl zg5)).trans m7; have r8 := (g6.cells.1 bx _ (Nat.lt_of_lt_of_le hbl zg5)).trans m8; have r9 := (g6.cells.1 bx _ (Nat.lt_of_lt_of_le hbl zg5)).trans m9
                refine hK.out _ _ ?_ (fun hHeld => ?_)
                · (try dsimp only); (refine ⟨?_, ?_, ?_, ?_, ?_, ?_, ?_, ?_, ?_, ?_⟩ <;> (repeat (first | (with_reducible assumption) | (with_reducible refine far_drew ?_))))
                clear hK K
                try simp only [Act.put, List.setIfInBounds_toArray, List.set_cons_zero, List.set_cons_succ, List.getElem_toArray, List.getElem_cons_zero, List.getElem_cons_succ]
                first | refine wpAnyH_take (i := 13) (v := undef) rfl (by kernel_rfl) (by kernel_rfl) (by kernel_rfl) (fun _ _ _ h => h) (Or.inr ⟨by rfl, rfl⟩) (by assumption) ?_ | (refine' wpAnyH_take (i := 13) (v := _) rfl (by kernel_rfl) (by kernel_rfl) (by kernel_rfl) (fun _ _ _ h => h) (Or.inl ⟨by rfl, ?hy13d⟩) (by assumption) ?rest13d; case hy13d => (intro w hSw; (try dsimp only at hSw); (first | (go_simp; done) | (go_simp; with_reducible rfl))))
                try simp only [Act.put, List.setIfInBounds_toArray, List.set_cons_zero, List.set_cons_succ, List.getElem_toArray, List.getElem_cons_zero, List.getElem_cons_succ]
                refine wpAnyH_done (by kernel_rfl) ?_ _
                replace HR := Lib.hid (HR.out.drew.grew g5)
                replace HG4 := Lib.hid (HG4.out.drew.trans g5)
                replace HR := Lib.hid (HR.out.grew g6)
                replace HG4 := Lib.hid (HG4.out.trans g6)
                clear k0 k1 k2 k3 k4 k5 k6 k7 k8 k9 m0 m1 m2 m3 m4 m5 m6 m7 m8 m9 r0 r1 r2 r3 r4 r5 r6 r7 r8 r9 hgl hbl
                obtain ⟨g0, o0, e7, -, hgl, k0, k1, k2, k3, k4⟩ := (HH.out.grew HG4.out).atT hiL
                injection e7 with e7
                injection e7 with e7 e6
                subst e7 e6
                rw [show L.getD i (⟨0, 0, 0, false, false⟩ : Pt) = d from HDD.out] at k0 k1 k2 k3 k4
                obtain ⟨k5, k6, k7, k8, k9⟩ := (HO.out.grew HG4.out).fiveT
                have hbl := (HO.out.grew HG4.out).lt
                go_wp2_with (at_builtin; go_loud (refine wpList_append_row _ rfl (.tmp 52) (.tmp 57) 26 rfl w4.heap.size info_pt Try.underlying26 (by decide) (by decide) encT_len _ (M ++ [x]) rfl (HR.out.alloc _) _ _ d rfl (Mine.Own.new _ _ _) encT_one hx7 (by decide) (by have := HG4.out.size; simp; omega) ?_; intro g7 cap w7 R7 G7 o7; have HR7 := Lib.hid R7; have HG7 := Lib.hid (Grew.keptA (B := w4.heap.size) (HG4.out.alloc _) G7 (fun y e => HR.out.above y e) (Nat.le_refl _)); clear o7 R7 G7))
                go_roundw
                case rel => exact ⟨i + 1, _, true, M ++ [x] ++ [d], rfl, rfl, by go_num, by omega, by simp; omega, HM2, by have h9 := HR7.out; rw [show (M ++ [x]).length = M.length + 1 from by simp] at h9; exact h9, HG7.out⟩
                case measure => simp [intOf]; omega
            · have H1 := Lib.hid hq
              have HM2 : Hid (EnT L x (i + 1) false (M ++ [d])) := Lib.hid (by have := HM.out.a1 hiL (by rw [HDD.out]; exact hq); rw [HDD.out] at this; exact this)
              clear hq HM
              go_upto_region 10 with fail
              refine wp_region_held_drew (S := fun w' => w'.cell? ⟨g, o + i * 5, none⟩ = some (.int .i64 d.p) ∧ w'.cell? ⟨g, o + i * 5 + 1, none⟩ = some (.int .i64 d.v) ∧ w'.cell? ⟨g, o + i * 5 + 2, none⟩ = some (.int .i64 d.f) ∧ w'.cell? ⟨g, o + i * 5 + 3, none⟩ = some (.bool d.w) ∧ w'.cell? ⟨g, o + i * 5 + 4, none⟩ = some (.bool d.a) ∧ w'.cell? ⟨bx, 0, none⟩ = some (.int .i64 x.p) ∧ w'.cell? ⟨bx, 1, none⟩ = some (.int .i64 x.v) ∧ w'.cell? ⟨bx, 2, none⟩ = some (.int .i64 x.f) ∧ w'.cell? ⟨bx, 3, none⟩ = some (.bool x.w) ∧ w'.cell? ⟨bx, 4, none⟩ = some (.bool x.a)) (by kernel_rfl) ?_ (fun hHeld => ?_)
              · (try dsimp only); (refine ⟨?_, ?_, ?_, ?_, ?_, ?_, ?_, ?_, ?_, ?_⟩ <;> (repeat (first | (with_reducible assumption) | (with_reducible refine far_drew ?_))))
              first | refine wpAnyH_take (i := 0) (v := undef) rfl (by kernel_rfl) (by kernel_rfl) (by kernel_rfl) (fun _ _ _ h => h) (Or.inr ⟨by rfl, rfl⟩) (by assumption) ?_ | (refine' wpAnyH_take (i := 0) (v := _) rfl (by kernel_rfl) (by kernel_rfl) (by kernel_rfl) (fun _ _ _ h => h) (Or.inl ⟨by rfl, ?hy0e⟩) (by assumption) ?rest0e; case hy0e => (intro w hSw; (try dsimp only at hSw); (first | (go_simp; done) | (go_simp; with_reducible rfl))))
              try simp only [Act.put, List.setIfInBounds_toArray, List.set_cons_zero, List.set_cons_succ, List.getElem_toArray, List.getElem_cons_zero, List.getElem_cons_succ]
              first | refine wpAnyH_take (i := 1) (v := undef) rfl (by kernel_rfl) (by kernel_rfl) (by kernel_rfl) (fun _ _ _ h => h) (Or.inr ⟨by rfl, rfl⟩) (by assumption) ?_ | (refine' wpAnyH_take (i := 1) (v := _) rfl (by kernel_rfl) (by kernel_rfl) (by kernel_rfl) (fun _ _ _ h => h) (Or.inl ⟨by rfl, ?hy1e⟩) (by assumption) ?rest1e; case hy1e => (intro w hSw; (try dsimp only at hSw); (first | (go_simp; done) | (go_simp; with_reducible rfl))))
              try simp only [Act.put, List.setIfInBounds_toArray, List.set_cons_zero, List.set_cons_succ, List.getElem_toArray, List.getElem_cons_zero, List.getElem_cons_succ]
              first | refine wpAnyH_take (i := 2) (v := undef) rfl (by kernel_rfl) (by kernel_rfl) (by kernel_rfl) (fun _ _ _ h => h) (Or.inr ⟨by rfl, rfl⟩) (by assumption) ?_ | (refine' wpAnyH_take (i := 2) (v := _) rfl (by kernel_rfl) (by kernel_rfl) (by kernel_rfl) (fun _ _ _ h => h) (Or.inl ⟨by rfl, ?hy2e⟩) (by assumption) ?rest2e; case hy2e => (intro w hSw; (try dsimp only at hSw); (first | (go_simp; done) | (go_simp; with_reducible rfl))))
              try simp only [Act.put, List.setIfInBounds_toArray, List.set_cons_zero, List.set_cons_succ, List.getElem_toArray, List.getElem_cons_zero, List.getElem_cons_succ]
              first | refine wpAnyH_take (i := 3) (v := undef) rfl (by kernel_rfl) (by kernel_rfl) (by kernel_rfl) (fun _ _ _ h => h) (Or.inr ⟨by rfl, rfl⟩) (by assumption) ?_ | (refine' wpAnyH_take (i := 3) (v := _) rfl (by kernel_rfl) (by kernel_rfl) (by kernel_rfl) (fun _ _ _ h => h) (Or.inl ⟨by rfl, ?hy3e⟩) (by assumption) ?rest3e; case hy3e => (intro w hSw; (try dsimp only at hSw); (first | (go_simp; done) | (go_simp; with_reducible rfl))))
              try simp only [Act.put, List.setIfInBounds_toArray, List.set_cons_zero, List.set_cons_succ, List.getElem_toArray, List.getElem_cons_zero, List.getElem_cons_succ]
              first | refine wpAnyH_take (i := 4) (v := undef) rfl (by kernel_rfl) (by kernel_rfl) (by kernel_rfl) (fun _ _ _ h => h) (Or.inr ⟨by rfl, rfl⟩) (by assumption) ?_ | (refine' wpAnyH_take (i := 4) (v := _) rfl (by kernel_rfl) (by kernel_rfl) (by kernel_rfl) (fun _ _ _ h => h) (Or.inl ⟨by rfl, ?hy4e⟩) (by assumption) ?rest4e; case hy4e => (intro w hSw; (try dsimp only at hSw); (first | (go_simp; done) | (go_simp; with_reducible rfl))))
              try simp only [Act.put, List.setIfInBounds_toArray, List.set_cons_zero, List.set_cons_succ, List.getElem_toArray, List.getElem_cons_zero, List.getElem_cons_succ]
              first | refine wpAnyH_take (i := 5) (v := undef) rfl (by kernel_rfl) (by kernel_rfl) (by kernel_rfl) (fun _ _ _ h => h) (Or.inr ⟨by rfl, rfl⟩) (by assumption) ?_ | (refine' wpAnyH_take (i := 5) (v := _) rfl (by kernel_rfl) (by kernel_rfl) (by kernel_rfl) (fun _ _ _ h => h) (Or.inl ⟨by rfl, ?hy5e⟩) (by assumption) ?rest5e; case hy5e => (intro w hSw; (try dsimp only at hSw); (first | (go_simp; done) | (go_simp; with_reducible rfl))))
              try simp only [Act.put, List.setIfInBounds_toArray, List.set_cons_zero, List.set_cons_succ, List.getElem_toArray, List.getElem_cons_zero, List.getElem_cons_succ]
              first | refine wpAnyH_take (i := 6) (v := undef) rfl (by kernel_rfl) (by kernel_rfl) (by kernel_rfl) (fun _ _ _ h => h) (Or.inr ⟨by rfl, rfl⟩) (by assumption) ?_ | (refine' wpAnyH_take (i := 6) (v := _) rfl (by kernel_rfl) (by kernel_rfl) (by kernel_rfl) (fun _ _ _ h => h) (Or.inl ⟨by rfl, ?hy6e⟩) (by assumption) ?rest6e; case hy6e => (intro w hSw; (try dsimp only at hSw); (first | (go_simp; done) | (go_simp; with_reducible rfl))))
              try simp only [Act.put, List.setIfInBounds_toArray, List.set_cons_zero, List.set_cons_succ, List.getElem_toArray, List.getElem_cons_zero, List.getElem_cons_succ]
              first | refine wpAnyH_take (i := 7) (v := undef) rfl (by kernel_rfl) (by kernel_rfl) (by kernel_rfl) (fun _ _ _ h => h) (Or.inr ⟨by rfl, rfl⟩) (by assumption) ?_ | (refine' wpAnyH_take (i := 7) (v := _) rfl (by kernel_rfl) (by kernel_rfl) (by kernel_rfl) (fun _ _ _ h => h) (Or.inl ⟨by rfl, ?hy7e⟩) (by assumption) ?rest7e; case hy7e => (intro w hSw; (try dsimp only at hSw); (first | (go_simp; done) | (go_simp; with_reducible rfl))))
              try simp only [Act.put, List.setIfInBounds_toArray, List.set_cons_zero, List.set_cons_succ, List.getElem_toArray, List.getElem_cons_zero, List.getElem_cons_succ]
              refine wpAnyH_ready (rs := [8]) (by kernel_rfl) (by simp) ?_
              refine AllReadyH.cons rfl (fun K hK => ?_) AllReadyH.nil
              try simp only [Act.put, List.setIfInBounds_toArray, List.set_cons_zero, List.set_cons_succ, List.getElem_toArray, List.getElem_cons_zero, List.getElem_cons_succ]
              go_simp; go_at_call 36; (with_reducible refine (less_q H1.out).mono ?_); rintro eg3 w3 ⟨rfl, g3⟩; have zg3 := g3.size; have m0 := (g3.cells.1 g _ hgl).trans (far_drew k0); have m1 := (g3.cells.1 g _ hgl).trans (far_drew k1); have m2 := (g3.cells.1 g _ hgl).trans (far_drew k2); have m3 := (g3.cells.1 g _ hgl).trans (far_drew k3); have m4 := (g3.cells.1 g _ hgl).trans (far_drew k4); have m5 := (g3.cells.1 bx _ hbl).trans (far_drew k5); have m6 := (g3.cells.1 bx _ hbl).trans (far_drew k6); have m7 := (g3.cells.1 bx _ hbl).trans (far_drew k7); have m8 := (g3.cells.1 bx _ hbl).trans (far_drew k8); have m9 := (g3.cells.1 bx _ hbl).trans (far_drew k9)
              refine hK.out _ _ ?_ (fun hHeld => ?_)
              · (try dsimp only); (refine ⟨?_, ?_, ?_, ?_, ?_, ?_, ?_, ?_, ?_, ?_⟩ <;> (repeat (first | (with_reducible assumption) | (with_reducible refine far_drew ?_))))
              clear hK K
              try simp only [Act.put, List.setIfInBounds_toArray, List.set_cons_zero, List.set_cons_succ, List.getElem_toArray, List.getElem_cons_zero, List.getElem_cons_succ]
              first | refine wpAnyH_take (i := 9) (v := undef) rfl (by kernel_rfl) (by kernel_rfl) (by kernel_rfl) (fun _ _ _ h => h) (Or.inr ⟨by rfl, rfl⟩) (by assumption) ?_ | (refine' wpAnyH_take (i := 9) (v := _) rfl (by kernel_rfl) (by kernel_rfl) (by kernel_rfl) (fun _ _ _ h => h) (Or.inl ⟨by rfl, ?hy9e⟩) (by assumption) ?rest9e; case hy9e => (intro w hSw; (try dsimp only at hSw); (first | (go_simp; done) | (go_simp; with_reducible rfl))))
              try simp only [Act.put, List.setIfInBounds_toArray, List.set_cons_zero, List.set_cons_succ, List.getElem_toArray, List.getElem_cons_zero, List.getElem_cons_succ]
              first | refine wpAnyH_take (i := 10) (v := undef) rfl (by kernel_rfl) (by kernel_rfl) (by kernel_rfl) (fun _ _ _ h => h) (Or.inr ⟨by rfl, rfl⟩) (by assumption) ?_ | (refine' wpAnyH_take (i := 10) (v := _) rfl (by kernel_rfl) (by kernel_rfl) (by kernel_rfl) (fun _ _ _ h => h) (Or.inl ⟨by rfl, ?hy10e⟩) (by assumption) ?rest10e; case hy10e => (intro w hSw; (try dsimp only at hSw); (first | (go_simp; done) | (go_simp; with_reducible rfl))))
              try simp only [Act.put, List.setIfInBounds_toArray, List.set_cons_zero, List.set_cons_succ, List.getElem_toArray, List.getElem_cons_zero, List.getElem_cons_succ]
              refine wpAnyH_done (by kernel_rfl) ?_ _
              replace HR := Lib.hid (HR.out.drew.grew g3)
              replace HG4 := Lib.hid (HG4.out.drew.trans g3)
              clear k0 k1 k2 k3 k4 k5 k6 k7 k8 k9
              clear hgl hbl m0 m1 m2 m3 m4 m5 m6 m7 m8 m9 zg3
              obtain ⟨g0, o0, e7, -, hgl, k0, k1, k2, k3, k4⟩ := (HH.out.grew HG4.out).atT hiL
              injection e7 with e7
              injection e7 with e7 e6
              subst e7 e6
              rw [show L.getD i (⟨0, 0, 0, false, false⟩ : Pt) = d from HDD.out] at k0 k1 k2 k3 k4
              obtain ⟨k5, k6, k7, k8, k9⟩ := (HO.out.grew HG4.out).fiveT
              have hbl := (HO.out.grew HG4.out).lt
              go_upto_region 13 with fail
              refine wp_region_held_drew (S := fun w' => w'.cell? ⟨g, o + i * 5, none⟩ = some (.int .i64 d.p) ∧ w'.cell? ⟨g, o + i * 5 + 1, none⟩ = some (.int .i64 d.v) ∧ w'.cell? ⟨g, o + i * 5 + 2, none⟩ = some (.int .i64 d.f) ∧ w'.cell? ⟨g, o + i * 5 + 3, none⟩ = some (.bool d.w) ∧ w'.cell? ⟨g, o + i * 5 + 4, none⟩ = some (.bool d.a) ∧ w'.cell? ⟨bx, 0, none⟩ = some (.int .i64 x.p) ∧ w'.cell? ⟨bx, 1, none⟩ = some (.int .i64 x.v) ∧ w'.cell? ⟨bx, 2, none⟩ = some (.int .i64 x.f) ∧ w'.cell? ⟨bx, 3, none⟩ = some (.bool x.w) ∧ w'.cell? ⟨bx, 4, none⟩ = some (.bool x.a)) (by kernel_rfl) ?_ (fun hHeld => ?_)
              · (try dsimp only); (refine ⟨?_, ?_, ?_, ?_, ?_, ?_, ?_, ?_, ?_, ?_⟩ <;> (repeat (first | (with_reducible assumption) | (with_reducible refine far_drew ?_))))
              first | refine wpAnyH_take (i := 0) (v := undef) rfl (by kernel_rfl) (by kernel_rfl) (by kernel_rfl) (fun _ _ _ h => h) (Or.inr ⟨by rfl, rfl⟩) (by assumption) ?_ | (refine' wpAnyH_take (i := 0) (v := _) rfl (by kernel_rfl) (by kernel_rfl) (by kernel_rfl) (fun _ _ _ h => h) (Or.inl ⟨by rfl, ?hy0f⟩) (by assumption) ?rest0f; case hy0f => (intro w hSw; (try dsimp only at hSw); (first | (go_simp; done) | (go_simp; with_reducible rfl))))
              try simp only [Act.put, List.setIfInBounds_toArray, List.set_cons_zero, List.set_cons_succ, List.getElem_toArray, List.getElem_cons_zero, List.getElem_cons_succ]
              first | refine wpAnyH_take (i := 1) (v := undef) rfl (by kernel_rfl) (by kernel_rfl) (by kernel_rfl) (fun _ _ _ h => h) (Or.inr ⟨by rfl, rfl⟩) (by assumption) ?_ | (refine' wpAnyH_take (i := 1) (v := _) rfl (by kernel_rfl) (by kernel_rfl) (by kernel_rfl) (fun _ _ _ h => h) (Or.inl ⟨by rfl, ?hy1f⟩) (by assumption) ?rest1f; case hy1f => (intro w hSw; (try dsimp only at hSw); (first | (go_simp; done) | (go_simp; with_reducible rfl))))
              try simp only [Act.put, List.setIfInBounds_toArray, List.set_cons_zero, List.set_cons_succ, List.getElem_toArray, List.getElem_cons_zero, List.getElem_cons_succ]
              first | refine wpAnyH_take (i := 2) (v := undef) rfl (by kernel_rfl) (by kernel_rfl) (by kernel_rfl) (fun _ _ _ h => h) (Or.inr ⟨by rfl, rfl⟩) (by assumption) ?_ | (refine' wpAnyH_take (i := 2) (v := _) rfl (by kernel_rfl) (by kernel_rfl) (by kernel_rfl) (fun _ _ _ h => h) (Or.inl ⟨by rfl, ?hy2f⟩) (by assumption) ?rest2f; case hy2f => (intro w hSw; (try dsimp only at hSw); (first | (go_simp; done) | (go_simp; with_reducible rfl))))
              try simp only [Act.put, List.setIfInBounds_toArray, List.set_cons_zero, List.set_cons_succ, List.getElem_toArray, List.getElem_cons_zero, List.getElem_cons_succ]
              first | refine wpAnyH_take (i := 3) (v := undef) rfl (by kernel_rfl) (by kernel_rfl) (by kernel_rfl) (fun _ _ _ h => h) (Or.inr ⟨by rfl, rfl⟩) (by assumption) ?_ | (refine' wpAnyH_take (i := 3) (v := _) rfl (by kernel_rfl) (by kernel_rfl) (by kernel_rfl) (fun _ _ _ h => h) (Or.inl ⟨by rfl, ?hy3f⟩) (by assumption) ?rest3f; case hy3f => (intro w hSw; (try dsimp only at hSw); (first | (go_simp; done) | (go_simp; with_reducible rfl))))
              try simp only [Act.put, List.setIfInBounds_toArray, List.set_cons_zero, List.set_cons_succ, List.getElem_toArray, List.getElem_cons_zero, List.getElem_cons_succ]
              first | refine wpAnyH_take (i := 4) (v := undef) rfl (by kernel_rfl) (by kernel_rfl) (by kernel_rfl) (fun _ _ _ h => h) (Or.inr ⟨by rfl, rfl⟩) (by assumption) ?_ | (refine' wpAnyH_take (i := 4) (v := _) rfl (by kernel_rfl) (by kernel_rfl) (by kernel_rfl) (fun _ _ _ h => h) (Or.inl ⟨by rfl, ?hy4f⟩) (by assumption) ?rest4f; case hy4f => (intro w hSw; (try dsimp only at hSw); (first | (go_simp; done) | (go_simp; with_reducible rfl))))
              try simp only [Act.put, List.setIfInBounds_toArray, List.set_cons_zero, List.set_cons_succ, List.getElem_toArray, List.getElem_cons_zero, List.getElem_cons_succ]
              refine wpAnyH_ready (rs := [5]) (by kernel_rfl) (by simp) ?_
              refine AllReadyH.cons rfl (fun K hK => ?_) AllReadyH.nil
              try simp only [Act.put, List.setIfInBounds_toArray, List.set_cons_zero, List.set_cons_succ, List.getElem_toArray, List.getElem_cons_zero, List.getElem_cons_succ]
              go_simp; go_at_call 36; (with_reducible refine (less_q H1.out).mono ?_); rintro eg5 w5 ⟨rfl, g5⟩; have zg5 := g5.size; have m0 := (g5.cells.1 g _ hgl).trans (far_drew k0); have m1 := (g5.cells.1 g _ hgl).trans (far_drew k1); have m2 := (g5.cells.1 g _ hgl).trans (far_drew k2); have m3 := (g5.cells.1 g _ hgl).trans (far_drew k3); have m4 := (g5.cells.1 g _ hgl).trans (far_drew k4); have m5 := (g5.cells.1 bx _ hbl).trans (far_drew k5); have m6 := (g5.cells.1 bx _ hbl).trans (far_drew k6); have m7 := (g5.cells.1 bx _ hbl).trans (far_drew k7); have m8 := (g5.cells.1 bx _ hbl).trans (far_drew k8); have m9 := (g5.cells.1 bx _ hbl).trans (far_drew k9)
              refine hK.out _ _ ?_ (fun hHeld => ?_)
              · (try dsimp only); (refine ⟨?_, ?_, ?_, ?_, ?_, ?_, ?_, ?_, ?_, ?_⟩ <;> (repeat (first | (with_reducible assumption) | (with_reducible refine far_drew ?_))))
              clear hK K
              try simp only [Act.put, List.setIfInBounds_toArray, List.set_cons_zero, List.set_cons_succ, List.getElem_toArray, List.getElem_cons_zero, List.getElem_cons_succ]
              first | refine wpAnyH_take (i := 6) (v := undef) rfl (by kernel_rfl) (by kernel_rfl) (by kernel_rfl) (fun _ _ _ h => h) (Or.inr ⟨by rfl, rfl⟩) (by assumption) ?_ | (refine' wpAnyH_take (i := 6) (v := _) rfl (by kernel_rfl) (by kernel_rfl) (by kernel_rfl) (fun _ _ _ h => h) (Or.inl ⟨by rfl, ?hy6f⟩) (by assumption) ?rest6f; case hy6f => (intro w hSw; (try dsimp only at hSw); (first | (go_simp; done) | (go_simp; with_reducible rfl))))
              try simp only [Act.put, List.setIfInBounds_toArray, List.set_cons_zero, List.set_cons_succ, List.getElem_toArray, List.getElem_cons_zero, List.getElem_cons_succ]
              first | refine wpAnyH_take (i := 7) (v := undef) rfl (by kernel_rfl) (by kernel_rfl) (by kernel_rfl) (fun _ _ _ h => h) (Or.inr ⟨by rfl, rfl⟩) (by assumption) ?_ | (refine' wpAnyH_take (i := 7) (v := _) rfl (by kernel_rfl) (by kernel_rfl) (by kernel_rfl) (fun _ _ _ h => h) (Or.inl ⟨by rfl, ?hy7f⟩) (by assumption) ?rest7f; case hy7f => (intro w hSw; (try dsimp only at hSw); (first | (go_simp; done) | (go_simp; with_reducible rfl))))
              try simp only [Act.put, List.setIfInBounds_toArray, List.set_cons_zero, List.set_cons_succ, List.getElem_toArray, List.getElem_cons_zero, List.getElem_cons_succ]
              first | refine wpAnyH_take (i := 8) (v := undef) rfl (by kernel_rfl) (by kernel_rfl) (by kernel_rfl) (fun _ _ _ h => h) (Or.inr ⟨by rfl, rfl⟩) (by assumption) ?_ | (refine' wpAnyH_take (i := 8) (v := _) rfl (by kernel_rfl) (by kernel_rfl) (by kernel_rfl) (fun _ _ _ h => h) (Or.inl ⟨by rfl, ?hy8f⟩) (by assumption) ?rest8f; case hy8f => (intro w hSw; (try dsimp only at hSw); (first | (go_simp; done) | (go_simp; with_reducible rfl))))
              try simp only [Act.put, List.setIfInBounds_toArray, List.set_cons_zero, List.set_cons_succ, List.getElem_toArray, List.getElem_cons_zero, List.getElem_cons_succ]
              first | refine wpAnyH_take (i := 9) (v := undef) rfl (by kernel_rfl) (by kernel_rfl) (by kernel_rfl) (fun _ _ _ h => h) (Or.inr ⟨by rfl, rfl⟩) (by assumption) ?_ | (refine' wpAnyH_take (i := 9) (v := _) rfl (by kernel_rfl) (by kernel_rfl) (by kernel_rfl) (fun _ _ _ h => h) (Or.inl ⟨by rfl, ?hy9f⟩) (by assumption) ?rest9f; case hy9f => (intro w hSw; (try dsimp only at hSw); (first | (go_simp; done) | (go_simp; with_reducible rfl))))
              try simp only [Act.put, List.setIfInBounds_toArray, List.set_cons_zero, List.set_cons_succ, List.getElem_toArray, List.getElem_cons_zero, List.getElem_cons_succ]
              first | refine wpAnyH_take (i := 10) (v := undef) rfl (by kernel_rfl) (by kernel_rfl) (by kernel_rfl) (fun _ _ _ h => h) (Or.inr ⟨by rfl, rfl⟩) (by assumption) ?_ | (refine' wpAnyH_take (i := 10) (v := _) rfl (by kernel_rfl) (by kernel_rfl) (by kernel_rfl) (fun _ _ _ h => h) (Or.inl ⟨by rfl, ?hy10f⟩) (by assumption) ?rest10f; case hy10f => (intro w hSw; (try dsimp only at hSw); (first | (go_simp; done) | (go_simp; with_reducible rfl))))
              try simp only [Act.put, List.setIfInBounds_toArray, List.set_cons_zero, List.set_cons_succ, List.getElem_toArray, List.getElem_cons_zero, List.getElem_cons_succ]
              first | refine wpAnyH_take (i := 11) (v := undef) rfl (by kernel_rfl) (by kernel_rfl) (by kernel_rfl) (fun _ _ _ h => h) (Or.inr ⟨by rfl, rfl⟩) (by assumption) ?_ | (refine' wpAnyH_take (i := 11) (v := _) rfl (by kernel_rfl) (by kernel_rfl) (by kernel_rfl) (fun _ _ _ h => h) (Or.inl ⟨by rfl, ?hy11f⟩) (by assumption) ?rest11f; case hy11f => (intro w hSw; (try dsimp only at hSw); (first | (go_simp; done) | (go_simp; with_reducible rfl))))
              try simp only [Act.put, List.setIfInBounds_toArray, List.set_cons_zero, List.set_cons_succ, List.getElem_toArray, List.getElem_cons_zero, List.getElem_cons_succ]
              first | refine wpAnyH_take (i := 12) (v := undef) rfl (by kernel_rfl) (by kernel_rfl) (by kernel_rfl) (fun _ _ _ h => h) (Or.inr ⟨by rfl, rfl⟩) (by assumption) ?_ | (refine' wpAnyH_take (i := 12) (v := _) rfl (by kernel_rfl) (by kernel_rfl) (by kernel_rfl) (fun _ _ _ h => h) (Or.inl ⟨by rfl, ?hy12f⟩) (by assumption) ?rest12f; case hy12f => (intro w hSw; (try dsimp only at hSw); (first | (go_simp; done) | (go_simp; with_reducible rfl))))
              try simp only [Act.put, List.setIfInBounds_toArray, List.set_cons_zero, List.set_cons_succ, List.getElem_toArray, List.getElem_cons_zero, List.getElem_cons_succ]
              first | refine wpAnyH_take (i := 13) (v := undef) rfl (by kernel_rfl) (by kernel_rfl) (by kernel_rfl) (fun _ _ _ h => h) (Or.inr ⟨by rfl, rfl⟩) (by assumption) ?_ | (refine' wpAnyH_take (i := 13) (v := _) rfl (by kernel_rfl) (by kernel_rfl) (by kernel_rfl) (fun _ _ _ h => h) (Or.inl ⟨by rfl, ?hy13f⟩) (by assumption) ?rest13f; case hy13f => (intro w hSw; (try dsimp only at hSw); (first | (go_simp; done) | (go_simp; with_reducible rfl))))
              try simp only [Act.put, List.setIfInBounds_toArray, List.set_cons_zero, List.set_cons_succ, List.getElem_toArray, List.getElem_cons_zero, List.getElem_cons_succ]
              refine wpAnyH_done (by kernel_rfl) ?_ _
              replace HR := Lib.hid (HR.out.drew.grew g5)
              replace HG4 := Lib.hid (HG4.out.drew.trans g5)
              clear k0 k1 k2 k3 k4 k5 k6 k7 k8 k9 m0 m1 m2 m3 m4 m5 m6 m7 m8 m9 hgl hbl
              obtain ⟨g0, o0, e7, -, hgl, k0, k1, k2, k3, k4⟩ := (HH.out.grew HG4.out).atT hiL
              injection e7 with e7
              injection e7 with e7 e6
              subst e7 e6
              rw [show L.getD i (⟨0, 0, 0, false, false⟩ : Pt) = d from HDD.out] at k0 k1 k2 k3 k4
              obtain ⟨k5, k6, k7, k8, k9⟩ := (HO.out.grew HG4.out).fiveT
              have hbl := (HO.out.grew HG4.out).lt
              go_wp2_with (at_builtin; go_loud (refine wpList_append_row _ rfl (.tmp 52) (.tmp 57) 26 rfl w4.heap.size info_pt Try.underlying26 (by decide) (by decide) encT_len _ M rfl (HR.out.alloc _) _ _ d rfl (Mine.Own.new _ _ _) encT_one hx6 (by decide) (by have := HG4.out.size; simp; omega) ?_; intro g7 cap w7 R7 G7 o7; have HR7 := Lib.hid R7; have HG7 := Lib.hid (Grew.keptA (B := w4.heap.size) (HG4.out.alloc _) G7 (fun y e => HR.out.above y e) (Nat.le_refl _)); clear o7 R7 G7))
              go_roundw
              case rel => exact ⟨i + 1, _, false, M ++ [d], rfl, rfl, by go_num, by omega, by simp; omega, HM2, HR7.out, HG7.out⟩
              case measure => simp [intOf]; omega
          · have hqk := HM.out.b0 hiL HOK.out
            rw [HDD.out] at hqk
            have H1 := Lib.hid hqk.1
            have H2 := Lib.hid hqk.2
            have HM2 : Hid (EnT L x (i + 1) true (M ++ [d])) := Lib.hid (by have := HM.out.b1 hiL; rw [HDD.out] at this; exact this)
            clear hqk HM
            go_upto_region 10 with fail
            refine wp_region_held_drew (S := fun w' => w'.cell? ⟨g, o + i * 5, none⟩ = some (.int .i64 d.p) ∧ w'.cell? ⟨g, o + i * 5 + 1, none⟩ = some (.int .i64 d.v) ∧ w'.cell? ⟨g, o + i * 5 + 2, none⟩ = some (.int .i64 d.f) ∧ w'.cell? ⟨g, o + i * 5 + 3, none⟩ = some (.bool d.w) ∧ w'.cell? ⟨g, o + i * 5 + 4, none⟩ = some (.bool d.a) ∧ w'.cell? ⟨bx, 0, none⟩ = some (.int .i64 x.p) ∧ w'.cell? ⟨bx, 1, none⟩ = some (.int .i64 x.v) ∧ w'.cell? ⟨bx, 2, none⟩ = some (.int .i64 x.f) ∧ w'.cell? ⟨bx, 3, none⟩ = some (.bool x.w) ∧ w'.cell? ⟨bx, 4, none⟩ = some (.bool x.a)) (by kernel_rfl) ?_ (fun hHeld => ?_)
            · (try dsimp only); (refine ⟨?_, ?_, ?_, ?_, ?_, ?_, ?_, ?_, ?_, ?_⟩ <;> (repeat (first | (with_reducible assumption) | (with_reducible refine far_drew ?_))))
            first | refine wpAnyH_take (i := 0) (v := undef) rfl (by kernel_rfl) (by kernel_rfl) (by kernel_rfl) (fun _ _ _ h => h) (Or.inr ⟨by rfl, rfl⟩) (by assumption) ?_ | (refine' wpAnyH_take (i := 0) (v := _) rfl (by kernel_rfl) (by kernel_rfl) (by kernel_rfl) (fun _ _ _ h => h) (Or.inl ⟨by rfl, ?hy0g⟩) (by assumption) ?rest0g; case hy0g => (intro w hSw; (try dsimp only at hSw); (first | (go_simp; done) | (go_simp; with_reducible rfl))))
            try simp only [Act.put, List.setIfInBounds_toArray, List.set_cons_zero, List.set_cons_succ, List.getElem_toArray, List.getElem_cons_zero, List.getElem_cons_succ]
            first | refine wpAnyH_take (i := 1) (v := undef) rfl (by kernel_rfl) (by kernel_rfl) (by kernel_rfl) (fun _ _ _ h => h) (Or.inr ⟨by rfl, rfl⟩) (by assumption) ?_ | (refine' wpAnyH_take (i := 1) (v := _) rfl (by kernel_rfl) (by kernel_rfl) (by kernel_rfl) (fun _ _ _ h => h) (Or.inl ⟨by rfl, ?hy1g⟩) (by assumption) ?rest1g; case hy1g => (intro w hSw; (try dsimp only at hSw); (first | (go_simp; done) | (go_simp; with_reducible rfl))))
            try simp only [Act.put, List.setIfInBounds_toArray, List.set_cons_zero, List.set_cons_succ, List.getElem_toArray, List.getElem_cons_zero, List.getElem_cons_succ]
            first | refine wpAnyH_take (i := 2) (v := undef) rfl (by kernel_rfl) (by kernel_rfl) (by kernel_rfl) (fun _ _ _ h => h) (Or.inr ⟨by rfl, rfl⟩) (by assumption) ?_ | (refine' wpAnyH_take (i := 2) (v := _) rfl (by kernel_rfl) (by kernel_rfl) (by kernel_rfl) (fun _ _ _ h => h) (Or.inl ⟨by rfl, ?hy2g⟩) (by assumption) ?rest2g; case hy2g => (intro w hSw; (try dsimp only at hSw); (first | (go_simp; done) | (go_simp; with_reducible rfl))))
            try simp only [Act.put, List.setIfInBounds_toArray, List.set_cons_zero, List.set_cons_succ, List.getElem_toArray, List.getElem_cons_zero, List.getElem_cons_succ]
            first | refine wpAnyH_take (i := 3) (v := undef) rfl (by kernel_rfl) (by kernel_rfl) (by kernel_rfl) (fun _ _ _ h => h) (Or.inr ⟨by rfl, rfl⟩) (by assumption) ?_ | (refine' wpAnyH_take (i := 3) (v := _) rfl (by kernel_rfl) (by kernel_rfl) (by kernel_rfl) (fun _ _ _ h => h) (Or.inl ⟨by rfl, ?hy3g⟩) (by assumption) ?rest3g; case hy3g => (intro w hSw; (try dsimp only at hSw); (first | (go_simp; done) | (go_simp; with_reducible rfl))))
            try simp only [Act.put, List.setIfInBounds_toArray, List.set_cons_zero, List.set_cons_succ, List.getElem_toArray, List.getElem_cons_zero, List.getElem_cons_succ]
            first | refine wpAnyH_take (i := 4) (v := undef) rfl (by kernel_rfl) (by kernel_rfl) (by kernel_rfl) (fun _ _ _ h => h) (Or.inr ⟨by rfl, rfl⟩) (by assumption) ?_ | (refine' wpAnyH_take (i := 4) (v := _) rfl (by kernel_rfl) (by kernel_rfl) (by kernel_rfl) (fun _ _ _ h => h) (Or.inl ⟨by rfl, ?hy4g⟩) (by assumption) ?rest4g; case hy4g => (intro w hSw; (try dsimp only at hSw); (first | (go_simp; done) | (go_simp; with_reducible rfl))))
            try simp only [Act.put, List.setIfInBounds_toArray, List.set_cons_zero, List.set_cons_succ, List.getElem_toArray, List.getElem_cons_zero, List.getElem_cons_succ]
            first | refine wpAnyH_take (i := 5) (v := undef) rfl (by kernel_rfl) (by kernel_rfl) (by kernel_rfl) (fun _ _ _ h => h) (Or.inr ⟨by rfl, rfl⟩) (by assumption) ?_ | (refine' wpAnyH_take (i := 5) (v := _) rfl (by kernel_rfl) (by kernel_rfl) (by kernel_rfl) (fun _ _ _ h => h) (Or.inl ⟨by rfl, ?hy5g⟩) (by assumption) ?rest5g; case hy5g => (intro w hSw; (try dsimp only at hSw); (first | (go_simp; done) | (go_simp; with_reducible rfl))))
            try simp only [Act.put, List.setIfInBounds_toArray, List.set_cons_zero, List.set_cons_succ, List.getElem_toArray, List.getElem_cons_zero, List.getElem_cons_succ]
            first | refine wpAnyH_take (i := 6) (v := undef) rfl (by kernel_rfl) (by kernel_rfl) (by kernel_rfl) (fun _ _ _ h => h) (Or.inr ⟨by rfl, rfl⟩) (by assumption) ?_ | (refine' wpAnyH_take (i := 6) (v := _) rfl (by kernel_rfl) (by kernel_rfl) (by kernel_rfl) (fun _ _ _ h => h) (Or.inl ⟨by rfl, ?hy6g⟩) (by assumption) ?rest6g; case hy6g => (intro w hSw; (try dsimp only at hSw); (first | (go_simp; done) | (go_simp; with_reducible rfl))))
            try simp only [Act.put, List.setIfInBounds_toArray, List.set_cons_zero, List.set_cons_succ, List.getElem_toArray, List.getElem_cons_zero, List.getElem_cons_succ]
            first | refine wpAnyH_take (i := 7) (v := undef) rfl (by kernel_rfl) (by kernel_rfl) (by kernel_rfl) (fun _ _ _ h => h) (Or.inr ⟨by rfl, rfl⟩) (by assumption) ?_ | (refine' wpAnyH_take (i := 7) (v := _) rfl (by kernel_rfl) (by kernel_rfl) (by kernel_rfl) (fun _ _ _ h => h) (Or.inl ⟨by rfl, ?hy7g⟩) (by assumption) ?rest7g; case hy7g => (intro w hSw; (try dsimp only at hSw); (first | (go_simp; done) | (go_simp; with_reducible rfl))))
            try simp only [Act.put, List.setIfInBounds_toArray, List.set_cons_zero, List.set_cons_succ, List.getElem_toArray, List.getElem_cons_zero, List.getElem_cons_succ]
            first | refine wpAnyH_take (i := 8) (v := undef) rfl (by kernel_rfl) (by kernel_rfl) (by kernel_rfl) (fun _ _ _ h => h) (Or.inr ⟨by rfl, rfl⟩) (by assumption) ?_ | (refine' wpAnyH_take (i := 8) (v := _) rfl (by kernel_rfl) (by kernel_rfl) (by kernel_rfl) (fun _ _ _ h => h) (Or.inl ⟨by rfl, ?hy8g⟩) (by assumption) ?rest8g; case hy8g => (intro w hSw; (try dsimp only at hSw); (first | (go_simp; done) | (go_simp; with_reducible rfl))))
            try simp only [Act.put, List.setIfInBounds_toArray, List.set_cons_zero, List.set_cons_succ, List.getElem_toArray, List.getElem_cons_zero, List.getElem_cons_succ]
            first | refine wpAnyH_take (i := 9) (v := undef) rfl (by kernel_rfl) (by kernel_rfl) (by kernel_rfl) (fun _ _ _ h => h) (Or.inr ⟨by rfl, rfl⟩) (by assumption) ?_ | (refine' wpAnyH_take (i := 9) (v := _) rfl (by kernel_rfl) (by kernel_rfl) (by kernel_rfl) (fun _ _ _ h => h) (Or.inl ⟨by rfl, ?hy9g⟩) (by assumption) ?rest9g; case hy9g => (intro w hSw; (try dsimp only at hSw); (first | (go_simp; done) | (go_simp; with_reducible rfl))))
            try simp only [Act.put, List.setIfInBounds_toArray, List.set_cons_zero, List.set_cons_succ, List.getElem_toArray, List.getElem_cons_zero, List.getElem_cons_succ]
            first | refine wpAnyH_take (i := 10) (v := undef) rfl (by kernel_rfl) (by kernel_rfl) (by kernel_rfl) (fun _ _ _ h => h) (Or.inr ⟨by rfl, rfl⟩) (by assumption) ?_ | (refine' wpAnyH_take (i := 10) (v := _) rfl (by kernel_rfl) (by kernel_rfl) (by kernel_rfl) (fun _ _ _ h => h) (Or.inl ⟨by rfl, ?hy10g⟩) (by assumption) ?rest10g; case hy10g => (intro w hSw; (try dsimp only at hSw); (first | (go_simp; done) | (go_simp; with_reducible rfl))))
            try simp only [Act.put, List.setIfInBounds_toArray, List.set_cons_zero, List.set_cons_succ, List.getElem_toArray, List.getElem_cons_zero, List.getElem_cons_succ]
            refine wpAnyH_done (by kernel_rfl) ?_ _
            replace HR := Lib.hid HR.out.drew
            replace HG4 := Lib.hid HG4.out.drew
            clear hgl hbl k0 k1 k2 k3 k4 k5 k6 k7 k8 k9
            obtain ⟨g0, o0, e7, -, hgl, k0, k1, k2, k3, k4⟩ := (HH.out.grew HG4.out).atT hiL
            injection e7 with e7
            injection e7 with e7 e6
            subst e7 e6
            rw [show L.getD i (⟨0, 0, 0, false, false⟩ : Pt) = d from HDD.out] at k0 k1 k2 k3 k4
            obtain ⟨k5, k6, k7, k8, k9⟩ := (HO.out.grew HG4.out).fiveT
            have hbl := (HO.out.grew HG4.out).lt
            go_upto_region 13 with fail
            refine wp_region_held_drew (S := fun w' => w'.cell? ⟨g, o + i * 5, none⟩ = some (.int .i64 d.p) ∧ w'.cell? ⟨g, o + i * 5 + 1, none⟩ = some (.int .i64 d.v) ∧ w'.cell? ⟨g, o + i * 5 + 2, none⟩ = some (.int .i64 d.f) ∧ w'.cell? ⟨g, o + i * 5 + 3, none⟩ = some (.bool d.w) ∧ w'.cell? ⟨g, o + i * 5 + 4, none⟩ = some (.bool d.a) ∧ w'.cell? ⟨bx, 0, none⟩ = some (.int .i64 x.p) ∧ w'.cell? ⟨bx, 1, none⟩ = some (.int .i64 x.v) ∧ w'.cell? ⟨bx, 2, none⟩ = some (.int .i64 x.f) ∧ w'.cell? ⟨bx, 3, none⟩ = some (.bool x.w) ∧ w'.cell? ⟨bx, 4, none⟩ = some (.bool x.a)) (by kernel_rfl) ?_ (fun hHeld => ?_)
            · (try dsimp only); (refine ⟨?_, ?_, ?_, ?_, ?_, ?_, ?_, ?_, ?_, ?_⟩ <;> (repeat (first | (with_reducible assumption) | (with_reducible refine far_drew ?_))))
            first | refine wpAnyH_take (i := 0) (v := undef) rfl (by kernel_rfl) (by kernel_rfl) (by kernel_rfl) (fun _ _ _ h => h) (Or.inr ⟨by rfl, rfl⟩) (by assumption) ?_ | (refine' wpAnyH_take (i := 0) (v := _) rfl (by kernel_rfl) (by kernel_rfl) (by kernel_rfl) (fun _ _ _ h => h) (Or.inl ⟨by rfl, ?hy0h⟩) (by assumption) ?rest0h; case hy0h => (intro w hSw; (try dsimp only at hSw); (first | (go_simp; done) | (go_simp; with_reducible rfl))))
            try simp only [Act.put, List.setIfInBounds_toArray, List.set_cons_zero, List.set_cons_succ, List.getElem_toArray, List.getElem_cons_zero, List.getElem_cons_succ]
            first | refine wpAnyH_take (i := 1) (v := undef) rfl (by kernel_rfl) (by kernel_rfl) (by kernel_rfl) (fun _ _ _ h => h) (Or.inr ⟨by rfl, rfl⟩) (by assumption) ?_ | (refine' wpAnyH_take (i := 1) (v := _) rfl (by kernel_rfl) (by kernel_rfl) (by kernel_rfl) (fun _ _ _ h => h) (Or.inl ⟨by rfl, ?hy1h⟩) (by assumption) ?rest1h; case hy1h => (intro w hSw; (try dsimp only at hSw); (first | (go_simp; done) | (go_simp; with_reducible rfl))))
            try simp only [Act.put, List.setIfInBounds_toArray, List.set_cons_zero, List.set_cons_succ, List.getElem_toArray, List.getElem_cons_zero, List.getElem_cons_succ]
            first | refine wpAnyH_take (i := 2) (v := undef) rfl (by kernel_rfl) (by kernel_rfl) (by kernel_rfl) (fun _ _ _ h => h) (Or.inr ⟨by rfl, rfl⟩) (by assumption) ?_ | (refine' wpAnyH_take (i := 2) (v := _) rfl (by kernel_rfl) (by kernel_rfl) (by kernel_rfl) (fun _ _ _ h => h) (Or.inl ⟨by rfl, ?hy2h⟩) (by assumption) ?rest2h; case hy2h => (intro w hSw; (try dsimp only at hSw); (first | (go_simp; done) | (go_simp; with_reducible rfl))))
            try simp only [Act.put, List.setIfInBounds_toArray, List.set_cons_zero, List.set_cons_succ, List.getElem_toArray, List.getElem_cons_zero, List.getElem_cons_succ]
            first | refine wpAnyH_take (i := 3) (v := undef) rfl (by kernel_rfl) (by kernel_rfl) (by kernel_rfl) (fun _ _ _ h => h) (Or.inr ⟨by rfl, rfl⟩) (by assumption) ?_ | (refine' wpAnyH_take (i := 3) (v := _) rfl (by kernel_rfl) (by kernel_rfl) (by kernel_rfl) (fun _ _ _ h => h) (Or.inl ⟨by rfl, ?hy3h⟩) (by assumption) ?rest3h; case hy3h => (intro w hSw; (try dsimp only at hSw); (first | (go_simp; done) | (go_simp; with_reducible rfl))))
            try simp only [Act.put, List.setIfInBounds_toArray, List.set_cons_zero, List.set_cons_succ, List.getElem_toArray, List.getElem_cons_zero, List.getElem_cons_succ]
            first | refine wpAnyH_take (i := 4) (v := undef) rfl (by kernel_rfl) (by kernel_rfl) (by kernel_rfl) (fun _ _ _ h => h) (Or.inr ⟨by rfl, rfl⟩) (by assumption) ?_ | (refine' wpAnyH_take (i := 4) (v := _) rfl (by kernel_rfl) (by kernel_rfl) (by kernel_rfl) (fun _ _ _ h => h) (Or.inl ⟨by rfl, ?hy4h⟩) (by assumption) ?rest4h; case hy4h => (intro w hSw; (try dsimp only at hSw); (first | (go_simp; done) | (go_simp; with_reducible rfl))))
            try simp only [Act.put, List.setIfInBounds_toArray, List.set_cons_zero, List.set_cons_succ, List.getElem_toArray, List.getElem_cons_zero, List.getElem_cons_succ]
            refine wpAnyH_ready (rs := [5]) (by kernel_rfl) (by simp) ?_
            refine AllReadyH.cons rfl (fun K hK => ?_) AllReadyH.nil
            try simp only [Act.put, List.setIfInBounds_toArray, List.set_cons_zero, List.set_cons_succ, List.getElem_toArray, List.getElem_cons_zero, List.getElem_cons_succ]
            go_simp; go_at_call 36; (with_reducible refine (less_q H1.out).mono ?_); rintro eg5 w5 ⟨rfl, g5⟩; have zg5 := g5.size; have m0 := (g5.cells.1 g _ hgl).trans (far_drew k0); have m1 := (g5.cells.1 g _ hgl).trans (far_drew k1); have m2 := (g5.cells.1 g _ hgl).trans (far_drew k2); have m3 := (g5.cells.1 g _ hgl).trans (far_drew k3); have m4 := (g5.cells.1 g _ hgl).trans (far_drew k4); have m5 := (g5.cells.1 bx _ hbl).trans (far_drew k5); have m6 := (g5.cells.1 bx _ hbl).trans (far_drew k6); have m7 := (g5.cells.1 bx _ hbl).trans (far_drew k7); have m8 := (g5.cells.1 bx _ hbl).trans (far_drew k8); have m9 := (g5.cells.1 bx _ hbl).trans (far_drew k9)
            refine hK.out _ _ ?_ (fun hHeld => ?_)
            · (try dsimp only); (refine ⟨?_, ?_, ?_, ?_, ?_, ?_, ?_, ?_, ?_, ?_⟩ <;> (repeat (first | (with_reducible assumption) | (with_reducible refine far_drew ?_))))
            clear hK K
            try simp only [Act.put, List.setIfInBounds_toArray, List.set_cons_zero, List.set_cons_succ, List.getElem_toArray, List.getElem_cons_zero, List.getElem_cons_succ]
            first | refine wpAnyH_take (i := 6) (v := undef) rfl (by kernel_rfl) (by kernel_rfl) (by kernel_rfl) (fun _ _ _ h => h) (Or.inr ⟨by rfl, rfl⟩) (by assumption) ?_ | (refine' wpAnyH_take (i := 6) (v := _) rfl (by kernel_rfl) (by kernel_rfl) (by kernel_rfl) (fun _ _ _ h => h) (Or.inl ⟨by rfl, ?hy6h⟩) (by assumption) ?rest6h; case hy6h => (intro w hSw; (try dsimp only at hSw); (first | (go_simp; done) | (go_simp; with_reducible rfl))))
            try simp only [Act.put, List.setIfInBounds_toArray, List.set_cons_zero, List.set_cons_succ, List.getElem_toArray, List.getElem_cons_zero, List.getElem_cons_succ]
            first | refine wpAnyH_take (i := 7) (v := undef) rfl (by kernel_rfl) (by kernel_rfl) (by kernel_rfl) (fun _ _ _ h => h) (Or.inr ⟨by rfl, rfl⟩) (by assumption) ?_ | (refine' wpAnyH_take (i := 7) (v := _) rfl (by kernel_rfl) (by kernel_rfl) (by kernel_rfl) (fun _ _ _ h => h) (Or.inl ⟨by rfl, ?hy7h⟩) (by assumption) ?rest7h; case hy7h => (intro w hSw; (try dsimp only at hSw); (first | (go_simp; done) | (go_simp; with_reducible rfl))))
            try simp only [Act.put, List.setIfInBounds_toArray, List.set_cons_zero, List.set_cons_succ, List.getElem_toArray, List.getElem_cons_zero, List.getElem_cons_succ]
            first | refine wpAnyH_take (i := 8) (v := undef) rfl (by kernel_rfl) (by kernel_rfl) (by kernel_rfl) (fun _ _ _ h => h) (Or.inr ⟨by rfl, rfl⟩) (by assumption) ?_ | (refine' wpAnyH_take (i := 8) (v := _) rfl (by kernel_rfl) (by kernel_rfl) (by kernel_rfl) (fun _ _ _ h => h) (Or.inl ⟨by rfl, ?hy8h⟩) (by assumption) ?rest8h; case hy8h => (intro w hSw; (try dsimp only at hSw); (first | (go_simp; done) | (go_simp; with_reducible rfl))))
            try simp only [Act.put, List.setIfInBounds_toArray, List.set_cons_zero, List.set_cons_succ, List.getElem_toArray, List.getElem_cons_zero, List.getElem_cons_succ]
            first | refine wpAnyH_take (i := 9) (v := undef) rfl (by kernel_rfl) (by kernel_rfl) (by kernel_rfl) (fun _ _ _ h => h) (Or.inr ⟨by rfl, rfl⟩) (by assumption) ?_ | (refine' wpAnyH_take (i := 9) (v := _) rfl (by kernel_rfl) (by kernel_rfl) (by kernel_rfl) (fun _ _ _ h => h) (Or.inl ⟨by rfl, ?hy9h⟩) (by assumption) ?rest9h; case hy9h => (intro w hSw; (try dsimp only at hSw); (first | (go_simp; done) | (go_simp; with_reducible rfl))))
            try simp only [Act.put, List.setIfInBounds_toArray, List.set_cons_zero, List.set_cons_succ, List.getElem_toArray, List.getElem_cons_zero, List.getElem_cons_succ]
            first | refine wpAnyH_take (i := 10) (v := undef) rfl (by kernel_rfl) (by kernel_rfl) (by kernel_rfl) (fun _ _ _ h => h) (Or.inr ⟨by rfl, rfl⟩) (by assumption) ?_ | (refine' wpAnyH_take (i := 10) (v := _) rfl (by kernel_rfl) (by kernel_rfl) (by kernel_rfl) (fun _ _ _ h => h) (Or.inl ⟨by rfl, ?hy10h⟩) (by assumption) ?rest10h; case hy10h => (intro w hSw; (try dsimp only at hSw); (first | (go_simp; done) | (go_simp; with_reducible rfl))))
            try simp only [Act.put, List.setIfInBounds_toArray, List.set_cons_zero, List.set_cons_succ, List.getElem_toArray, List.getElem_cons_zero, List.getElem_cons_succ]
            first | refine wpAnyH_take (i := 11) (v := undef) rfl (by kernel_rfl) (by kernel_rfl) (by kernel_rfl) (fun _ _ _ h => h) (Or.inr ⟨by rfl, rfl⟩) (by assumption) ?_ | (refine' wpAnyH_take (i := 11) (v := _) rfl (by kernel_rfl) (by kernel_rfl) (by kernel_rfl) (fun _ _ _ h => h) (Or.inl ⟨by rfl, ?hy11h⟩) (by assumption) ?rest11h; case hy11h => (intro w hSw; (try dsimp only at hSw); (first | (go_simp; done) | (go_simp; with_reducible rfl))))
            try simp only [Act.put, List.setIfInBounds_toArray, List.set_cons_zero, List.set_cons_succ, List.getElem_toArray, List.getElem_cons_zero, List.getElem_cons_succ]
            refine wpAnyH_ready (rs := [12]) (by kernel_rfl) (by simp) ?_
            refine AllReadyH.cons rfl (fun K hK => ?_) AllReadyH.nil
            try simp only [Act.put, List.setIfInBounds_toArray, List.set_cons_zero, List.set_cons_succ, List.getElem_toArray, List.getElem_cons_zero, List.getElem_cons_succ]
            go_simp; go_at_call 36; (with_reducible refine (less_q H2.out).mono ?_); rintro eg6 w6 ⟨rfl, g6⟩; have r0 := (g6.cells.1 g _ (Nat.lt_of_lt_of_le hgl zg5)).trans m0; have r1 := (g6.cells.1 g _ (Nat.lt_of_lt_of_le hgl zg5)).trans m1; have r2 := (g6.cells.1 g _ (Nat.lt_of_lt_of_le hgl zg5)).trans m2; have r3 := (g6.cells.1 g _ (Nat.lt_of_lt_of_le hgl zg5)).trans m3; have r4 := (g6.cells.1 g _ (Nat.lt_of_lt_of_le hgl zg5)).trans m4; have r5 := (g6.cells.1 bx _ (Nat.lt_of_lt_of_le hbl zg5)).trans m5; have r6 := (g6.cells.1 bx _ (Nat.lt_of_lt_of_le hbl zg5)).trans m6; have r7 := (g6.cells.1 bx _ (Nat.lt_of_lt_of_le hbl zg5)).trans m7; have r8 := (g6.cells.1 bx _ (Nat.lt_of_lt_of_le hbl zg5)).trans m8; have r9 := (g6.cells.1 bx _ (Nat.lt_of_lt_of_le hbl zg5)).trans m9
            refine hK.out _ _ ?_ (fun hHeld => ?_)
            · (try dsimp only); (refine ⟨?_, ?_, ?_, ?_, ?_, ?_, ?_, ?_, ?_, ?_⟩ <;> (repeat (first | (with_reducible assumption) | (with_reducible refine far_drew ?_))))
            clear hK K
            try simp only [Act.put, List.setIfInBounds_toArray, List.set_cons_zero, List.set_cons_succ, List.getElem_toArray, List.getElem_cons_zero, List.getElem_cons_succ]
            first | refine wpAnyH_take (i := 13) (v := undef) rfl (by kernel_rfl) (by kernel_rfl) (by kernel_rfl) (fun _ _ _ h => h) (Or.inr ⟨by rfl, rfl⟩) (by assumption) ?_ | (refine' wpAnyH_take (i := 13) (v := _) rfl (by kernel_rfl) (by kernel_rfl) (by kernel_rfl) (fun _ _ _ h => h) (Or.inl ⟨by rfl, ?hy13h⟩) (by assumption) ?rest13h; case hy13h => (intro w hSw; (try dsimp only at hSw); (first | (go_simp; done) | (go_simp; with_reducible rfl))))
            try simp only [Act.put, List.setIfInBounds_toArray, List.set_cons_zero, List.set_cons_succ, List.getElem_toArray, List.getElem_cons_zero, List.getElem_cons_succ]
            refine wpAnyH_done (by kernel_rfl) ?_ _
            replace HR := Lib.hid (HR.out.drew.grew g5)
            replace HG4 := Lib.hid (HG4.out.drew.trans g5)
            replace HR := Lib.hid (HR.out.grew g6)
            replace HG4 := Lib.hid (HG4.out.trans g6)
            clear k0 k1 k2 k3 k4 k5 k6 k7 k8 k9 m0 m1 m2 m3 m4 m5 m6 m7 m8 m9 r0 r1 r2 r3 r4 r5 r6 r7 r8 r9 hgl hbl
            obtain ⟨g0, o0, e7, -, hgl, k0, k1, k2, k3, k4⟩ := (HH.out.grew HG4.out).atT hiL
            injection e7 with e7
            injection e7 with e7 e6
            subst e7 e6
            rw [show L.getD i (⟨0, 0, 0, false, false⟩ : Pt) = d from HDD.out] at k0 k1 k2 k3 k4
            obtain ⟨k5, k6, k7, k8, k9⟩ := (HO.out.grew HG4.out).fiveT
            have hbl := (HO.out.grew HG4.out).lt
            go_wp2_with (at_builtin; go_loud (refine wpList_append_row _ rfl (.tmp 52) (.tmp 57) 26 rfl w4.heap.size info_pt Try.underlying26 (by decide) (by decide) encT_len _ M rfl (HR.out.alloc _) _ _ d rfl (Mine.Own.new _ _ _) encT_one hx6 (by decide) (by have := HG4.out.size; simp; omega) ?_; intro g7 cap w7 R7 G7 o7; have HR7 := Lib.hid R7; have HG7 := Lib.hid (Grew.keptA (B := w4.heap.size) (HG4.out.alloc _) G7 (fun y e => HR.out.above y e) (Nat.le_refl _)); clear o7 R7 G7))
            go_roundw
            case rel => exact ⟨i + 1, _, true, M ++ [d], rfl, rfl, by go_num, by omega, by simp; omega, HM2, HR7.out, HG7.out⟩
            case measure => simp [intOf]; omega
        · obtain rfl : i = n := by omega
          have HR := Lib.hid R
          have HG4 := Lib.hid G4
          have HMN := Lib.hid HM.out
          obtain ⟨k5, k6, k7, k8, k9⟩ := (HO.out.grew G4).fiveT
          clear R G4
          cases b
          · have HM2 : Hid (M ++ [x] = insT L x) := Lib.hid (by have := HM.out; rw [← HN.out] at this; exact this.end0)
            clear HM HMN
            go_wp2_with (at_builtin; go_loud (refine wpList_append_row _ rfl (.tmp 61) (.tmp 63) 26 rfl w4.heap.size info_pt Try.underlying26 (by decide) (by decide) encT_len _ M rfl (HR.out.alloc _) _ _ x rfl (Mine.Own.new _ _ _) encT_one hx6 (by decide) (by have := HG4.out.size; simp; omega) ?_; intro g7 cap w7 R7 G7 o7; have HR7 := Lib.hid R7; have HG7 := Lib.hid (Grew.keptA (B := w4.heap.size) (HG4.out.alloc _) G7 (fun y e => HR.out.above y e) (Nat.le_refl _)); clear o7 R7 G7))
            refine bodyPost_ret (v := .tuple #[.slice (some ⟨g7, 0, none⟩) (M.length + 1) cap, .int .i64 0]) (by simp [results, Try.results11, go_sem]) rfl ?_
            exact ⟨_, by rw [HE.out], by rw [HE.out]; show RdS 5 encT _ B _ (insT L x); rw [← HM2.out]; exact (RowE.rdS encT_len HR7.out).wider (by have := HB.out; have := HG.out.size; omega), HG.out.trans HG7.out⟩
          · have HM2 : Hid (M = insT L x) := Lib.hid (by have := HM.out; rw [← HN.out] at this; exact this.end1)
            obtain ⟨ra, q9, rc, rfl⟩ : ∃ a q c, fv = Value.slice a q c := by obtain ⟨a, c, e⟩ := HR.out.len; exact ⟨a, _, c, e⟩
            clear HM HMN
            go_wp2
            refine bodyPost_ret (v := .tuple #[.slice ra q9 rc, .int .i64 0]) (by simp [results, Try.results11, go_sem]) rfl ?_
            exact ⟨_, by rw [HE.out], by rw [HE.out]; show RdS 5 encT _ B _ (insT L x); rw [← HM2.out]; exact (RowE.rdS encT_len HR.out).wider (by have := HB.out; have := HG.out.size; omega), HG.out.trans HG4.out⟩
end Go.Proofs.Ytjkkhfionmdmpaa

/- PagetableReverse holds: the entries of a frame are those that Drop removes, Protect makes just these read-only, and other entries stay as they are. -/
import Derived.Test.YtjkkhfionmdmpaaPs1
namespace Go.Mine
open Go Go.RowKit
theorem qfL_next (q : Pt → Bool) {L : List Pt} {i : Nat} (hi : i < L.length) : (qfL q L (i + 1)).length = (qfL q L i).length + (match q (L.getD i zT) with | true => 1 | false => 0) := by
  cases h : q (L.getD i zT)
  · rw [← qfL_n hi h]; rfl
  · rw [← qfL_y hi h, List.length_append]; rfl
theorem qfL_here {q : Pt → Bool} {L : List Pt} {i : Nat} (hi : i < L.length) (h : q (L.getD i zT) = true) : (qfL q L i).length < (L.filter q).length ∧ (L.filter q).getD (qfL q L i).length zT = L.getD i zT := by
  have e : L = L.take i ++ L.getD i zT :: L.drop (i + 1) := by
    rw [tD hi, ← List.drop_eq_getElem_cons hi, List.take_append_drop]
  have e2 : L.filter q = qfL q L i ++ L.getD i zT :: (L.drop (i + 1)).filter q := by
    conv => lhs; rw [e]
    rw [List.filter_append, List.filter_cons_of_pos h]; rfl
  rw [e2]
  refine ⟨by simp, ?_⟩
  simp [List.getD]
theorem fil_two (q : Pt → Bool) (L : List Pt) : (L.filter q).length + (L.filter fun x => !q x).length = L.length := by
  induction L with
  | nil => rfl
  | cons x l ih =>
    cases h : q x
    · rw [List.filter_cons_of_neg (by rw [h]; decide), List.filter_cons_of_pos (by rw [h]; rfl), List.length_cons, List.length_cons]; omega
    · rw [List.filter_cons_of_pos h, List.filter_cons_of_neg (by rw [h]; decide), List.length_cons, List.length_cons]; omega
theorem of_rest {L : List Pt} {f : Int} (h : okT L = true) : ofT (L.filter fun x => !decide (x.f = f)) f = [] := by
  rw [ofT_1 (okT_filter h)]
  refine List.filter_eq_nil_iff.2 fun x hx => ?_
  obtain ⟨-, h2⟩ := List.mem_filter.1 hx
  cases hk : decide (x.f = f)
  · decide
  · rw [hk] at h2; cases h2
theorem mapD2 {g : Pt → Pt} {L : List Pt} {i : Nat} (hi : i < L.length) : (L.map g).getD i zT = g (L.getD i zT) := by
  rw [tD (by rw [List.length_map]; exact hi), tD hi, List.getElem_map]
end Go.Mine
namespace Go.Proofs.Ytjkkhfionmdmpaa
open Go.ChangeShapes Go.WideShapes Go.ChangeAt Go.RowKit Go.Mine

set_option maxRecDepth 100000 in
set_option maxHeartbeats 16000000 in
theorem rev_core (A : Option Addr) (c : Nat) (xs : List Int) (n1 : Int) (w : World) (hr : IntRow w A xs) (hm : xs.length ≤ maxLen) (hw1 : (Lit.int .i64 n1).wf = true) :
    Calls Try.prog 4 #[.slice A xs.length c, .int .i64 n1] w (RetG (.bool true) w) := by
  have tp := Tp.made hr hm c 25
  have gA := (Grew.refl w).alloc (.cells #[.slice A xs.length c, .int .i64 0] 25)
  have hbw : w.heap.size + 1 ≤ (w.alloc (.cells #[.slice A xs.length c, .int .i64 0] 25)).heap.size := by simp
  clear hr hm hw1
  generalize hX : xs.length = X at *
  clear hX
  go_enter Try.func4, Try.ntmps4
  go_wp2_with fail
  with_reducible refine (ptes_x _ _ _ tp hbw).mono ?_
  rintro e w1 ⟨v, L, rfl, hok, hl8, R1, T1, g1⟩
  have HG1 := Lib.hid (gA.past g1 (Nat.le_refl _))
  have HR1 := Lib.hid (R1.wider (C := w.heap.size) (Nat.le_trans (Nat.le_succ _) hbw))
  have HOK := Lib.hid hok
  have hl1 : L.length ≤ 1000 := by omega
  clear gA tp g1 R1 T1 hbw hok
  go_wp2_with fail
  with_reducible refine (cut_any n1 4 _ (by omega) (by omega)).mono ?_
  rintro e w2 ⟨rfl, rfl⟩
  have hcut := cut_lt n1 4 (by omega)
  have hwf : IntKind.i64.wrap (1 + cut n1 4) = 1 + cut n1 4 := IntWalk.i64_in _ (by omega)
  obtain ⟨f, hf⟩ : ∃ f, 1 + cut n1 4 = f := ⟨_, rfl⟩
  rw [hf] at hwf
  obtain ⟨q, hq⟩ : ∃ q : Pt → Bool, q = fun x => decide (x.f = f) := ⟨_, rfl⟩
  have HO1 : Hid (ofT L f = L.filter q) := Lib.hid (by rw [ofT_1 HOK.out, hq])
  have HD1 : Hid (drpT L f = L.filter fun x => !q x) := Lib.hid (by rw [drpT_1 HOK.out, hq])
  have HP1 := Lib.hid (prtT_1 (f := f) HOK.out)
  have HOR : Hid (ofT (L.filter fun x => !q x) f = []) := Lib.hid (by rw [hq]; exact of_rest HOK.out)
  have HOKR : Hid (okT (L.filter fun x => !q x) = true) := Lib.hid (okT_filter HOK.out)
  have hsum := fil_two q L
  have HPD := Lib.hid (fun j (hj : j < L.length) => mapD2 (g := prX f) hj)
  have hpl : (L.map (prX f)).length = L.length := List.length_map ..
  have HH1 := Lib.hid (fun i (hi : i < L.length) h => @qfL_here q L i hi h)
  have HH2 := Lib.hid (fun i (hi : i < L.length) h => @qfL_here (fun x => !q x) L i hi h)
  have HN1 := Lib.hid (fun i (hi : i < L.length) => @qfL_next q L i hi)
  have HN2 := Lib.hid (fun i (hi : i < L.length) => @qfL_next (fun x => !q x) L i hi)
  have HQ := Lib.hid hq
  clear hq hcut
  obtain ⟨LO, hLO⟩ : ∃ M, L.filter q = M := ⟨_, rfl⟩
  obtain ⟨LD, hLD⟩ : ∃ M, (L.filter fun x => !q x) = M := ⟨_, rfl⟩
  obtain ⟨LP, hLP⟩ : ∃ M, L.map (prX f) = M := ⟨_, rfl⟩
  rw [hLO] at HO1 hsum HH1
  rw [hLD] at HD1 HOR HOKR hsum HH2
  rw [hLP] at HP1 HPD hpl
  clear hLO hLD hLP
  obtain ⟨no, hno⟩ : ∃ n, LO.length = n := ⟨_, rfl⟩
  obtain ⟨nd, hnd⟩ : ∃ n, LD.length = n := ⟨_, rfl⟩
  obtain ⟨N, hN⟩ : ∃ n, L.length = n := ⟨_, rfl⟩
  have HNO := Lib.hid hno
  have HND := Lib.hid hnd
  have HN := Lib.hid hN
  rw [hno, hnd, hN] at hsum
  rw [hN] at hpl hl8
  have HNP := Lib.hid hpl
  have HL0 := Lib.hid HR1.out
  obtain ⟨a0, c0, rfl, -, -⟩ := HR1.out.slice
  rw [hN] at HR1 ⊢
  clear hN hno hnd hpl
  have hld : LD.length ≤ 1000 := by rw [HND.out]; omega
  go_wp2_with fail
  with_reducible refine (of_p (f := f) HR1.out hl1).mono ?_
  rw [HO1.out]
  rintro e9 w3 ⟨vo, rfl, R3, g3⟩
  have HR3 := Lib.hid (HR1.out.grew g3)
  have HO3 := Lib.hid R3
  have HG3 := Lib.hid (HG1.out.trans g3)
  obtain ⟨ao, co, rfl, -, -⟩ := HO3.out.slice
  rw [HNO.out] at HO3 ⊢
  clear R3 g3 HR1 HG1 HL0
  go_wp2_with fail
  with_reducible refine (drop_p (f := f) HR3.out hl1).mono ?_
  rw [HD1.out]
  rintro e9 w4 ⟨vd, rfl, R4, g4⟩
  have HR4 := Lib.hid (HR3.out.grew g4)
  have HO4 := Lib.hid (HO3.out.grew g4)
  have HD4 := Lib.hid R4
  have HG4 := Lib.hid (HG3.out.trans g4)
  obtain ⟨ad, cd, rfl, -, -⟩ := HD4.out.slice
  rw [HND.out] at HD4 ⊢
  clear R4 g4 HR3 HO3 HG3
  go_wp2_with fail
  with_reducible refine (protect_p (f := f) HR4.out hl1).mono ?_
  rw [HP1.out]
  rintro e9 w5 ⟨vp, rfl, R5, g5⟩
  have HR5 := Lib.hid (HR4.out.grew g5)
  have HO5 := Lib.hid (HO4.out.grew g5)
  have HD5 := Lib.hid (HD4.out.grew g5)
  have HP5 := Lib.hid R5
  have HG5 := Lib.hid (HG4.out.trans g5)
  obtain ⟨ap, cp, rfl, -, -⟩ := HP5.out.slice
  rw [HNP.out] at HP5 ⊢
  clear R5 g5 HR4 HO4 HD4 HG4
  have hws : IntKind.i64.wrap ((no : Int) + (nd : Int)) = (N : Int) := by rw [IntWalk.i64_in _ (by omega)]; omega
  go_wp2_with fail
  with_reducible refine (check_p HD5.out hld HOKR.out).mono ?_
  rintro e9 w6 ⟨rfl, g6⟩
  have HR6 := Lib.hid (HR5.out.grew g6)
  have HO6 := Lib.hid (HO5.out.grew g6)
  have HD6 := Lib.hid (HD5.out.grew g6)
  have HP6 := Lib.hid (HP5.out.grew g6)
  have HG6 := Lib.hid (HG5.out.trans g6)
  clear g6 HR5 HO5 HD5 HP5 HG5
  go_wp2_with fail
  go_loopw [10, 11, 12] (fun iv kv nv wr => ∃ i k n : Nat, iv = .int .i64 i ∧ kv = .int .i64 k ∧ nv = .int .i64 n ∧ n ≤ N ∧ i ≤ n ∧ k ≤ n ∧ Hid (i = (qfL q L n).length) ∧ Hid (k = (qfL (fun x => !q x) L n).length) ∧ Grew w6 wr) (fun _ _ nv _ => N - (intOf nv).toNat)
  case atStart => exact ⟨0, 0, 0, rfl, rfl, rfl, by omega, by omega, by omega, Lib.hid rfl, Lib.hid rfl, Grew.refl _⟩
  case round =>
    obtain ⟨i, k, n, rfl, rfl, rfl, hn, hin, hkn, HI, HK, G⟩ := hrel
    obtain ⟨wo, rfl⟩ : ∃ wo : World, wo = wr := ⟨_, rfl⟩
    by_cases hlt : n < N
    · have hnL : n < L.length := by rw [HN.out]; exact hlt
      have hnP : n < LP.length := by rw [HNP.out]; exact hlt
      obtain ⟨g, o, rfl, -, hg, k0, k1, k2, k3, k4⟩ := (HR6.out.grew G).atT hnL
      obtain ⟨g', o', rfl, -, hg', m0, m1, m2, m3, m4⟩ := (HP6.out.grew G).atT hnP
      have hmd := HPD.out n hnL
      have hn0 : (0 : Int) ≤ (n : Int) := by omega
      have hn1 : (n : Int) < (N : Int) := by omega
      have hi0 : (0 : Int) ≤ (i : Int) := by omega
      have hk0 : (0 : Int) ≤ (k : Int) := by omega
      have HX1 := Lib.hid (HH1.out n hnL)
      have HX2 := Lib.hid (HH2.out n hnL)
      have HY1 := Lib.hid (HN1.out n hnL)
      have HY2 := Lib.hid (HN2.out n hnL)
      obtain ⟨d, hd⟩ : ∃ d, L.getD n zT = d := ⟨_, rfl⟩
      rw [hd] at HX1 HX2 HY1 HY2
      rw [show L.getD n (⟨0, 0, 0, false, false⟩ : Pt) = d from hd] at k0 k1 k2 k3 k4
      rw [show LP.getD n (⟨0, 0, 0, false, false⟩ : Pt) = prX f d from hmd.trans (by rw [hd])] at m0 m1 m2 m3 m4
      have hqd : q d = decide (d.f = f) := by rw [HQ.out]
      have hdd : ∀ w : World, (binOp .neq 30 (.agg #[.int .i64 d.p, .int .i64 d.v, .int .i64 d.f, .bool d.w, .bool d.a]) (.agg #[.int .i64 d.p, .int .i64 d.v, .int .i64 d.f, .bool d.w, .bool d.a])).run Try.prog w = .ok (.bool false) w := fun w => (run_neqT w d d).trans (by simp)
      clear hmd hd
      by_cases hqf : d.f = f
      · have e1 : (d.f == f) = true := by simp [hqf]
        have hqt : q d = true := hqd.trans (decide_eq_true hqf)
        obtain ⟨hio, hod⟩ := HX1.out hqt
        rw [HNO.out, ← HI.out] at hio
        have hiO : i < LO.length := by rw [HNO.out]; exact hio
        obtain ⟨g2, o2, rfl, -, hg2, r0, r1, r2, r3, r4⟩ := (HO6.out.grew G).atT hiO
        rw [show LO.getD i (⟨0, 0, 0, false, false⟩ : Pt) = d from by rw [← hod, HI.out]] at r0 r1 r2 r3 r4
        have hi1 : (i : Int) < (no : Int) := by omega
        have e2 : decide (no ≤ i) = false := decide_eq_false (by omega)
        have HI2 : Hid (i + 1 = (qfL q L (n + 1)).length) := Lib.hid (by rw [HY1.out, hqt, HI.out])
        have HK2 : Hid (k = (qfL (fun x => !q x) L (n + 1)).length) := Lib.hid (by rw [HY2.out, hqt, HK.out]; rfl)
        rw [prX_hit hqf] at m0 m1 m2 m3 m4
        simp only at m0 m1 m2 m3 m4
        have hd2 : ∀ w : World, (binOp .neq 30 (.agg #[.int .i64 d.p, .int .i64 d.v, .int .i64 d.f, .bool false, .bool d.a]) (.agg #[.int .i64 d.p, .int .i64 d.v, .int .i64 d.f, .bool false, .bool d.a])).run Try.prog w = .ok (.bool false) w := fun w => (run_neqT w ⟨d.p, d.v, d.f, false, d.a⟩ ⟨d.p, d.v, d.f, false, d.a⟩).trans (by simp)
        clear hqf hqt hqd hod HX1 HX2 HY1 HY2 HI HK
        have HGA := Lib.hid (G.alloc (.cells #[.int .i64 d.p, .int .i64 d.v, .int .i64 d.f, .bool d.w, .bool d.a] 30))
        have HO := Lib.hid (Mine.Own.new wo 30 #[.int .i64 d.p, .int .i64 d.v, .int .i64 d.f, .bool d.w, .bool d.a])
        have kx0 := far_alloc (o := (.cells #[.int .i64 d.p, .int .i64 d.v, .int .i64 d.f, .bool d.w, .bool d.a] 30)) k0
        have kx1 := far_alloc (o := (.cells #[.int .i64 d.p, .int .i64 d.v, .int .i64 d.f, .bool d.w, .bool d.a] 30)) k1
        have kx2 := far_alloc (o := (.cells #[.int .i64 d.p, .int .i64 d.v, .int .i64 d.f, .bool d.w, .bool d.a] 30)) k2
        have kx3 := far_alloc (o := (.cells #[.int .i64 d.p, .int .i64 d.v, .int .i64 d.f, .bool d.w, .bool d.a] 30)) k3
        have kx4 := far_alloc (o := (.cells #[.int .i64 d.p, .int .i64 d.v, .int .i64 d.f, .bool d.w, .bool d.a] 30)) k4
        have mx0 := far_alloc (o := (.cells #[.int .i64 d.p, .int .i64 d.v, .int .i64 d.f, .bool d.w, .bool d.a] 30)) m0
        have mx1 := far_alloc (o := (.cells #[.int .i64 d.p, .int .i64 d.v, .int .i64 d.f, .bool d.w, .bool d.a] 30)) m1
        have mx2 := far_alloc (o := (.cells #[.int .i64 d.p, .int .i64 d.v, .int .i64 d.f, .bool d.w, .bool d.a] 30)) m2
        have mx3 := far_alloc (o := (.cells #[.int .i64 d.p, .int .i64 d.v, .int .i64 d.f, .bool d.w, .bool d.a] 30)) m3
        have mx4 := far_alloc (o := (.cells #[.int .i64 d.p, .int .i64 d.v, .int .i64 d.f, .bool d.w, .bool d.a] 30)) m4
        have rx0 := far_alloc (o := (.cells #[.int .i64 d.p, .int .i64 d.v, .int .i64 d.f, .bool d.w, .bool d.a] 30)) r0
        have rx1 := far_alloc (o := (.cells #[.int .i64 d.p, .int .i64 d.v, .int .i64 d.f, .bool d.w, .bool d.a] 30)) r1
        have rx2 := far_alloc (o := (.cells #[.int .i64 d.p, .int .i64 d.v, .int .i64 d.f, .bool d.w, .bool d.a] 30)) r2
        have rx3 := far_alloc (o := (.cells #[.int .i64 d.p, .int .i64 d.v, .int .i64 d.f, .bool d.w, .bool d.a] 30)) r3
        have rx4 := far_alloc (o := (.cells #[.int .i64 d.p, .int .i64 d.v, .int .i64 d.f, .bool d.w, .bool d.a] 30)) r4
        obtain ⟨x0, x1, x2, x3, x4⟩ := HO.out.fiveT
        obtain ⟨y0, y1, y2, y3, y4⟩ := HO.out.five0
        have hzs := G.size
        have hne : ¬wo.heap.size = g' := by omega
        go_upto_region 12 with fail
        clear k0 k1 k2 k3 k4 m0 m1 m2 m3 m4 r0 r1 r2 r3 r4 G
        generalize World.alloc wo _ = wq at *
        refine wp_region_held_drew (S := fun w' => w'.cell? ⟨g, o + n * 5, none⟩ = some (.int .i64 d.p) ∧ w'.cell? ⟨g, o + n * 5 + 1, none⟩ = some (.int .i64 d.v) ∧ w'.cell? ⟨g, o + n * 5 + 2, none⟩ = some (.int .i64 d.f) ∧ w'.cell? ⟨g, o + n * 5 + 3, none⟩ = some (.bool d.w) ∧ w'.cell? ⟨g, o + n * 5 + 4, none⟩ = some (.bool d.a) ∧ w'.cell? ⟨g2, o2 + i * 5, none⟩ = some (.int .i64 d.p) ∧ w'.cell? ⟨g2, o2 + i * 5 + 1, none⟩ = some (.int .i64 d.v) ∧ w'.cell? ⟨g2, o2 + i * 5 + 2, none⟩ = some (.int .i64 d.f) ∧ w'.cell? ⟨g2, o2 + i * 5 + 3, none⟩ = some (.bool d.w) ∧ w'.cell? ⟨g2, o2 + i * 5 + 4, none⟩ = some (.bool d.a)) (by kernel_rfl) ?_ (fun hHeld => ?_)
        · (try dsimp only); (refine ⟨?_, ?_, ?_, ?_, ?_, ?_, ?_, ?_, ?_, ?_⟩ <;> (repeat (first | (with_reducible assumption) | (with_reducible refine far_drew ?_))))
        first | refine wpAnyH_take (i := 0) (v := undef) rfl (by kernel_rfl) (by kernel_rfl) (by kernel_rfl) (fun _ _ _ h => h) (Or.inr ⟨by rfl, rfl⟩) (by assumption) ?_ | (refine' wpAnyH_take (i := 0) (v := _) rfl (by kernel_rfl) (by kernel_rfl) (by kernel_rfl) (fun _ _ _ h => h) (Or.inl ⟨by rfl, ?hy0a⟩) (by assumption) ?rest0a; case hy0a => (intro w hSw; (try dsimp only at hSw); (first | (go_simp; done) | (go_simp; with_reducible rfl))))
        try simp only [Act.put, List.setIfInBounds_toArray, List.set_cons_zero, List.set_cons_succ, List.getElem_toArray, List.getElem_cons_zero, List.getElem_cons_succ]
        first | refine wpAnyH_take (i := 1) (v := undef) rfl (by kernel_rfl) (by kernel_rfl) (by kernel_rfl) (fun _ _ _ h => h) (Or.inr ⟨by rfl, rfl⟩) (by assumption) ?_ | (refine' wpAnyH_take (i := 1) (v := _) rfl (by kernel_rfl) (by kernel_rfl) (by kernel_rfl) (fun _ _ _ h => h) (Or.inl ⟨by rfl, ?hy1a⟩) (by assumption) ?rest1a; case hy1a => (intro w hSw; (try dsimp only at hSw); (first | (go_simp; done) | (go_simp; with_reducible rfl))))
        try simp only [Act.put, List.setIfInBounds_toArray, List.set_cons_zero, List.set_cons_succ, List.getElem_toArray, List.getElem_cons_zero, List.getElem_cons_succ]
        first | refine wpAnyH_take (i := 2) (v := undef) rfl (by kernel_rfl) (by kernel_rfl) (by kernel_rfl) (fun _ _ _ h => h) (Or.inr ⟨by rfl, rfl⟩) (by assumption) ?_ | (refine' wpAnyH_take (i := 2) (v := _) rfl (by kernel_rfl) (by kernel_rfl) (by kernel_rfl) (fun _ _ _ h => h) (Or.inl ⟨by rfl, ?hy2a⟩) (by assumption) ?rest2a; case hy2a => (intro w hSw; (try dsimp only at hSw); (first | (go_simp; done) | (go_simp; with_reducible rfl))))
        try simp only [Act.put, List.setIfInBounds_toArray, List.set_cons_zero, List.set_cons_succ, List.getElem_toArray, List.getElem_cons_zero, List.getElem_cons_succ]
        first | refine wpAnyH_take (i := 3) (v := undef) rfl (by kernel_rfl) (by kernel_rfl) (by kernel_rfl) (fun _ _ _ h => h) (Or.inr ⟨by rfl, rfl⟩) (by assumption) ?_ | (refine' wpAnyH_take (i := 3) (v := _) rfl (by kernel_rfl) (by kernel_rfl) (by kernel_rfl) (fun _ _ _ h => h) (Or.inl ⟨by rfl, ?hy3a⟩) (by assumption) ?rest3a; case hy3a => (intro w hSw; (try dsimp only at hSw); (first | (go_simp; done) | (go_simp; with_reducible rfl))))
        try simp only [Act.put, List.setIfInBounds_toArray, List.set_cons_zero, List.set_cons_succ, List.getElem_toArray, List.getElem_cons_zero, List.getElem_cons_succ]
        first | refine wpAnyH_take (i := 4) (v := undef) rfl (by kernel_rfl) (by kernel_rfl) (by kernel_rfl) (fun _ _ _ h => h) (Or.inr ⟨by rfl, rfl⟩) (by assumption) ?_ | (refine' wpAnyH_take (i := 4) (v := _) rfl (by kernel_rfl) (by kernel_rfl) (by kernel_rfl) (fun _ _ _ h => h) (Or.inl ⟨by rfl, ?hy4a⟩) (by assumption) ?rest4a; case hy4a => (intro w hSw; (try dsimp only at hSw); (first | (go_simp; done) | (go_simp; with_reducible rfl))))
        try simp only [Act.put, List.setIfInBounds_toArray, List.set_cons_zero, List.set_cons_succ, List.getElem_toArray, List.getElem_cons_zero, List.getElem_cons_succ]
        first | refine wpAnyH_take (i := 5) (v := undef) rfl (by kernel_rfl) (by kernel_rfl) (by kernel_rfl) (fun _ _ _ h => h) (Or.inr ⟨by rfl, rfl⟩) (by assumption) ?_ | (refine' wpAnyH_take (i := 5) (v := _) rfl (by kernel_rfl) (by kernel_rfl) (by kernel_rfl) (fun _ _ _ h => h) (Or.inl ⟨by rfl, ?hy5a⟩) (by assumption) ?rest5a; case hy5a => (intro w hSw; (try dsimp only at hSw); (first | (go_simp; done) | (go_simp; with_reducible rfl))))
        try simp only [Act.put, List.setIfInBounds_toArray, List.set_cons_zero, List.set_cons_succ, List.getElem_toArray, List.getElem_cons_zero, List.getElem_cons_succ]
        first | refine wpAnyH_take (i := 6) (v := undef) rfl (by kernel_rfl) (by kernel_rfl) (by kernel_rfl) (fun _ _ _ h => h) (Or.inr ⟨by rfl, rfl⟩) (by assumption) ?_ | (refine' wpAnyH_take (i := 6) (v := _) rfl (by kernel_rfl) (by kernel_rfl) (by kernel_rfl) (fun _ _ _ h => h) (Or.inl ⟨by rfl, ?hy6a⟩) (by assumption) ?rest6a; case hy6a => (intro w hSw; (try dsimp only at hSw); (first | (go_simp; done) | (go_simp; with_reducible rfl))))
        try simp only [Act.put, List.setIfInBounds_toArray, List.set_cons_zero, List.set_cons_succ, List.getElem_toArray, List.getElem_cons_zero, List.getElem_cons_succ]
        first | refine wpAnyH_take (i := 7) (v := undef) rfl (by kernel_rfl) (by kernel_rfl) (by kernel_rfl) (fun _ _ _ h => h) (Or.inr ⟨by rfl, rfl⟩) (by assumption) ?_ | (refine' wpAnyH_take (i := 7) (v := _) rfl (by kernel_rfl) (by kernel_rfl) (by kernel_rfl) (fun _ _ _ h => h) (Or.inl ⟨by rfl, ?hy7a⟩) (by assumption) ?rest7a; case hy7a => (intro w hSw; (try dsimp only at hSw); (first | (go_simp; done) | (go_simp; with_reducible rfl))))
        try simp only [Act.put, List.setIfInBounds_toArray, List.set_cons_zero, List.set_cons_succ, List.getElem_toArray, List.getElem_cons_zero, List.getElem_cons_succ]
        first | refine wpAnyH_take (i := 8) (v := undef) rfl (by kernel_rfl) (by kernel_rfl) (by kernel_rfl) (fun _ _ _ h => h) (Or.inr ⟨by rfl, rfl⟩) (by assumption) ?_ | (refine' wpAnyH_take (i := 8) (v := _) rfl (by kernel_rfl) (by kernel_rfl) (by kernel_rfl) (fun _ _ _ h => h) (Or.inl ⟨by rfl, ?hy8a⟩) (by assumption) ?rest8a; case hy8a => (intro w hSw; (try dsimp only at hSw); (first | (go_simp; done) | (go_simp; with_reducible rfl))))
        try simp only [Act.put, List.setIfInBounds_toArray, List.set_cons_zero, List.set_cons_succ, List.getElem_toArray, List.getElem_cons_zero, List.getElem_cons_succ]
        first | refine wpAnyH_take (i := 9) (v := undef) rfl (by kernel_rfl) (by kernel_rfl) (by kernel_rfl) (fun _ _ _ h => h) (Or.inr ⟨by rfl, rfl⟩) (by assumption) ?_ | (refine' wpAnyH_take (i := 9) (v := _) rfl (by kernel_rfl) (by kernel_rfl) (by kernel_rfl) (fun _ _ _ h => h) (Or.inl ⟨by rfl, ?hy9a⟩) (by assumption) ?rest9a; case hy9a => (intro w hSw; (try dsimp only at hSw); (first | (go_simp; done) | (go_simp; with_reducible rfl))))
        try simp only [Act.put, List.setIfInBounds_toArray, List.set_cons_zero, List.set_cons_succ, List.getElem_toArray, List.getElem_cons_zero, List.getElem_cons_succ]
        first | refine wpAnyH_take (i := 10) (v := undef) rfl (by kernel_rfl) (by kernel_rfl) (by kernel_rfl) (fun _ _ _ h => h) (Or.inr ⟨by rfl, rfl⟩) (by assumption) ?_ | (refine' wpAnyH_take (i := 10) (v := _) rfl (by kernel_rfl) (by kernel_rfl) (by kernel_rfl) (fun _ _ _ h => h) (Or.inl ⟨by rfl, ?hy10a⟩) (by assumption) ?rest10a; case hy10a => (intro w hSw; (try dsimp only at hSw); (first | (go_simp; done) | (go_simp; with_reducible rfl))))
        try simp only [Act.put, List.setIfInBounds_toArray, List.set_cons_zero, List.set_cons_succ, List.getElem_toArray, List.getElem_cons_zero, List.getElem_cons_succ]
        first | refine wpAnyH_take (i := 11) (v := undef) rfl (by kernel_rfl) (by kernel_rfl) (by kernel_rfl) (fun _ _ _ h => h) (Or.inr ⟨by rfl, rfl⟩) (by assumption) ?_ | (refine' wpAnyH_take (i := 11) (v := _) rfl (by kernel_rfl) (by kernel_rfl) (by kernel_rfl) (fun _ _ _ h => h) (Or.inl ⟨by rfl, ?hy11a⟩) (by assumption) ?rest11a; case hy11a => (intro w hSw; (try dsimp only at hSw); (first | (go_simp; done) | (go_simp; with_reducible rfl))))
        try simp only [Act.put, List.setIfInBounds_toArray, List.set_cons_zero, List.set_cons_succ, List.getElem_toArray, List.getElem_cons_zero, List.getElem_cons_succ]
        first | refine wpAnyH_take (i := 12) (v := undef) rfl (by kernel_rfl) (by kernel_rfl) (by kernel_rfl) (fun _ _ _ h => h) (Or.inr ⟨by rfl, rfl⟩) (by assumption) ?_ | (refine' wpAnyH_take (i := 12) (v := _) rfl (by kernel_rfl) (by kernel_rfl) (by kernel_rfl) (fun _ _ _ h => h) (Or.inl ⟨by rfl, ?hy12a⟩) (by assumption) ?rest12a; case hy12a => (intro w hSw; (try dsimp only at hSw); (first | (go_simp; done) | (go_simp; with_reducible rfl))))
        try simp only [Act.put, List.setIfInBounds_toArray, List.set_cons_zero, List.set_cons_succ, List.getElem_toArray, List.getElem_cons_zero, List.getElem_cons_succ]
        first | refine wpAnyH_take (i := 13) (v := undef) rfl (by kernel_rfl) (by kernel_rfl) (by kernel_rfl) (fun _ _ _ h => h) (Or.inr ⟨by rfl, rfl⟩) (by assumption) ?_ | (refine' wpAnyH_take (i := 13) (v := _) rfl (by kernel_rfl) (by kernel_rfl) (by kernel_rfl) (fun _ _ _ h => h) (Or.inl ⟨by rfl, ?hy13a⟩) (by assumption) ?rest13a; case hy13a => (intro w hSw; (try dsimp only at hSw); (first | (go_simp; done) | (go_simp; with_reducible rfl))))
        try simp only [Act.put, List.setIfInBounds_toArray, List.set_cons_zero, List.set_cons_succ, List.getElem_toArray, List.getElem_cons_zero, List.getElem_cons_succ]
        first | refine wpAnyH_take (i := 14) (v := undef) rfl (by kernel_rfl) (by kernel_rfl) (by kernel_rfl) (fun _ _ _ h => h) (Or.inr ⟨by rfl, rfl⟩) (by assumption) ?_ | (refine' wpAnyH_take (i := 14) (v := _) rfl (by kernel_rfl) (by kernel_rfl) (by kernel_rfl) (fun _ _ _ h => h) (Or.inl ⟨by rfl, ?hy14a⟩) (by assumption) ?rest14a; case hy14a => (intro w hSw; (try dsimp only at hSw); (first | (go_simp; done) | (go_simp; with_reducible rfl))))
        try simp only [Act.put, List.setIfInBounds_toArray, List.set_cons_zero, List.set_cons_succ, List.getElem_toArray, List.getElem_cons_zero, List.getElem_cons_succ]
        refine wpAnyH_done (by kernel_rfl) ?_ _
        go_upto_region 19 with fail
        have z0 := far_cell (i := 3) (v := .bool false) hne mx0
        have z1 := far_cell (i := 3) (v := .bool false) hne mx1
        have z2 := far_cell (i := 3) (v := .bool false) hne mx2
        have z3 := far_cell (i := 3) (v := .bool false) hne mx3
        have z4 := far_cell (i := 3) (v := .bool false) hne mx4
        obtain ⟨u0, u1, u2, u3, u4⟩ := (show Mine.Own _ _ 30 #[.int .i64 d.p, .int .i64 d.v, .int .i64 d.f, .bool false, .bool d.a] from HO.out.set 3 (.bool false)).fiveT
        have HGS := Lib.hid (HGA.out.set (p := ⟨wo.heap.size, 3, none⟩) hzs (.bool false))
        generalize World.setCell wq _ _ = wz at *
        go_region
        go_wp2
        exact ⟨⟨i + 1, k, n + 1, by go_num, rfl, by go_num, by omega, by omega, by omega, HI2, HK2, HGS.out.drew.drew⟩, by simp [intOf] <;> omega⟩
      · have e1 : (d.f == f) = false := by simp [hqf]
        have hqt : q d = false := hqd.trans (decide_eq_false hqf)
        have hqt2 : (!q d) = true := by rw [hqt]; rfl
        obtain ⟨hkd, hod⟩ := HX2.out hqt2
        rw [HND.out, ← HK.out] at hkd
        have hkD : k < LD.length := by rw [HND.out]; exact hkd
        obtain ⟨g2, o2, rfl, -, hg2, r0, r1, r2, r3, r4⟩ := (HD6.out.grew G).atT hkD
        rw [show LD.getD k (⟨0, 0, 0, false, false⟩ : Pt) = d from by rw [← hod, HK.out]] at r0 r1 r2 r3 r4
        have hk1 : (k : Int) < (nd : Int) := by omega
        have e2 : decide (nd ≤ k) = false := decide_eq_false (by omega)
        have HI2 : Hid (i = (qfL q L (n + 1)).length) := Lib.hid (by rw [HY1.out, hqt, HI.out]; rfl)
        have HK2 : Hid (k + 1 = (qfL (fun x => !q x) L (n + 1)).length) := Lib.hid (by rw [HY2.out, hqt, HK.out]; rfl)
        rw [prX_miss hqf] at m0 m1 m2 m3 m4
        clear hqf hqt hqt2 hqd hod HX1 HX2 HY1 HY2 HI HK
        have HGA := Lib.hid (G.alloc (.cells #[.int .i64 d.p, .int .i64 d.v, .int .i64 d.f, .bool d.w, .bool d.a] 30))
        have HO := Lib.hid (Mine.Own.new wo 30 #[.int .i64 d.p, .int .i64 d.v, .int .i64 d.f, .bool d.w, .bool d.a])
        have kx0 := far_alloc (o := (.cells #[.int .i64 d.p, .int .i64 d.v, .int .i64 d.f, .bool d.w, .bool d.a] 30)) k0
        have kx1 := far_alloc (o := (.cells #[.int .i64 d.p, .int .i64 d.v, .int .i64 d.f, .bool d.w, .bool d.a] 30)) k1
        have kx2 := far_alloc (o := (.cells #[.int .i64 d.p, .int .i64 d.v, .int .i64 d.f, .bool d.w, .bool d.a] 30)) k2
        have kx3 := far_alloc (o := (.cells #[.int .i64 d.p, .int .i64 d.v, .int .i64 d.f, .bool d.w, .bool d.a] 30)) k3
        have kx4 := far_alloc (o := (.cells #[.int .i64 d.p, .int .i64 d.v, .int .i64 d.f, .bool d.w, .bool d.a] 30)) k4
        have mx0 := far_alloc (o := (.cells #[.int .i64 d.p, .int .i64 d.v, .int .i64 d.f, .bool d.w, .bool d.a] 30)) m0
        have mx1 := far_alloc (o := (.cells #[.int .i64 d.p, .int .i64 d.v, .int .i64 d.f, .bool d.w, .bool d.a] 30)) m1
        have mx2 := far_alloc (o := (.cells #[.int .i64 d.p, .int .i64 d.v, .int .i64 d.f, .bool d.w, .bool d.a] 30)) m2
        have mx3 := far_alloc (o := (.cells #[.int .i64 d.p, .int .i64 d.v, .int .i64 d.f, .bool d.w, .bool d.a] 30)) m3
        have mx4 := far_alloc (o := (.cells #[.int .i64 d.p, .int .i64 d.v, .int .i64 d.f, .bool d.w, .bool d.a] 30)) m4
        have rx0 := far_alloc (o := (.cells #[.int .i64 d.p, .int .i64 d.v, .int .i64 d.f, .bool d.w, .bool d.a] 30)) r0
        have rx1 := far_alloc (o := (.cells #[.int .i64 d.p, .int .i64 d.v, .int .i64 d.f, .bool d.w, .bool d.a] 30)) r1
        have rx2 := far_alloc (o := (.cells #[.int .i64 d.p, .int .i64 d.v, .int .i64 d.f, .bool d.w, .bool d.a] 30)) r2
        have rx3 := far_alloc (o := (.cells #[.int .i64 d.p, .int .i64 d.v, .int .i64 d.f, .bool d.w, .bool d.a] 30)) r3
        have rx4 := far_alloc (o := (.cells #[.int .i64 d.p, .int .i64 d.v, .int .i64 d.f, .bool d.w, .bool d.a] 30)) r4
        obtain ⟨x0, x1, x2, x3, x4⟩ := HO.out.fiveT
        obtain ⟨y0, y1, y2, y3, y4⟩ := HO.out.five0
        have hzs := G.size
        have hne : ¬wo.heap.size = g' := by omega
        go_upto_region 16 with fail
        clear k0 k1 k2 k3 k4 m0 m1 m2 m3 m4 r0 r1 r2 r3 r4 G
        generalize World.alloc wo _ = wq at *
        refine wp_region_held_drew (S := fun w' => w'.cell? ⟨g, o + n * 5, none⟩ = some (.int .i64 d.p) ∧ w'.cell? ⟨g, o + n * 5 + 1, none⟩ = some (.int .i64 d.v) ∧ w'.cell? ⟨g, o + n * 5 + 2, none⟩ = some (.int .i64 d.f) ∧ w'.cell? ⟨g, o + n * 5 + 3, none⟩ = some (.bool d.w) ∧ w'.cell? ⟨g, o + n * 5 + 4, none⟩ = some (.bool d.a) ∧ w'.cell? ⟨g2, o2 + k * 5, none⟩ = some (.int .i64 d.p) ∧ w'.cell? ⟨g2, o2 + k * 5 + 1, none⟩ = some (.int .i64 d.v) ∧ w'.cell? ⟨g2, o2 + k * 5 + 2, none⟩ = some (.int .i64 d.f) ∧ w'.cell? ⟨g2, o2 + k * 5 + 3, none⟩ = some (.bool d.w) ∧ w'.cell? ⟨g2, o2 + k * 5 + 4, none⟩ = some (.bool d.a)) (by kernel_rfl) ?_ (fun hHeld => ?_)
        · (try dsimp only); (refine ⟨?_, ?_, ?_, ?_, ?_, ?_, ?_, ?_, ?_, ?_⟩ <;> (repeat (first | (with_reducible assumption) | (with_reducible refine far_drew ?_))))
        first | refine wpAnyH_take (i := 0) (v := undef) rfl (by kernel_rfl) (by kernel_rfl) (by kernel_rfl) (fun _ _ _ h => h) (Or.inr ⟨by rfl, rfl⟩) (by assumption) ?_ | (refine' wpAnyH_take (i := 0) (v := _) rfl (by kernel_rfl) (by kernel_rfl) (by kernel_rfl) (fun _ _ _ h => h) (Or.inl ⟨by rfl, ?hy0b⟩) (by assumption) ?rest0b; case hy0b => (intro w hSw; (try dsimp only at hSw); (first | (go_simp; done) | (go_simp; with_reducible rfl))))
        try simp only [Act.put, List.setIfInBounds_toArray, List.set_cons_zero, List.set_cons_succ, List.getElem_toArray, List.getElem_cons_zero, List.getElem_cons_succ]
        first | refine wpAnyH_take (i := 1) (v := undef) rfl (by kernel_rfl) (by kernel_rfl) (by kernel_rfl) (fun _ _ _ h => h) (Or.inr ⟨by rfl, rfl⟩) (by assumption) ?_ | (refine' wpAnyH_take (i := 1) (v := _) rfl (by kernel_rfl) (by kernel_rfl) (by kernel_rfl) (fun _ _ _ h => h) (Or.inl ⟨by rfl, ?hy1b⟩) (by assumption) ?rest1b; case hy1b => (intro w hSw; (try dsimp only at hSw); (first | (go_simp; done) | (go_simp; with_reducible rfl))))
        try simp only [Act.put, List.setIfInBounds_toArray, List.set_cons_zero, List.set_cons_succ, List.getElem_toArray, List.getElem_cons_zero, List.getElem_cons_succ]
        first | refine wpAnyH_take (i := 2) (v := undef) rfl (by kernel_rfl) (by kernel_rfl) (by kernel_rfl) (fun _ _ _ h => h) (Or.inr ⟨by rfl, rfl⟩) (by assumption) ?_ | (refine' wpAnyH_take (i := 2) (v := _) rfl (by kernel_rfl) (by kernel_rfl) (by kernel_rfl) (fun _ _ _ h => h) (Or.inl ⟨by rfl, ?hy2b⟩) (by assumption) ?rest2b; case hy2b => (intro w hSw; (try dsimp only at hSw); (first | (go_simp; done) | (go_simp; with_reducible rfl))))
        try simp only [Act.put, List.setIfInBounds_toArray, List.set_cons_zero, List.set_cons_succ, List.getElem_toArray, List.getElem_cons_zero, List.getElem_cons_succ]
        first | refine wpAnyH_take (i := 3) (v := undef) rfl (by kernel_rfl) (by kernel_rfl) (by kernel_rfl) (fun _ _ _ h => h) (Or.inr ⟨by rfl, rfl⟩) (by assumption) ?_ | (refine' wpAnyH_take (i := 3) (v := _) rfl (by kernel_rfl) (by kernel_rfl) (by kernel_rfl) (fun _ _ _ h => h) (Or.inl ⟨by rfl, ?hy3b⟩) (by assumption) ?rest3b; case hy3b => (intro w hSw; (try dsimp only at hSw); (first | (go_simp; done) | (go_simp; with_reducible rfl))))
        try simp only [Act.put, List.setIfInBounds_toArray, List.set_cons_zero, List.set_cons_succ, List.getElem_toArray, List.getElem_cons_zero, List.getElem_cons_succ]
        first | refine wpAnyH_take (i := 4) (v := undef) rfl (by kernel_rfl) (by kernel_rfl) (by kernel_rfl) (fun _ _ _ h => h) (Or.inr ⟨by rfl, rfl⟩) (by assumption) ?_ | (refine' wpAnyH_take (i := 4) (v := _) rfl (by kernel_rfl) (by kernel_rfl) (by kernel_rfl) (fun _ _ _ h => h) (Or.inl ⟨by rfl, ?hy4b⟩) (by assumption) ?rest4b; case hy4b => (intro w hSw; (try dsimp only at hSw); (first | (go_simp; done) | (go_simp; with_reducible rfl))))
        try simp only [Act.put, List.setIfInBounds_toArray, List.set_cons_zero, List.set_cons_succ, List.getElem_toArray, List.getElem_cons_zero, List.getElem_cons_succ]
        first | refine wpAnyH_take (i := 5) (v := undef) rfl (by kernel_rfl) (by kernel_rfl) (by kernel_rfl) (fun _ _ _ h => h) (Or.inr ⟨by rfl, rfl⟩) (by assumption) ?_ | (refine' wpAnyH_take (i := 5) (v := _) rfl (by kernel_rfl) (by kernel_rfl) (by kernel_rfl) (fun _ _ _ h => h) (Or.inl ⟨by rfl, ?hy5b⟩) (by assumption) ?rest5b; case hy5b => (intro w hSw; (try dsimp only at hSw); (first | (go_simp; done) | (go_simp; with_reducible rfl))))
        try simp only [Act.put, List.setIfInBounds_toArray, List.set_cons_zero, List.set_cons_succ, List.getElem_toArray, List.getElem_cons_zero, List.getElem_cons_succ]
        first | refine wpAnyH_take (i := 6) (v := undef) rfl (by kernel_rfl) (by kernel_rfl) (by kernel_rfl) (fun _ _ _ h => h) (Or.inr ⟨by rfl, rfl⟩) (by assumption) ?_ | (refine' wpAnyH_take (i := 6) (v := _) rfl (by kernel_rfl) (by kernel_rfl) (by kernel_rfl) (fun _ _ _ h => h) (Or.inl ⟨by rfl, ?hy6b⟩) (by assumption) ?rest6b; case hy6b => (intro w hSw; (try dsimp only at hSw); (first | (go_simp; done) | (go_simp; with_reducible rfl))))
        try simp only [Act.put, List.setIfInBounds_toArray, List.set_cons_zero, List.set_cons_succ, List.getElem_toArray, List.getElem_cons_zero, List.getElem_cons_succ]
        first | refine wpAnyH_take (i := 7) (v := undef) rfl (by kernel_rfl) (by kernel_rfl) (by kernel_rfl) (fun _ _ _ h => h) (Or.inr ⟨by rfl, rfl⟩) (by assumption) ?_ | (refine' wpAnyH_take (i := 7) (v := _) rfl (by kernel_rfl) (by kernel_rfl) (by kernel_rfl) (fun _ _ _ h => h) (Or.inl ⟨by rfl, ?hy7b⟩) (by assumption) ?rest7b; case hy7b => (intro w hSw; (try dsimp only at hSw); (first | (go_simp; done) | (go_simp; with_reducible rfl))))
        try simp only [Act.put, List.setIfInBounds_toArray, List.set_cons_zero, List.set_cons_succ, List.getElem_toArray, List.getElem_cons_zero, List.getElem_cons_succ]
        first | refine wpAnyH_take (i := 8) (v := undef) rfl (by kernel_rfl) (by kernel_rfl) (by kernel_rfl) (fun _ _ _ h => h) (Or.inr ⟨by rfl, rfl⟩) (by assumption) ?_ | (refine' wpAnyH_take (i := 8) (v := _) rfl (by kernel_rfl) (by kernel_rfl) (by kernel_rfl) (fun _ _ _ h => h) (Or.inl ⟨by rfl, ?hy8b⟩) (by assumption) ?rest8b; case hy8b => (intro w hSw; (try dsimp only at hSw); (first | (go_simp; done) | (go_simp; with_reducible rfl))))
        try simp only [Act.put, List.setIfInBounds_toArray, List.set_cons_zero, List.set_cons_succ, List.getElem_toArray, List.getElem_cons_zero, List.getElem_cons_succ]
        first | refine wpAnyH_take (i := 9) (v := undef) rfl (by kernel_rfl) (by kernel_rfl) (by kernel_rfl) (fun _ _ _ h => h) (Or.inr ⟨by rfl, rfl⟩) (by assumption) ?_ | (refine' wpAnyH_take (i := 9) (v := _) rfl (by kernel_rfl) (by kernel_rfl) (by kernel_rfl) (fun _ _ _ h => h) (Or.inl ⟨by rfl, ?hy9b⟩) (by assumption) ?rest9b; case hy9b => (intro w hSw; (try dsimp only at hSw); (first | (go_simp; done) | (go_simp; with_reducible rfl))))
        try simp only [Act.put, List.setIfInBounds_toArray, List.set_cons_zero, List.set_cons_succ, List.getElem_toArray, List.getElem_cons_zero, List.getElem_cons_succ]
        first | refine wpAnyH_take (i := 10) (v := undef) rfl (by kernel_rfl) (by kernel_rfl) (by kernel_rfl) (fun _ _ _ h => h) (Or.inr ⟨by rfl, rfl⟩) (by assumption) ?_ | (refine' wpAnyH_take (i := 10) (v := _) rfl (by kernel_rfl) (by kernel_rfl) (by kernel_rfl) (fun _ _ _ h => h) (Or.inl ⟨by rfl, ?hy10b⟩) (by assumption) ?rest10b; case hy10b => (intro w hSw; (try dsimp only at hSw); (first | (go_simp; done) | (go_simp; with_reducible rfl))))
        try simp only [Act.put, List.setIfInBounds_toArray, List.set_cons_zero, List.set_cons_succ, List.getElem_toArray, List.getElem_cons_zero, List.getElem_cons_succ]
        first | refine wpAnyH_take (i := 11) (v := undef) rfl (by kernel_rfl) (by kernel_rfl) (by kernel_rfl) (fun _ _ _ h => h) (Or.inr ⟨by rfl, rfl⟩) (by assumption) ?_ | (refine' wpAnyH_take (i := 11) (v := _) rfl (by kernel_rfl) (by kernel_rfl) (by kernel_rfl) (fun _ _ _ h => h) (Or.inl ⟨by rfl, ?hy11b⟩) (by assumption) ?rest11b; case hy11b => (intro w hSw; (try dsimp only at hSw); (first | (go_simp; done) | (go_simp; with_reducible rfl))))
        try simp only [Act.put, List.setIfInBounds_toArray, List.set_cons_zero, List.set_cons_succ, List.getElem_toArray, List.getElem_cons_zero, List.getElem_cons_succ]
        first | refine wpAnyH_take (i := 12) (v := undef) rfl (by kernel_rfl) (by kernel_rfl) (by kernel_rfl) (fun _ _ _ h => h) (Or.inr ⟨by rfl, rfl⟩) (by assumption) ?_ | (refine' wpAnyH_take (i := 12) (v := _) rfl (by kernel_rfl) (by kernel_rfl) (by kernel_rfl) (fun _ _ _ h => h) (Or.inl ⟨by rfl, ?hy12b⟩) (by assumption) ?rest12b; case hy12b => (intro w hSw; (try dsimp only at hSw); (first | (go_simp; done) | (go_simp; with_reducible rfl))))
        try simp only [Act.put, List.setIfInBounds_toArray, List.set_cons_zero, List.set_cons_succ, List.getElem_toArray, List.getElem_cons_zero, List.getElem_cons_succ]
        first | refine wpAnyH_take (i := 13) (v := undef) rfl (by kernel_rfl) (by kernel_rfl) (by kernel_rfl) (fun _ _ _ h => h) (Or.inr ⟨by rfl, rfl⟩) (by assumption) ?_ | (refine' wpAnyH_take (i := 13) (v := _) rfl (by kernel_rfl) (by kernel_rfl) (by kernel_rfl) (fun _ _ _ h => h) (Or.inl ⟨by rfl, ?hy13b⟩) (by assumption) ?rest13b; case hy13b => (intro w hSw; (try dsimp only at hSw); (first | (go_simp; done) | (go_simp; with_reducible rfl))))
        try simp only [Act.put, List.setIfInBounds_toArray, List.set_cons_zero, List.set_cons_succ, List.getElem_toArray, List.getElem_cons_zero, List.getElem_cons_succ]
        first | refine wpAnyH_take (i := 14) (v := undef) rfl (by kernel_rfl) (by kernel_rfl) (by kernel_rfl) (fun _ _ _ h => h) (Or.inr ⟨by rfl, rfl⟩) (by assumption) ?_ | (refine' wpAnyH_take (i := 14) (v := _) rfl (by kernel_rfl) (by kernel_rfl) (by kernel_rfl) (fun _ _ _ h => h) (Or.inl ⟨by rfl, ?hy14b⟩) (by assumption) ?rest14b; case hy14b => (intro w hSw; (try dsimp only at hSw); (first | (go_simp; done) | (go_simp; with_reducible rfl))))
        try simp only [Act.put, List.setIfInBounds_toArray, List.set_cons_zero, List.set_cons_succ, List.getElem_toArray, List.getElem_cons_zero, List.getElem_cons_succ]
        refine wpAnyH_done (by kernel_rfl) ?_ _
        go_upto_region 19 with fail
        go_region
        go_wp2
        exact ⟨⟨i, k + 1, n + 1, rfl, by go_num, by go_num, by omega, by omega, by omega, HI2, HK2, HGA.out.drew.drew⟩, by simp [intOf] <;> omega⟩
    · obtain rfl : n = N := by omega
      have HD7 := Lib.hid (HD6.out.grew G)
      have HG7 := Lib.hid (HG6.out.trans G)
      clear G HR6 HO6 HD6 HP6 HG6 HI HK
      go_wp2_with fail
      with_reducible refine (of_p (f := f) HD7.out hld).mono ?_
      rw [HOR.out]
      rintro e9 w8 ⟨vz, rfl, R8, g8⟩
      obtain ⟨az, cz, rfl⟩ : ∃ a c, vz = .slice a 0 c := by obtain ⟨a, c, e, -, -⟩ := R8.slice; exact ⟨a, c, e⟩
      have HG8 := Lib.hid (HG7.out.trans g8)
      clear R8 g8 HG7
      go_wp2_with fail
      with_reducible refine (awake_any _).mono ?_
      rintro e9 w9 ⟨rfl, g9⟩
      go_wp2
      go_ret
      exact ⟨rfl, HG8.out.trans g9⟩

theorem Try.own : ownKnob Try.prog.godebug = none := by kernel_rfl
theorem Try.laidOut : laidOutB Try.prog = true := by kernel_rfl

theorem pagetableReverse_contract (W : World) (base : Nat) (args : Array Value) (H : Type) (enc : TypeId × Value → H) (ds : List (DataW H)) (p : List MemPlace)
    (hval : ∀ (j : Nat) t v, Try.f4.params[j]? = some t → args[j]? = some v → Value.okWide Try.prog W .any base t v)
    (hA : DataW.TrodAll enc Try.prog W 0 (fun _ => true) true Try.f4.params.toList args.toList ds p) :
    (∃ d0 d1, ds = [d0, d1]) ∧ Calls Try.prog 4 args W fun e W' => e = .returned (.bool true) ∧ Below W.heap.size W W' := by
  rw [Try.params4] at hval hA
  obtain ⟨v0, v1, d0, d1, p0, p1, ha, hd, hp, h0, h1⟩ := args_2 hA
  subst ha hd
  obtain ⟨A0, c0, xs0, rfl, hr0, hm0⟩ := open_introw Try.underlying22 Try.underlying3 (by kernel_rfl) (hval 0 _ _ rfl rfl) h0
  obtain ⟨n1, rfl, -, -, hw1⟩ := open_int Try.underlying3 (hval 1 _ _ rfl rfl) h1
  exact ⟨⟨_, _, rfl⟩, (rev_core A0 c0 xs0 n1 W hr0 hm0 hw1).mono fun _ _ h => h⟩

set_option maxRecDepth 100000 in
theorem pagetableReverse_lifted (os : Os) (started : os.Started) (H : Type) (enc : TypeId × Value → H) :
    ReturnsInHanded {} Try.checked os 4 .any (Rows.pagetableReverseSpec.pre6 enc Try.prog Try.f4 Rows.pagetableReverseRow.domain false) (Rows.pagetableReverseSpec.post enc Try.prog Try.f4 false true false false) := by
  refine returnsInHanded_of_change (C := Try.checked) Try.own started (by kernel_rfl) Try.func4
    (ChangeSpec.witness6 (enc := enc) (C := Try.checked) false ⟨#[], #[.slice none 0 0, .int .i64 0], []⟩ 8 (by kernel_rfl) (by kernel_rfl) (by kernel_rfl) (by kernel_rfl)) ?_
  intro W base args ds gs before hval hW _ _
  obtain ⟨p, q, hA, hV, hrest⟩ := id hW
  obtain ⟨⟨d0, d1, rfl⟩, hc⟩ := pagetableReverse_contract W base args H enc ds p hval hA
  obtain ⟨rfl, -⟩ := trodVars_none hV
  refine hc.mono fun e W' ⟨he, hb⟩ => ⟨_, he, ?_⟩
  exact law_close (tb := 4) Try.laidOut (by rw [Try.params4]; decide +kernel) Try.underlying4 rfl rfl hW rfl rfl rfl hb

theorem pagetableReverse_holds : Rows.PagetableReverseSaid :=
  OpenClaim.holds_of_wide 4 Try.f4 rfl rfl rfl rfl rfl rfl rfl ⟨rfl, rfl, rfl, rfl, rfl⟩ rfl rfl rfl rfl rfl (by kernel_rfl) Try.func4 (by kernel_rfl)
    (of_decide_eq_true (by kernel_rfl)) (by unfold Func.isWrapper; first | (rw [if_pos (by decide +kernel)]; kernel_rfl) | (rw [if_neg (by decide +kernel)]; exact ⟨rfl, rfl⟩))
    (fun os started H enc _ => pagetableReverse_lifted os started H enc)
end Go.Proofs.Ytjkkhfionmdmpaa

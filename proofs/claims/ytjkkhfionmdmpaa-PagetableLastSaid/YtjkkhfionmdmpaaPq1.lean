/- Page tables (layer 17): Of, Drop, Zap, Protect, Young, Same, Get of the answer. -/
import Derived.Test.YtjkkhfionmdmpaaPt9
namespace Go.Mine
open Go Go.RowKit
def qfL (q : Pt → Bool) (L : List Pt) (i : Nat) : List Pt := (L.take i).filter q
theorem qfL_len (q : Pt → Bool) (L : List Pt) (i : Nat) : (qfL q L i).length ≤ i := by
  refine Nat.le_trans (List.length_filter_le _ _) ?_
  rw [List.length_take]; omega
theorem qfL_y {q : Pt → Bool} {L : List Pt} {i : Nat} (hi : i < L.length) (h : q (L.getD i zT) = true) : qfL q L i ++ [L.getD i zT] = qfL q L (i + 1) := by
  unfold qfL
  rw [take_succT hi, List.filter_append, List.filter_cons_of_pos h]; rfl
theorem qfL_n {q : Pt → Bool} {L : List Pt} {i : Nat} (hi : i < L.length) (h : q (L.getD i zT) = false) : qfL q L i = qfL q L (i + 1) := by
  unfold qfL
  rw [take_succT hi, List.filter_append, List.filter_cons_of_neg (by rw [h]; decide)]
  exact (List.append_nil _).symm
theorem qfL_all (q : Pt → Bool) (L : List Pt) : qfL q L L.length = L.filter q := by unfold qfL; rw [List.take_length]
/-- It gives a list that lies from B on. -/
def RetPq (B : Nat) (L : List Pt) (w : World) (e : Ending) (w' : World) : Prop := ∃ v, e = .returned v ∧ RdS 5 encT w' B v L ∧ Grew w w'
def zqT (p v c : Int) (x : Pt) : Bool := !(decide (1 ≤ c) && zpB p v c x)
theorem zq_eq {L : List Pt} {p v c : Int} (h : okT L = true) : L.filter (zqT p v c) = zapT L p v c := by
  unfold zapT zqT
  rw [h, Bool.and_true]
  cases decide (1 ≤ c)
  · exact List.filter_eq_self.2 fun x _ => rfl
  · rfl
theorem zq_1 {p v c : Int} {x : Pt} (h : ¬x.p = p) : zqT p v c x = true := by unfold zqT zpB; rw [decide_eq_false (p := x.p = p ∧ v ≤ x.v ∧ x.v - c < v) (fun k => h k.1), Bool.and_false]; rfl
theorem zq_2 {p v c : Int} {x : Pt} (h : c < 1) : zqT p v c x = true := by unfold zqT; rw [decide_eq_false (p := 1 ≤ c) (by omega)]; rfl
theorem zq_3 {p v c : Int} {x : Pt} (h : x.v < v) : zqT p v c x = true := by unfold zqT zpB; rw [decide_eq_false (p := x.p = p ∧ v ≤ x.v ∧ x.v - c < v) (fun k => by omega), Bool.and_false]; rfl
theorem zq_4 {p v c : Int} {x : Pt} (h : v ≤ x.v - c) : zqT p v c x = true := by unfold zqT zpB; rw [decide_eq_false (p := x.p = p ∧ v ≤ x.v ∧ x.v - c < v) (fun k => by omega), Bool.and_false]; rfl
theorem zq_5 {p v c : Int} {x : Pt} (h1 : x.p = p) (h2 : ¬c < 1) (h3 : ¬x.v < v) (h4 : ¬v ≤ x.v - c) : zqT p v c x = false := by unfold zqT zpB; rw [decide_eq_true (p := 1 ≤ c) (by omega), decide_eq_true (p := x.p = p ∧ v ≤ x.v ∧ x.v - c < v) ⟨h1, by omega, by omega⟩]; rfl
theorem prtT_1 {L : List Pt} {f : Int} (h : okT L = true) : prtT L f = L.map (prX f) := by unfold prtT; rw [h]
theorem prtT_0 {L : List Pt} {f : Int} (h : okT L = false) : prtT L f = L := by unfold prtT; rw [h]
theorem yngT_1 {L : List Pt} {f : Int} (h : okT L = true) : yngT L f = (L.map (yoX f), L.any (yoB f)) := by unfold yngT; rw [h]
theorem yngT_0 {L : List Pt} {f : Int} (h : okT L = false) : yngT L f = (L, false) := by unfold yngT; rw [h]
theorem ofT_1 {L : List Pt} {f : Int} (h : okT L = true) : ofT L f = L.filter fun x => decide (x.f = f) := by unfold ofT; rw [h]
theorem ofT_0 {L : List Pt} {f : Int} (h : okT L = false) : ofT L f = [] := by unfold ofT; rw [h]
theorem drpT_1 {L : List Pt} {f : Int} (h : okT L = true) : drpT L f = L.filter fun x => !decide (x.f = f) := by unfold drpT; rw [h]
theorem drpT_0 {L : List Pt} {f : Int} (h : okT L = false) : drpT L f = L := by unfold drpT; rw [h]
end Go.Mine
namespace Go.Proofs.Ytjkkhfionmdmpaa
open Go.RowKit Go.Mine

set_option maxHeartbeats 4000000 in
theorem of_q {B : Nat} {v : Value} {L : List Pt} {f : Int} {w : World} (h : RdS 5 encT w B v L) (hB : B ≤ w.heap.size) (hl : L.length ≤ 1000) : Calls Try.prog 22 #[v, .int .i64 f] w (RetPq B (ofT L f) w) := by
  have HH := Lib.hid h
  have HB := Lib.hid hB
  clear h hB
  cases h1 : okT L
  · have HE := Lib.hid (ofT_0 (f := f) h1)
    have H1 := Lib.hid h1
    clear h1
    go_enter Try.func22, Try.ntmps22
    go_wp2_with fail
    with_reducible refine (check_q HH.out hl H1.out).mono ?_
    rintro e9 w1 ⟨rfl, g1⟩
    go_wp2
    go_ret
    exact ⟨_, rfl, by rw [HE.out]; exact RdS.nil _ _ _ _ (Nat.zero_le _), g1⟩
  · have H1 := Lib.hid h1
    obtain ⟨a0, c0, rfl, -, -⟩ := HH.out.slice
    have HC := Lib.hid (check_q HH.out hl H1.out)
    obtain ⟨n, hn⟩ : ∃ n, L.length = n := ⟨_, rfl⟩
    have HN := Lib.hid hn
    rw [hn] at HH HC hl ⊢
    clear hn h1
    go_enter Try.func22, Try.ntmps22
    go_wp2_with fail
    with_reducible refine HC.out.mono ?_
    rintro e9 w1 ⟨rfl, g1⟩
    have HG1 := Lib.hid g1
    clear g1 HC
    go_wp2_with fail
    go_loopw [5, 6] (fun fv iv wr => ∃ (i : Nat) (r : Value) (M : List Pt), r = fv ∧ iv = .int .i64 i ∧ i ≤ n ∧ M.length ≤ i ∧ Hid (M = qfL (fun x => decide (x.f = f)) L i) ∧ RowE 30 5 encT wr w.heap.size r M ∧ Grew w wr) (fun _ iv _ => n - (intOf iv).toNat)
    case atStart => exact ⟨0, _, [], rfl, rfl, by omega, by simp, Lib.hid rfl, RowE.nil _ _, HG1.out⟩
    case round =>
      obtain ⟨i, fv, M, rfl, rfl, hi, hml, HM, R, G⟩ := hrel
      obtain ⟨wo, rfl⟩ : ∃ wo : World, wo = wr := ⟨_, rfl⟩
      have HR := Lib.hid R
      have HG := Lib.hid G
      by_cases hlt : i < n
      · have hiL : i < L.length := by rw [HN.out]; exact hlt
        obtain ⟨g, o, rfl, hBg, hg, c0, c1, c2, c3, c4⟩ := (HH.out.grew G).atT hiL
        have hrd := rtTD H1.out hiL
        have HY := Lib.hid (fun h => @qfL_y (fun x => decide (x.f = f)) L i hiL h)
        have HX := Lib.hid (fun h => @qfL_n (fun x => decide (x.f = f)) L i hiL h)
        generalize L.getD i zT = d at *
        have r := rtT_iff.1 hrd
        have hi0 : (0 : Int) ≤ (i : Int) := by omega
        have hi1 : (i : Int) < (n : Int) := by omega
        have hx6 : M.length < 1000000 := by omega
        have hz : ∀ ob, w.heap.size ≤ (wo.alloc ob).heap.size := fun ob => Nat.le_trans HG.out.size (by simp)
        clear hrd R G
        by_cases q1 : d.f = f
        · have e1 : (d.f == f) = true := by simp [q1]
          have HM2 := Lib.hid (HM.out ▸ HY.out (decide_eq_true q1))
          clear HM HY HX q1
          go_wp2_with (at_builtin; go_loud (refine wpList_append_row _ rfl _ _ 26 rfl w.heap.size info_pt Try.underlying26 (by decide) (by decide) encT_len fv M rfl (HR.out.alloc _) _ _ d rfl (Mine.Own.new _ _ _) encT_one hx6 (by decide) (hz _) ?_; intro g7 cap w7 R7 G7 o7))
          have HR7 := Lib.hid R7
          have HG7 := Lib.hid (Grew.keptA (B := w.heap.size) (HG.out.alloc _) G7 (fun x e => HR.out.above x e) (Nat.le_refl _))
          clear o7 G7 R7
          go_roundw
          case rel => exact ⟨i + 1, _, M ++ [d], rfl, by go_num, by omega, by simp; omega, HM2, HR7.out, HG7.out⟩
          case measure => simp [intOf]; omega
        · have e1 : (d.f == f) = false := by simp [q1]
          have HM2 := Lib.hid (HM.out.trans (HX.out (decide_eq_false q1)))
          clear HM HY HX
          go_wp2
          exact ⟨⟨i + 1, _, M, rfl, by go_num, by omega, by omega, HM2, HR.out, HG.out⟩, by simp [intOf] <;> omega⟩
      · obtain rfl : i = n := by omega
        have HE : Hid (M = ofT L f) := Lib.hid (by rw [HM.out, ← HN.out, qfL_all]; exact (ofT_1 H1.out).symm)
        clear R G
        go_wp2
        go_ret
        exact ⟨_, rfl, by rw [← HE.out]; exact (RowE.rdS encT_len HR.out).wider HB.out, HG.out⟩
set_option maxHeartbeats 4000000 in
theorem drop_q {B : Nat} {v : Value} {L : List Pt} {f : Int} {w : World} (h : RdS 5 encT w B v L) (hB : B ≤ w.heap.size) (hl : L.length ≤ 1000) : Calls Try.prog 24 #[v, .int .i64 f] w (RetPq B (drpT L f) w) := by
  have HH := Lib.hid h
  have HB := Lib.hid hB
  clear h hB
  cases h1 : okT L
  · have HE := Lib.hid (drpT_0 (f := f) h1)
    have H1 := Lib.hid h1
    clear h1
    go_enter Try.func24, Try.ntmps24
    go_wp2_with fail
    with_reducible refine (check_q HH.out hl H1.out).mono ?_
    rintro e9 w1 ⟨rfl, g1⟩
    go_wp2
    go_ret
    exact ⟨_, rfl, by rw [HE.out]; exact HH.out.grew g1, g1⟩
  · have H1 := Lib.hid h1
    obtain ⟨a0, c0, rfl, -, -⟩ := HH.out.slice
    have HC := Lib.hid (check_q HH.out hl H1.out)
    obtain ⟨n, hn⟩ : ∃ n, L.length = n := ⟨_, rfl⟩
    have HN := Lib.hid hn
    rw [hn] at HH HC hl ⊢
    clear hn h1
    go_enter Try.func24, Try.ntmps24
    go_wp2_with fail
    with_reducible refine HC.out.mono ?_
    rintro e9 w1 ⟨rfl, g1⟩
    have HG1 := Lib.hid g1
    clear g1 HC
    go_wp2_with fail
    go_loopw [5, 6] (fun fv iv wr => ∃ (i : Nat) (r : Value) (M : List Pt), r = fv ∧ iv = .int .i64 i ∧ i ≤ n ∧ M.length ≤ i ∧ Hid (M = qfL (fun x => !decide (x.f = f)) L i) ∧ RowE 30 5 encT wr w.heap.size r M ∧ Grew w wr) (fun _ iv _ => n - (intOf iv).toNat)
    case atStart => exact ⟨0, _, [], rfl, rfl, by omega, by simp, Lib.hid rfl, RowE.nil _ _, HG1.out⟩
    case round =>
      obtain ⟨i, fv, M, rfl, rfl, hi, hml, HM, R, G⟩ := hrel
      obtain ⟨wo, rfl⟩ : ∃ wo : World, wo = wr := ⟨_, rfl⟩
      have HR := Lib.hid R
      have HG := Lib.hid G
      by_cases hlt : i < n
      · have hiL : i < L.length := by rw [HN.out]; exact hlt
        obtain ⟨g, o, rfl, hBg, hg, c0, c1, c2, c3, c4⟩ := (HH.out.grew G).atT hiL
        have hrd := rtTD H1.out hiL
        have HY := Lib.hid (fun h => @qfL_y (fun x => !decide (x.f = f)) L i hiL h)
        have HX := Lib.hid (fun h => @qfL_n (fun x => !decide (x.f = f)) L i hiL h)
        generalize L.getD i zT = d at *
        have r := rtT_iff.1 hrd
        have hi0 : (0 : Int) ≤ (i : Int) := by omega
        have hi1 : (i : Int) < (n : Int) := by omega
        have hx6 : M.length < 1000000 := by omega
        have hz : ∀ ob, w.heap.size ≤ (wo.alloc ob).heap.size := fun ob => Nat.le_trans HG.out.size (by simp)
        clear hrd R G
        by_cases q1 : d.f = f
        · have e1 : (d.f == f) = true := by simp [q1]
          have HM2 := Lib.hid (HM.out.trans (HX.out (by rw [decide_eq_true q1]; rfl)))
          clear HM HY HX q1
          go_wp2
          exact ⟨⟨i + 1, _, M, rfl, by go_num, by omega, by omega, HM2, HR.out, HG.out⟩, by simp [intOf] <;> omega⟩
        · have e1 : (d.f == f) = false := by simp [q1]
          have HM2 := Lib.hid (HM.out ▸ HY.out (by rw [decide_eq_false q1]; rfl))
          clear HM HY HX
          go_wp2_with (at_builtin; go_loud (refine wpList_append_row _ rfl _ _ 26 rfl w.heap.size info_pt Try.underlying26 (by decide) (by decide) encT_len fv M rfl (HR.out.alloc _) _ _ d rfl (Mine.Own.new _ _ _) encT_one hx6 (by decide) (hz _) ?_; intro g7 cap w7 R7 G7 o7))
          have HR7 := Lib.hid R7
          have HG7 := Lib.hid (Grew.keptA (B := w.heap.size) (HG.out.alloc _) G7 (fun x e => HR.out.above x e) (Nat.le_refl _))
          clear o7 G7 R7
          go_roundw
          case rel => exact ⟨i + 1, _, M ++ [d], rfl, by go_num, by omega, by simp; omega, HM2, HR7.out, HG7.out⟩
          case measure => simp [intOf]; omega
      · obtain rfl : i = n := by omega
        have HE : Hid (M = drpT L f) := Lib.hid (by rw [HM.out, ← HN.out, qfL_all]; exact (drpT_1 H1.out).symm)
        clear R G
        go_wp2
        go_ret
        exact ⟨_, rfl, by rw [← HE.out]; exact (RowE.rdS encT_len HR.out).wider HB.out, HG.out⟩
set_option maxHeartbeats 4000000 in
theorem zap_q {B : Nat} {v : Value} {L : List Pt} {p q c : Int} {w : World} (h : RdS 5 encT w B v L) (hB : B ≤ w.heap.size) (hl : L.length ≤ 1000) (hc : c ≤ 9223372036854775807) : Calls Try.prog 20 #[v, .int .i64 p, .int .i64 q, .int .i64 c] w (RetPq B (zapT L p q c) w) := by
  have HH := Lib.hid h
  have HB := Lib.hid hB
  clear h hB
  cases h1 : okT L
  · have HE := Lib.hid (zapT_0 (p := p) (v := q) (c := c) h1)
    have H1 := Lib.hid h1
    clear h1
    go_enter Try.func20, Try.ntmps20
    go_wp2_with fail
    with_reducible refine (check_q HH.out hl H1.out).mono ?_
    rintro e9 w1 ⟨rfl, g1⟩
    go_wp2
    go_ret
    exact ⟨_, rfl, by rw [HE.out]; exact HH.out.grew g1, g1⟩
  · have H1 := Lib.hid h1
    obtain ⟨a0, c0, rfl, -, -⟩ := HH.out.slice
    have HC := Lib.hid (check_q HH.out hl H1.out)
    obtain ⟨n, hn⟩ : ∃ n, L.length = n := ⟨_, rfl⟩
    have HN := Lib.hid hn
    rw [hn] at HH HC hl ⊢
    clear hn h1
    go_enter Try.func20, Try.ntmps20
    go_wp2_with fail
    with_reducible refine HC.out.mono ?_
    rintro e9 w1 ⟨rfl, g1⟩
    have HG1 := Lib.hid g1
    clear g1 HC
    go_wp2_with fail
    go_loopw [9, 10] (fun fv iv wr => ∃ (i : Nat) (r : Value) (M : List Pt), r = fv ∧ iv = .int .i64 i ∧ i ≤ n ∧ M.length ≤ i ∧ Hid (M = qfL (zqT p q c) L i) ∧ RowE 30 5 encT wr w.heap.size r M ∧ Grew w wr) (fun _ iv _ => n - (intOf iv).toNat)
    case atStart => exact ⟨0, _, [], rfl, rfl, by omega, by simp, Lib.hid rfl, RowE.nil _ _, HG1.out⟩
    case round =>
      obtain ⟨i, fv, M, rfl, rfl, hi, hml, HM, R, G⟩ := hrel
      obtain ⟨wo, rfl⟩ : ∃ wo : World, wo = wr := ⟨_, rfl⟩
      have HR := Lib.hid R
      have HG := Lib.hid G
      by_cases hlt : i < n
      · have hiL : i < L.length := by rw [HN.out]; exact hlt
        obtain ⟨g, o, rfl, hBg, hg, c0, c1, c2, c3, c4⟩ := (HH.out.grew G).atT hiL
        have hrd := rtTD H1.out hiL
        have HY := Lib.hid (fun h => @qfL_y (zqT p q c) L i hiL h)
        have HX := Lib.hid (fun h => @qfL_n (zqT p q c) L i hiL h)
        generalize L.getD i zT = d at *
        have r := rtT_iff.1 hrd
        have hi0 : (0 : Int) ≤ (i : Int) := by omega
        have hi1 : (i : Int) < (n : Int) := by omega
        have hx6 : M.length < 1000000 := by omega
        have hz : ∀ ob, w.heap.size ≤ (wo.alloc ob).heap.size := fun ob => Nat.le_trans HG.out.size (by simp)
        clear hrd R G
        by_cases q1 : d.p = p
        · have e1 : (d.p != p) = false := by simp [q1]
          by_cases q2 : c < 1
          · have e2 : decide (c < 1) = true := decide_eq_true q2
            have HM2 := Lib.hid (HM.out ▸ HY.out (zq_2 q2))
            clear HM HY HX q1
            go_wp2_with (at_builtin; go_loud (refine wpList_append_row _ rfl _ _ 26 rfl w.heap.size info_pt Try.underlying26 (by decide) (by decide) encT_len fv M rfl (HR.out.alloc _) _ _ d rfl (Mine.Own.new _ _ _) encT_one hx6 (by decide) (hz _) ?_; intro g7 cap w7 R7 G7 o7))
            have HR7 := Lib.hid R7
            have HG7 := Lib.hid (Grew.keptA (B := w.heap.size) (HG.out.alloc _) G7 (fun x e => HR.out.above x e) (Nat.le_refl _))
            clear o7 G7 R7
            go_roundw
            case rel => exact ⟨i + 1, _, M ++ [d], rfl, by go_num, by omega, by simp; omega, HM2, HR7.out, HG7.out⟩
            case measure => simp [intOf]; omega
          · have e2 : decide (c < 1) = false := decide_eq_false q2
            have hw : IntKind.i64.wrap (d.v - c) = d.v - c := IntWalk.i64_in _ (by omega)
            by_cases q3 : d.v < q
            · have e3 : decide (d.v < q) = true := decide_eq_true q3
              have HM2 := Lib.hid (HM.out ▸ HY.out (zq_3 q3))
              clear HM HY HX q1
              go_wp2_with (at_builtin; go_loud (refine wpList_append_row _ rfl _ _ 26 rfl w.heap.size info_pt Try.underlying26 (by decide) (by decide) encT_len fv M rfl (HR.out.alloc _) _ _ d rfl (Mine.Own.new _ _ _) encT_one hx6 (by decide) (hz _) ?_; intro g7 cap w7 R7 G7 o7))
              have HR7 := Lib.hid R7
              have HG7 := Lib.hid (Grew.keptA (B := w.heap.size) (HG.out.alloc _) G7 (fun x e => HR.out.above x e) (Nat.le_refl _))
              clear o7 G7 R7
              go_roundw
              case rel => exact ⟨i + 1, _, M ++ [d], rfl, by go_num, by omega, by simp; omega, HM2, HR7.out, HG7.out⟩
              case measure => simp [intOf]; omega
            · have e3 : decide (d.v < q) = false := decide_eq_false q3
              by_cases q4 : q ≤ d.v - c
              · have e4 : decide (q ≤ d.v - c) = true := decide_eq_true q4
                have HM2 := Lib.hid (HM.out ▸ HY.out (zq_4 q4))
                clear HM HY HX q1
                go_wp2_with (at_builtin; go_loud (refine wpList_append_row _ rfl _ _ 26 rfl w.heap.size info_pt Try.underlying26 (by decide) (by decide) encT_len fv M rfl (HR.out.alloc _) _ _ d rfl (Mine.Own.new _ _ _) encT_one hx6 (by decide) (hz _) ?_; intro g7 cap w7 R7 G7 o7))
                have HR7 := Lib.hid R7
                have HG7 := Lib.hid (Grew.keptA (B := w.heap.size) (HG.out.alloc _) G7 (fun x e => HR.out.above x e) (Nat.le_refl _))
                clear o7 G7 R7
                go_roundw
                case rel => exact ⟨i + 1, _, M ++ [d], rfl, by go_num, by omega, by simp; omega, HM2, HR7.out, HG7.out⟩
                case measure => simp [intOf]; omega
              · have e4 : decide (q ≤ d.v - c) = false := decide_eq_false q4
                have HM2 := Lib.hid (HM.out.trans (HX.out (zq_5 q1 q2 q3 q4)))
                clear HM HY HX q1
                go_wp2
                exact ⟨⟨i + 1, _, M, rfl, by go_num, by omega, by omega, HM2, HR.out, HG.out⟩, by simp [intOf] <;> omega⟩
        · have e1 : (d.p != p) = true := by simp [q1]
          have HM2 := Lib.hid (HM.out ▸ HY.out (zq_1 q1))
          clear HM HY HX
          go_wp2_with (at_builtin; go_loud (refine wpList_append_row _ rfl _ _ 26 rfl w.heap.size info_pt Try.underlying26 (by decide) (by decide) encT_len fv M rfl (HR.out.alloc _) _ _ d rfl (Mine.Own.new _ _ _) encT_one hx6 (by decide) (hz _) ?_; intro g7 cap w7 R7 G7 o7))
          have HR7 := Lib.hid R7
          have HG7 := Lib.hid (Grew.keptA (B := w.heap.size) (HG.out.alloc _) G7 (fun x e => HR.out.above x e) (Nat.le_refl _))
          clear o7 G7 R7
          go_roundw
          case rel => exact ⟨i + 1, _, M ++ [d], rfl, by go_num, by omega, by simp; omega, HM2, HR7.out, HG7.out⟩
          case measure => simp [intOf]; omega
      · obtain rfl : i = n := by omega
        have HE : Hid (M = zapT L p q c) := Lib.hid (by rw [HM.out, ← HN.out, qfL_all]; exact zq_eq H1.out)
        clear R G
        go_wp2
        go_ret
        exact ⟨_, rfl, by rw [← HE.out]; exact (RowE.rdS encT_len HR.out).wider HB.out, HG.out⟩
set_option maxHeartbeats 4000000 in
theorem get_q {B : Nat} {v : Value} {L : List Pt} {p q : Int} {x : Pt × Bool} {w : World} (h : RdS 5 encT w B v L) (hl : L.length ≤ 1000) (hx : getT L p q = x) : Calls Try.prog 13 #[v, .int .i64 p, .int .i64 q] w (RetG (gtV x) w) := by
  have HX := Lib.hid hx
  have HH := Lib.hid (h.alloc (.cells #[.int .i64 0, .int .i64 0, .int .i64 0, .bool false, .bool false] 30))
  have HO := Lib.hid (Mine.Own.new w 30 #[.int .i64 0, .int .i64 0, .int .i64 0, .bool false, .bool false])
  have HG := Lib.hid ((Grew.refl w).alloc (.cells #[.int .i64 0, .int .i64 0, .int .i64 0, .bool false, .bool false] 30))
  clear h hx
  cases h1 : okT L
  · have HE : Hid (x = (zT, false)) := Lib.hid (HX.out.symm.trans (getT_0 h1))
    have H1 := Lib.hid h1
    clear h1
    go_enter Try.func13, Try.ntmps13
    go_wp2_with fail
    with_reducible refine (check_q HH.out hl H1.out).mono ?_
    rintro e9 w1 ⟨rfl, g1⟩
    have HG1 := Lib.hid (HG.out.trans g1)
    have HO1 := Lib.hid (HO.out.grew g1)
    obtain ⟨x0, x1, x2, x3, x4⟩ := HO1.out.fiveT
    obtain ⟨y0, y1, y2, y3, y4⟩ := HO1.out.five0
    clear g1
    go_wp2
    generalize hw : World.setCell (World.setCell (World.setCell (World.setCell (World.setCell w1 _ _) _ _) _ _) _ _) _ _ = E
    obtain ⟨b0, b1, b2, b3, b4⟩ := (HO1.out.store5T hw).fiveT
    refine bodyPost_ret (v := gtV (zT, false)) (by simp [results, Try.results13, go_sem, b0, b1, b2, b3, b4]) rfl ?_
    exact ⟨by rw [HE.out], HG1.out.far5T hw (Nat.le_refl _)⟩
  · have H1 := Lib.hid h1
    obtain ⟨a0, c, rfl, -, -⟩ := HH.out.slice
    have HC := Lib.hid (check_q HH.out hl H1.out)
    obtain ⟨n, hn⟩ : ∃ n, L.length = n := ⟨_, rfl⟩
    have HN := Lib.hid hn
    rw [hn] at HH HC hl ⊢
    clear hn h1
    go_enter Try.func13, Try.ntmps13
    go_wp2_with fail
    with_reducible refine HC.out.mono ?_
    rintro e9 w1 ⟨rfl, g1⟩
    have HG1 := Lib.hid (HG.out.trans g1)
    have HO1 := Lib.hid (HO.out.grew g1)
    have HZ := Lib.hid (HH.out.grew g1)
    clear g1 HC HG HO HH
    go_wp2_with fail
    go_loopw [8] (fun iv wr => ∃ (i : Nat), iv = .int .i64 i ∧ i ≤ n ∧ Hid (∀ j, j < i → ¬((L.getD j zT).p = p ∧ (L.getD j zT).v = q)) ∧ Mine.Own wr w.heap.size 30 #[.int .i64 0, .int .i64 0, .int .i64 0, .bool false, .bool false] ∧ Grew w1 wr) (fun iv _ => n - (intOf iv).toNat)
    case atStart => exact ⟨0, rfl, by omega, Lib.hid (fun j hj => by omega), HO1.out, Grew.refl _⟩
    case round =>
      obtain ⟨i, rfl, hi, HK, O, G⟩ := hrel
      obtain ⟨wo, rfl⟩ : ∃ wo : World, wo = wr := ⟨_, rfl⟩
      clear HO1
      have HO := Lib.hid O
      have HGG := Lib.hid G
      clear O
      by_cases hlt : i < n
      · have hiL : i < L.length := by rw [HN.out]; exact hlt
        obtain ⟨g, o, rfl, hBg, hg, c0, c1, c2, c3, c4⟩ := (HZ.out.grew G).atT hiL
        have HYE : Hid ((L.getD i zT).p = p ∧ (L.getD i zT).v = q → x = (L.getD i zT, true)) := Lib.hid (fun h => HX.out.symm.trans (getT_s H1.out ((fndT_iff (okT_iff2.1 H1.out).2).2 ⟨by rw [tD hiL]; exact List.getElem_mem hiL, h⟩)))
        have HNX : Hid (¬((L.getD i zT).p = p ∧ (L.getD i zT).v = q) → ∀ j, j < i + 1 → ¬((L.getD j zT).p = p ∧ (L.getD j zT).v = q)) := Lib.hid (fun h j hj => by
          by_cases e : j = i
          · rw [e]; exact h
          · exact HK.out j (by omega))
        generalize L.getD i zT = d at *
        have hi0 : (0 : Int) ≤ (i : Int) := by omega
        have hi1 : (i : Int) < (n : Int) := by omega
        obtain ⟨z0, z1, z2, z3, z4⟩ := HO.out.fiveT
        obtain ⟨y0, y1, y2, y3, y4⟩ := HO.out.five0
        clear G HK
        by_cases q1 : d.p = p
        · have e1 : (d.p == p) = true := by simp [q1]
          by_cases q2 : d.v = q
          · have e2 : (d.v == q) = true := by simp [q2]
            have HE := Lib.hid (HYE.out ⟨q1, q2⟩)
            clear HYE HNX q1 q2
            go_wp2
            generalize hw : World.setCell (World.setCell (World.setCell (World.setCell (World.setCell wo _ _) _ _) _ _) _ _) _ _ = E
            obtain ⟨b0, b1, b2, b3, b4⟩ := (HO.out.store5T hw).fiveT
            refine bodyPost_ret (v := gtV (d, true)) (by simp [results, Try.results13, go_sem, b0, b1, b2, b3, b4]) rfl ?_
            exact ⟨by rw [HE.out], (HG1.out.trans HGG.out).far5T hw (Nat.le_refl _)⟩
          · have e2 : (d.v == q) = false := by simp [q2]
            have HE := Lib.hid (HNX.out (fun h => q2 h.2))
            clear HYE HNX q1 q2
            go_wp2
            exact ⟨⟨i + 1, by go_num, by omega, HE, HO.out, HGG.out⟩, by simp [intOf] <;> omega⟩
        · have e1 : (d.p == p) = false := by simp [q1]
          have HE := Lib.hid (HNX.out (fun h => q1 h.1))
          clear HYE HNX q1
          go_wp2
          exact ⟨⟨i + 1, by go_num, by omega, HE, HO.out, HGG.out⟩, by simp [intOf] <;> omega⟩
      · obtain rfl : i = n := by omega
        have HE : Hid (x = (zT, false)) := Lib.hid (HX.out.symm.trans (getT_n (fndT_none.2 fun y hy => by
          obtain ⟨k, hk, rfl⟩ := List.mem_iff_getElem.1 hy
          have := HK.out k (by rw [← HN.out]; exact hk)
          rw [tD hk] at this
          exact this)))
        obtain ⟨z0, z1, z2, z3, z4⟩ := HO.out.fiveT
        obtain ⟨y0, y1, y2, y3, y4⟩ := HO.out.five0
        clear G HK
        go_wp2
        generalize hw : World.setCell (World.setCell (World.setCell (World.setCell (World.setCell wo _ _) _ _) _ _) _ _) _ _ = E
        obtain ⟨b0, b1, b2, b3, b4⟩ := (HO.out.store5T hw).fiveT
        refine bodyPost_ret (v := gtV (zT, false)) (by simp [results, Try.results13, go_sem, b0, b1, b2, b3, b4]) rfl ?_
        exact ⟨by rw [HE.out], (HG1.out.trans HGG.out).far5T hw (Nat.le_refl _)⟩
theorem run_neqT (w : World) (x y : Pt) : (binOp .neq 30 (ptV x) (ptV y)).run Try.prog w = .ok (.bool (!decide (x = y))) w := by
  obtain ⟨a, b, c, d, e⟩ := x
  obtain ⟨a', b', c', d', e'⟩ := y
  go_simp
  by_cases h1 : a = a' <;> by_cases h2 : b = b' <;> by_cases h3 : c = c' <;> by_cases h4 : d = d' <;> by_cases h5 : e = e' <;> simp [h1, h2, h3, h4, h5]
theorem run_eqlT (w : World) (x y : Pt) : (binOp .eql 30 (ptV x) (ptV y)).run Try.prog w = .ok (.bool (decide (x = y))) w := by
  obtain ⟨a, b, c, d, e⟩ := x
  obtain ⟨a', b', c', d', e'⟩ := y
  go_simp
  by_cases h1 : a = a' <;> by_cases h2 : b = b' <;> by_cases h3 : c = c' <;> by_cases h4 : d = d' <;> by_cases h5 : e = e' <;> simp [h1, h2, h3, h4, h5]
theorem same_q {B B' : Nat} {v u : Value} {L : List Pt} {w : World} (h : RdS 5 encT w B v L) (k : RdS 5 encT w B' u L) (hs : L.length ≤ 1000) : Calls Try.prog 18 #[v, u] w (RetG (.bool true) w) := by
  obtain ⟨a, c, rfl, -, -⟩ := h.slice
  obtain ⟨a', c', rfl, -, -⟩ := k.slice
  have HZ := Lib.hid h
  have HY := Lib.hid k
  obtain ⟨n, hn⟩ : ∃ n, L.length = n := ⟨_, rfl⟩
  have HN := Lib.hid hn
  rw [hn] at HZ HY hs ⊢
  have hdd : ∀ (w : World) (d : Pt), (binOp .neq 30 (ptV d) (ptV d)).run Try.prog w = .ok (.bool false) w := fun w d => (run_neqT w d d).trans (by simp)
  clear h k hn
  go_enter Try.func18, Try.ntmps18
  go_wp2_with fail
  go_loopw [5] (fun iv wr => ∃ i : Nat, iv = .int .i64 i ∧ i ≤ n ∧ Grew w wr) (fun iv _ => n - (intOf iv).toNat)
  case atStart => exact ⟨0, rfl, by omega, Grew.refl _⟩
  case round =>
    obtain ⟨i, rfl, hi, G⟩ := hrel
    obtain ⟨wo, rfl⟩ : ∃ wo : World, wo = wr := ⟨_, rfl⟩
    by_cases hlt : i < n
    · have hiL : i < L.length := by rw [HN.out]; exact hlt
      obtain ⟨g, o, rfl, -, hg, c0, c1, c2, c3, c4⟩ := (HZ.out.grew G).atT hiL
      obtain ⟨g', o', rfl, -, hg', d0, d1, d2, d3, d4⟩ := (HY.out.grew G).atT hiL
      generalize L.getD i zT = d at *
      have hi0 : (0 : Int) ≤ (i : Int) := by omega
      have hi1 : (i : Int) < (n : Int) := by omega
      have HG := Lib.hid G
      clear G
      go_wp2
      go_quiet (fail)
      revert nq; intro nq1
      go_wp2
      exact ⟨⟨i + 1, by go_num, by omega, HG.out.drewN _⟩, by simp [intOf] <;> omega⟩
    · obtain rfl : i = n := by omega
      go_wp2
      go_ret
      exact ⟨rfl, G⟩
end Go.Proofs.Ytjkkhfionmdmpaa

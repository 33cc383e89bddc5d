/- count, Check of the program (layer 18). -/
import Derived.Test.YtokijggckiidjaaDp2
namespace Go.Mine
open Go Go.RowKit
theorem ct_no {d : Dd} {p : Nat} (hp : p < d.t.length) (h : (d.t.getD p []).length ≠ 16) : ¬CtD d := fun k => h (k p hp).1
theorem ct_no2 {d : Dd} {p i : Nat} (hp : p < d.t.length) (hi : i < 16) (h : ¬(0 ≤ (d.t.getD p []).getD i 0 ∧ (d.t.getD p []).getD i 0 ≤ d.o.length)) : ¬CtD d := fun k => h ((k p hp).2 i hi)
end Go.Mine
namespace Go.Proofs.Ytokijggckiidjaa
open Go.ChangeShapes Go.WideShapes Go.ChangeAt Go.RowKit Go.Mine
set_option maxRecDepth 100000 in
set_option maxHeartbeats 8000000 in
theorem count_p {B : Nat} {a b : Value} {d : Dd} {w : World} (h : DdR w B a b d) (ho : d.o.length ≤ 1000) (ht : d.t.length ≤ 1000) : Calls Try.prog 43 #[.agg #[a, b]] w (RetCt d w) := by
  obtain ⟨a', ca, rfl, -, -⟩ := h.o.slice
  obtain ⟨b', cb, rfl, -, -⟩ := h.t.slice
  obtain ⟨m, hm⟩ : ∃ m, d.o.length = m := ⟨_, rfl⟩
  obtain ⟨N, hN⟩ : ∃ N, d.t.length = N := ⟨_, rfl⟩
  have HM := Lib.hid hm
  have HN := Lib.hid hN
  rw [hm] at h ho ⊢
  rw [hN] at h ht ⊢
  have HH := Lib.hid h
  clear h hm hN
  have HA := Lib.hid (Own.new w 29 #[.slice a' m ca, .slice b' N cb])
  have HG := Lib.hid ((Grew.refl w).alloc (.cells #[.slice a' m ca, .slice b' N cb] 29))
  obtain ⟨x0, x1, y0, y1⟩ := HA.out.two
  have hmk := run_make_row' (P := Try.prog) 22 3 (.int .i64 0) 8 Try.underlying22 info_int rfl .i64 .i64 m (by omega) (by omega)
  have R0 := RowE.lit (T := 3) (sz := 1) (enc := enc1) (L := List.replicate m (0 : Int)) (B := w.heap.size + 1) (w.alloc (.cells #[.slice a' m ca, .slice b' N cb] 29)) (madeCells #[Value.int .i64 0] m) (madeZ m) (by simp [madeCells]) (by simp [maxLen]; omega) (by simp)
  rw [← refD_nil, refD_len] at R0
  simp only [World.size_alloc] at R0
  have HC : Hid (CkD w 29 3 (.slice a' m ca) (.slice b' N cb) m [] ((w.alloc (.cells #[.slice a' m ca, .slice b' N cb] 29)).alloc (.cells (madeCells #[Value.int .i64 0] m) 3))) := Lib.hid ⟨HA.out.alloc _, R0, HG.out.alloc _⟩
  clear HA HG R0
  go_enter Try.func43, Try.ntmps43
  go_wp2_with fail
  go_loopw [16] (fun iv wr => ∃ p : Nat, iv = .int .i64 p ∧ p ≤ N ∧ Hid (∀ p', p' < p → (d.t.getD p' []).length = 16 ∧ rowD d p' 16) ∧ CkD w 29 3 (.slice a' m ca) (.slice b' N cb) m (preD d.t p 0) wr) (fun iv _ => N - (intOf iv).toNat)
  case atStart => exact ⟨0, rfl, Nat.zero_le _, Lib.hid (fun p' hp => by omega), by rw [preD_00]; exact HC.out⟩
  case round =>
    clear hmk x0 x1 y0 y1 HC
    obtain ⟨p, rfl, hp, HK, C⟩ := hrel
    obtain ⟨wo, rfl⟩ : ∃ wo : World, wo = wr := ⟨_, rfl⟩
    obtain ⟨x0, x1, y0, y1⟩ := C.box.two
    by_cases hlt : p < N
    · have hlti : (p : Int) < (N : Int) := by omega
      have hp0 : (0 : Int) ≤ (p : Int) := by omega
      obtain ⟨g, o, ta, tc, rfl, hBg, hg0, hc0, RT⟩ := HH.out.t.at_ (k := p) (by rw [HN.out]; exact hlt)
      obtain ⟨K, hK⟩ : ∃ K, (d.t.getD p []).length = K := ⟨_, rfl⟩
      have HKL := Lib.hid hK
      have hc := (C.grew.cells.1 g _ hg0).trans hc0
      have hg : g < wo.heap.size := Nat.lt_of_lt_of_le hg0 C.grew.size
      rw [hK] at hc RT
      have HC := Lib.hid C
      have HRT := Lib.hid RT
      clear RT hK hc0 C
      by_cases h16 : K = 16
      · subst h16
        go_wp2_with fail
        clear x0 x1 y0 y1 hc hg
        go_loopw [25] (fun iv wr => ∃ i : Nat, iv = .int .i64 i ∧ i ≤ 16 ∧ Hid (rowD d p i) ∧ CkD w 29 3 (.slice a' m ca) (.slice (some ⟨g, o, none⟩) N cb) m (preD d.t p i) wr) (fun iv _ => 16 - (intOf iv).toNat)
        case atStart => exact ⟨0, rfl, Nat.zero_le _, Lib.hid (fun i hi => by omega), HC.out⟩
        case round =>
          clear HC
          obtain ⟨i, rfl, hi, HR, C⟩ := hrel
          obtain ⟨wi, rfl⟩ : ∃ wi : World, wi = wr := ⟨_, rfl⟩
          obtain ⟨x0, x1, y0, y1⟩ := C.box.two
          by_cases hlt2 : i < 16
          · have hi0 : (0 : Int) ≤ (i : Int) := by omega
            have hi1 : (i : Int) < 16 := by omega
            obtain ⟨g2, o2, rfl, -, hg2, hc2⟩ := (HRT.out.grew C.grew).atI (k := i) (by rw [HKL.out]; exact hlt2)
            obtain ⟨n, hn⟩ : ∃ n, (d.t.getD p []).getD i 0 = n := ⟨_, rfl⟩
            have HNV := Lib.hid hn
            rw [hn] at hc2
            have HC := Lib.hid C
            have HPS := Lib.hid (preD_s (T := d.t) (p := p) (i := i) (by rw [HKL.out]; exact hlt2))
            clear hn C
            by_cases hin : 0 ≤ n ∧ n ≤ (m : Int)
            rotate_left
            · have HE := Lib.hid (ct_no2 (d := d) (p := p) (i := i) (by rw [HN.out]; exact hlt) hlt2 (by rw [HNV.out, HM.out]; exact hin))
              have Q1 := Lib.hid (isFrom_p (w := wi) (inD_no hin))
              clear hin
              go_wp2_with fail
              with_reducible refine Q1.out.mono ?_
              rintro e9 w1 ⟨rfl, rfl⟩
              go_wp2_with fail
              refine bodyPost_ret (v := .tuple #[.slice none 0 0, .bool false]) (by simp [results, Try.results43, go_sem]) rfl ?_
              exact .inr ⟨HE.out, rfl, HC.out.grew⟩
            have Q1 := Lib.hid (isFrom_p (w := wi) (inD_iff.2 hin))
            have HR2 : Hid (rowD d p (i + 1)) := Lib.hid (fun j hj => by
              by_cases e : j = i
              · rw [e, HNV.out, HM.out]; exact hin
              · exact HR.out j (by omega))
            by_cases hz : n = 0
            · subst hz
              have HC2 := Lib.hid (HC.out.congr (F' := preD d.t p (i + 1)) (by rw [HPS.out, HNV.out, refD_0 _ _ (Int.le_refl 0)]))
              clear hin
              go_wp2_with fail
              with_reducible refine Q1.out.mono ?_
              rintro e9 w1 ⟨rfl, rfl⟩
              go_wp2_with fail
              go_roundw
              case rel => exact ⟨i + 1, by go_num, by omega, HR2, HC2.out⟩
              case measure => simp [intOf]; omega
            · obtain ⟨k, rfl⟩ : ∃ k : Nat, n = (k : Int) + 1 := ⟨(n - 1).toNat, by omega⟩
              have hkm : k < m := by omega
              obtain ⟨hrx, hrc, hrf⟩ := HC.out.at_ hkm
              have HC2 := Lib.hid (HC.out.inc' hkm)
              have HPE : Hid (preD d.t p i ++ [(k : Int) + 1] = preD d.t p (i + 1)) := Lib.hid (by rw [HPS.out, HNV.out])
              rw [HPE.out] at HC2
              have hcb := cntD_le (preD d.t p i) k
              have hpl := preD_le (T := d.t) (p := p) (i := i) (fun p' hp => (HK.out p' hp).1)
              obtain ⟨q, hq⟩ : ∃ q : Nat, cntD (preD d.t p i) k = q := ⟨_, rfl⟩
              rw [hq] at hrc HC2 hcb
              have w1 : IntKind.i64.wrap ((k : Int) + 1 - 1) = (k : Int) := by rw [IntWalk.i64_in _ (by omega)]; omega
              have w2 : IntKind.i64.wrap ((q : Int) + 1) = (q : Int) + 1 := IntWalk.i64_in _ (by omega)
              have hk0 : (0 : Int) ≤ (k : Int) := by omega
              have hk1 : (k : Int) < (m : Int) := by omega
              have hk2 : (0 : Int) < (k : Int) + 1 := by omega
              clear hq hin hz hcb hpl
              go_wp2_with fail
              with_reducible refine Q1.out.mono ?_
              rintro e9 w1 ⟨rfl, rfl⟩
              go_wp2_with fail
              go_roundw
              case rel => exact ⟨i + 1, by go_num, by omega, HR2, HC2.out⟩
              case measure => simp [intOf]; omega
          · obtain rfl : i = 16 := by omega
            rw [show ((16 : Nat) : Int) = 16 from rfl]
            have HC2 : Hid (CkD w 29 3 (.slice a' m ca) (.slice (some ⟨g, o, none⟩) N cb) m (preD d.t (p + 1) 0) wi) := Lib.hid (by rw [preD_n (by rw [HN.out]; exact hlt) HKL.out]; exact C)
            have HK2 : Hid (∀ p', p' < p + 1 → (d.t.getD p' []).length = 16 ∧ rowD d p' 16) := Lib.hid (fun p' hp' => by
              by_cases e : p' = p
              · rw [e]; exact ⟨HKL.out, HR.out⟩
              · exact HK.out p' (by omega))
            clear C
            go_wp2_with fail
            go_roundw
            case rel => exact ⟨p + 1, by go_num, by omega, HK2, HC2.out⟩
            case measure => simp [intOf]; omega
      · have HE := Lib.hid (ct_no (d := d) (p := p) (by rw [HN.out]; exact hlt) (by rw [HKL.out]; exact h16))
        have q16 : ((K : Int) == 16) = false := by simp; omega
        have q17 : ((K : Int) != 16) = true := by simp; omega
        clear h16
        go_wp2_with fail
        refine bodyPost_ret (v := .tuple #[.slice none 0 0, .bool false]) (by simp [results, Try.results43, go_sem]) rfl ?_
        exact .inr ⟨HE.out, rfl, HC.out.grew⟩
    · obtain rfl : p = N := by omega
      have HF : Hid (CkD w 29 3 (.slice a' m ca) (.slice b' p cb) m d.t.flatten wo) := Lib.hid (by
        have e := preD_all (T := d.t)
        rw [HN.out] at e
        rw [← e]; exact C)
      have HCT : Hid (CtD d) := Lib.hid (fun p' hp' => HK.out p' (by rw [← HN.out]; exact hp'))
      clear C hp hlt
      go_wp2_with fail
      refine bodyPost_ret (v := .tuple #[.slice (some ⟨w.heap.size + 1, 0, none⟩) m m, .bool true]) (by simp [results, Try.results43, go_sem]) rfl ?_
      exact .inl ⟨HCT.out, w.heap.size + 1, m, m, rfl, HM.out.symm, by omega, HF.out.row.lt _ rfl, fun k hk => (HF.out.at_ hk).2.1, HF.out.grew⟩
set_option maxRecDepth 100000 in
set_option maxHeartbeats 8000000 in
theorem check_p {B : Nat} {a b : Value} {d : Dd} {bb : Bool} {w : World} (h : DdR w B a b d) (ho : d.o.length ≤ 1000) (ht : d.t.length ≤ 1000) (hb : okD d = bb) : Calls Try.prog 23 #[.agg #[a, b]] w (RetG (.bool bb) w) := by
  obtain ⟨a', ca, rfl, -, -⟩ := h.o.slice
  obtain ⟨b', cb, rfl, -, -⟩ := h.t.slice
  obtain ⟨m, hm⟩ : ∃ m, d.o.length = m := ⟨_, rfl⟩
  obtain ⟨N, hN⟩ : ∃ N, d.t.length = N := ⟨_, rfl⟩
  have HM := Lib.hid hm
  have HN := Lib.hid hN
  have HB := Lib.hid hb
  rw [hm] at h ho ⊢
  rw [hN] at h ht ⊢
  have HA := Lib.hid (Own.new w 29 #[.slice a' m ca, .slice b' N cb])
  have HG := Lib.hid ((Grew.refl w).alloc (.cells #[.slice a' m ca, .slice b' N cb] 29))
  have HH := Lib.hid (h.grew HG.out)
  have HCN := Lib.hid (count_p HH.out (by rw [HM.out]; exact ho) (by rw [HN.out]; exact ht))
  clear h hm hN hb
  obtain ⟨x0, x1, y0, y1⟩ := HA.out.two
  obtain ⟨b1, q1⟩ : ∃ b1, inD (N : Int) 1 8 = b1 := ⟨_, rfl⟩
  have Q1 := Lib.hid (isFrom_p (w := w.alloc (.cells #[.slice a' m ca, .slice b' N cb] 29)) q1)
  cases b1
  · have HE := Lib.hid (okD_f HB.out (fun h => by
      have h1 := h.t1; have h8 := h.t8; rw [HN.out] at h1 h8
      rw [inD_iff.2 (by omega)] at q1; cases q1))
    clear q1
    go_enter Try.func23, Try.ntmps23
    go_wp2_with fail
    with_reducible refine Q1.out.mono ?_
    rintro e9 w1 ⟨rfl, rfl⟩
    go_wp2_with fail
    go_ret
    exact ⟨ret_bool HE.out.symm, HG.out⟩
  have hN8 := inD_iff.1 q1
  clear q1
  by_cases n128 : 128 < m
  · have HE := Lib.hid (okD_f HB.out (fun h => by have := h.o; have := HM.out; omega))
    go_enter Try.func23, Try.ntmps23
    go_wp2_with fail
    with_reducible refine Q1.out.mono ?_
    rintro e9 w1 ⟨rfl, rfl⟩
    go_wp2_with fail
    go_ret
    exact ⟨ret_bool HE.out.symm, HG.out⟩
  have m128 : decide (128 < m) = false := decide_eq_false n128
  go_enter Try.func23, Try.ntmps23
  go_wp2_with fail
  with_reducible refine Q1.out.mono ?_
  rintro e9 w1 ⟨rfl, rfl⟩
  go_wp2_with fail
  with_reducible refine HCN.out.mono ?_
  rintro e9 w1 (⟨hct, gr, nr, cr, rfl, hnr, hgr, hgl, hcell, g1⟩ | ⟨hct, rfl, g1⟩)
  rotate_left
  · have HE := Lib.hid (okD_f HB.out (fun h => hct (okD_ct h)))
    have HG1 := Lib.hid (HG.out.trans g1)
    clear x0 x1 y0 y1 g1 hct
    go_wp2_with fail
    go_ret
    exact ⟨ret_bool HE.out.symm, HG1.out⟩
  obtain rfl : nr = m := hnr.trans HM.out
  have HG1 := Lib.hid (HG.out.trans g1)
  have HA1 := Lib.hid (HA.out.grew g1)
  have HH1 := Lib.hid (HH.out.grew g1)
  have HCT := Lib.hid hct
  have HCE := Lib.hid hcell
  have HCC := Lib.hid (fun i (hi : i < nr) => Nat.le_trans (cntD_le d.t.flatten i) (by
    have := flat_len (T := d.t) (fun p hp => (hct p hp).1)
    rw [HN.out] at this
    omega : d.t.flatten.length ≤ 128))
  clear x0 x1 y0 y1 g1 hct hcell hnr Q1 HCN HA HG HH n128
  obtain ⟨x0, x1, y0, y1⟩ := HA1.out.two
  go_wp2_with fail
  go_loopw [28] (fun iv wr => ∃ i : Nat, iv = .int .i64 i ∧ i ≤ nr ∧ Hid (∀ j, j < i → gpD d j) ∧ Grew w1 wr) (fun iv _ => nr - (intOf iv).toNat)
  case atStart => exact ⟨0, rfl, Nat.zero_le _, Lib.hid (fun j hj => by omega), Grew.refl _⟩
  case round =>
    clear x0 x1 y0 y1
    obtain ⟨i, rfl, hi, HGD, G⟩ := hrel
    obtain ⟨wo, rfl⟩ : ∃ wo : World, wo = wr := ⟨_, rfl⟩
    have HG2 := Lib.hid G
    by_cases hlt : i < nr
    · have hio : i < d.o.length := by rw [HM.out]; exact hlt
      have hi0 : (0 : Int) ≤ (i : Int) := by omega
      have hi1 : (i : Int) < (nr : Int) := by omega
      obtain ⟨go, oo, rfl, -, hgo, c0, c1, c2, c3, c4⟩ := (HH1.out.o.grew G).atD hio
      obtain ⟨x, hx⟩ : ∃ x, d.o.getD i zDs = x := ⟨_, rfl⟩
      have HX := Lib.hid hx
      rw [hx] at c0 c1 c2 c3 c4
      have hq128 := HCC.out i hlt
      have hrc0 := (G.cells.1 gr _ hgl).trans (HCE.out i hlt)
      have hgl2 : gr < wo.heap.size := Nat.lt_of_lt_of_le hgl G.size
      obtain ⟨q, hq⟩ : ∃ q, cntD d.t.flatten i = q := ⟨_, rfl⟩
      have HQ := Lib.hid hq
      rw [hq] at hrc0 hq128
      clear hx hq
      go_upto_region 9 with fail
      have HW := Lib.hid (G.alloc (.cells #[.int .i64 x.f, .int .i64 x.g, .int .i64 x.o, .int .i64 x.c, .int .i64 x.r] 34))
      have O5 := Mine.Own.new wo 34 #[.int .i64 x.f, .int .i64 x.g, .int .i64 x.o, .int .i64 x.c, .int .i64 x.r]
      have hbl : wo.heap.size < (wo.alloc (.cells #[.int .i64 x.f, .int .i64 x.g, .int .i64 x.o, .int .i64 x.c, .int .i64 x.r] 34)).heap.size := by simp
      have hrc : (wo.alloc (.cells #[.int .i64 x.f, .int .i64 x.g, .int .i64 x.o, .int .i64 x.c, .int .i64 x.r] 34)).cell? ⟨gr, i, none⟩ = some (.int .i64 q) := (((Grew.refl wo).alloc (.cells #[.int .i64 x.f, .int .i64 x.g, .int .i64 x.o, .int .i64 x.c, .int .i64 x.r] 34)).cells.1 gr _ hgl2).trans hrc0
      have hgl3 : gr < (wo.alloc (.cells #[.int .i64 x.f, .int .i64 x.g, .int .i64 x.o, .int .i64 x.c, .int .i64 x.r] 34)).heap.size := by have := HW.out.size; omega
      obtain ⟨bx, hbx⟩ : ∃ bx, wo.heap.size = bx := ⟨_, rfl⟩
      rw [hbx] at O5 hbl ⊢
      generalize World.alloc wo _ = w2 at *
      obtain ⟨y0, y1, y2, y3, y4⟩ := O5.fiveD
      clear hbx O5 G c0 c1 c2 c3 c4 hrc0 hgl2 hgo
      by_cases he : x.r = (q : Int)
      rotate_left
      · have HE := Lib.hid (okD_f HB.out (fun h => he (by have := (okD_g h hio).1; rw [HX.out, HQ.out] at this; exact this)))
        have he1 : (x.r == (q : Int)) = false := by simpa using he
        have he2 : (x.r != (q : Int)) = true := by simpa using he
        clear he
        go_quiet (fail)
        go_wp2_with fail
        go_ret
        exact ⟨ret_bool HE.out.symm, (HG1.out.trans HW.out).drewN _⟩
      have he1 : (x.r == (q : Int)) = true := by simpa using he
      have he2 : (x.r != (q : Int)) = false := by simpa using he
      have HR := Lib.hid he
      cases hb2 : rgB x
      · have HE := Lib.hid (okD_f HB.out (fun h => by
          have := (okD_g h hio).2
          rw [HX.out, hb2] at this; cases this))
        have HB2 := Lib.hid hb2
        clear he hb2
        go_region_held3 (fun w' => w'.cell? ⟨bx, 0, none⟩ = some (.int .i64 x.f) ∧ w'.cell? ⟨bx, 1, none⟩ = some (.int .i64 x.g) ∧ w'.cell? ⟨bx, 2, none⟩ = some (.int .i64 x.o) ∧ w'.cell? ⟨bx, 3, none⟩ = some (.int .i64 x.c) ∧ w'.cell? ⟨bx, 4, none⟩ = some (.int .i64 x.r) ∧ w'.cell? ⟨gr, i, none⟩ = some (.int .i64 q))
          (refine ⟨?_, ?_, ?_, ?_, ?_, ?_⟩ <;> (repeat (first | (with_reducible assumption) | (with_reducible refine far_drew ?_))))
          (first
            | (go_at_call 44; (with_reducible refine (isRight_p HB2.out).mono ?_); rintro e9 w3 ⟨rfl, g2⟩; have HG3 := Lib.hid (HW.out.drew.trans g2); have e0 := (g2.cells.1 bx _ hbl).trans (far_drew y0); have e1 := (g2.cells.1 bx _ hbl).trans (far_drew y1); have e2 := (g2.cells.1 bx _ hbl).trans (far_drew y2); have e3 := (g2.cells.1 bx _ hbl).trans (far_drew y3); have e4 := (g2.cells.1 bx _ hbl).trans (far_drew y4); have e5 := (g2.cells.1 gr _ hgl3).trans (far_drew hrc)))
        go_wp2_with fail
        go_ret
        exact ⟨ret_bool HE.out.symm, HG1.out.trans HG3.out⟩
      · have HGD2 : Hid (∀ j, j < i + 1 → gpD d j) := Lib.hid (fun j hj => by
          by_cases e : j = i
          · rw [e]; exact ⟨by rw [HX.out, HQ.out]; exact HR.out, by rw [HX.out]; exact hb2⟩
          · exact HGD.out j (by omega))
        have HB2 := Lib.hid hb2
        clear he hb2
        go_region_held3 (fun w' => w'.cell? ⟨bx, 0, none⟩ = some (.int .i64 x.f) ∧ w'.cell? ⟨bx, 1, none⟩ = some (.int .i64 x.g) ∧ w'.cell? ⟨bx, 2, none⟩ = some (.int .i64 x.o) ∧ w'.cell? ⟨bx, 3, none⟩ = some (.int .i64 x.c) ∧ w'.cell? ⟨bx, 4, none⟩ = some (.int .i64 x.r) ∧ w'.cell? ⟨gr, i, none⟩ = some (.int .i64 q))
          (refine ⟨?_, ?_, ?_, ?_, ?_, ?_⟩ <;> (repeat (first | (with_reducible assumption) | (with_reducible refine far_drew ?_))))
          (first
            | (go_at_call 44; (with_reducible refine (isRight_p HB2.out).mono ?_); rintro e9 w3 ⟨rfl, g2⟩; have HG3 := Lib.hid (HW.out.drew.trans g2); have e0 := (g2.cells.1 bx _ hbl).trans (far_drew y0); have e1 := (g2.cells.1 bx _ hbl).trans (far_drew y1); have e2 := (g2.cells.1 bx _ hbl).trans (far_drew y2); have e3 := (g2.cells.1 bx _ hbl).trans (far_drew y3); have e4 := (g2.cells.1 bx _ hbl).trans (far_drew y4); have e5 := (g2.cells.1 gr _ hgl3).trans (far_drew hrc)))
        go_wp2_with fail
        go_roundw
        case rel => exact ⟨i + 1, by go_num, by omega, HGD2, HG3.out⟩
        case measure => simp [intOf]; omega
    · obtain rfl : i = nr := by omega
      obtain ⟨x0, x1, y0, y1⟩ := (HA1.out.grew G).two
      have HOK : Hid ((d.o.length = 0 ∨ 0 < (d.o.getD (d.o.length - 1) zDs).r) → bb = true) := Lib.hid (fun h => HB.out.symm.trans (okD_iff.2 (okD_y (by rw [HN.out]; omega) (by rw [HN.out]; omega) (by rw [HM.out]; omega) HCT.out (fun j hj => HGD.out j (by rw [HM.out] at hj; exact hj)) h)))
      by_cases h0 : i = 0
      · subst h0
        have HE := Lib.hid (HOK.out (.inl HM.out))
        clear G
        go_wp2_with fail
        go_ret
        exact ⟨ret_bool HE.out.symm, HG1.out.trans HG2.out⟩
      · obtain ⟨k, rfl⟩ : ∃ k, i = k + 1 := ⟨i - 1, by omega⟩
        have hkL : k < d.o.length := by rw [HM.out]; omega
        obtain ⟨go, oo, rfl, -, hgo, c0, c1, c2, c3, c4⟩ := (HH1.out.o.grew G).atD hkL
        obtain ⟨x, hx⟩ : ∃ x, d.o.getD k zDs = x := ⟨_, rfl⟩
        have HX := Lib.hid hx
        rw [hx] at c0 c1 c2 c3 c4
        have hl1 : d.o.length - 1 = k := by rw [HM.out]; rfl
        rw [hl1] at HOK
        have w1 : IntKind.i64.wrap (((k + 1 : Nat) : Int) - 1) = (k : Int) := by rw [IntWalk.i64_in _ (by omega)]; omega
        have w3 : IntKind.i64.wrap (k : Int) = (k : Int) := IntWalk.i64_in _ (by omega)
        have k0 : (0 : Int) ≤ (k : Int) := by omega
        have k1 : (k : Int) < (k : Int) + 1 := by omega
        have k2 : (((k + 1 : Nat) : Int) == 0) = false := by simp; omega
        have k3 : (((k : Nat) : Int) + 1 == 0) = false := by simp; omega
        by_cases hr : 0 < x.r
        · have HE := Lib.hid (HOK.out (.inr (by rw [HX.out]; exact hr)))
          have hr1 : decide (0 < x.r) = true := decide_eq_true hr
          clear G hx hkL hl1 h0 hr
          go_wp2_with fail
          go_ret
          exact ⟨ret_bool HE.out.symm, HG1.out.trans HG2.out⟩
        · have HE := Lib.hid (okD_f HB.out (fun h => hr (by have := okD_l h (by rw [HM.out]; omega); rw [hl1, HX.out] at this; exact this)))
          have hr1 : decide (0 < x.r) = false := decide_eq_false hr
          clear G hx hkL hl1 h0 hr
          go_wp2_with fail
          go_ret
          exact ⟨ret_bool HE.out.symm, HG1.out.trans HG2.out⟩
end Go.Proofs.Ytokijggckiidjaa

/- radix.firstFrame, Next. -/
import Derived.Test.YtdlhihllmidfeaaRx12
namespace Go.Proofs.Ytdlhihllmidfeaa
open Go.RowKit Go.Mine

theorem ffG_false {m : Int} {h : Nat} {f : Fen} {from' : Nat} (hg : ffG m h f from' = false) : emp h f = false ∧ hasB m (orM h f) = true ∧ from' < p4 h := by
  unfold ffG at hg
  cases h1 : emp h f
  · rw [h1] at hg
    dsimp only at hg
    cases h2 : hasB m (orM h f)
    · rw [h2] at hg; cases hg
    · rw [h2] at hg
      exact ⟨rfl, rfl, by have := of_decide_eq_false hg; omega⟩
  · rw [h1] at hg; cases hg
theorem ffR_in (m : Int) : ∀ (h : Nat) (f : Fen) (from' : Nat), 0 ≤ (ffR m h f from').1 ∧ (ffR m h f from').1 ≤ (p4 h : Nat) := by
  intro h
  induction h with
  | zero =>
    intro f from'
    unfold ffR
    cases ffG m 0 f from' <;> simp
  | succ h ih =>
    intro f from'
    unfold ffR
    have hP := p4_pos h
    have e4 : p4 (h + 1) = 4 * p4 h := rfl
    cases ffG m (h + 1) f from'
    · dsimp only
      have go : ∀ n k, k + n ≤ 4 → 0 ≤ (ffGo (fun k => ffR m h (sub h f k) (from' - k * p4 h)) (p4 h) n k).1 ∧ (ffGo (fun k => ffR m h (sub h f k) (from' - k * p4 h)) (p4 h) n k).1 ≤ (p4 (h + 1) : Nat) := by
        intro n
        induction n with
        | zero => intro k _; simp [ffGo]
        | succ n ihn =>
          intro k hk
          unfold ffGo
          have i1 := ih (sub h f k) (from' - k * p4 h)
          have hm : k * p4 h ≤ 3 * p4 h := Nat.mul_le_mul_right _ (by omega)
          cases (ffR m h (sub h f k) (from' - k * p4 h)).2
          · exact ihn (k + 1) (by omega)
          · dsimp only
            generalize k * p4 h = q at *
            omega
      by_cases hq : from' / p4 h ≤ 4
      · exact go _ _ (by omega)
      · rw [show 4 - from' / p4 h = 0 from by omega]
        simp [ffGo]
    · simp
set_option maxHeartbeats 4000000 in
theorem ff_leaf (mk : Int) (f : Fen) (s : Value) (x m : Int) (from' : Nat) (p : Nat → Prop) (w : World) (n : NodeF w p 0 f s x m) (hf : GoodF f) (hg : ffG mk 0 f from' = false) :
    Calls Try.prog 41 #[nodeV s x m, .int .i64 1, .int .i64 from', .int .i64 mk] w (RetO (0, frB (f 0).1) w) := by
  obtain ⟨h1, h2, h3⟩ := ffG_false hg
  obtain ⟨a, j, c, rfl⟩ := n.slice
  have HN := Lib.hid n
  have HF := Lib.hid hf
  rw [← n.marks] at h2
  have e1 : (bits .and .i64 m mk == mk) = true := h2
  have e2 : (bits .and .i64 m mk != mk) = false := by simp [bne, e1]
  have e3 : from' < 1 := h3
  have e4 : (from' : Int) < 1 := by omega
  rw [← n.2.1]
  have H1 := Lib.hid h1
  clear n hf hg h1 h2 h3
  have hfr : frB x = decide (0 < x) := rfl
  have HFr := Lib.hid hfr
  clear hfr
  go_enter Try.func41, Try.ntmps41
  have T := Own.new w 26 #[.slice a j c, .int .i64 x, .int .i64 m]
  have G := (Grew.refl w).alloc (.cells #[.slice a j c, .int .i64 x, .int .i64 m] 26)
  go_wp2_with fail
  with_reducible refine (isEmpty_f 0 f _ _ _ p _ (HN.out.grew G) HF.out).mono ?_
  rintro e w1 ⟨rfl, g1⟩
  rw [H1.out]
  replace T := T.grew g1
  replace G := G.trans g1
  clear g1
  obtain ⟨T0, T1, T2, -⟩ := T.three
  go_wp2
  go_quiet (fail)
  go_wp2
  refine bodyPost_ret (v := .tuple #[.int .i64 0, .bool (frB x)]) (by simp [results, Try.results41, go_sem, HFr.out]) rfl ⟨rfl, G.drewN _⟩
set_option maxHeartbeats 8000000 in
theorem ff_node (mk : Int) (h : Nat) (hh : h ≤ 4) (ih : ∀ (f : Fen) (s : Value) (x m : Int) (from' : Nat) (p : Nat → Prop) (w : World), from' ≤ 1024 → NodeF w p h f s x m → GoodF f → Calls Try.prog 41 #[nodeV s x m, .int .i64 (p4 h : Nat), .int .i64 from', .int .i64 mk] w (RetO (ffR mk h f from') w))
    (f : Fen) (g c : Nat) (m : Int) (from' : Nat) (p : Nat → Prop) (w : World) (n : NodeF w p (h + 1) f (.slice (some ⟨g, 0, none⟩) 4 c) 0 m) (n2 : KidsF w p h f g) (hf : GoodF f) (hg : ffG mk (h + 1) f from' = false) :
    Calls Try.prog 41 #[nodeV (.slice (some ⟨g, 0, none⟩) 4 c) 0 m, .int .i64 (p4 (h + 1) : Nat), .int .i64 from', .int .i64 mk] w (RetO (ffR mk (h + 1) f from') w) := by
  obtain ⟨h1, h2, h3⟩ := ffG_false hg
  have hR : ffR mk (h + 1) f from' = ffGo (fun k => ffR mk h (sub h f k) (from' - k * p4 h)) (p4 h) (4 - from' / p4 h) (from' / p4 h) := by
    rw [ffR, hg]
  rw [hR]
  have HN := Lib.hid n
  have HK := Lib.hid n2
  have HF := Lib.hid hf
  rw [← n.marks] at h2
  have e1 : (bits .and .i64 m mk == mk) = true := h2
  have e2 : (bits .and .i64 m mk != mk) = false := by simp [bne, e1]
  have HE := Lib.hid h1
  have e4 : p4 (h + 1) = 4 * p4 h := rfl
  have hp1 := p4_pos h
  have hp2 : p4 h ≤ 256 := p4_mono hh
  rw [e4] at h3 ⊢
  obtain ⟨r, hr⟩ : ∃ r, (fun k => ffR mk h (sub h f k) (from' - k * p4 h)) = r := ⟨_, rfl⟩
  rw [hr]
  have HR := Lib.hid (fun k => (congrFun hr k).symm)
  have IH := Lib.hid ih
  have hbd : ∀ k, 0 ≤ (r k).1 ∧ (r k).1 ≤ 256 := fun k => by
    rw [← congrFun hr k]
    have := ffR_in mk h (sub h f k) (from' - k * p4 h)
    exact ⟨this.1, by omega⟩
  have HBd := Lib.hid hbd
  clear n n2 hf hg h1 h2 hR e4 hr ih hbd
  obtain ⟨P, hP⟩ : ∃ P, p4 h = P := ⟨_, rfl⟩
  have HP := Lib.hid hP
  simp only [hP] at HR IH h3 hp1 hp2 ⊢
  clear hP
  have hP0 : ¬((P : Int) = 0) := by omega
  have hP1 : (0 : Int) < (P : Int) := by omega
  have d1 : decide (4 * (P : Int) ≤ (from' : Int)) = false := decide_eq_false (by omega)
  have d2 : (4 * (P : Int) == 1) = false := by simp; omega
  have hk3 : from' / P < 4 := by rw [Nat.div_lt_iff_lt_mul hp1]; omega
  obtain ⟨k0, hk0⟩ : ∃ k0, from' / P = k0 := ⟨_, rfl⟩
  have hwq : wrap64 ((from' : Int) / (P : Int)) = (k0 : Int) := by
    rw [← hk0, Int.natCast_ediv]
    rw [← Int.natCast_ediv]
    exact IntWalk.wrap64_in _ (by omega)
  have HK0 := Lib.hid hk0
  rw [hk0] at hk3 ⊢
  clear hk0
  go_enter Try.func41, Try.ntmps41
  have T := Own.new w 26 #[.slice (some ⟨g, 0, none⟩) 4 c, .int .i64 0, .int .i64 m]
  have G := (Grew.refl w).alloc (.cells #[.slice (some ⟨g, 0, none⟩) 4 c, .int .i64 0, .int .i64 m] 26)
  go_wp2_with fail
  with_reducible refine (isEmpty_f (h + 1) f _ _ _ p _ (HN.out.grew G) HF.out).mono ?_
  rintro e w1 ⟨rfl, g1⟩
  rw [HE.out]
  replace T := T.grew g1
  replace G := G.trans g1
  clear g1
  obtain ⟨T0, T1, T2, T3, T4, T5⟩ := T.three
  go_wp2_with fail
  have HT := Lib.hid T
  have HG := Lib.hid G
  have H0 := Lib.hid (And.intro e1 (And.intro e2 hwq))
  clear T G T0 T1 T2 T3 T4 T5 e1 e2 hwq
  go_loopw [11] (fun i wr => ∃ k : Nat, i = .int .i64 k ∧ k0 ≤ k ∧ k ≤ 4 ∧ ffGo r P (4 - k) k = ffGo r P (4 - k0) k0 ∧ Own wr w.heap.size 26 #[.slice (some ⟨g, 0, none⟩) 4 c, .int .i64 0, .int .i64 m] ∧ Grew w wr) (fun i _ => 4 - (intOf i).toNat)
  case atStart => exact ⟨k0, by rw [H0.out.2.2], by omega, by omega, rfl, HT.out, HG.out⟩
  case round =>
    clear HT HG H0
    obtain ⟨k, rfl, hk0', hk4, he, T, G⟩ := hrel
    have He := Lib.hid he
    clear he
    obtain ⟨T0, T1, T2, T3, T4, T5⟩ := T.three
    by_cases hlt : k < 4
    · obtain ⟨s', x', m', c0, c1, c2, n⟩ := HK.out.grew G k hlt
      obtain ⟨a1, j1, c1', rfl⟩ := n.slice
      have HN2 := Lib.hid n
      have hk0 : (0 : Int) ≤ (k : Int) := by omega
      have hk1 : (k : Int) < 4 := by omega
      obtain ⟨q, hq⟩ : ∃ q, k * P = q := ⟨_, rfl⟩
      have hq1 : q ≤ 1024 := by rw [← hq]; exact Nat.le_trans (Nat.mul_le_mul (show k ≤ 4 by omega) hp2) (by decide)
      have hmul : wrap64 ((k : Int) * (P : Int)) = (q : Int) := by
        rw [← Int.natCast_mul, hq]
        exact IntWalk.wrap64_in _ (by omega)
      have Hq := Lib.hid hq
      have hfr : from' ≤ 1024 := by omega
      clear n hq
      by_cases hqf : q ≤ from'
      · skip
        go_wp2_with fail
        rw [show (from' : Int) - (q : Int) = ((from' - q : Nat) : Int) from by omega]
        with_reducible refine (IH.out (sub h f k) _ _ _ (from' - q) p _ (by omega) HN2.out (HF.out.sub _ _)).mono ?_
        rintro e w2 ⟨rfl, g2⟩
        have HRk := Lib.hid (show r k = ffR mk h (sub h f k) (from' - q) from by rw [HR.out k, Hq.out])
        rw [← HRk.out]
        have HGo := Lib.hid (show ffGo r P (4 - k) k = match (r k).2 with | true => ((q : Int) + (r k).1, true) | false => ffGo r P (4 - (k + 1)) (k + 1) from by
          rw [show 4 - k = (4 - (k + 1)) + 1 from by omega, ffGo, Hq.out]; cases (r k).2 <;> rfl)
        replace T := T.grew g2
        replace G := G.trans g2
        clear g2 c0 c1 c2 T0 T1 T2 T3 T4 T5 HRk
        have HB := Lib.hid (HBd.out k)
        generalize r k = o at *
        obtain ⟨ov, ob⟩ := o
        obtain ⟨ov0, ov1⟩ := HB.out
        dsimp only at ov0 ov1 HGo
        cases ob
        · go_wp2_with fail
          go_roundw
          case rel => exact ⟨k + 1, by go_num, by omega, by omega, by rw [← He.out, HGo.out], T, G⟩
          case measure => simp [intOf]; omega
        · go_wp2
          refine bodyPost_ret (v := .tuple #[.int .i64 ((q : Int) + ov), .bool true]) (by simp [results, Try.results41, go_sem]) rfl ⟨?_, G⟩
          rw [← He.out, HGo.out]
      · skip
        go_wp2_with fail
        have hz : from' - q = 0 := by omega
        have IH0 := IH.out (sub h f k) (.slice a1 j1 c1') x' m' 0 p wr (by omega) HN2.out (HF.out.sub _ _)
        rw [show ((0 : Nat) : Int) = 0 from rfl] at IH0
        with_reducible refine IH0.mono ?_
        rintro e w2 ⟨rfl, g2⟩
        have HRk := Lib.hid (show r k = ffR mk h (sub h f k) 0 from by rw [HR.out k, Hq.out, hz])
        rw [← HRk.out]
        have HGo := Lib.hid (show ffGo r P (4 - k) k = match (r k).2 with | true => ((q : Int) + (r k).1, true) | false => ffGo r P (4 - (k + 1)) (k + 1) from by
          rw [show 4 - k = (4 - (k + 1)) + 1 from by omega, ffGo, Hq.out]; cases (r k).2 <;> rfl)
        replace T := T.grew g2
        replace G := G.trans g2
        clear g2 c0 c1 c2 T0 T1 T2 T3 T4 T5 HRk IH0 hz
        have HB := Lib.hid (HBd.out k)
        generalize r k = o at *
        obtain ⟨ov, ob⟩ := o
        obtain ⟨ov0, ov1⟩ := HB.out
        dsimp only at ov0 ov1 HGo
        cases ob
        · go_wp2_with fail
          go_roundw
          case rel => exact ⟨k + 1, by go_num, by omega, by omega, by rw [← He.out, HGo.out], T, G⟩
          case measure => simp [intOf]; omega
        · go_wp2
          refine bodyPost_ret (v := .tuple #[.int .i64 ((q : Int) + ov), .bool true]) (by simp [results, Try.results41, go_sem]) rfl ⟨?_, G⟩
          rw [← He.out, HGo.out]
    · have hk : k = 4 := by omega
      subst hk
      go_wp2
      refine bodyPost_ret (v := .tuple #[.int .i64 0, .bool false]) (by simp [results, Try.results41, go_sem]) rfl ⟨?_, G⟩
      rw [← He.out]
      rfl
theorem ff_f (mk : Int) : ∀ (h : Nat) (f : Fen) (s : Value) (x m : Int) (from' : Nat) (p : Nat → Prop) (w : World), h ≤ 4 → NodeF w p h f s x m → GoodF f →
    Calls Try.prog 41 #[nodeV s x m, .int .i64 (p4 h : Nat), .int .i64 from', .int .i64 mk] w (RetO (ffR mk h f from') w) := by
  intro h
  induction h with
  | zero =>
    intro f s x m from' p w _ n hf
    cases hg : ffG mk 0 f from'
    · rw [ffR, hg]; exact ff_leaf mk f s x m from' p w n hf hg
    · rw [ffR, hg]; exact ff_guard mk 0 f s x m from' p w n hf hg
  | succ h ih =>
    intro f s x m from' p w hh n hf
    cases hg : ffG mk (h + 1) f from'
    · obtain ⟨g, c, rfl, rfl, -, hk⟩ := n.kids (ffG_false hg).1
      exact ff_node mk h (by omega) (fun f s x m fr p w _ n hf => ih f s x m fr p w (by omega) n hf) f g c m from' p w n hk hf hg
    · rw [ffR, hg]; exact ff_guard mk (h + 1) f s x m from' p w n hf hg
theorem widthN (h : Nat) (w : World) (hh : h ≤ 4) : Calls Try.prog 42 #[.int .i64 h] w (RetS (.int .i64 (p4 h : Nat)) w) := width_any h w hh
set_option maxHeartbeats 4000000 in
theorem next_f (h : Nat) (f : Fen) (s : Value) (x m mk : Int) (from' : Nat) (p : Nat → Prop) (w : World) (n : TreeF w p h f s x m) (hs : srchB mk = true) :
    Calls Try.prog 13 #[treeV h s x m, .int .i64 from', .int .i64 mk] w (RetO (ffR mk h f from') w) := by
  obtain ⟨a, j, c, rfl⟩ := n.node.slice
  have HN := Lib.hid n
  have h5 := n.le
  clear n
  go_enter Try.func13, Try.ntmps13
  have T := Own.new w 28 #[.int .i64 h, .slice a j c, .int .i64 x, .int .i64 m]
  have G := (Grew.refl w).alloc (.cells #[.int .i64 h, .slice a j c, .int .i64 x, .int .i64 m] 28)
  go_wp2_with fail
  with_reducible refine (canSearch_f h f _ _ _ mk p _ (HN.out.grew G)).mono ?_
  rintro e w1 ⟨rfl, g1⟩
  rw [hs]
  replace T := T.grew g1
  replace G := G.trans g1
  clear g1
  obtain ⟨T0, T1, T2, T3, -⟩ := T.four
  have hf0 : (0 : Int) ≤ (from' : Int) := by omega
  have hf1 : (if (from' : Int) < 0 then (0 : Int) else (from' : Int)) = (from' : Int) := if_neg (by omega)
  go_upto_region 3 with fail
  go_region_held3 (fun w' => w'.cell? ⟨w.heap.size, 0, none⟩ = some (.int .i64 h) ∧ w'.cell? ⟨w.heap.size, 1, none⟩ = some (.slice a j c) ∧ w'.cell? ⟨w.heap.size, 2, none⟩ = some (.int .i64 x) ∧ w'.cell? ⟨w.heap.size, 3, none⟩ = some (.int .i64 m))
    (refine ⟨?_, ?_, ?_, ?_⟩ <;> (repeat (first | (with_reducible assumption) | (with_reducible refine far_drew ?_))))
    (first
    | (go_at_call 42; (with_reducible refine (width_any h _ h5).mono ?_); rintro e w2 ⟨rfl, rfl⟩)
    | (go_at_call 41; (with_reducible refine Calls.mono (ff_f mk h f (.slice a j c) x m from' p w1.drew h5 (HN.out.node.grew G.drew) HN.out.good) ?_); intro e w2 hq; obtain ⟨he, g2⟩ : e = .returned (.tuple #[.int .i64 (ffR mk h f from').1, .bool (ffR mk h f from').2]) ∧ Grew w1.drew w2 := hq; subst he; have TT2 := T.drew.grew g2; have G2 := G.drew.trans g2; clear T0 T1 T2 T3; obtain ⟨T0, T1, T2, T3, -⟩ := TT2.four))
  all_goals go_wp2
  all_goals exact bodyPost_ret (v := .tuple #[.int .i64 (ffR mk h f from').1, .bool (ffR mk h f from').2]) (by simp [results, Try.results13, go_sem]) rfl ⟨rfl, G2⟩
end Go.Proofs.Ytdlhihllmidfeaa

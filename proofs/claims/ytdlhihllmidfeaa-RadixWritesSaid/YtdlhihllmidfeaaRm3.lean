/- pagecacheref01.node: the subtree of a list of entries. -/
import Derived.Test.YtdlhihllmidfeaaRm2
namespace Go.Proofs.Ytdlhihllmidfeaa
open Go.RowKit Go.Mine

abbrev Kd := (Option Addr × Nat × Nat) × Int × Int
def encN (x : Kd) : List Value := [.slice x.1.1 x.1.2.1 x.1.2.2, .int .i64 x.2.1, .int .i64 x.2.2]
theorem encN_len (x : Kd) : (encN x).length = 3 := rfl
theorem encN_one {x : Kd} : ∀ u ∈ encN x, u.oneCell' = true := by intro u hu; simp [encN] at hu; rcases hu with rfl | rfl | rfl <;> rfl
theorem power_quiet (h : Nat) (w : World) (hh : h ≤ 10) : Calls Try.prog 68 #[.int .i64 h] w fun e w' => e = .returned (.int .i64 (p4 h : Nat)) ∧ w' = w := (power_q h w hh).mono fun _ _ ⟨a, b⟩ => ⟨a, b.symm⟩
/-- The kids that have been made so far: they stand in a row of the call's own, and lie elsewhere. -/
def Kids (w : World) (W0 : Nat) (h : Nat) (F : Fen) (v : Value) (KL : List Kd) : Prop :=
  ∀ j (hj : j < KL.length), NodeF w (fun b => W0 ≤ b ∧ v.ownBlock ≠ some b) h (sub h F j) (.slice KL[j].1.1 KL[j].1.2.1 KL[j].1.2.2) KL[j].2.1 KL[j].2.2
theorem Kids.kidsF {w : World} {W0 h : Nat} {F : Fen} {T : TypeId} {B g c : Nat} {KL : List Kd} (k : Kids w W0 h F (.slice (some ⟨g, 0, none⟩) 4 c) KL) (R : RowE T 3 encN w B (.slice (some ⟨g, 0, none⟩) 4 c) KL) (h4 : KL.length = 4) : KidsF w (fun b => W0 ≤ b) h F g := fun j hj => by
  rcases R.shape encN_len with ⟨e, -⟩ | ⟨g', cap, e, -, -, -, -, hc, -⟩
  · injection e with e; cases e
  · injection e with e1
    injection e1 with e1
    injection e1 with e1
    subst e1
    have hjl : j < KL.length := by omega
    refine ⟨_, _, _, hc j hjl 0 (by omega), hc j hjl 1 (by omega), hc j hjl 2 (by omega), (k j hjl).mono (fun b hb _ => hb.1)⟩
theorem Kids.grew {w w' : World} {W0 h : Nat} {F : Fen} {v : Value} {KL : List Kd} (k : Kids w W0 h F v KL) (g : Grew w w') : Kids w' W0 h F v KL := fun j hj => (k j hj).grew g
theorem Kids.snoc {w w' : World} {W0 h g9 : Nat} {F : Fen} {v v' : Value} {KL : List Kd} {x : Kd} (k : Kids w W0 h F v KL) (n : NodeF w (fun b => W0 ≤ b ∧ v.ownBlock ≠ some b) h (sub h F KL.length) (.slice x.1.1 x.1.2.1 x.1.2.2) x.2.1 x.2.2)
    (hG : ∀ b, W0 ≤ b → v.ownBlock ≠ some b → b < w.heap.size → w'.heap[b]? = w.heap[b]?) (ho : v'.ownBlock = some g9) (o : v.ownBlock = some g9 ∨ w.heap.size ≤ g9) : Kids w' W0 h F v' (KL ++ [x]) := fun j hj => by
  have hp : ∀ b, (W0 ≤ b ∧ v.ownBlock ≠ some b) → b < w.heap.size → W0 ≤ b ∧ v'.ownBlock ≠ some b := fun b hb hlt => ⟨hb.1, fun e => by
    rw [ho] at e
    injection e with e
    subst e
    rcases o with o | o
    · exact hb.2 o
    · omega⟩
  by_cases hlt : j < KL.length
  · have := (k j hlt).keep (w' := w') hp (fun b hb hb2 => hG b hb.1 hb.2 hb2)
    simpa [List.getElem_append_left hlt] using this
  · rw [List.length_append, List.length_singleton] at hj
    have e : j = KL.length := by omega
    subst e
    have := n.keep (w' := w') hp (fun b hb hb2 => hG b hb.1 hb.2 hb2)
    simpa using this
theorem num6 {a b : Nat} : ((a + b : Nat) : Int) = (a : Int) + (b : Int) := by omega
theorem num5 {at' q P : Nat} (hq : q ≤ 3 * P) (h : at' + 4 * P ≤ 256) : wrap64 ((at' : Int) + (q : Int)) = ((at' + q : Nat) : Int) ∧ at' + q + P ≤ 256 := by
  refine ⟨?_, by omega⟩
  rw [show (at' : Int) + (q : Int) = ((at' + q : Nat) : Int) from by omega]
  exact IntWalk.wrap64_in _ (by omega)
set_option maxHeartbeats 1000000 in
theorem node_step (h : Nat) (ih : h = 0 ∨ ∃ h', h = h' + 1 ∧ ∀ (B at' : Nat) (v : Value) (L : List En) (w : World), L.length ≤ 300 → at' + p4 h' ≤ 256 → EntOK L → RowE 51 3 encE w B v L → Calls Try.prog 74 #[v, .int .i64 (h' : Nat), .int .i64 (at' : Nat)] w (RetNd h' (fun i => fnOf L (at' + i)) (fun b => w.heap.size ≤ b) w))
    (hh : h ≤ 4) (B at' : Nat) (v : Value) (L : List En) (w : World) (hL : L.length ≤ 300) (hat : at' + p4 h ≤ 256) (ok : EntOK L) (R : RowE 51 3 encE w B v L) :
    Calls Try.prog 74 #[v, .int .i64 (h : Nat), .int .i64 (at' : Nat)] w (RetNd h (fun i => fnOf L (at' + i)) (fun b => w.heap.size ≤ b) w) := by
  obtain ⟨a, X, c, rfl, hX, hcell⟩ := RowE.ents R
  have HC := Lib.hid hcell
  have HX := Lib.hid hX
  have HOK := Lib.hid ok
  have HIH := Lib.hid ih
  have HAT := Lib.hid hat
  have hX3 : X ≤ 300 := by omega
  have hat2 : at' ≤ 256 := by omega
  clear hcell hX R ok ih hL hat
  go_enter Try.func74, Try.ntmps74
  have N0 := Own.new w 26 #[.slice none 0 0, .int .i64 0, .int .i64 0]
  have G0 := (Grew.refl w).alloc (.cells #[.slice none 0 0, .int .i64 0, .int .i64 0] 26)
  have R0 : RowE 51 3 encE (w.alloc (.cells #[.slice none 0 0, .int .i64 0, .int .i64 0] 26)) (w.heap.size + 1) (.slice none 0 0) [] := RowE.nil _ _
  have HN := Lib.hid N0
  have HG := Lib.hid G0
  have HR := Lib.hid R0
  clear N0 G0 R0
  go_wp2_with fail
  go_loopw [7, 8] (fun rv i wr => ∃ (k : Nat) (r : Value), r = rv ∧ i = .int .i64 k ∧ k ≤ X ∧ RowE 51 3 encE wr (w.heap.size + 1) r ((L.take k).filter (inB2 h at')) ∧ Own wr w.heap.size 26 #[.slice none 0 0, .int .i64 0, .int .i64 0] ∧ Grew w wr) (fun _ i _ => X - (intOf i).toNat)
  case atStart => exact ⟨0, _, rfl, rfl, by omega, HR.out, HN.out, HG.out⟩
  case round =>
    clear HN HG HR
    obtain ⟨k, r, rfl, rfl, hk, R, N, G⟩ := hrel
    obtain ⟨wi, rfl⟩ : ∃ wi : World, wi = wr := ⟨_, rfl⟩
    by_cases hlt : k < X
    · obtain ⟨g, rfl, hg, -, d0, d1, d2⟩ := HC.out k hlt
      have e0 := (G.cells.1 g _ hg).trans d0
      have e1 := (G.cells.1 g _ hg).trans d1
      have e2 := (G.cells.1 g _ hg).trans d2
      have htk := take_getD (d := ((0 : Int), ((0 : Int), (0 : Int)))) L k (by rw [← HX.out]; exact hlt)
      have hmem : L.getD k (0, (0, 0)) ∈ L := by
        have hk3 : k < L.length := by rw [← HX.out]; exact hlt
        simp [List.getD, hk3]
      have hoke := HOK.out _ hmem
      generalize L.getD k (0, (0, 0)) = en at *
      obtain ⟨ei, ex, em⟩ := en
      dsimp only at e0 e1 e2
      have hi0 : 0 ≤ ei := hoke.1
      have hi1 : ei < 256 := hoke.2.1
      have HTK := Lib.hid (show (L.take (k + 1)).filter (inB2 h at') = (L.take k).filter (inB2 h at') ++ (if inB2 h at' (ei, (ex, em)) then [(ei, (ex, em))] else []) from by
        rw [htk, List.filter_append]
        cases hb : inB2 h at' (ei, (ex, em)) <;> simp [hb])
      have HB := Lib.hid (inB2_iff h at' (ei, (ex, em)))
      have hlen : ((L.take k).filter (inB2 h at')).length < 1000000 := by
        have h1 := List.length_filter_le (inB2 h at') (L.take k)
        have h2 := List.length_take_le k L
        omega
      generalize hM : (L.take k).filter (inB2 h at') = M at *
      have HMM := Lib.hid hM
      clear hM
      have HLn := Lib.hid hlen
      have hP : p4 h ≤ 256 := Nat.le_trans (p4_mono hh) (by decide)
      have HP := Lib.hid hP
      have hk0 : (0 : Int) ≤ (k : Int) := by omega
      have hk1 : (k : Int) < (X : Int) := by omega
      clear d0 d1 d2 htk hmem hoke hlen hP
      have w1 : IntKind.i64.wrap (ei - (at' : Int)) = ei - (at' : Int) := IntWalk.i64_in _ (by omega)
      by_cases c1 : (at' : Int) ≤ ei
      · have d1 : decide ((at' : Int) ≤ ei) = true := decide_eq_true c1
        by_cases c2 : ei - (at' : Int) < ((p4 h : Nat) : Int)
        · have hbt : inB2 h at' (ei, (ex, em)) = true := HB.out.2 ⟨c1, by dsimp only; omega⟩
          have d2 : decide (ei - (at' : Int) < ((p4 h : Nat) : Int)) = true := decide_eq_true c2
          rw [hbt] at HTK
          go_upto_region 5 with fail
          go_region_held3 (fun w' => w'.cell? ⟨g, k * 3, none⟩ = some (.int .i64 ei)) (repeat (first | (with_reducible assumption) | (with_reducible refine far_drew ?_)))
            (first | (go_at_call 68; (with_reducible refine (power_q h _ (by omega)).mono ?_); rintro e w2 ⟨rfl, rfl⟩))
          have hB2 : ∀ o, w.heap.size + 1 ≤ (wi.drew.alloc o).heap.size := fun o => by have := N.lt; rw [World.size_alloc]; show _ ≤ wi.heap.size + 1; omega
          have hRa := Lib.hid R.above
          have HHR := Lib.hid R.drew
          have HHN := Lib.hid N.drew
          have HHG := Lib.hid G.drew
          clear R N G
          go_wp2_with (at_builtin; go_loud (refine wpList_append_row _ rfl (.tmp 37) (.tmp 42) 41 rfl (w.heap.size + 1) info_entry Try.underlying41 (by decide) (by decide) encE_len r M rfl (HHR.out.alloc _) _ _ (ei, (ex, em)) rfl (Own.new _ _ _) encE_one HLn.out (by decide) (hB2 _) ?_; intro g9 cap9 w9 R9 G9 o9))
          have hr9 : ∀ y, Value.ownBlock r = some y → w.heap.size + 1 ≤ y := fun y e => hRa.out y e
          go_roundw
          case rel =>
            refine ⟨k + 1, _, rfl, by go_num, by omega, ?_, Own.keptA (HHN.out.alloc _) G9 hr9 (by omega), Grew.keptA (HHG.out.alloc _) G9 hr9 (by omega)⟩
            have hh9 := HTK.out
            simp only [if_true] at hh9
            rw [hh9]
            exact R9
          case measure => simp [intOf]; omega
        · have hbt : inB2 h at' (ei, (ex, em)) = false := by
            cases hb : inB2 h at' (ei, (ex, em))
            · rfl
            · have := HB.out.1 hb; dsimp only at this; omega
          have d2 : decide (ei - (at' : Int) < ((p4 h : Nat) : Int)) = false := decide_eq_false c2
          rw [hbt] at HTK
          go_upto_region 5 with fail
          go_region_held3 (fun w' => w'.cell? ⟨g, k * 3, none⟩ = some (.int .i64 ei)) (repeat (first | (with_reducible assumption) | (with_reducible refine far_drew ?_)))
            (first | (go_at_call 68; (with_reducible refine (power_q h _ (by omega)).mono ?_); rintro e w2 ⟨rfl, rfl⟩))
          have HHR := Lib.hid R.drew
          have HHN := Lib.hid N.drew
          have HHG := Lib.hid G.drew
          clear R N G
          go_wp2_with fail
          go_roundw
          case rel => exact ⟨k + 1, _, rfl, by go_num, by omega, by have hh9 := HTK.out; simp only [Bool.false_eq_true, if_false, List.append_nil] at hh9; rw [hh9]; exact HHR.out, HHN.out, HHG.out⟩
          case measure => simp [intOf]; omega
      · have hbt : inB2 h at' (ei, (ex, em)) = false := by
          cases hb : inB2 h at' (ei, (ex, em))
          · rfl
          · have := HB.out.1 hb; dsimp only at this; omega
        have d1 : decide ((at' : Int) ≤ ei) = false := decide_eq_false c1
        rw [hbt] at HTK
        go_upto_region 5 with fail
        go_quiet (fail)
        have HHR := Lib.hid (R.drewN nq)
        have HHN := Lib.hid (N.drewN nq)
        have HHG := Lib.hid (G.drewN nq)
        clear R N G
        go_wp2_with fail
        go_roundw
        case rel => exact ⟨k + 1, _, rfl, by go_num, by omega, by have hh9 := HTK.out; simp only [Bool.false_eq_true, if_false, List.append_nil] at hh9; rw [hh9]; exact HHR.out, HHN.out, HHG.out⟩
        case measure => simp [intOf]; omega
    · have hkX : k = X := by omega
      subst hkX
      rw [show L.take k = L from List.take_of_length_le (by rw [← HX.out]; exact Nat.le_refl _)] at R
      obtain ⟨N0, N1, N2, N3, N4, N5⟩ := N.three
      have hwN := N.lt
      cases hM : L.filter (inB2 h at') with
      | nil =>
        rw [hM] at R
        have HE := Lib.hid (emp_none hM)
        clear hM
        obtain ⟨ra, rn, rc, rfl, hrn, -⟩ := RowE.ents R
        have hrn0 : rn = 0 := hrn
        subst hrn0
        clear R hrn
        go_wp2_with fail
        generalize hw2 : World.setCell (World.setCell (World.setCell _ _ _) _ _) _ _ = w2
        have OE := N.store3 hw2
        have GE := G.far3 hw2 (Nat.le_refl _)
        clear hw2
        obtain ⟨b0, b1, b2, -⟩ := OE.three
        exact bodyPost_ret (v := nodeV (.slice none 0 0) 0 0) (by simp [results, Try.results74, go_sem, b0, b1, b2]) rfl ⟨_, _, _, rfl, NodeF.empty h HE.out _ _, GE⟩
      | cons e0 rest =>
        have HE := Lib.hid (emp_some HOK.out (h := h) (at' := at') (by rw [hM]; simp))
        have HM := Lib.hid hM
        rw [hM] at R
        obtain ⟨ra, rn, rc, rfl, hrn, hrc⟩ := RowE.ents R
        rw [List.length_cons] at hrn
        have hne : ((rn : Int) == 0) = false := by simp; omega
        have hlenM : rest.length + 1 ≤ 300 := by
          have h1 := List.length_filter_le (inB2 h at') L
          rw [hM, List.length_cons] at h1
          have := HX.out
          omega
        have HR := Lib.hid R
        obtain ⟨gr, hra, hgr, -, f0, f1, f2⟩ := hrc 0 (by omega)
        have habove : w.heap.size + 1 ≤ gr := by
          have := R.above gr (by rw [hra]; rfl)
          exact this
        subst hra
        have f1' : wi.cell? ⟨gr, 1, none⟩ = some (.int .i64 e0.2.1) := f1
        have f2' : wi.cell? ⟨gr, 2, none⟩ = some (.int .i64 e0.2.2) := f2
        have hrn1 : (0 : Int) < (rn : Int) := by omega
        clear hM R hrc f0 f1 f2
        rcases HIH.out with h0 | ⟨h', h0, ih⟩
        · subst h0
          have HLf := Lib.hid (leaf_at HM.out)
          obtain ⟨ei, ex, em⟩ := e0
          dsimp only at f1' f2'
          have ne1 : w.heap.size ≠ gr := by omega
          rw [show ((0 : Nat) : Int) = 0 from rfl]
          go_upto_region 10 with fail
          go_region_held3 (fun w' => w'.cell? ⟨gr, 1, none⟩ = some (.int .i64 ex) ∧ w'.cell? ⟨gr, 2, none⟩ = some (.int .i64 em)) (refine ⟨?_, ?_⟩ <;> (repeat (first | (with_reducible assumption) | (with_reducible refine far_drew ?_) | (with_reducible refine far_cell ne1 ?_)))) (first | (fail) | (fail))
          generalize hw2 : World.setCell (World.setCell (World.setCell _ _ _) _ _) _ _ = w2
          have OE := N.store3 hw2
          have GE := G.far3 hw2 (Nat.le_refl _)
          clear hw2
          obtain ⟨b0, b1, b2, -⟩ := OE.three
          go_wp2_with fail
          refine bodyPost_ret (v := nodeV (.slice none 0 0) ex em) (by simp [results, Try.results74, go_sem, b0, b1, b2]) rfl ⟨_, _, _, rfl, ⟨⟨_, _, rfl⟩, ?_, ?_⟩, GE.drew⟩
          · show ex = (fnOf L (at' + 0)).1
            rw [Nat.add_zero, HLf.out]
          · show em = (fnOf L (at' + 0)).2
            rw [Nat.add_zero, HLf.out]
        · subst h0
          have HRN := Lib.hid hrn
          clear hrn
          have hP : p4 h' ≤ 256 := Nat.le_trans (p4_mono (show h' ≤ 4 by omega)) (by decide)
          have HAT2 := Lib.hid (show at' + 4 * p4 h' ≤ 256 from HAT.out)
          have HF := Lib.hid (fnOf_good HOK.out)
          have HFin := Lib.hid (fun kk (hk : kk < 4) i (hi : i < p4 h') => show fnOf (e0 :: rest) (at' + kk * p4 h' + i) = sub h' (fun i => fnOf L (at' + i)) kk i from by
            have hlt : kk * p4 h' + i < p4 (h' + 1) := by
              have := Nat.mul_le_mul_right (p4 h') (show kk ≤ 3 by omega)
              show _ < 4 * p4 h'
              omega
            have h1 := fnOf_in L (h' + 1) at' hlt
            rw [HM.out] at h1
            rw [Nat.add_assoc, h1]
            rfl)
          generalize hFF : (fun i => fnOf L (at' + i)) = F at *
          have HFF := Lib.hid hFF
          clear hFF
          have HOr := Lib.hid (fun kk => show orUp h' F (kk + 1) = orI (orUp h' F kk) (orM h' (sub h' F kk)) from rfl)
          have HOKM := Lib.hid (show EntOK (e0 :: rest) from by rw [← HM.out]; exact HOK.out.filter _)
          have IH := Lib.hid ih
          have HHN := Lib.hid N
          have HHG := Lib.hid G
          rw [show ((h' + 1 : Nat) : Int) = (h' : Int) + 1 from by omega]
          have e1 : ((h' : Int) + 1 == 0) = false := by simp; omega
          have hh' : h' ≤ 3 := by omega
          clear HIH HAT HOK HM ih N G N0 N1 N2 N3 N4 N5 f1' f2' HC
          have NB := Own.new wi 26 #[.slice none 0 0, .int .i64 0, .int .i64 0]
          have gN := (Grew.refl wi).alloc (.cells #[.slice none 0 0, .int .i64 0, .int .i64 0] 26)
          have RK0 : RowE 26 3 encN (wi.alloc (.cells #[.slice none 0 0, .int .i64 0, .int .i64 0] 26)) (wi.heap.size + 1) (.slice none 0 0) [] := RowE.nil _ _
          have HNB := Lib.hid NB
          have HgN := Lib.hid gN
          have HRK := Lib.hid RK0
          clear NB gN RK0
          go_wp2_with fail
          go_loopw [10] (fun i wr => ∃ (kk : Nat) (ka : Option Addr) (kn kc : Nat) (KL : List Kd), i = .int .i64 kk ∧ kk ≤ 4 ∧ KL.length = kk ∧ Own wr wi.heap.size 26 #[.slice ka kn kc, .int .i64 0, .int .i64 (orUp h' F kk)] ∧
            RowE 26 3 encN wr (wi.heap.size + 1) (.slice ka kn kc) KL ∧ Kids wr (wi.heap.size + 1) h' F (.slice ka kn kc) KL ∧ Grew wi wr) (fun i _ => 4 - (intOf i).toNat)
          case atStart => exact ⟨0, none, 0, 0, [], rfl, by omega, rfl, HNB.out, HRK.out, fun j hj => by simp at hj, HgN.out⟩
          case round =>
            clear HNB HRK HgN
            obtain ⟨kk, ka, kn, kc, KL, rfl, hk4, hKL, NB, RK, KS, Gi⟩ := hrel
            by_cases hlt : kk < 4
            · have hk1 : (kk : Int) < 4 := by omega
              obtain ⟨q, hq⟩ : ∃ q, kk * p4 h' = q := ⟨_, rfl⟩
              have hmul : wrap64 ((kk : Int) * ((p4 h' : Nat) : Int)) = (q : Int) := num4 hq hlt hP
              obtain ⟨hadd, h256⟩ := num5 (num3 hq hlt) HAT2.out
              have H256 := Lib.hid h256
              have Hq := Lib.hid hq
              have HNB := Lib.hid NB
              have HRK := Lib.hid RK
              have HKS := Lib.hid KS
              have HGi := Lib.hid Gi
              clear h256 hq NB RK KS Gi
              go_wp2_with fail
              with_reducible refine (power_q h' _ (by omega)).mono ?_
              rintro e w1 ⟨rfl, rfl⟩
              go_wp2_with fail
              have hlM : (e0 :: rest).length ≤ 300 := by rw [List.length_cons]; exact hlenM
              have h2 := H256.out
              rw [← num6]
              with_reducible refine (IH.out (w.heap.size + 1) (at' + q) _ (e0 :: rest) _ hlM h2 HOKM.out (HR.out.grew HGi.out)).mono ?_
              rintro e w2 ⟨s2, x2, m2, rfl, n2, g2⟩
              obtain ⟨a2, j2, c2, rfl⟩ := n2.slice
              have hwz : wi.heap.size + 1 ≤ wr.heap.size := HNB.out.lt
              have HWZ := Lib.hid hwz
              have hown : ∀ y, Value.ownBlock (.slice ka kn kc) = some y → y < wr.heap.size := fun y e => HRK.out.lt y e
              have n3 := (n2.congr (f' := sub h' F kk) (fun i hi => Hq.out ▸ HFin.out kk hlt i hi)).mono (q := fun b => wi.heap.size + 1 ≤ b ∧ Value.ownBlock (.slice ka kn kc) ≠ some b) (fun b hb _ => ⟨Nat.le_trans HWZ.out hb, fun e => absurd (hown b e) (Nat.not_lt.2 hb)⟩)
              have HN3 := Lib.hid n3
              have Hown := Lib.hid hown
              have HRK2 := Lib.hid (HRK.out.grew g2)
              have HKS2 := Lib.hid (HKS.out.grew g2)
              have HGi2 := Lib.hid (HGi.out.trans g2)
              have NB2 := HNB.out.grew g2
              have hz2 : wr.heap.size ≤ w2.heap.size := g2.size
              have X := Own.new w2 26 #[.slice a2 j2 c2, .int .i64 x2, .int .i64 m2]
              have hB2 : ∀ o, wi.heap.size + 1 ≤ ((w2.alloc (.cells #[.slice a2 j2 c2, .int .i64 x2, .int .i64 m2] 26)).alloc o).heap.size := fun o => by
                rw [World.size_alloc, World.size_alloc]
                exact Nat.le_trans HWZ.out (Nat.le_trans hz2 (Nat.le_trans (Nat.le_succ _) (Nat.le_succ _)))
              have HB2 := Lib.hid hB2
              have HKL6 := Lib.hid (show KL.length < 1000000 from by omega)
              have HX := Lib.hid X
              have hzN : wi.heap.size < w2.heap.size := NB2.lt
              obtain ⟨NB0, NB1, NB2', NB3, NB4, NB5⟩ := NB2.three
              have HNB2 := Lib.hid NB2
              clear n2 g2 n3 hown hwz HNB HRK HKS HGi hB2 X NB2 hmul hadd
              go_wp2_with (at_builtin; go_loud (refine wpList_append_row _ rfl (.tmp 75) (.tmp 77) 24 rfl (wi.heap.size + 1) info_node Try.underlying24 (by decide) (by decide) encN_len (.slice ka kn kc) KL rfl ((HRK2.out.alloc _).alloc _) _ _ ((a2, j2, c2), x2, m2) rfl (Own.new2 _ _ _ _) encN_one HKL6.out (by decide) (HB2.out _) ?_; intro g9 cap9 w9 R9 G9 o9; have NB9 := Own.keptA ((HNB2.out.alloc _).alloc _) G9 (fun y e => HRK2.out.above y e) (Nat.lt_succ_self _); have X9 := Own.keptN (HX.out.alloc _) G9 (fun e => absurd (Hown.out _ e) (Nat.not_lt.2 hz2)); clear NB0 NB1 NB2' NB3 NB4 NB5; obtain ⟨NB0, NB1, NB2', NB3, NB4, NB5⟩ := NB9.three; obtain ⟨X0, X1, X2', X3, X4, X5⟩ := X9.three; have hxn : wi.heap.size ≠ w2.heap.size := Nat.ne_of_lt hzN))
              have hab9 := R9.above g9 rfl
              have hng : (Value.slice (some ⟨g9, 0, none⟩) (kk + 1) cap9).ownBlock ≠ some wi.heap.size := fun e => by
                have e2 : g9 = wi.heap.size := by injection e
                omega
              have R9k := R9
              rw [hKL] at R9k
              have hm2 := HN3.out.marks
              have hkids : Kids ((w9.setCell ⟨wi.heap.size, 0, none⟩ (.slice (some ⟨g9, 0, none⟩) (kk + 1) cap9)).setCell ⟨wi.heap.size, 2, none⟩ (.int .i64 (orI (orUp h' F kk) m2))) (wi.heap.size + 1) h' F (.slice (some ⟨g9, 0, none⟩) (kk + 1) cap9) (KL ++ [((a2, j2, c2), x2, m2)]) := by
                refine Kids.snoc (g9 := g9) HKS2.out (hKL ▸ HN3.out) (fun b hb1 hb2 hb3 => ?_) rfl ?_
                · have hbn : b ≠ wi.heap.size := by omega
                  rw [Below.heap_setCell _ ⟨wi.heap.size, 2, none⟩ _ b hbn, Below.heap_setCell _ ⟨wi.heap.size, 0, none⟩ _ b hbn, G9.block b (by rw [World.size_alloc, World.size_alloc]; omega) (fun e => hb2 e.symm),
                    Below.heap_alloc _ _ b (by rw [World.size_alloc]; omega), Below.heap_alloc _ _ b hb3]
                · rcases o9 with o9 | o9
                  · exact .inl o9
                  · refine .inr ?_
                    rw [o9, World.size_alloc, World.size_alloc]
                    omega
              have hgr := Grew.keptA ((HGi2.out.alloc (.cells #[.slice a2 j2 c2, .int .i64 x2, .int .i64 m2] 26)).alloc (.cells #[.slice a2 j2 c2, .int .i64 x2, .int .i64 m2] 26)) G9 (fun y e => HRK2.out.above y e) (Nat.le_succ _)
              refine ⟨⟨kk + 1, some ⟨g9, 0, none⟩, kk + 1, cap9, KL ++ [((a2, j2, c2), x2, m2)], by go_num, by omega, by simp [hKL], ?_, (R9k.set (p := ⟨wi.heap.size, 0, none⟩) hng _).set (p := ⟨wi.heap.size, 2, none⟩) hng _, hkids, (hgr.set (p := ⟨wi.heap.size, 0, none⟩) (Nat.le_refl _) _).set (p := ⟨wi.heap.size, 2, none⟩) (Nat.le_refl _) _⟩, by simp [intOf]; omega⟩
              rw [HOr.out kk, ← hm2]
              exact (NB9.set 0 (.slice (some ⟨g9, 0, none⟩) (kk + 1) cap9)).set 2 (.int .i64 (orI (orUp h' F kk) m2))
            · have hk : kk = 4 := by omega
              subst hk
              rcases RK.shape encN_len with ⟨-, e⟩ | ⟨gk, cap, e, hgk, -, -, -, -, -⟩
              · rw [e] at hKL; cases hKL
              injection e with ea en ec
              subst ea ec
              rw [hKL] at en
              subst en
              have hkf := Kids.kidsF KS RK hKL
              have hwi : w.heap.size < wi.heap.size := hwN
              have hnode := NodeF.some (c := kc) hkf hgk HE.out
              have NR := HHN.out.grew Gi
              have GR := HHG.out.trans Gi
              obtain ⟨NB0, NB1, NB2', NB3, NB4, NB5⟩ := NB.three
              obtain ⟨N0, N1, N2, N3, N4, N5⟩ := NR.three
              have HND := Lib.hid hnode
              clear hkf hnode KS RK
              go_wp2_with fail
              generalize hw2 : World.setCell (World.setCell (World.setCell _ _ _) _ _) _ _ = w2
              have OE := NR.store3 hw2
              have GE := GR.far3 hw2 (Nat.le_refl _)
              have nE := NodeF.far3 HND.out hw2 (fun b hb => by omega)
              clear hw2 NB0 NB1 NB2' NB3 NB4 NB5 N0 N1 N2 N3 N4 N5
              obtain ⟨b0, b1, b2, -⟩ := OE.three
              exact bodyPost_ret (v := nodeV (.slice (some ⟨gk, 0, none⟩) 4 kc) 0 (orUp h' F 4)) (by simp [results, Try.results74, go_sem, b0, b1, b2]) rfl ⟨_, _, _, rfl, by rw [HFF.out]; exact nE.mono (fun b hb _ => by omega), GE⟩
theorem node_f : ∀ (h B at' : Nat) (v : Value) (L : List En) (w : World), h ≤ 4 → L.length ≤ 300 → at' + p4 h ≤ 256 → EntOK L → RowE 51 3 encE w B v L → Calls Try.prog 74 #[v, .int .i64 (h : Nat), .int .i64 (at' : Nat)] w (RetNd h (fun i => fnOf L (at' + i)) (fun b => w.heap.size ≤ b) w) := by
  intro h
  induction h with
  | zero => intro B at' v L w hh hL hat ok R; exact node_step 0 (.inl rfl) hh B at' v L w hL hat ok R
  | succ h ih =>
    intro B at' v L w hh hL hat ok R
    exact node_step (h + 1) (.inr ⟨h, rfl, fun B at2 v L w hL h2 ok R => ih B at2 v L w (by omega) hL h2 ok R⟩) hh B at' v L w hL hat ok R
end Go.Proofs.Ytdlhihllmidfeaa

/- The reference's Build. -/
import Derived.Test.YtdlhihllmidfeaaRb3
namespace Go.Proofs.Ytdlhihllmidfeaa
open Go.RowKit Go.Mine

theorem chk_range {i v m : Int} (h : i < 0 ∨ 255 < i) : chkEn (i, (v, m)) = 2 := by
  unfold chkEn rangeI
  rw [decide_eq_false (by show ¬(0 ≤ i ∧ i ≤ 255); omega)]
theorem chk_leaf {i v m : Int} (h0 : ¬i < 0) (h1 : ¬255 < i) (h : v = 0 ∨ m < 0 ∨ 7 < m ∨ (v < 0 ∧ m ≠ 0)) : chkEn (i, (v, m)) = 1 := by
  unfold chkEn rangeI
  rw [decide_eq_true (by show (0 ≤ i ∧ i ≤ 255); omega)]
  show (match leafB 0 v m with | true => (0 : Int) | false => 1) = 1
  rw [show leafB 0 v m = false from decide_eq_false (by omega)]
theorem chk_good {i v m : Int} (h0 : ¬i < 0) (h1 : ¬255 < i) (h : ¬(v = 0 ∨ m < 0 ∨ 7 < m ∨ (v < 0 ∧ m ≠ 0))) : chkEn (i, (v, m)) = 0 := by
  unfold chkEn rangeI
  rw [decide_eq_true (by show (0 ≤ i ∧ i ≤ 255); omega)]
  show (match leafB 0 v m with | true => (0 : Int) | false => 1) = 0
  rw [show leafB 0 v m = true from decide_eq_true (by omega)]
def NeTo (L : List En) (i k : Nat) : Prop := ∀ j, j < k → (L.getD j (0, (0, 0))).1 ≠ (L.getD i (0, (0, 0))).1
theorem NeTo.next {L : List En} {i k : Nat} (h : NeTo L i k) (e : (L.getD k (0, (0, 0))).1 ≠ (L.getD i (0, (0, 0))).1) : NeTo L i (k + 1) := fun j hj => by
  rcases Nat.lt_or_ge j k with h1 | h1
  · exact h j h1
  · have : j = k := by omega
    subst this; exact e
set_option maxRecDepth 100000 in
set_option maxHeartbeats 8000000 in
theorem refBuild_f (B : Nat) (v : Value) (L : List En) (w : World) (R : RowE 51 3 encE w B v L) (hL : L.length ≤ 300) (hw : ∀ e ∈ L, (Lit.int .i64 e.2.1).wf = true) :
    Calls Try.prog 36 #[v] w (RetBd L w) := by
  obtain ⟨a, n, c, rfl, hn, -⟩ := RowE.ents R
  have HR := Lib.hid R
  have HW := Lib.hid hw
  have HN := Lib.hid hn
  have HLL := Lib.hid hL
  have hn3 : n ≤ 300 := by omega
  clear R hw hn hL
  have O0 := Lib.hid (Own.new w 28 #[.int .i64 0, .slice none 0 0, .int .i64 0, .int .i64 0])
  have g0 := Lib.hid (show Grew w (w.alloc (.cells #[.int .i64 0, .slice none 0 0, .int .i64 0, .int .i64 0] 28)) from (Grew.refl w).alloc _)
  have HR0 := Lib.hid (HR.out.grew g0.out)
  go_enter Try.func36, Try.ntmps36
  go_wp2_with fail
  go_loopw [4] (fun iv wr => ∃ k : Nat, iv = .int .i64 k ∧ k ≤ n ∧ OkTo L k ∧ RowE 51 3 encE wr B (.slice a n c) L ∧ Own wr w.heap.size 28 #[.int .i64 0, .slice none 0 0, .int .i64 0, .int .i64 0] ∧ Grew w wr) (fun iv _ => n - (intOf iv).toNat)
  case atStart => exact ⟨0, rfl, by omega, fun j hj => by omega, HR0.out, O0.out, g0.out⟩
  case round =>
    clear HR0 O0 g0
    obtain ⟨k, rfl, hk, OK, R, O, G⟩ := hrel
    have HR1 := Lib.hid R
    have HOK := Lib.hid OK
    clear R OK
    by_cases hlt : k < n
    · have hkl : k < L.length := by have := HN.out; omega
      obtain ⟨ge, rfl, hge, c0, c1, c2⟩ := ent_cel HR1.out hkl
      have HAT := Lib.hid (fun (h : chkEn (L.getD k (0, (0, 0))) ≠ 0) => errL_at L k hkl HOK.out h)
      have HNX := Lib.hid (fun (h : chkEn (L.getD k (0, (0, 0))) = 0) => HOK.out.next h)
      generalize L.getD k (0, (0, 0)) = en at *
      obtain ⟨ei, ex, em⟩ := en
      dsimp only at c0 c1 c2
      have k0 : (0 : Int) ≤ (k : Int) := by omega
      have k1 : (k : Int) < (n : Int) := by omega
      have HX := Lib.hid (Own.new wr 51 #[.int .i64 ei, .int .i64 ex, .int .i64 em])
      have HgX := Lib.hid (show Grew wr (wr.alloc (.cells #[.int .i64 ei, .int .i64 ex, .int .i64 em] 51)) from (Grew.refl wr).alloc _)
      go_upto_region 5 with fail
      have X := HX.out
      have R2 := Lib.hid (HR1.out.grew HgX.out)
      have O2 := O.grew HgX.out
      have G2 := G.trans HgX.out
      obtain ⟨x0, x1, x2, x3, x4, x5⟩ := X.three
      have lX := X.lt
      clear c0 c1 c2 HR1 O G HX HgX X hge
      generalize World.alloc wr _ = w2 at *
      generalize wr.heap.size = sx at *
      have bad : ∀ er : Int, chkEn (ei, (ex, em)) = er → er ≠ 0 → bldE L = er := fun er h1 h2 => by
        have he := HAT.out (by rw [h1]; exact h2)
        rw [bldE_err (by rw [he, h1]; exact h2), he, h1]
      have HBAD := Lib.hid bad
      clear bad
      by_cases h0 : ei < 0 ∨ 255 < ei
      · have hb := HBAD.out 2 (chk_range h0) (by decide)
        have HB := Lib.hid hb
        obtain ⟨t0, t1, t2, t3, t4, t5, t6, t7⟩ := O2.four
        have lT := O2.lt
        clear hb
        rcases h0 with h0 | h0
        all_goals
          try have h00 : ¬ei < 0 := by omega
          go_wp2_with fail
          generalize hw3 : World.setCell (World.setCell (World.setCell (World.setCell _ _ _) _ _) _ _) _ _ = w4
          have OE := own4 hw3 O2
          have GE := grew4 hw3 G2 (Nat.le_refl _)
          clear hw3 t0 t1 t2 t3 t4 t5 t6 t7
          obtain ⟨b0, b1, b2, b3, -⟩ := OE.four
          refine bodyPost_ret (v := zeroTup 2) (by simp [results, Try.results36, go_sem, b0, b1, b2, b3, zeroTup]) rfl ⟨GE, .inr ⟨by rw [HB.out]; decide, by rw [HB.out]⟩⟩
      · have h00 : ¬ei < 0 := by omega
        have h01 : ¬255 < ei := by omega
        by_cases hbad : ex = 0 ∨ em < 0 ∨ 7 < em ∨ (ex < 0 ∧ em ≠ 0)
        · have hb := HBAD.out 1 (chk_leaf h00 h01 hbad) (by decide)
          have HB := Lib.hid hb
          obtain ⟨t0, t1, t2, t3, t4, t5, t6, t7⟩ := O2.four
          have lT := O2.lt
          clear hb
          go_upto_region 7 with fail
          go_cut [49] from 27 to 49 (fun v wx => v = .bool true ∧ w2 = wx)
          case first =>
            by_cases q1 : ex = 0
            · subst q1
              clear hbad
              go_wp2_with fail
              go_meet
              exact ⟨rfl, rfl⟩
            · have e1 : (ex == 0) = false := by simpa using q1
              by_cases q2 : em < 0
              · clear hbad
                go_wp2_with fail
                go_meet
                exact ⟨rfl, rfl⟩
              · by_cases q3 : 7 < em
                · clear hbad
                  go_wp2_with fail
                  go_meet
                  exact ⟨rfl, rfl⟩
                · have q4 : ex < 0 := by omega
                  have q5 : (em != 0) = true := by simp; omega
                  clear hbad
                  go_wp2_with fail
                  go_meet
                  exact ⟨rfl, rfl⟩
          case rest =>
            obtain ⟨rfl, rfl⟩ := hcut
            clear hbad
            go_wp2_with fail
            generalize hw3 : World.setCell (World.setCell (World.setCell (World.setCell _ _ _) _ _) _ _) _ _ = w4
            have OE := own4 hw3 O2
            have GE := grew4 hw3 G2 (Nat.le_refl _)
            clear hw3 t0 t1 t2 t3 t4 t5 t6 t7
            obtain ⟨b0, b1, b2, b3, -⟩ := OE.four
            refine bodyPost_ret (v := zeroTup 1) (by simp [results, Try.results36, go_sem, b0, b1, b2, b3, zeroTup]) rfl ⟨GE, .inr ⟨by rw [HB.out]; decide, by rw [HB.out]⟩⟩
        · have HC := Lib.hid (chk_good h00 h01 hbad)
          have e1 : (ex == 0) = false := by simp; omega
          have q2 : ¬em < 0 := by omega
          have q3 : ¬7 < em := by omega
          go_upto_region 7 with fail
          go_cut [49] from 27 to 49 (fun v wx => v = .bool false ∧ w2 = wx)
          case first =>
            by_cases q4 : ex < 0
            · have q5 : (em != 0) = false := by simp; omega
              clear hbad
              go_wp2_with fail
              go_meet
              exact ⟨rfl, rfl⟩
            · clear hbad
              go_wp2_with fail
              go_meet
              exact ⟨rfl, rfl⟩
          case rest =>
            obtain ⟨rfl, rfl⟩ := hcut
            clear hbad
            go_wp2_with fail
            go_roundw
            case rel => exact ⟨k + 1, by go_num, by omega, HNX.out HC.out, R2.out, O2, G2⟩
            case measure => simp [intOf]; omega
    · have hkn : k = n := by omega
      subst hkn
      have hall : ∀ j, j < L.length → chkEn (L.getD j (0, (0, 0))) = 0 := fun j hj => HOK.out j (by have := HN.out; omega)
      have HE := Lib.hid (errL_ok L hall)
      have ENT := Lib.hid (ok_of_chk hall HW.out)
      clear hall HOK hlt hk
      go_wp2_with fail
      go_loopw [6] (fun iv wr => ∃ i : Nat, iv = .int .i64 i ∧ i ≤ k ∧ NdTo L i ∧ RowE 51 3 encE wr B (.slice a k c) L ∧ Own wr w.heap.size 28 #[.int .i64 0, .slice none 0 0, .int .i64 0, .int .i64 0] ∧ Grew w wr) (fun iv _ => k - (intOf iv).toNat)
      case atStart => exact ⟨0, rfl, by omega, fun j hj => by omega, HR1.out, O, G⟩
      case round =>
        clear HR1 O G
        obtain ⟨i, rfl, hi, ND, R, O, G⟩ := hrel
        obtain ⟨wo, rfl⟩ : ∃ wo : World, wo = wr := ⟨_, rfl⟩
        have HR1 := Lib.hid R
        have HND := Lib.hid ND
        clear R ND
        by_cases hlt : i < k
        · have hil : i < L.length := by have := HN.out; omega
          have HNE := Lib.hid (fun (h : NeTo L i i) => HND.out.next (dupAt_no h))
          have HDX := Lib.hid (fun (j : Nat) (hj : j < i) (h : (L.getD j (0, (0, 0))).1 = (L.getD i (0, (0, 0))).1) => bldE_dup HE.out (dupL_at hil (dupAt_ex hj hil h)))
          go_wp2_with fail
          go_loopw [7] (fun jv wr => ∃ j : Nat, jv = .int .i64 j ∧ j ≤ i ∧ NeTo L i j ∧ RowE 51 3 encE wr B (.slice a k c) L ∧ Own wr w.heap.size 28 #[.int .i64 0, .slice none 0 0, .int .i64 0, .int .i64 0] ∧ Grew w wr) (fun jv _ => i - (intOf jv).toNat)
          case atStart => exact ⟨0, rfl, by omega, fun j hj => by omega, HR1.out, O, G⟩
          case round =>
            clear HR1 O G
            obtain ⟨j, rfl, hj, NE, R, O, G⟩ := hrel
            have HR1 := Lib.hid R
            have HNJ := Lib.hid NE
            clear R NE
            by_cases hjl : j < i
            · obtain ⟨ge, rfl, hge, c0, -, -⟩ := ent_cel HR1.out hil
              obtain ⟨ge2, eg, hge2, d0, -, -⟩ := ent_cel HR1.out (show j < L.length by omega)
              obtain rfl : ge = ge2 := by injection eg with eg; injection eg
              have HNJ2 := Lib.hid (fun (h : (L.getD j (0, (0, 0))).1 ≠ (L.getD i (0, (0, 0))).1) => HNJ.out.next h)
              have HD2 := Lib.hid (HDX.out j hjl)
              generalize (L.getD j (0, (0, 0))).1 = xj at *
              generalize (L.getD i (0, (0, 0))).1 = xi at *
              have i0 : (0 : Int) ≤ (i : Int) := by omega
              have i1 : (i : Int) < (k : Int) := by omega
              have j0 : (0 : Int) ≤ (j : Int) := by omega
              have j1 : (j : Int) < (k : Int) := by omega
              clear eg
              cases hx : (xj == xi)
              · have hne : xj ≠ xi := by simpa using hx
                have HNN := Lib.hid hne
                clear hne
                go_upto_region 15 with fail
                go_quiet (fail)
                revert nq; intro nq1
                have R2 := Lib.hid (HR1.out.drewN nq1)
                have O2 := O.drewN nq1
                have G2 := G.drewN nq1
                clear c0 d0 HR1 O G hge hge2
                generalize World.drewN _ nq1 = w9 at *
                go_wp2_with fail
                go_roundw
                case rel => exact ⟨j + 1, by go_num, by omega, HNJ2.out HNN.out, R2.out, O2, G2⟩
                case measure => simp [intOf]; omega
              · have hne : xj = xi := by simpa using hx
                have HB := Lib.hid (HD2.out hne)
                clear hne
                go_upto_region 15 with fail
                go_quiet (fail)
                revert nq; intro nq1
                have R2 := Lib.hid (HR1.out.drewN nq1)
                have O2 := O.drewN nq1
                have G2 := G.drewN nq1
                clear c0 d0 HR1 O G hge hge2
                generalize World.drewN _ nq1 = w9 at *
                obtain ⟨t0, t1, t2, t3, t4, t5, t6, t7⟩ := O2.four
                have lT := O2.lt
                go_wp2_with fail
                generalize hw3 : World.setCell (World.setCell (World.setCell (World.setCell _ _ _) _ _) _ _) _ _ = w4
                have OE := own4 hw3 O2
                have GE := grew4 hw3 G2 (Nat.le_refl _)
                clear hw3 t0 t1 t2 t3 t4 t5 t6 t7
                obtain ⟨b0, b1, b2, b3, -⟩ := OE.four
                refine bodyPost_ret (v := zeroTup 5) (by simp [results, Try.results36, go_sem, b0, b1, b2, b3, zeroTup]) rfl ⟨GE, .inr ⟨by rw [HB.out]; decide, by rw [HB.out]⟩⟩
            · have hji : j = i := by omega
              subst hji
              have HN2 := Lib.hid (HNE.out HNJ.out)
              go_wp2_with fail
              go_roundw
              case rel => exact ⟨j + 1, by go_num, by omega, HN2.out, HR1.out, O, G⟩
              case measure => simp [intOf]; omega
        · have hkk : i = k := by omega
          subst hkk
          have hNoD : dupL L = false := dupL_no (fun j hj => HND.out j (by have := HN.out; omega))
          have HB := Lib.hid (bldE_ok HE.out hNoD)
          clear hNoD
          go_wp2_with fail
          with_reducible refine (made_f B _ L _ HLL.out ENT.out HR1.out).mono ?_
          rintro e w5 ⟨s', x', m', rfl, n5, g5⟩
          obtain ⟨a', j', c', rfl⟩ := n5.slice
          have HN5 := Lib.hid n5
          have O5 := O.grew g5
          have G5 := G.trans g5
          have hwr : w.heap.size < wo.heap.size := O.lt
          obtain ⟨hh, hhh⟩ : ∃ hh, hF (topOf L) = hh := ⟨_, rfl⟩
          rw [hhh] at HN5
          have HHH := Lib.hid hhh
          rw [hhh]
          clear n5 g5 O G hhh
          obtain ⟨t0, t1, t2, t3, t4, t5, t6, t7⟩ := O5.four
          have lT := O5.lt
          go_wp2_with fail
          generalize hw3 : World.setCell (World.setCell (World.setCell (World.setCell _ _ _) _ _) _ _) _ _ = w6
          have OE := own4 hw3 O5
          have GE := grew4 hw3 G5 (Nat.le_refl _)
          have nE := node4 hw3 HN5.out (fun b hb => by omega)
          clear hw3 t0 t1 t2 t3 t4 t5 t6 t7
          obtain ⟨b0, b1, b2, b3, -⟩ := OE.four
          have nE2 : NodeF w6 (fun b => w.heap.size ≤ b) (hF (topOf L)) (fnOf L) (.slice a' j' c') x' m' := by rw [HHH.out]; exact nE.mono (fun b hb _ => by omega)
          exact bodyPost_ret (v := .tuple #[treeV hh (.slice a' j' c') x' m', .int .i64 0]) (by simp [results, Try.results36, go_sem, b0, b1, b2, b3]) rfl ⟨GE, .inl ⟨HB.out, _, _, _, by rw [HHH.out], made_tree ENT.out nE2⟩⟩
end Go.Proofs.Ytdlhihllmidfeaa

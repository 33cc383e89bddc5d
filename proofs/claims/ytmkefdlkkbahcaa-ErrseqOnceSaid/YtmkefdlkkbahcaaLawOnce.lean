/- ErrseqOnce holds: each observer is told once of the errors between two of its checks. -/
import Derived.Test.YtmkefdlkkbahcaaEr
import Derived.Test.YtmkefdlkkbahcaaTape
import Derived.Test.YtmkefdlkkbahcaaRows2
import Derived.Deep.RegionHeld3
import Derived.Deep.DeepCutAuto
import Derived.Deep.CutBlock
namespace Go.Proofs.Ytmkefdlkkbahcaa
open Go.ChangeShapes Go.WideShapes Go.ChangeAt Go.RowKit Go.Mine

theorem info_int : (Try.prog.info? 3).map (fun i => (i.zero, i.size, i.bytes)) = some (some (.int .i64 0), 1, 8) := by kernel_rfl
theorem info_err : (Try.prog.info? 26).map (fun i => (i.zero, i.size, i.bytes)) = some (some (.int .i64 0), 1, 8) := by kernel_rfl
/-- What the observers are owed: each one at its cursor, if the last error is x and there were c. -/
def Owed (c x : Int) (C Q : List Int) : Prop := C.length = Q.length ∧ ∀ k, k < C.length → 0 ≤ C.getD k 0 ∧ C.getD k 0 ≤ c ∧ Q.getD k 0 = toldE c x (C.getD k 0)
/-- The two rows lie apart. -/
def Apart2 (u v : Value) : Prop := ∀ k, u.ownBlock = some k → v.ownBlock ≠ some k

theorem owed_snoc {c x : Int} {C Q : List Int} (h : Owed c x C Q) (hc : 0 ≤ c) : Owed c x (C ++ [c]) (Q ++ [0]) := by
  refine ⟨by simp [h.1], fun k hk => ?_⟩
  rw [List.length_append, List.length_singleton] at hk
  have hl := h.1
  by_cases hlt : k < C.length
  · have e2 : (C ++ [c]).getD k 0 = C.getD k 0 := by simp [List.getD, List.getElem?_append_left hlt]
    have e3 : (Q ++ [0]).getD k 0 = Q.getD k 0 := by simp [List.getD, List.getElem?_append_left (show k < Q.length by omega)]
    rw [e2, e3]
    exact h.2 k hlt
  · have e : k = C.length := by omega
    subst e
    have e2 : (C ++ [c]).getD C.length 0 = c := by simp [List.getD]
    have e3 : (Q ++ [0]).getD C.length 0 = 0 := by rw [hl]; simp [List.getD]
    rw [e2, e3]
    refine ⟨hc, Int.le_refl _, ?_⟩
    unfold toldE
    rw [pend_f (Int.lt_irrefl _)]
theorem owed_all {c x y : Int} {C Q L : List Int} (h : Owed c x C Q) (hl : L.length = Q.length) (hy : ∀ i, i < L.length → L.getD i 0 = y) : Owed (c + 1) y C L := by
  refine ⟨h.1.trans hl.symm, fun k hk => ?_⟩
  have h1 := h.2 k hk
  have h2 := h.1
  refine ⟨h1.1, by omega, ?_⟩
  rw [hy k (by omega)]
  unfold toldE
  rw [pend_t (by omega)]
theorem owed_set {c x : Int} {C Q : List Int} (h : Owed c x C Q) (hc : 0 ≤ c) (i : Nat) (hi : i < C.length) : Owed c x (C.set i (nextK c (C.getD i 0))) (Q.set i 0) := by
  have h2 := h.1
  have h1 := h.2 i hi
  refine ⟨by simp [h2], fun k hk => ?_⟩
  rw [List.length_set] at hk
  by_cases e : k = i
  · subst e
    have e2 : (C.set k (nextK c (C.getD k 0))).getD k 0 = nextK c (C.getD k 0) := by simp [List.getD, hk]
    have e3 : (Q.set k 0).getD k 0 = 0 := by simp [List.getD, show k < Q.length by omega]
    rw [e2, e3]
    generalize C.getD k 0 = q at *
    unfold nextK toldE
    cases hp : pendB c q
    · dsimp only
      rw [hp]
      exact ⟨h1.1, h1.2.1, rfl⟩
    · dsimp only
      rw [pend_f (Int.lt_irrefl _)]
      exact ⟨hc, Int.le_refl _, rfl⟩
  · have e2 : (C.set i (nextK c (C.getD i 0))).getD k 0 = C.getD k 0 := by simp [List.getD, List.getElem?_set, Ne.symm e]
    have e3 : (Q.set i 0).getD k 0 = Q.getD k 0 := by simp [List.getD, List.getElem?_set, Ne.symm e]
    rw [e2, e3]
    exact h.2 k hk
theorem told_pend {c x q : Int} (h : Right c x) (h0 : 0 ≤ q) : (pendB c q = true ∧ toldE c x q = x ∧ (x == 0) = false) ∨ (pendB c q = false ∧ toldE c x q = 0) := by
  unfold toldE
  by_cases hp : q < c
  · rw [pend_t hp]
    have : ¬x = 0 := fun e => by have := h.2.2.2.1 e; omega
    exact .inl ⟨rfl, rfl, by simpa using this⟩
  · rw [pend_f hp]
    exact .inr ⟨rfl, rfl⟩

set_option maxRecDepth 100000 in
set_option maxHeartbeats 8000000 in
theorem once_core (A : Option Addr) (c : Nat) (xs : List Int) (w : World) (hr : IntRow w A xs) (hm : xs.length ≤ maxLen) :
    Calls Try.prog 3 #[.slice A xs.length c] w (RetG (.bool true) w) := by
  have tp0 := Tp.made hr hm c 25
  have gA0 := (Grew.refl w).alloc (.cells #[.slice A xs.length c, .int .i64 0] 25)
  clear hr hm
  generalize hX : xs.length = X at *
  clear hX
  go_enter Try.func3, Try.ntmps3
  have RC0 : RowE 3 1 enc1 _ (w.heap.size + 2) _ [] := RowE.lit (((w.alloc (.cells #[.slice A X c, .int .i64 0] 25)).alloc (.cells #[.int .i64 0, .int .i64 0] 28))) #[] rfl rfl (by decide) (by simp)
  have RQ0 : RowE 26 1 enc1 _ (w.heap.size + 2) _ [] := RowE.lit ((((w.alloc (.cells #[.slice A X c, .int .i64 0] 25)).alloc (.cells #[.int .i64 0, .int .i64 0] 28))).alloc (.cells #[] 3)) #[] rfl rfl (by decide) (by simp)
  have EO := ((Own.new2 w (.cells #[.slice A X c, .int .i64 0] 25) 28 #[.int .i64 0, .int .i64 0]).alloc (.cells #[] 3)).alloc (.cells #[] 26)
  replace RC0 := RC0.alloc (.cells #[] 26)
  replace tp0 := ((tp0.alloc (.cells #[.int .i64 0, .int .i64 0] 28)).alloc (.cells #[] 3)).alloc (.cells #[] 26)
  replace gA0 := ((gA0.alloc (.cells #[.int .i64 0, .int .i64 0] 28)).alloc (.cells #[] 3)).alloc (.cells #[] 26)
  have HRC := Lib.hid RC0
  have HRQ := Lib.hid RQ0
  have HEO := Lib.hid EO
  have HTP := Lib.hid tp0
  have HGA := Lib.hid gA0
  clear RC0 RQ0 EO tp0 gA0
  go_wp2_with fail
  go_loopw [5, 6, 7] (fun cv qv i wr => ∃ (n : Nat) (C Q : List Int) (cu qu : Value) (k x : Int), cu = cv ∧ qu = qv ∧ i = .int .i64 n ∧ n ≤ 60 ∧ C.length ≤ n ∧ k ≤ n ∧ Right k x ∧ Owed k x C Q ∧ Apart2 cu qu ∧
    RowE 3 1 enc1 wr (w.heap.size + 2) cu C ∧ RowE 26 1 enc1 wr (w.heap.size + 2) qu Q ∧ Own wr (w.heap.size + 1) 28 #[.int .i64 k, .int .i64 x] ∧ Tp (w.heap.size + 1) wr w.heap.size ∧ Grew w wr) (fun _ _ i _ => 60 - (intOf i).toNat)
  case atStart =>
    refine ⟨0, [], [], _, _, 0, 0, rfl, rfl, rfl, by omega, by simp, by omega, ?_, ⟨rfl, fun k h => by simp at h⟩, ?_, (by simpa only [World.size_alloc, List.length_nil] using HRC.out), (by simpa only [World.size_alloc, List.length_nil] using HRQ.out), HEO.out, HTP.out, HGA.out⟩
    · unfold Right; omega
    · intro k h h2
      simp [Value.ownBlock] at h h2
      omega
  case round =>
    clear HRC HRQ HEO HTP HGA
    obtain ⟨n, C, Q, cu, qu, k, x, rfl, rfl, rfl, hn, hC, hk, hR, hO, hap, RC, RQ, E, tp, gA⟩ := hrel
    obtain ⟨wo, rfl⟩ : ∃ wo : World, wo = wr := ⟨_, rfl⟩
    have HR := Lib.hid hR
    have HO := Lib.hid hO
    have HAP := Lib.hid hap
    have hk0 := hR.1
    clear hR hO hap
    obtain ⟨E0, E1, E2, E3⟩ := E.two
    have hl := tp.lt
    have hlE := E.lt
    have hbA : w.heap.size ≤ w.heap.size := Nat.le_refl _
    have hbR : w.heap.size < w.heap.size + 2 := by omega
    by_cases hlt : n < 60
    · go_wp2_with fail
      with_reducible refine (end_x _ _ _ tp).mono ?_
      rintro e w1 ⟨q, rfl, tp1, g1⟩
      replace RC := RC.grew g1
      replace RQ := RQ.grew g1
      replace E := E.grew g1
      replace gA := gA.trans g1
      clear tp g1 E0 E1 E2 E3 hl hlE
      obtain ⟨E0, E1, E2, E3⟩ := E.two
      have hl := tp1.lt
      have hlE := E.lt
      cases q
      · go_wp2_with fail
        with_reducible refine (next_x _ _ _ _ (by omega) (by omega) tp1).mono ?_
        rintro e w2 ⟨z, z0, z1, rfl, tp2, g2⟩
        replace RC := RC.past g2 hbR
        replace RQ := RQ.past g2 hbR
        replace E := E.past g2 (by omega)
        replace gA := gA.past g2 hbA
        clear tp1 g2 E0 E1 E2 E3 hl hlE
        obtain ⟨E0, E1, E2, E3⟩ := E.two
        have hl := tp2.lt
        have hlE := E.lt
        have hz : z = 0 ∨ z = 1 ∨ z = 2 := by omega
        clear z0 z1
        rcases hz with rfl | rfl | rfl
        · go_wp2_with fail
          with_reducible refine (next_x _ _ _ _ (by omega) (by omega) tp2).mono ?_
          rintro e w3 ⟨z, z0, z1, rfl, tp3, g3⟩
          replace RC := RC.past g3 hbR
          replace RQ := RQ.past g3 hbR
          replace E := E.past g3 (by omega)
          replace gA := gA.past g3 hbA
          clear tp2 g3 E0 E1 E2 E3 hl hlE
          obtain ⟨E0, E1, E2, E3⟩ := E.two
          have hl := tp3.lt
          have hlE := E.lt
          go_wp2_with fail
          obtain ⟨y, hy⟩ : ∃ y, 10 + z = y := ⟨_, rfl⟩
          rw [hy]
          have hy0 : 0 < y := by omega
          have hyw : (Lit.int .i64 y).wf = true := WalkArith.wf_i64 (by omega)
          clear hy z0 z1
          with_reducible refine (record_any _ _ _ _ HR.out hy0 (by omega)).mono ?_
          rintro e w4 ⟨rfl, g4⟩
          replace RC := RC.grew g4
          replace RQ := RQ.grew g4
          replace E := E.grew g4
          replace tp3 := tp3.grew g4
          replace gA := gA.trans g4
          clear g4 E0 E1 E2 E3 hl hlE
          obtain ⟨E0, E1, E2, E3⟩ := E.two
          have hl := tp3.lt
          have hlE := E.lt
          go_wp2_with fail
          have hRCn : cu.ownBlock ≠ some (w.heap.size + 1) := fun e => by have := RC.above _ e; omega
          have hRQn : qu.ownBlock ≠ some (w.heap.size + 1) := fun e => by have := RQ.above _ e; omega
          replace E : Own _ _ 28 #[.int .i64 (k + 1), .int .i64 y] := ((E.set 0 (.int .i64 (k + 1))).set 1 (.int .i64 y)).alloc (.cells #[.int .i64 (k + 1), .int .i64 y] 28)
          replace RC := ((RC.set (p := ⟨w.heap.size + 1, 0, none⟩) hRCn (.int .i64 (k + 1))).set (p := ⟨w.heap.size + 1, 1, none⟩) hRCn (.int .i64 y)).alloc (.cells #[.int .i64 (k + 1), .int .i64 y] 28)
          replace RQ := ((RQ.set (p := ⟨w.heap.size + 1, 0, none⟩) hRQn (.int .i64 (k + 1))).set (p := ⟨w.heap.size + 1, 1, none⟩) hRQn (.int .i64 y)).alloc (.cells #[.int .i64 (k + 1), .int .i64 y] 28)
          replace tp3 := ((tp3.set (p := ⟨w.heap.size + 1, 0, none⟩) (Nat.le_refl _) (.int .i64 (k + 1))).set (p := ⟨w.heap.size + 1, 1, none⟩) (Nat.le_refl _) (.int .i64 y)).alloc (.cells #[.int .i64 (k + 1), .int .i64 y] 28)
          replace gA := ((gA.set (p := ⟨w.heap.size + 1, 0, none⟩) (by simp) (.int .i64 (k + 1))).set (p := ⟨w.heap.size + 1, 1, none⟩) (by simp) (.int .i64 y)).alloc (.cells #[.int .i64 (k + 1), .int .i64 y] 28)
          clear E0 E1 E2 E3 hl hlE
          generalize World.alloc _ _ = w5 at *
          have hlb := fun b e => RQ.lt b e
          have hQ : Q.length ≤ 60 := by have := HO.out.1; omega
          have HQ := Lib.hid (show Q.length = C.length from HO.out.1.symm)
          obtain ⟨aq, m, cq, rfl, hm, -⟩ := RQ.ints
          have HM := Lib.hid hm
          have hm60 : m ≤ 60 := by omega
          clear hm hQ hlb
          have HRC := Lib.hid RC
          have HRQ := Lib.hid RQ
          have HE := Lib.hid E
          have HTP := Lib.hid tp3
          have HGA := Lib.hid gA
          clear RC RQ E tp3 gA
          go_loopw [11] (fun i wr => ∃ (j : Nat) (L : List Int), i = .int .i64 j ∧ j ≤ m ∧ (∀ i, i < j → L.getD i 0 = y) ∧ RowE 26 1 enc1 wr (w.heap.size + 2) (.slice aq m cq) L ∧
            RowE 3 1 enc1 wr (w.heap.size + 2) cu C ∧ Own wr (w.heap.size + 1) 28 #[.int .i64 (k + 1), .int .i64 y] ∧ Tp (w.heap.size + 1) wr w.heap.size ∧ Grew w wr) (fun i _ => m - (intOf i).toNat)
          case atStart => exact ⟨0, Q, rfl, by omega, fun i h => by omega, HRQ.out, HRC.out, HE.out, HTP.out, HGA.out⟩
          case round =>
            clear HRC HRQ HE HTP HGA
            obtain ⟨j, L, rfl, hj, hL, RQ, RC, E, tp, gA⟩ := hrel
            obtain ⟨wi, rfl⟩ : ∃ wi : World, wi = wr := ⟨_, rfl⟩
            have HL := Lib.hid hL
            clear hL
            by_cases hjm : j < m
            · obtain ⟨g, rfl, hgB, hg, hg0, hg1⟩ := RQ.atI.2 j hjm
              go_wp2_with fail
              go_roundw
              case rel =>
                have hap := HAP.out
                refine ⟨j + 1, L.set j y, by go_num, by omega, ?_, RQ.storeI j y, RC.set (p := ⟨g, j, none⟩) (fun e => hap g e rfl) _, E.far (p := ⟨g, j, none⟩) (by simp; omega) _, tp.set (p := ⟨g, j, none⟩) (by show w.heap.size + 1 ≤ g; omega) _, gA.set (p := ⟨g, j, none⟩) (by show w.heap.size ≤ g; omega) _⟩
                intro i hi
                have hjL : j < L.length := by rw [← RQ.atI.1]; exact hjm
                by_cases e : i = j
                · subst e
                  simp [List.getD, hjL]
                · have := HL.out i (by omega)
                  simpa [List.getD, List.getElem?_set, Ne.symm e] using this
              case measure => simp [intOf]; omega
            · have hjm2 : j = m := by omega
              subst hjm2
              go_wp2_with fail
              go_roundw
              case rel =>
                have hLl : L.length = Q.length := by rw [← RQ.atI.1, HM.out]
                have hQC := HQ.out
                refine ⟨n + 1, C, L, cu, _, k + 1, y, rfl, rfl, by go_num, by omega, by omega, by omega, ?_, owed_all HO.out hLl (fun i hi => HL.out i (by rw [RQ.atI.1]; exact hi)), HAP.out, RC, RQ, E, tp, gA⟩
                unfold Right; omega
              case measure => simp [intOf]; omega
        · go_wp2_with fail
          with_reducible refine (sample_any _ _ _ HR.out).mono ?_
          rintro e w4 ⟨rfl, g4⟩
          replace RC := RC.grew g4
          replace RQ := RQ.grew g4
          replace E := E.grew g4
          replace tp2 := tp2.grew g4
          replace gA := gA.trans g4
          clear g4 E0 E1 E2 E3 hl hlE
          have hC6 : C.length < 1000000 := by omega
          have hQ6 : Q.length < 1000000 := by have := HO.out.1; omega
          have hl := E.lt
          have hB6 : ∀ o, w.heap.size + 2 ≤ (w4.alloc o).heap.size := fun o => by simp; omega
          have HQ4 := Lib.hid (fun k e => RQ.lt k e)
          go_wp2_with (at_builtin; first
            | (have hC7 := hC6; clear hC6; go_loud (refine wpList_append_row _ rfl (.tmp 57) (.tmp 60) 22 rfl (w.heap.size + 2) info_int Try.underlying22 (by decide) (by decide) enc1_len _ C rfl (RC.alloc _) _ _ k rfl (Own.new _ _ _) enc1_one hC7 (by decide) (hB6 _) ?_; intro g9 cap9 w9 RC9 G9 o9; replace G9 : (w4.alloc (.cells #[.int .i64 k] 3)).grownBy w9 cu.ownBlock := G9; replace o9 : cu.ownBlock = some g9 ∨ g9 = (w4.alloc (.cells #[.int .i64 k] 3)).heap.size := o9; replace RQ : RowE 26 1 enc1 w9 (w.heap.size + 2) qu Q := (RQ.alloc _).keptG G9 (fun k e => HAP.out k e); have hB7 : ∀ o, w.heap.size + 2 ≤ (w9.alloc o).heap.size := fun o => Nat.le_trans (hB6 _) (Nat.le_trans G9.size (by simp))))
            | (have hQ7 := hQ6; clear hQ6; go_loud (refine wpList_append_row _ rfl (.tmp 62) (.tmp 63) 29 rfl (w.heap.size + 2) info_err Try.underlying29 (by decide) (by decide) enc1_len _ Q rfl (RQ.alloc _) _ _ 0 rfl (Own.new _ _ _) enc1_one hQ7 (by decide) (hB7 _) ?_; intro g8 cap8 w8 RQ8 G8 o8; replace G8 : (w9.alloc (.cells #[.int .i64 0] 26)).grownBy w8 qu.ownBlock := G8; replace o8 : qu.ownBlock = some g8 ∨ g8 = (w9.alloc (.cells #[.int .i64 0] 26)).heap.size := o8)))
          have hrC : ∀ x, cu.ownBlock = some x → w.heap.size + 2 ≤ x := fun x e => (RC.above x e)
          have hrQ : ∀ x, qu.ownBlock = some x → w.heap.size + 2 ≤ x := fun x e => (RQ.above x e)
          have E9 := Own.keptA (Own.keptA (E.alloc (.cells #[.int .i64 k] 3)) G9 hrC (by omega) |>.alloc (.cells #[.int .i64 0] 26)) G8 hrQ (by omega)
          have t9 := Tp.keptA (Tp.keptA (tp2.alloc (.cells #[.int .i64 k] 3)) G9 hrC (by omega) |>.alloc (.cells #[.int .i64 0] 26)) G8 hrQ (by omega)
          have gA9 := Grew.keptA (Grew.keptA (gA.alloc (.cells #[.int .i64 k] 3)) G9 hrC (by omega) |>.alloc (.cells #[.int .i64 0] 26)) G8 hrQ (by omega)
          have hltC := RC9.lt g9 rfl
          rw [World.size_alloc] at o9 o8
          have hq9 : ∀ x, qu.ownBlock = some x → g9 ≠ x := fun x e h => by
            subst h
            rcases o9 with o9 | o9
            · exact HAP.out _ o9 e
            · have := HQ4.out _ e; omega
          have hap9 : g9 ≠ g8 := by
            rcases o8 with o8 | o8
            · exact hq9 _ o8
            · omega
          have RC8 := (RC9.alloc (.cells #[.int .i64 0] 26)).keptG G8 (fun x e ho => by
            injection ho with ho
            exact hq9 x e ho)
          go_roundw
          case rel =>
            refine ⟨n + 1, C ++ [k], Q ++ [0], _, _, k, x, rfl, rfl, by go_num, by omega, by simp; omega, by omega, HR.out, owed_snoc HO.out hk0, ?_, RC8, RQ8, E9, t9, gA9⟩
            intro z e1 e2
            simp [Value.ownBlock] at e1 e2
            omega
          case measure => simp [intOf]; omega
        · obtain ⟨ac, mc, cc, rfl, hmc, -⟩ := RC.ints
          obtain ⟨aq, mq, cq, rfl, hmq, -⟩ := RQ.ints
          have hmm : mq = mc := by have := HO.out.1; omega
          subst hmm
          have hmN : mq ≤ 60 := by omega
          have HMC := Lib.hid hmc
          have HMQ := Lib.hid hmq
          clear hmc hmq
          by_cases hm0 : mq = 0
          · subst hm0
            go_wp2_with fail
            go_roundw
            case rel => exact ⟨n + 1, C, Q, _, _, k, x, rfl, rfl, by go_num, by omega, by omega, by omega, HR.out, HO.out, HAP.out, RC, RQ, E, tp2, gA⟩
            case measure => simp [intOf]; omega
          · have e0 : ((mq : Int) == 0) = false := by simp; omega
            go_wp2_with fail
            with_reducible refine (next_x _ _ _ _ (by omega) (by omega) tp2).mono ?_
            rintro e w3 ⟨i, i0, i1, rfl, tp3, g3⟩
            replace RC := RC.past g3 hbR
            replace RQ := RQ.past g3 hbR
            replace E := E.past g3 (by omega)
            replace gA := gA.past g3 hbA
            obtain ⟨i, rfl⟩ := Int.eq_ofNat_of_zero_le i0
            have him : i < mq := by omega
            clear tp2 g3 E0 E1 E2 E3 hl hlE i0 i1
            obtain ⟨E0, E1, E2, E3⟩ := E.two
            have hl := tp3.lt
            have hlE := E.lt
            obtain ⟨gc, rfl, hgcB, hgc, c0, c1⟩ := RC.atI.2 i him
            obtain ⟨gq, rfl, hgqB, hgq, q0, q1⟩ := RQ.atI.2 i him
            have hne : gc ≠ gq := fun e => HAP.out gc rfl (by rw [e]; rfl)
            have hiC : i < C.length := by rw [← HMC.out]; exact him
            have hi0 : (0 : Int) ≤ (i : Int) := by omega
            have hi1 : (i : Int) < (mq : Int) := by omega
            have hOi := HO.out.2 i hiC
            have HS := Lib.hid (owed_set HO.out hk0 i hiC)
            rw [hOi.2.2] at q0
            generalize C.getD i 0 = ci at *
            have ho0 := hOi.1
            have ho1 := hOi.2.1
            clear hOi
            have hx0 := HR.out.2.2.1
            go_upto_region 24 with fail
            have hkeep : ∀ w', Grew w3 w' → w'.cell? ⟨gc, i, none⟩ = some (.int .i64 ci) ∧ w'.frozen? ⟨gc, i, none⟩ = false ∧ w'.frozen? ⟨gq, i, none⟩ = false := fun w' g => ⟨(g.cells.1 gc i hgc).trans c0, (g.cells.2 gc i hgc).trans c1, (g.cells.2 gq i hgq).trans q1⟩
            have HK := Lib.hid hkeep
            clear hkeep hiC
            rcases told_pend HR.out ho0 with ⟨p1, p2, p3⟩ | ⟨p1, p2⟩
            · skip
              have p4 : (x != 0) = true := by simp [bne, p3]
              rw [p2] at q0
              have P2 := Lib.hid p2
              clear p2
              replace RC := RC.drew
              replace RQ := RQ.drew
              replace E := E.drew
              replace tp3 := tp3.drew
              replace gA := gA.drew
              go_region_held3 (fun w' => w'.cell? ⟨w.heap.size + 1, 0, none⟩ = some (.int .i64 k) ∧ w'.cell? ⟨w.heap.size + 1, 1, none⟩ = some (.int .i64 x) ∧ w'.cell? ⟨gc, i, none⟩ = some (.int .i64 ci) ∧ w'.cell? ⟨gq, i, none⟩ = some (.int .i64 x))
                (refine ⟨?_, ?_, ?_, ?_⟩ <;> assumption)
                (first | (go_at_call 8; (with_reducible refine (pending_any _ _ _ _ ho0 ho1).mono ?_); rintro e w4 ⟨rfl, g4⟩; replace RC := RC.grew g4; replace RQ := RQ.grew g4; replace E := E.grew g4; replace tp3 := tp3.grew g4; replace gA := gA.trans g4; have G34 : Grew w3 w4 := (Grew.refl w3).drew.trans g4; have c4 := (g4.cells.1 gc i hgc).trans c0; have q4 := (g4.cells.1 gq i hgq).trans q0; clear E0 E1 E2 E3 c0 q0 hl hlE; obtain ⟨E0, E1, E2, E3⟩ := E.two; have hl := tp3.lt; have hlE := E.lt))
              go_upto_region 26 with fail
              have hg4 := G34.size
              have hl4c : gc < w4.heap.size := by omega
              have hl4q : gq < w4.heap.size := by omega
              replace RC := RC.drew
              replace RQ := RQ.drew
              replace E := E.drew
              replace tp3 := tp3.drew
              replace gA := gA.drew
              go_region_held3 (fun w' => w'.cell? ⟨w.heap.size + 1, 0, none⟩ = some (.int .i64 k) ∧ w'.cell? ⟨w.heap.size + 1, 1, none⟩ = some (.int .i64 x) ∧ w'.cell? ⟨gc, i, none⟩ = some (.int .i64 ci) ∧ w'.cell? ⟨gq, i, none⟩ = some (.int .i64 x))
                (refine ⟨?_, ?_, ?_, ?_⟩ <;> assumption)
                (first | (go_at_call 9; (with_reducible refine (check_any _ _ _ _ HR.out ho0 ho1).mono ?_); rintro e w5 ⟨rfl, g5⟩; replace RC := RC.grew g5; replace RQ := RQ.grew g5; replace E := E.grew g5; replace tp3 := tp3.grew g5; replace gA := gA.trans g5; replace G34 := G34.drew.trans g5; have c5 := (g5.cells.1 gc i hl4c).trans c4; have q5 := (g5.cells.1 gq i hl4q).trans q4; clear E0 E1 E2 E3 c4 q4 hl hlE; obtain ⟨E0, E1, E2, E3⟩ := E.two; have hl := tp3.lt; have hlE := E.lt))
              rw [P2.out]
              obtain ⟨c5, f5, fq5⟩ := HK.out w5 G34
              go_wp2_with fail
              refine ⟨⟨n + 1, C.set i (nextK k ci), Q.set i 0, _, _, k, x, rfl, rfl, by go_num, by omega, by rw [List.length_set]; omega, by omega, HR.out, HS.out, HAP.out,
                (RC.storeI i (nextK k ci)).set (p := ⟨gq, i, none⟩) (fun e => hne (by injection e)) _, (RQ.set (p := ⟨gc, i, none⟩) (fun e => hne (by injection e with e; exact e.symm)) _).storeI i 0,
                (E.far (p := ⟨gc, i, none⟩) (by show w.heap.size + 1 ≠ gc; omega) _).far (p := ⟨gq, i, none⟩) (by show w.heap.size + 1 ≠ gq; omega) _,
                (tp3.set (p := ⟨gc, i, none⟩) (by show w.heap.size + 1 ≤ gc; omega) _).set (p := ⟨gq, i, none⟩) (by show w.heap.size + 1 ≤ gq; omega) _,
                (gA.set (p := ⟨gc, i, none⟩) (by show w.heap.size ≤ gc; omega) _).set (p := ⟨gq, i, none⟩) (by show w.heap.size ≤ gq; omega) _⟩, by simp [intOf]; omega⟩
            · skip
              rw [p2] at q0
              have P2 := Lib.hid p2
              clear p2
              replace RC := RC.drew
              replace RQ := RQ.drew
              replace E := E.drew
              replace tp3 := tp3.drew
              replace gA := gA.drew
              go_region_held3 (fun w' => w'.cell? ⟨w.heap.size + 1, 0, none⟩ = some (.int .i64 k) ∧ w'.cell? ⟨w.heap.size + 1, 1, none⟩ = some (.int .i64 x) ∧ w'.cell? ⟨gc, i, none⟩ = some (.int .i64 ci) ∧ w'.cell? ⟨gq, i, none⟩ = some (.int .i64 0))
                (refine ⟨?_, ?_, ?_, ?_⟩ <;> assumption)
                (first | (go_at_call 8; (with_reducible refine (pending_any _ _ _ _ ho0 ho1).mono ?_); rintro e w4 ⟨rfl, g4⟩; replace RC := RC.grew g4; replace RQ := RQ.grew g4; replace E := E.grew g4; replace tp3 := tp3.grew g4; replace gA := gA.trans g4; have G34 : Grew w3 w4 := (Grew.refl w3).drew.trans g4; have c4 := (g4.cells.1 gc i hgc).trans c0; have q4 := (g4.cells.1 gq i hgq).trans q0; clear E0 E1 E2 E3 c0 q0 hl hlE; obtain ⟨E0, E1, E2, E3⟩ := E.two; have hl := tp3.lt; have hlE := E.lt))
              go_upto_region 26 with fail
              have hg4 := G34.size
              have hl4c : gc < w4.heap.size := by omega
              have hl4q : gq < w4.heap.size := by omega
              replace RC := RC.drew
              replace RQ := RQ.drew
              replace E := E.drew
              replace tp3 := tp3.drew
              replace gA := gA.drew
              go_region_held3 (fun w' => w'.cell? ⟨w.heap.size + 1, 0, none⟩ = some (.int .i64 k) ∧ w'.cell? ⟨w.heap.size + 1, 1, none⟩ = some (.int .i64 x) ∧ w'.cell? ⟨gc, i, none⟩ = some (.int .i64 ci) ∧ w'.cell? ⟨gq, i, none⟩ = some (.int .i64 0))
                (refine ⟨?_, ?_, ?_, ?_⟩ <;> assumption)
                (first | (go_at_call 9; (with_reducible refine (check_any _ _ _ _ HR.out ho0 ho1).mono ?_); rintro e w5 ⟨rfl, g5⟩; replace RC := RC.grew g5; replace RQ := RQ.grew g5; replace E := E.grew g5; replace tp3 := tp3.grew g5; replace gA := gA.trans g5; replace G34 := G34.drew.trans g5; have c5 := (g5.cells.1 gc i hl4c).trans c4; have q5 := (g5.cells.1 gq i hl4q).trans q4; clear E0 E1 E2 E3 c4 q4 hl hlE; obtain ⟨E0, E1, E2, E3⟩ := E.two; have hl := tp3.lt; have hlE := E.lt))
              rw [P2.out]
              obtain ⟨c5, f5, fq5⟩ := HK.out w5 G34
              go_wp2_with fail
              refine ⟨⟨n + 1, C.set i (nextK k ci), Q.set i 0, _, _, k, x, rfl, rfl, by go_num, by omega, by rw [List.length_set]; omega, by omega, HR.out, HS.out, HAP.out,
                (RC.storeI i (nextK k ci)).set (p := ⟨gq, i, none⟩) (fun e => hne (by injection e)) _, (RQ.set (p := ⟨gc, i, none⟩) (fun e => hne (by injection e with e; exact e.symm)) _).storeI i 0,
                (E.far (p := ⟨gc, i, none⟩) (by show w.heap.size + 1 ≠ gc; omega) _).far (p := ⟨gq, i, none⟩) (by show w.heap.size + 1 ≠ gq; omega) _,
                (tp3.set (p := ⟨gc, i, none⟩) (by show w.heap.size + 1 ≤ gc; omega) _).set (p := ⟨gq, i, none⟩) (by show w.heap.size + 1 ≤ gq; omega) _,
                (gA.set (p := ⟨gc, i, none⟩) (by show w.heap.size ≤ gc; omega) _).set (p := ⟨gq, i, none⟩) (by show w.heap.size ≤ gq; omega) _⟩, by simp [intOf]; omega⟩
      · go_wp2_with fail
        with_reducible refine (awake_any _).mono ?_
        rintro e y ⟨rfl, g⟩
        go_wp2_with fail
        go_ret
        exact ⟨rfl, gA.trans g⟩
    · have hN : n = 60 := by omega
      subst hN
      rw [show ((60 : Nat) : Int) = 60 from rfl]
      go_wp2_with fail
      with_reducible refine (awake_any _).mono ?_
      rintro e y ⟨rfl, g⟩
      go_wp2_with fail
      go_ret
      exact ⟨rfl, gA.trans g⟩

theorem Try.own : ownKnob Try.prog.godebug = none := by kernel_rfl
theorem Try.laidOut : laidOutB Try.prog = true := by kernel_rfl

theorem errseqOnce_contract (W : World) (base : Nat) (args : Array Value) (H : Type) (enc : TypeId × Value → H) (ds : List (DataW H)) (p : List MemPlace)
    (hval : ∀ (j : Nat) t v, Try.f3.params[j]? = some t → args[j]? = some v → Value.okWide Try.prog W .any base t v)
    (hA : DataW.TrodAll enc Try.prog W 0 (fun _ => true) true Try.f3.params.toList args.toList ds p) :
    (∃ d0, ds = [d0]) ∧ Calls Try.prog 3 args W fun e W' => e = .returned (.bool true) ∧ Below W.heap.size W W' := by
  rw [Try.params3] at hval hA
  obtain ⟨v0, d0, p0, ha, hd, hp, h0⟩ := args_1 hA
  subst ha hd
  obtain ⟨A0, c0, xs0, rfl, hr0, hm0⟩ := open_introw Try.underlying22 Try.underlying3 (by kernel_rfl) (hval 0 _ _ rfl rfl) h0
  exact ⟨⟨_, rfl⟩, (once_core A0 c0 xs0 W hr0 hm0).mono fun _ _ h => h⟩

set_option maxRecDepth 100000 in
theorem errseqOnce_lifted (os : Os) (started : os.Started) (H : Type) (enc : TypeId × Value → H) :
    ReturnsInHanded {} Try.checked os 3 .any (Rows.errseqOnceSpec.pre6 enc Try.prog Try.f3 Rows.errseqOnceRow.domain false) (Rows.errseqOnceSpec.post enc Try.prog Try.f3 false true false false) := by
  refine returnsInHanded_of_change (C := Try.checked) Try.own started (by kernel_rfl) Try.func3
    (ChangeSpec.witness6 (enc := enc) (C := Try.checked) false ⟨#[], #[.slice none 0 0], []⟩ 8 (by kernel_rfl) (by kernel_rfl) (by kernel_rfl) (by kernel_rfl)) ?_
  intro W base args ds gs before hval hW _ _
  obtain ⟨p, q, hA, hV, hrest⟩ := id hW
  obtain ⟨⟨d0, rfl⟩, hc⟩ := errseqOnce_contract W base args H enc ds p hval hA
  obtain ⟨rfl, -⟩ := trodVars_none hV
  refine hc.mono fun e W' ⟨he, hb⟩ => ⟨_, he, ?_⟩
  exact law_close (tb := 4) Try.laidOut (by rw [Try.params3]; decide +kernel) Try.underlying4 rfl rfl hW rfl rfl rfl hb

theorem errseqOnce_holds : Rows.ErrseqOnceSaid :=
  OpenClaim.holds_of_wide 3 Try.f3 rfl rfl rfl rfl rfl rfl rfl ⟨rfl, rfl, rfl, rfl, rfl⟩ rfl rfl rfl rfl rfl (by kernel_rfl) Try.func3 (by kernel_rfl)
    (of_decide_eq_true (by kernel_rfl)) (by unfold Func.isWrapper; first | (rw [if_pos (by decide +kernel)]; kernel_rfl) | (rw [if_neg (by decide +kernel)]; exact ⟨rfl, rfl⟩))
    (fun os started H enc _ => errseqOnce_lifted os started H enc)
end Go.Proofs.Ytmkefdlkkbahcaa

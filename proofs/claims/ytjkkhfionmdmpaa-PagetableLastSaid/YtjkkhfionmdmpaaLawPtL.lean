/- PagetableLast holds: what was entered last for a page is found, until it is zapped or its frame is dropped. -/
import Derived.Test.YtjkkhfionmdmpaaPs1
import Derived.Test.YtjkkhfionmdmpaaPMap
import Derived.Deep.CutRange
namespace Go.Mine
open Go Go.RowKit
theorem pt5_rt {p v f : Int} {a b : Bool} (p0 : 0 ≤ p) (p1 : p < 3) (v0 : 0 ≤ v) (v1 : v < 5) (f0 : 0 ≤ f) (f1 : f < 4) : rtT ⟨p, v, 1 + f, a, b⟩ = true := rtT_iff.2 ⟨⟨p0, show p ≤ 7 by omega⟩, ⟨v0, show v ≤ 63 by omega⟩, show 1 ≤ 1 + f by omega, show 1 + f ≤ 64 by omega⟩
end Go.Mine
namespace Go.Proofs.Ytjkkhfionmdmpaa
open Go.ChangeShapes Go.WideShapes Go.ChangeAt Go.RowKit Go.Mine

theorem pk : PairKey Try.prog 48 3 := ⟨⟨Try.underlying48, by kernel_rfl, by kernel_rfl, by kernel_rfl⟩, Try.underlying3, by
  have h : 0 < Try.prog.types.size := of_decide_eq_true (by kernel_rfl)
  exact ⟨Try.prog.types.size - 1, by omega⟩⟩
abbrev PM (w : World) (b n : Nat) (L : List Pt) : Prop := PMap Try.prog 48 w b n L
/-- The list, what is wanted, a tape. -/
structure LtSt (w : World) (v : Value) (L : List Pt) (n : Nat) (wx : World) : Prop where
  row : RdS 5 encT wx (w.heap.size + 2) v L
  map : PM wx (w.heap.size + 1) n L
  tp : Tp (w.heap.size + 1) wx w.heap.size
  grew : Grew w wx
  ok : okT L = true
  len : L.length ≤ n
def LtCut (w : World) (n : Nat) (v : Value) (wx : World) : Prop := ∃ L, LtSt w v L (n + 1) wx
def ZpI (w : World) (n : Nat) (L : List Pt) (p q c : Int) (w7 : World) (iv : Value) (wr : World) : Prop := ∃ i : Int, iv = .int .i64 i ∧ q ≤ i ∧ i ≤ q + c ∧ PM wr (w.heap.size + 1) n (L.filter fun x => !zpB p q (i - q) x) ∧ w7.grownBy wr (some (w.heap.size + 1))
def CkI (w : World) (n : Nat) (L : List Pt) (r : Nat) (w6 wr : World) : Prop := ∃ left, RgT Try.prog 48 wr (w.heap.size + 1) r (n + 1) L left ∧ Grew w6 wr
set_option maxRecDepth 100000 in
set_option maxHeartbeats 16000000 in
theorem last_core (A : Option Addr) (c : Nat) (xs : List Int) (w : World) (hr : IntRow w A xs) (hm : xs.length ≤ maxLen) :
    Calls Try.prog 5 #[.slice A xs.length c] w (RetG (.bool true) w) := by
  have tp0 := Tp.made hr hm c 25
  have hmm := @run_makeMap Try.prog
  clear hr hm
  generalize hX : xs.length = X at *
  clear hX
  go_enter Try.func5, Try.ntmps5
  have M0 := PMap.made (w.alloc (.cells #[.slice A X c, .int .i64 0] 25)) Try.prog 48
  replace tp0 := tp0.alloc (.map #[] 0)
  have gA0 := ((Grew.refl w).alloc (.cells #[.slice A X c, .int .i64 0] 25)).alloc (.map #[] 0)
  simp only [World.size_alloc] at M0
  have HS := Lib.hid (LtSt.mk (w := w) (v := .slice none 0 0) (L := []) (n := 0) (RdS.nil _ _ _ _ (Nat.zero_le _)) M0 tp0 gA0 okT_nil (Nat.le_refl _))
  have hB0 : w.heap.size < w.heap.size + 2 := by omega
  clear M0 tp0 gA0
  go_wp2_with fail
  go_loopw [4, 6] (fun xv kv wr => ∃ (v : Value) (L : List Pt) (n : Nat), v = xv ∧ kv = .int .i64 n ∧ n ≤ 30 ∧ LtSt w v L n wr) (fun _ kv _ => 30 - (intOf kv).toNat)
  case atStart => exact ⟨_, [], 0, rfl, rfl, by omega, HS.out⟩
  case round =>
    clear HS
    obtain ⟨v, L, n, rfl, rfl, hn, S⟩ := hrel
    obtain ⟨wo, rfl⟩ : ∃ wo : World, wo = wr := ⟨_, rfl⟩
    by_cases hlt : n < 30
    · have hlti : (n : Int) < 30 := by omega
      have T := S.tp
      have HS0 := Lib.hid S
      clear S
      go_wp2_with fail
      with_reducible refine (end_x _ _ _ T).mono ?_
      rintro e w1 ⟨q, rfl, T1, g1⟩
      have HR1 := Lib.hid (HS0.out.row.grew g1)
      have HM1 := Lib.hid (HS0.out.map.grew g1)
      have HG1 := Lib.hid (HS0.out.grew.trans g1)
      have HOK := Lib.hid HS0.out.ok
      have HLE := Lib.hid HS0.out.len
      clear T g1 HS0
      have hml : w.heap.size + 1 < w1.heap.size := HM1.out.lt
      cases q
      · go_wp2_with fail
        with_reducible refine (next_x _ _ _ _ (by omega) (by omega) T1).mono ?_
        rintro e w2 ⟨p, p0, p1, rfl, T2, g2⟩
        go_wp2_with fail
        with_reducible refine (next_x _ _ _ _ (by omega) (by omega) T2).mono ?_
        rintro e w3 ⟨q, v0, v1, rfl, T3, g3⟩
        go_wp2_with fail
        with_reducible refine (next_x _ _ _ _ (by omega) (by omega) T3).mono ?_
        rintro e w4 ⟨f, f0, f1, rfl, T4, g4⟩
        have hwf : IntKind.i64.wrap (1 + f) = 1 + f := IntWalk.i64_in _ (by omega)
        go_wp2_with fail
        with_reducible refine (next_x _ _ _ _ (by omega) (by omega) T4).mono ?_
        rintro e w5 ⟨k, k0, k1, rfl, T5, g5⟩
        have g25 := grown_trans (grown_trans (grown_trans g2 g3) g4) g5
        have HR5 := Lib.hid (HR1.out.past g25 hB0)
        have HM5 := Lib.hid (PMap.kept HM1.out g25 (fun e => by injection e with e; omega))
        have HG5 := Lib.hid (HG1.out.past g25 (Nat.le_refl _))
        have hml5 : w.heap.size + 1 < w5.heap.size := HM5.out.lt
        have hbl5 : w.heap.size + 2 ≤ w5.heap.size := hml5
        have hl1 : L.length ≤ 1000 := by have := HLE.out; omega
        clear g2 g3 g4 g5 g25 T1 T2 T3 T4 HR1 HM1 HG1 hml
        go_upto_block 2 with fail
        go_cut [4, 10, 11, 12, 13, 14, 15, 16] from 25 to 138 (fun v _ _ _ _ _ _ _ wx => LtCut w n v wx)
        case first =>
          have hk : k = 0 ∨ k = 1 ∨ k = 2 ∨ k = 3 := by omega
          clear k0 k1
          rcases hk with rfl | rfl | rfl | rfl
          · skip
            go_wp2_with fail
            with_reducible refine (next_x _ _ _ _ (by omega) (by omega) T5).mono ?_
            rintro e w6 ⟨z, z0, z1, rfl, T6, g6⟩
            have HX := Lib.hid (pt5_rt (a := (z == 0)) (b := false) p0 p1 v0 v1 f0 f1)
            have HEN := Lib.hid (entT_ok HOK.out HX.out)
            have HR7 := Lib.hid ((HR5.out.past g6 hB0).alloc (.cells #[.int .i64 p, .int .i64 q, .int .i64 (1 + f), .bool (z == 0), .bool false] 30))
            have HM7 := Lib.hid ((PMap.kept HM5.out g6 (fun e => by injection e with e; omega)).alloc (.cells #[.int .i64 p, .int .i64 q, .int .i64 (1 + f), .bool (z == 0), .bool false] 30))
            have HG7 := Lib.hid ((HG5.out.past g6 (Nat.le_refl _)).alloc (.cells #[.int .i64 p, .int .i64 q, .int .i64 (1 + f), .bool (z == 0), .bool false] 30))
            have HT7 := Lib.hid (T6.alloc (.cells #[.int .i64 p, .int .i64 q, .int .i64 (1 + f), .bool (z == 0), .bool false] 30))
            have HO7 := Lib.hid (Mine.Own.new w6 30 #[.int .i64 p, .int .i64 q, .int .i64 (1 + f), .bool (z == 0), .bool false])
            have hbl7 : w.heap.size + 2 ≤ (w6.alloc (.cells #[.int .i64 p, .int .i64 q, .int .i64 (1 + f), .bool (z == 0), .bool false] 30)).heap.size := HM7.out.lt
            obtain ⟨x0, x1, x2, x3, x4⟩ := HO7.out.fiveT
            clear g6 T5 T6 HR5 HM5 HG5 z0 z1 hml5 hbl5
            go_wp2_with fail
            with_reducible refine (enter_p (x := ⟨p, q, 1 + f, z == 0, false⟩) HR7.out hbl7 hl1).mono ?_
            rw [HEN.out]
            rintro e w8 ⟨v8, rfl, R8, g8⟩
            have HR8 := Lib.hid R8
            have HM8 := Lib.hid (HM7.out.grew g8)
            have HG8 := Lib.hid (HG7.out.trans g8)
            have HT8 := Lib.hid (HT7.out.grew g8)
            have HO8 := Lib.hid (HO7.out.grew g8)
            clear x0 x1 x2 x3 x4 HR7 HM7 HG7 HT7 HO7 hbl7 g8 R8
            obtain ⟨x0, x1, x2, x3, x4⟩ := HO8.out.fiveT
            have hnn : n < maxLen := by unfold maxLen; omega
            obtain ⟨w9, hst, M9, g9⟩ := PMap.store HM8.out pk Try.underlying47 (okT_iff2.1 HOK.out).2 hnn (wf_rt HX.out).1 (wf_rt HX.out).2
            have hr9 : ∀ x, some (w.heap.size + 1) = some x → w.heap.size + 1 ≤ x := fun x e => by injection e with e; omega
            have HS9 := Lib.hid (LtSt.mk (w := w) (L := insT L ⟨p, q, 1 + f, z == 0, false⟩) (n := n + 1) (RdS.keptG HR8.out g9 (fun k e => by injection e with e; omega)) M9 (Tp.keptA HT8.out g9 hr9 (Nat.le_refl _)) (Grew.keptA HG8.out g9 hr9 (by omega)) (okT_ins HOK.out HX.out) (Nat.le_trans insT_le (Nat.succ_le_succ HLE.out)))
            clear M9 g9 hr9 hnn HR8 HM8 HG8 HT8
            dsimp only [kV, ptV] at hst
            go_wp2_with fail
            go_meet
            exact ⟨_, HS9.out⟩
          · skip
            go_wp2_with fail
            with_reducible refine (next_x _ _ _ _ (by omega) (by omega) T5).mono ?_
            rintro e w6 ⟨z, z0, z1, rfl, T6, g6⟩
            have HX := Lib.hid (pt5_rt (a := (z == 0)) (b := false) p0 p1 v0 v1 f0 f1)
            have HEN := Lib.hid (entT_ok HOK.out HX.out)
            have HR7 := Lib.hid ((HR5.out.past g6 hB0).alloc (.cells #[.int .i64 p, .int .i64 q, .int .i64 (1 + f), .bool (z == 0), .bool false] 30))
            have HM7 := Lib.hid ((PMap.kept HM5.out g6 (fun e => by injection e with e; omega)).alloc (.cells #[.int .i64 p, .int .i64 q, .int .i64 (1 + f), .bool (z == 0), .bool false] 30))
            have HG7 := Lib.hid ((HG5.out.past g6 (Nat.le_refl _)).alloc (.cells #[.int .i64 p, .int .i64 q, .int .i64 (1 + f), .bool (z == 0), .bool false] 30))
            have HT7 := Lib.hid (T6.alloc (.cells #[.int .i64 p, .int .i64 q, .int .i64 (1 + f), .bool (z == 0), .bool false] 30))
            have HO7 := Lib.hid (Mine.Own.new w6 30 #[.int .i64 p, .int .i64 q, .int .i64 (1 + f), .bool (z == 0), .bool false])
            have hbl7 : w.heap.size + 2 ≤ (w6.alloc (.cells #[.int .i64 p, .int .i64 q, .int .i64 (1 + f), .bool (z == 0), .bool false] 30)).heap.size := HM7.out.lt
            obtain ⟨x0, x1, x2, x3, x4⟩ := HO7.out.fiveT
            clear g6 T5 T6 HR5 HM5 HG5 z0 z1 hml5 hbl5
            go_wp2_with fail
            with_reducible refine (enter_p (x := ⟨p, q, 1 + f, z == 0, false⟩) HR7.out hbl7 hl1).mono ?_
            rw [HEN.out]
            rintro e w8 ⟨v8, rfl, R8, g8⟩
            have HR8 := Lib.hid R8
            have HM8 := Lib.hid (HM7.out.grew g8)
            have HG8 := Lib.hid (HG7.out.trans g8)
            have HT8 := Lib.hid (HT7.out.grew g8)
            have HO8 := Lib.hid (HO7.out.grew g8)
            clear x0 x1 x2 x3 x4 HR7 HM7 HG7 HT7 HO7 hbl7 g8 R8
            obtain ⟨x0, x1, x2, x3, x4⟩ := HO8.out.fiveT
            have hnn : n < maxLen := by unfold maxLen; omega
            obtain ⟨w9, hst, M9, g9⟩ := PMap.store HM8.out pk Try.underlying47 (okT_iff2.1 HOK.out).2 hnn (wf_rt HX.out).1 (wf_rt HX.out).2
            have hr9 : ∀ x, some (w.heap.size + 1) = some x → w.heap.size + 1 ≤ x := fun x e => by injection e with e; omega
            have HS9 := Lib.hid (LtSt.mk (w := w) (L := insT L ⟨p, q, 1 + f, z == 0, false⟩) (n := n + 1) (RdS.keptG HR8.out g9 (fun k e => by injection e with e; omega)) M9 (Tp.keptA HT8.out g9 hr9 (Nat.le_refl _)) (Grew.keptA HG8.out g9 hr9 (by omega)) (okT_ins HOK.out HX.out) (Nat.le_trans insT_le (Nat.succ_le_succ HLE.out)))
            clear M9 g9 hr9 hnn HR8 HM8 HG8 HT8
            dsimp only [kV, ptV] at hst
            go_wp2_with fail
            go_meet
            exact ⟨_, HS9.out⟩
          · skip
            go_wp2_with fail
            with_reducible refine (next_x _ _ _ _ (by omega) (by omega) T5).mono ?_
            rintro e w6 ⟨c2, c0, c1, rfl, T6, g6⟩
            have HR6 := Lib.hid (HR5.out.past g6 hB0)
            have HM6 := Lib.hid (PMap.kept HM5.out g6 (fun e => by injection e with e; omega))
            have HG6 := Lib.hid (HG5.out.past g6 (Nat.le_refl _))
            have HZ := Lib.hid (zapT_ok (p := p) (v := q) HOK.out c0)
            have HP := Lib.hid (show wfI p from WalkArith.wf_i64 (by omega))
            clear g6 T5 HR5 HM5 HG5 hml5 hbl5
            go_wp2_with fail
            with_reducible refine (zap_p HR6.out hl1 (by omega)).mono ?_
            rintro e w7 ⟨v7, rfl, R7, g7⟩
            have hml6 : w.heap.size + 2 ≤ w6.heap.size := HM6.out.lt
            have HR7 := Lib.hid (R7.wider hml6)
            have HM7 := Lib.hid (HM6.out.grew g7)
            have HG7 := Lib.hid (HG6.out.trans g7)
            have HT7 := Lib.hid (T6.grew g7)
            have hwc : IntKind.i64.wrap (q + c2) = q + c2 := IntWalk.i64_in _ (by omega)
            clear R7 g7 T6 HR6 HM6 HG6 hml6
            go_wp2_with fail
            go_loopw [14] (fun iv wr => ZpI w n L p q c2 w7 iv wr) (fun iv _ => (q + c2 - intOf iv).toNat)
            case atStart => exact ⟨q, rfl, Int.le_refl _, by omega, by rw [Int.sub_self, zap_0]; exact HM7.out, grown_refl _ _⟩
            case round =>
              obtain ⟨i, rfl, i0, i1, M, G⟩ := hrel
              obtain ⟨wi, rfl⟩ : ∃ wi : World, wi = wr := ⟨_, rfl⟩
              by_cases hi : i < q + c2
              · obtain ⟨w8, hdl, M8, g8⟩ := PMap.del M pk Try.underlying47 ((okT_iff2.1 HOK.out).2.filter _) HP.out (show wfI i from WalkArith.wf_i64 (by omega))
                have HM8 := Lib.hid M8
                rw [zap_step i0] at HM8
                have HG8 := Lib.hid (grown_trans G g8)
                have hwi : IntKind.i64.wrap (i + 1) = i + 1 := IntWalk.i64_in _ (by omega)
                dsimp only [kV] at hdl
                clear M M8 g8 G
                go_wp2_with fail
                go_roundw
                case rel => exact ⟨i + 1, rfl, by omega, by omega, HM8.out, HG8.out⟩
                case measure => simp [intOf]; omega
              · obtain rfl : i = q + c2 := by omega
                have HM8 := Lib.hid M
                rw [show q + c2 - q = c2 by omega, ← HZ.out] at HM8
                have hr9 : ∀ x, some (w.heap.size + 1) = some x → w.heap.size + 1 ≤ x := fun x e => by injection e with e; omega
                have HS9 := Lib.hid (LtSt.mk (w := w) (n := n + 1) (RdS.keptG HR7.out G (fun k e => by injection e with e; omega)) (HM8.out.mono (Nat.le_succ n)) (Tp.keptA HT7.out G hr9 (Nat.le_refl _)) (Grew.keptA HG7.out G hr9 (by omega)) (by rw [HZ.out]; exact okT_filter HOK.out) (by rw [HZ.out]; exact Nat.le_trans (List.length_filter_le _ _) (Nat.le_trans HLE.out (Nat.le_succ n))))
                clear M G hr9 HM8
                go_wp2_with fail
                go_meet
                exact ⟨_, HS9.out⟩
          · skip
            have HZ := Lib.hid (drpT_ok (f := 1 + f) HOK.out)
            go_wp2_with fail
            with_reducible refine (drop_p HR5.out hl1).mono ?_
            rintro e w6 ⟨v6, rfl, R6, g6⟩
            have HR6 := Lib.hid (R6.wider hbl5)
            have HM6 := Lib.hid (HM5.out.grew g6)
            have HG6 := Lib.hid (HG5.out.trans g6)
            have HT6 := Lib.hid (T5.grew g6)
            obtain ⟨w7, hrg, I7⟩ := DlI.start HM6.out pk Try.underlying47 (okT_iff2.1 HOK.out).2 (wf_ok HOK.out) (1 + f)
            obtain ⟨r, hr⟩ : ∃ r, r = w6.heap.size := ⟨_, rfl⟩
            rw [← hr] at hrg I7
            have HI7 := Lib.hid I7
            have HRS := Lib.hid (Nat.le_of_eq hr.symm)
            clear I7 hr R6 g6 T5 HR5 HM5 HG5 hml5 hbl5
            go_wp2_with fail
            clear hrg
            go_loopw [] (fun wr => DlI Try.prog 48 w6 wr (w.heap.size + 1) r n L (1 + f)) (fun wr => wr.rangeLeft (w.heap.size + 1) r)
            case atStart => exact HI7.out
            case round =>
              obtain ⟨wj, rfl⟩ : ∃ wj : World, wj = wr := ⟨_, rfl⟩
              rcases DlI.next hrel pk HRS.out with ⟨hnx, M8, G8⟩ | ⟨p', v', x, w8, hp', hv', hnx, hen, hms, g8, hno, hyes⟩
              · have hr9 : ∀ x, some (w.heap.size + 1) = some x → w.heap.size + 1 ≤ x := fun x e => by injection e with e; omega
                have HM8 := Lib.hid M8
                rw [← HZ.out] at HM8
                have HS9 := Lib.hid (LtSt.mk (w := w) (n := n + 1) (RdS.keptG HR6.out G8 (fun k e => by injection e with e; omega)) (HM8.out.mono (Nat.le_succ n)) (Tp.keptA HT6.out G8 hr9 (Nat.le_refl _)) (Grew.keptA HG6.out G8 hr9 (by omega)) (by rw [HZ.out]; exact okT_filter HOK.out) (by rw [HZ.out]; exact Nat.le_trans (List.length_filter_le _ _) (Nat.le_trans HLE.out (Nat.le_succ n))))
                clear hrel M8 G8 hr9 HM8
                go_wp2_with fail
                go_meet
                exact ⟨_, HS9.out⟩
              · have HMS := Lib.hid hms
                have HNO := Lib.hid hno
                have HYES := Lib.hid hyes
                clear hms hno hyes hrel
                dsimp only [kV, ptV] at hnx hen
                by_cases hxf : x.f = 1 + f
                · have hb1 : (x.f == 1 + f) = true := by simpa using hxf
                  obtain ⟨HJ, hle⟩ := (HYES.out hxf).grew (((Grew.refl w8).alloc (.cells #[.int .i64 p', .int .i64 v'] 48)).alloc (.cells #[.int .i64 x.p, .int .i64 x.v, .int .i64 x.f, .bool x.w, .bool x.a] 30))
                  obtain ⟨w9, hdl, I9, hms9⟩ := HJ.drop pk Try.underlying47
                  have HI9 := Lib.hid I9
                  have HMS9 := Lib.hid (show w9.rangeLeft (w.heap.size + 1) r < wj.rangeLeft (w.heap.size + 1) r from Nat.lt_of_le_of_lt hms9 (by rw [hle]; exact HMS.out))
                  clear hxf HNO HYES HJ hle I9 hms9
                  dsimp only [kV] at hdl
                  go_wp2_with fail
                  go_roundw
                  case rel => exact HI9.out
                  case measure => exact HMS9.out
                · have hb1 : (x.f == 1 + f) = false := by simpa using hxf
                  obtain ⟨hi, hle⟩ := (HNO.out hxf).grew (((Grew.refl w8).alloc (.cells #[.int .i64 p', .int .i64 v'] 48)).alloc (.cells #[.int .i64 x.p, .int .i64 x.v, .int .i64 x.f, .bool x.w, .bool x.a] 30))
                  have HI := Lib.hid hi
                  have HM9 := Lib.hid (Nat.lt_of_le_of_lt (Nat.le_of_eq hle) HMS.out)
                  clear hxf HNO HYES hi hle
                  go_wp2_with fail
                  go_roundw
                  case rel => exact HI.out
                  case measure => exact HM9.out
        case rest =>
          obtain ⟨L', S⟩ := hcut
          clear HR5 HM5 HG5 hml5 hbl5 hl1 HOK HLE T5 k0 k1 hwf p0 p1 v0 v1 f0 f1
          have HR5 := Lib.hid S.row
          have HM5 := Lib.hid S.map
          have HG5 := Lib.hid S.grew
          have HT5 := Lib.hid S.tp
          have HOK := Lib.hid S.ok
          have HLE := Lib.hid S.len
          obtain ⟨a', c', rfl, -, -⟩ := S.row.slice
          have hl1 : L'.length ≤ 1000 := by have := HLE.out; omega
          have hln := PMap.len HM5.out Try.underlying47
          obtain ⟨N, hN⟩ : ∃ N, L'.length = N := ⟨_, rfl⟩
          have HN := Lib.hid hN
          rw [hN] at HR5 hln ⊢
          clear S hN
          go_wp2_with fail
          with_reducible refine (check_p HR5.out hl1 HOK.out).mono ?_
          rintro e w6 ⟨rfl, g6⟩
          have HR6 := Lib.hid (HR5.out.grew g6)
          have HM6 := Lib.hid (HM5.out.grew g6)
          have HG6 := Lib.hid (HG5.out.trans g6)
          have HT6 := Lib.hid (HT5.out.grew g6)
          obtain ⟨w7, left7, hrg, I7, -, g7, -⟩ := PMap.range HM6.out pk Try.underlying47
          obtain ⟨r, hr⟩ : ∃ r, r = w6.heap.size := ⟨_, rfl⟩
          rw [← hr] at hrg I7
          have HI7 := Lib.hid (show CkI w n L' r w6 w7 from ⟨_, I7, g7⟩)
          have HRS := Lib.hid (Nat.le_of_eq hr.symm)
          clear I7 hr g6 g7 HR5 HM5 HG5 HT5 hln
          go_wp2_with fail
          clear hrg
          go_loopw [] (fun wr => CkI w n L' r w6 wr) (fun wr => wr.rangeLeft (w.heap.size + 1) r)
          case atStart => exact HI7.out
          case round =>
            obtain ⟨wj, rfl⟩ : ∃ wj : World, wj = wr := ⟨_, rfl⟩
            obtain ⟨left, R, G⟩ := hrel
            rcases RgT.next R pk with ⟨-, hnx⟩ | ⟨p', v', x, w8, hp', hv', hx, -, hnx, R8, g8, hen, hms, -⟩
            · have HS9 := Lib.hid (LtSt.mk (w := w) (n := n + 1) (HR6.out.grew G) (HM6.out.grew G) (HT6.out.grew G) (HG6.out.trans G) HOK.out HLE.out)
              clear R G
              go_wp2_with fail
              go_roundw
              case rel => exact ⟨_, L', n + 1, rfl, by go_num, by omega, HS9.out⟩
              case measure => simp [intOf]; omega
            · have HMS := Lib.hid hms
              have HGX := Lib.hid (getT_s HOK.out hx)
              have HRR := Lib.hid R8
              have HGG := Lib.hid (G.past g8 HRS.out)
              clear hms hx R8 g8 R G
              dsimp only [kV, ptV] at hnx hen
              have g9 := ((Grew.refl w8).alloc (.cells #[.int .i64 p', .int .i64 v'] 48)).alloc (.cells #[.int .i64 x.p, .int .i64 x.v, .int .i64 x.f, .bool x.w, .bool x.a] 30)
              have HOX := Lib.hid (Mine.Own.new2 w8 (.cells #[.int .i64 p', .int .i64 v'] 48) 30 #[.int .i64 x.p, .int .i64 x.v, .int .i64 x.f, .bool x.w, .bool x.a])
              have HG9 := Lib.hid g9
              clear g9
              go_wp2_with fail
              with_reducible refine (get_p (HR6.out.grew (HGG.out.trans HG9.out)) hl1 HGX.out).mono ?_
              rintro e w10 ⟨rfl, g10⟩
              have HG10 := Lib.hid (((HG9.out.trans g10)).alloc (.cells #[.int .i64 x.p, .int .i64 x.v, .int .i64 x.f, .bool x.w, .bool x.a] 30))
              have HOX1 := Lib.hid ((HOX.out.grew g10).alloc (.cells #[.int .i64 x.p, .int .i64 x.v, .int .i64 x.f, .bool x.w, .bool x.a] 30))
              have HOY := Lib.hid (Mine.Own.new w10 30 #[.int .i64 x.p, .int .i64 x.v, .int .i64 x.f, .bool x.w, .bool x.a])
              obtain ⟨x0, x1, x2, x3, x4⟩ := HOX1.out.fiveT
              obtain ⟨y0, y1, y2, y3, y4⟩ := HOY.out.fiveT
              have hnq : ∀ w : World, (binOp .neq 30 (ptV x) (ptV x)).run Try.prog w = .ok (.bool false) w := fun w => (run_neqT w x x).trans (by simp)
              dsimp only [ptV] at hnq
              clear g10
              go_wp2_with fail
              go_roundw
              case rel => exact ⟨_, (HRR.out.kept HG10.out.grown (by simp) (by simp)).1, HGG.out.trans HG10.out⟩
              case measure => rw [(HRR.out.kept HG10.out.grown (by simp) (by simp)).2]; exact HMS.out
      · go_wp2_with fail
        with_reducible refine (awake_any _).mono ?_
        rintro e w2 ⟨rfl, g2⟩
        have HG2 := Lib.hid (HG1.out.trans g2)
        go_wp2
        go_ret
        exact ⟨rfl, HG2.out⟩
    · obtain rfl : n = 30 := by omega
      rw [show ((30 : Nat) : Int) = 30 from rfl]
      have HG1 := Lib.hid S.grew
      clear S
      go_wp2_with fail
      with_reducible refine (awake_any _).mono ?_
      rintro e w2 ⟨rfl, g2⟩
      have HG2 := Lib.hid (HG1.out.trans g2)
      go_wp2
      go_ret
      exact ⟨rfl, HG2.out⟩

theorem Try.own : ownKnob Try.prog.godebug = none := by kernel_rfl
theorem Try.laidOut : laidOutB Try.prog = true := by kernel_rfl

theorem pagetableLast_contract (W : World) (base : Nat) (args : Array Value) (H : Type) (enc : TypeId × Value → H) (ds : List (DataW H)) (p : List MemPlace)
    (hval : ∀ (j : Nat) t v, Try.f5.params[j]? = some t → args[j]? = some v → Value.okWide Try.prog W .any base t v)
    (hA : DataW.TrodAll enc Try.prog W 0 (fun _ => true) true Try.f5.params.toList args.toList ds p) :
    (∃ d0, ds = [d0]) ∧ Calls Try.prog 5 args W fun e W' => e = .returned (.bool true) ∧ Below W.heap.size W W' := by
  rw [Try.params5] at hval hA
  obtain ⟨v0, d0, p0, ha, hd, hp, h0⟩ := args_1 hA
  subst ha hd
  obtain ⟨A0, c0, xs0, rfl, hr0, hm0⟩ := open_introw Try.underlying22 Try.underlying3 (by kernel_rfl) (hval 0 _ _ rfl rfl) h0
  exact ⟨⟨_, rfl⟩, (last_core A0 c0 xs0 W hr0 hm0).mono fun _ _ h => h⟩

set_option maxRecDepth 100000 in
theorem pagetableLast_lifted (os : Os) (started : os.Started) (H : Type) (enc : TypeId × Value → H) :
    ReturnsInHanded {} Try.checked os 5 .any (Rows.pagetableLastSpec.pre6 enc Try.prog Try.f5 Rows.pagetableLastRow.domain false) (Rows.pagetableLastSpec.post enc Try.prog Try.f5 false true false false) := by
  refine returnsInHanded_of_change (C := Try.checked) Try.own started (by kernel_rfl) Try.func5
    (ChangeSpec.witness6 (enc := enc) (C := Try.checked) false ⟨#[], #[.slice none 0 0], []⟩ 8 (by kernel_rfl) (by kernel_rfl) (by kernel_rfl) (by kernel_rfl)) ?_
  intro W base args ds gs before hval hW _ _
  obtain ⟨p, q, hA, hV, hrest⟩ := id hW
  obtain ⟨⟨d0, rfl⟩, hc⟩ := pagetableLast_contract W base args H enc ds p hval hA
  obtain ⟨rfl, -⟩ := trodVars_none hV
  refine hc.mono fun e W' ⟨he, hb⟩ => ⟨_, he, ?_⟩
  exact law_close (tb := 4) Try.laidOut (by rw [Try.params5]; decide +kernel) Try.underlying4 rfl rfl hW rfl rfl rfl hb

theorem pagetableLast_holds : Rows.PagetableLastSaid :=
  OpenClaim.holds_of_wide 5 Try.f5 rfl rfl rfl rfl rfl rfl rfl ⟨rfl, rfl, rfl, rfl, rfl⟩ rfl rfl rfl rfl rfl (by kernel_rfl) Try.func5 (by kernel_rfl)
    (of_decide_eq_true (by kernel_rfl)) (by unfold Func.isWrapper; first | (rw [if_pos (by decide +kernel)]; kernel_rfl) | (rw [if_neg (by decide +kernel)]; exact ⟨rfl, rfl⟩))
    (fun os started H enc _ => pagetableLast_lifted os started H enc)
end Go.Proofs.Ytjkkhfionmdmpaa

/- AreaPages holds: Map and Unmap change what the pages of their ranges show, and no other page; nothing else is mapped over; Room finds a place where Map succeeds. -/
import Derived.Test.YtnlhdbengppnpaaAs1
namespace Go.Mine
open Go Go.RowKit
/-- The list stays whatever becomes of block b. -/
def LP (b : Nat) (w : World) (v : Value) (L : List Ar) : Prop := ∀ w', w.grownBy w' (some b) → RdS 5 enc5 w' 0 v L
section
variable {b : Nat} {w w' : World} {v : Value} {L : List Ar}
theorem LP.rd (h : LP b w v L) : RdS 5 enc5 w 0 v L := h w (grown_refl _ _)
theorem LP.past (h : LP b w v L) (g : w.grownBy w' (some b)) : LP b w' v L := fun _ k => h _ (grown_trans g k)
theorem LP.grew (h : LP b w v L) (g : Grew w w') : LP b w' v L := h.past (g.grownS b)
theorem LP.of_low (h : RdS 5 enc5 w 0 v L) (hb : w.heap.size ≤ b) : LP b w v L := fun _ g => h.grew ((Grew.refl w).past g hb)
theorem LP.of_high (h : RdS 5 enc5 w (b + 1) v L) : LP b w v L := fun _ g => (h.past g (Nat.lt_succ_self _)).wider (Nat.zero_le _)
end
theorem sw_none {L : List Ar} {x : Int} (h : fndR L x = none) : swX L x = (0, 0 + x - 0, false, false) := by unfold swX; rw [fdX_n h]
theorem sw_some {L : List Ar} {x : Int} {a : Ar} (h : fndR L x = some a) : swX L x = (a.f, a.p + x - a.s, a.w, true) := by unfold swX; rw [fdX_s h]
theorem sw_of {L M : List Ar} {x : Int} (h : (fndR L x).map (shwA x) = (fndR M x).map (shwA x)) : swX L x = swX M x := by
  cases h1 : fndR L x with
  | none =>
    cases h2 : fndR M x with
    | none => rw [sw_none h1, sw_none h2]
    | some d => rw [h1, h2] at h; cases h
  | some c =>
    cases h2 : fndR M x with
    | none => rw [h1, h2] at h; cases h
    | some d =>
      rw [h1, h2] at h
      rw [sw_some h1, sw_some h2]
      have h3 : shwA x c = shwA x d := by simpa using h
      unfold shwA at h3
      injection h3 with h4 h5
      injection h5 with h5 h6
      rw [h4, h5, h6]
/-- What has become of the pages. -/
theorem pg_in {L : List Ar} {a : Ar} (h : eM L a = 0) {x : Int} (h1 : a.s ≤ x) (h2 : x < a.s + a.n) : swX (insR L a) x = (a.f, a.p + x - a.s, a.w, true) ∧ swX L x = (0, 0 + x - 0, false, false) := by
  obtain ⟨k1, k2⟩ := (fndR_ins h x).1 (hitR_iff.2 ⟨h1, h2⟩)
  exact ⟨sw_some k1, sw_none k2⟩
theorem pg_out {L : List Ar} {a : Ar} (h : eM L a = 0) {x : Int} (h1 : ¬(a.s ≤ x ∧ x < a.s + a.n)) : swX (insR L a) x = swX L x := by
  have k := (fndR_ins h x).2 (decide_eq_false h1)
  exact sw_of (by rw [k])
end Go.Mine
namespace Go.Proofs.Ytnlhdbengppnpaa
open Go.ChangeShapes Go.WideShapes Go.ChangeAt Go.RowKit Go.Mine

set_option maxRecDepth 100000 in
set_option maxHeartbeats 16000000 in
theorem pages_core (A : Option Addr) (c : Nat) (xs : List Int) (A2 : Option Addr) (c2 : Nat) (xs2 : List Int) (w : World) (hr : IntRow w A xs) (hm : xs.length ≤ maxLen) (hr2 : IntRow w A2 xs2) (hm2 : xs2.length ≤ maxLen) :
    Calls Try.prog 4 #[.slice A xs.length c, .slice A2 xs2.length c2] w (RetG (.bool true) w) := by
  have tp := Tp.made hr hm c 25
  have gA := (Grew.refl w).alloc (.cells #[.slice A xs.length c, .int .i64 0] 25)
  have hbw : w.heap.size + 1 ≤ (w.alloc (.cells #[.slice A xs.length c, .int .i64 0] 25)).heap.size := by simp
  have HR2 := Lib.hid hr2
  have HM2 := Lib.hid hm2
  clear hr hm hr2 hm2
  generalize hX : xs.length = X at *
  clear hX
  obtain ⟨X2, hX2⟩ : ∃ X2, xs2.length = X2 := ⟨_, rfl⟩
  have HX2 := Lib.hid hX2
  rw [hX2]
  clear hX2
  go_enter Try.func4, Try.ntmps4
  go_wp2_with fail
  with_reducible refine (areas_x _ _ _ tp hbw).mono ?_
  rintro e w1 ⟨v, L, rfl, hok, R1, T1, g1⟩
  have G1 := gA.past g1 (Nat.le_refl _)
  have HOK0 := Lib.hid hok
  have tp2 := Tp.made (HR2.out.grew G1) HM2.out c2 25
  rw [HX2.out] at tp2
  have hsz := G1.size
  have HLP := Lib.hid ((LP.of_low (b := w1.heap.size) (R1.wider (Nat.zero_le _)) (Nat.le_refl _)).grew ((Grew.refl w1).alloc (.cells #[.slice A2 X2 c2, .int .i64 0] 25)))
  have HG1 := Lib.hid (G1.alloc (.cells #[.slice A2 X2 c2, .int .i64 0] 25))
  obtain ⟨b2, hb2⟩ : ∃ b2, w1.heap.size = b2 := ⟨_, rfl⟩
  rw [hb2] at tp2 HLP hsz
  clear gA tp g1 R1 T1 hbw hok HR2 HM2 HX2 G1
  go_wp2_with fail
  try rw [hb2]
  go_loopw [5, 7] (fun xv kv wr => ∃ (K : Nat) (L : List Ar) (r : Value), r = xv ∧ kv = .int .i64 K ∧ K ≤ 5 ∧ Hid (okR L = true) ∧ Hid (LP b2 wr r L) ∧ Tp (b2 + 1) wr b2 ∧ Grew w wr) (fun _ kv _ => 5 - (intOf kv).toNat)
  case atStart => exact ⟨0, L, v, rfl, rfl, by omega, HOK0, HLP, tp2, HG1.out⟩
  case round =>
    clear HLP tp2 HG1 HOK0
    obtain ⟨K, L, v, rfl, rfl, hK, HOK, HL, T, G⟩ := hrel
    obtain ⟨wo, rfl⟩ : ∃ wo : World, wo = wr := ⟨_, rfl⟩
    have HG := Lib.hid G
    have hbo := T.lt
    have h8 := (okR_iff.1 HOK.out).1
    have HS := Lib.hid (okR_sm HOK.out)
    clear G
    obtain ⟨a0, c0, rfl, -, -⟩ := HL.out.rd.slice
    obtain ⟨N, hN⟩ : ∃ N, L.length = N := ⟨_, rfl⟩
    have HN := Lib.hid hN
    rw [hN] at HL h8 ⊢
    clear hN
    by_cases hlt : K < 5
    · have hKl : (K : Int) < 5 := by omega
      go_wp2_with fail
      with_reducible refine (next_x _ _ _ _ (by omega) (by omega) T).mono ?_
      rintro e w2 ⟨q2, a2, b2', rfl, T2, g2⟩
      have HL2 := Lib.hid (HL.out.past g2)
      have HG2 := Lib.hid (HG.out.past g2 hsz)
      have hs2 := Nat.lt_of_lt_of_le hbo g2.size
      clear g2 T HL HG hbo
      by_cases hq : q2 = 0
      · subst hq
        as_aux_lemma =>
          go_wp2_with fail
          with_reducible refine (next_x _ _ _ _ (by omega) (by omega) T2).mono ?_
          rintro e w3 ⟨q3, a3, b3, rfl, T3, g3⟩
          have HL3 := Lib.hid (HL2.out.past g3)
          have HG3 := Lib.hid (HG2.out.past g3 hsz)
          have hs3 := Nat.lt_of_lt_of_le hs2 g3.size
          obtain ⟨n, hn⟩ : ∃ n, 1 + q3 = n := ⟨_, rfl⟩
          have hwn : IntKind.i64.wrap (1 + q3) = n := by rw [IntWalk.i64_in _ (by omega), hn]
          have hn0 : 1 ≤ n := by omega
          have hn1 : n ≤ 6 := by omega
          obtain ⟨⟨p, ok⟩, hp⟩ : ∃ x, rmR L n = x := ⟨_, rfl⟩
          have HP := Lib.hid hp
          clear g3 T2 HL2 HG2 hs2 hn hp a2 b2'
          cases ok
          · go_wp2_with fail
            with_reducible refine (room_p HL3.out.rd HS.out HP.out).mono ?_
            rintro e w4 ⟨rfl, g4⟩
            have HL4 := Lib.hid (HL3.out.grew g4)
            have HG4 := Lib.hid (HG3.out.trans g4)
            have T4 := T3.grew g4
            clear g4 T3
            go_wp2_with fail
            go_roundw
            case rel => exact ⟨K + 1, L, _, rfl, by go_num, by omega, HOK, HL4, T4, HG4.out⟩
            case measure => simp [intOf]; omega
          · obtain ⟨r1, r2, r3, r4⟩ := rmR_room HOK.out HP.out
            have HOV := Lib.hid r4
            go_wp2_with fail
            with_reducible refine (room_p HL3.out.rd HS.out HP.out).mono ?_
            rintro e w4 ⟨rfl, g4⟩
            have HL4 := Lib.hid (HL3.out.grew g4)
            have HG4 := Lib.hid (HG3.out.trans g4)
            have T4 := T3.grew g4
            have hs4 := Nat.lt_of_lt_of_le hs3 g4.size
            have hw8 : IntKind.i64.wrap (8 - n) = 8 - n := IntWalk.i64_in _ (by omega)
            have hw9 : IntKind.i64.wrap (8 - n + 1) = 8 - n + 1 := IntWalk.i64_in _ (by omega)
            have hn9 : (1 : Int) ≤ 8 - n + 1 := by omega
            have hn10 : 8 - n + 1 ≤ 1000000 := by omega
            clear g4 T3 HL3 HG3 hs3 r4
            go_wp2_with fail
            with_reducible refine (next_x _ _ _ _ (by omega) (by omega) T4).mono ?_
            rintro e w5 ⟨q5, a5, b5, rfl, T5, g5⟩
            go_wp2_with fail
            with_reducible refine (next_x _ _ _ _ hn9 hn10 T5).mono ?_
            rintro e w6 ⟨q6, a6, b6, rfl, T6, g6⟩
            go_wp2_with fail
            with_reducible refine (next_x _ _ _ _ (by omega) (by omega) T6).mono ?_
            rintro e w7 ⟨q7, a7, b7, rfl, T7, g7⟩
            have g57 := grown_trans (grown_trans g5 g6) g7
            have HL7 := Lib.hid ((HL4.out.past g57).grew ((Grew.refl w7).alloc (.cells #[.int .i64 p, .int .i64 n, .int .i64 q5, .int .i64 q6, .bool (q7 == 0)] 30)))
            have HG7 := Lib.hid ((HG4.out.past g57 hsz).alloc (.cells #[.int .i64 p, .int .i64 n, .int .i64 q5, .int .i64 q6, .bool (q7 == 0)] 30))
            have HB7 := Lib.hid (Own.new w7 30 #[.int .i64 p, .int .i64 n, .int .i64 q5, .int .i64 q6, .bool (q7 == 0)])
            have T8 := T7.alloc (.cells #[.int .i64 p, .int .i64 n, .int .i64 q5, .int .i64 q6, .bool (q7 == 0)] 30)
            have hs8 := T8.lt
            have hs7 : b2 < w7.heap.size := T7.lt
            have hra : rtA ⟨p, n, q5, q6, q7 == 0⟩ = true := rtA_iff.2 ⟨⟨r2, hn0, r3⟩, by simp only; omega, a6, by simp only; omega⟩
            have hov : ovR L ⟨p, n, q5, q6, q7 == 0⟩ = false := HOV.out _ rfl rfl
            have hnx : n ≤ 9223372036854775807 := by omega
            clear g5 g6 g7 g57 T4 T5 T6 T7 HL4 HG4 hs4 hw8 hw9 hn9 hn10 HOV
            by_cases hN8 : N = 8
            · have HM := Lib.hid (mapR_e (eM_3 HOK.out hra hov (by rw [HN.out]; exact hN8)) (by decide))
              subst hN8
              clear hra hov
              go_wp2_with fail
              with_reducible refine (map_p (a := ⟨p, n, q5, q6, q7 == 0⟩) HL7.out.rd (B := b2 + 1) (Nat.succ_le_of_lt hs8) HS.out hnx).mono ?_
              rw [HM.out]
              rintro e9 w9 ⟨vy, rfl, R9, g9⟩
              have HL9 := Lib.hid (LP.of_high R9)
              have HG9 := Lib.hid (HG7.out.trans g9)
              have T9 := T8.grew g9
              clear R9 g9 T8
              go_wp2_with fail
              go_loopw [14] (fun iv wr => iv = .int .i64 0 ∧ wr = w9) (fun iv _ => 0)
              case atStart => exact ⟨rfl, rfl⟩
              case round =>
                as_aux_lemma =>
                  obtain ⟨rfl, rfl⟩ := hrel
                  go_wp2_with fail
                  go_roundw
                  case rel => exact ⟨K + 1, L, _, rfl, by go_num, by omega, HOK, HL9, T9, HG9.out⟩
                  case measure => simp [intOf]; omega
            · have hem : eM L ⟨p, n, q5, q6, q7 == 0⟩ = 0 := eM_0 HOK.out hra hov (by rw [HN.out]; exact hN8)
              have HEM := Lib.hid hem
              have HM := Lib.hid (mapR_0 hem)
              have HOK2 := Lib.hid (ins_ok hem)
              have hN8l : (N : Int) < 8 := by omega
              clear hra hov hem
              go_wp2_with fail
              with_reducible refine (map_p (a := ⟨p, n, q5, q6, q7 == 0⟩) HL7.out.rd (B := b2 + 1) (Nat.succ_le_of_lt hs8) HS.out hnx).mono ?_
              rw [HM.out]
              rintro e9 w9 ⟨vy, rfl, R9, g9⟩
              have HY9 := Lib.hid R9
              have HX9 := Lib.hid (HL7.out.rd.grew g9)
              have HB9 := Lib.hid (HB7.out.grew g9)
              have HG9 := Lib.hid (HG7.out.trans g9)
              have T9 := T8.grew g9
              have HS2 := Lib.hid (okR_sm HOK2.out)
              have hbx : w7.heap.size < w9.heap.size := HB9.out.lt
              clear R9 g9 T8 HL7 HB7 HG7
              go_wp2_with fail
              go_loopw [14] (fun iv wr => ∃ i : Nat, iv = .int .i64 i ∧ i ≤ 64 ∧ Grew w9 wr) (fun iv _ => 64 - (intOf iv).toNat)
              case atStart => exact ⟨0, rfl, by omega, Grew.refl _⟩
              case round =>
                as_aux_lemma =>
                  obtain ⟨i, rfl, hi, G⟩ := hrel
                  obtain ⟨wi, rfl⟩ : ∃ wi : World, wi = wr := ⟨_, rfl⟩
                  have HGI := Lib.hid G
                  have HYI := Lib.hid (HY9.out.grew G)
                  have HXI := Lib.hid (HX9.out.grew G)
                  clear G
                  by_cases hi64 : i < 64
                  · have hil : (i : Int) < 64 := by omega
                    have hi0 : (0 : Int) ≤ (i : Int) := by omega
                    have hi1 : (i : Int) ≤ 64 := by omega
                    have hwp : IntKind.i64.wrap (p + n) = p + n := IntWalk.i64_in _ (by omega)
                    by_cases hin : p ≤ (i : Int) ∧ (i : Int) < p + n
                    · obtain ⟨hin1, hin2⟩ := hin
                      obtain ⟨k1, k2⟩ := pg_in HEM.out hin1 hin2
                      have H1 := Lib.hid k1
                      have H2 := Lib.hid k2
                      have hq1 : IntKind.i64.wrap (q6 + (i : Int)) = q6 + (i : Int) := IntWalk.i64_in _ (by omega)
                      have hq2 : IntKind.i64.wrap (q6 + (i : Int) - p) = q6 + (i : Int) - p := IntWalk.i64_in _ (by omega)
                      clear k1 k2
                      go_wp2_with fail
                      with_reducible refine (shows_p HYI.out HS2.out hi0 hi1 H1.out).mono ?_
                      rintro e w10 ⟨rfl, g10⟩
                      have HG10 := Lib.hid (HGI.out.trans g10)
                      have HX10 := Lib.hid (HXI.out.grew g10)
                      clear g10
                      go_wp2_with fail
                      with_reducible refine (shows_p HX10.out HS.out hi0 hi1 H2.out).mono ?_
                      rintro e w11 ⟨rfl, g11⟩
                      have HG11 := Lib.hid (HG10.out.trans g11)
                      obtain ⟨x0, x1, x2, x3, x4⟩ := (HB9.out.grew HG11.out).five
                      have hbx2 := Nat.lt_of_lt_of_le hbx HG11.out.size
                      clear g11
                      go_wp2_with fail
                      go_roundw
                      case rel => exact ⟨i + 1, by go_num, by omega, HG11.out⟩
                      case measure => simp [intOf]; omega
                    · have k1 := pg_out HEM.out hin
                      obtain ⟨⟨f, q, wb, hs⟩, hy⟩ : ∃ y, swX L (i : Int) = y := ⟨_, rfl⟩
                      have H1 := Lib.hid (k1.trans hy)
                      have H2 := Lib.hid hy
                      have ht : (decide (p ≤ (i : Int)) = false) ∨ (decide (p ≤ (i : Int)) = true ∧ decide ((i : Int) < p + n) = false) := by
                        by_cases h1 : p ≤ (i : Int)
                        · exact .inr ⟨decide_eq_true h1, decide_eq_false fun h2 => hin ⟨h1, h2⟩⟩
                        · exact .inl (decide_eq_false h1)
                      clear k1 hy hin
                      go_wp2_with fail
                      with_reducible refine (shows_p HYI.out HS2.out hi0 hi1 H1.out).mono ?_
                      rintro e w10 ⟨rfl, g10⟩
                      have HG10 := Lib.hid (HGI.out.trans g10)
                      have HX10 := Lib.hid (HXI.out.grew g10)
                      clear g10
                      go_wp2_with fail
                      with_reducible refine (shows_p HX10.out HS.out hi0 hi1 H2.out).mono ?_
                      rintro e w11 ⟨rfl, g11⟩
                      have HG11 := Lib.hid (HG10.out.trans g11)
                      clear g11
                      rcases ht with ht | ⟨ht, ht2⟩ <;> cases hs
                      all_goals
                        go_wp2_with fail
                        go_roundw
                        case rel => exact ⟨i + 1, by go_num, by omega, HG11.out⟩
                        case measure => simp [intOf]; omega
                  · obtain rfl : i = 64 := by omega
                    rw [show ((64 : Nat) : Int) = 64 from rfl]
                    have HL12 := Lib.hid (LP.of_high HYI.out)
                    have HG12 := Lib.hid (HG9.out.trans HGI.out)
                    have T12 := T9.grew HGI.out
                    go_wp2_with fail
                    go_roundw
                    case rel => exact ⟨K + 1, _, _, rfl, by go_num, by omega, HOK2, HL12, T12, HG12.out⟩
                    case measure => simp [intOf]; omega
      · as_aux_lemma =>
          have hq0 : (q2 == 0) = false := by simpa using hq
          go_wp2_with fail
          with_reducible refine (next_x _ _ _ _ (by omega) (by omega) T2).mono ?_
          rintro e w3 ⟨s, a3, b3, rfl, T3, g3⟩
          go_wp2_with fail
          with_reducible refine (next_x _ _ _ _ (by omega) (by omega) T3).mono ?_
          rintro e w4 ⟨q4, a4, b4, rfl, T4, g4⟩
          have g34 := grown_trans g3 g4
          have HL4 := Lib.hid (HL2.out.past g34)
          have HG4 := Lib.hid (HG2.out.past g34 hsz)
          have hs4 := T4.lt
          obtain ⟨n, hn⟩ : ∃ n, 1 + q4 = n := ⟨_, rfl⟩
          have hwn : IntKind.i64.wrap (1 + q4) = n := by rw [IntWalk.i64_in _ (by omega), hn]
          have hn0 : 1 ≤ n := by omega
          have hn1 : n ≤ 8 := by omega
          have hnx : n ≤ 9223372036854775807 := by omega
          have he : eU L s n = 0 := eU_0 HOK.out (inB_iff.2 ⟨a3, hn0, by omega⟩)
          have hws : IntKind.i64.wrap (s + n) = s + n := IntWalk.i64_in _ (by omega)
          clear g3 g4 g34 T2 T3 HL2 HG2 hs2 hn a2 b2' hq
          by_cases h88 : 8 < (woR L s (s + n)).length
          · have HU := Lib.hid (unmR_3 he h88)
            clear he h88
            go_wp2_with fail
            with_reducible refine (unmap_p HL4.out.rd (B := b2 + 1) (Nat.succ_le_of_lt hs4) HS.out hnx).mono ?_
            rw [HU.out]
            rintro e9 w9 ⟨vy, rfl, R9, g9⟩
            have HL9 := Lib.hid (HL4.out.grew g9)
            have HG9 := Lib.hid (HG4.out.trans g9)
            have T9 := T4.grew g9
            clear R9 g9 T4
            go_wp2_with fail
            go_roundw
            case rel => exact ⟨K + 1, L, _, rfl, by go_num, by omega, HOK, HL9, T9, HG9.out⟩
            case measure => simp [intOf]; omega
          · have hu := unmR_0 he h88
            have HU := Lib.hid hu
            have HU2 : Hid ((unmR L s n).2 = 0) := Lib.hid (by rw [hu])
            have HOK2 : Hid (okR (woR L s (s + n)) = true) := Lib.hid (by have := unmR_ok (s := s) (n := n) HOK.out; rw [hu] at this; exact this)
            have HIN : Hid (∀ x : Int, s ≤ x → x < s + n → swX (woR L s (s + n)) x = (0, 0 + x - 0, false, false)) := Lib.hid (fun x h1 h2 => by
              have k := (fndR_unm HU2.out x).1 ⟨h1, h2⟩
              rw [hu] at k
              exact sw_none k)
            have HOUT : Hid (∀ x : Int, ¬(s ≤ x ∧ x < s + n) → swX (woR L s (s + n)) x = swX L x) := Lib.hid (fun x h1 => by
              have k := (fndR_unm HU2.out x).2 h1
              rw [hu] at k
              exact sw_of k)
            have HS2 := Lib.hid (okR_sm HOK2.out)
            clear he h88 hu
            go_wp2_with fail
            with_reducible refine (unmap_p HL4.out.rd (B := b2 + 1) (Nat.succ_le_of_lt hs4) HS.out hnx).mono ?_
            rw [HU.out]
            rintro e9 w9 ⟨vy, rfl, R9, g9⟩
            have HY9 := Lib.hid R9
            have HX9 := Lib.hid (HL4.out.rd.grew g9)
            have HG9 := Lib.hid (HG4.out.trans g9)
            have T9 := T4.grew g9
            clear R9 g9 T4 HL4 HG4
            generalize woR L s (s + n) = M at *
            go_wp2_with fail
            go_loopw [27] (fun iv wr => ∃ i : Nat, iv = .int .i64 i ∧ i ≤ 64 ∧ Grew w9 wr) (fun iv _ => 64 - (intOf iv).toNat)
            case atStart => exact ⟨0, rfl, by omega, Grew.refl _⟩
            case round =>
              as_aux_lemma =>
                obtain ⟨i, rfl, hi, G⟩ := hrel
                obtain ⟨wi, rfl⟩ : ∃ wi : World, wi = wr := ⟨_, rfl⟩
                have HGI := Lib.hid G
                have HYI := Lib.hid (HY9.out.grew G)
                have HXI := Lib.hid (HX9.out.grew G)
                clear G
                by_cases hi64 : i < 64
                · have hil : (i : Int) < 64 := by omega
                  have hi0 : (0 : Int) ≤ (i : Int) := by omega
                  have hi1 : (i : Int) ≤ 64 := by omega
                  by_cases hin : s ≤ (i : Int) ∧ (i : Int) < s + n
                  · obtain ⟨hin1, hin2⟩ := hin
                    have H1 := Lib.hid (HIN.out _ hin1 hin2)
                    obtain ⟨⟨f, q, wb, hs⟩, hy⟩ : ∃ y, swX L (i : Int) = y := ⟨_, rfl⟩
                    have H2 := Lib.hid hy
                    clear hy
                    go_wp2_with fail
                    with_reducible refine (shows_p HYI.out HS2.out hi0 hi1 H1.out).mono ?_
                    rintro e w10 ⟨rfl, g10⟩
                    have HG10 := Lib.hid (HGI.out.trans g10)
                    have HX10 := Lib.hid (HXI.out.grew g10)
                    clear g10
                    go_wp2_with fail
                    with_reducible refine (shows_p HX10.out HS.out hi0 hi1 H2.out).mono ?_
                    rintro e w11 ⟨rfl, g11⟩
                    have HG11 := Lib.hid (HG10.out.trans g11)
                    clear g11
                    go_wp2_with fail
                    go_roundw
                    case rel => exact ⟨i + 1, by go_num, by omega, HG11.out⟩
                    case measure => simp [intOf]; omega
                  · have k1 := HOUT.out _ hin
                    obtain ⟨⟨f, q, wb, hs⟩, hy⟩ : ∃ y, swX L (i : Int) = y := ⟨_, rfl⟩
                    have H1 := Lib.hid (k1.trans hy)
                    have H2 := Lib.hid hy
                    have ht : (decide (s ≤ (i : Int)) = false) ∨ (decide (s ≤ (i : Int)) = true ∧ decide ((i : Int) < s + n) = false) := by
                      by_cases h1 : s ≤ (i : Int)
                      · exact .inr ⟨decide_eq_true h1, decide_eq_false fun h2 => hin ⟨h1, h2⟩⟩
                      · exact .inl (decide_eq_false h1)
                    clear k1 hy hin
                    go_wp2_with fail
                    with_reducible refine (shows_p HYI.out HS2.out hi0 hi1 H1.out).mono ?_
                    rintro e w10 ⟨rfl, g10⟩
                    have HG10 := Lib.hid (HGI.out.trans g10)
                    have HX10 := Lib.hid (HXI.out.grew g10)
                    clear g10
                    go_wp2_with fail
                    with_reducible refine (shows_p HX10.out HS.out hi0 hi1 H2.out).mono ?_
                    rintro e w11 ⟨rfl, g11⟩
                    have HG11 := Lib.hid (HG10.out.trans g11)
                    clear g11
                    rcases ht with ht | ⟨ht, ht2⟩ <;> cases hs
                    all_goals
                      go_wp2_with fail
                      go_roundw
                      case rel => exact ⟨i + 1, by go_num, by omega, HG11.out⟩
                      case measure => simp [intOf]; omega
                · obtain rfl : i = 64 := by omega
                  rw [show ((64 : Nat) : Int) = 64 from rfl]
                  have HL12 := Lib.hid (LP.of_high HYI.out)
                  have HG12 := Lib.hid (HG9.out.trans HGI.out)
                  have T12 := T9.grew HGI.out
                  go_wp2_with fail
                  go_roundw
                  case rel => exact ⟨K + 1, _, _, rfl, by go_num, by omega, HOK2, HL12, T12, HG12.out⟩
                  case measure => simp [intOf]; omega
    · obtain rfl : K = 5 := by omega
      rw [show ((5 : Nat) : Int) = 5 from rfl]
      go_wp2_with fail
      with_reducible refine (check_p HL.out.rd HS.out HOK.out).mono ?_
      rintro e w2 ⟨rfl, g2⟩
      have HG2 := Lib.hid (HG.out.trans g2)
      go_wp2_with fail
      with_reducible refine (awake_any _).mono ?_
      rintro e w3 ⟨rfl, g3⟩
      have HG3 := Lib.hid (HG2.out.trans g3)
      go_wp2
      go_ret
      exact ⟨rfl, HG3.out⟩

theorem Try.own : ownKnob Try.prog.godebug = none := by kernel_rfl
theorem Try.laidOut : laidOutB Try.prog = true := by kernel_rfl

theorem areaPages_contract (W : World) (base : Nat) (args : Array Value) (H : Type) (enc : TypeId × Value → H) (ds : List (DataW H)) (p : List MemPlace)
    (hval : ∀ (j : Nat) t v, Try.f4.params[j]? = some t → args[j]? = some v → Value.okWide Try.prog W .any base t v)
    (hA : DataW.TrodAll enc Try.prog W 0 (fun _ => true) true Try.f4.params.toList args.toList ds p) :
    (∃ d0 d1, ds = [d0, d1]) ∧ Calls Try.prog 4 args W fun e W' => e = .returned (.bool true) ∧ Below W.heap.size W W' := by
  rw [Try.params4] at hval hA
  obtain ⟨v0, v1, d0, d1, p0, p1, ha, hd, hp, h0, h1⟩ := args_2 hA
  subst ha hd
  obtain ⟨A0, c0, xs0, rfl, hr0, hm0⟩ := open_introw Try.underlying22 Try.underlying3 (by kernel_rfl) (hval 0 _ _ rfl rfl) h0
  obtain ⟨A1, c1, xs1, rfl, hr1, hm1⟩ := open_introw Try.underlying22 Try.underlying3 (by kernel_rfl) (hval 1 _ _ rfl rfl) h1
  exact ⟨⟨_, _, rfl⟩, (pages_core A0 c0 xs0 A1 c1 xs1 W hr0 hm0 hr1 hm1).mono fun _ _ h => h⟩

set_option maxRecDepth 100000 in
theorem areaPages_lifted (os : Os) (started : os.Started) (H : Type) (enc : TypeId × Value → H) :
    ReturnsInHanded {} Try.checked os 4 .any (Rows.areaPagesSpec.pre6 enc Try.prog Try.f4 Rows.areaPagesRow.domain false) (Rows.areaPagesSpec.post enc Try.prog Try.f4 false true false false) := by
  refine returnsInHanded_of_change (C := Try.checked) Try.own started (by kernel_rfl) Try.func4
    (ChangeSpec.witness6 (enc := enc) (C := Try.checked) false ⟨#[], #[.slice none 0 0, .slice none 0 0], []⟩ 8 (by kernel_rfl) (by kernel_rfl) (by kernel_rfl) (by kernel_rfl)) ?_
  intro W base args ds gs before hval hW _ _
  obtain ⟨p, q, hA, hV, hrest⟩ := id hW
  obtain ⟨⟨d0, d1, rfl⟩, hc⟩ := areaPages_contract W base args H enc ds p hval hA
  obtain ⟨rfl, -⟩ := trodVars_none hV
  refine hc.mono fun e W' ⟨he, hb⟩ => ⟨_, he, ?_⟩
  exact law_close (tb := 4) Try.laidOut (by rw [Try.params4]; decide +kernel) Try.underlying4 rfl rfl hW rfl rfl rfl hb

theorem areaPages_holds : Rows.AreaPagesSaid :=
  OpenClaim.holds_of_wide 4 Try.f4 rfl rfl rfl rfl rfl rfl rfl ⟨rfl, rfl, rfl, rfl, rfl⟩ rfl rfl rfl rfl rfl (by kernel_rfl) Try.func4 (by kernel_rfl)
    (of_decide_eq_true (by kernel_rfl)) (by unfold Func.isWrapper; first | (rw [if_pos (by decide +kernel)]; kernel_rfl) | (rw [if_neg (by decide +kernel)]; exact ⟨rfl, rfl⟩))
    (fun os started H enc _ => areaPages_lifted os started H enc)
end Go.Proofs.Ytnlhdbengppnpaa

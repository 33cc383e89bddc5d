/- StreamFeeds holds: the program's Feed, Check and Matches answer as the reference's. -/
import Derived.Test.YthdcmknenjallaaStX
import Derived.BigQuiet
import Derived.Deep.RegionHeld3
namespace Go.Proofs.Ythdcmknenjallaa
open Go.ChangeShapes Go.WideShapes Go.ChangeAt Go.RowKit Go.Mine

set_option maxHeartbeats 1000000 in
theorem same_L {L : List Str} {B C : Nat} (v u : Value) (w : World) (R : RowN 36 w B v L) (S : RowN 36 w C u L) (hl : L.length ≤ 100000) :
    Calls Try.prog 13 #[v, u] w (RetG (.bool true) w) := by
  obtain ⟨a, c, rfl, hr, -⟩ := R.rd
  obtain ⟨a', c', rfl, hs, -⟩ := S.rd
  have HR := Lib.hid hr
  have HS := Lib.hid hs
  clear R S hr hs
  go_enter Try.func13, Try.ntmps13
  go_wp2_with fail
  go_loopw [5] (fun iv wr => ∃ i : Nat, iv = .int .i64 i ∧ i ≤ L.length ∧ Grew w wr) (fun iv _ => L.length - (intOf iv).toNat)
  case atStart => exact ⟨0, rfl, by omega, Grew.refl _⟩
  case round =>
    obtain ⟨i, rfl, hi, G⟩ := hrel
    obtain ⟨wo, rfl⟩ : ∃ wo : World, wo = wr := ⟨_, rfl⟩
    by_cases hlt : i < L.length
    · obtain ⟨g, rfl, hg, he⟩ := HR.out i hlt
      obtain ⟨h, rfl, hh, hf⟩ := HS.out i hlt
      have e1 := ElS.grew he G hg
      have f1 := ElS.grew hf G hh
      have i0 : (0 : Int) ≤ (i : Int) := by omega
      have i1 : (i : Int) < (L.length : Int) := by omega
      clear he hf
      generalize L.getD i zS = s at *
      obtain ⟨p0, p1, p2, p3, p4, p5⟩ := e1
      obtain ⟨q0, q1, q2, q3, q4, q5⟩ := f1
      go_upto_region 6 with fail
      go_quiet (fail)
      revert nq; intro nq1
      have G2 := G.drewN nq1
      clear p0 p1 p2 p3 p4 p5 q0 q1 q2 q3 q4 q5
      generalize World.drewN wo nq1 = w2 at *
      go_wp2
      exact ⟨⟨i + 1, by go_num, by omega, G2⟩, by simp [intOf]; omega⟩
    · have hin : i = L.length := by omega
      subst hin
      go_wp2
      go_ret
      exact ⟨rfl, G⟩
theorem rfeed_U {L L' : List Str} {i er : Int} {B : Nat} (v : Value) (x y : Int) (w : World) (R : RowN 36 w B v L) (hl : L.length ≤ 1000000) (h1 : fdL (ofL L) L.length x y = L') (h2 : fdI (ofL L) L.length x y = i) (h3 : errF (ofL L) L.length x y = er) :
    Calls Try.prog 12 #[v, .int .i64 x, .int .i64 y] w (fun e w' => ∃ v', e = .returned (.tuple #[v', .int .i64 i, .int .i64 er]) ∧ RowN 36 w' 0 v' L' ∧ Grew w w') := by
  obtain ⟨a, c, rfl, hr, hc, hz, hcm⟩ := R.rd
  refine (rfeed_any a L.length c (ofL L) x y w hl hr hz).mono ?_
  rintro e w' (⟨he, rfl, G⟩ | ⟨he, v', rfl, R', G⟩)
  · have e1 : fdL (ofL L) L.length x y = L := by rw [fdL, if_neg he]; exact lsF_of L
    have e2 : fdI (ofL L) L.length x y = 0 := by rw [fdI, if_neg he]
    exact ⟨_, by rw [← h2, e2, ← h3], by rw [← h1, e1]; exact (R.grew G).wider (Nat.zero_le _), G⟩
  · rw [h1] at R'
    exact ⟨v', by rw [← h2, ← h3, he], R'.wider (Nat.zero_le _), G⟩
theorem rcheck_L {L : List Str} {b : Bool} {B : Nat} (v : Value) (w : World) (R : RowN 36 w B v L) (hl : L.length ≤ 1000000) (h : chkB (ofL L) L.length = b) :
    Calls Try.prog 15 #[v] w (RetG (.bool b) w) := by
  obtain ⟨a, c, rfl, hr, -⟩ := R.rd
  exact rcheck_v a L.length c (ofL L) w hl hr h
theorem matches_q {z : Str} {b : Bool} (s : Str) (x y : Int) (w : World) (hm : Mild s) (h1 : becF s x y = z) (h2 : mtcB s x y = b) : Calls Try.prog 16 #[strV s, .int .i64 x, .int .i64 y] w (RetG (.tuple #[strV z, .bool b]) w) := h1 ▸ h2 ▸ matches_any s x y w hm
theorem rmatches_q {z : Str} {b : Bool} (s : Str) (x y : Int) (w : World) (h1 : becF s x y = z) (h2 : mtcB s x y = b) : Calls Try.prog 17 #[strV s, .int .i64 x, .int .i64 y] w (RetG (.tuple #[strV z, .bool b]) w) := h1 ▸ h2 ▸ rmatches_any s x y w
set_option maxRecDepth 100000 in
set_option maxHeartbeats 4000000 in
theorem feeds_core (A : Option Addr) (c : Nat) (xs : List Int) (w : World) (hr : IntRow w A xs) (hm : xs.length ≤ maxLen) :
    Calls Try.prog 3 #[.slice A xs.length c] w (RetG (.bool true) w) := by
  have tp := Tp.made hr hm c 25
  clear hr
  generalize hX : xs.length = X at *
  clear hX
  go_enter Try.func3, Try.ntmps3
  go_wp2_with fail
  have G0 : w.grownBy (w.alloc (.cells #[.slice A X c, .int .i64 0] 25)) (some w.heap.size) := grown_alloc (grown_refl _ _) _
  generalize World.alloc w _ = w0 at *
  have hsz0 : w.heap.size + 1 ≤ w0.heap.size := tp.lt
  with_reducible refine (drawn_x _ _ _ tp hsz0).mono ?_
  rintro e w1 ⟨v, L, rfl, hle, hM, R, T1, g1⟩
  have R1 := R.wider hsz0
  have G1 := (Grew.refl w).past (grown_trans G0 g1) (Nat.le_refl _)
  have HM := Lib.hid hM
  have hsz1 := Nat.le_trans hsz0 g1.size
  clear R tp G0 g1 hM hsz0 w0
  go_wp2_with fail
  with_reducible refine (access_x _ _ _ _ _ _ T1 hsz1 R1 (by omega) hle).mono ?_
  rintro e w2 ⟨x, y, rfl, T2, g2⟩
  have R2 := Lib.hid (R1.past g2 (by omega))
  have G2 := G1.past g2 (Nat.le_refl _)
  obtain ⟨LF, hLF⟩ : ∃ LF, fdL (ofL L) L.length x y = LF := ⟨_, rfl⟩
  obtain ⟨fi, hfi⟩ : ∃ fi, fdI (ofL L) L.length x y = fi := ⟨_, rfl⟩
  obtain ⟨er, her⟩ : ∃ er, errF (ofL L) L.length x y = er := ⟨_, rfl⟩
  obtain ⟨cb, hcb⟩ : ∃ cb, chkB (ofL L) L.length = cb := ⟨_, rfl⟩
  have hlf : LF.length ≤ 100000 := by
    rw [← hLF, fdL]
    split
    · split
      · rw [List.length_set]; simp [lsF]; omega
      · rw [List.length_append]; simp [lsF]; omega
    · simp [lsF]; omega
  have HLF := Lib.hid hLF
  have HFI := Lib.hid hfi
  have HER := Lib.hid her
  have HCB := Lib.hid hcb
  clear hLF hfi her hcb T1 T2 R1 G1 g2 hsz1
  go_wp2_with fail
  with_reducible refine (feed_L _ _ _ _ R2.out (by omega) HM.out HLF.out HFI.out HER.out).mono ?_
  rintro e w3 ⟨v3, rfl, R3, g3⟩
  have H3 := Lib.hid R3
  have R23 := Lib.hid (R2.out.grew g3)
  have G3 := G2.trans g3
  clear R2 G2 g3 R3
  go_wp2_with fail
  with_reducible refine (rfeed_U _ _ _ _ R23.out (by omega) HLF.out HFI.out HER.out).mono ?_
  rintro e w4 ⟨v4, rfl, R4, g4⟩
  have H4 := Lib.hid R4
  have H34 := Lib.hid (H3.out.grew g4)
  have R24 := Lib.hid (R23.out.grew g4)
  have G4 := G3.trans g4
  clear R23 G3 g4 R4 H3
  go_wp2_with fail
  with_reducible refine (same_L _ _ _ H34.out H4.out hlf).mono ?_
  rintro e w5 ⟨rfl, g5⟩
  have R25 := Lib.hid (R24.out.grew g5)
  have G5 := G4.trans g5
  clear R24 G4 g5 H34 H4
  go_wp2_with fail
  with_reducible refine (check_L _ _ R25.out (by omega) HM.out HCB.out).mono ?_
  rintro e w6 ⟨rfl, g6⟩
  have R26 := Lib.hid (R25.out.grew g6)
  have G6 := G5.trans g6
  clear R25 G5 g6
  go_wp2_with fail
  with_reducible refine (rcheck_L _ _ R26.out (by omega) HCB.out).mono ?_
  rintro e w7 ⟨rfl, g7⟩
  have R27 := R26.out.grew g7
  have G7 := G6.trans g7
  obtain ⟨a, c1, rfl, -⟩ := R27.rd
  have H27 := Lib.hid R27
  clear R26 G6 g7 R27
  go_wp2_with fail
  go_loopw [13] (fun iv wr => ∃ i : Nat, iv = .int .i64 i ∧ i ≤ L.length ∧ RowN 36 wr (w.heap.size + 1) (.slice a L.length c1) L ∧ Grew w wr) (fun iv _ => L.length - (intOf iv).toNat)
  case atStart => exact ⟨0, rfl, by omega, H27.out, G7⟩
  case round =>
    clear H27 G7
    obtain ⟨i, rfl, hi, R, G⟩ := hrel
    obtain ⟨wo, rfl⟩ : ∃ wo : World, wo = wr := ⟨_, rfl⟩
    by_cases hlt : i < L.length
    · obtain ⟨g, rfl, -, hg, he⟩ := rowN_at R hlt
      have hme := HM.out i hlt
      obtain ⟨s, hs⟩ : ∃ s, L.getD i zS = s := ⟨_, rfl⟩
      rw [hs] at he hme
      obtain ⟨z, hz⟩ : ∃ z, becF s x y = z := ⟨_, rfl⟩
      obtain ⟨b, hb⟩ : ∃ b, mtcB s x y = b := ⟨_, rfl⟩
      have i0 : (0 : Int) ≤ (i : Int) := by omega
      have i1 : (i : Int) < (L.length : Int) := by omega
      have i4 : (L.length : Int) ≤ 4 := by omega
      have HE := Lib.hid he
      have HRr := Lib.hid R
      have MI := Lib.hid hme
      have ZB := Lib.hid hz
      have BB := Lib.hid hb
      clear hs hb hz hme R
      obtain ⟨p0, p1, p2, p3, p4, p5⟩ := he
      go_wp2_with fail
      with_reducible refine (matches_q s x y _ MI.out ZB.out BB.out).mono ?_
      rintro e w8 ⟨rfl, g8⟩
      have E8 := HE.out.grew g8 hg
      have hg8 : g < w8.heap.size := Nat.lt_of_lt_of_le hg g8.size
      have R8 := Lib.hid (HRr.out.grew g8)
      have G8 := G.trans g8
      clear p0 p1 p2 p3 p4 p5 HE HRr G g8 hg
      go_upto_region 12 with fail
      have X := Own.new w8 36 (csS z)
      have GX : Grew w8 (w8.alloc (.cells (csS z) 36)) := (Grew.refl _).alloc _
      have E9 := E8.grew GX hg8
      have hg9 : g < (w8.alloc (.cells (csS z) 36)).heap.size := Nat.lt_of_lt_of_le hg8 GX.size
      have R9 := Lib.hid (R8.out.grew GX)
      have G9 := G8.trans GX
      generalize World.alloc w8 _ = w9 at *
      generalize w8.heap.size = sx at *
      have HE9 := Lib.hid E9
      clear E8 R8 G8 GX hg8
      obtain ⟨p0, p1, p2, p3, p4, p5⟩ := E9
      go_wp2_with fail
      with_reducible refine (rmatches_q s x y _ ZB.out BB.out).mono ?_
      rintro e w10 ⟨rfl, g10⟩
      have X10 := X.grew g10
      have R10 := Lib.hid (R9.out.grew g10)
      have G10 := G9.trans g10
      clear p0 p1 p2 p3 p4 p5 HE9 R9 G9 X g10 hg9
      go_upto_region 13 with fail
      have Y := Own.new w10 36 (csS z)
      have X11 := X10.alloc (.cells (csS z) 36)
      have R11 := Lib.hid (R10.out.alloc (.cells (csS z) 36))
      have G11 := G10.alloc (.cells (csS z) 36)
      generalize World.alloc w10 _ = w11 at *
      generalize w10.heap.size = sy at *
      clear X10 R10 G10
      obtain ⟨p0, p1, p2, p3, p4, p5⟩ := X11.six
      obtain ⟨q0, q1, q2, q3, q4, q5⟩ := Y.six
      go_wp2
      exact ⟨⟨i + 1, by go_num, by omega, R11.out, G11⟩, by simp [intOf]; omega⟩
    · have hin : i = L.length := by omega
      subst hin
      go_wp2_with fail
      with_reducible refine (awake_any _).mono ?_
      rintro e w8 ⟨rfl, g8⟩
      go_wp2
      go_ret
      exact ⟨rfl, G.trans g8⟩

theorem Try.own : ownKnob Try.prog.godebug = none := by kernel_rfl
theorem Try.laidOut : laidOutB Try.prog = true := by kernel_rfl

theorem streamFeeds_contract (W : World) (base : Nat) (args : Array Value) (H : Type) (enc : TypeId × Value → H) (ds : List (DataW H)) (p : List MemPlace)
    (hval : ∀ (j : Nat) t v, Try.f3.params[j]? = some t → args[j]? = some v → Value.okWide Try.prog W .any base t v)
    (hA : DataW.TrodAll enc Try.prog W 0 (fun _ => true) true Try.f3.params.toList args.toList ds p) :
    (∃ d0, ds = [d0]) ∧ Calls Try.prog 3 args W fun e W' => e = .returned (.bool true) ∧ Below W.heap.size W W' := by
  rw [Try.params3] at hval hA
  obtain ⟨v0, d0, p0, ha, hd, hp, h0⟩ := args_1 hA
  subst ha hd
  obtain ⟨A0, c0, xs0, rfl, hr0, hm0⟩ := open_introw Try.underlying22 Try.underlying3 (by kernel_rfl) (hval 0 _ _ rfl rfl) h0
  exact ⟨⟨_, rfl⟩, (feeds_core A0 c0 xs0 W hr0 hm0).mono fun _ _ h => h⟩

set_option maxRecDepth 100000 in
theorem streamFeeds_lifted (os : Os) (started : os.Started) (H : Type) (enc : TypeId × Value → H) :
    ReturnsInHanded {} Try.checked os 3 .any (Rows.streamFeedsSpec.pre6 enc Try.prog Try.f3 Rows.streamFeedsRow.domain false) (Rows.streamFeedsSpec.post enc Try.prog Try.f3 false true false false) := by
  refine returnsInHanded_of_change (C := Try.checked) Try.own started (by kernel_rfl) Try.func3
    (ChangeSpec.witness6 (enc := enc) (C := Try.checked) false ⟨#[], #[.slice none 0 0], []⟩ 8 (by kernel_rfl) (by kernel_rfl) (by kernel_rfl) (by kernel_rfl)) ?_
  intro W base args ds gs before hval hW _ _
  obtain ⟨p, q, hA, hV, hrest⟩ := id hW
  obtain ⟨⟨d0, rfl⟩, hc⟩ := streamFeeds_contract W base args H enc ds p hval hA
  obtain ⟨rfl, -⟩ := trodVars_none hV
  refine hc.mono fun e W' ⟨he, hb⟩ => ⟨_, he, ?_⟩
  exact law_close (tb := 4) Try.laidOut (by rw [Try.params3]; decide +kernel) Try.underlying4 rfl rfl hW rfl rfl rfl hb

theorem streamFeeds_holds : Rows.StreamFeedsSaid :=
  OpenClaim.holds_of_wide 3 Try.f3 rfl rfl rfl rfl rfl rfl rfl ⟨rfl, rfl, rfl, rfl, rfl⟩ rfl rfl rfl rfl rfl (by kernel_rfl) Try.func3 (by kernel_rfl)
    (of_decide_eq_true (by kernel_rfl)) (by unfold Func.isWrapper; first | (rw [if_pos (by decide +kernel)]; kernel_rfl) | (rw [if_neg (by decide +kernel)]; exact ⟨rfl, rfl⟩))
    (fun os started H enc _ => streamFeeds_lifted os started H enc)
end Go.Proofs.Ythdcmknenjallaa

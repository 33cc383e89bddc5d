/- StreamPredicts holds: the program's Sure and Predict answer as the reference's. -/
import Derived.Test.YthdcmknenjallaaStX
import Derived.Test.YthdcmknenjallaaStY
import Derived.BigQuiet
import Derived.Deep.RegionHeld3
namespace Go.Proofs.Ythdcmknenjallaa
open Go.ChangeShapes Go.WideShapes Go.ChangeAt Go.RowKit Go.Mine

set_option maxHeartbeats 1000000 in
theorem ints_same {L : List Int} {B C : Nat} (v u : Value) (w : World) (R : RowE 3 1 enc1 w B v L) (S : RowE 3 1 enc1 w C u L) (hl : L.length ≤ 100000) :
    Calls Try.prog 22 #[v, u] w (RetG (.bool true) w) := by
  obtain ⟨a, n, c, rfl, hn, hv⟩ := R.ints
  obtain ⟨a', n', c', rfl, hn', hu⟩ := S.ints
  obtain rfl : n = n' := by omega
  have HV := Lib.hid hv
  have HU := Lib.hid hu
  clear R S hv hu hn'
  go_enter Try.func22, Try.ntmps22
  go_wp2_with fail
  go_loopw [5] (fun iv wr => ∃ i : Nat, iv = .int .i64 i ∧ i ≤ n ∧ Grew w wr) (fun iv _ => n - (intOf iv).toNat)
  case atStart => exact ⟨0, rfl, by omega, Grew.refl _⟩
  case round =>
    obtain ⟨i, rfl, hi, G⟩ := hrel
    obtain ⟨wo, rfl⟩ : ∃ wo : World, wo = wr := ⟨_, rfl⟩
    by_cases hlt : i < n
    · obtain ⟨g, rfl, hg, -, x0⟩ := HV.out i hlt
      obtain ⟨h, rfl, hh, -, y0⟩ := HU.out i hlt
      have x1 := (G.cells.1 g _ hg).trans x0
      have y1 := (G.cells.1 h _ hh).trans y0
      have i0 : (0 : Int) ≤ (i : Int) := by omega
      have i1 : (i : Int) < (n : Int) := by omega
      clear x0 y0
      generalize L.getD i 0 = z at *
      go_upto_region 6 with fail
      go_quiet (fail)
      revert nq; intro nq1
      have G2 := G.drewN nq1
      generalize World.drewN wo nq1 = w2 at *
      go_wp2
      exact ⟨⟨i + 1, by go_num, by omega, G2⟩, by simp [intOf]; omega⟩
    · have hin : i = n := by omega
      subst hin
      go_wp2
      go_ret
      exact ⟨rfl, G⟩
theorem predict_q {L : List Int} (x : Str) (n : Int) (w : World) (hm : Mild x) (h : prF x n = L) : Calls Try.prog 23 #[strV x, .int .i64 n] w (RetI1 L w) := h ▸ predict_any x n w hm
theorem rpredict_q {L : List Int} (x : Str) (n : Int) (w : World) (h : prF x n = L) : Calls Try.prog 24 #[strV x, .int .i64 n] w (RetI1 L w) := h ▸ rpredict_any x n w
theorem sure_q {v : Bool} (x : Str) (w : World) (hm : Mild x) (h : sureB x = v) : Calls Try.prog 20 #[strV x] w (RetG (.bool v) w) := h ▸ sure_any x w hm
theorem prF_len (x : Str) (n : Int) : (prF x n).length ≤ 100000 := by
  unfold prF
  split
  · next h =>
    have hl := prL_le x n.toNat
    by_cases e : (prL x n.toNat).length = n.toNat
    · have := prL_bound h.1 h.2 _ e; omega
    · have : ∀ m, (prL x m).length ≤ 1100 := by
        intro m
        induction m with
        | zero => simp [prL]
        | succ m ih =>
          rw [prL]
          split
          · next h2 =>
            rw [List.length_append, h2.1]
            have hb := prL_bound h.1 h.2 (m + 1) (by rw [prL, if_pos h2, List.length_append, h2.1]; rfl)
            simp; omega
          · exact ih
      have := this n.toNat
      omega
  · simp
set_option maxRecDepth 100000 in
set_option maxHeartbeats 4000000 in
theorem predicts_core (A : Option Addr) (c : Nat) (xs : List Int) (nn : Int) (w : World) (hr : IntRow w A xs) (hm : xs.length ≤ maxLen) (hn : (Lit.int .i64 nn).wf = true) :
    Calls Try.prog 4 #[.slice A xs.length c, .int .i64 nn] w (RetG (.bool true) w) := by
  have tp := Tp.made hr hm c 25
  clear hr hn
  generalize hX : xs.length = X at *
  clear hX
  go_enter Try.func4, Try.ntmps4
  go_wp2_with fail
  have G0 : w.grownBy (w.alloc (.cells #[.slice A X c, .int .i64 0] 25)) (some w.heap.size) := grown_alloc (grown_refl _ _) _
  generalize World.alloc w _ = w0 at *
  have hsz0 : w.heap.size + 1 ≤ w0.heap.size := tp.lt
  with_reducible refine (drawn_x _ _ _ tp hsz0).mono ?_
  rintro e w1 ⟨v, L, rfl, hle, hM, R, T1, g1⟩
  have R1 := R.wider hsz0
  have G1 := (Grew.refl w).past (grown_trans G0 g1) (Nat.le_refl _)
  have HM := Lib.hid hM
  clear R tp G0 g1 T1 hM hsz0 w0
  go_wp2_with fail
  with_reducible refine (cut_any _ _ _ (by omega) (by omega)).mono ?_
  rintro e w2 ⟨rfl, rfl⟩
  have hc0 := cut_lt nn 14 (by omega)
  have hc1 : 0 ≤ cut nn 14 := by unfold cut; exact Int.emod_nonneg _ (by omega)
  generalize cut nn 14 = n1 at *
  go_wp2_with fail
  with_reducible refine (cut_any _ _ _ (by omega) (by omega)).mono ?_
  rintro e w2 ⟨rfl, rfl⟩
  generalize cut nn 40 = n2 at *
  go_upto_if 19 with fail
  go_cut [7] from 19 to 19 (fun v wx => (∃ k : Int, v = .int .i64 k) ∧ wx = w1)
  case first =>
    by_cases hq : n2 = 39
    · subst hq
      go_wp2_with fail
      go_meet
      exact ⟨⟨_, rfl⟩, rfl⟩
    · have dq : (n2 == 39) = false := beqF hq
      go_wp2_with fail
      go_meet
      exact ⟨⟨_, rfl⟩, rfl⟩
  case rest =>
    obtain ⟨⟨k, rfl⟩, rfl⟩ := hcut
    obtain ⟨a, c1, rfl, -⟩ := R1.rd
    have HR1 := Lib.hid R1
    clear R1
    go_wp2_with fail
    go_loopw [8] (fun iv wr => ∃ i : Nat, iv = .int .i64 i ∧ i ≤ L.length ∧ RowN 36 wr (w.heap.size + 1) (.slice a L.length c1) L ∧ Grew w wr) (fun iv _ => L.length - (intOf iv).toNat)
    case atStart => exact ⟨0, rfl, by omega, HR1.out, G1⟩
    case round =>
      clear HR1 G1
      obtain ⟨i, rfl, hi, R, G⟩ := hrel
      obtain ⟨wo, rfl⟩ : ∃ wo : World, wo = wr := ⟨_, rfl⟩
      by_cases hlt : i < L.length
      · obtain ⟨g, rfl, -, hg, he⟩ := rowN_at R hlt
        have hme := HM.out i hlt
        obtain ⟨s, hs⟩ : ∃ s, L.getD i zS = s := ⟨_, rfl⟩
        rw [hs] at he hme
        obtain ⟨b, hb⟩ : ∃ b, sureB s = b := ⟨_, rfl⟩
        obtain ⟨PL, hp⟩ : ∃ PL, prF s k = PL := ⟨_, rfl⟩
        have hpl := prF_len s k
        rw [hp] at hpl
        have i0 : (0 : Int) ≤ (i : Int) := by omega
        have i1 : (i : Int) < (L.length : Int) := by omega
        have i4 : (L.length : Int) ≤ 4 := by omega
        have HE := Lib.hid (show ElS wo.drew g i s from he)
        have HG : Hid (g < wo.drew.heap.size) := Lib.hid hg
        have HRr := Lib.hid (R.drew)
        have HGw := Lib.hid G.drew
        have MI := Lib.hid hme
        have SB := Lib.hid hb
        have PB := Lib.hid hp
        have PLN := Lib.hid hpl
        clear hs hb hp hpl hme R G hg
        obtain ⟨p0, p1, p2, p3, p4, p5⟩ := he
        go_upto_region 9 with fail
        go_region_held3 (fun w' => w'.cell? ⟨g, i * 6, none⟩ = some (.int .i64 s.k) ∧ w'.cell? ⟨g, i * 6 + 1, none⟩ = some (.int .i64 s.a) ∧ w'.cell? ⟨g, i * 6 + 2, none⟩ = some (.int .i64 s.b) ∧ w'.cell? ⟨g, i * 6 + 3, none⟩ = some (.int .i64 s.d) ∧ w'.cell? ⟨g, i * 6 + 4, none⟩ = some (.int .i64 s.h) ∧ w'.cell? ⟨g, i * 6 + 5, none⟩ = some (.int .i64 s.t))
          (refine ⟨?_, ?_, ?_, ?_, ?_, ?_⟩ <;> (repeat (first | with_reducible assumption | with_reducible refine far_drew ?_)))
          (first
            | (go_at_call 20; (with_reducible refine (sure_q s _ MI.out SB.out).mono ?_); rintro e w8 ⟨rfl, g8⟩; have E8 := HE.out.grew g8 HG.out; replace HE := Lib.hid E8; replace HG := Lib.hid (Nat.lt_of_lt_of_le HG.out g8.size); replace HRr := Lib.hid (HRr.out.grew g8); replace HGw := Lib.hid (HGw.out.trans g8); clear p0 p1 p2 p3 p4 p5; obtain ⟨p0, p1, p2, p3, p4, p5⟩ := E8)
            | (go_at_call 21; (with_reducible refine (rsure_v s _ SB.out).mono ?_); rintro e w9 ⟨rfl, g8⟩; have E8 := HE.out.grew g8 HG.out; replace HE := Lib.hid E8; replace HG := Lib.hid (Nat.lt_of_lt_of_le HG.out g8.size); replace HRr := Lib.hid (HRr.out.grew g8); replace HGw := Lib.hid (HGw.out.trans g8); clear p0 p1 p2 p3 p4 p5; obtain ⟨p0, p1, p2, p3, p4, p5⟩ := E8)
            | (go_at_call 23; (with_reducible refine (predict_q s k _ MI.out PB.out).mono ?_); rintro e w10 ⟨vp, rfl, RP, g8⟩; have RP1 := Lib.hid RP; have E8 := HE.out.grew g8 HG.out; replace HE := Lib.hid E8; replace HG := Lib.hid (Nat.lt_of_lt_of_le HG.out g8.size); replace HRr := Lib.hid (HRr.out.grew g8); replace HGw := Lib.hid (HGw.out.trans g8); clear RP p0 p1 p2 p3 p4 p5; obtain ⟨p0, p1, p2, p3, p4, p5⟩ := E8)
            | (go_at_call 24; (with_reducible refine (rpredict_q s k _ PB.out).mono ?_); rintro e w11 ⟨vq, rfl, RQ, g8⟩; have RP2 := Lib.hid (RP1.out.grew g8); have RQ1 := Lib.hid RQ; have E8 := HE.out.grew g8 HG.out; replace HE := Lib.hid E8; replace HG := Lib.hid (Nat.lt_of_lt_of_le HG.out g8.size); replace HRr := Lib.hid (HRr.out.grew g8); replace HGw := Lib.hid (HGw.out.trans g8); clear RQ RP1 p0 p1 p2 p3 p4 p5; obtain ⟨p0, p1, p2, p3, p4, p5⟩ := E8)
            | (go_at_call 22; (with_reducible refine (ints_same _ _ _ RP2.out RQ1.out PLN.out).mono ?_); rintro e w12 ⟨rfl, g8⟩; have E8 := HE.out.grew g8 HG.out; replace HE := Lib.hid E8; replace HG := Lib.hid (Nat.lt_of_lt_of_le HG.out g8.size); replace HRr := Lib.hid (HRr.out.grew g8); replace HGw := Lib.hid (HGw.out.trans g8); clear RP2 RQ1 p0 p1 p2 p3 p4 p5; obtain ⟨p0, p1, p2, p3, p4, p5⟩ := E8))
        go_wp2
        exact ⟨⟨i + 1, by go_num, by omega, HRr.out, HGw.out⟩, by simp [intOf]; omega⟩
      · have hin : i = L.length := by omega
        subst hin
        go_wp2_with fail
        with_reducible refine (awake_any _).mono ?_
        rintro e w5 ⟨rfl, g5⟩
        go_wp2
        go_ret
        exact ⟨rfl, G.trans g5⟩

theorem Try.own : ownKnob Try.prog.godebug = none := by kernel_rfl
theorem Try.laidOut : laidOutB Try.prog = true := by kernel_rfl

theorem streamPredicts_contract (W : World) (base : Nat) (args : Array Value) (H : Type) (enc : TypeId × Value → H) (ds : List (DataW H)) (p : List MemPlace)
    (hval : ∀ (j : Nat) t v, Try.f4.params[j]? = some t → args[j]? = some v → Value.okWide Try.prog W .any base t v)
    (hA : DataW.TrodAll enc Try.prog W 0 (fun _ => true) true Try.f4.params.toList args.toList ds p) :
    (∃ d0 d1, ds = [d0, d1]) ∧ Calls Try.prog 4 args W fun e W' => e = .returned (.bool true) ∧ Below W.heap.size W W' := by
  rw [Try.params4] at hval hA
  obtain ⟨v0, v1, d0, d1, p0, p1, ha, hd, hp, h0, h1⟩ := args_2 hA
  subst ha hd
  obtain ⟨A0, c0, xs0, rfl, hr0, hm0⟩ := open_introw Try.underlying22 Try.underlying3 (by kernel_rfl) (hval 0 _ _ rfl rfl) h0
  obtain ⟨n1, rfl, -, -, hw1⟩ := open_int Try.underlying3 (hval 1 _ _ rfl rfl) h1
  exact ⟨⟨_, _, rfl⟩, (predicts_core A0 c0 xs0 n1 W hr0 hm0 hw1).mono fun _ _ h => h⟩

set_option maxRecDepth 100000 in
theorem streamPredicts_lifted (os : Os) (started : os.Started) (H : Type) (enc : TypeId × Value → H) :
    ReturnsInHanded {} Try.checked os 4 .any (Rows.streamPredictsSpec.pre6 enc Try.prog Try.f4 Rows.streamPredictsRow.domain false) (Rows.streamPredictsSpec.post enc Try.prog Try.f4 false true false false) := by
  refine returnsInHanded_of_change (C := Try.checked) Try.own started (by kernel_rfl) Try.func4
    (ChangeSpec.witness6 (enc := enc) (C := Try.checked) false ⟨#[], #[.slice none 0 0, .int .i64 0], []⟩ 8 (by kernel_rfl) (by kernel_rfl) (by kernel_rfl) (by kernel_rfl)) ?_
  intro W base args ds gs before hval hW _ _
  obtain ⟨p, q, hA, hV, hrest⟩ := id hW
  obtain ⟨⟨d0, d1, rfl⟩, hc⟩ := streamPredicts_contract W base args H enc ds p hval hA
  obtain ⟨rfl, -⟩ := trodVars_none hV
  refine hc.mono fun e W' ⟨he, hb⟩ => ⟨_, he, ?_⟩
  exact law_close (tb := 4) Try.laidOut (by rw [Try.params4]; decide +kernel) Try.underlying4 rfl rfl hW rfl rfl rfl hb

theorem streamPredicts_holds : Rows.StreamPredictsSaid :=
  OpenClaim.holds_of_wide 4 Try.f4 rfl rfl rfl rfl rfl rfl rfl ⟨rfl, rfl, rfl, rfl, rfl⟩ rfl rfl rfl rfl rfl (by kernel_rfl) Try.func4 (by kernel_rfl)
    (of_decide_eq_true (by kernel_rfl)) (by unfold Func.isWrapper; first | (rw [if_pos (by decide +kernel)]; kernel_rfl) | (rw [if_neg (by decide +kernel)]; exact ⟨rfl, rfl⟩))
    (fun os started H enc _ => streamPredicts_lifted os started H enc)
end Go.Proofs.Ythdcmknenjallaa

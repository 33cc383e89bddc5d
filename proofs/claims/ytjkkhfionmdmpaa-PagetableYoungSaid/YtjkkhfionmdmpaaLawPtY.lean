/- PagetableYoung holds: accesses are told once, nothing else has changed, there is nothing more to be told; and protecting twice is protecting once. -/
import Derived.Test.YtjkkhfionmdmpaaPs1
namespace Go.Mine
open Go Go.RowKit
theorem yoX_rt (f : Int) (x : Pt) : rtT (yoX f x) = rtT x := by unfold yoX; cases decide (x.f = f) <;> rfl
theorem yoX_lt (f : Int) (x y : Pt) : ltT (yoX f x) (yoX f y) = ltT x y := by unfold yoX; cases decide (x.f = f) <;> cases decide (y.f = f) <;> rfl
theorem prX_rt (f : Int) (x : Pt) : rtT (prX f x) = rtT x := by unfold prX; cases decide (x.f = f) <;> rfl
theorem prX_lt (f : Int) (x y : Pt) : ltT (prX f x) (prX f y) = ltT x y := by unfold prX; cases decide (x.f = f) <;> cases decide (y.f = f) <;> rfl
theorem okT_map {g : Pt → Pt} (h1 : ∀ x, rtT (g x) = rtT x) (h2 : ∀ x y, ltT (g x) (g y) = ltT x y) {L : List Pt} (h : okT L = true) : okT (L.map g) = true := by
  obtain ⟨a, b⟩ := okT_iff2.1 h
  refine okT_iff2.2 ⟨fun x hx => ?_, ?_⟩
  · obtain ⟨y, hy, rfl⟩ := List.mem_map.1 hx
    rw [h1]; exact a y hy
  · unfold ascT
    rw [List.pairwise_map]
    exact List.Pairwise.imp (fun h => by rw [h2]; exact h) b
theorem yoX_two (f : Int) (x : Pt) : yoX f (yoX f x) = yoX f x := by
  by_cases h : x.f = f
  · rw [yoX_hit h, yoX_hit (by exact h)]
  · rw [yoX_miss h, yoX_miss h]
theorem prX_two (f : Int) (x : Pt) : prX f (prX f x) = prX f x := by
  by_cases h : x.f = f
  · rw [prX_hit h, prX_hit (by exact h)]
  · rw [prX_miss h, prX_miss h]
theorem yoB_no (f : Int) (x : Pt) : yoB f (yoX f x) = false := by
  by_cases h : x.f = f
  · rw [yoX_hit h]; unfold yoB; exact Bool.and_false _
  · rw [yoX_miss h]; unfold yoB; rw [decide_eq_false h]; rfl
theorem yng_again {L : List Pt} {f : Int} (h : okT L = true) : yngT (L.map (yoX f)) f = (L.map (yoX f), false) := by
  rw [yngT_1 (okT_map (yoX_rt f) (yoX_lt f) h), List.map_map]
  have e : (L.map (yoX f)).any (yoB f) = false := List.any_eq_false.2 fun x hx => by
    obtain ⟨y, -, rfl⟩ := List.mem_map.1 hx
    rw [yoB_no]; decide
  rw [e]
  congr 1
  exact List.map_congr_left fun x _ => yoX_two f x
theorem prt_again {L : List Pt} {f : Int} (h : okT L = true) : prtT (L.map (prX f)) f = L.map (prX f) := by
  rw [prtT_1 (okT_map (prX_rt f) (prX_lt f) h), List.map_map]
  exact List.map_congr_left fun x _ => prX_two f x
theorem mapD {g : Pt → Pt} {L : List Pt} {i : Nat} (hi : i < L.length) : (L.map g).getD i zT = g (L.getD i zT) := by
  rw [tD (by rw [List.length_map]; exact hi), tD hi, List.getElem_map]
theorem acT_next {L : List Pt} {f : Int} {i : Nat} (hi : i < L.length) : acT L f (i + 1) = (acT L f i || yoB f (L.getD i zT)) := by
  unfold acT
  rw [take_succT hi, List.any_append]
  show (_ || (yoB f (L.getD i zT) || false)) = _
  rw [Bool.or_false]
end Go.Mine
namespace Go.Proofs.Ytjkkhfionmdmpaa
open Go.ChangeShapes Go.WideShapes Go.ChangeAt Go.RowKit Go.Mine

set_option maxRecDepth 100000 in
set_option maxHeartbeats 16000000 in
theorem young_core (A : Option Addr) (c : Nat) (xs : List Int) (n1 : Int) (w : World) (hr : IntRow w A xs) (hm : xs.length ≤ maxLen) (hw1 : (Lit.int .i64 n1).wf = true) :
    Calls Try.prog 6 #[.slice A xs.length c, .int .i64 n1] w (RetG (.bool true) w) := by
  have tp := Tp.made hr hm c 25
  have gA := (Grew.refl w).alloc (.cells #[.slice A xs.length c, .int .i64 0] 25)
  have hbw : w.heap.size + 1 ≤ (w.alloc (.cells #[.slice A xs.length c, .int .i64 0] 25)).heap.size := by simp
  clear hr hm hw1
  generalize hX : xs.length = X at *
  clear hX
  go_enter Try.func6, Try.ntmps6
  go_wp2_with fail
  with_reducible refine (ptes_x _ _ _ tp hbw).mono ?_
  rintro e w1 ⟨v, L, rfl, hok, hl8, R1, T1, g1⟩
  have HG1 := Lib.hid (gA.past g1 (Nat.le_refl _))
  have HR1 := Lib.hid (R1.wider (C := w.heap.size) (Nat.le_trans (Nat.le_succ _) hbw))
  have HOK := Lib.hid hok
  have hl1 : L.length ≤ 1000 := by omega
  clear gA tp g1 R1 T1 hbw hok
  go_wp2_with fail
  with_reducible refine (cut_any n1 4 _ (by omega) (by omega)).mono ?_
  rintro e w2 ⟨rfl, rfl⟩
  have hcut := cut_lt n1 4 (by omega)
  have hwf : IntKind.i64.wrap (1 + cut n1 4) = 1 + cut n1 4 := IntWalk.i64_in _ (by omega)
  obtain ⟨f, hf⟩ : ∃ f, 1 + cut n1 4 = f := ⟨_, rfl⟩
  rw [hf] at hwf
  have HR1L := Lib.hid HR1.out
  obtain ⟨a0, c0, rfl, -, -⟩ := HR1.out.slice
  obtain ⟨N, hN⟩ : ∃ N, L.length = N := ⟨_, rfl⟩
  have HN := Lib.hid hN
  rw [hN] at HR1 HR1L hl8 ⊢
  clear hN hcut
  go_wp2_with fail
  try rw [hf]
  go_loopw [7, 8] (fun bv iv wr => ∃ (i : Nat) (b : Bool), bv = .bool b ∧ iv = .int .i64 i ∧ i ≤ N ∧ Hid (b = acT L f i) ∧ wr = w1) (fun _ iv _ => N - (intOf iv).toNat)
  case atStart => exact ⟨0, false, rfl, rfl, by omega, Lib.hid rfl, rfl⟩
  case round =>
    obtain ⟨i, b, rfl, rfl, hi, HA, rfl⟩ := hrel
    by_cases hlt : i < N
    · have hiL : i < L.length := by rw [HN.out]; exact hlt
      obtain ⟨g, o, rfl, -, hg, k0, k1, k2, k3, k4⟩ := HR1.out.atT hiL
      have HA2 := Lib.hid (acT_next (f := f) hiL)
      have HYB : Hid (yoB f (L.getD i zT) = (decide ((L.getD i zT).f = f) && (L.getD i zT).a)) := Lib.hid rfl
      generalize L.getD i zT = d at *
      have hi0 : (0 : Int) ≤ (i : Int) := by omega
      have hi1 : (i : Int) < (N : Int) := by omega
      cases b
      · by_cases hq : d.f = f
        · have e1 : (d.f == f) = true := by simp [hq]
          have HA3 : Hid (d.a = acT L f (i + 1)) := Lib.hid (by rw [HA2.out, HYB.out, decide_eq_true hq, ← HA.out]; simp)
          clear hq HA HA2 HYB
          go_wp2
          exact ⟨⟨i + 1, d.a, rfl, by go_num, by omega, HA3, trivial⟩, by simp [intOf] <;> omega⟩
        · have e1 : (d.f == f) = false := by simp [hq]
          have HA3 : Hid (false = acT L f (i + 1)) := Lib.hid (by rw [HA2.out, HYB.out, decide_eq_false hq, ← HA.out]; simp)
          clear hq HA HA2 HYB
          go_wp2
          exact ⟨⟨i + 1, false, rfl, by go_num, by omega, HA3, trivial⟩, by simp [intOf] <;> omega⟩
      · have HA3 : Hid (true = acT L f (i + 1)) := Lib.hid (by rw [HA2.out, ← HA.out]; simp)
        clear HA HA2 HYB
        go_wp2
        exact ⟨⟨i + 1, true, rfl, by go_num, by omega, HA3, trivial⟩, by simp [intOf] <;> omega⟩
    · obtain rfl : i = N := by omega
      have HB : Hid (yngT L f = (L.map (yoX f), b)) := Lib.hid (by
        rw [yngT_1 HOK.out]
        congr 1
        have h1 := acT_end L f
        rw [HOK.out, nE_1 HOK.out, HN.out] at h1
        rw [HA.out]
        exact h1)
      have HY2 := Lib.hid (yng_again (f := f) HOK.out)
      have HP1 := Lib.hid (prtT_1 (f := f) HOK.out)
      have HP2 := Lib.hid (prt_again (f := f) HOK.out)
      have HML := Lib.hid (show (L.map (yoX f)).length = i by rw [List.length_map]; exact HN.out)
      have HMP := Lib.hid (show (L.map (prX f)).length ≤ 1000 by rw [List.length_map]; exact hl1)
      have HMD := Lib.hid (fun j (hj : j < L.length) => mapD (g := yoX f) hj)
      have hml1 : (L.map (yoX f)).length ≤ 1000 := by rw [List.length_map]; exact hl1
      clear HA
      obtain ⟨LY, hLY⟩ : ∃ M, L.map (yoX f) = M := ⟨_, rfl⟩
      rw [hLY] at HB HY2 HML HMD hml1
      clear hLY
      go_wp2_with fail
      with_reducible refine (young_p (f := f) HR1.out hl1).mono ?_
      rw [HB.out]
      rintro e9 w3 ⟨vy, rfl, R3, g3⟩
      have HR3 := Lib.hid (HR1.out.grew g3)
      have HY3 := Lib.hid R3
      have HG3 := Lib.hid (HG1.out.trans g3)
      clear R3 g3 HR1 HG1 HR1L
      obtain ⟨ay, cy, rfl, -, -⟩ := HY3.out.slice
      rw [HML.out] at HY3 ⊢
      go_wp2_with fail
      with_reducible refine (young_p (f := f) HY3.out hml1).mono ?_
      rw [HY2.out]
      rintro e9 w4 ⟨vz, rfl, R4, g4⟩
      have HR4 := Lib.hid (HR3.out.grew g4)
      have HY4 := Lib.hid (HY3.out.grew g4)
      have HZ4 := Lib.hid R4
      have HG4 := Lib.hid (HG3.out.trans g4)
      clear R4 g4 HR3 HY3 HG3
      have hbb : (b != b) = false := by simp
      go_wp2_with fail
      with_reducible refine (same_q HY4.out HZ4.out hml1).mono ?_
      rintro e9 w5 ⟨rfl, g5⟩
      have HR5 := Lib.hid (HR4.out.grew g5)
      have HY5 := Lib.hid (HY4.out.grew g5)
      have HG5 := Lib.hid (HG4.out.trans g5)
      clear g5 HR4 HY4 HZ4 HG4
      go_wp2_with fail
      go_loopw [13] (fun iv wr => ∃ j : Nat, iv = .int .i64 j ∧ j ≤ i ∧ Grew w5 wr) (fun iv _ => i - (intOf iv).toNat)
      case atStart => exact ⟨0, rfl, by omega, Grew.refl _⟩
      case round =>
        obtain ⟨j, rfl, hj, G⟩ := hrel
        obtain ⟨wo, rfl⟩ : ∃ wo : World, wo = wr := ⟨_, rfl⟩
        by_cases hjt : j < i
        · have hjL : j < L.length := by rw [HN.out]; exact hjt
          have hjM : j < LY.length := by rw [HML.out]; exact hjt
          obtain ⟨g, o, rfl, -, hg, k0, k1, k2, k3, k4⟩ := (HR5.out.grew G).atT hjL
          obtain ⟨g', o', rfl, -, hg', m0, m1, m2, m3, m4⟩ := (HY5.out.grew G).atT hjM
          have hmd := HMD.out j hjL
          have hj0 : (0 : Int) ≤ (j : Int) := by omega
          have hj1 : (j : Int) < (i : Int) := by omega
          obtain ⟨d, hd⟩ : ∃ d, L.getD j zT = d := ⟨_, rfl⟩
          rw [show L.getD j (⟨0, 0, 0, false, false⟩ : Pt) = d from hd] at k0 k1 k2 k3 k4
          have hmd2 : LY.getD j (⟨0, 0, 0, false, false⟩ : Pt) = yoX f d := hmd.trans (by rw [hd])
          rw [hmd2] at m0 m1 m2 m3 m4
          clear hmd hd hmd2
          by_cases hq : d.f = f
          · have e1 : (d.f == f) = true := by simp [hq]
            rw [yoX_hit hq] at m0 m1 m2 m3 m4
            simp only at m0 m1 m2 m3 m4
            have hdd : ∀ w : World, (binOp .neq 30 (.agg #[.int .i64 d.p, .int .i64 d.v, .int .i64 d.f, .bool d.w, .bool false]) (.agg #[.int .i64 d.p, .int .i64 d.v, .int .i64 d.f, .bool d.w, .bool false])).run Try.prog w = .ok (.bool false) w := fun w => (run_neqT w ⟨d.p, d.v, d.f, d.w, false⟩ ⟨d.p, d.v, d.f, d.w, false⟩).trans (by simp)
            clear hq
            have HGA := Lib.hid (G.alloc (.cells #[.int .i64 d.p, .int .i64 d.v, .int .i64 d.f, .bool d.w, .bool false] 30))
            have HO := Lib.hid (Mine.Own.new wo 30 #[.int .i64 d.p, .int .i64 d.v, .int .i64 d.f, .bool d.w, .bool false])
            have n0 := far_alloc (o := (.cells #[.int .i64 d.p, .int .i64 d.v, .int .i64 d.f, .bool d.w, .bool false] 30)) m0
            have n1 := far_alloc (o := (.cells #[.int .i64 d.p, .int .i64 d.v, .int .i64 d.f, .bool d.w, .bool false] 30)) m1
            have n2 := far_alloc (o := (.cells #[.int .i64 d.p, .int .i64 d.v, .int .i64 d.f, .bool d.w, .bool false] 30)) m2
            have n3 := far_alloc (o := (.cells #[.int .i64 d.p, .int .i64 d.v, .int .i64 d.f, .bool d.w, .bool false] 30)) m3
            have n4 := far_alloc (o := (.cells #[.int .i64 d.p, .int .i64 d.v, .int .i64 d.f, .bool d.w, .bool false] 30)) m4
            obtain ⟨x0, x1, x2, x3, x4⟩ := HO.out.fiveT
            clear m0 m1 m2 m3 m4 G
            go_upto_region 18 with fail
            generalize World.alloc wo _ = wq at *
            go_region
            go_wp2
            exact ⟨⟨j + 1, by go_num, by omega, HGA.out.drew⟩, by simp [intOf] <;> omega⟩
          · have e1 : (d.f == f) = false := by simp [hq]
            rw [yoX_miss hq] at m0 m1 m2 m3 m4
            have hdd : ∀ w : World, (binOp .neq 30 (.agg #[.int .i64 d.p, .int .i64 d.v, .int .i64 d.f, .bool d.w, .bool d.a]) (.agg #[.int .i64 d.p, .int .i64 d.v, .int .i64 d.f, .bool d.w, .bool d.a])).run Try.prog w = .ok (.bool false) w := fun w => (run_neqT w d d).trans (by simp)
            clear hq
            have HGA := Lib.hid (G.alloc (.cells #[.int .i64 d.p, .int .i64 d.v, .int .i64 d.f, .bool d.w, .bool d.a] 30))
            have HO := Lib.hid (Mine.Own.new wo 30 #[.int .i64 d.p, .int .i64 d.v, .int .i64 d.f, .bool d.w, .bool d.a])
            have n0 := far_alloc (o := (.cells #[.int .i64 d.p, .int .i64 d.v, .int .i64 d.f, .bool d.w, .bool d.a] 30)) m0
            have n1 := far_alloc (o := (.cells #[.int .i64 d.p, .int .i64 d.v, .int .i64 d.f, .bool d.w, .bool d.a] 30)) m1
            have n2 := far_alloc (o := (.cells #[.int .i64 d.p, .int .i64 d.v, .int .i64 d.f, .bool d.w, .bool d.a] 30)) m2
            have n3 := far_alloc (o := (.cells #[.int .i64 d.p, .int .i64 d.v, .int .i64 d.f, .bool d.w, .bool d.a] 30)) m3
            have n4 := far_alloc (o := (.cells #[.int .i64 d.p, .int .i64 d.v, .int .i64 d.f, .bool d.w, .bool d.a] 30)) m4
            obtain ⟨x0, x1, x2, x3, x4⟩ := HO.out.fiveT
            clear m0 m1 m2 m3 m4 G
            go_upto_region 18 with fail
            generalize World.alloc wo _ = wq at *
            go_region
            go_wp2
            exact ⟨⟨j + 1, by go_num, by omega, HGA.out.drew⟩, by simp [intOf] <;> omega⟩
        · obtain rfl : j = i := by omega
          have HR6 := Lib.hid (HR5.out.grew G)
          have HG6 := Lib.hid (HG5.out.trans G)
          clear G HR5 HY5 HG5
          go_wp2_with fail
          with_reducible refine (protect_p (f := f) HR6.out hl1).mono ?_
          rw [HP1.out]
          rintro e9 w7 ⟨vp, rfl, R7, g7⟩
          have HP7 := Lib.hid R7
          have HG7 := Lib.hid (HG6.out.trans g7)
          clear R7 g7 HR6 HG6
          go_wp2_with fail
          with_reducible refine (protect_p (f := f) HP7.out HMP.out).mono ?_
          rw [HP2.out]
          rintro e9 w8 ⟨vq, rfl, R8, g8⟩
          have HP8 := Lib.hid (HP7.out.grew g8)
          have HQ8 := Lib.hid R8
          have HG8 := Lib.hid (HG7.out.trans g8)
          clear R8 g8 HP7 HG7
          go_wp2_with fail
          with_reducible refine (same_q HQ8.out HP8.out HMP.out).mono ?_
          rintro e9 w9 ⟨rfl, g9⟩
          have HG9 := Lib.hid (HG8.out.trans g9)
          clear g9 HG8
          go_wp2_with fail
          with_reducible refine (awake_any _).mono ?_
          rintro e9 w10 ⟨rfl, g10⟩
          go_wp2
          go_ret
          exact ⟨rfl, HG9.out.trans g10⟩

theorem Try.own : ownKnob Try.prog.godebug = none := by kernel_rfl
theorem Try.laidOut : laidOutB Try.prog = true := by kernel_rfl

theorem pagetableYoung_contract (W : World) (base : Nat) (args : Array Value) (H : Type) (enc : TypeId × Value → H) (ds : List (DataW H)) (p : List MemPlace)
    (hval : ∀ (j : Nat) t v, Try.f6.params[j]? = some t → args[j]? = some v → Value.okWide Try.prog W .any base t v)
    (hA : DataW.TrodAll enc Try.prog W 0 (fun _ => true) true Try.f6.params.toList args.toList ds p) :
    (∃ d0 d1, ds = [d0, d1]) ∧ Calls Try.prog 6 args W fun e W' => e = .returned (.bool true) ∧ Below W.heap.size W W' := by
  rw [Try.params6] at hval hA
  obtain ⟨v0, v1, d0, d1, p0, p1, ha, hd, hp, h0, h1⟩ := args_2 hA
  subst ha hd
  obtain ⟨A0, c0, xs0, rfl, hr0, hm0⟩ := open_introw Try.underlying22 Try.underlying3 (by kernel_rfl) (hval 0 _ _ rfl rfl) h0
  obtain ⟨n1, rfl, -, -, hw1⟩ := open_int Try.underlying3 (hval 1 _ _ rfl rfl) h1
  exact ⟨⟨_, _, rfl⟩, (young_core A0 c0 xs0 n1 W hr0 hm0 hw1).mono fun _ _ h => h⟩

set_option maxRecDepth 100000 in
theorem pagetableYoung_lifted (os : Os) (started : os.Started) (H : Type) (enc : TypeId × Value → H) :
    ReturnsInHanded {} Try.checked os 6 .any (Rows.pagetableYoungSpec.pre6 enc Try.prog Try.f6 Rows.pagetableYoungRow.domain false) (Rows.pagetableYoungSpec.post enc Try.prog Try.f6 false true false false) := by
  refine returnsInHanded_of_change (C := Try.checked) Try.own started (by kernel_rfl) Try.func6
    (ChangeSpec.witness6 (enc := enc) (C := Try.checked) false ⟨#[], #[.slice none 0 0, .int .i64 0], []⟩ 8 (by kernel_rfl) (by kernel_rfl) (by kernel_rfl) (by kernel_rfl)) ?_
  intro W base args ds gs before hval hW _ _
  obtain ⟨p, q, hA, hV, hrest⟩ := id hW
  obtain ⟨⟨d0, d1, rfl⟩, hc⟩ := pagetableYoung_contract W base args H enc ds p hval hA
  obtain ⟨rfl, -⟩ := trodVars_none hV
  refine hc.mono fun e W' ⟨he, hb⟩ => ⟨_, he, ?_⟩
  exact law_close (tb := 4) Try.laidOut (by rw [Try.params6]; decide +kernel) Try.underlying4 rfl rfl hW rfl rfl rfl hb

theorem pagetableYoung_holds : Rows.PagetableYoungSaid :=
  OpenClaim.holds_of_wide 6 Try.f6 rfl rfl rfl rfl rfl rfl rfl ⟨rfl, rfl, rfl, rfl, rfl⟩ rfl rfl rfl rfl rfl (by kernel_rfl) Try.func6 (by kernel_rfl)
    (of_decide_eq_true (by kernel_rfl)) (by unfold Func.isWrapper; first | (rw [if_pos (by decide +kernel)]; kernel_rfl) | (rw [if_neg (by decide +kernel)]; exact ⟨rfl, rfl⟩))
    (fun os started H enc _ => pagetableYoung_lifted os started H enc)
end Go.Proofs.Ytjkkhfionmdmpaa

/- StreamKeeps holds: a list stays right, and only one stream changes by an access. -/
import Derived.Test.YthdcmknenjallaaStV
import Derived.Test.YthdcmknenjallaaStW
import Derived.BigQuiet
namespace Go.Proofs.Ythdcmknenjallaa
open Go.ChangeShapes Go.WideShapes Go.ChangeAt Go.RowKit Go.Mine

theorem Sound.chk {L : List Str} (h : Sound L) : chkB (ofL L) L.length = true := h
/-- What became of a stream that an access matches holds the access. -/
theorem bec_holds {s : Str} {x y : Int} (h : mtcB s x y = true) : (becF s x y).a ≤ x ∧ y ≤ (becF s x y).b := by
  unfold mtcB at h
  simp only [Bool.and_eq_true, Bool.or_eq_true] at h
  obtain ⟨⟨h0, hA⟩, h⟩ := h
  cases h1 : fwdB s x y
  · cases h2 : bwdB s x y
    · cases h3 : sdB s x y
      · rw [h1, h2, h3] at h
        have h4 : agnB s x y = true := by simpa using h
        have h5 : s.a ≤ x ∧ y ≤ s.b := of_decide_eq_true h4
        have e : becF s x y = s := by simp [becF, h0, hA, h1, h2, h3]
        rw [e]; exact h5
      · have e : becF s x y = grwF s 4 (x - s.a) x y := by simp [becF, h0, hA, h1, h2, h3]
        rw [e]; exact ⟨Int.le_refl _, Int.le_refl _⟩
    · have e : becF s x y = grwF s 3 0 x y := by simp [becF, h0, hA, h1, h2]
      rw [e]; exact ⟨Int.le_refl _, Int.le_refl _⟩
  · have e : becF s x y = grwF s 2 0 x y := by simp [becF, h0, hA, h1]
    rw [e]; exact ⟨Int.le_refl _, Int.le_refl _⟩
theorem new_holds {f : Nat → Str} {n : Nat} {x y : Int} : (newS f n x y).a ≤ x ∧ y ≤ (newS f n x y).b := by
  unfold newS preS
  rcases best_mt f x y n with ⟨b1, -⟩ | ⟨j, b1, -, b3, -⟩
  · rw [b1]; exact ⟨Int.le_refl _, Int.le_refl _⟩
  · rw [b1]; exact bec_holds b3
theorem fd_keeps {L : List Str} {x y : Int} (h : Sound L) (he : errF (ofL L) L.length x y = 0) :
    ∃ (j : Nat) (L' : List Str), fdI (ofL L) L.length x y = j ∧ fdL (ofL L) L.length x y = L' ∧ Sound L' ∧ j < L'.length ∧ L.length ≤ L'.length ∧ L'.length ≤ L.length + 1 ∧ ((L'.getD j zS).a ≤ x ∧ y ≤ (L'.getD j zS).b) ∧
      ∀ i, i < L.length → ¬i = j → L'.getD i zS = L.getD i zS := by
  have hs := fd_sound (x := x) (y := y) h
  have e : lsF (ofL L) L.length = L := lsF_of L
  have hz := new_holds (f := ofL L) (n := L.length) (x := x) (y := y)
  have hI : fdI (ofL L) L.length x y = match slotO (ofL L) L.length x y with | some j => (j : Int) | none => (L.length : Int) := by rw [fdI, if_pos he]; rfl
  have hL : fdL (ofL L) L.length x y = match slotO (ofL L) L.length x y with | some j => L.set j (newS (ofL L) L.length x y) | none => L ++ [newS (ofL L) L.length x y] := by rw [fdL, if_pos he, e]; rfl
  generalize newS (ofL L) L.length x y = z at *
  cases hsl : slotO (ofL L) L.length x y with
  | none =>
    rw [hsl] at hI hL
    refine ⟨L.length, _, hI, rfl, hs, ?_, ?_, ?_, ?_, fun i hi hij => ?_⟩
    · rw [hL]; simp
    · rw [hL]; simp
    · rw [hL]; simp
    · rw [hL]; simp only [getD_snoc z (show L.length < L.length + 1 by omega), if_true]; exact hz
    · rw [hL]; simp only [getD_snoc z (show i < L.length + 1 by omega), if_neg hij]
  | some j =>
    rw [hsl] at hI hL
    have hj := slot_lt h.le hsl
    refine ⟨j, _, hI, rfl, hs, ?_, ?_, ?_, ?_, fun i hi hij => ?_⟩
    · rw [hL]; simpa using hj
    · rw [hL]; simp
    · rw [hL]; simp
    · rw [hL]; simp only [getD_set z hj, if_true]; exact hz
    · rw [hL]; simp only [getD_set z hi, if_neg hij]
theorem fd_error {L : List Str} {x y : Int} (he : ¬errF (ofL L) L.length x y = 0) : fdL (ofL L) L.length x y = L ∧ fdI (ofL L) L.length x y = 0 := by
  rw [fdL, fdI, if_neg he, if_neg he]; exact ⟨lsF_of L, rfl⟩
set_option maxRecDepth 100000 in
set_option maxHeartbeats 4000000 in
theorem keeps_core (A : Option Addr) (c : Nat) (xs : List Int) (w : World) (hr : IntRow w A xs) (hm : xs.length ≤ maxLen) :
    Calls Try.prog 6 #[.slice A xs.length c] w (RetG (.bool true) w) := by
  have tp := Tp.made hr hm c 25
  clear hr
  generalize hX : xs.length = X at *
  clear hX
  go_enter Try.func6, Try.ntmps6
  go_wp2_with fail
  have G0 : w.grownBy (w.alloc (.cells #[.slice A X c, .int .i64 0] 25)) (some w.heap.size) := grown_alloc (grown_refl _ _) _
  generalize World.alloc w _ = w0 at *
  have hsz0 : w.heap.size + 1 ≤ w0.heap.size := tp.lt
  with_reducible refine (streams_x _ _ _ tp hsz0).mono ?_
  rintro e w1 ⟨v, L, rfl, hS, R, T1, g1⟩
  have R1 := R.wider hsz0
  have G1 := (Grew.refl w).past (grown_trans G0 g1) (Nat.le_refl _)
  clear R tp G0 g1
  go_wp2_with fail
  go_loopw [4, 5] (fun v i wr => ∃ (n : Nat) (L : List Str) (r : Value), r = v ∧ i = .int .i64 n ∧ n ≤ 6 ∧ Sound L ∧ RowN 36 wr (w.heap.size + 1) r L ∧ Tp (w.heap.size + 1) wr w.heap.size ∧ Grew w wr) (fun _ i _ => 6 - (intOf i).toNat)
  case atStart => exact ⟨0, L, _, rfl, rfl, by omega, hS, R1, T1, G1⟩
  case round =>
    clear hS R1 T1 G1 hsz0
    obtain ⟨n, L, r, rfl, rfl, hn, hS, R, T, G⟩ := hrel
    obtain ⟨wo, rfl⟩ : ∃ wo : World, wo = wr := ⟨_, rfl⟩
    have HS := Lib.hid hS
    have hle := hS.le
    clear hS
    by_cases hlt : n < 6
    · have hsz : w.heap.size + 1 ≤ wo.heap.size := T.lt
      go_wp2_with fail
      with_reducible refine (access_x _ _ _ _ _ _ T hsz R (by omega) hle).mono ?_
      rintro e w2 ⟨x, y, rfl, T2, g2⟩
      have R2 := Lib.hid (R.past g2 (by omega))
      have G2 := G.past g2 (Nat.le_refl _)
      have hsz2 := Nat.le_trans hsz g2.size
      clear T G R g2
      by_cases he : errF (ofL L) L.length x y = 0
      · obtain ⟨j, L', hj, hL', hS', hjl, hl0, hl1, hab, hks⟩ := fd_keeps HS.out he
        have HE := Lib.hid he
        have HJ := Lib.hid hj
        have HL' := Lib.hid hL'
        have HK := Lib.hid hks
        have HS' := Lib.hid hS'
        have hle' := hS'.le
        clear he hj hL' hks hS'
        go_wp2_with fail
        with_reducible refine (feed_L _ _ _ _ R2.out (by omega) HS.out.milds HL'.out HJ.out HE.out).mono ?_
        rintro e w4 ⟨v4, rfl, R4, g4⟩
        have R4w := R4.wider hsz2
        obtain ⟨a4, c4, rfl, -⟩ := R4.rd
        obtain ⟨a2, c2, rfl, -⟩ := R2.out.rd
        obtain ⟨g, rfl, -, hg, hE4⟩ := rowN_at R4 hjl
        have H4 := Lib.hid R4w
        have H2 := Lib.hid (R2.out.grew g4)
        have HE4 := Lib.hid hE4
        have G4 := G2.trans g4
        have T4 := T2.grew g4
        have j0 : (0 : Int) ≤ (j : Int) := by omega
        have j1 : (j : Int) < (L'.length : Int) := by omega
        have l1 : (L'.length : Int) ≤ (L.length : Int) + 1 := by omega
        have l4 : (L.length : Int) ≤ 4 := by omega
        obtain ⟨hx, hy⟩ := hab
        clear hE4 R4 R4w R2 g4 T2 G2 HE HJ HL'
        obtain ⟨E, hE⟩ : ∃ E, L'.getD j zS = E := ⟨_, rfl⟩
        rw [hE] at HE4 hx hy
        clear hE
        go_wp2_with fail
        with_reducible refine (check_L _ _ H4.out (by omega) HS'.out.milds HS'.out.chk).mono ?_
        rintro e w5 ⟨rfl, g5⟩
        have E5 := HE4.out.grew g5 hg
        have H5 := Lib.hid (H4.out.grew g5)
        have H25 := Lib.hid (H2.out.grew g5)
        have G5 := G4.trans g5
        have T5 := T4.grew g5
        obtain ⟨p0, p1, p2, p3, p4, p5⟩ := E5
        clear H4 H2 HE4 G4 T4 g5 p0 p3 p4 p5
        go_wp2_with fail
        clear p1 p2
        go_loopw [11] (fun i wr => ∃ m : Nat, i = .int .i64 m ∧ m ≤ L.length ∧ RowN 36 wr (w.heap.size + 1) (.slice (some ⟨g, 0, none⟩) L'.length c4) L' ∧ RowN 36 wr (w.heap.size + 1) (.slice a2 L.length c2) L ∧ Tp (w.heap.size + 1) wr w.heap.size ∧ Grew w wr) (fun i _ => L.length - (intOf i).toNat)
        case atStart => exact ⟨0, rfl, by omega, H5.out, H25.out, T5, G5⟩
        case round =>
          clear H5 H25 T5 G5
          obtain ⟨m, rfl, hm, R6, R7, T6, G6⟩ := hrel
          obtain ⟨wi, rfl⟩ : ∃ wi : World, wi = wr := ⟨_, rfl⟩
          by_cases hml : m < L.length
          · have m0 : (0 : Int) ≤ (m : Int) := by omega
            have m1 : (m : Int) < (L.length : Int) := by omega
            have m2 : (m : Int) < (L'.length : Int) := by omega
            by_cases hmj : m = j
            · have hd : ((m : Int) == (j : Int)) = true := beqT (by omega)
              have H6 := Lib.hid R6
              have H7 := Lib.hid R7
              clear R6 R7
              go_upto_region 15 with fail
              go_quiet (fail)
              revert nq; intro nq1
              have T8 := T6.drewN nq1
              have G8 := G6.drewN nq1
              have H8 : Hid (RowN 36 (wi.drewN nq1) (w.heap.size + 1) (.slice (some ⟨g, 0, none⟩) L'.length c4) L') := Lib.hid H6.out
              have H9 : Hid (RowN 36 (wi.drewN nq1) (w.heap.size + 1) (.slice a2 L.length c2) L) := Lib.hid H7.out
              generalize World.drewN wi nq1 = w8 at *
              go_wp2
              exact ⟨⟨m + 1, by go_num, by omega, H8.out, H9.out, T8, G8⟩, by simp [intOf]; omega⟩
            · have hd : ((m : Int) == (j : Int)) = false := beqF (by omega)
              have hd2 : ((m : Int) != (j : Int)) = true := by simp only [bne, hd, Bool.not_false]
              have hs := HK.out m hml hmj
              obtain ⟨gg, eg, -, hg6, e6⟩ := rowN_at R6 (show m < L'.length by omega)
              obtain ⟨h, rfl, -, hg7, e7⟩ := rowN_at R7 hml
              obtain rfl : g = gg := by injection eg with eg; injection eg
              rw [hs] at e6
              obtain ⟨s, hs2⟩ : ∃ s, L.getD m zS = s := ⟨_, rfl⟩
              rw [hs2] at e6 e7
              have H6 := Lib.hid R6
              have H7 := Lib.hid R7
              clear R6 R7 hs hs2
              obtain ⟨p0, p1, p2, p3, p4, p5⟩ := e6
              obtain ⟨q0, q1, q2, q3, q4, q5⟩ := e7
              go_upto_region 15 with fail
              go_quiet (fail)
              revert nq; intro nq1
              have T8 := T6.drewN nq1
              have G8 := G6.drewN nq1
              have H8 : Hid (RowN 36 (wi.drewN nq1) (w.heap.size + 1) (.slice (some ⟨g, 0, none⟩) L'.length c4) L') := Lib.hid H6.out
              have H9 : Hid (RowN 36 (wi.drewN nq1) (w.heap.size + 1) (.slice (some ⟨h, 0, none⟩) L.length c2) L) := Lib.hid H7.out
              generalize World.drewN wi nq1 = w8 at *
              go_wp2
              exact ⟨⟨m + 1, by go_num, by omega, H8.out, H9.out, T8, G8⟩, by simp [intOf]; omega⟩
          · have hm2 : m = L.length := by omega
            subst hm2
            go_wp2
            exact ⟨⟨n + 1, L', _, rfl, by go_num, by omega, HS'.out, R6, T6, G6⟩, by simp [intOf]; omega⟩
      · obtain ⟨hL', hj⟩ := fd_error he
        obtain ⟨er, her⟩ : ∃ er, errF (ofL L) L.length x y = er := ⟨_, rfl⟩
        rw [her] at he
        have hd : (er == 0) = false := by simpa using he
        have HE := Lib.hid her
        have HJ := Lib.hid hj
        have HL' := Lib.hid hL'
        clear he hj hL' her
        go_wp2_with fail
        with_reducible refine (feed_L _ _ _ _ R2.out (by omega) HS.out.milds HL'.out HJ.out HE.out).mono ?_
        rintro e w4 ⟨v4, rfl, R4, g4⟩
        obtain ⟨a4, c4, rfl, -⟩ := R4.rd
        obtain ⟨a2, c2, rfl, -⟩ := R2.out.rd
        have G4 := G2.trans g4
        clear R4 R2 g4 T2 G2 HE HJ HL'
        go_wp2_with fail
        with_reducible refine (awake_any _).mono ?_
        rintro e w5 ⟨rfl, g5⟩
        go_wp2
        go_ret
        exact ⟨rfl, G4.trans g5⟩
    · have hN : n = 6 := by omega
      subst hN
      rw [show ((6 : Nat) : Int) = 6 from rfl]
      go_wp2_with fail
      with_reducible refine (awake_any _).mono ?_
      rintro e w2 ⟨rfl, g2⟩
      go_wp2
      go_ret
      exact ⟨rfl, G.trans g2⟩

theorem Try.own : ownKnob Try.prog.godebug = none := by kernel_rfl
theorem Try.laidOut : laidOutB Try.prog = true := by kernel_rfl

theorem streamKeeps_contract (W : World) (base : Nat) (args : Array Value) (H : Type) (enc : TypeId × Value → H) (ds : List (DataW H)) (p : List MemPlace)
    (hval : ∀ (j : Nat) t v, Try.f6.params[j]? = some t → args[j]? = some v → Value.okWide Try.prog W .any base t v)
    (hA : DataW.TrodAll enc Try.prog W 0 (fun _ => true) true Try.f6.params.toList args.toList ds p) :
    (∃ d0, ds = [d0]) ∧ Calls Try.prog 6 args W fun e W' => e = .returned (.bool true) ∧ Below W.heap.size W W' := by
  rw [Try.params6] at hval hA
  obtain ⟨v0, d0, p0, ha, hd, hp, h0⟩ := args_1 hA
  subst ha hd
  obtain ⟨A0, c0, xs0, rfl, hr0, hm0⟩ := open_introw Try.underlying22 Try.underlying3 (by kernel_rfl) (hval 0 _ _ rfl rfl) h0
  exact ⟨⟨_, rfl⟩, (keeps_core A0 c0 xs0 W hr0 hm0).mono fun _ _ h => h⟩

set_option maxRecDepth 100000 in
theorem streamKeeps_lifted (os : Os) (started : os.Started) (H : Type) (enc : TypeId × Value → H) :
    ReturnsInHanded {} Try.checked os 6 .any (Rows.streamKeepsSpec.pre6 enc Try.prog Try.f6 Rows.streamKeepsRow.domain false) (Rows.streamKeepsSpec.post enc Try.prog Try.f6 false true false false) := by
  refine returnsInHanded_of_change (C := Try.checked) Try.own started (by kernel_rfl) Try.func6
    (ChangeSpec.witness6 (enc := enc) (C := Try.checked) false ⟨#[], #[.slice none 0 0], []⟩ 8 (by kernel_rfl) (by kernel_rfl) (by kernel_rfl) (by kernel_rfl)) ?_
  intro W base args ds gs before hval hW _ _
  obtain ⟨p, q, hA, hV, hrest⟩ := id hW
  obtain ⟨⟨d0, rfl⟩, hc⟩ := streamKeeps_contract W base args H enc ds p hval hA
  obtain ⟨rfl, -⟩ := trodVars_none hV
  refine hc.mono fun e W' ⟨he, hb⟩ => ⟨_, he, ?_⟩
  exact law_close (tb := 4) Try.laidOut (by rw [Try.params6]; decide +kernel) Try.underlying4 rfl rfl hW rfl rfl rfl hb

theorem streamKeeps_holds : Rows.StreamKeepsSaid :=
  OpenClaim.holds_of_wide 6 Try.f6 rfl rfl rfl rfl rfl rfl rfl ⟨rfl, rfl, rfl, rfl, rfl⟩ rfl rfl rfl rfl rfl (by kernel_rfl) Try.func6 (by kernel_rfl)
    (of_decide_eq_true (by kernel_rfl)) (by unfold Func.isWrapper; first | (rw [if_pos (by decide +kernel)]; kernel_rfl) | (rw [if_neg (by decide +kernel)]; exact ⟨rfl, rfl⟩))
    (fun os started H enc _ => streamKeeps_lifted os started H enc)
end Go.Proofs.Ythdcmknenjallaa

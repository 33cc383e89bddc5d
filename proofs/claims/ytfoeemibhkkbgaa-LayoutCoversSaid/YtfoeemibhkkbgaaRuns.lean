/- layout.joined, layout.appendParts, layout.Split, layout.Runs. -/
import Derived.Test.YtfoeemibhkkbgaaWithPage
import Derived.Deep.LoopGhost
namespace Go.Proofs.Ytfoeemibhkkbgaa
attribute [local go_sem ↓] Go.wp_at_zero Go.wp_at_succ
open Go.RowKit Go.Mine

theorem ix0 (a b c d e f g h : Bool) (w : World) : (Instr.index 48 (.agg #[.bool a, .bool b, .bool c, .bool d, .bool e, .bool f, .bool g, .bool h]) (.int .i64 0)).run Try.prog w = .ok (.bool a) w := by kernel_rfl
theorem ix1 (a b c d e f g h : Bool) (w : World) : (Instr.index 48 (.agg #[.bool a, .bool b, .bool c, .bool d, .bool e, .bool f, .bool g, .bool h]) (.int .i64 1)).run Try.prog w = .ok (.bool b) w := by kernel_rfl
theorem ix2 (a b c d e f g h : Bool) (w : World) : (Instr.index 48 (.agg #[.bool a, .bool b, .bool c, .bool d, .bool e, .bool f, .bool g, .bool h]) (.int .i64 2)).run Try.prog w = .ok (.bool c) w := by kernel_rfl
theorem ix3 (a b c d e f g h : Bool) (w : World) : (Instr.index 48 (.agg #[.bool a, .bool b, .bool c, .bool d, .bool e, .bool f, .bool g, .bool h]) (.int .i64 3)).run Try.prog w = .ok (.bool d) w := by kernel_rfl
theorem ix4 (a b c d e f g h : Bool) (w : World) : (Instr.index 48 (.agg #[.bool a, .bool b, .bool c, .bool d, .bool e, .bool f, .bool g, .bool h]) (.int .i64 4)).run Try.prog w = .ok (.bool e) w := by kernel_rfl
theorem ix5 (a b c d e f g h : Bool) (w : World) : (Instr.index 48 (.agg #[.bool a, .bool b, .bool c, .bool d, .bool e, .bool f, .bool g, .bool h]) (.int .i64 5)).run Try.prog w = .ok (.bool f) w := by kernel_rfl
theorem ix6 (a b c d e f g h : Bool) (w : World) : (Instr.index 48 (.agg #[.bool a, .bool b, .bool c, .bool d, .bool e, .bool f, .bool g, .bool h]) (.int .i64 6)).run Try.prog w = .ok (.bool g) w := by kernel_rfl
theorem ix7 (a b c d e f g h : Bool) (w : World) : (Instr.index 48 (.agg #[.bool a, .bool b, .bool c, .bool d, .bool e, .bool f, .bool g, .bool h]) (.int .i64 7)).run Try.prog w = .ok (.bool h) w := by kernel_rfl
theorem index_ch (xs : List Int) (k : Nat) (hk : k < 8) (w : World) : (Instr.index 48 (.agg (chA xs)) (.int .i64 (k : Int))).run Try.prog w = .ok (.bool (chB xs k)) w := by
  have h : k = 0 ∨ k = 1 ∨ k = 2 ∨ k = 3 ∨ k = 4 ∨ k = 5 ∨ k = 6 ∨ k = 7 := by omega
  rcases h with rfl | rfl | rfl | rfl | rfl | rfl | rfl | rfl
  · exact ix0 _ _ _ _ _ _ _ _ w
  · exact ix1 _ _ _ _ _ _ _ _ w
  · exact ix2 _ _ _ _ _ _ _ _ w
  · exact ix3 _ _ _ _ _ _ _ _ w
  · exact ix4 _ _ _ _ _ _ _ _ w
  · exact ix5 _ _ _ _ _ _ _ _ w
  · exact ix6 _ _ _ _ _ _ _ _ w
  · exact ix7 _ _ _ _ _ _ _ _ w
theorem good_small {lo q : Int} {L : List Sp} (h : Good lo L q) (h0 : 0 ≤ lo) (hq : q ≤ 1000) : Small L := fun x hx => by have := h x hx; omega

set_option maxHeartbeats 2000000 in
theorem joined_any (B : Nat) (v : Value) (xs : List Int) (s : Int) (w : World) (s0 : 0 ≤ s) (s1 : s ≤ 6) (hm : xs.length ≤ 1000000) (R : RowE 3 1 enc1 w B v xs) :
    Calls Try.prog 29 #[.int .i64 s, v] w (RetR (joinL s xs 8) w) := by
  have c1 := fun W (R' : RowE 3 1 enc1 W B v xs) => chosen_any B v xs W hm R'
  have HR := Lib.hid R
  have HC := Lib.hid c1
  clear R c1 hm
  go_enter Try.func29, Try.ntmps29
  go_wp2_with fail
  with_reducible refine (HC.out _ HR.out).mono ?_
  rintro e w1 ⟨rfl, G1⟩
  clear HC HR
  go_wp2_with fail
  go_loopw [5, 10] (fun v i wr => ∃ (k : Nat) (r : Value), r = v ∧ i = .int .i64 k ∧ k ≤ 8 ∧ RowE 36 2 enc2 wr w.heap.size r (joinL s xs k) ∧ Grew w wr) (fun _ i _ => 8 - (intOf i).toNat)
  case atStart => exact ⟨0, _, rfl, rfl, by omega, RowE.nil _ _, G1⟩
  case round =>
    obtain ⟨k, r, rfl, rfl, hk, R, G⟩ := hrel
    by_cases hlt : k < 8
    · have hix := index_ch xs k hlt
      have hg := good_small (join_good (xs := xs) s0 s1 k hk) (by omega) (by omega)
      have hl := join_len s xs k
      have HG := Lib.hid hg
      have HL := Lib.hid hl
      clear hg hl
      cases hb : chB xs k
      · go_wp2_with fail
        go_roundw
        case rel => exact ⟨k + 1, _, rfl, by go_num, by omega, by rw [joinL, hb]; exact R, G⟩
        case measure => simp [intOf]; omega
      · go_wp2_with (go_at_call 15; (with_reducible refine (page_any _ _ _).mono ?_); rintro e w1 ⟨rfl, rfl⟩)
        with_reducible refine (withPage_any _ _ _ _ _ (by have := HL.out; omega) HG.out R).mono ?_
        rintro e w2 ⟨r2, rfl, R2, G2⟩
        clear hix
        go_wp2_with fail
        go_roundw
        case rel => exact ⟨k + 1, _, rfl, by go_num, by omega, by rw [joinL, hb]; exact R2.wider G.size, G.trans G2⟩
        case measure => simp [intOf]; omega
    · have hk8 : k = 8 := by omega
      subst hk8
      go_wp2_with fail
      go_ret
      exact ⟨r, rfl, R, G⟩

/-- It returns a row from block B on, and nothing below B has turned. -/
def RetB2 (B : Nat) (L : List Sp) (w : World) (e : Ending) (w' : World) : Prop := ∃ v, e = .returned v ∧ RowE 36 2 enc2 w' B v L ∧ Below B w w'
def spBv (x : Sp) : Bool := spB x
set_option maxHeartbeats 2000000 in
theorem isSpan_any (s c : Int) (w : World) (hs : (Lit.int .i64 s).wf = true) (hc : (Lit.int .i64 c).wf = true) : Calls Try.prog 30 #[.agg #[.int .i64 s, .int .i64 c]] w (RetS (.bool (spB (s, c))) (w.alloc (.cells #[.int .i64 s, .int .i64 c] 36))) := by
  have hs' := wf_le hs
  have hc' := wf_le hc
  clear hs hc
  cases h1 : withB s 127
  · have := withB_false h1
    go_enter Try.func30, Try.ntmps30
    go_wp2_with (go_at_call 25; (with_reducible refine (within_any _ _ _).mono ?_); rintro e w1 ⟨rfl, rfl⟩)
    go_ret
    exact ⟨ret_bool (by symm; unfold spB; rw [decide_eq_false_iff_not]; simp; omega), rfl⟩
  · obtain ⟨s0, s1⟩ := withB_true h1
    by_cases h2 : 0 < c
    · go_enter Try.func30, Try.ntmps30
      go_wp2_with (go_at_call 25; (with_reducible refine (within_any _ _ _).mono ?_); rintro e w1 ⟨rfl, rfl⟩)
      go_ret
      exact ⟨ret_bool (by unfold spB; rw [Bool.eq_iff_iff]; simp; omega), rfl⟩
    · have h3 : c ≤ 0 := by omega
      have h4 : decide (0 < c) = false := decide_eq_false h2
      go_enter Try.func30, Try.ntmps30
      go_wp2_with (go_at_call 25; (with_reducible refine (within_any _ _ _).mono ?_); rintro e w1 ⟨rfl, rfl⟩)
      go_ret
      exact ⟨ret_bool (by symm; unfold spB; rw [decide_eq_false_iff_not]; simp; omega), rfl⟩

set_option maxHeartbeats 2000000 in
theorem appendParts_any (B : Nat) (v : Value) (L : List Sp) (s c m : Int) (w : World) (hL : L.length ≤ 100000) (hs : 0 ≤ s ∧ s ≤ 1000) (hc : 0 ≤ c ∧ c ≤ 1000) (hm : 1 ≤ m) (hw : (Lit.int .i64 m).wf = true) (R : RowE 36 2 enc2 w B v L) (hB : B ≤ w.heap.size) :
    Calls Try.prog 31 #[v, .agg #[.int .i64 s, .int .i64 c], .int .i64 m] w (RetB2 B (L ++ partsL s c m) w) := by
  have hw' := wf_le hw
  have HR := Lib.hid R
  have HB := Lib.hid hB
  have X := Own.new w 36 #[.int .i64 s, .int .i64 c]
  clear R hB hw
  go_enter Try.func31, Try.ntmps31
  go_wp2
  go_loopg [0] c.toNat (fun k v wr => ∃ (r : Value) (P : List Sp) (a b : Int), r = v ∧ k = b.toNat ∧ Own wr w.heap.size 36 #[.int .i64 a, .int .i64 b] ∧ (0 ≤ a ∧ a ≤ 2000) ∧ (0 ≤ b ∧ b ≤ c) ∧ a + b = s + c ∧ P.length + b ≤ c ∧
      P ++ partsL a b m = partsL s c m ∧ RowE 36 2 enc2 wr B r (L ++ P) ∧ r.ownBlock ≠ some w.heap.size ∧ Below B w wr)
  case atStart => exact ⟨v, [], s, c, rfl, rfl, X, by omega, by omega, rfl, by simp, rfl, by rw [List.append_nil]; exact HR.out.alloc _, fun e => absurd (HR.out.lt _ e) (Nat.lt_irrefl _), (Below.refl _ _).alloc HB.out _⟩
  case round =>
    obtain ⟨r, P, a, b, rfl, rfl, X, ha, hb, hab, hP, hE, R, hr, G⟩ := hrel
    obtain ⟨X0, X1, X2, X3⟩ := X.two
    have lX := X.lt
    have HE := Lib.hid hE
    have HR2 := Lib.hid hr
    have HAB := Lib.hid hab
    have hab2 : a + b ≤ 2000 := by omega
    clear hE hr hab
    by_cases hlt : 0 < b
    · have hLP : (L ++ P).length < 1000000 := by rw [List.length_append]; omega
      have hpp := Lib.hid (partsL_pos a b m hm hlt)
      have hB2 : ∀ o, B ≤ (wr.alloc o).heap.size := fun o => by have := HB.out; simp; omega
      obtain ⟨n, hn⟩ : ∃ n, min b m = n := ⟨_, rfl⟩
      have hn0 : 1 ≤ n := by omega
      have hnb : n ≤ b := by omega
      have HN := Lib.hid hn
      have hmn : b = n ∧ b ≤ m ∨ m = n ∧ m < b := by omega
      clear hn
      rcases hmn with ⟨rfl, hmn⟩ | ⟨rfl, hmn⟩
      all_goals
        go_wp2_with (at_builtin; go_loud (refine wpList_append_row _ rfl (.tmp 15) (.tmp 20) 34 rfl B info_span Try.underlying34 (by decide) (by decide) enc2_len r (L ++ P) rfl (R.alloc _) _ _ (_, _) rfl (Own.new _ _ _) enc2_one hLP (by decide) (hB2 _) ?_; intro g cap w2 R2 G2 o2; obtain ⟨Y0, Y1, Y2, Y3⟩ := ((X.alloc _).keptN G2 HR2.out).two))
        have Y := (X.alloc _).keptN G2 HR2.out
        have hlr : ∀ k, r.ownBlock = some k → B ≤ k := fun k e => R.above k e
        have hlw := G2.size
        have hne : some g ≠ some w.heap.size := by
          rcases o2 with o2 | o2
          · rw [← o2]; exact HR2.out
          · intro e; injection e with e; rw [o2] at e; simp at e; omega
        have GB : ∀ x y, Below B w ((w2.setCell ⟨w.heap.size, 0, none⟩ x).setCell ⟨w.heap.size, 1, none⟩ y) := fun x y => ((Below.grown (G.alloc (by have := HB.out; omega) _) G2 (hB2 _) hlr).setCell HB.out _).setCell HB.out _
      · go_roundg 0
        case measure => omega
        case rel =>
          exact ⟨_, P ++ [(a, b)], a + b, 0, rfl, rfl, (Y.set 0 (.int .i64 (a + b))).set 1 (.int .i64 0), by omega, by omega, by have := HAB.out; omega, by simp; omega,
            by rw [partsL_zero _ 0 _ (by omega), List.append_nil, ← HE.out, hpp.out, HN.out, Int.sub_self, partsL_zero _ 0 _ (by omega)],
            by rw [← List.append_assoc]; rw [List.length_append] at R2; exact (R2.set (p := ⟨w.heap.size, 0, none⟩) hne _).set (p := ⟨w.heap.size, 1, none⟩) hne _, hne, GB _ _⟩
      · go_roundg (b - m).toNat
        case measure => omega
        case rel =>
          exact ⟨_, P ++ [(a, m)], a + m, b - m, rfl, rfl, (Y.set 0 (.int .i64 (a + m))).set 1 (.int .i64 (b - m)), by omega, by omega, by have := HAB.out; omega, by simp; omega,
            by rw [List.append_assoc, ← HE.out, hpp.out, HN.out]; rfl,
            by rw [← List.append_assoc]; rw [List.length_append] at R2; exact (R2.set (p := ⟨w.heap.size, 0, none⟩) hne _).set (p := ⟨w.heap.size, 1, none⟩) hne _, hne, GB _ _⟩
    · go_wp2
      go_ret
      have hz : b = 0 := by omega
      subst hz
      have e1 := HE.out
      rw [partsL_zero a 0 m (by omega), List.append_nil] at e1
      rw [← e1]
      exact ⟨_, rfl, R, G⟩

theorem parts_bd {x : Sp} (h : spB x = true) (m : Int) (hm : 1 ≤ m) : (partsL x.1 x.2 m).length ≤ 128 := by
  simp [spB] at h
  exact partsL_len m hm 128 _ _ (by omega)
theorem splitL_take (L : List Sp) (k : Nat) (h : k < L.length) (m : Int) : splitL (L.take (k + 1)) m = splitL (L.take k) m ++ (if spB (L.getD k (0, 0)) then partsL (L.getD k (0, 0)).1 (L.getD k (0, 0)).2 m else []) := by
  rw [take_getD (d := ((0, 0) : Sp)) L k h, splitL_snoc]
/-- The numbers of a list of spans are integers of the program's. -/
def Fits (L : List Sp) : Prop := ∀ x ∈ L, (Lit.int .i64 x.1).wf = true ∧ (Lit.int .i64 x.2).wf = true
theorem fits_getD {L : List Sp} (h : Fits L) {k : Nat} (hk : k < L.length) : (Lit.int .i64 (L.getD k (0, 0)).1).wf = true ∧ (Lit.int .i64 (L.getD k (0, 0)).2).wf = true := h _ (by simp [List.getD, hk])
set_option maxHeartbeats 4000000 in
theorem split_any (B : Nat) (v : Value) (L : List Sp) (m : Int) (w : World) (hL : L.length ≤ 500) (hf : Fits L) (hm : (Lit.int .i64 m).wf = true) (R : RowE 36 2 enc2 w B v L) :
    Calls Try.prog 22 #[v, .int .i64 m] w (RetR (if m < 1 then [] else splitL L m) w) := by
  have hm' := wf_le hm
  by_cases h1 : m < 1
  · rw [if_pos h1]
    go_enter Try.func22, Try.ntmps22
    go_wp2
    go_ret
    exact ⟨_, rfl, RowE.nil _ _, Grew.refl _⟩
  · rw [if_neg h1]
    have h2 : 1 ≤ m := by omega
    obtain ⟨a, X, c, rfl, hX, hcell⟩ := R.pairs
    have HC := Lib.hid hcell
    have HX := Lib.hid hX
    have HF := Lib.hid hf
    have HM := Lib.hid hm
    have hX2 : X ≤ 500 := by omega
    clear hcell hX hL hf hm R
    go_enter Try.func22, Try.ntmps22
    go_wp2
    go_loopw [5, 12] (fun v i wr => ∃ (k : Nat) (r : Value), r = v ∧ i = .int .i64 k ∧ k ≤ X ∧ RowE 36 2 enc2 wr w.heap.size r (splitL (L.take k) m) ∧ Grew w wr) (fun _ i _ => X - (intOf i).toNat)
    case atStart => exact ⟨0, _, rfl, rfl, by omega, RowE.nil _ _, Grew.refl _⟩
    case round =>
      obtain ⟨k, r, rfl, rfl, hk, R, G⟩ := hrel
      have HR := Lib.hid R
      clear R
      by_cases hlt : k < X
      · obtain ⟨g, rfl, hg, -, hx0, hx1⟩ := HC.out k hlt
        have c0 := (G.cells.1 g (k * 2) hg).trans hx0
        have c1 := (G.cells.1 g (k * 2 + 1) hg).trans hx1
        have ff := Lib.hid (fits_getD HF.out (k := k) (by rw [← HX.out]; exact hlt))
        have tt := Lib.hid (splitL_take L k (by rw [← HX.out]; exact hlt) m)
        have lt2 := Lib.hid (split_len m h2 (L.take k))
        clear hx0 hx1
        generalize L.getD k (0, 0) = x at *
        obtain ⟨s, d⟩ := x
        simp only at c0 c1
        have n0 := World.new_ne wr _ c0
        have n1 := World.new_ne wr _ c1
        cases hb : spB (s, d)
        · go_wp2_with (go_at_call 30; (with_reducible refine (isSpan_any _ _ _ ff.out.1 ff.out.2).mono ?_); rintro e w1 ⟨rfl, rfl⟩)
          go_roundw
          case rel => exact ⟨k + 1, _, rfl, by go_num, by omega, by rw [tt.out, hb]; simp only [Bool.false_eq_true, if_false, List.append_nil]; exact (HR.out.alloc _).alloc _, (G.alloc _).alloc _⟩
          case measure => simp [intOf]; omega
        · go_wp2_with (go_at_call 30; (with_reducible refine (isSpan_any _ _ _ ff.out.1 ff.out.2).mono ?_); rintro e w1 ⟨rfl, rfl⟩)
          have sb : (0 ≤ s ∧ s ≤ 1000) ∧ 0 ≤ d ∧ d ≤ 1000 := by simp [spB] at hb; omega
          have hl3 : (L.take k).length ≤ 500 := by rw [List.length_take]; omega
          have hl4 := lt2.out
          with_reducible refine (appendParts_any w.heap.size _ (splitL (L.take k) m) _ _ _ _ (by omega) sb.1 sb.2 h2 HM.out ((HR.out.alloc _).alloc _) (by have := G.size; simp; omega)).mono ?_
          rintro e w2 ⟨r2, rfl, R2, G2⟩
          clear n0 n1 c0 c1
          go_wp2
          go_roundw
          case rel => exact ⟨k + 1, _, rfl, by go_num, by omega, by rw [tt.out, hb, if_pos rfl]; exact R2, ((G.alloc _).alloc _).below G2 (Nat.le_refl _)⟩
          case measure => simp [intOf]; omega
      · have hkX : k = X := by omega
        subst hkX
        go_wp2
        go_ret
        refine ⟨r, rfl, ?_, G⟩
        have := HR.out
        rwa [List.take_of_length_le (by rw [← HX.out]; omega)] at this

/-- What Runs returns. -/
def runsL (s m : Int) (xs : List Int) : List Sp := if (0 ≤ s ∧ s ≤ 6) ∧ 2 ≤ m then splitL (joinL s xs 8) (m / 2 * 2) else []
theorem small_fits {L : List Sp} (h : Small L) : Fits L := fun x hx => by
  obtain ⟨h1, h2⟩ := h x hx
  exact ⟨WalkArith.wf_i64 (by omega), WalkArith.wf_i64 (by omega)⟩
set_option maxHeartbeats 2000000 in
theorem runs_any (B : Nat) (v : Value) (xs : List Int) (s m : Int) (w : World) (hl : xs.length ≤ 1000000) (hm : (Lit.int .i64 m).wf = true) (R : RowE 3 1 enc1 w B v xs) :
    Calls Try.prog 20 #[.int .i64 s, v, .int .i64 m] w (RetR (runsL s m xs) w) := by
  have hm' := wf_le hm
  have HR := Lib.hid R
  clear R
  cases h1 : withB s 6
  · have e : runsL s m xs = [] := by rw [runsL, if_neg]; have := withB_false h1; omega
    rw [e]
    clear e
    go_enter Try.func20, Try.ntmps20
    go_wp2_with (go_at_call 26; (with_reducible refine (isSlot_any _ _).mono ?_); rintro e w1 ⟨rfl, rfl⟩)
    go_ret
    exact ⟨_, rfl, RowE.nil _ _, Grew.refl _⟩
  · obtain ⟨s0, s1⟩ := withB_true h1
    by_cases h2 : m < 2
    · have e : runsL s m xs = [] := by rw [runsL, if_neg]; omega
      rw [e]
      clear e
      go_enter Try.func20, Try.ntmps20
      go_wp2_with (go_at_call 26; (with_reducible refine (isSlot_any _ _).mono ?_); rintro e w1 ⟨rfl, rfl⟩)
      go_ret
      exact ⟨_, rfl, RowE.nil _ _, Grew.refl _⟩
    · have h3 : 2 ≤ m := by omega
      have e := Lib.hid (show runsL s m xs = splitL (joinL s xs 8) (m / 2 * 2) from by rw [runsL, if_pos ⟨⟨s0, s1⟩, h3⟩])
      have hsm := Lib.hid (small_fits (good_small (join_good (xs := xs) s0 s1 8 (by omega)) (by omega) (by omega)))
      have hjl := Lib.hid (join_len s xs 8)
      have hm2 : 2 ≤ m / 2 * 2 := by omega
      have hm3 : (Lit.int .i64 (m / 2 * 2)).wf = true := WalkArith.wf_i64 (by omega)
      go_enter Try.func20, Try.ntmps20
      go_wp2_with (go_at_call 26; (with_reducible refine (isSlot_any _ _).mono ?_); rintro e w1 ⟨rfl, rfl⟩)
      with_reducible refine (joined_any _ _ _ _ _ s0 s1 hl HR.out).mono ?_
      rintro e w1 ⟨r1, rfl, R1, G1⟩
      go_wp2_with fail
      with_reducible refine (split_any _ _ _ _ _ (by have := hjl.out; omega) hsm.out hm3 R1).mono ?_
      rintro e w2 ⟨r2, rfl, R2, G2⟩
      go_wp2_with fail
      go_ret
      rw [if_neg (by omega)] at R2
      rw [Hid.out ‹Hid (runsL s m xs = _)›]
      exact ⟨_, rfl, R2.wider G1.size, G1.trans G2⟩
end Go.Proofs.Ytfoeemibhkkbgaa

/- The made streams (layer 6): contract. -/
import Derived.Test.YtfljohgcbihhbaaDoorStT
import Derived.Deep.RegionHeld3
import Derived.Deep.DeepCutAuto
import Derived.Deep.CutBlock
namespace Go.Proofs.YtfljohgcbihhbaaDoor
open Go.RowKit Go.Mine

/-- What stands behind the choice of an access: some number; the list, the tape. -/
def FromCut (w : World) (B b : Nat) (L : List Str) (r : Value) (v5 _v6 : Value) (wx : World) : Prop :=
  ∃ z : Int, v5 = .int .i64 z ∧ -1000 ≤ z ∧ z ≤ 1000 ∧ RowN 29 wx w.heap.size r L ∧ Tp B wx b ∧ w.grownBy wx (some b)
def sl5 (s : Str) : Array Value := #[.int .i64 s.b, .int .i64 (s.a - 1), .int .i64 (s.a + s.d), .int .i64 (s.b + 1), .int .i64 s.a]
theorem sl5_at {s : Str} (h : RgtP s) (p : Nat) (hp : p < 5) : ∃ z : Int, (#[.int .i64 s.b, .int .i64 (s.a - 1), .int .i64 (s.a + s.d), .int .i64 (s.b + 1), .int .i64 s.a] : Array Value)[p]? = some (.int .i64 z) ∧ -1000 ≤ z ∧ z ≤ 1000 := by
  have hm := rgt_mild h
  unfold Mild at hm
  obtain ⟨⟨x0, x1, x2⟩, -, -, -, -, -, h⟩ := h
  have hd : -8 ≤ s.d ∧ s.d ≤ 8 := by unfold StpP at h; omega
  have hc : p = 0 ∨ p = 1 ∨ p = 2 ∨ p = 3 ∨ p = 4 := by omega
  rcases hc with rfl | rfl | rfl | rfl | rfl
  · exact ⟨_, rfl, by omega, by omega⟩
  · exact ⟨_, rfl, by omega, by omega⟩
  · exact ⟨_, rfl, by omega, by omega⟩
  · exact ⟨_, rfl, by omega, by omega⟩
  · exact ⟨_, rfl, by omega, by omega⟩
theorem rowN_at {w : World} {B n c p : Nat} {a : Option Addr} {L : List Str} (h : RowN 29 w B (.slice a n c) L) (hp : p < L.length) : ∃ g, a = some ⟨g, 0, none⟩ ∧ B ≤ g ∧ g < w.heap.size ∧ ElS w g p (L.getD p zS) := by
  obtain ⟨a', c', e, hr, -⟩ := h.rd
  injection e with e1 e2 e3
  subst e1
  obtain ⟨g, rfl, hg, he⟩ := hr p hp
  exact ⟨g, rfl, h.1.above g rfl, hg, he⟩
/-- It returns some right list, in a new row. -/
def RetSt (B b : Nat) (w : World) (e : Ending) (w' : World) : Prop := ∃ v L, e = .returned v ∧ Sound L ∧ RowN 29 w' w.heap.size v L ∧ Tp B w' b ∧ w.grownBy w' (some b)
theorem sound_nil : Sound [] := by unfold Sound; kernel_rfl
set_option maxRecDepth 100000 in
set_option maxHeartbeats 4000000 in
theorem streams_x (B b : Nat) (w : World) (ht : Tp B w b) (hbw : B ≤ w.heap.size) :
    Calls Tryd.prog 6 #[.pointer (some ⟨b, 0, none⟩)] w (RetSt B b w) := by
  have hb := ht.ltB
  go_enter Tryd.func6, Tryd.ntmps6
  go_wp2_with fail
  with_reducible refine (next_x _ _ _ _ (by omega) (by omega) ht).mono ?_
  rintro e w1 ⟨q, q0, q1, rfl, T1, g1⟩
  obtain ⟨m, rfl⟩ := Int.eq_ofNat_of_zero_le q0
  have hm12 : m ≤ 12 := by omega
  go_wp2_with fail
  go_loopw [3, 4] (fun v k wr => ∃ (N : Nat) (L : List Str) (r : Value), r = v ∧ N ≤ 12 ∧ k = .int .i64 N ∧ Sound L ∧ RowN 29 wr w.heap.size r L ∧ Tp B wr b ∧ w.grownBy wr (some b)) (fun _ k _ => (intOf k).toNat)
  case atStart => exact ⟨m, [], _, rfl, hm12, rfl, sound_nil, ⟨RowE.nil _ _, fun _ => rfl⟩, T1, g1⟩
  case round =>
    clear g1 T1 w1
    obtain ⟨N, L, r, rfl, hN, rfl, hS, R, T, g⟩ := hrel
    obtain ⟨wo, rfl⟩ : ∃ wo : World, wo = wr := ⟨_, rfl⟩
    have HS := Lib.hid hS
    have hle := hS.le
    clear hS
    by_cases hp : 0 < N
    · obtain ⟨a, c, rfl, hr, hc, hz, hcm⟩ := R.rd
      have HR := Lib.hid R
      clear R hr hc hz hcm
      have hbs := g.size
      go_wp2_with fail
      with_reducible refine (next_x _ _ _ _ (by omega) (by omega) T).mono ?_
      rintro e w2 ⟨q, q0, q1, rfl, T2, g2⟩
      have R2 := Lib.hid (HR.out.past g2 (by omega))
      have G2 := grown_trans g g2
      clear T g g2
      by_cases h0 : L.length = 0
      · have hL : L = [] := by simpa using h0
        subst hL
        have R5 : Hid (RowN 29 w2 w.heap.size (.slice a 0 c) []) := Lib.hid R2.out
        have T5 := T2
        have G5 := G2
        clear T2 G2 R2
        rw [show ([] : List Str).length = 0 from rfl]
        go_wp2_with fail
        with_reducible refine (next_x _ _ _ _ (by omega) (by omega) T5).mono ?_
        rintro e w6 ⟨q6, q60, q61, rfl, T6, g6⟩
        have R6 := Lib.hid (R5.out.past g6 (by omega))
        have G6 := grown_trans G5 g6
        clear T5 G5 g6 R5
        go_wp2_with fail
        with_reducible refine (rfeed_L _ _ _ _ R6.out HS.out).mono ?_
        rintro e w7 (⟨he, rfl, g7⟩ | ⟨he, v7, rfl, R7, g7⟩)
        · clear he
          have R8 := Lib.hid (R6.out.grew g7)
          go_wp2
          exact ⟨⟨N - 1, [], _, rfl, by omega, by rw [show ((N : Int) - 1) = ((N - 1 : Nat) : Int) from by omega], HS.out, R8.out, T6.grew g7, grown_trans G6 (grown_row g7.grown)⟩, by simp [intOf]; omega⟩
        · have R8 := Lib.hid (R7.wider G6.size)
          clear he R7
          go_wp2
          exact ⟨⟨N - 1, _, v7, rfl, by omega, by rw [show ((N : Int) - 1) = ((N - 1 : Nat) : Int) from by omega], fd_sound HS.out, R8.out, T6.grew g7, grown_trans G6 (grown_row g7.grown)⟩, by simp [intOf]; omega⟩
      · have h1 : 1 ≤ L.length := by omega
        have h1i : (0 : Int) < (L.length : Int) := by omega
        go_wp2_with fail
        with_reducible refine (next_x _ _ _ _ (by omega) (by omega) T2).mono ?_
        rintro e w3 ⟨q2, q20, q21, rfl, T3, g3⟩
        have R3 := Lib.hid (R2.out.past g3 (by omega))
        have G3 := grown_trans G2 g3
        clear T2 G2 g3
        go_upto_if 22 with fail
        go_cut [5, 6] from 21 to 49 (FromCut w B b L (.slice a L.length c))
        case first =>
          by_cases hq : 0 < q2
          · go_wp2_with fail
            with_reducible refine (next_x _ _ _ _ (by omega) (by omega) T3).mono ?_
            rintro e w4 ⟨q3, q30, q31, rfl, T4, g4⟩
            obtain ⟨p, rfl⟩ := Int.eq_ofNat_of_zero_le q30
            have hp2 : p < L.length := by omega
            have R4 := R3.out.past g4 (by omega)
            have G4 := grown_trans G3 g4
            obtain ⟨g, rfl, hgw, hg, he⟩ := rowN_at R4 hp2
            have HSp := Lib.hid (HS.out.all p hp2).1
            obtain ⟨s, hs⟩ : ∃ s, L.getD p zS = s := ⟨_, rfl⟩
            rw [hs] at he HSp
            obtain ⟨p0, p1, p2, p3, p4, p5⟩ := he
            have R4' := Lib.hid R4
            clear hs R4 R3 g4 T3 G3
            go_upto_region 8 with fail
            clear p0 p1 p2 p3 p4 p5
            have X := Own.new w4 29 (csS s)
            have R5 := Lib.hid (R4'.out.alloc (.cells (csS s) 29))
            have T5 := T4.alloc (.cells (csS s) 29)
            have G5 := grown_alloc G4 (.cells (csS s) 29)
            have hgs4 := G4.size
            generalize World.alloc w4 _ = w5 at *
            generalize w4.heap.size = sx at *
            have l_X := X.lt
            obtain ⟨X0, X1, X2, X3, X4, X5⟩ := X.six
            have hms := rgt_mild HSp.out
            obtain ⟨md0, md1⟩ := hms
            obtain ⟨x0, x1, x2⟩ := HSp.out.1
            have w1 : IntKind.i64.wrap (s.a - 1) = s.a - 1 := IntWalk.i64_in _ (by omega)
            have w2 : IntKind.i64.wrap (s.a + s.d) = s.a + s.d := IntWalk.i64_in _ (by omega)
            have w3 : IntKind.i64.wrap (s.b + 1) = s.b + 1 := IntWalk.i64_in _ (by omega)
            refine wp_region_held_drew (S := (fun w' => w'.cell? ⟨sx, 1, none⟩ = some (.int .i64 s.a) ∧ w'.cell? ⟨sx, 2, none⟩ = some (.int .i64 s.b) ∧ w'.cell? ⟨sx, 3, none⟩ = some (.int .i64 s.d))) (by kernel_rfl) ?_ (fun hHeld => ?_)
            · (refine ⟨?_, ?_, ?_⟩ <;> (repeat (first | with_reducible assumption | with_reducible refine far_drew ?_ | with_reducible refine far_alloc ?_)))
            refine wpAnyH_take (i := 0) (oi := ⟨some 30, _, _, _, _, _⟩) (v := ?vv1) rfl (by kernel_rfl) (by kernel_rfl) (by kernel_rfl) (fun _ _ _ h => h) (Or.inl ⟨by rfl, ?yy1⟩) (by assumption) ?rr1
            case yy1 => (intro w hSw; (try dsimp only at hSw); go_simp; (try with_reducible rfl))
            try simp only [Act.put, List.setIfInBounds_toArray, List.set_cons_zero, List.set_cons_succ]
            refine wpAnyH_take (i := 1) (oi := ⟨some 31, _, _, _, _, _⟩) (v := ?vv2) rfl (by kernel_rfl) (by kernel_rfl) (by kernel_rfl) (fun _ _ _ h => h) (Or.inl ⟨by rfl, ?yy2⟩) (by assumption) ?rr2
            case yy2 => (intro w hSw; (try dsimp only at hSw); go_simp; (try with_reducible rfl))
            try simp only [Act.put, List.setIfInBounds_toArray, List.set_cons_zero, List.set_cons_succ]
            refine wpAnyH_take (i := 2) (oi := ⟨some 32, _, _, _, _, _⟩) (v := ?vv3) rfl (by kernel_rfl) (by kernel_rfl) (by kernel_rfl) (fun _ _ _ h => h) (Or.inl ⟨by rfl, ?yy3⟩) (by assumption) ?rr3
            case yy3 => (intro w hSw; (try dsimp only at hSw); go_simp; (try with_reducible rfl))
            try simp only [Act.put, List.setIfInBounds_toArray, List.set_cons_zero, List.set_cons_succ]
            refine wpAnyH_take (i := 3) (oi := ⟨some 33, _, _, _, _, _⟩) (v := ?vv4) rfl (by kernel_rfl) (by kernel_rfl) (by kernel_rfl) (fun _ _ _ h => h) (Or.inl ⟨by rfl, ?yy4⟩) (by assumption) ?rr4
            case yy4 => (intro w hSw; (try dsimp only at hSw); go_simp; (try with_reducible rfl))
            try simp only [Act.put, List.setIfInBounds_toArray, List.set_cons_zero, List.set_cons_succ]
            refine wpAnyH_take (i := 4) (oi := ⟨some 34, _, _, _, _, _⟩) (v := ?vv5) rfl (by kernel_rfl) (by kernel_rfl) (by kernel_rfl) (fun _ _ _ h => h) (Or.inl ⟨by rfl, ?yy5⟩) (by assumption) ?rr5
            case yy5 => (intro w hSw; (try dsimp only at hSw); go_simp; (try with_reducible rfl))
            try simp only [Act.put, List.setIfInBounds_toArray, List.set_cons_zero, List.set_cons_succ]
            refine wpAnyH_take (i := 5) (oi := ⟨some 35, _, _, _, _, _⟩) (v := ?vv6) rfl (by kernel_rfl) (by kernel_rfl) (by kernel_rfl) (fun _ _ _ h => h) (Or.inl ⟨by rfl, ?yy6⟩) (by assumption) ?rr6
            case yy6 => (intro w hSw; (try dsimp only at hSw); go_simp; (try with_reducible rfl))
            try simp only [Act.put, List.setIfInBounds_toArray, List.set_cons_zero, List.set_cons_succ]
            refine wpAnyH_take (i := 6) (oi := ⟨some 36, _, _, _, _, _⟩) (v := ?vv7) rfl (by kernel_rfl) (by kernel_rfl) (by kernel_rfl) (fun _ _ _ h => h) (Or.inl ⟨by rfl, ?yy7⟩) (by assumption) ?rr7
            case yy7 => (intro w hSw; (try dsimp only at hSw); go_simp; (try with_reducible rfl))
            try simp only [Act.put, List.setIfInBounds_toArray, List.set_cons_zero, List.set_cons_succ]
            refine wpAnyH_take (i := 7) (oi := ⟨some 37, _, _, _, _, _⟩) (v := ?vv8) rfl (by kernel_rfl) (by kernel_rfl) (by kernel_rfl) (fun _ _ _ h => h) (Or.inl ⟨by rfl, ?yy8⟩) (by assumption) ?rr8
            case yy8 => (intro w hSw; (try dsimp only at hSw); go_simp; (try with_reducible rfl))
            try simp only [Act.put, List.setIfInBounds_toArray, List.set_cons_zero, List.set_cons_succ]
            refine wpAnyH_take (i := 8) (oi := ⟨some 38, _, _, _, _, _⟩) (v := ?vv9) rfl (by kernel_rfl) (by kernel_rfl) (by kernel_rfl) (fun _ _ _ h => h) (Or.inl ⟨by rfl, ?yy9⟩) (by assumption) ?rr9
            case yy9 => (intro w hSw; (try dsimp only at hSw); go_simp; (try with_reducible rfl))
            try simp only [Act.put, List.setIfInBounds_toArray, List.set_cons_zero, List.set_cons_succ]
            refine wpAnyH_take (i := 9) (oi := ⟨some 39, _, _, _, _, _⟩) (v := ?vv10) rfl (by kernel_rfl) (by kernel_rfl) (by kernel_rfl) (fun _ _ _ h => h) (Or.inl ⟨by rfl, ?yy10⟩) (by assumption) ?rr10
            case yy10 => (intro w hSw; (try dsimp only at hSw); go_simp; (try with_reducible rfl))
            try simp only [Act.put, List.setIfInBounds_toArray, List.set_cons_zero, List.set_cons_succ]
            refine wpAnyH_take (i := 10) (oi := ⟨some 40, _, _, _, _, _⟩) (v := ?vv11) rfl (by kernel_rfl) (by kernel_rfl) (by kernel_rfl) (fun _ _ _ h => h) (Or.inl ⟨by rfl, ?yy11⟩) (by assumption) ?rr11
            case yy11 => (intro w hSw; (try dsimp only at hSw); go_simp; (try with_reducible rfl))
            try simp only [Act.put, List.setIfInBounds_toArray, List.set_cons_zero, List.set_cons_succ]
            refine wpAnyH_take (i := 11) (oi := ⟨some 41, _, _, _, _, _⟩) (v := ?vv12) rfl (by kernel_rfl) (by kernel_rfl) (by kernel_rfl) (fun _ _ _ h => h) (Or.inl ⟨by rfl, ?yy12⟩) (by assumption) ?rr12
            case yy12 => (intro w hSw; (try dsimp only at hSw); go_simp; (try with_reducible rfl))
            try simp only [Act.put, List.setIfInBounds_toArray, List.set_cons_zero, List.set_cons_succ]
            refine wpAnyH_take (i := 12) (oi := ⟨some 42, _, _, _, _, _⟩) (v := ?vv13) rfl (by kernel_rfl) (by kernel_rfl) (by kernel_rfl) (fun _ _ _ h => h) (Or.inl ⟨by rfl, ?yy13⟩) (by assumption) ?rr13
            case yy13 => (intro w hSw; (try dsimp only at hSw); go_simp; (try with_reducible rfl))
            try simp only [Act.put, List.setIfInBounds_toArray, List.set_cons_zero, List.set_cons_succ]
            refine wpAnyH_take (i := 13) (oi := ⟨some 43, _, _, _, _, _⟩) (v := ?vv14) rfl (by kernel_rfl) (by kernel_rfl) (by kernel_rfl) (fun _ _ _ h => h) (Or.inl ⟨by rfl, ?yy14⟩) (by assumption) ?rr14
            case yy14 => (intro w hSw; (try dsimp only at hSw); go_simp; (try with_reducible rfl))
            try simp only [Act.put, List.setIfInBounds_toArray, List.set_cons_zero, List.set_cons_succ]
            refine wpAnyH_take (i := 14) (oi := ⟨some 44, _, _, _, _, _⟩) (v := ?vv15) rfl (by kernel_rfl) (by kernel_rfl) (by kernel_rfl) (fun _ _ _ h => h) (Or.inl ⟨by rfl, ?yy15⟩) (by assumption) ?rr15
            case yy15 => (intro w hSw; (try dsimp only at hSw); go_simp; (try with_reducible rfl))
            try simp only [Act.put, List.setIfInBounds_toArray, List.set_cons_zero, List.set_cons_succ]
            refine wpAnyH_take (i := 16) (oi := ⟨some 46, _, _, _, _, _⟩) (v := ?vv16) rfl (by kernel_rfl) (by kernel_rfl) (by kernel_rfl) (fun _ _ _ h => h) (Or.inl ⟨by rfl, ?yy16⟩) (by assumption) ?rr16
            case yy16 => (intro w hSw; (try dsimp only at hSw); go_simp; (try with_reducible rfl))
            try simp only [Act.put, List.setIfInBounds_toArray, List.set_cons_zero, List.set_cons_succ]
            refine wpAnyH_ready (rs := [15, 17]) (by kernel_rfl) (by simp) ?_
            refine AllReadyH.cons (o := ⟨some 45, _, _, _, _, _⟩) rfl (fun K hK => ?stA17) (AllReadyH.cons (o := ⟨some 47, _, _, _, _, _⟩) rfl (fun K hK => ?stB17) AllReadyH.nil)
            case stA17 =>
              go_simp
              refine hK.out _ _ ?hs18 (fun hHeld => ?re18)
              case hs18 => ((try dsimp only); (refine ⟨?_, ?_, ?_⟩ <;> (repeat (first | with_reducible assumption | with_reducible refine far_drew ?_ | with_reducible refine far_alloc ?_))))
              clear hK K
              try simp only [Act.put, List.setIfInBounds_toArray, List.set_cons_zero, List.set_cons_succ]
              refine wpAnyH_ready (rs := [17]) (by kernel_rfl) (by simp) ?_
              refine AllReadyH.cons (o := ⟨some 47, _, _, _, _, _⟩) rfl (fun K hK => ?st22) ?mo22
              case mo22 => exact AllReadyH.nil
              go_simp
              go_at_call 7
              with_reducible refine (next_x _ _ 5 _ (by omega) (by omega) (T5.alloc _).drew).mono ?_
              rintro e w6 ⟨q4, q40, q41, rfl, T6, g6⟩
              have X6 : Own w6 sx 29 (csS s) := (X.alloc _).drew.past g6 (by omega)
              have R6 : Hid (RowN 29 w6 w.heap.size (.slice (some ⟨g, 0, none⟩) L.length c) L) := Lib.hid ((R5.out.alloc _).drew.past g6 (by omega))
              have G6 : w.grownBy w6 (some b) := grown_trans (grown_drew (grown_alloc G5 _)) g6
              obtain ⟨p4, rfl⟩ := Int.eq_ofNat_of_zero_le q40
              obtain ⟨z, hsl, z0, z1⟩ := sl5_at HSp.out p4 (by omega)
              have SL := (Own.new w5 _ _).drew.past g6 (by omega)
              have hc4 := (SL.cell p4).trans hsl
              have lS := SL.lt
              clear X0 X1 X2 X3 X4 X5
              obtain ⟨X0, X1, X2, X3, X4, X5⟩ := X6.six
              have l6 := X6.lt
              refine hK.out _ _ ?hs22 (fun hHeld => ?re22)
              case hs22 => ((try dsimp only); (refine ⟨?_, ?_, ?_⟩ <;> (repeat (first | with_reducible assumption | with_reducible refine far_drew ?_ | with_reducible refine far_alloc ?_))))
              clear hK K
              try simp only [Act.put, List.setIfInBounds_toArray, List.set_cons_zero, List.set_cons_succ]
              refine wpAnyH_take (i := 18) (oi := ⟨some 48, _, _, _, _, _⟩) (v := ?vv19) rfl (by kernel_rfl) (by kernel_rfl) (by kernel_rfl) (fun _ _ _ h => h) (Or.inl ⟨by rfl, ?yy19⟩) (by assumption) ?rr19
              case yy19 => (intro w hSw; (try dsimp only at hSw); go_simp; (try with_reducible rfl))
              try simp only [Act.put, List.setIfInBounds_toArray, List.set_cons_zero, List.set_cons_succ]
              refine wpAnyH_ready (rs := [19]) (by kernel_rfl) (by simp) ?_
              refine AllReadyH.cons (o := ⟨some 49, _, _, _, _, _⟩) rfl (fun K hK => ?st21) ?mo21
              case mo21 => exact AllReadyH.nil
              go_simp
              refine hK.out _ _ ?hs21 (fun hHeld => ?re21)
              case hs21 => ((try dsimp only); (refine ⟨?_, ?_, ?_⟩ <;> (repeat (first | with_reducible assumption | with_reducible refine far_drew ?_ | with_reducible refine far_alloc ?_))))
              clear hK K
              try simp only [Act.put, List.setIfInBounds_toArray, List.set_cons_zero, List.set_cons_succ]
              refine wpAnyH_take (i := 20) (oi := ⟨some 5, _, _, _, _, _⟩) (v := ?vv20) rfl (by kernel_rfl) (by kernel_rfl) (by kernel_rfl) (fun _ _ _ h => h) (Or.inl ⟨by rfl, ?yy20⟩) (by assumption) ?rr20
              case yy20 => (intro w hSw; (try dsimp only at hSw); go_simp; (try with_reducible rfl))
              try simp only [Act.put, List.setIfInBounds_toArray, List.set_cons_zero, List.set_cons_succ]
              refine wpAnyH_done (by kernel_rfl) ?_ _
              go_wp2_with fail
              go_meet
              exact ⟨z, rfl, z0, z1, R6.out, T6, G6⟩
            case stB17 =>
              go_simp
              go_at_call 7
              with_reducible refine (next_x _ _ 5 _ (by omega) (by omega) T5.drew).mono ?_
              rintro e w6 ⟨q4, q40, q41, rfl, T6, g6⟩
              have X6 : Own w6 sx 29 (csS s) := X.drew.past g6 (by omega)
              have R6 : Hid (RowN 29 w6 w.heap.size (.slice (some ⟨g, 0, none⟩) L.length c) L) := Lib.hid (R5.out.drew.past g6 (by omega))
              have G6 : w.grownBy w6 (some b) := grown_trans (grown_drew G5) g6
              obtain ⟨p4, rfl⟩ := Int.eq_ofNat_of_zero_le q40
              obtain ⟨z, hsl, z0, z1⟩ := sl5_at HSp.out p4 (by omega)
              clear X0 X1 X2 X3 X4 X5
              obtain ⟨X0, X1, X2, X3, X4, X5⟩ := X6.six
              have l6 := X6.lt
              refine hK.out _ _ ?hs23 (fun hHeld => ?re23)
              case hs23 => ((try dsimp only); (refine ⟨?_, ?_, ?_⟩ <;> (repeat (first | with_reducible assumption | with_reducible refine far_drew ?_ | with_reducible refine far_alloc ?_))))
              clear hK K
              try simp only [Act.put, List.setIfInBounds_toArray, List.set_cons_zero, List.set_cons_succ]
              refine wpAnyH_ready (rs := [15]) (by kernel_rfl) (by simp) ?_
              refine AllReadyH.cons (o := ⟨some 45, _, _, _, _, _⟩) rfl (fun K hK => ?st27) ?mo27
              case mo27 => exact AllReadyH.nil
              go_simp
              have hc4 := ((Own.new w6 3 _).cell p4).trans hsl
              refine hK.out _ _ ?hs27 (fun hHeld => ?re27)
              case hs27 => ((try dsimp only); (refine ⟨?_, ?_, ?_⟩ <;> (repeat (first | with_reducible assumption | with_reducible refine far_drew ?_ | with_reducible refine far_alloc ?_))))
              clear hK K
              try simp only [Act.put, List.setIfInBounds_toArray, List.set_cons_zero, List.set_cons_succ]
              refine wpAnyH_take (i := 18) (oi := ⟨some 48, _, _, _, _, _⟩) (v := ?vv24) rfl (by kernel_rfl) (by kernel_rfl) (by kernel_rfl) (fun _ _ _ h => h) (Or.inl ⟨by rfl, ?yy24⟩) (by assumption) ?rr24
              case yy24 => (intro w hSw; (try dsimp only at hSw); go_simp; (try with_reducible rfl))
              try simp only [Act.put, List.setIfInBounds_toArray, List.set_cons_zero, List.set_cons_succ]
              refine wpAnyH_ready (rs := [19]) (by kernel_rfl) (by simp) ?_
              refine AllReadyH.cons (o := ⟨some 49, _, _, _, _, _⟩) rfl (fun K hK => ?st26) ?mo26
              case mo26 => exact AllReadyH.nil
              go_simp
              refine hK.out _ _ ?hs26 (fun hHeld => ?re26)
              case hs26 => ((try dsimp only); (refine ⟨?_, ?_, ?_⟩ <;> (repeat (first | with_reducible assumption | with_reducible refine far_drew ?_ | with_reducible refine far_alloc ?_))))
              clear hK K
              try simp only [Act.put, List.setIfInBounds_toArray, List.set_cons_zero, List.set_cons_succ]
              refine wpAnyH_take (i := 20) (oi := ⟨some 5, _, _, _, _, _⟩) (v := ?vv25) rfl (by kernel_rfl) (by kernel_rfl) (by kernel_rfl) (fun _ _ _ h => h) (Or.inl ⟨by rfl, ?yy25⟩) (by assumption) ?rr25
              case yy25 => (intro w hSw; (try dsimp only at hSw); go_simp; (try with_reducible rfl))
              try simp only [Act.put, List.setIfInBounds_toArray, List.set_cons_zero, List.set_cons_succ]
              refine wpAnyH_done (by kernel_rfl) ?_ _
              go_wp2_with fail
              go_meet
              exact ⟨z, rfl, z0, z1, R6.out.alloc _, T6.alloc _, grown_alloc G6 _⟩
          · have hq0 : q2 = 0 := by omega
            subst hq0
            go_wp2_with fail
            go_meet
            exact ⟨_, rfl, by omega, by omega, R3.out, T3, G3⟩
        case rest =>
          clear T3 G3 R3
          obtain ⟨z, rfl, z0, z1, R4, T4, G4⟩ := hcut
          have R5 := Lib.hid R4
          have T5 := T4
          have G5 := G4
          clear R4 T4 G4
          go_wp2_with fail
          with_reducible refine (next_x _ _ _ _ (by omega) (by omega) T5).mono ?_
          rintro e w6 ⟨q6, q60, q61, rfl, T6, g6⟩
          have R6 := Lib.hid (R5.out.past g6 (by omega))
          have G6 := grown_trans G5 g6
          clear T5 G5 g6 R5
          go_wp2_with fail
          with_reducible refine (rfeed_L _ _ _ _ R6.out HS.out).mono ?_
          rintro e w7 (⟨he, rfl, g7⟩ | ⟨he, v7, rfl, R7, g7⟩)
          · clear he
            have R8 := Lib.hid (R6.out.grew g7)
            go_wp2
            exact ⟨⟨N - 1, L, _, rfl, by omega, by rw [show ((N : Int) - 1) = ((N - 1 : Nat) : Int) from by omega], HS.out, R8.out, T6.grew g7, grown_trans G6 (grown_row g7.grown)⟩, by simp [intOf]; omega⟩
          · have R8 := Lib.hid (R7.wider G6.size)
            clear he R7
            go_wp2
            exact ⟨⟨N - 1, _, v7, rfl, by omega, by rw [show ((N : Int) - 1) = ((N - 1 : Nat) : Int) from by omega], fd_sound HS.out, R8.out, T6.grew g7, grown_trans G6 (grown_row g7.grown)⟩, by simp [intOf]; omega⟩
    · have hN0 : N = 0 := by omega
      subst hN0
      go_wp2
      go_ret
      exact ⟨_, L, rfl, HS.out, R, T, g⟩
end Go.Proofs.YtfljohgcbihhbaaDoor

/- The law's own access (layer 6): some two numbers, whatever the tape. -/
import Derived.Test.YthdcmknenjallaaStU
namespace Go.Proofs.Ythdcmknenjallaa
open Go.RowKit Go.Mine

theorem sl9_at (s : Str) (p : Nat) (hp : p < 9) : ∃ z : Int, (#[.int .i64 s.b, .int .i64 (IntKind.i64.wrap (s.b - 1)), .int .i64 (IntKind.i64.wrap (s.a - 1)), .int .i64 (IntKind.i64.wrap (s.a - 2)), .int .i64 (IntKind.i64.wrap (s.a + s.d)), .int .i64 s.a, .int .i64 (IntKind.i64.wrap (s.a + 2)), .int .i64 (IntKind.i64.wrap (s.a + 8)), .int .i64 (IntKind.i64.wrap (s.a - 8))] : Array Value)[p]? = some (.int .i64 z) := by
  have hc : p = 0 ∨ p = 1 ∨ p = 2 ∨ p = 3 ∨ p = 4 ∨ p = 5 ∨ p = 6 ∨ p = 7 ∨ p = 8 := by omega
  rcases hc with rfl | rfl | rfl | rfl | rfl | rfl | rfl | rfl | rfl <;> exact ⟨_, rfl⟩
def AccCut (w : World) (B b : Nat) (v6 _v7 : Value) (wx : World) : Prop := ∃ z : Int, v6 = .int .i64 z ∧ Tp B wx b ∧ w.grownBy wx (some b)
/-- It returns some two numbers. -/
def RetA2 (B b : Nat) (w : World) (e : Ending) (w' : World) : Prop := ∃ x y : Int, e = .returned (.tuple #[.int .i64 x, .int .i64 y]) ∧ Tp B w' b ∧ w.grownBy w' (some b)
set_option maxRecDepth 100000 in
set_option maxHeartbeats 4000000 in
theorem access_x (B b C : Nat) (v : Value) (L : List Str) (w : World) (ht : Tp B w b) (hbw : B ≤ w.heap.size) (R : RowN 36 w C v L) (hbC : b < C) (hle : L.length ≤ 4) :
    Calls Try.prog 10 #[.pointer (some ⟨b, 0, none⟩), v] w (RetA2 B b w) := by
  have hb := ht.ltB
  obtain ⟨a, c, rfl, -⟩ := R.rd
  have HR := Lib.hid R
  clear R
  go_enter Try.func10, Try.ntmps10
  go_wp2_with fail
  with_reducible refine (next_x _ _ _ _ (by omega) (by omega) ht).mono ?_
  rintro e w1 ⟨q, q0, q1, rfl, T1, g1⟩
  have R1 := Lib.hid (HR.out.past g1 hbC)
  by_cases h0 : L.length = 0
  · rw [h0]
    go_wp2_with fail
    with_reducible refine (next_x _ _ _ _ (by omega) (by omega) T1).mono ?_
    rintro e w5 ⟨q5, q50, q51, rfl, T5, g5⟩
    have G5 := grown_trans g1 g5
    by_cases hq5 : q5 = 0
    · subst hq5
      go_wp2_with fail
      with_reducible refine (odd_x _ _ _ T5 (by have := G5.size; omega)).mono ?_
      rintro e w6 ⟨z6, rfl, T6, g6⟩
      have G6 := grown_trans G5 g6
      go_wp2_with fail
      with_reducible refine (odd_x _ _ _ T6 (by have := G6.size; omega)).mono ?_
      rintro e w7 ⟨z7, rfl, T7, g7⟩
      have G7 := grown_trans G6 g7
      go_wp2
      refine bodyPost_ret (v := .tuple #[.int .i64 z6, .int .i64 z7]) (by simp [results, Try.results10, go_sem]) rfl ⟨_, _, rfl, T7, G7⟩
    · go_wp2_with fail
      with_reducible refine (next_x _ _ _ _ (by omega) (by omega) T5).mono ?_
      rintro e w6 ⟨z6, z60, z61, rfl, T6, g6⟩
      have G6 := grown_trans G5 g6
      go_wp2
      refine bodyPost_ret (v := .tuple #[.int .i64 q, .int .i64 (q + z6)]) (by simp [results, Try.results10, go_sem]) rfl ⟨_, _, rfl, T6, G6⟩
  · have h1 : 1 ≤ L.length := by omega
    have h1i : (0 : Int) < (L.length : Int) := by omega
    go_wp2_with fail
    with_reducible refine (next_x _ _ _ _ (by omega) (by omega) T1).mono ?_
    rintro e w2 ⟨q2, q20, q21, rfl, T2, g2⟩
    have R2 := Lib.hid (R1.out.past g2 hbC)
    have G2 := grown_trans g1 g2
    clear T1 g1 g2 R1
    go_upto_if 17 with fail
    go_cut [6, 7] from 16 to 56 (AccCut w B b)
    case first =>
      by_cases hq : 0 < q2
      · skip
        · go_wp2_with fail
          · skip
            with_reducible refine (next_x _ _ _ _ (by omega) (by omega) T2).mono ?_
            rintro e w4 ⟨q3, q30, q31, rfl, T4, g4⟩
            obtain ⟨p, rfl⟩ := Int.eq_ofNat_of_zero_le q30
            have hp2 : p < L.length := by omega
            have R4 := R2.out.past g4 hbC
            have G4 := grown_trans G2 g4
            obtain ⟨g, rfl, hgw, hg, he⟩ := rowN_at R4 hp2
            obtain ⟨s, hs⟩ : ∃ s, L.getD p zS = s := ⟨_, rfl⟩
            rw [hs] at he
            obtain ⟨p0, p1, p2, p3, p4, p5⟩ := he
            clear hs R4 R2 g4 T2 G2
            go_upto_region 4 with fail
            clear p0 p1 p2 p3 p4 p5
            have X := Own.new w4 36 (csS s)
            have T5 := T4.alloc (.cells (csS s) 36)
            have G5 := grown_alloc G4 (.cells (csS s) 36)
            have hgs4 := G4.size
            generalize World.alloc w4 _ = w5 at *
            generalize w4.heap.size = sx at *
            have l_X := X.lt
            obtain ⟨X0, X1, X2, X3, X4, X5⟩ := X.six
            refine wp_region_held_drew (S := (fun w' => w'.cell? ⟨sx, 1, none⟩ = some (.int .i64 s.a) ∧ w'.cell? ⟨sx, 2, none⟩ = some (.int .i64 s.b) ∧ w'.cell? ⟨sx, 3, none⟩ = some (.int .i64 s.d))) (by kernel_rfl) ?_ (fun hHeld => ?_)
            · (refine ⟨?_, ?_, ?_⟩ <;> (repeat (first | with_reducible assumption | with_reducible refine far_drew ?_ | with_reducible refine far_alloc ?_)))
            refine wpAnyH_take (i := 0) (oi := ⟨some 25, _, _, _, _, _⟩) (v := ?vv1) rfl (by kernel_rfl) (by kernel_rfl) (by kernel_rfl) (fun _ _ _ h => h) (Or.inl ⟨by rfl, ?yy1⟩) (by assumption) ?rr1
            case yy1 => (intro w hSw; (try dsimp only at hSw); go_simp; (try with_reducible rfl))
            try simp only [Act.put, List.setIfInBounds_toArray, List.set_cons_zero, List.set_cons_succ]
            refine wpAnyH_take (i := 1) (oi := ⟨some 26, _, _, _, _, _⟩) (v := ?vv2) rfl (by kernel_rfl) (by kernel_rfl) (by kernel_rfl) (fun _ _ _ h => h) (Or.inl ⟨by rfl, ?yy2⟩) (by assumption) ?rr2
            case yy2 => (intro w hSw; (try dsimp only at hSw); go_simp; (try with_reducible rfl))
            try simp only [Act.put, List.setIfInBounds_toArray, List.set_cons_zero, List.set_cons_succ]
            refine wpAnyH_take (i := 2) (oi := ⟨some 27, _, _, _, _, _⟩) (v := ?vv3) rfl (by kernel_rfl) (by kernel_rfl) (by kernel_rfl) (fun _ _ _ h => h) (Or.inl ⟨by rfl, ?yy3⟩) (by assumption) ?rr3
            case yy3 => (intro w hSw; (try dsimp only at hSw); go_simp; (try with_reducible rfl))
            try simp only [Act.put, List.setIfInBounds_toArray, List.set_cons_zero, List.set_cons_succ]
            refine wpAnyH_take (i := 3) (oi := ⟨some 28, _, _, _, _, _⟩) (v := ?vv4) rfl (by kernel_rfl) (by kernel_rfl) (by kernel_rfl) (fun _ _ _ h => h) (Or.inl ⟨by rfl, ?yy4⟩) (by assumption) ?rr4
            case yy4 => (intro w hSw; (try dsimp only at hSw); go_simp; (try with_reducible rfl))
            try simp only [Act.put, List.setIfInBounds_toArray, List.set_cons_zero, List.set_cons_succ]
            refine wpAnyH_take (i := 4) (oi := ⟨some 29, _, _, _, _, _⟩) (v := ?vv5) rfl (by kernel_rfl) (by kernel_rfl) (by kernel_rfl) (fun _ _ _ h => h) (Or.inl ⟨by rfl, ?yy5⟩) (by assumption) ?rr5
            case yy5 => (intro w hSw; (try dsimp only at hSw); go_simp; (try with_reducible rfl))
            try simp only [Act.put, List.setIfInBounds_toArray, List.set_cons_zero, List.set_cons_succ]
            refine wpAnyH_take (i := 5) (oi := ⟨some 30, _, _, _, _, _⟩) (v := ?vv6) rfl (by kernel_rfl) (by kernel_rfl) (by kernel_rfl) (fun _ _ _ h => h) (Or.inl ⟨by rfl, ?yy6⟩) (by assumption) ?rr6
            case yy6 => (intro w hSw; (try dsimp only at hSw); go_simp; (try with_reducible rfl))
            try simp only [Act.put, List.setIfInBounds_toArray, List.set_cons_zero, List.set_cons_succ]
            refine wpAnyH_take (i := 6) (oi := ⟨some 31, _, _, _, _, _⟩) (v := ?vv7) rfl (by kernel_rfl) (by kernel_rfl) (by kernel_rfl) (fun _ _ _ h => h) (Or.inl ⟨by rfl, ?yy7⟩) (by assumption) ?rr7
            case yy7 => (intro w hSw; (try dsimp only at hSw); go_simp; (try with_reducible rfl))
            try simp only [Act.put, List.setIfInBounds_toArray, List.set_cons_zero, List.set_cons_succ]
            refine wpAnyH_take (i := 7) (oi := ⟨some 32, _, _, _, _, _⟩) (v := ?vv8) rfl (by kernel_rfl) (by kernel_rfl) (by kernel_rfl) (fun _ _ _ h => h) (Or.inl ⟨by rfl, ?yy8⟩) (by assumption) ?rr8
            case yy8 => (intro w hSw; (try dsimp only at hSw); go_simp; (try with_reducible rfl))
            try simp only [Act.put, List.setIfInBounds_toArray, List.set_cons_zero, List.set_cons_succ]
            refine wpAnyH_take (i := 8) (oi := ⟨some 33, _, _, _, _, _⟩) (v := ?vv9) rfl (by kernel_rfl) (by kernel_rfl) (by kernel_rfl) (fun _ _ _ h => h) (Or.inl ⟨by rfl, ?yy9⟩) (by assumption) ?rr9
            case yy9 => (intro w hSw; (try dsimp only at hSw); go_simp; (try with_reducible rfl))
            try simp only [Act.put, List.setIfInBounds_toArray, List.set_cons_zero, List.set_cons_succ]
            refine wpAnyH_take (i := 9) (oi := ⟨some 34, _, _, _, _, _⟩) (v := ?vv10) rfl (by kernel_rfl) (by kernel_rfl) (by kernel_rfl) (fun _ _ _ h => h) (Or.inl ⟨by rfl, ?yy10⟩) (by assumption) ?rr10
            case yy10 => (intro w hSw; (try dsimp only at hSw); go_simp; (try with_reducible rfl))
            try simp only [Act.put, List.setIfInBounds_toArray, List.set_cons_zero, List.set_cons_succ]
            refine wpAnyH_take (i := 10) (oi := ⟨some 35, _, _, _, _, _⟩) (v := ?vv11) rfl (by kernel_rfl) (by kernel_rfl) (by kernel_rfl) (fun _ _ _ h => h) (Or.inl ⟨by rfl, ?yy11⟩) (by assumption) ?rr11
            case yy11 => (intro w hSw; (try dsimp only at hSw); go_simp; (try with_reducible rfl))
            try simp only [Act.put, List.setIfInBounds_toArray, List.set_cons_zero, List.set_cons_succ]
            refine wpAnyH_take (i := 11) (oi := ⟨some 36, _, _, _, _, _⟩) (v := ?vv12) rfl (by kernel_rfl) (by kernel_rfl) (by kernel_rfl) (fun _ _ _ h => h) (Or.inl ⟨by rfl, ?yy12⟩) (by assumption) ?rr12
            case yy12 => (intro w hSw; (try dsimp only at hSw); go_simp; (try with_reducible rfl))
            try simp only [Act.put, List.setIfInBounds_toArray, List.set_cons_zero, List.set_cons_succ]
            refine wpAnyH_take (i := 12) (oi := ⟨some 37, _, _, _, _, _⟩) (v := ?vv13) rfl (by kernel_rfl) (by kernel_rfl) (by kernel_rfl) (fun _ _ _ h => h) (Or.inl ⟨by rfl, ?yy13⟩) (by assumption) ?rr13
            case yy13 => (intro w hSw; (try dsimp only at hSw); go_simp; (try with_reducible rfl))
            try simp only [Act.put, List.setIfInBounds_toArray, List.set_cons_zero, List.set_cons_succ]
            refine wpAnyH_take (i := 13) (oi := ⟨some 38, _, _, _, _, _⟩) (v := ?vv14) rfl (by kernel_rfl) (by kernel_rfl) (by kernel_rfl) (fun _ _ _ h => h) (Or.inl ⟨by rfl, ?yy14⟩) (by assumption) ?rr14
            case yy14 => (intro w hSw; (try dsimp only at hSw); go_simp; (try with_reducible rfl))
            try simp only [Act.put, List.setIfInBounds_toArray, List.set_cons_zero, List.set_cons_succ]
            refine wpAnyH_take (i := 14) (oi := ⟨some 39, _, _, _, _, _⟩) (v := ?vv15) rfl (by kernel_rfl) (by kernel_rfl) (by kernel_rfl) (fun _ _ _ h => h) (Or.inl ⟨by rfl, ?yy15⟩) (by assumption) ?rr15
            case yy15 => (intro w hSw; (try dsimp only at hSw); go_simp; (try with_reducible rfl))
            try simp only [Act.put, List.setIfInBounds_toArray, List.set_cons_zero, List.set_cons_succ]
            refine wpAnyH_take (i := 15) (oi := ⟨some 40, _, _, _, _, _⟩) (v := ?vv16) rfl (by kernel_rfl) (by kernel_rfl) (by kernel_rfl) (fun _ _ _ h => h) (Or.inl ⟨by rfl, ?yy16⟩) (by assumption) ?rr16
            case yy16 => (intro w hSw; (try dsimp only at hSw); go_simp; (try with_reducible rfl))
            try simp only [Act.put, List.setIfInBounds_toArray, List.set_cons_zero, List.set_cons_succ]
            refine wpAnyH_take (i := 16) (oi := ⟨some 41, _, _, _, _, _⟩) (v := ?vv17) rfl (by kernel_rfl) (by kernel_rfl) (by kernel_rfl) (fun _ _ _ h => h) (Or.inl ⟨by rfl, ?yy17⟩) (by assumption) ?rr17
            case yy17 => (intro w hSw; (try dsimp only at hSw); go_simp; (try with_reducible rfl))
            try simp only [Act.put, List.setIfInBounds_toArray, List.set_cons_zero, List.set_cons_succ]
            refine wpAnyH_take (i := 17) (oi := ⟨some 42, _, _, _, _, _⟩) (v := ?vv18) rfl (by kernel_rfl) (by kernel_rfl) (by kernel_rfl) (fun _ _ _ h => h) (Or.inl ⟨by rfl, ?yy18⟩) (by assumption) ?rr18
            case yy18 => (intro w hSw; (try dsimp only at hSw); go_simp; (try with_reducible rfl))
            try simp only [Act.put, List.setIfInBounds_toArray, List.set_cons_zero, List.set_cons_succ]
            refine wpAnyH_take (i := 18) (oi := ⟨some 43, _, _, _, _, _⟩) (v := ?vv19) rfl (by kernel_rfl) (by kernel_rfl) (by kernel_rfl) (fun _ _ _ h => h) (Or.inl ⟨by rfl, ?yy19⟩) (by assumption) ?rr19
            case yy19 => (intro w hSw; (try dsimp only at hSw); go_simp; (try with_reducible rfl))
            try simp only [Act.put, List.setIfInBounds_toArray, List.set_cons_zero, List.set_cons_succ]
            refine wpAnyH_take (i := 19) (oi := ⟨some 44, _, _, _, _, _⟩) (v := ?vv20) rfl (by kernel_rfl) (by kernel_rfl) (by kernel_rfl) (fun _ _ _ h => h) (Or.inl ⟨by rfl, ?yy20⟩) (by assumption) ?rr20
            case yy20 => (intro w hSw; (try dsimp only at hSw); go_simp; (try with_reducible rfl))
            try simp only [Act.put, List.setIfInBounds_toArray, List.set_cons_zero, List.set_cons_succ]
            refine wpAnyH_take (i := 20) (oi := ⟨some 45, _, _, _, _, _⟩) (v := ?vv21) rfl (by kernel_rfl) (by kernel_rfl) (by kernel_rfl) (fun _ _ _ h => h) (Or.inl ⟨by rfl, ?yy21⟩) (by assumption) ?rr21
            case yy21 => (intro w hSw; (try dsimp only at hSw); go_simp; (try with_reducible rfl))
            try simp only [Act.put, List.setIfInBounds_toArray, List.set_cons_zero, List.set_cons_succ]
            refine wpAnyH_take (i := 21) (oi := ⟨some 46, _, _, _, _, _⟩) (v := ?vv22) rfl (by kernel_rfl) (by kernel_rfl) (by kernel_rfl) (fun _ _ _ h => h) (Or.inl ⟨by rfl, ?yy22⟩) (by assumption) ?rr22
            case yy22 => (intro w hSw; (try dsimp only at hSw); go_simp; (try with_reducible rfl))
            try simp only [Act.put, List.setIfInBounds_toArray, List.set_cons_zero, List.set_cons_succ]
            refine wpAnyH_take (i := 22) (oi := ⟨some 47, _, _, _, _, _⟩) (v := ?vv23) rfl (by kernel_rfl) (by kernel_rfl) (by kernel_rfl) (fun _ _ _ h => h) (Or.inl ⟨by rfl, ?yy23⟩) (by assumption) ?rr23
            case yy23 => (intro w hSw; (try dsimp only at hSw); go_simp; (try with_reducible rfl))
            try simp only [Act.put, List.setIfInBounds_toArray, List.set_cons_zero, List.set_cons_succ]
            refine wpAnyH_take (i := 23) (oi := ⟨some 48, _, _, _, _, _⟩) (v := ?vv24) rfl (by kernel_rfl) (by kernel_rfl) (by kernel_rfl) (fun _ _ _ h => h) (Or.inl ⟨by rfl, ?yy24⟩) (by assumption) ?rr24
            case yy24 => (intro w hSw; (try dsimp only at hSw); go_simp; (try with_reducible rfl))
            try simp only [Act.put, List.setIfInBounds_toArray, List.set_cons_zero, List.set_cons_succ]
            refine wpAnyH_take (i := 24) (oi := ⟨some 49, _, _, _, _, _⟩) (v := ?vv25) rfl (by kernel_rfl) (by kernel_rfl) (by kernel_rfl) (fun _ _ _ h => h) (Or.inl ⟨by rfl, ?yy25⟩) (by assumption) ?rr25
            case yy25 => (intro w hSw; (try dsimp only at hSw); go_simp; (try with_reducible rfl))
            try simp only [Act.put, List.setIfInBounds_toArray, List.set_cons_zero, List.set_cons_succ]
            refine wpAnyH_take (i := 25) (oi := ⟨some 50, _, _, _, _, _⟩) (v := ?vv26) rfl (by kernel_rfl) (by kernel_rfl) (by kernel_rfl) (fun _ _ _ h => h) (Or.inl ⟨by rfl, ?yy26⟩) (by assumption) ?rr26
            case yy26 => (intro w hSw; (try dsimp only at hSw); go_simp; (try with_reducible rfl))
            try simp only [Act.put, List.setIfInBounds_toArray, List.set_cons_zero, List.set_cons_succ]
            refine wpAnyH_take (i := 26) (oi := ⟨some 51, _, _, _, _, _⟩) (v := ?vv27) rfl (by kernel_rfl) (by kernel_rfl) (by kernel_rfl) (fun _ _ _ h => h) (Or.inl ⟨by rfl, ?yy27⟩) (by assumption) ?rr27
            case yy27 => (intro w hSw; (try dsimp only at hSw); go_simp; (try with_reducible rfl))
            try simp only [Act.put, List.setIfInBounds_toArray, List.set_cons_zero, List.set_cons_succ]
            refine wpAnyH_take (i := 28) (oi := ⟨some 53, _, _, _, _, _⟩) (v := ?vv28) rfl (by kernel_rfl) (by kernel_rfl) (by kernel_rfl) (fun _ _ _ h => h) (Or.inl ⟨by rfl, ?yy28⟩) (by assumption) ?rr28
            case yy28 => (intro w hSw; (try dsimp only at hSw); go_simp; (try with_reducible rfl))
            try simp only [Act.put, List.setIfInBounds_toArray, List.set_cons_zero, List.set_cons_succ]
            refine wpAnyH_ready (rs := [27, 29]) (by kernel_rfl) (by simp) ?_
            refine AllReadyH.cons (o := ⟨some 52, _, _, _, _, _⟩) rfl (fun K hK => ?stA29) (AllReadyH.cons (o := ⟨some 54, _, _, _, _, _⟩) rfl (fun K hK => ?stB29) AllReadyH.nil)
            case stA29 =>
              go_simp
              refine hK.out _ _ ?hs30 (fun hHeld => ?re30)
              case hs30 => ((try dsimp only); (refine ⟨?_, ?_, ?_⟩ <;> (repeat (first | with_reducible assumption | with_reducible refine far_drew ?_ | with_reducible refine far_alloc ?_))))
              clear hK K
              try simp only [Act.put, List.setIfInBounds_toArray, List.set_cons_zero, List.set_cons_succ]
              refine wpAnyH_ready (rs := [29]) (by kernel_rfl) (by simp) ?_
              refine AllReadyH.cons (o := ⟨some 54, _, _, _, _, _⟩) rfl (fun K hK => ?st34) ?mo34
              case mo34 => exact AllReadyH.nil
              go_simp
              go_at_call 25
              with_reducible refine (next_x _ _ 9 _ (by omega) (by omega) (T5.alloc _).drew).mono ?_
              rintro e w6 ⟨q4, q40, q41, rfl, T6, g6⟩
              have X6 : Own w6 sx 36 (csS s) := (X.alloc _).drew.past g6 (by omega)
              have G6 : w.grownBy w6 (some b) := grown_trans (grown_drew (grown_alloc G5 _)) g6
              obtain ⟨p4, rfl⟩ := Int.eq_ofNat_of_zero_le q40
              obtain ⟨z, hsl⟩ := sl9_at s p4 (by omega)
              have SL := (Own.new w5 _ _).drew.past g6 (by omega)
              have hc4 := (SL.cell p4).trans hsl
              have lS := SL.lt
              clear X0 X1 X2 X3 X4 X5
              obtain ⟨X0, X1, X2, X3, X4, X5⟩ := X6.six
              have l6 := X6.lt
              refine hK.out _ _ ?hs34 (fun hHeld => ?re34)
              case hs34 => ((try dsimp only); (refine ⟨?_, ?_, ?_⟩ <;> (repeat (first | with_reducible assumption | with_reducible refine far_drew ?_ | with_reducible refine far_alloc ?_))))
              clear hK K
              try simp only [Act.put, List.setIfInBounds_toArray, List.set_cons_zero, List.set_cons_succ]
              refine wpAnyH_take (i := 30) (oi := ⟨some 55, _, _, _, _, _⟩) (v := ?vv31) rfl (by kernel_rfl) (by kernel_rfl) (by kernel_rfl) (fun _ _ _ h => h) (Or.inl ⟨by rfl, ?yy31⟩) (by assumption) ?rr31
              case yy31 => (intro w hSw; (try dsimp only at hSw); go_simp; (try with_reducible rfl))
              try simp only [Act.put, List.setIfInBounds_toArray, List.set_cons_zero, List.set_cons_succ]
              refine wpAnyH_ready (rs := [31]) (by kernel_rfl) (by simp) ?_
              refine AllReadyH.cons (o := ⟨some 56, _, _, _, _, _⟩) rfl (fun K hK => ?st33) ?mo33
              case mo33 => exact AllReadyH.nil
              go_simp
              refine hK.out _ _ ?hs33 (fun hHeld => ?re33)
              case hs33 => ((try dsimp only); (refine ⟨?_, ?_, ?_⟩ <;> (repeat (first | with_reducible assumption | with_reducible refine far_drew ?_ | with_reducible refine far_alloc ?_))))
              clear hK K
              try simp only [Act.put, List.setIfInBounds_toArray, List.set_cons_zero, List.set_cons_succ]
              refine wpAnyH_take (i := 32) (oi := ⟨some 6, _, _, _, _, _⟩) (v := ?vv32) rfl (by kernel_rfl) (by kernel_rfl) (by kernel_rfl) (fun _ _ _ h => h) (Or.inl ⟨by rfl, ?yy32⟩) (by assumption) ?rr32
              case yy32 => (intro w hSw; (try dsimp only at hSw); go_simp; (try with_reducible rfl))
              try simp only [Act.put, List.setIfInBounds_toArray, List.set_cons_zero, List.set_cons_succ]
              refine wpAnyH_done (by kernel_rfl) ?_ _
              go_wp2_with fail
              go_meet
              exact ⟨z, rfl, T6, G6⟩
            case stB29 =>
              go_simp
              go_at_call 25
              with_reducible refine (next_x _ _ 9 _ (by omega) (by omega) T5.drew).mono ?_
              rintro e w6 ⟨q4, q40, q41, rfl, T6, g6⟩
              have X6 : Own w6 sx 36 (csS s) := X.drew.past g6 (by omega)
              have G6 : w.grownBy w6 (some b) := grown_trans (grown_drew G5) g6
              obtain ⟨p4, rfl⟩ := Int.eq_ofNat_of_zero_le q40
              obtain ⟨z, hsl⟩ := sl9_at s p4 (by omega)
              clear X0 X1 X2 X3 X4 X5
              obtain ⟨X0, X1, X2, X3, X4, X5⟩ := X6.six
              have l6 := X6.lt
              refine hK.out _ _ ?hs35 (fun hHeld => ?re35)
              case hs35 => ((try dsimp only); (refine ⟨?_, ?_, ?_⟩ <;> (repeat (first | with_reducible assumption | with_reducible refine far_drew ?_ | with_reducible refine far_alloc ?_))))
              clear hK K
              try simp only [Act.put, List.setIfInBounds_toArray, List.set_cons_zero, List.set_cons_succ]
              refine wpAnyH_ready (rs := [27]) (by kernel_rfl) (by simp) ?_
              refine AllReadyH.cons (o := ⟨some 52, _, _, _, _, _⟩) rfl (fun K hK => ?st39) ?mo39
              case mo39 => exact AllReadyH.nil
              go_simp
              have hc4 := ((Own.new w6 3 _).cell p4).trans hsl
              refine hK.out _ _ ?hs39 (fun hHeld => ?re39)
              case hs39 => ((try dsimp only); (refine ⟨?_, ?_, ?_⟩ <;> (repeat (first | with_reducible assumption | with_reducible refine far_drew ?_ | with_reducible refine far_alloc ?_))))
              clear hK K
              try simp only [Act.put, List.setIfInBounds_toArray, List.set_cons_zero, List.set_cons_succ]
              refine wpAnyH_take (i := 30) (oi := ⟨some 55, _, _, _, _, _⟩) (v := ?vv36) rfl (by kernel_rfl) (by kernel_rfl) (by kernel_rfl) (fun _ _ _ h => h) (Or.inl ⟨by rfl, ?yy36⟩) (by assumption) ?rr36
              case yy36 => (intro w hSw; (try dsimp only at hSw); go_simp; (try with_reducible rfl))
              try simp only [Act.put, List.setIfInBounds_toArray, List.set_cons_zero, List.set_cons_succ]
              refine wpAnyH_ready (rs := [31]) (by kernel_rfl) (by simp) ?_
              refine AllReadyH.cons (o := ⟨some 56, _, _, _, _, _⟩) rfl (fun K hK => ?st38) ?mo38
              case mo38 => exact AllReadyH.nil
              go_simp
              refine hK.out _ _ ?hs38 (fun hHeld => ?re38)
              case hs38 => ((try dsimp only); (refine ⟨?_, ?_, ?_⟩ <;> (repeat (first | with_reducible assumption | with_reducible refine far_drew ?_ | with_reducible refine far_alloc ?_))))
              clear hK K
              try simp only [Act.put, List.setIfInBounds_toArray, List.set_cons_zero, List.set_cons_succ]
              refine wpAnyH_take (i := 32) (oi := ⟨some 6, _, _, _, _, _⟩) (v := ?vv37) rfl (by kernel_rfl) (by kernel_rfl) (by kernel_rfl) (fun _ _ _ h => h) (Or.inl ⟨by rfl, ?yy37⟩) (by assumption) ?rr37
              case yy37 => (intro w hSw; (try dsimp only at hSw); go_simp; (try with_reducible rfl))
              try simp only [Act.put, List.setIfInBounds_toArray, List.set_cons_zero, List.set_cons_succ]
              refine wpAnyH_done (by kernel_rfl) ?_ _
              go_wp2_with fail
              go_meet
              exact ⟨z, rfl, T6.alloc _, grown_alloc G6 _⟩
      · have hq0 : q2 = 0 := by omega
        subst hq0
        go_wp2_with fail
        go_meet
        exact ⟨_, rfl, T2, G2⟩
    case rest =>
      clear T2 G2 R2
      obtain ⟨z, rfl, T4, G4⟩ := hcut
      go_wp2_with fail
      with_reducible refine (next_x _ _ _ _ (by omega) (by omega) T4).mono ?_
      rintro e w5 ⟨q5, q50, q51, rfl, T5, g5⟩
      have G5 := grown_trans G4 g5
      by_cases hq5 : q5 = 0
      · subst hq5
        go_wp2_with fail
        with_reducible refine (odd_x _ _ _ T5 (by have := G5.size; omega)).mono ?_
        rintro e w6 ⟨z6, rfl, T6, g6⟩
        have G6 := grown_trans G5 g6
        go_wp2_with fail
        with_reducible refine (odd_x _ _ _ T6 (by have := G6.size; omega)).mono ?_
        rintro e w7 ⟨z7, rfl, T7, g7⟩
        have G7 := grown_trans G6 g7
        go_wp2
        refine bodyPost_ret (v := .tuple #[.int .i64 z6, .int .i64 z7]) (by simp [results, Try.results10, go_sem]) rfl ⟨_, _, rfl, T7, G7⟩
      · go_wp2_with fail
        with_reducible refine (next_x _ _ _ _ (by omega) (by omega) T5).mono ?_
        rintro e w6 ⟨z6, z60, z61, rfl, T6, g6⟩
        have G6 := grown_trans G5 g6
        go_wp2
        refine bodyPost_ret (v := .tuple #[.int .i64 z, .int .i64 (wrap64 (z + z6))]) (by simp [results, Try.results10, go_sem]) rfl ⟨_, _, rfl, T6, G6⟩
end Go.Proofs.Ythdcmknenjallaa

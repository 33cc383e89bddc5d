/- StreamAgain holds: an access within the last one of a stream changes nothing of the stream but its stamp. -/
import Derived.Test.YthdcmknenjallaaStU
import Derived.Test.YthdcmknenjallaaStW
namespace Go.Mine
open Go Go.RowKit
theorem ElS.drew {w : World} {g k : Nat} {x : Str} (h : ElS w g k x) : ElS w.drew g k x := h
theorem ElS.past {w w' : World} {g k b : Nat} {x : Str} (h : ElS w g k x) (G : w.grownBy w' (some b)) (hg : g < w.heap.size) (hb : g ≠ b) : ElS w' g k x := by
  have e : ∀ j, w'.cell? ⟨g, j, none⟩ = w.cell? ⟨g, j, none⟩ := fun j => World.cell?_of_block (a := ⟨g, j, none⟩) (G.block g hg (fun e => hb (Option.some.inj e)))
  exact ⟨(e _).trans h.1, (e _).trans h.2.1, (e _).trans h.2.2.1, (e _).trans h.2.2.2.1, (e _).trans h.2.2.2.2.1, (e _).trans h.2.2.2.2.2⟩
end Go.Mine
namespace Go.Proofs.Ythdcmknenjallaa
open Go.ChangeShapes Go.WideShapes Go.ChangeAt Go.RowKit Go.Mine

theorem again_same {s : Str} {a b : Int} (h : RgtP s) (h0 : s.a ≤ a) (h1 : a < b) (h2 : b ≤ s.b) : becF s a b = s ∧ mtcB s a b = true := by
  have r : rgtB s = true := decide_eq_true h
  have hA : accB a b = true := decide_eq_true ⟨by have := h.1.1; omega, h1, by have := h.1.2.2; omega⟩
  have f1 : fwdB s a b = false := decide_eq_false (by omega)
  have f2 : bwdB s a b = false := decide_eq_false (by omega)
  have f3 : sdB s a b = false := decide_eq_false (by unfold StpP; omega)
  have f4 : agnB s a b = true := decide_eq_true ⟨h0, h2⟩
  simp [becF, mtcB, r, hA, f1, f2, f3, f4]
theorem matches_same {s : Str} {a b : Int} (w : World) (h : RgtP s) (h0 : s.a ≤ a) (h1 : a < b) (h2 : b ≤ s.b) : Calls Try.prog 16 #[strV s, .int .i64 a, .int .i64 b] w (RetG (.tuple #[strV s, .bool true]) w) := by
  have k := matches_any s a b w (rgt_mild h)
  rw [(again_same h h0 h1 h2).1, (again_same h h0 h1 h2).2] at k
  exact k
set_option maxRecDepth 100000 in
set_option maxHeartbeats 4000000 in
theorem again_core (A : Option Addr) (c : Nat) (xs : List Int) (w : World) (hr : IntRow w A xs) (hm : xs.length ≤ maxLen) :
    Calls Try.prog 8 #[.slice A xs.length c] w (RetG (.bool true) w) := by
  have tp := Tp.made hr hm c 25
  have HR := Lib.hid hr
  clear hr
  generalize hX : xs.length = X at *
  clear hX
  go_enter Try.func8, Try.ntmps8
  go_wp2_with fail
  have G0 : w.grownBy (w.alloc (.cells #[.slice A X c, .int .i64 0] 25)) (some w.heap.size) := grown_alloc (grown_refl _ _) _
  generalize World.alloc w _ = w0 at *
  have hsz0 : w.heap.size + 1 ≤ w0.heap.size := tp.lt
  with_reducible refine (streams_x _ _ _ tp hsz0).mono ?_
  rintro e w1 ⟨v, L, rfl, hS, R, T1, g1⟩
  have HS := Lib.hid hS
  have hle := hS.le
  have G1 := grown_trans G0 g1
  have hs1 := g1.size
  clear hS tp G0 g1
  obtain ⟨a, c, rfl, -⟩ := R.rd
  by_cases h0 : L.length = 0
  · rw [h0]
    go_wp2_with fail
    with_reducible refine (awake_any _).mono ?_
    rintro e w2 ⟨rfl, g2⟩
    go_wp2
    go_ret
    exact ⟨rfl, ((Grew.refl w).past G1 (Nat.le_refl _)).trans g2⟩
  · have h1 : 1 ≤ L.length := by omega
    have e0 : ((L.length : Int) == 0) = false := beqF (by omega)
    have R1 := Lib.hid R
    clear R
    go_wp2_with fail
    with_reducible refine (next_x _ _ _ _ (by omega) (by omega) T1).mono ?_
    rintro e w2 ⟨q, q0, q1, rfl, T2, g2⟩
    obtain ⟨i, rfl⟩ := Int.eq_ofNat_of_zero_le q0
    have hi : i < L.length := by omega
    have R2 := Lib.hid (R1.out.past g2 (by omega))
    have G2 := grown_trans G1 g2
    have hs2 := g2.size
    obtain ⟨g, rfl, hgw, hg, he⟩ := rowN_at R2.out hi
    have hRi := (HS.out.all i hi).1
    obtain ⟨s, hs⟩ : ∃ s, L.getD i zS = s := ⟨_, rfl⟩
    rw [hs] at he hRi
    have HRi := Lib.hid hRi
    have HE := Lib.hid he
    obtain ⟨x0, x1, x2⟩ := hRi.1
    clear hs hRi T1 G1 g2 R1
    obtain ⟨p0, p1, p2, p3, p4, p5⟩ := he
    have i0 : (0 : Int) ≤ (i : Int) := by omega
    have i1 : (i : Int) < (L.length : Int) := by omega
    have wl : IntKind.i64.wrap (s.b - s.a) = s.b - s.a := IntWalk.i64_in _ (by omega)
    go_upto_region 6 with fail
    go_region_held3 (fun w' => w'.cell? ⟨g, i * 6 + 1, none⟩ = some (.int .i64 s.a) ∧ w'.cell? ⟨g, i * 6 + 2, none⟩ = some (.int .i64 s.b))
      (refine ⟨?_, ?_⟩ <;> (repeat (first | with_reducible assumption | with_reducible refine far_drew ?_)))
      (first | (go_at_call 25; (with_reducible refine (next_x _ _ (s.b - s.a) _ (by omega) (by omega) T2.drew).mono ?_); rintro e w3 ⟨q3, q30, q31, rfl, T3, g3⟩; have E3 : ElS w3 g i s := (HE.out.drew).past g3 hg (by omega); have R3 := Lib.hid (R2.out.drew.past g3 (by omega)); have G3 := grown_trans (grown_drew G2) g3; have wq : IntKind.i64.wrap (s.a + q3) = s.a + q3 := IntWalk.i64_in _ (by omega); have hg3 : g < w3.heap.size := Nat.lt_of_lt_of_le hg g3.size; clear p0 p1 p2 p3 p4 p5; obtain ⟨p0, p1, p2, p3, p4, p5⟩ := E3))
    go_wp2_with fail
    with_reducible refine (next_x _ _ _ _ (by omega) (by omega) T3).mono ?_
    rintro e w4 ⟨q4, q40, q41, rfl, T4, g4⟩
    have E4 := (show ElS w3 g i s from ⟨p0, p1, p2, p3, p4, p5⟩).past g4 hg3 (by omega)
    have R4 := Lib.hid (R3.out.past g4 (by omega))
    have G4 := grown_trans G3 g4
    have hg4 : g < w4.heap.size := Nat.lt_of_lt_of_le hg3 g4.size
    have HE4 := Lib.hid E4
    clear p0 p1 p2 p3 p4 p5 T3 R3 G3
    obtain ⟨p0, p1, p2, p3, p4, p5⟩ := E4
    have b0 : s.a ≤ s.a + q3 := by omega
    have b1 : s.a + q3 < s.a + q3 + 1 + q4 := by omega
    have b2 : s.a + q3 + 1 + q4 ≤ s.b := by omega
    generalize s.a + q3 = fr at *
    go_wp2_with fail
    generalize fr + 1 + q4 = tt at *
    with_reducible refine (matches_same _ HRi.out b0 b1 b2).mono ?_
    rintro e w5 ⟨rfl, g5⟩
    have HE5 := Lib.hid (HE4.out.grew g5 hg4)
    have G5 := grown_trans G4 (grown_row g5.grown)
    have hg5 : g < w5.heap.size := Nat.lt_of_lt_of_le hg4 g5.size
    clear p0 p1 p2 p3 p4 p5 G4
    go_upto_region 11 with fail
    have X := Own.new w5 36 (csS s)
    have GX : Grew w5 (w5.alloc (.cells (csS s) 36)) := (Grew.refl _).alloc _
    have HE6 := Lib.hid (HE5.out.grew GX hg5)
    have G6 := grown_alloc G5 (.cells (csS s) 36)
    generalize World.alloc w5 _ = w6 at *
    have hg6 : g < w6.heap.size := Nat.lt_of_lt_of_le hg5 GX.size
    generalize w5.heap.size = sx at *
    obtain ⟨p0, p1, p2, p3, p4, p5⟩ := HE6.out
    obtain ⟨X0, X1, X2, X3, X4, X5⟩ := X.six
    have l_X := X.lt
    have wb : IntKind.i64.wrap (s.b - 1) = s.b - 1 := IntWalk.i64_in _ (by omega)
    have GA : Grew w w6 := (Grew.refl w).past G6 (Nat.le_refl _)
    clear T2 T4 R2 R4 G2 G5 G6 GX wl hs1 hs2
    cases e2 : s.k == 2
    all_goals
      cases e3 : fr == s.b - 1
      all_goals
        go_quiet (fail)
        revert nq; intro nq1
        have X7 := X.drewN nq1
        have HE7 : Hid (ElS (w6.drewN nq1) g i s) := Lib.hid HE6.out
        have GA7 := GA.drewN nq1
        have hg7 : g < (w6.drewN nq1).heap.size := hg6
        clear X0 X1 X2 X3 X4 X5 p0 p1 p2 p3 p4 p5
        generalize World.drewN w6 nq1 = w7 at *
        obtain ⟨p0, p1, p2, p3, p4, p5⟩ := HE7.out
        obtain ⟨X0, X1, X2, X3, X4, X5⟩ := X7.six
        have l_X7 := X7.lt
        go_wp2_with fail
        go_region_held3 (fun w' => (w'.cell? ⟨sx, 0, none⟩ = some (.int .i64 s.k) ∧ w'.cell? ⟨sx, 1, none⟩ = some (.int .i64 s.a) ∧ w'.cell? ⟨sx, 2, none⟩ = some (.int .i64 s.b) ∧ w'.cell? ⟨sx, 3, none⟩ = some (.int .i64 s.d) ∧ w'.cell? ⟨sx, 4, none⟩ = some (.int .i64 s.h) ∧ w'.cell? ⟨sx, 5, none⟩ = some (.int .i64 s.t)) ∧ w'.cell? ⟨g, i * 6, none⟩ = some (.int .i64 s.k) ∧ w'.cell? ⟨g, i * 6 + 1, none⟩ = some (.int .i64 s.a) ∧ w'.cell? ⟨g, i * 6 + 2, none⟩ = some (.int .i64 s.b) ∧ w'.cell? ⟨g, i * 6 + 3, none⟩ = some (.int .i64 s.d) ∧ w'.cell? ⟨g, i * 6 + 4, none⟩ = some (.int .i64 s.h) ∧ w'.cell? ⟨g, i * 6 + 5, none⟩ = some (.int .i64 s.t))
          (refine ⟨⟨?_, ?_, ?_, ?_, ?_, ?_⟩, ?_, ?_, ?_, ?_, ?_, ?_⟩ <;> (repeat (first | with_reducible assumption | with_reducible refine far_drew ?_)))
          (first | (go_at_call 18; (with_reducible refine (awake_any _).mono ?_); rintro e w8 ⟨rfl, g8⟩; have GB := GA7.drew.trans g8; have E8 := HE7.out.grew ((Grew.refl w7).drew.trans g8) hg7; have X8 := X7.drew.grew g8; clear X0 X1 X2 X3 X4 X5 p0 p1 p2 p3 p4 p5; obtain ⟨p0, p1, p2, p3, p4, p5⟩ := E8; obtain ⟨X0, X1, X2, X3, X4, X5⟩ := X8.six))
        go_wp2
        go_ret
        exact ⟨rfl, GB⟩

theorem Try.own : ownKnob Try.prog.godebug = none := by kernel_rfl
theorem Try.laidOut : laidOutB Try.prog = true := by kernel_rfl

theorem streamAgain_contract (W : World) (base : Nat) (args : Array Value) (H : Type) (enc : TypeId × Value → H) (ds : List (DataW H)) (p : List MemPlace)
    (hval : ∀ (j : Nat) t v, Try.f8.params[j]? = some t → args[j]? = some v → Value.okWide Try.prog W .any base t v)
    (hA : DataW.TrodAll enc Try.prog W 0 (fun _ => true) true Try.f8.params.toList args.toList ds p) :
    (∃ d0, ds = [d0]) ∧ Calls Try.prog 8 args W fun e W' => e = .returned (.bool true) ∧ Below W.heap.size W W' := by
  rw [Try.params8] at hval hA
  obtain ⟨v0, d0, p0, ha, hd, hp, h0⟩ := args_1 hA
  subst ha hd
  obtain ⟨A0, c0, xs0, rfl, hr0, hm0⟩ := open_introw Try.underlying22 Try.underlying3 (by kernel_rfl) (hval 0 _ _ rfl rfl) h0
  exact ⟨⟨_, rfl⟩, (again_core A0 c0 xs0 W hr0 hm0).mono fun _ _ h => h⟩

set_option maxRecDepth 100000 in
theorem streamAgain_lifted (os : Os) (started : os.Started) (H : Type) (enc : TypeId × Value → H) :
    ReturnsInHanded {} Try.checked os 8 .any (Rows.streamAgainSpec.pre6 enc Try.prog Try.f8 Rows.streamAgainRow.domain false) (Rows.streamAgainSpec.post enc Try.prog Try.f8 false true false false) := by
  refine returnsInHanded_of_change (C := Try.checked) Try.own started (by kernel_rfl) Try.func8
    (ChangeSpec.witness6 (enc := enc) (C := Try.checked) false ⟨#[], #[.slice none 0 0], []⟩ 8 (by kernel_rfl) (by kernel_rfl) (by kernel_rfl) (by kernel_rfl)) ?_
  intro W base args ds gs before hval hW _ _
  obtain ⟨p, q, hA, hV, hrest⟩ := id hW
  obtain ⟨⟨d0, rfl⟩, hc⟩ := streamAgain_contract W base args H enc ds p hval hA
  obtain ⟨rfl, -⟩ := trodVars_none hV
  refine hc.mono fun e W' ⟨he, hb⟩ => ⟨_, he, ?_⟩
  exact law_close (tb := 4) Try.laidOut (by rw [Try.params8]; decide +kernel) Try.underlying4 rfl rfl hW rfl rfl rfl hb

theorem streamAgain_holds : Rows.StreamAgainSaid :=
  OpenClaim.holds_of_wide 8 Try.f8 rfl rfl rfl rfl rfl rfl rfl ⟨rfl, rfl, rfl, rfl, rfl⟩ rfl rfl rfl rfl rfl (by kernel_rfl) Try.func8 (by kernel_rfl)
    (of_decide_eq_true (by kernel_rfl)) (by unfold Func.isWrapper; first | (rw [if_pos (by decide +kernel)]; kernel_rfl) | (rw [if_neg (by decide +kernel)]; exact ⟨rfl, rfl⟩))
    (fun os started H enc _ => streamAgain_lifted os started H enc)
end Go.Proofs.Ythdcmknenjallaa

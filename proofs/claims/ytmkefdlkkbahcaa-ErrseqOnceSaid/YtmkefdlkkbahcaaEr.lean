/- The contracts of package errseq (layer 5), at sequences that are right and have room. -/
import Derived.Test.YtmkefdlkkbahcaaRows
import Derived.Test.YtmkefdlkkbahcaaBase
import Derived.Deep.QuietTactic
import Derived.BigQuiet
import Derived.IntWalk
namespace Go.Proofs.Ytmkefdlkkbahcaa
open Go.RowKit Go.Mine

abbrev seqV (c x : Int) : Value := .agg #[.int .i64 c, .int .i64 x]
/-- A right sequence that has room. -/
def Right (c x : Int) : Prop := 0 ≤ c ∧ c ≤ 1000 ∧ 0 ≤ x ∧ (x = 0 ↔ c = 0)
def pendB (c k : Int) : Bool := decide (k < c)
def toldE (c x k : Int) : Int := match pendB c k with | true => x | false => 0
def nextK (c k : Int) : Int := match pendB c k with | true => c | false => k
theorem pend_t {c k : Int} (h : k < c) : pendB c k = true := decide_eq_true h
theorem pend_f {c k : Int} (h : ¬k < c) : pendB c k = false := decide_eq_false h

theorem isRight_any (c x : Int) (w : World) (h : Right c x) : Calls Try.prog 12 #[seqV c x] w (RetG (.bool true) w) := by
  obtain ⟨h0, h1, h2, h3⟩ := h
  have G : Grew w (w.alloc (.cells #[.int .i64 c, .int .i64 x] 28)) := (Grew.refl _).alloc _
  by_cases hc : c = 0
  · have hx := h3.2 hc
    subst hc hx
    go_enter Try.func12, Try.ntmps12
    go_wp2
    go_ret
    exact ⟨rfl, G⟩
  · have hx : ¬x = 0 := fun e => hc (h3.1 e)
    have e1 : (c == 0) = false := by simpa using hc
    have e2 : (x == 0) = false := by simpa using hx
    go_enter Try.func12, Try.ntmps12
    go_wp2
    go_ret
    exact ⟨rfl, G⟩
theorem record_any (c x y : Int) (w : World) (h : Right c x) (hy : 0 < y) (hc : c < 1000) : Calls Try.prog 6 #[seqV c x, .int .i64 y] w (RetG (.tuple #[seqV (c + 1) y, .int .i64 0]) w) := by
  have HH := Lib.hid h
  have h0 := h.1
  have e2 : (y == 0) = false := by simp; omega
  clear h
  go_enter Try.func6, Try.ntmps6
  have O := (Own.new w 28 #[.int .i64 c, .int .i64 x])
  have O2 := Own.new2 w (.cells #[.int .i64 c, .int .i64 x] 28) 28 #[.int .i64 0, .int .i64 0]
  go_wp2_with fail
  with_reducible refine (isRight_any _ _ _ HH.out).mono ?_
  rintro e w1 ⟨rfl, g1⟩
  have P := (O.alloc (.cells #[.int .i64 0, .int .i64 0] 28)).grew g1
  have P2 := O2.grew g1
  have G : Grew w w1 := (((Grew.refl w).alloc _).alloc _).trans g1
  obtain ⟨a0, a1, a2, a3⟩ := P.two
  obtain ⟨b0, b1, b2, b3⟩ := P2.two
  clear g1 O O2
  go_wp2
  have OE : Own _ (w.heap.size + 1) 28 #[.int .i64 (c + 1), .int .i64 y] := (P2.set 0 (.int .i64 (c + 1))).set 1 (.int .i64 y)
  have GE := (G.set (p := ⟨w.heap.size + 1, 0, none⟩) (by simp) (.int .i64 (c + 1))).set (p := ⟨w.heap.size + 1, 1, none⟩) (by simp) (.int .i64 y)
  clear a0 a1 a2 a3 b0 b1 b2 b3 P P2 G
  generalize World.setCell _ _ _ = E at OE GE ⊢
  obtain ⟨b0, b1, b2, b3⟩ := OE.two
  refine bodyPost_ret (v := .tuple #[seqV (c + 1) y, .int .i64 0]) (by simp [results, Try.results6, go_sem, b0, b1]) rfl ⟨rfl, ?_⟩
  exact GE
theorem sample_any (c x : Int) (w : World) (h : Right c x) : Calls Try.prog 7 #[seqV c x] w (RetG (.int .i64 c) w) := by
  have HH := Lib.hid h
  clear h
  go_enter Try.func7, Try.ntmps7
  have O := (Own.new w 28 #[.int .i64 c, .int .i64 x])
  go_wp2_with fail
  with_reducible refine (isRight_any _ _ _ HH.out).mono ?_
  rintro e w1 ⟨rfl, g1⟩
  have P := O.grew g1
  have G : Grew w w1 := ((Grew.refl w).alloc _).trans g1
  obtain ⟨a0, a1, a2, a3⟩ := P.two
  clear g1 O
  go_wp2
  go_ret
  exact ⟨rfl, G⟩
theorem isIn_any (k c x : Int) (w : World) (h0 : 0 ≤ k) (h1 : k ≤ c) : Calls Try.prog 13 #[.int .i64 k, seqV c x] w (RetG (.bool true) w) := by
  have G : Grew w (w.alloc (.cells #[.int .i64 c, .int .i64 x] 28)) := (Grew.refl _).alloc _
  go_enter Try.func13, Try.ntmps13
  go_wp2
  go_ret
  exact ⟨rfl, G⟩
theorem isBehind_any (k c x : Int) (w : World) : Calls Try.prog 14 #[.int .i64 k, seqV c x] w (RetG (.bool (pendB c k)) w) := by
  have G : Grew w (w.alloc (.cells #[.int .i64 c, .int .i64 x] 28)) := (Grew.refl _).alloc _
  go_enter Try.func14, Try.ntmps14
  go_wp2
  go_ret
  exact ⟨rfl, G⟩
theorem pending_any (k c x : Int) (w : World) (h0 : 0 ≤ k) (h1 : k ≤ c) : Calls Try.prog 8 #[seqV c x, .int .i64 k] w (RetG (.bool (pendB c k)) w) := by
  go_enter Try.func8, Try.ntmps8
  have O := (Own.new w 28 #[.int .i64 c, .int .i64 x])
  go_wp2_with fail
  with_reducible refine (isIn_any _ _ _ _ h0 h1).mono ?_
  rintro e w1 ⟨rfl, g1⟩
  have P := O.grew g1
  have G : Grew w w1 := ((Grew.refl w).alloc _).trans g1
  obtain ⟨a0, a1, a2, a3⟩ := P.two
  clear g1 O
  go_wp2_with fail
  with_reducible refine (isBehind_any _ _ _ _).mono ?_
  rintro e w2 ⟨rfl, g2⟩
  go_wp2
  go_ret
  exact ⟨rfl, G.trans g2⟩
theorem look_any (k c x : Int) (w : World) : Calls Try.prog 16 #[.int .i64 k, seqV c x] w (RetG (.tuple #[.int .i64 (toldE c x k), .int .i64 (nextK c k)]) w) := by
  go_enter Try.func16, Try.ntmps16
  have O := (Own.new w 28 #[.int .i64 c, .int .i64 x])
  go_wp2_with fail
  with_reducible refine (isBehind_any _ _ _ _).mono ?_
  rintro e w1 ⟨rfl, g1⟩
  have P := O.grew g1
  have G : Grew w w1 := ((Grew.refl w).alloc _).trans g1
  obtain ⟨a0, a1, a2, a3⟩ := P.two
  clear g1 O
  cases hp : pendB c k
  · go_wp2
    refine bodyPost_ret (v := .tuple #[.int .i64 0, .int .i64 k]) (by simp [results, Try.results16, go_sem]) rfl ⟨by simp [toldE, nextK, hp], ?_⟩
    exact G
  · go_wp2
    go_quiet (fail)
    go_wp2
    refine bodyPost_ret (v := .tuple #[.int .i64 x, .int .i64 c]) (by simp [results, Try.results16, go_sem]) rfl ⟨by simp [toldE, nextK, hp], ?_⟩
    exact G.drewN _
theorem observerAt_any (k : Int) (w : World) : Calls Try.prog 15 #[.int .i64 k] w (RetS (.func (.func 16) #[.int .i64 k] #[]) w) := by
  go_enter Try.func15, Try.ntmps15
  go_wp2
  go_ret
  exact ⟨rfl, rfl⟩
theorem check_any (k c x : Int) (w : World) (h : Right c x) (h0 : 0 ≤ k) (h1 : k ≤ c) : Calls Try.prog 9 #[seqV c x, .int .i64 k] w (RetG (.tuple #[.int .i64 (toldE c x k), .int .i64 (nextK c k)]) w) := by
  have HH := Lib.hid h
  clear h
  go_enter Try.func9, Try.ntmps9
  have O := (Own.new w 28 #[.int .i64 c, .int .i64 x])
  go_wp2_with fail
  with_reducible refine (isRight_any _ _ _ HH.out).mono ?_
  rintro e w1 ⟨rfl, g1⟩
  have P := O.grew g1
  have G : Grew w w1 := ((Grew.refl w).alloc _).trans g1
  obtain ⟨a0, a1, a2, a3⟩ := P.two
  clear g1 O
  go_wp2_with fail
  with_reducible refine (isIn_any _ _ _ _ h0 h1).mono ?_
  rintro e w2 ⟨rfl, g2⟩
  have P2 := P.grew g2
  replace G := G.trans g2
  clear a0 a1 a2 a3 P g2
  obtain ⟨a0, a1, a2, a3⟩ := P2.two
  go_wp2_with fail
  with_reducible refine (observerAt_any _ _).mono ?_
  rintro e w3 ⟨rfl, rfl⟩
  go_wp2_with fail
  with_reducible refine (look_any _ _ _ _).mono ?_
  rintro e w4 ⟨rfl, g4⟩
  go_wp2
  refine bodyPost_ret (v := .tuple #[.int .i64 (toldE c x k), .int .i64 (nextK c k)]) (by simp [results, Try.results9, go_sem, a0]) rfl ⟨rfl, ?_⟩
  exact G.trans g4
set_option maxHeartbeats 4000000 in
theorem awake_any (w : World) : Calls Try.prog 10 #[] w (RetG (.bool true) w) := by
  have r0 : Right 0 0 := by unfold Right; omega
  have r1 : Right 1 10 := by unfold Right; omega
  have HR0 := Lib.hid r0
  have HR1 := Lib.hid r1
  clear r0 r1
  have gA := Grew.refl w
  go_enter Try.func10, Try.ntmps10
  go_wp2_with fail
  with_reducible refine (record_any 0 0 10 _ HR0.out (by omega) (by omega)).mono ?_
  rintro e w1 ⟨rfl, g_w1⟩
  have s_w1 : Grew w w1 := by first | exact g_w1 | exact ((Grew.refl _).alloc _).trans g_w1 | exact (((Grew.refl _).alloc _).alloc _).trans g_w1 | exact (Grew.refl _).drew.trans g_w1 | exact ((Grew.refl _).alloc _).drew.trans g_w1 | exact ((Grew.refl _).drewN _).trans g_w1
  have z_w1 := s_w1.size
  replace gA := gA.trans s_w1
  clear g_w1 s_w1
  go_wp2_with fail
  with_reducible refine (check_any 0 1 10 _ HR1.out (by omega) (by omega)).mono ?_
  rintro e w2 ⟨rfl, g_w2⟩
  have s_w2 : Grew w1 w2 := by first | exact g_w2 | exact ((Grew.refl _).alloc _).trans g_w2 | exact (((Grew.refl _).alloc _).alloc _).trans g_w2 | exact (Grew.refl _).drew.trans g_w2 | exact ((Grew.refl _).alloc _).drew.trans g_w2 | exact ((Grew.refl _).drewN _).trans g_w2
  have z_w2 := s_w2.size
  have E := (Own.new w1 _ _).grew g_w2
  have l_E_w2 := E.lt
  obtain ⟨E0, E1, E2, E3⟩ := E.two
  replace gA := gA.trans s_w2
  clear g_w2 s_w2
  rw [show toldE 1 10 0 = 10 from by decide, show nextK 1 0 = 1 from by decide]
  go_wp2_with fail
  with_reducible refine (check_any 1 1 10 _ HR1.out (by omega) (by omega)).mono ?_
  rintro e w3 ⟨rfl, g_w3⟩
  have s_w3 : Grew w2 w3 := by first | exact g_w3 | exact ((Grew.refl _).alloc _).trans g_w3 | exact (((Grew.refl _).alloc _).alloc _).trans g_w3 | exact (Grew.refl _).drew.trans g_w3 | exact ((Grew.refl _).alloc _).drew.trans g_w3 | exact ((Grew.refl _).drewN _).trans g_w3
  have z_w3 := s_w3.size
  replace E := E.grew s_w3
  clear E0 E1 E2 E3
  have l_E_w3 := E.lt
  obtain ⟨E0, E1, E2, E3⟩ := E.two
  replace gA := gA.trans s_w3
  clear g_w3 s_w3
  rw [show toldE 1 10 1 = 0 from by decide, show nextK 1 1 = 1 from by decide]
  go_wp2_with fail
  with_reducible refine (sample_any 1 10 _ HR1.out).mono ?_
  rintro e w4 ⟨rfl, g_w4⟩
  have s_w4 : Grew w3 w4 := by first | exact g_w4 | exact ((Grew.refl _).alloc _).trans g_w4 | exact (((Grew.refl _).alloc _).alloc _).trans g_w4 | exact (Grew.refl _).drew.trans g_w4 | exact ((Grew.refl _).alloc _).drew.trans g_w4 | exact ((Grew.refl _).drewN _).trans g_w4
  have z_w4 := s_w4.size
  replace E := E.grew s_w4
  clear E0 E1 E2 E3
  have l_E_w4 := E.lt
  obtain ⟨E0, E1, E2, E3⟩ := E.two
  replace gA := gA.trans s_w4
  clear g_w4 s_w4
  go_wp2_with fail
  with_reducible refine (pending_any 0 1 10 _ (by omega) (by omega)).mono ?_
  rintro e w5 ⟨rfl, g_w5⟩
  have s_w5 : Grew w4 w5 := by first | exact g_w5 | exact ((Grew.refl _).alloc _).trans g_w5 | exact (((Grew.refl _).alloc _).alloc _).trans g_w5 | exact (Grew.refl _).drew.trans g_w5 | exact ((Grew.refl _).alloc _).drew.trans g_w5 | exact ((Grew.refl _).drewN _).trans g_w5
  have z_w5 := s_w5.size
  replace E := E.grew s_w5
  clear E0 E1 E2 E3
  have l_E_w5 := E.lt
  obtain ⟨E0, E1, E2, E3⟩ := E.two
  replace gA := gA.trans s_w5
  clear g_w5 s_w5
  rw [show pendB 1 0 = true from by decide]
  go_wp2_with fail
  with_reducible refine (pending_any 1 1 10 _ (by omega) (by omega)).mono ?_
  rintro e w6 ⟨rfl, g_w6⟩
  have s_w6 : Grew w5 w6 := by first | exact g_w6 | exact ((Grew.refl _).alloc _).trans g_w6 | exact (((Grew.refl _).alloc _).alloc _).trans g_w6 | exact (Grew.refl _).drew.trans g_w6 | exact ((Grew.refl _).alloc _).drew.trans g_w6 | exact ((Grew.refl _).drewN _).trans g_w6
  have z_w6 := s_w6.size
  replace E := E.grew s_w6
  clear E0 E1 E2 E3
  have l_E_w6 := E.lt
  obtain ⟨E0, E1, E2, E3⟩ := E.two
  replace gA := gA.trans s_w6
  clear g_w6 s_w6
  rw [show pendB 1 1 = false from by decide]
  go_wp2
  go_ret
  exact ⟨rfl, gA⟩
end Go.Proofs.Ytmkefdlkkbahcaa

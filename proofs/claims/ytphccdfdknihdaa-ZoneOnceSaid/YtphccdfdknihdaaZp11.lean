/- awake of layer 10: it answers true. -/
import Derived.Test.YtphccdfdknihdaaZp6
import Derived.Test.YtphccdfdknihdaaZp10
namespace Go.Proofs.Ytphccdfdknihdaa
open Go.RowKit Go.Mine

abbrev awL : List Zo := [⟨1, 8, 1, 2, 4, [1, 2, 3, 4, 5, 6, 7, 8]⟩, ⟨9, 8, 1, 2, 4, [9, 10, 11, 12, 13, 14, 15, 16]⟩]
abbrev awM : List Zo := [⟨1, 8, 1, 2, 4, [1, 2, 3, 4, 5, 6, 7, 8]⟩, ⟨9, 8, 1, 2, 4, [10, 11, 12, 13, 14, 15, 16]⟩]
theorem aw0 : newX [8, 8] = (awL, 0) := by kernel_rfl
theorem aw1 : takX false awL 1 = (awM, 9, 0) := by kernel_rfl
theorem aw2 : givX awM 9 = (awL, 0) := by kernel_rfl
theorem aw3 : givX awL 9 = (awL, 5) := by kernel_rfl
theorem aw4 : freX awM = 15 := by kernel_rfl
theorem aw5 : okB awL = true := by kernel_rfl
theorem aw6 : okB awM = true := by kernel_rfl
theorem aw7 : lowX awL = false := by kernel_rfl
theorem aw8 : wanX awL = 0 := by kernel_rfl
theorem aw9 : okB [] = false := by kernel_rfl
theorem RetE2.split {p : Nat → Prop} {X : List Zo × Int} {L : List Zo} {er : Int} {B : Nat} {w w' : World} {e : Ending} (h : RetE2 p X B w e w') (hX : X = (L, er)) : ∃ v, e = .returned (.tuple #[v, .int .i64 er]) ∧ ZsR w' (pN p B) v L ∧ Grew w w' := by subst hX; exact h
theorem RetTk.split {p : Nat → Prop} {X : List Zo × Int × Int} {L : List Zo} {f er : Int} {B : Nat} {w w' : World} {e : Ending} (h : RetTk p X B w e w') (hX : X = (L, f, er)) : ∃ v, e = .returned (.tuple #[v, .int .i64 f, .int .i64 er]) ∧ ZsR w' (pN p B) v L ∧ Grew w w' := by subst hX; exact h
theorem small_nil : SmZ [] := ⟨by simp, fun k hk => absurd hk (by simp)⟩
set_option maxRecDepth 100000 in
set_option maxHeartbeats 4000000 in
theorem awake_any (w : World) : Calls Try.prog 25 #[] w (RetG (.bool true) w) := by
  have R0 : RowE 3 1 enc1 (w.alloc (.cells #[.int .i64 8, .int .i64 8] 3)) w.heap.size (.slice (some ⟨w.heap.size, 0, none⟩) 2 2) [8, 8] := RowE.lit w _ rfl rfl (by decide) (Nat.le_refl _)
  obtain ⟨a, c, e, hr, -⟩ := R0.rdI
  injection e with e1 e2 e3
  subst e1 e3
  have HR0 : Hid (RdI (w.alloc (.cells #[.int .i64 8, .int .i64 8] 3)) (fun g => w.heap.size ≤ g) (some ⟨w.heap.size, 0, none⟩) 2 [8, 8]) := Lib.hid hr
  have HG0 := Lib.hid ((Grew.refl w).alloc (.cells #[.int .i64 8, .int .i64 8] 3))
  have hs8 : ([8, 8] : List Int).length ≤ 1000 := by decide
  have HSL := Lib.hid (ok_small aw5)
  have HSM := Lib.hid (ok_small aw6)
  clear R0 hr e2
  go_enter Try.func25, Try.ntmps25
  go_wp2_with fail
  with_reducible refine (new_p HR0.out hs8).mono ?_
  intro e w1 h
  obtain ⟨v1, rfl, Z1, G1⟩ := h.split aw0
  have HZ1 := Lib.hid Z1
  have HG1 := Lib.hid (HG0.out.trans G1)
  clear h Z1 G1
  go_wp2_with fail
  with_reducible refine (take_p HZ1.out HSL.out).mono ?_
  intro e w2 h
  obtain ⟨v2, rfl, Z2, G2⟩ := h.split aw1
  have HZ2 := Lib.hid Z2
  have HG2 := Lib.hid (HG1.out.trans G2)
  clear h Z2 G2
  go_wp2_with fail
  with_reducible refine (give_p HZ2.out HSM.out).mono ?_
  intro e w3 h
  obtain ⟨v3, rfl, Z3, G3⟩ := h.split aw2
  have HZ3 := Lib.hid Z3
  have HM3 := Lib.hid (HZ2.out.grew G3)
  have HG3 := Lib.hid (HG2.out.trans G3)
  clear h Z3 G3
  go_wp2_with fail
  with_reducible refine (give_p HZ3.out HSL.out).mono ?_
  intro e w4 h
  obtain ⟨v4, rfl, -, G4⟩ := h.split aw3
  have HZ4 := Lib.hid (HZ3.out.grew G4)
  have HM4 := Lib.hid (HM3.out.grew G4)
  have HG4 := Lib.hid (HG3.out.trans G4)
  clear h G4
  go_wp2_with fail
  with_reducible refine (free_p HM4.out HSM.out aw4).mono ?_
  rintro e w5 ⟨rfl, g5⟩
  have HZ5 := Lib.hid (HZ4.out.grew g5)
  have HG5 := Lib.hid (HG4.out.trans g5)
  clear g5
  go_wp2_with fail
  with_reducible refine (check_p HZ5.out HSL.out aw5).mono ?_
  rintro e w6 ⟨rfl, g6⟩
  have HZ6 := Lib.hid (HZ5.out.grew g6)
  have HG6 := Lib.hid (HG5.out.trans g6)
  clear g6
  go_wp2_with fail
  with_reducible refine (check_p (ZsR.nil w6 pF none 0) small_nil aw9).mono ?_
  rintro e w7 ⟨rfl, g7⟩
  have HZ7 := Lib.hid (HZ6.out.grew g7)
  have HG7 := Lib.hid (HG6.out.trans g7)
  clear g7
  go_wp2_with fail
  with_reducible refine (low_p HZ7.out HSL.out aw7).mono ?_
  rintro e w8 ⟨rfl, g8⟩
  have HZ8 := Lib.hid (HZ7.out.grew g8)
  have HG8 := Lib.hid (HG7.out.trans g8)
  clear g8
  go_wp2_with fail
  with_reducible refine (want_p HZ8.out HSL.out aw8).mono ?_
  rintro e w9 ⟨rfl, g9⟩
  have HG9 := Lib.hid (HG8.out.trans g9)
  clear g9
  go_wp2
  go_ret
  exact ⟨rfl, HG9.out⟩
end Go.Proofs.Ytphccdfdknihdaa

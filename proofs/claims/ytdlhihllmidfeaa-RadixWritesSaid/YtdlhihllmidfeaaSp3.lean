/- Package radix where it refuses: a tree that is not valid, an index that is none. -/
import Derived.Test.YtdlhihllmidfeaaSp2
import Derived.Test.YtdlhihllmidfeaaRx14
namespace Go.Proofs.Ytdlhihllmidfeaa
open Go.RowKit Go.Mine

abbrev zTree : Value := treeI 0 (.slice none 0 0) 0 0
def ChkNo (w : World) (T : Value) (i er : Int) : Prop := ∀ w', Grew w w' → Calls Try.prog 49 #[T, .int .i64 i] w' (RetG (.int .i64 er) w')
theorem ChkNo.run {w w' : World} {T : Value} {i er : Int} (h : ChkNo w T i er) (G : Grew w w') : Calls Try.prog 49 #[T, .int .i64 i] w' (RetG (.int .i64 er) w') := h w' G
theorem check_bad (H : Int) (s : Value) (x m i : Int) (w : World) (b : BadT w H s x m) : Calls Try.prog 49 #[treeI H s x m, .int .i64 i] w (RetG (.int .i64 1) w) := by
  obtain ⟨a, n, c, rfl⟩ := b.1
  have HB := Lib.hid b
  clear b
  have G := (Grew.refl w).alloc (.cells #[.int .i64 H, .slice a n c, .int .i64 x, .int .i64 m] 28)
  go_enter Try.func49, Try.ntmps49
  go_wp2_with fail
  with_reducible refine (valid_bad H _ _ _ _ (HB.out.grew G)).mono ?_
  rintro e w1 ⟨rfl, g1⟩
  go_wp2
  go_ret
  exact ⟨rfl, G.trans g1⟩
theorem chkNo_bad {H : Int} {s : Value} {x m : Int} {w : World} (b : BadT w H s x m) (i : Int) : ChkNo w (treeI H s x m) i 1 := fun _ G => check_bad H s x m i _ (b.grew G)
theorem chkNo_out {h : Nat} {f : Fen} {s : Value} {x m : Int} {p : Nat → Prop} {w : World} (n : TreeF w p h f s x m) {i : Int} (hi : rangeI i = false) : ChkNo w (treeI h s x m) i 2 := fun w' G => by
  have := check_f h f s x m i p w' (n.grew G)
  rw [show chkE i = 2 from by unfold chkE; rw [hi]] at this
  exact this
section
variable (H : Int) (a : Option Addr) (n c : Nat) (x m i er : Int) (w : World)
theorem get_no (hc : ChkNo w (treeI H (.slice a n c) x m) i er) (he : (er == 0) = false) : Calls Try.prog 17 #[treeI H (.slice a n c) x m, .int .i64 i] w (RetG (.int .i64 0) w) := by
  have HC := Lib.hid hc
  clear hc
  have G := (Grew.refl w).alloc (.cells #[.int .i64 H, .slice a n c, .int .i64 x, .int .i64 m] 28)
  go_enter Try.func17, Try.ntmps17
  go_wp2_with fail
  with_reducible refine (ChkNo.run HC.out G).mono ?_
  rintro e w1 ⟨rfl, g1⟩
  go_wp2
  go_ret
  exact ⟨rfl, G.trans g1⟩
theorem marked_no (mk : Int) (hc : ChkNo w (treeI H (.slice a n c) x m) i er) (he : (er == 0) = false) : Calls Try.prog 19 #[treeI H (.slice a n c) x m, .int .i64 i, .int .i64 mk] w (RetG (.bool false) w) := by
  have HC := Lib.hid hc
  clear hc
  have G := (Grew.refl w).alloc (.cells #[.int .i64 H, .slice a n c, .int .i64 x, .int .i64 m] 28)
  go_enter Try.func19, Try.ntmps19
  go_wp2_with fail
  with_reducible refine (isMark_any mk _).mono ?_
  rintro e w1 ⟨rfl, rfl⟩
  cases hm : markB mk
  · go_wp2
    go_ret
    exact ⟨rfl, G⟩
  · go_wp2_with fail
    with_reducible refine (ChkNo.run HC.out G).mono ?_
    rintro e w1 ⟨rfl, g1⟩
    go_wp2
    go_ret
    exact ⟨rfl, G.trans g1⟩
/-- A number that is no mark: nothing has it. -/
theorem marked_none (mk : Int) (hm : markB mk = false) : Calls Try.prog 19 #[treeI H (.slice a n c) x m, .int .i64 i, .int .i64 mk] w (RetG (.bool false) w) := by
  have G := (Grew.refl w).alloc (.cells #[.int .i64 H, .slice a n c, .int .i64 x, .int .i64 m] 28)
  go_enter Try.func19, Try.ntmps19
  go_wp2_with fail
  with_reducible refine (isMark_any mk _).mono ?_
  rintro e w1 ⟨rfl, rfl⟩
  rw [hm]
  go_wp2
  go_ret
  exact ⟨rfl, G⟩
def SrchNo (w : World) (T : Value) (mk : Int) : Prop := ∀ w', Grew w w' → Calls Try.prog 40 #[T, .int .i64 mk] w' (RetG (.bool false) w')
theorem SrchNo.run {w w' : World} {T : Value} {mk : Int} (h : SrchNo w T mk) (G : Grew w w') : Calls Try.prog 40 #[T, .int .i64 mk] w' (RetG (.bool false) w') := h w' G
theorem canSearch_bad (mk : Int) (b : BadT w H (.slice a n c) x m) : Calls Try.prog 40 #[treeI H (.slice a n c) x m, .int .i64 mk] w (RetG (.bool false) w) := by
  have HB := Lib.hid b
  clear b
  have G := (Grew.refl w).alloc (.cells #[.int .i64 H, .slice a n c, .int .i64 x, .int .i64 m] 28)
  by_cases h0 : mk = 0
  · subst h0
    go_enter Try.func40, Try.ntmps40
    go_wp2_with fail
    with_reducible refine (valid_bad H _ _ _ _ (HB.out.grew G)).mono ?_
    rintro e w1 ⟨rfl, g1⟩
    go_wp2
    go_ret
    exact ⟨rfl, G.trans g1⟩
  · have e0 : (mk == 0) = false := by simpa using h0
    clear h0
    go_enter Try.func40, Try.ntmps40
    go_wp2_with fail
    with_reducible refine (isMark_any mk _).mono ?_
    rintro e w1 ⟨rfl, rfl⟩
    cases hm : markB mk
    · go_wp2
      go_ret
      exact ⟨rfl, G⟩
    · go_wp2_with fail
      with_reducible refine (valid_bad H _ _ _ _ (HB.out.grew G)).mono ?_
      rintro e w1 ⟨rfl, g1⟩
      go_wp2
      go_ret
      exact ⟨rfl, G.trans g1⟩
end
theorem srchNo_bad {H : Int} {s : Value} {x m : Int} {w : World} (b : BadT w H s x m) (mk : Int) : SrchNo w (treeI H s x m) mk := fun w' G => by
  obtain ⟨a, n, c, rfl⟩ := b.1
  exact canSearch_bad H a n c x m w' mk (b.grew G)
theorem srchNo_none {h : Nat} {f : Fen} {s : Value} {x m : Int} {p : Nat → Prop} {w : World} (n : TreeF w p h f s x m) {mk : Int} (hm : srchB mk = false) : SrchNo w (treeI h s x m) mk := fun w' G => by
  have := canSearch_f h f s x m mk p w' (n.grew G)
  rw [hm] at this
  exact this
section
variable (H : Int) (a : Option Addr) (n c : Nat) (x m i er : Int) (w : World)
theorem next_no (mk fr : Int) (hc : SrchNo w (treeI H (.slice a n c) x m) mk) : Calls Try.prog 13 #[treeI H (.slice a n c) x m, .int .i64 fr, .int .i64 mk] w (RetO (0, false) w) := by
  have HC := Lib.hid hc
  clear hc
  have G := (Grew.refl w).alloc (.cells #[.int .i64 H, .slice a n c, .int .i64 x, .int .i64 m] 28)
  go_enter Try.func13, Try.ntmps13
  go_wp2_with fail
  with_reducible refine (SrchNo.run HC.out G).mono ?_
  rintro e w1 ⟨rfl, g1⟩
  go_wp2
  exact bodyPost_ret (v := .tuple #[.int .i64 0, .bool false]) (by simp [results, Try.results13, go_sem]) rfl ⟨rfl, G.trans g1⟩
theorem count_no (mk : Int) (hc : SrchNo w (treeI H (.slice a n c) x m) mk) : Calls Try.prog 21 #[treeI H (.slice a n c) x m, .int .i64 mk] w (RetG (.int .i64 0) w) := by
  have HC := Lib.hid hc
  clear hc
  have G := (Grew.refl w).alloc (.cells #[.int .i64 H, .slice a n c, .int .i64 x, .int .i64 m] 28)
  go_enter Try.func21, Try.ntmps21
  go_wp2_with fail
  with_reducible refine (SrchNo.run HC.out G).mono ?_
  rintro e w1 ⟨rfl, g1⟩
  go_wp2
  go_ret
  exact ⟨rfl, G.trans g1⟩
theorem entries_no (b : BadT w H (.slice a n c) x m) : Calls Try.prog 24 #[treeI H (.slice a n c) x m] w (RetG (.slice none 0 0) w) := by
  have HB := Lib.hid b
  clear b
  have G := (Grew.refl w).alloc (.cells #[.int .i64 H, .slice a n c, .int .i64 x, .int .i64 m] 28)
  go_enter Try.func24, Try.ntmps24
  go_wp2_with fail
  with_reducible refine (valid_bad H _ _ _ _ (HB.out.grew G)).mono ?_
  rintro e w1 ⟨rfl, g1⟩
  go_wp2
  go_ret
  exact ⟨rfl, G.trans g1⟩
end
end Go.Proofs.Ytdlhihllmidfeaa

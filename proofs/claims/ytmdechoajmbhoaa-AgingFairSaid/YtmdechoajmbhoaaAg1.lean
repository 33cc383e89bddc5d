/- Dirty files by age (layer 15): isFile, isTick, Check of the program. -/
import Derived.Test.YtmdechoajmbhoaaAgM
import Derived.Test.YtmdechoajmbhoaaTape
import Derived.StillTailTactics
import Derived.Deep.RegionHeld3
import Derived.Deep.DeepCutAuto
import Derived.Deep.CutBlock
namespace Go.Mine
open Go Go.RowKit
/-- Eight truths as an array. -/
abbrev bA (f : Nat → Bool) : Array Value := #[.bool (f 0), .bool (f 1), .bool (f 2), .bool (f 3), .bool (f 4), .bool (f 5), .bool (f 6), .bool (f 7)]
theorem bA_at {f : Nat → Bool} {k : Nat} (h : k < 8) : (bA f)[k]? = some (.bool (f k)) := by
  rcases (show k = 0 ∨ k = 1 ∨ k = 2 ∨ k = 3 ∨ k = 4 ∨ k = 5 ∨ k = 6 ∨ k = 7 by omega) with rfl | rfl | rfl | rfl | rfl | rfl | rfl | rfl <;> rfl
theorem bA_set {f g : Nat → Bool} {k : Nat} (h : k < 8) (hg : ∀ j, g j = (f j || decide (j = k))) : (bA f).setIfInBounds k (.bool true) = bA g := by
  unfold bA
  rw [hg 0, hg 1, hg 2, hg 3, hg 4, hg 5, hg 6, hg 7]
  rcases (show k = 0 ∨ k = 1 ∨ k = 2 ∨ k = 3 ∨ k = 4 ∨ k = 5 ∨ k = 6 ∨ k = 7 by omega) with rfl | rfl | rfl | rfl | rfl | rfl | rfl | rfl <;> simp
theorem fileB_t {f : Int} (h1 : 0 ≤ f) (h2 : f < 8) : fileB f = true := fileB_iff.2 ⟨h1, h2⟩
theorem fileB_1 {f : Int} (h1 : ¬0 ≤ f) : fileB f = false := decide_eq_false fun h => h1 h.1
theorem fileB_2 {f : Int} (h1 : ¬f < 8) : fileB f = false := decide_eq_false fun h => h1 h.2
theorem tickB_t {f : Int} (h1 : 0 ≤ f) (h2 : f ≤ 1000000) : tickB f = true := tickB_iff.2 ⟨h1, h2⟩
theorem tickB_1 {f : Int} (h1 : ¬0 ≤ f) : tickB f = false := decide_eq_false fun h => h1 h.1
theorem tickB_2 {f : Int} (h1 : ¬f ≤ 1000000) : tickB f = false := decide_eq_false fun h => h1 h.2
end Go.Mine
namespace Go.Proofs.Ytmdechoajmbhoaa
open Go.RowKit Go.Mine

theorem isFile_p {f : Int} {b : Bool} {w : World} (hb : fileB f = b) : Calls Try.prog 35 #[.int .i64 f] w (RetS (.bool b) w) := by
  have HB := Lib.hid hb
  clear hb
  by_cases t1 : 0 ≤ f
  · by_cases t2 : f < 8
    · have HE : Hid (b = true) := Lib.hid (by rw [← HB.out]; exact fileB_t t1 t2)
      go_enter Try.func35, Try.ntmps35
      go_wp2
      go_ret
      exact ⟨ret_bool HE.out.symm, rfl⟩
    · have HE : Hid (b = false) := Lib.hid (by rw [← HB.out]; exact fileB_2 t2)
      go_enter Try.func35, Try.ntmps35
      go_wp2
      go_ret
      exact ⟨ret_bool HE.out.symm, rfl⟩
  · have HE : Hid (b = false) := Lib.hid (by rw [← HB.out]; exact fileB_1 t1)
    go_enter Try.func35, Try.ntmps35
    go_wp2
    go_ret
    exact ⟨ret_bool HE.out.symm, rfl⟩
theorem isTick_p {f : Int} {b : Bool} {w : World} (hb : tickB f = b) : Calls Try.prog 34 #[.int .i64 f] w (RetS (.bool b) w) := by
  have HB := Lib.hid hb
  clear hb
  by_cases t1 : 0 ≤ f
  · by_cases t2 : f ≤ 1000000
    · have HE : Hid (b = true) := Lib.hid (by rw [← HB.out]; exact tickB_t t1 t2)
      go_enter Try.func34, Try.ntmps34
      go_wp2
      go_ret
      exact ⟨ret_bool HE.out.symm, rfl⟩
    · have HE : Hid (b = false) := Lib.hid (by rw [← HB.out]; exact tickB_2 t2)
      go_enter Try.func34, Try.ntmps34
      go_wp2
      go_ret
      exact ⟨ret_bool HE.out.symm, rfl⟩
  · have HE : Hid (b = false) := Lib.hid (by rw [← HB.out]; exact tickB_1 t1)
    go_enter Try.func34, Try.ntmps34
    go_wp2
    go_ret
    exact ⟨ret_bool HE.out.symm, rfl⟩
set_option maxRecDepth 100000 in
set_option maxHeartbeats 4000000 in
theorem check_p {B : Nat} {v : Value} {L : List Du} {b : Bool} {w : World} (h : RdS 2 enc2 w B v L) (hs : L.length ≤ 1000) (hb : okA L = b) : Calls Try.prog 19 #[v] w (RetG (.bool b) w) := by
  obtain ⟨a, c, rfl, -, -⟩ := h.slice
  have HB := Lib.hid hb
  obtain ⟨n, hn⟩ : ∃ n, L.length = n := ⟨_, rfl⟩
  have HN := Lib.hid hn
  rw [hn] at h hs ⊢
  have HZ := Lib.hid h
  have HO := Lib.hid (Own.new w 54 (bA fun _ => false))
  have HG := Lib.hid ((Grew.refl w).alloc (.cells (bA fun _ => false) 54))
  have hBS := Nat.le_refl w.heap.size
  clear h hn hb
  go_enter Try.func19, Try.ntmps19
  go_wp2_with fail
  go_loopw [4, 9] (fun lv iv wr => ∃ (i : Nat) (s : Int), lv = .int .i64 s ∧ iv = .int .i64 i ∧ i ≤ n ∧ 0 ≤ s ∧ s ≤ 1000000 ∧ Hid (s = lstA (L.take i)) ∧ Hid (∀ j, j < i → oneA (L.take j) (L.getD j zD) = true) ∧ Own wr w.heap.size 54 (bA fun j => hasA (L.take i) (j : Nat)) ∧ Grew w wr) (fun _ iv _ => n - (intOf iv).toNat)
  case atStart => exact ⟨0, 0, rfl, rfl, by omega, by omega, by omega, Lib.hid rfl, Lib.hid (fun j hj => by omega), HO.out, HG.out⟩
  case round =>
    obtain ⟨i, s, rfl, rfl, hi, hs0, hs1, HSM, HK, O, G⟩ := hrel
    obtain ⟨wo, rfl⟩ : ∃ wo : World, wo = wr := ⟨_, rfl⟩
    clear HO HG
    by_cases hlt : i < n
    · have hiL : i < L.length := by rw [HN.out]; exact hlt
      obtain ⟨g, o, rfl, hBg, hg, c0, c1⟩ := (HZ.out.grew G).at2 hiL
      have HL2 : Hid (lstA (L.take (i + 1)) = (L.getD i zD).2) := Lib.hid (lstA_take hiL)
      have HH2 : Hid (∀ f, hasA (L.take (i + 1)) f = (hasA (L.take i) f || (L.getD i zD).1 == f)) := Lib.hid (fun f => hasA_take hiL f)
      have HNO : Hid (oneA (L.take i) (L.getD i zD) = false → b = false) := Lib.hid (fun h => by rw [← HB.out]; exact okA_no hiL h)
      have HYE : Hid (oneA (L.take i) (L.getD i zD) = true → ∀ j, j < i + 1 → oneA (L.take j) (L.getD j zD) = true) := Lib.hid (fun h j hj => by
        by_cases e : j = i
        · rw [e]; exact h
        · exact HK.out j (by omega))
      obtain ⟨⟨df, ds⟩, hd⟩ : ∃ d, L.getD i zD = d := ⟨_, rfl⟩
      rw [show (L.getD i ((0 : Int), (0 : Int))) = (df, ds) from hd] at c0 c1
      rw [hd] at HL2 HH2 HNO HYE
      simp only at c0 c1 HL2 HH2
      have hi0 : (0 : Int) ≤ (i : Int) := by omega
      have hi1 : (i : Int) < (n : Int) := by omega
      clear HB HK hd
      cases hf : fileB df
      · have HE := Lib.hid (HNO.out (oneA_f1 hf))
        have HF := Lib.hid hf
        have HGA := Lib.hid (G.alloc (.cells #[.int .i64 df, .int .i64 ds] 44))
        clear hf HNO HYE G
        go_wp2_with fail
        with_reducible refine (isFile_p HF.out).mono ?_
        rintro e1 w1 ⟨rfl, rfl⟩
        go_wp2
        go_ret
        exact ⟨ret_bool HE.out.symm, HGA.out⟩
      · obtain ⟨hf0, hf1⟩ := fileB_iff.1 hf
        obtain ⟨k, rfl⟩ := Int.eq_ofNat_of_zero_le hf0
        have hk8 : k < 8 := by omega
        have HF := Lib.hid hf
        have hbt := (O.cell k).trans (bA_at hk8)
        have hlB := O.lt
        have HGA := Lib.hid (G.alloc (.cells #[.int .i64 (k : Int), .int .i64 ds] 44))
        have HO := Lib.hid O
        cases hh : hasA (L.take i) (k : Int)
        · rw [hh] at hbt
          by_cases hl : ds < s
          · have HE := Lib.hid (HNO.out (oneA_f3 (by rw [← HSM.out]; exact hl)))
            clear hf HNO HYE G O hh
            go_wp2_with fail
            with_reducible refine (isFile_p HF.out).mono ?_
            rintro e1 w1 ⟨rfl, rfl⟩
            go_wp2
            go_ret
            exact ⟨ret_bool HE.out.symm, HGA.out⟩
          · by_cases hm : ds ≤ 1000000
            · have HY := Lib.hid (HYE.out (oneA_iff.2 ⟨hf, hh, by rw [← HSM.out]; show s ≤ ds; omega, hm⟩))
              have HST := Lib.hid (((O.set k (.bool true)).alloc (.cells #[.int .i64 (k : Int), .int .i64 ds] 44)).drew)
              rw [bA_set (g := fun j => hasA (L.take (i + 1)) (j : Nat)) hk8 (fun j => by rw [HH2.out]; congr 1; show decide _ = decide _; exact decide_eq_decide.2 (by omega))] at HST
              have hfz := (O.alloc (.cells #[.int .i64 (k : Int), .int .i64 ds] 44)).frozen k
              have HG2 := Lib.hid (((G.set (p := ⟨w.heap.size, k, none⟩) (Nat.le_refl _) (.bool true)).alloc (.cells #[.int .i64 (k : Int), .int .i64 ds] 44)).drew)
              clear hf HNO HYE G O hh
              go_wp2_with fail
              with_reducible refine (isFile_p HF.out).mono ?_
              rintro e1 w1 ⟨rfl, rfl⟩
              go_wp2
              go_region
              all_goals
                go_wp2
                exact ⟨⟨i + 1, ds, by go_num, by go_num, by omega, by omega, by omega, Lib.hid HL2.out.symm, HY, HST.out, HG2.out⟩, by simp [intOf] <;> omega⟩
            · have HE := Lib.hid (HNO.out (oneA_f4 (by show 1000000 < ds; omega)))
              clear hf HNO HYE G O hh
              go_wp2_with fail
              with_reducible refine (isFile_p HF.out).mono ?_
              rintro e1 w1 ⟨rfl, rfl⟩
              go_wp2
              go_ret
              exact ⟨ret_bool HE.out.symm, HGA.out⟩
        · rw [hh] at hbt
          have HE := Lib.hid (HNO.out (oneA_f2 hh))
          clear hf HNO HYE G O hh
          go_wp2_with fail
          with_reducible refine (isFile_p HF.out).mono ?_
          rintro e1 w1 ⟨rfl, rfl⟩
          go_wp2
          go_ret
          exact ⟨ret_bool HE.out.symm, HGA.out⟩
    · obtain rfl : i = n := by omega
      have HE : Hid (b = true) := Lib.hid (by rw [← HB.out]; exact okA_iff.2 (by rw [HN.out]; exact HK.out))
      go_wp2
      go_ret
      exact ⟨ret_bool HE.out.symm, G⟩
end Go.Proofs.Ytmdechoajmbhoaa

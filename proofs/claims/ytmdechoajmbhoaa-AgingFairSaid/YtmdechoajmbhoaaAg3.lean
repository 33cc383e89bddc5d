/- Dirty files by age (layer 15): position, isListed, lastSince, checkFile, checkAddition, Clone of the program. -/
import Derived.Test.YtmdechoajmbhoaaAg1
namespace Go.Mine
open Go Go.RowKit
abbrev duV (d : Du) : Value := .agg #[.int .i64 d.1, .int .i64 d.2]
/-- It returns a slice that holds L, in a block of its own. -/
def RetA (L : List Du) (w : World) (e : Ending) (w' : World) : Prop := ∃ v, e = .returned v ∧ RdS 2 enc2 w' w.heap.size v L ∧ Grew w w'
/-- It returns a slice that holds L, in a block from B on, and an error. -/
def RetAE (B : Nat) (x : List Du × Int) (w : World) (e : Ending) (w' : World) : Prop := ∃ v, e = .returned (.tuple #[v, .int .i64 x.2]) ∧ RdS 2 enc2 w' B v x.1 ∧ Grew w w'
/-- A place of a file; -1 if it is not there. -/
def RetPos (L : List Du) (f : Int) (w : World) (e' : Ending) (w' : World) : Prop := ∃ j : Int, e' = .returned (.int .i64 j) ∧ Grew w w' ∧ ((j = -1 ∧ hasA L f = false) ∨ ∃ m : Nat, j = m ∧ m < L.length ∧ (L.getD m zD).1 = f)
theorem eF_0 {L : List Du} {f : Int} (h : okA L = false) : eF L f = 1 := by unfold eF; rw [h]
theorem eF_1 {L : List Du} {f : Int} (h : okA L = true) (h1 : fileB f = false) : eF L f = 2 := by unfold eF; rw [h, h1]
theorem eF_2 {L : List Du} {f : Int} (h : okA L = true) (h1 : fileB f = true) : eF L f = 0 := by unfold eF; rw [h, h1]
theorem eA_0 {L : List Du} {f n : Int} (h : okA L = false) : eA L f n = 1 := by unfold eA; rw [h]
theorem eA_1 {L : List Du} {f n : Int} (h : okA L = true) (h1 : fileB f = false) : eA L f n = 2 := by unfold eA; rw [h, h1]
theorem eA_2 {L : List Du} {f n : Int} (h : okA L = true) (h1 : fileB f = true) (h2 : tickB n = false) : eA L f n = 2 := by unfold eA; rw [h, h1, h2]; rfl
theorem eA_3 {L : List Du} {f n : Int} (h : okA L = true) (h1 : fileB f = true) (h3 : n < lstA L) : eA L f n = 2 := by unfold eA; rw [h, h1, decide_eq_false (by omega : ¬lstA L ≤ n), Bool.and_false]
theorem eA_4 {L : List Du} {f n : Int} (h : okA L = true) (h1 : fileB f = true) (h2 : tickB n = true) (h3 : lstA L ≤ n) : eA L f n = 0 := by unfold eA; rw [h, h1, h2, decide_eq_true h3]; rfl
end Go.Mine
namespace Go.Proofs.Ytmdechoajmbhoaa
open Go.RowKit Go.Mine

theorem info_due : (Try.prog.info? 44).map (fun i => (i.zero, i.size, i.bytes)) = some (some (duV zD), 2, 16) := by kernel_rfl
theorem pos1_p {d : Du} {k : Nat} {f : Int} {b : Bool} {w : World} (hc : w.cell? ⟨k, 0, none⟩ = some (.int .i64 f)) (hb : (d.1 == f) = b) : Calls Try.prog 39 #[duV d, .pointer (some ⟨k, 0, none⟩)] w (RetG (.bool b) w) := by
  obtain ⟨df, ds⟩ := d
  have HB := Lib.hid hb
  have HG := Lib.hid ((Grew.refl w).alloc (.cells #[.int .i64 df, .int .i64 ds] 44))
  have hk := World.block_lt_of_cell? w _ hc
  clear hb
  go_enter Try.func39, Try.ntmps39
  go_wp2
  go_ret
  exact ⟨ret_bool HB.out, HG.out⟩
set_option maxHeartbeats 2000000 in
theorem index_p {B : Nat} {v : Value} {L : List Du} {w : World} {f : Int} {kc : Nat} (h : RdS 2 enc2 w B v L) (hs : L.length ≤ 1000) (hcf : w.cell? ⟨kc, 0, none⟩ = some (.int .i64 f)) :
    Calls Try.prog 38 #[v, .func (.func 39) #[] #[.pointer (some ⟨kc, 0, none⟩)]] w (RetPos L f w) := by
  obtain ⟨a, c, rfl, -, -⟩ := h.slice
  have HCF := Lib.hid hcf
  have HKC := Lib.hid (World.block_lt_of_cell? w _ hcf)
  obtain ⟨n, hn⟩ : ∃ n, L.length = n := ⟨_, rfl⟩
  have HN := Lib.hid hn
  rw [hn] at h hs ⊢
  have HZ := Lib.hid h
  clear h hn hcf
  go_enter Try.func38, Try.ntmps38
  go_wp2_with fail
  go_loopw [8] (fun iv wr => ∃ i : Nat, iv = .int .i64 i ∧ i ≤ n ∧ Hid (∀ j, j < i → (L.getD j zD).1 ≠ f) ∧ Grew w wr) (fun iv _ => n - (intOf iv).toNat)
  case atStart => exact ⟨0, rfl, by omega, Lib.hid fun j hj => by omega, Grew.refl _⟩
  case round =>
    obtain ⟨i, rfl, hi, HK, G⟩ := hrel
    obtain ⟨wo, rfl⟩ : ∃ wo : World, wo = wr := ⟨_, rfl⟩
    by_cases hlt : i < n
    · have hiL : i < L.length := by rw [HN.out]; exact hlt
      obtain ⟨g, o, rfl, -, hg, c0, c1⟩ := (HZ.out.grew G).at2 hiL
      have HYE : Hid ((L.getD i zD).1 = f → ∃ m : Nat, (i : Int) = m ∧ m < L.length ∧ (L.getD m zD).1 = f) := Lib.hid (fun h => ⟨i, rfl, hiL, h⟩)
      have HNX : Hid ((L.getD i zD).1 ≠ f → ∀ j, j < i + 1 → (L.getD j zD).1 ≠ f) := Lib.hid (fun h j hj => by
        by_cases e : j = i
        · rw [e]; exact h
        · exact HK.out j (by omega))
      obtain ⟨⟨df, ds⟩, hd⟩ : ∃ d, L.getD i zD = d := ⟨_, rfl⟩
      rw [show (L.getD i ((0 : Int), (0 : Int))) = (df, ds) from hd] at c0 c1
      rw [hd] at HYE HNX
      simp only at c0 c1 HYE HNX
      have hi0 : (0 : Int) ≤ (i : Int) := by omega
      have hi1 : (i : Int) < (n : Int) := by omega
      have HCW := Lib.hid ((G.cells.1 kc 0 HKC.out).trans HCF.out)
      have HG := Lib.hid G
      clear hd G HK
      by_cases e : df = f
      · have HE := Lib.hid (HYE.out e)
        have e1 : (df == f) = true := by simp [e]
        have HQ := Lib.hid e1
        clear HYE HNX e e1
        go_wp2_with (go_at_call 39; (with_reducible refine (pos1_p (d := (df, ds)) HCW.out HQ.out).mono ?_); rintro e2 w2 ⟨rfl, g2⟩)
        have HG2 := Lib.hid (HG.out.trans g2)
        clear g2
        go_wp2
        go_ret
        exact ⟨i, rfl, HG2.out, .inr HE.out⟩
      · have HE := Lib.hid (HNX.out e)
        have e1 : (df == f) = false := by simp [e]
        have HQ := Lib.hid e1
        clear HYE HNX e e1
        go_wp2_with (go_at_call 39; (with_reducible refine (pos1_p (d := (df, ds)) HCW.out HQ.out).mono ?_); rintro e2 w2 ⟨rfl, g2⟩)
        have HG2 := Lib.hid (HG.out.trans g2)
        clear g2
        go_wp2
        exact ⟨⟨i + 1, by go_num, by omega, HE, HG2.out⟩, by simp [intOf] <;> omega⟩
    · obtain rfl : i = n := by omega
      go_wp2
      go_ret
      exact ⟨-1, rfl, G, .inl ⟨rfl, hasA_iff'.2 (by rw [HN.out]; exact HK.out)⟩⟩
theorem pos_p {B : Nat} {v : Value} {L : List Du} {w : World} {f : Int} (h : RdS 2 enc2 w B v L) (hs : L.length ≤ 1000) : Calls Try.prog 37 #[v, .int .i64 f] w (RetPos L f w) := by
  have HZ := Lib.hid (h.alloc (.cells #[.int .i64 f] 3))
  have HO := Lib.hid ((Own.new w 3 #[.int .i64 f]).cell 0)
  have HG := Lib.hid ((Grew.refl w).alloc (.cells #[.int .i64 f] 3))
  clear h
  go_enter Try.func37, Try.ntmps37
  go_wp2_with fail
  with_reducible refine (index_p HZ.out hs HO.out).mono ?_
  rintro e w1 ⟨j, rfl, g1, hj⟩
  have HJ := Lib.hid hj
  have HG1 := Lib.hid (HG.out.trans g1)
  clear hj g1
  go_wp2
  go_ret
  exact ⟨j, rfl, HG1.out, HJ.out⟩
theorem isListed_p {B : Nat} {v : Value} {L : List Du} {w : World} {f : Int} {b : Bool} (h : RdS 2 enc2 w B v L) (hs : L.length ≤ 1000) (hb : hasA L f = b) : Calls Try.prog 26 #[v, .int .i64 f] w (RetG (.bool b) w) := by
  have HB := Lib.hid hb
  clear hb
  go_enter Try.func26, Try.ntmps26
  go_wp2_with fail
  with_reducible refine (pos_p h hs).mono ?_
  rintro e w1 ⟨j, rfl, g1, ⟨rfl, hj⟩ | ⟨m, rfl, hm, hj⟩⟩
  · have HE : Hid (b = false) := Lib.hid (HB.out.symm.trans hj)
    clear hj
    go_wp2
    go_ret
    exact ⟨ret_bool HE.out.symm, g1⟩
  · have HE : Hid (b = true) := Lib.hid (HB.out.symm.trans (hasA_iff.2 ⟨m, hm, hj⟩))
    have hm0 : (0 : Int) ≤ (m : Int) := by omega
    clear hj
    go_wp2
    go_ret
    exact ⟨ret_bool HE.out.symm, g1⟩
theorem lastSince_p {B : Nat} {v : Value} {L : List Du} {w : World} {x : Int} (h : RdS 2 enc2 w B v L) (hs : L.length ≤ 1000) (hx : lstA L = x) : Calls Try.prog 36 #[v] w (RetG (.int .i64 x) w) := by
  obtain ⟨a, c, rfl, -, -⟩ := h.slice
  by_cases h0 : L.length = 0
  · have HE : Hid (x = 0) := Lib.hid (by rw [← hx, List.length_eq_zero_iff.1 h0]; rfl)
    rw [h0]
    go_enter Try.func36, Try.ntmps36
    go_wp2
    go_ret
    exact ⟨ret_int HE.out.symm, Grew.refl _⟩
  · obtain ⟨m, hm⟩ : ∃ m, L.length = m + 1 := ⟨L.length - 1, by omega⟩
    obtain ⟨g, o, rfl, -, hg, c0, c1⟩ := h.at2 (k := m) (by omega)
    have HE : Hid (x = (L.getD m zD).2) := Lib.hid (by rw [← hx, lstA_eq (by omega), hm, Nat.add_sub_cancel])
    rw [show (L.getD m ((0 : Int), (0 : Int))) = L.getD m zD from rfl] at c1
    generalize (L.getD m zD).2 = y at *
    rw [hm] at hs ⊢
    clear h hx hm c0 h0
    go_enter Try.func36, Try.ntmps36
    go_wp2
    go_ret
    exact ⟨ret_int HE.out.symm, Grew.refl _⟩
theorem checkFile_p {B : Nat} {v : Value} {L : List Du} {w : World} {f x : Int} (h : RdS 2 enc2 w B v L) (hs : L.length ≤ 1000) (hx : eF L f = x) : Calls Try.prog 31 #[v, .int .i64 f] w (RetG (.int .i64 x) w) := by
  cases h1 : okA L
  · have HE : Hid (x = 1) := Lib.hid (hx.symm.trans (eF_0 h1))
    go_enter Try.func31, Try.ntmps31
    go_wp2_with fail
    with_reducible refine (check_p h hs h1).mono ?_
    rintro e w1 ⟨rfl, g1⟩
    go_wp2
    go_ret
    exact ⟨ret_int HE.out.symm, g1⟩
  · cases h2 : fileB f
    · have HE : Hid (x = 2) := Lib.hid (hx.symm.trans (eF_1 h1 h2))
      have H2 := Lib.hid h2
      clear h2
      go_enter Try.func31, Try.ntmps31
      go_wp2_with fail
      with_reducible refine (check_p h hs h1).mono ?_
      rintro e w1 ⟨rfl, g1⟩
      go_wp2_with fail
      with_reducible refine (isFile_p H2.out).mono ?_
      rintro e w2 ⟨rfl, rfl⟩
      go_wp2
      go_ret
      exact ⟨ret_int HE.out.symm, g1⟩
    · have HE : Hid (x = 0) := Lib.hid (hx.symm.trans (eF_2 h1 h2))
      have H2 := Lib.hid h2
      clear h2
      go_enter Try.func31, Try.ntmps31
      go_wp2_with fail
      with_reducible refine (check_p h hs h1).mono ?_
      rintro e w1 ⟨rfl, g1⟩
      go_wp2_with fail
      with_reducible refine (isFile_p H2.out).mono ?_
      rintro e w2 ⟨rfl, rfl⟩
      go_wp2
      go_ret
      exact ⟨ret_int HE.out.symm, g1⟩
theorem checkAdd_p {B : Nat} {v : Value} {L : List Du} {w : World} {f n x : Int} (h : RdS 2 enc2 w B v L) (hs : L.length ≤ 1000) (hx : eA L f n = x) : Calls Try.prog 25 #[v, .int .i64 f, .int .i64 n] w (RetG (.int .i64 x) w) := by
  have HH := Lib.hid h
  have HX := Lib.hid hx
  clear h hx
  cases h1 : okA L
  · have HE : Hid (x = 1) := Lib.hid (HX.out.symm.trans (eA_0 h1))
    have HF := Lib.hid (eF_0 (f := f) h1)
    clear h1
    go_enter Try.func25, Try.ntmps25
    go_wp2_with fail
    with_reducible refine (checkFile_p HH.out hs HF.out).mono ?_
    rintro e w1 ⟨rfl, g1⟩
    go_wp2
    go_ret
    exact ⟨ret_int HE.out.symm, g1⟩
  · cases h2 : fileB f
    · have HE : Hid (x = 2) := Lib.hid (HX.out.symm.trans (eA_1 h1 h2))
      have HF := Lib.hid (eF_1 h1 h2)
      clear h1 h2
      go_enter Try.func25, Try.ntmps25
      go_wp2_with fail
      with_reducible refine (checkFile_p HH.out hs HF.out).mono ?_
      rintro e w1 ⟨rfl, g1⟩
      go_wp2
      go_ret
      exact ⟨ret_int HE.out.symm, g1⟩
    · have HF := Lib.hid (eF_2 h1 h2)
      cases h3 : tickB n
      · have HE : Hid (x = 2) := Lib.hid (HX.out.symm.trans (eA_2 h1 h2 h3))
        have H3 := Lib.hid h3
        clear h1 h2 h3
        go_enter Try.func25, Try.ntmps25
        go_wp2_with fail
        with_reducible refine (checkFile_p HH.out hs HF.out).mono ?_
        rintro e w1 ⟨rfl, g1⟩
        go_wp2_with fail
        with_reducible refine (isTick_p H3.out).mono ?_
        rintro e w2 ⟨rfl, rfl⟩
        go_wp2
        go_ret
        exact ⟨ret_int HE.out.symm, g1⟩
      · have H3 := Lib.hid h3
        by_cases h4 : n < lstA L
        · have HE : Hid (x = 2) := Lib.hid (HX.out.symm.trans (eA_3 h1 h2 h4))
          obtain ⟨y, hy⟩ : ∃ y, lstA L = y := ⟨_, rfl⟩
          have HY := Lib.hid hy
          rw [hy] at h4
          clear h1 h2 h3 hy
          go_enter Try.func25, Try.ntmps25
          go_wp2_with fail
          with_reducible refine (checkFile_p HH.out hs HF.out).mono ?_
          rintro e w1 ⟨rfl, g1⟩
          have HH1 := Lib.hid (HH.out.grew g1)
          go_wp2_with fail
          with_reducible refine (isTick_p H3.out).mono ?_
          rintro e w2 ⟨rfl, rfl⟩
          go_wp2_with fail
          with_reducible refine (lastSince_p HH1.out hs HY.out).mono ?_
          rintro e w2 ⟨rfl, g2⟩
          have HG := Lib.hid (g1.trans g2)
          go_wp2
          go_ret
          exact ⟨ret_int HE.out.symm, HG.out⟩
        · have HE : Hid (x = 0) := Lib.hid (HX.out.symm.trans (eA_4 h1 h2 h3 (by omega)))
          obtain ⟨y, hy⟩ : ∃ y, lstA L = y := ⟨_, rfl⟩
          have HY := Lib.hid hy
          rw [hy] at h4
          clear h1 h2 h3 hy
          go_enter Try.func25, Try.ntmps25
          go_wp2_with fail
          with_reducible refine (checkFile_p HH.out hs HF.out).mono ?_
          rintro e w1 ⟨rfl, g1⟩
          have HH1 := Lib.hid (HH.out.grew g1)
          go_wp2_with fail
          with_reducible refine (isTick_p H3.out).mono ?_
          rintro e w2 ⟨rfl, rfl⟩
          go_wp2_with fail
          with_reducible refine (lastSince_p HH1.out hs HY.out).mono ?_
          rintro e w2 ⟨rfl, g2⟩
          have HG := Lib.hid (g1.trans g2)
          go_wp2
          go_ret
          exact ⟨ret_int HE.out.symm, HG.out⟩
set_option maxHeartbeats 1000000 in
theorem clone_d {B : Nat} {v : Value} {L : List Du} {w : World} (h : RdS 2 enc2 w B v L) (hl : L.length ≤ 1000) : Calls Try.prog 27 #[v] w (RetA L w) := by
  obtain ⟨a, c, rfl, -, -⟩ := h.slice
  obtain ⟨-, hs, hlies⟩ := h.lies enc2_len
  have q22 : ∀ (w : World) (a : Option Addr) (n c n' c' : Nat), (binOp .eql 26 (.slice a n c) (.slice none n' c')).run Try.prog w = .ok (.bool a.isNone) w := fun w a n c n' c' => Lib.run_eql_slice_nil w _ _ a n c n' c' Try.underlying26
  cases a with
  | none =>
    have hx : L = [] := hs.resolve_right (by simp)
    subst hx
    go_enter Try.func27, Try.ntmps27
    go_wp2
    go_ret
    exact ⟨_, rfl, RdS.nil _ _ _ _ (Nat.zero_le _), Grew.refl _⟩
  | some A =>
    have hk : Lies enc2 (w.alloc (.cells #[] 44)) (some A) L := by
      rcases hlies with h0 | ⟨b, e, hb⟩
      · exact .inl h0
      · refine .inr ⟨b, e, fun j u hu => ?_⟩
        rw [← hb j u hu]
        exact World.cell?_of_block (Below.heap_alloc w _ _ (World.block_lt_of_cell? w _ (hb j u hu)))
    have HL := Lib.hid hk
    obtain ⟨n, hn⟩ : ∃ n, L.length = n := ⟨_, rfl⟩
    have HN := Lib.hid hn
    rw [hn] at hl ⊢
    have hx6 : ([] : List Du).length + L.length < 1000000 := by rw [hn]; simp; omega
    have R0 : RowE 44 2 enc2 (w.alloc (.cells #[] 44)) w.heap.size (.slice (some ⟨w.heap.size, 0, none⟩) 0 0) [] := RowE.lit w #[] rfl rfl (by decide) (Nat.le_refl _)
    have HR0 := Lib.hid R0
    have HG0 := Lib.hid ((Grew.refl w).alloc (.cells #[] 44))
    have hz : w.heap.size ≤ (w.alloc (.cells #[] 44)).heap.size := by simp
    clear h R0 hlies hk hs hn
    go_enter Try.func27, Try.ntmps27
    go_wp2_with (at_builtin; go_loud (
      refine wpList_append_src _ rfl _ _ 26 rfl w.heap.size info_due Try.underlying26 (by decide) (by decide) enc2_len (fun z => enc2_one) _ [] rfl HR0.out _ _ _ L rfl HN.out.symm HL.out hx6 (by decide) hz ?_
      intro v2 w2 R2 G2 o2))
    have HG2 := Lib.hid (Grew.keptA (B := w.heap.size) HG0.out G2 (fun x e => HR0.out.above x e) (Nat.le_refl _))
    go_wp2
    go_ret
    exact ⟨_, rfl, RowE.rdS enc2_len R2, HG2.out⟩
end Go.Proofs.Ytmdechoajmbhoaa

/- Areas (layer 16): place, checkMap, checkUnmap, Find, Room, Shown, Clone of the program. -/
import Derived.Test.YtnlhdbengppnpaaAr4
namespace Go.Mine
open Go Go.RowKit
/-- It returns a slice that holds L, in a block of its own. -/
def RetR (L : List Ar) (w : World) (e : Ending) (w' : World) : Prop := ∃ v, e = .returned v ∧ RdS 5 enc5 w' w.heap.size v L ∧ Grew w w'
/-- It returns a slice that holds L, in a block from B on, and an error. -/
def RetRE (B : Nat) (x : List Ar × Int) (w : World) (e : Ending) (w' : World) : Prop := ∃ v, e = .returned (.tuple #[v, .int .i64 x.2]) ∧ RdS 5 enc5 w' B v x.1 ∧ Grew w w'
/-- It returns a slice of the integers L, in a block of its own. -/
def RetIL (L : List Int) (w : World) (e : Ending) (w' : World) : Prop := ∃ v, e = .returned v ∧ RdS 1 enc1 w' w.heap.size v L ∧ Grew w w'
/-- An area, and whether there is one. -/
def fdX (L : List Ar) (p : Int) : Ar × Bool := match fndR L p with | some a => (a, true) | none => (zR, false)
abbrev fdV (x : Ar × Bool) : Value := .tuple #[arV x.1, .bool x.2]
theorem fdX_n {L : List Ar} {p : Int} (h : fndR L p = none) : fdX L p = (zR, false) := by unfold fdX; rw [h]
theorem fdX_s {L : List Ar} {p : Int} {a : Ar} (h : fndR L p = some a) : fdX L p = (a, true) := by unfold fdX; rw [h]
abbrev rmV (x : Int × Bool) : Value := .tuple #[.int .i64 x.1, .bool x.2]
end Go.Mine
namespace Go.Proofs.Ytnlhdbengppnpaa
open Go.RowKit Go.Mine

theorem info_ar : (Try.prog.info? 30).map (fun i => (i.zero, i.size, i.bytes)) = some (some (arV zR), 5, 40) := by kernel_rfl
theorem info_i1 : (Try.prog.info? 3).map (fun i => (i.zero, i.size, i.bytes)) = some (some (.int .i64 0), 1, 8) := by kernel_rfl
set_option maxHeartbeats 2000000 in
theorem place_p {B : Nat} {v : Value} {L : List Ar} {x : Int} {w : World} (h : RdS 5 enc5 w B v L) (hs : L.length ≤ 1000) : Calls Try.prog 30 #[v, .int .i64 x] w (RetG (.int .i64 (plR L x : Nat)) w) := by
  obtain ⟨a, c, rfl, -, -⟩ := h.slice
  obtain ⟨n, hn⟩ : ∃ n, L.length = n := ⟨_, rfl⟩
  have HN := Lib.hid hn
  rw [hn] at h hs ⊢
  have HZ := Lib.hid h
  clear h hn
  go_enter Try.func30, Try.ntmps30
  go_wp2_with fail
  go_loopw [5] (fun iv wr => ∃ (i : Nat), iv = .int .i64 i ∧ i ≤ n ∧ Hid (∀ j, j < i → (L.getD j zR).s < x) ∧ Grew w wr) (fun iv _ => n - (intOf iv).toNat)
  case atStart => exact ⟨0, rfl, by omega, Lib.hid (fun j hj => by omega), Grew.refl _⟩
  case round =>
    obtain ⟨i, rfl, hi, HK, G⟩ := hrel
    obtain ⟨wo, rfl⟩ : ∃ wo : World, wo = wr := ⟨_, rfl⟩
    by_cases hlt : i < n
    · have hiL : i < L.length := by rw [HN.out]; exact hlt
      obtain ⟨g, o, rfl, hBg, hg, c0, -⟩ := (HZ.out.grew G).at5 hiL
      have HNX : Hid ((L.getD i zR).s < x → ∀ j, j < i + 1 → (L.getD j zR).s < x) := Lib.hid (fun h j hj => by
        by_cases e : j = i
        · rw [e]; exact h
        · exact HK.out j (by omega))
      have HYE : Hid (¬(L.getD i zR).s < x → plR L x = i) := Lib.hid (fun h => plR_at (by omega) HK.out (fun _ => h))
      generalize (L.getD i zR).s = d at *
      have hi0 : (0 : Int) ≤ (i : Int) := by omega
      have hi1 : (i : Int) < (n : Int) := by omega
      have HG := Lib.hid G
      clear HK G
      by_cases hd : d < x
      · have HE := Lib.hid (HNX.out hd)
        clear HNX HYE
        go_wp2
        exact ⟨⟨i + 1, by go_num, by omega, HE, HG.out⟩, by simp [intOf] <;> omega⟩
      · have HE := Lib.hid (HYE.out hd)
        have e1 : decide (d < x) = false := decide_eq_false hd
        clear HNX HYE
        go_wp2
        go_ret
        exact ⟨ret_int (by rw [HE.out]), HG.out⟩
    · obtain rfl : i = n := by omega
      have HE : Hid (plR L x = i) := Lib.hid (plR_at (by rw [HN.out]; exact Nat.le_refl _) HK.out (fun h => by rw [HN.out] at h; omega))
      go_wp2
      go_ret
      exact ⟨ret_int (by rw [HE.out]), G⟩
theorem checkMap_p {B : Nat} {v : Value} {L : List Ar} {a : Ar} {e : Int} {w : World} (h : RdS 5 enc5 w B v L) (hs : SmR L) (hn : a.n ≤ 9223372036854775807) (he : eM L a = e) : Calls Try.prog 27 #[v, arV a] w (RetG (.int .i64 e) w) := by
  have HH := Lib.hid (h.alloc (.cells #[.int .i64 a.s, .int .i64 a.n, .int .i64 a.f, .int .i64 a.p, .bool a.w] 30))
  have HO := Lib.hid (Own.new w 30 #[.int .i64 a.s, .int .i64 a.n, .int .i64 a.f, .int .i64 a.p, .bool a.w])
  have HG := Lib.hid ((Grew.refl w).alloc (.cells #[.int .i64 a.s, .int .i64 a.n, .int .i64 a.f, .int .i64 a.p, .bool a.w] 30))
  have HE0 := Lib.hid he
  have HS := Lib.hid hs
  clear h he hs
  cases h1 : okR L
  · have HE : Hid (e = 1) := Lib.hid (HE0.out.symm.trans (eM_1 h1))
    have H1 := Lib.hid h1
    clear h1
    go_enter Try.func27, Try.ntmps27
    go_wp2_with fail
    with_reducible refine (check_p HH.out HS.out H1.out).mono ?_
    rintro e9 w1 ⟨rfl, g1⟩
    have HG1 := Lib.hid (HG.out.trans g1)
    clear g1
    go_wp2
    go_ret
    exact ⟨ret_int HE.out.symm, HG1.out⟩
  · have H1 := Lib.hid h1
    cases h2 : rtA a
    · have HE : Hid (e = 2) := Lib.hid (HE0.out.symm.trans (eM_2 h1 h2))
      have H2 := Lib.hid h2
      clear h1 h2
      go_enter Try.func27, Try.ntmps27
      go_wp2_with fail
      with_reducible refine (check_p HH.out HS.out H1.out).mono ?_
      rintro e9 w1 ⟨rfl, g1⟩
      have HG1 := Lib.hid (HG.out.trans g1)
      obtain ⟨x0, x1, x2, x3, x4⟩ := (HO.out.grew g1).five
      clear g1
      go_wp2_with fail
      with_reducible refine (right_p hn H2.out).mono ?_
      rintro e9 w2 ⟨rfl, g2⟩
      have HG2 := Lib.hid (HG1.out.trans g2)
      clear g2
      go_wp2
      go_ret
      exact ⟨ret_int HE.out.symm, HG2.out⟩
    · have H2 := Lib.hid h2
      have h8 := (okR_iff.1 h1).1
      obtain ⟨a0, c, rfl, -, -⟩ := HH.out.slice
      cases h3 : ovR L a
      · have H3 := Lib.hid h3
        by_cases h4 : L.length = 8
        · have HE : Hid (e = 3) := Lib.hid (HE0.out.symm.trans (eM_3 h1 h2 h3 h4))
          clear h1 h2 h3
          rw [h4] at HH ⊢
          go_enter Try.func27, Try.ntmps27
          go_wp2_with fail
          with_reducible refine (check_p HH.out HS.out H1.out).mono ?_
          rintro e9 w1 ⟨rfl, g1⟩
          have HG1 := Lib.hid (HG.out.trans g1)
          have HH1 := Lib.hid (HH.out.grew g1)
          have HO1 := Lib.hid (HO.out.grew g1)
          obtain ⟨x0, x1, x2, x3, x4⟩ := HO1.out.five
          clear g1
          go_wp2_with fail
          with_reducible refine (right_p hn H2.out).mono ?_
          rintro e9 w2 ⟨rfl, g2⟩
          have HG2 := Lib.hid (HG1.out.trans g2)
          have HH2 := Lib.hid (HH1.out.grew g2)
          obtain ⟨y0, y1, y2, y3, y4⟩ := (HO1.out.grew g2).five
          clear g2
          go_wp2_with fail
          with_reducible refine (overlaps_p HH2.out H1.out H2.out H3.out).mono ?_
          rintro e9 w3 ⟨rfl, g3⟩
          have HG3 := Lib.hid (HG2.out.trans g3)
          clear g3
          go_wp2
          go_ret
          exact ⟨ret_int HE.out.symm, HG3.out⟩
        · have HE : Hid (e = 0) := Lib.hid (HE0.out.symm.trans (eM_0 h1 h2 h3 h4))
          obtain ⟨n, hnn⟩ : ∃ n, L.length = n := ⟨_, rfl⟩
          rw [hnn] at HH h4 h8 ⊢
          have h4' : (n : Int) < 8 := by omega
          clear h1 h2 h3 hnn
          go_enter Try.func27, Try.ntmps27
          go_wp2_with fail
          with_reducible refine (check_p HH.out HS.out H1.out).mono ?_
          rintro e9 w1 ⟨rfl, g1⟩
          have HG1 := Lib.hid (HG.out.trans g1)
          have HH1 := Lib.hid (HH.out.grew g1)
          have HO1 := Lib.hid (HO.out.grew g1)
          obtain ⟨x0, x1, x2, x3, x4⟩ := HO1.out.five
          clear g1
          go_wp2_with fail
          with_reducible refine (right_p hn H2.out).mono ?_
          rintro e9 w2 ⟨rfl, g2⟩
          have HG2 := Lib.hid (HG1.out.trans g2)
          have HH2 := Lib.hid (HH1.out.grew g2)
          obtain ⟨y0, y1, y2, y3, y4⟩ := (HO1.out.grew g2).five
          clear g2
          go_wp2_with fail
          with_reducible refine (overlaps_p HH2.out H1.out H2.out H3.out).mono ?_
          rintro e9 w3 ⟨rfl, g3⟩
          have HG3 := Lib.hid (HG2.out.trans g3)
          clear g3
          go_wp2
          go_ret
          exact ⟨ret_int HE.out.symm, HG3.out⟩
      · have HE : Hid (e = 5) := Lib.hid (HE0.out.symm.trans (eM_5 h1 h2 h3))
        have H3 := Lib.hid h3
        clear h1 h2 h3
        go_enter Try.func27, Try.ntmps27
        go_wp2_with fail
        with_reducible refine (check_p HH.out HS.out H1.out).mono ?_
        rintro e9 w1 ⟨rfl, g1⟩
        have HG1 := Lib.hid (HG.out.trans g1)
        have HH1 := Lib.hid (HH.out.grew g1)
        have HO1 := Lib.hid (HO.out.grew g1)
        obtain ⟨x0, x1, x2, x3, x4⟩ := HO1.out.five
        clear g1
        go_wp2_with fail
        with_reducible refine (right_p hn H2.out).mono ?_
        rintro e9 w2 ⟨rfl, g2⟩
        have HG2 := Lib.hid (HG1.out.trans g2)
        have HH2 := Lib.hid (HH1.out.grew g2)
        obtain ⟨y0, y1, y2, y3, y4⟩ := (HO1.out.grew g2).five
        clear g2
        go_wp2_with fail
        with_reducible refine (overlaps_p HH2.out H1.out H2.out H3.out).mono ?_
        rintro e9 w3 ⟨rfl, g3⟩
        have HG3 := Lib.hid (HG2.out.trans g3)
        clear g3
        go_wp2
        go_ret
        exact ⟨ret_int HE.out.symm, HG3.out⟩
theorem checkUnmap_p {B : Nat} {v : Value} {L : List Ar} {s n e : Int} {w : World} (h : RdS 5 enc5 w B v L) (hs : SmR L) (hn : n ≤ 9223372036854775807) (he : eU L s n = e) : Calls Try.prog 32 #[v, .int .i64 s, .int .i64 n] w (RetG (.int .i64 e) w) := by
  have HE0 := Lib.hid he
  clear he
  cases h1 : okR L
  · have HE : Hid (e = 1) := Lib.hid (HE0.out.symm.trans (eU_1 h1))
    go_enter Try.func32, Try.ntmps32
    go_wp2_with fail
    with_reducible refine (check_p h hs h1).mono ?_
    rintro e9 w1 ⟨rfl, g1⟩
    go_wp2
    go_ret
    exact ⟨ret_int HE.out.symm, g1⟩
  · cases h2 : inB s n 64
    · have HE : Hid (e = 2) := Lib.hid (HE0.out.symm.trans (eU_2 h1 h2))
      have H2 := Lib.hid h2
      clear h2
      go_enter Try.func32, Try.ntmps32
      go_wp2_with fail
      with_reducible refine (check_p h hs h1).mono ?_
      rintro e9 w1 ⟨rfl, g1⟩
      go_wp2_with fail
      with_reducible refine (within_p (by omega) hn H2.out).mono ?_
      rintro e9 w2 ⟨rfl, rfl⟩
      go_wp2
      go_ret
      exact ⟨ret_int HE.out.symm, g1⟩
    · have HE : Hid (e = 0) := Lib.hid (HE0.out.symm.trans (eU_0 h1 h2))
      have H2 := Lib.hid h2
      clear h2
      go_enter Try.func32, Try.ntmps32
      go_wp2_with fail
      with_reducible refine (check_p h hs h1).mono ?_
      rintro e9 w1 ⟨rfl, g1⟩
      go_wp2_with fail
      with_reducible refine (within_p (by omega) hn H2.out).mono ?_
      rintro e9 w2 ⟨rfl, rfl⟩
      go_wp2
      go_ret
      exact ⟨ret_int HE.out.symm, g1⟩
end Go.Proofs.Ytnlhdbengppnpaa

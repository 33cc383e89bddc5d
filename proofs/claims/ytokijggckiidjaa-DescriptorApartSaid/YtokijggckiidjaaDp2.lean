/- slices.Index, slices.ContainsFunc, free, unused, trimmed of the program (layer 18). -/
import Derived.Test.YtokijggckiidjaaDp1
namespace Go.Mine
open Go Go.RowKit
/-- The place of the first one that is x; -1 if there is none. -/
def RetIdx {α : Type} (z x : α) (L : List α) (w : World) (e : Ending) (w' : World) : Prop := ∃ j : Int, e = .returned (.int .i64 j) ∧ Grew w w' ∧ ((j = -1 ∧ ∀ k, k < L.length → L.getD k z ≠ x) ∨ ∃ m : Nat, j = m ∧ m < L.length ∧ L.getD m z = x ∧ ∀ k, k < m → L.getD k z ≠ x)
end Go.Mine
namespace Go.Proofs.Ytokijggckiidjaa
open Go.ChangeShapes Go.WideShapes Go.ChangeAt Go.RowKit Go.Mine
set_option maxHeartbeats 2000000 in
theorem indexI_p {B : Nat} {v : Value} {L : List Int} {x : Int} {w : World} (h : RdS 1 enc1 w B v L) (hl : L.length ≤ 1000) : Calls Try.prog 51 #[v, .int .i64 x] w (RetIdx 0 x L w) := by
  obtain ⟨a, c, rfl, -, -⟩ := h.slice
  obtain ⟨n, hn⟩ : ∃ n, L.length = n := ⟨_, rfl⟩
  have HN := Lib.hid hn
  have HZ := Lib.hid h
  rw [hn] at hl ⊢
  rw [hn] at HZ
  clear h hn
  go_enter Try.func51, Try.ntmps51
  go_wp2_with fail
  go_loopw [8] (fun iv wr => ∃ i : Nat, iv = .int .i64 i ∧ i ≤ n ∧ Hid (∀ j, j < i → L.getD j 0 ≠ x) ∧ Grew w wr) (fun iv _ => n - (intOf iv).toNat)
  case atStart => exact ⟨0, rfl, by omega, Lib.hid fun j hj => by omega, Grew.refl _⟩
  case round =>
    obtain ⟨i, rfl, hi, HB, G⟩ := hrel
    obtain ⟨wo, rfl⟩ : ∃ wo : World, wo = wr := ⟨_, rfl⟩
    have HG := Lib.hid G
    by_cases hlt : i < n
    · have hiL : i < L.length := by rw [HN.out]; exact hlt
      obtain ⟨g, o, rfl, -, hg, c0⟩ := (HZ.out.grew G).atI hiL
      obtain ⟨y, hy⟩ : ∃ y, L.getD i 0 = y := ⟨_, rfl⟩
      have HY := Lib.hid hy
      rw [hy] at c0
      have hi0 : (0 : Int) ≤ (i : Int) := by omega
      have hi1 : (i : Int) < (n : Int) := by omega
      clear hy G hiL
      by_cases hq : x = y
      · subst hq
        go_wp2_with fail
        go_ret
        exact ⟨i, rfl, HG.out, .inr ⟨i, rfl, by rw [HN.out]; exact hlt, HY.out, HB.out⟩⟩
      · have HNX : Hid (∀ j, j < i + 1 → L.getD j 0 ≠ x) := Lib.hid fun j hj => by
          by_cases e : j = i
          · rw [e, HY.out]; exact fun h => hq h.symm
          · exact HB.out j (by omega)
        have hq1 : (x == y) = false := by simpa using hq
        clear hq
        go_wp2_with fail
        go_roundw
        case rel => exact ⟨i + 1, by go_num, by omega, HNX, HG.out⟩
        case measure => simp [intOf]; omega
    · obtain rfl : i = n := by omega
      clear G
      go_wp2_with fail
      go_ret
      exact ⟨-1, rfl, HG.out, .inl ⟨rfl, by rw [HN.out]; exact HB.out⟩⟩
set_option maxHeartbeats 4000000 in
theorem indexD_p {B : Nat} {v : Value} {L : List Ds} {x : Ds} {w : World} (h : RdS 5 encDs w B v L) (hl : L.length ≤ 1000) : Calls Try.prog 50 #[v, dsV x] w (RetIdx zDs x L w) := by
  obtain ⟨a, c, rfl, -, -⟩ := h.slice
  obtain ⟨n, hn⟩ : ∃ n, L.length = n := ⟨_, rfl⟩
  have HN := Lib.hid hn
  rw [hn] at h hl ⊢
  have HO := Lib.hid (Mine.Own.new w 34 #[.int .i64 x.f, .int .i64 x.g, .int .i64 x.o, .int .i64 x.c, .int .i64 x.r])
  have HZ := Lib.hid (h.alloc (.cells #[.int .i64 x.f, .int .i64 x.g, .int .i64 x.o, .int .i64 x.c, .int .i64 x.r] 34))
  have HG0 := Lib.hid ((Grew.refl w).alloc (.cells #[.int .i64 x.f, .int .i64 x.g, .int .i64 x.o, .int .i64 x.c, .int .i64 x.r] 34))
  clear h hn
  go_enter Try.func50, Try.ntmps50
  go_upto_region 1 with fail
  have hbx0 := HO.out.lt
  obtain ⟨bx, hbx⟩ : ∃ bx, w.heap.size = bx := ⟨_, rfl⟩
  rw [hbx] at HO hbx0 ⊢
  generalize World.alloc w _ = w1 at *
  clear hbx
  go_wp2_with fail
  go_loopw [8] (fun iv wr => ∃ i : Nat, iv = .int .i64 i ∧ i ≤ n ∧ Hid (∀ j, j < i → L.getD j zDs ≠ x) ∧ Grew w1 wr) (fun iv _ => n - (intOf iv).toNat)
  case atStart => exact ⟨0, rfl, by omega, Lib.hid fun j hj => by omega, Grew.refl _⟩
  case round =>
    obtain ⟨i, rfl, hi, HB, G⟩ := hrel
    obtain ⟨wo, rfl⟩ : ∃ wo : World, wo = wr := ⟨_, rfl⟩
    have HG := Lib.hid G
    by_cases hlt : i < n
    · have hiL : i < L.length := by rw [HN.out]; exact hlt
      obtain ⟨g, o, rfl, -, hg, c0, c1, c2, c3, c4⟩ := (HZ.out.grew G).atD hiL
      obtain ⟨y0, y1, y2, y3, y4⟩ := (HO.out.grew G).fiveD
      have hbl : bx < wo.heap.size := (HO.out.grew G).lt
      obtain ⟨y, hy⟩ : ∃ y, L.getD i zDs = y := ⟨_, rfl⟩
      have HY := Lib.hid hy
      rw [hy] at c0 c1 c2 c3 c4
      have hi0 : (0 : Int) ≤ (i : Int) := by omega
      have hi1 : (i : Int) < (n : Int) := by omega
      clear hy G hiL
      by_cases hq : x = y
      · have he : ∀ w : World, (binOp .eql 34 (dsV x) (dsV y)).run Try.prog w = .ok (.bool true) w := fun w => (run_eqlDs w _ _).trans (by rw [decide_eq_true hq])
        have HQ := Lib.hid hq
        dsimp only [dsV] at he
        clear hq
        go_upto_region 4 with fail
        go_quiet (fail)
        go_wp2_with fail
        go_ret
        exact ⟨i, rfl, (HG0.out.trans HG.out).drewN _, .inr ⟨i, rfl, by rw [HN.out]; exact hlt, HY.out.trans HQ.out.symm, HB.out⟩⟩
      · have he : ∀ w : World, (binOp .eql 34 (dsV x) (dsV y)).run Try.prog w = .ok (.bool false) w := fun w => (run_eqlDs w _ _).trans (by rw [decide_eq_false hq])
        have HNX : Hid (∀ j, j < i + 1 → L.getD j zDs ≠ x) := Lib.hid fun j hj => by
          by_cases e : j = i
          · rw [e, HY.out]; exact fun h => hq h.symm
          · exact HB.out j (by omega)
        dsimp only [dsV] at he
        clear hq
        go_upto_region 4 with fail
        go_quiet (fail)
        go_wp2_with fail
        go_roundw
        case rel => exact ⟨i + 1, by go_num, by omega, HNX, HG.out.drewN _⟩
        case measure => simp [intOf]; omega
    · obtain rfl : i = n := by omega
      clear G
      go_wp2_with fail
      go_ret
      exact ⟨-1, rfl, HG0.out.trans HG.out, .inl ⟨rfl, by rw [HN.out]; exact HB.out⟩⟩
/-- free: the least place that is 0. -/
theorem free_p {B : Nat} {v : Value} {L : List Int} {x : Int} {w : World} (h : RdS 1 enc1 w B v L) (h16 : L.length = 16) (hx : freI L = x) : Calls Try.prog 34 #[v] w (RetG (.int .i64 x) w) := by
  obtain ⟨a, c, rfl, -, -⟩ := h.slice
  have HI := Lib.hid (indexI_p (x := 0) h (by omega))
  have HX := Lib.hid hx
  have H16 := Lib.hid h16
  clear h hx h16
  go_enter Try.func34, Try.ntmps34
  go_wp2_with fail
  with_reducible refine HI.out.mono ?_
  rintro e9 w1 ⟨j, rfl, g1, hj⟩
  have HG := Lib.hid g1
  have HE : Hid (x = j) := Lib.hid (HX.out.symm.trans (by
    rcases hj with ⟨rfl, hk⟩ | ⟨m, rfl, hm, h0, hk⟩
    · exact freI_none H16.out (fun i hi => hk i (by rw [H16.out]; exact hi))
    · exact freI_at (by rw [← H16.out]; exact hm) hm h0 hk))
  clear g1 hj HI
  go_wp2
  go_ret
  exact ⟨ret_int HE.out.symm, HG.out⟩
/-- unused: the first place that is zero. -/
theorem unused_p {B : Nat} {v : Value} {L : List Ds} {w : World} (h : RdS 5 encDs w B v L) (hl : L.length ≤ 1000) (hz : ∀ k, k < L.length → (L.getD k zDs).r = 0 → L.getD k zDs = zDs) : Calls Try.prog 33 #[v] w (RetG (.int .i64 (atD L)) w) := by
  obtain ⟨a, c, rfl, -, -⟩ := h.slice
  obtain ⟨n, hn⟩ : ∃ n, L.length = n := ⟨_, rfl⟩
  have HI := Lib.hid (indexD_p (x := zDs) h hl)
  have HZ := Lib.hid hz
  have HN := Lib.hid hn
  rw [hn] at HI ⊢
  clear h hz hn
  go_enter Try.func33, Try.ntmps33
  go_wp2_with fail
  with_reducible refine HI.out.mono ?_
  rintro e9 w1 ⟨j, rfl, g1, hj⟩
  have HG := Lib.hid g1
  rcases hj with ⟨rfl, hk⟩ | ⟨m, rfl, hm, h0, hk⟩
  · have HE : Hid (atD L = n) := Lib.hid (by
      rw [← HN.out]
      exact atD_none fun k hk2 e => hk k hk2 (HZ.out k hk2 e))
    clear g1 hk HI
    go_wp2
    go_ret
    exact ⟨ret_val (congrArg (fun z : Nat => Value.int .i64 (z : Int)) HE.out.symm), HG.out⟩
  · have HE : Hid (atD L = m) := Lib.hid (atD_at hm (by rw [h0]) fun k hk2 e => hk k hk2 (HZ.out k (by omega) e))
    have hm0 : decide ((m : Int) < 0) = false := decide_eq_false (by omega)
    clear g1 hk HI h0 hm
    go_wp2
    go_ret
    exact ⟨ret_val (congrArg (fun z : Nat => Value.int .i64 (z : Int)) HE.out.symm), HG.out⟩
set_option maxHeartbeats 2000000 in
theorem trimmed_p {B : Nat} {a : Option Addr} {n c : Nat} {L : List Ds} {w : World} (h : RdS 5 encDs w B (.slice a n c) L) (hl : L.length ≤ 1000) (hz : ∀ k, k < L.length → (L.getD k zDs).r = 0 → L.getD k zDs = zDs) : Calls Try.prog 40 #[.slice a n c] w (RetG (.slice a (lsD L L.length) c) w) := by
  obtain ⟨a2, c2, e, hnc, -⟩ := h.slice
  have hn : n = L.length := by injection e
  have HN := Lib.hid hn.symm
  have HH := Lib.hid h
  have HZ := Lib.hid hz
  have hc : n ≤ c := by injection e with e1 e2 e3; omega
  rw [← hn] at hl
  rw [← hn]
  clear h hz e hn hnc
  go_enter Try.func40, Try.ntmps40
  go_wp2_with fail
  go_loopw [3] (fun iv wr => ∃ i : Nat, iv = .int .i64 i ∧ i ≤ n ∧ Hid (lsD L n = lsD L i) ∧ Grew w wr) (fun iv _ => (intOf iv).toNat)
  case atStart => exact ⟨n, rfl, Nat.le_refl _, Lib.hid rfl, Grew.refl _⟩
  case round =>
    obtain ⟨i, rfl, hi, HB, G⟩ := hrel
    obtain ⟨wo, rfl⟩ : ∃ wo : World, wo = wr := ⟨_, rfl⟩
    have HG := Lib.hid G
    by_cases h0 : i = 0
    · subst h0
      have HE : Hid (lsD L n = 0) := Lib.hid HB.out
      have hc0 : (0 : Int) ≤ (c : Int) := by omega
      clear G
      go_wp2_with fail
      go_ret
      exact ⟨ret_val (congrArg (fun z : Nat => Value.slice _ z c) HE.out.symm), HG.out⟩
    · obtain ⟨k, rfl⟩ : ∃ k, i = k + 1 := ⟨i - 1, by omega⟩
      have hkL : k < L.length := by rw [HN.out]; omega
      obtain ⟨g, o, rfl, -, hg, c0, c1, c2, c3, c4⟩ := (HH.out.grew G).atD hkL
      obtain ⟨y, hy⟩ : ∃ y, L.getD k zDs = y := ⟨_, rfl⟩
      have HY := Lib.hid hy
      rw [hy] at c0 c1 c2 c3 c4
      have w1 : IntKind.i64.wrap (((k + 1 : Nat) : Int) - 1) = (k : Int) := by rw [IntWalk.i64_in _ (by omega)]; omega
      have w3 : IntKind.i64.wrap (k : Int) = (k : Int) := IntWalk.i64_in _ (by omega)
      have k0 : (0 : Int) ≤ (k : Int) := by omega
      have k1 : (k : Int) < (n : Int) := by omega
      have k3 : (0 : Int) < (k : Int) + 1 := by omega
      have k4 : (k : Int) + 1 ≤ (c : Int) := by omega
      have k5 : (0 : Int) ≤ (k : Int) + 1 := by omega
      by_cases hq : y = zDs
      · have he : ∀ w : World, (binOp .eql 34 (dsV y) (dsV zDs)).run Try.prog w = .ok (.bool true) w := fun w => (run_eqlDs w _ _).trans (by rw [decide_eq_true hq])
        have HB2 : Hid (lsD L n = lsD L k) := Lib.hid (by rw [HB.out, lsD_z (by rw [HY.out, hq])])
        dsimp only [dsV, zDs] at he
        clear hq hy G hkL
        go_wp2_with fail
        go_roundw
        case rel => exact ⟨k, by go_num, by omega, HB2, HG.out⟩
        case measure => simp [intOf] <;> omega
      · have he : ∀ w : World, (binOp .eql 34 (dsV y) (dsV zDs)).run Try.prog w = .ok (.bool false) w := fun w => (run_eqlDs w _ _).trans (by rw [decide_eq_false hq])
        have HE : Hid (lsD L n = k + 1) := Lib.hid (by rw [HB.out]; exact lsD_n (fun e => hq (by rw [← HY.out]; exact HZ.out k hkL e)))
        dsimp only [dsV, zDs] at he
        clear hq hy G hkL
        go_wp2_with fail
        go_ret
        exact ⟨ret_val (congrArg (fun z : Nat => Value.slice _ z c) HE.out.symm), HG.out⟩
end Go.Proofs.Ytokijggckiidjaa

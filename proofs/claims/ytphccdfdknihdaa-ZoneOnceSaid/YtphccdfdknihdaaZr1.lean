/- The reference of layer 10: Free, Low, Want. -/
import Derived.Test.YtphccdfdknihdaaZc2
namespace Go.Proofs.Ytphccdfdknihdaa
open Go.RowKit Go.Mine

theorem take_all {α : Type} {L : List α} {n : Nat} (h : L.length = n) : L.take n = L := by rw [← h, List.take_length]
set_option maxHeartbeats 2000000 in
theorem free_q {p : Nat → Prop} {x : Int} {v : Value} {L : List Zo} {w : World} (h : ZsR w p v L) (hs : SmZ L) (hx : freX L = x) : Calls Try.prog 20 #[v] w (RetG (.int .i64 x) w) := by
  obtain ⟨a, c, rfl⟩ := h.slice
  have HX := Lib.hid hx
  have HS := Lib.hid hs
  obtain ⟨n, hn⟩ : ∃ n, L.length = n := ⟨_, rfl⟩
  have HN := Lib.hid hn
  have hl : n ≤ 1000 := hn ▸ hs.1
  rw [hn] at h ⊢
  have HZ := Lib.hid h
  clear h hs hx hn
  cases hr : okB L
  · obtain rfl : x = 0 := by have := HX.out; unfold freX at this; rw [hr] at this; simpa using this.symm
    go_enter Try.func20, Try.ntmps20
    go_wp2_with fail
    with_reducible refine (check_q HZ.out HS.out hr).mono ?_
    rintro e1 w1 ⟨rfl, g1⟩
    go_wp2
    go_ret
    exact ⟨rfl, g1⟩
  · have HX2 : Hid (x = sumZ frN L) := Lib.hid (by have := HX.out; unfold freX at this; rw [hr] at this; simpa using this.symm)
    go_enter Try.func20, Try.ntmps20
    go_wp2_with fail
    with_reducible refine (check_q HZ.out HS.out hr).mono ?_
    rintro e1 w1 ⟨rfl, g1⟩
    clear hr HX
    go_wp2_with fail
    go_loopw [3, 4] (fun nv iv wr => ∃ (i : Nat) (s : Int), nv = .int .i64 s ∧ iv = .int .i64 i ∧ i ≤ n ∧ 0 ≤ s ∧ s ≤ 1000 * (i : Int) ∧ Hid (s = sumZ frN (L.take i)) ∧ Grew w wr) (fun _ iv _ => n - (intOf iv).toNat)
    case atStart => exact ⟨0, 0, rfl, rfl, by omega, by omega, by omega, Lib.hid rfl, g1⟩
    case round =>
      obtain ⟨i, s, rfl, rfl, hi, hs0, hs1, HSM, G⟩ := hrel
      by_cases hlt : i < n
      · have hiL : i < L.length := by rw [HN.out]; exact hlt
        obtain ⟨g, a', c', rfl, -, hg, -, -, -, -, -, c5, -⟩ := (HZ.out.grew G).at_ hiL
        have hfr := HS.out.2 i hiL
        have HSM2 : Hid (s + ((L.getD i zoZ).fr.length : Int) = sumZ frN (L.take (i + 1))) := Lib.hid (by rw [takeZ hiL, sumZ_snoc, ← HSM.out]; rfl)
        generalize (L.getD i zoZ).fr.length = m at *
        have hi0 : (0 : Int) ≤ (i : Int) := by omega
        have hi1 : (i : Int) < (n : Int) := by omega
        go_wp2
        exact ⟨⟨i + 1, s + (m : Int), by go_num, by go_num, by omega, by omega, by omega, HSM2, G⟩, by simp [intOf]; omega⟩
      · obtain rfl : i = n := by omega
        have HE : Hid (x = s) := Lib.hid (by rw [HX2.out, HSM.out, take_all HN.out])
        go_wp2
        go_ret
        exact ⟨ret_int HE.out.symm, G⟩
theorem any_snoc (L : List Zo) (z : Zo) : (L ++ [z]).any loQ = (L.any loQ || loQ z) := by simp
set_option maxHeartbeats 2000000 in
theorem low_q {p : Nat → Prop} {x : Bool} {v : Value} {L : List Zo} {w : World} (h : ZsR w p v L) (hs : SmZ L) (hx : lowX L = x) : Calls Try.prog 22 #[v] w (RetG (.bool x) w) := by
  obtain ⟨a, c, rfl⟩ := h.slice
  have HX := Lib.hid hx
  have HS := Lib.hid hs
  obtain ⟨n, hn⟩ : ∃ n, L.length = n := ⟨_, rfl⟩
  have HN := Lib.hid hn
  have hl : n ≤ 1000 := hn ▸ hs.1
  rw [hn] at h ⊢
  have HZ := Lib.hid h
  clear h hs hx hn
  cases hr : okB L
  · obtain rfl : x = false := by have := HX.out; unfold lowX at this; rw [hr] at this; simpa using this.symm
    go_enter Try.func22, Try.ntmps22
    go_wp2_with fail
    with_reducible refine (check_q HZ.out HS.out hr).mono ?_
    rintro e1 w1 ⟨rfl, g1⟩
    go_wp2
    go_ret
    exact ⟨rfl, g1⟩
  · have HX2 : Hid (x = L.any loQ) := Lib.hid (by have := HX.out; unfold lowX at this; rw [hr] at this; simpa using this.symm)
    go_enter Try.func22, Try.ntmps22
    go_wp2_with fail
    with_reducible refine (check_q HZ.out HS.out hr).mono ?_
    rintro e1 w1 ⟨rfl, g1⟩
    clear hr HX
    go_wp2_with fail
    go_loopw [3] (fun iv wr => ∃ i : Nat, iv = .int .i64 i ∧ i ≤ n ∧ Hid ((L.take i).any loQ = false) ∧ Grew w wr) (fun iv _ => n - (intOf iv).toNat)
    case atStart => exact ⟨0, rfl, by omega, Lib.hid rfl, g1⟩
    case round =>
      obtain ⟨i, rfl, hi, HA, G⟩ := hrel
      by_cases hlt : i < n
      · have hiL : i < L.length := by rw [HN.out]; exact hlt
        obtain ⟨g, a', c', rfl, -, hg, -, -, -, c3, -, c5, -⟩ := (HZ.out.grew G).at_ hiL
        have hfr := HS.out.2 i hiL
        have HT : Hid (loQ (L.getD i zoZ) = true → x = true) := Lib.hid fun h => by
          rw [HX2.out, List.any_eq_true]
          exact ⟨_, List.mem_of_getElem? (getZ hiL), h⟩
        have HF : Hid (loQ (L.getD i zoZ) = false → (L.take (i + 1)).any loQ = false) := Lib.hid fun h => by rw [takeZ hiL, any_snoc, HA.out, h]; rfl
        have HQ : Hid (loQ (L.getD i zoZ) = decide (((L.getD i zoZ).fr.length : Int) < (L.getD i zoZ).lo)) := Lib.hid rfl
        generalize loQ (L.getD i zoZ) = q at *
        generalize (L.getD i zoZ).fr.length = m at *
        generalize (L.getD i zoZ).lo = lo at *
        have hi0 : (0 : Int) ≤ (i : Int) := by omega
        have hi1 : (i : Int) < (n : Int) := by omega
        have HG := Lib.hid G
        clear G
        by_cases hlo : (m : Int) < lo
        · have HE := Lib.hid (HT.out (by rw [HQ.out]; exact decide_eq_true hlo))
          go_upto_region 6 with fail
          go_quiet (fail)
          revert nq; intro nq1
          go_wp2
          go_ret
          exact ⟨ret_bool HE.out.symm, HG.out.drewN nq1⟩
        · have HE := Lib.hid (HF.out (by rw [HQ.out]; exact decide_eq_false hlo))
          go_upto_region 6 with fail
          go_quiet (fail)
          revert nq; intro nq1
          go_wp2
          exact ⟨⟨i + 1, by go_num, by omega, HE, HG.out.drewN nq1⟩, by simp [intOf]; omega⟩
      · obtain rfl : i = n := by omega
        have HE : Hid (x = false) := Lib.hid (by rw [HX2.out, ← HA.out, take_all HN.out])
        go_wp2
        go_ret
        exact ⟨ret_bool HE.out.symm, G⟩
set_option maxHeartbeats 2000000 in
theorem want_q {p : Nat → Prop} {x : Int} {v : Value} {L : List Zo} {w : World} (h : ZsR w p v L) (hs : SmZ L) (hx : wanX L = x) : Calls Try.prog 24 #[v] w (RetG (.int .i64 x) w) := by
  obtain ⟨a, c, rfl⟩ := h.slice
  have HX := Lib.hid hx
  have HS := Lib.hid hs
  obtain ⟨n, hn⟩ : ∃ n, L.length = n := ⟨_, rfl⟩
  have HN := Lib.hid hn
  have hl : n ≤ 1000 := hn ▸ hs.1
  rw [hn] at h ⊢
  have HZ := Lib.hid h
  clear h hs hx hn
  cases hr : okB L
  · obtain rfl : x = 0 := by have := HX.out; unfold wanX at this; rw [hr] at this; simpa using this.symm
    go_enter Try.func24, Try.ntmps24
    go_wp2_with fail
    with_reducible refine (check_q HZ.out HS.out hr).mono ?_
    rintro e1 w1 ⟨rfl, g1⟩
    go_wp2
    go_ret
    exact ⟨rfl, g1⟩
  · have HX2 : Hid (x = sumZ waN L) := Lib.hid (by have := HX.out; unfold wanX at this; rw [hr] at this; simpa using this.symm)
    have HOK := Lib.hid hr
    go_enter Try.func24, Try.ntmps24
    go_wp2_with fail
    with_reducible refine (check_q HZ.out HS.out hr).mono ?_
    rintro e1 w1 ⟨rfl, g1⟩
    clear hr HX
    go_wp2_with fail
    go_loopw [3, 4] (fun nv iv wr => ∃ (i : Nat) (s : Int), nv = .int .i64 s ∧ iv = .int .i64 i ∧ i ≤ n ∧ 0 ≤ s ∧ s ≤ 1000 * (i : Int) ∧ Hid (s = sumZ waN (L.take i)) ∧ Grew w wr) (fun _ iv _ => n - (intOf iv).toNat)
    case atStart => exact ⟨0, 0, rfl, rfl, by omega, by omega, by omega, Lib.hid rfl, g1⟩
    case round =>
      obtain ⟨i, s, rfl, rfl, hi, hs0, hs1, HSM, G⟩ := hrel
      by_cases hlt : i < n
      · have hiL : i < L.length := by rw [HN.out]; exact hlt
        obtain ⟨g, a', c', rfl, -, hg, -, -, -, -, c4, c5, -⟩ := (HZ.out.grew G).at_ hiL
        have hfr := HS.out.2 i hiL
        have hhi : 0 ≤ (L.getD i zoZ).hi ∧ (L.getD i zoZ).hi ≤ 64 := by
          obtain ⟨nx, h1, h2⟩ := ok_at HOK.out hiL
          obtain ⟨b1, b2, b3, b4, b5, b6, b7, -⟩ := h2
          omega
        have HSM2 : Hid (s + max ((L.getD i zoZ).hi - ((L.getD i zoZ).fr.length : Int)) 0 = sumZ waN (L.take (i + 1))) := Lib.hid (by rw [takeZ hiL, sumZ_snoc, ← HSM.out]; rfl)
        generalize (L.getD i zoZ).fr.length = m at *
        generalize (L.getD i zoZ).hi = hi' at *
        have hi0 : (0 : Int) ≤ (i : Int) := by omega
        have hi1 : (i : Int) < (n : Int) := by omega
        have HG := Lib.hid G
        clear G
        by_cases hlo : (m : Int) < hi'
        · have HE : Hid (s + (hi' - (m : Int)) = sumZ waN (L.take (i + 1))) := Lib.hid (by rw [← HSM2.out]; omega)
          go_upto_region 6 with fail
          go_quiet (fail)
          revert nq; intro nq1
          go_wp2
          exact ⟨⟨i + 1, s + (hi' - (m : Int)), by go_num, by go_num, by omega, by omega, by omega, HE, HG.out.drewN nq1⟩, by simp [intOf]; omega⟩
        · have HE : Hid (s = sumZ waN (L.take (i + 1))) := Lib.hid (by rw [← HSM2.out]; omega)
          go_upto_region 6 with fail
          go_quiet (fail)
          revert nq; intro nq1
          go_wp2
          exact ⟨⟨i + 1, s, by go_num, by go_num, by omega, by omega, by omega, HE, HG.out.drewN nq1⟩, by simp [intOf]; omega⟩
      · obtain rfl : i = n := by omega
        have HE : Hid (x = s) := Lib.hid (by rw [HX2.out, HSM.out, take_all HN.out])
        go_wp2
        go_ret
        exact ⟨ret_int HE.out.symm, G⟩
end Go.Proofs.Ytphccdfdknihdaa

/- The program's zones (layer 10): Free, Want, Low; slices.IndexFunc with the closures of Low and Give. -/
import Derived.Test.YtphccdfdknihdaaZp5
namespace Go.Proofs.Ytphccdfdknihdaa
open Go.RowKit Go.Mine

set_option maxHeartbeats 2000000 in
theorem free_p {p : Nat → Prop} {x : Int} {v : Value} {L : List Zo} {w : World} (h : ZsR w p v L) (hs : SmZ L) (hx : freX L = x) : Calls Try.prog 19 #[v] w (RetG (.int .i64 x) w) := by
  obtain ⟨a, c, rfl⟩ := h.slice
  have HX := Lib.hid hx
  have HS := Lib.hid hs
  obtain ⟨n, hn⟩ : ∃ n, L.length = n := ⟨_, rfl⟩
  have HN := Lib.hid hn
  have hl : n ≤ 1000 := hn ▸ hs.1
  rw [hn] at h ⊢
  have HZ := Lib.hid h
  clear h hs hx hn
  cases hr : okB L
  · obtain rfl : x = 0 := by have := HX.out; unfold freX at this; rw [hr] at this; simpa using this.symm
    go_enter Try.func19, Try.ntmps19
    go_wp2_with fail
    with_reducible refine (check_p HZ.out HS.out hr).mono ?_
    rintro e1 w1 ⟨rfl, g1⟩
    go_wp2
    go_ret
    exact ⟨rfl, g1⟩
  · have HX2 : Hid (x = sumZ frN L) := Lib.hid (by have := HX.out; unfold freX at this; rw [hr] at this; simpa using this.symm)
    go_enter Try.func19, Try.ntmps19
    go_wp2_with fail
    with_reducible refine (check_p HZ.out HS.out hr).mono ?_
    rintro e1 w1 ⟨rfl, g1⟩
    clear hr HX
    go_wp2_with fail
    go_loopw [3, 11] (fun nv iv wr => ∃ (i : Nat) (s : Int), nv = .int .i64 s ∧ iv = .int .i64 i ∧ i ≤ n ∧ 0 ≤ s ∧ s ≤ 1000 * (i : Int) ∧ Hid (s = sumZ frN (L.take i)) ∧ Grew w wr) (fun _ iv _ => n - (intOf iv).toNat)
    case atStart => exact ⟨0, 0, rfl, rfl, by omega, by omega, by omega, Lib.hid rfl, g1⟩
    case round =>
      obtain ⟨i, s, rfl, rfl, hi, hs0, hs1, HSM, G⟩ := hrel
      obtain ⟨wo, rfl⟩ : ∃ wo : World, wo = wr := ⟨_, rfl⟩
      by_cases hlt : i < n
      · have hiL : i < L.length := by rw [HN.out]; exact hlt
        obtain ⟨g, a', c', rfl, -, hg, c0, c1, c2, c3, c4, c5, -⟩ := (HZ.out.grew G).at_ hiL
        have hfr := HS.out.2 i hiL
        have HSM2 : Hid (s + ((L.getD i zoZ).fr.length : Int) = sumZ frN (L.take (i + 1))) := Lib.hid (by rw [takeZ hiL, sumZ_snoc, ← HSM.out]; rfl)
        obtain ⟨⟨zf, zs, zm, zl, zh, fr⟩, hzd⟩ : ∃ z, L.getD i zoZ = z := ⟨_, rfl⟩
        rw [hzd] at c0 c1 c2 c3 c4 c5 hfr HSM2
        simp only at c0 c1 c2 c3 c4 c5 hfr HSM2
        generalize fr.length = m at *
        have hi0 : (0 : Int) ≤ (i : Int) := by omega
        have hi1 : (i : Int) < (n : Int) := by omega
        have HG := Lib.hid (G.alloc (.cells (cZ zf zs zm zl zh a' m c') 42))
        clear hzd G
        go_wp2
        exact ⟨⟨i + 1, s + (m : Int), by go_num, by go_num, by omega, by omega, by omega, HSM2, HG.out⟩, by simp [intOf] <;> omega⟩
      · obtain rfl : i = n := by omega
        have HE : Hid (x = s) := Lib.hid (by rw [HX2.out, HSM.out, take_all HN.out])
        go_wp2
        go_ret
        exact ⟨ret_int HE.out.symm, G⟩
set_option maxHeartbeats 2000000 in
theorem want_p {p : Nat → Prop} {x : Int} {v : Value} {L : List Zo} {w : World} (h : ZsR w p v L) (hs : SmZ L) (hx : wanX L = x) : Calls Try.prog 23 #[v] w (RetG (.int .i64 x) w) := by
  obtain ⟨a, c, rfl⟩ := h.slice
  have HX := Lib.hid hx
  have HS := Lib.hid hs
  obtain ⟨n, hn⟩ : ∃ n, L.length = n := ⟨_, rfl⟩
  have HN := Lib.hid hn
  have hl : n ≤ 1000 := hn ▸ hs.1
  rw [hn] at h ⊢
  have HZ := Lib.hid h
  clear h hs hx hn
  cases hr : okB L
  · obtain rfl : x = 0 := by have := HX.out; unfold wanX at this; rw [hr] at this; simpa using this.symm
    go_enter Try.func23, Try.ntmps23
    go_wp2_with fail
    with_reducible refine (check_p HZ.out HS.out hr).mono ?_
    rintro e1 w1 ⟨rfl, g1⟩
    go_wp2
    go_ret
    exact ⟨rfl, g1⟩
  · have HX2 : Hid (x = sumZ waN L) := Lib.hid (by have := HX.out; unfold wanX at this; rw [hr] at this; simpa using this.symm)
    have HOK := Lib.hid hr
    go_enter Try.func23, Try.ntmps23
    go_wp2_with fail
    with_reducible refine (check_p HZ.out HS.out hr).mono ?_
    rintro e1 w1 ⟨rfl, g1⟩
    clear hr HX
    go_wp2_with fail
    go_loopw [3, 11] (fun nv iv wr => ∃ (i : Nat) (s : Int), nv = .int .i64 s ∧ iv = .int .i64 i ∧ i ≤ n ∧ 0 ≤ s ∧ s ≤ 1000 * (i : Int) ∧ Hid (s = sumZ waN (L.take i)) ∧ Grew w wr) (fun _ iv _ => n - (intOf iv).toNat)
    case atStart => exact ⟨0, 0, rfl, rfl, by omega, by omega, by omega, Lib.hid rfl, g1⟩
    case round =>
      obtain ⟨i, s, rfl, rfl, hi, hs0, hs1, HSM, G⟩ := hrel
      obtain ⟨wo, rfl⟩ : ∃ wo : World, wo = wr := ⟨_, rfl⟩
      by_cases hlt : i < n
      · have hiL : i < L.length := by rw [HN.out]; exact hlt
        obtain ⟨g, a', c', rfl, -, hg, c0, c1, c2, c3, c4, c5, -⟩ := (HZ.out.grew G).at_ hiL
        have hfr := HS.out.2 i hiL
        have hhi : 0 ≤ (L.getD i zoZ).hi ∧ (L.getD i zoZ).hi ≤ 64 := by
          obtain ⟨nx, h1, h2⟩ := ok_at HOK.out hiL
          obtain ⟨b1, b2, b3, b4, b5, b6, b7, -⟩ := h2
          omega
        obtain ⟨d, hd⟩ : ∃ d, max ((L.getD i zoZ).hi - ((L.getD i zoZ).fr.length : Int)) 0 = d := ⟨_, rfl⟩
        have HD := Lib.hid hd
        have hd2 : 0 ≤ d ∧ d ≤ 64 := by omega
        have HSM2 : Hid (s + d = sumZ waN (L.take (i + 1))) := Lib.hid (by rw [takeZ hiL, sumZ_snoc, ← HSM.out, ← hd]; rfl)
        obtain ⟨⟨zf, zs, zm, zl, zh, fr⟩, hzd⟩ : ∃ z, L.getD i zoZ = z := ⟨_, rfl⟩
        rw [hzd] at c0 c1 c2 c3 c4 c5 hfr HD hhi
        simp only at c0 c1 c2 c3 c4 c5 hfr HD hhi
        have hh1 := hhi.1
        have hh2 : zh ≤ 1000 := by omega
        have hi0 : (0 : Int) ≤ (i : Int) := by omega
        have hi1 : (i : Int) < (n : Int) := by omega
        have HG := Lib.hid (G.alloc (.cells (cZ zf zs zm zl zh a' fr.length c') 42))
        clear hzd G hd hhi
        go_wp2_with fail
        with_reducible refine (lacks_p (z := ⟨zf, zs, zm, zl, zh, fr⟩) hh1 hh2 hfr HD.out).mono ?_
        rintro e2 w2 ⟨rfl, g2⟩
        have HG2 := Lib.hid (HG.out.trans g2)
        clear g2
        go_wp2
        exact ⟨⟨i + 1, s + d, by go_num, by go_num, by omega, by omega, by omega, HSM2, HG2.out⟩, by simp [intOf] <;> omega⟩
      · obtain rfl : i = n := by omega
        have HE : Hid (x = s) := Lib.hid (by rw [HX2.out, HSM.out, take_all HN.out])
        go_wp2
        go_ret
        exact ⟨ret_int HE.out.symm, G⟩
theorem low1_p {z : Zo} {a : Option Addr} {c : Nat} {b : Bool} {w : World} (h1 : 0 ≤ z.lo) (h2 : z.lo ≤ 1000) (hl : z.fr.length ≤ 1000) (hb : loQ z = b) : Calls Try.prog 40 #[zoV z a c] w (RetG (.bool b) w) := by
  have HB : Hid (b = decide (0 < max (z.lo - (z.fr.length : Int)) 0)) := Lib.hid (by rw [← hb]; unfold loQ; exact decide_eq_decide.2 (by omega))
  obtain ⟨zf, zs, zm, zl, zh, fr⟩ := z
  simp only at h1 h2 hl HB
  have HG := Lib.hid ((Grew.refl w).alloc (.cells (cZ zf zs zm zl zh a fr.length c) 42))
  clear hb
  obtain ⟨d, hd⟩ : ∃ d, max (zl - (fr.length : Int)) 0 = d := ⟨_, rfl⟩
  rw [hd] at HB
  have HD := Lib.hid hd
  clear hd
  go_enter Try.func40, Try.ntmps40
  go_wp2_with fail
  with_reducible refine (lacks_p (z := ⟨zf, zs, zm, zl, zh, fr⟩) h1 h2 hl HD.out).mono ?_
  rintro e2 w2 ⟨rfl, g2⟩
  have HG2 := Lib.hid (HG.out.trans g2)
  clear g2
  go_wp2
  go_ret
  exact ⟨ret_bool HB.out.symm, HG2.out⟩
/-- The first place of a zone that is asked for; -1 if there is none. -/
def RetIx (Q : Zo → Bool) (L : List Zo) (w : World) (e' : Ending) (w' : World) : Prop := ∃ j : Int, e' = .returned (.int .i64 j) ∧ Grew w w' ∧
  ((j = -1 ∧ ∀ k, k < L.length → Q (L.getD k zoZ) = false) ∨ ∃ m : Nat, j = m ∧ m < L.length ∧ (∀ k, k < m → Q (L.getD k zoZ) = false) ∧ Q (L.getD m zoZ) = true)
set_option maxHeartbeats 2000000 in
theorem indexL_p {p : Nat → Prop} {v : Value} {L : List Zo} {w : World} (h : ZsR w p v L) (hs : SmZ L) (hok : okB L = true) :
    Calls Try.prog 33 #[v, .func (.func 40) #[] #[]] w (RetIx loQ L w) := by
  obtain ⟨a, c, rfl⟩ := h.slice
  have HOK := Lib.hid hok
  have HS := Lib.hid hs
  obtain ⟨n, hn⟩ : ∃ n, L.length = n := ⟨_, rfl⟩
  have HN := Lib.hid hn
  have hl : n ≤ 1000 := hn ▸ hs.1
  rw [hn] at h ⊢
  have HZ := Lib.hid h
  clear h hs hok hn
  go_enter Try.func33, Try.ntmps33
  go_wp2_with fail
  go_loopw [8] (fun iv wr => ∃ i : Nat, iv = .int .i64 i ∧ i ≤ n ∧ Hid (∀ j, j < i → loQ (L.getD j zoZ) = false) ∧ Grew w wr) (fun iv _ => n - (intOf iv).toNat)
  case atStart => exact ⟨0, rfl, by omega, Lib.hid fun j hj => by omega, Grew.refl _⟩
  case round =>
    obtain ⟨i, rfl, hi, HB, G⟩ := hrel
    obtain ⟨wo, rfl⟩ : ∃ wo : World, wo = wr := ⟨_, rfl⟩
    by_cases hlt : i < n
    · have hiL : i < L.length := by rw [HN.out]; exact hlt
      obtain ⟨g, a', c', rfl, -, hg, c0, c1, c2, c3, c4, c5, -⟩ := (HZ.out.grew G).at_ hiL
      have hfr := HS.out.2 i hiL
      have hlo : 0 ≤ (L.getD i zoZ).lo ∧ (L.getD i zoZ).lo ≤ 64 := by
        obtain ⟨nx, h1, h2⟩ := ok_at HOK.out hiL
        obtain ⟨b1, b2, b3, b4, b5, b6, b7, -⟩ := h2
        omega
      have HNX : Hid (loQ (L.getD i zoZ) = false → ∀ j, j < i + 1 → loQ (L.getD j zoZ) = false) := Lib.hid fun h j hj => by
        by_cases e : j = i
        · rw [e]; exact h
        · exact HB.out j (by omega)
      obtain ⟨z, hzd⟩ : ∃ z, L.getD i zoZ = z := ⟨_, rfl⟩
      have HZD := Lib.hid hzd
      rw [hzd] at c0 c1 c2 c3 c4 c5 hfr hlo HNX
      have hl0 := hlo.1
      have hl1 : z.lo ≤ 1000 := by omega
      have hi0 : (0 : Int) ≤ (i : Int) := by omega
      have hi1 : (i : Int) < (n : Int) := by omega
      have HG := Lib.hid G
      clear hzd G hlo
      cases hq : loQ z
      · have HNX2 := Lib.hid (HNX.out hq)
        have HQ := Lib.hid hq
        clear hq
        go_wp2_with (go_at_call 40; (with_reducible refine (low1_p hl0 hl1 hfr HQ.out).mono ?_); rintro e2 w2 ⟨rfl, g2⟩)
        have HG2 := Lib.hid (HG.out.trans g2)
        clear g2
        go_wp2
        exact ⟨⟨i + 1, by go_num, by omega, HNX2, HG2.out⟩, by simp [intOf] <;> omega⟩
      · have HQ := Lib.hid hq
        clear hq
        go_wp2_with (go_at_call 40; (with_reducible refine (low1_p hl0 hl1 hfr HQ.out).mono ?_); rintro e2 w2 ⟨rfl, g2⟩)
        have HG2 := Lib.hid (HG.out.trans g2)
        clear g2
        go_wp2
        go_ret
        exact ⟨i, rfl, HG2.out, .inr ⟨i, rfl, hiL, HB.out, by rw [HZD.out]; exact HQ.out⟩⟩
    · obtain rfl : i = n := by omega
      go_wp2
      go_ret
      exact ⟨-1, rfl, G, .inl ⟨rfl, by rw [HN.out]; exact HB.out⟩⟩
theorem contL_p {p : Nat → Prop} {v : Value} {L : List Zo} {b : Bool} {w : World} (h : ZsR w p v L) (hs : SmZ L) (hok : okB L = true) (hb : L.any loQ = b) :
    Calls Try.prog 39 #[v, .func (.func 40) #[] #[]] w (RetG (.bool b) w) := by
  have HB := Lib.hid hb
  clear hb
  go_enter Try.func39, Try.ntmps39
  go_wp2_with fail
  with_reducible refine (indexL_p h hs hok).mono ?_
  rintro e1 w1 ⟨j, rfl, g1, ⟨rfl, h2⟩ | ⟨m, rfl, hm, -, h2⟩⟩
  · have HE : Hid (b = false) := Lib.hid (by
      rw [← HB.out, List.any_eq_false]
      intro z hz
      obtain ⟨k, hk, rfl⟩ := List.getElem_of_mem hz
      have := h2 k hk
      rw [getD_get hk] at this
      simp [this])
    clear h2
    go_wp2
    go_ret
    exact ⟨ret_bool HE.out.symm, g1⟩
  · have HE : Hid (b = true) := Lib.hid (by
      rw [← HB.out, List.any_eq_true]
      exact ⟨_, List.mem_of_getElem? (getZ hm), h2⟩)
    have hm0 : (0 : Int) ≤ (m : Int) := by omega
    clear h2
    go_wp2
    go_ret
    exact ⟨ret_bool HE.out.symm, g1⟩
theorem low_p {p : Nat → Prop} {x : Bool} {v : Value} {L : List Zo} {w : World} (h : ZsR w p v L) (hs : SmZ L) (hx : lowX L = x) : Calls Try.prog 21 #[v] w (RetG (.bool x) w) := by
  have HX := Lib.hid hx
  have HS := Lib.hid hs
  have HZ := Lib.hid h
  clear h hs hx
  cases hr : okB L
  · obtain rfl : x = false := by have := HX.out; unfold lowX at this; rw [hr] at this; simpa using this.symm
    go_enter Try.func21, Try.ntmps21
    go_wp2_with fail
    with_reducible refine (check_p HZ.out HS.out hr).mono ?_
    rintro e1 w1 ⟨rfl, g1⟩
    go_wp2
    go_ret
    exact ⟨rfl, g1⟩
  · have HX2 : Hid (L.any loQ = x) := Lib.hid (by have := HX.out; unfold lowX at this; rw [hr] at this; simpa using this)
    go_enter Try.func21, Try.ntmps21
    go_wp2_with fail
    with_reducible refine (check_p HZ.out HS.out hr).mono ?_
    rintro e1 w1 ⟨rfl, g1⟩
    have HZ1 := Lib.hid (HZ.out.grew g1)
    have HG1 := Lib.hid g1
    have HOK := Lib.hid hr
    clear g1 hr
    go_wp2_with fail
    with_reducible refine (contL_p HZ1.out HS.out HOK.out HX2.out).mono ?_
    rintro e2 w2 ⟨rfl, g2⟩
    have HG2 := Lib.hid (HG1.out.trans g2)
    clear g2
    go_wp2
    go_ret
    exact ⟨by simp, HG2.out⟩
end Go.Proofs.Ytphccdfdknihdaa

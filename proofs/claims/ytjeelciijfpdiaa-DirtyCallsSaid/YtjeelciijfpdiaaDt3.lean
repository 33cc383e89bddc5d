/- Layer 13: Check and Same of the reference; sum and Share of both. -/
import Derived.Test.YtjeelciijfpdiaaDt2
import Derived.Deep.RegionHeld3
import Derived.Deep.DeepCutAuto
import Derived.Deep.RegionWith
namespace Go.Proofs.Ytjeelciijfpdiaa
open Go.RowKit Go.Mine

theorem okD_cases (x : Pd) : (okD x = false ∧ ¬(1 : Int) ≤ x.e.length) ∨ (okD x = false ∧ (1 : Int) ≤ x.e.length ∧ ¬(x.e.length : Int) ≤ 4) ∨ (okD x = false ∧ (1 : Int) ≤ x.e.length ∧ (x.e.length : Int) ≤ 4 ∧ ¬1 ≤ x.p) ∨
    (okD x = false ∧ (1 : Int) ≤ x.e.length ∧ (x.e.length : Int) ≤ 4 ∧ 1 ≤ x.p ∧ ¬x.p ≤ 1000000) ∨ (okD x = false ∧ (1 : Int) ≤ x.e.length ∧ (x.e.length : Int) ≤ 4 ∧ 1 ≤ x.p ∧ x.p ≤ 1000000 ∧ ¬1 ≤ x.l) ∨
    (okD x = false ∧ (1 : Int) ≤ x.e.length ∧ (x.e.length : Int) ≤ 4 ∧ 1 ≤ x.p ∧ x.p ≤ 1000000 ∧ 1 ≤ x.l ∧ ¬x.l ≤ x.p) ∨ (okD x = (!x.e.any wrI) ∧ (1 : Int) ≤ x.e.length ∧ (x.e.length : Int) ≤ 4 ∧ 1 ≤ x.p ∧ x.p ≤ 1000000 ∧ 1 ≤ x.l ∧ x.l ≤ x.p) := by
  have no : ∀ {P : Prop}, (OkD x → P) → ¬P → okD x = false := fun h k => Bool.eq_false_iff.2 fun e => k (h (okD_iff.1 e))
  by_cases h1 : (1 : Int) ≤ x.e.length
  · by_cases h2 : (x.e.length : Int) ≤ 4
    · by_cases h3 : 1 ≤ x.p
      · by_cases h4 : x.p ≤ 1000000
        · by_cases h5 : 1 ≤ x.l
          · by_cases h6 : x.l ≤ x.p
            · refine .inr (.inr (.inr (.inr (.inr (.inr ⟨?_, h1, h2, h3, h4, h5, h6⟩)))))
              unfold okD
              rw [frB_t h1 h2, frB_t h3 h4, frB_t h5 h6]
              simp
            · exact .inr (.inr (.inr (.inr (.inr (.inl ⟨no OkD.l2 h6, h1, h2, h3, h4, h5, h6⟩)))))
          · exact .inr (.inr (.inr (.inr (.inl ⟨no OkD.l1 h5, h1, h2, h3, h4, h5⟩))))
        · exact .inr (.inr (.inr (.inl ⟨no OkD.p2 h4, h1, h2, h3, h4⟩)))
      · exact .inr (.inr (.inl ⟨no OkD.p1 h3, h1, h2, h3⟩))
    · exact .inr (.inl ⟨no OkD.n4 (by omega), h1, h2⟩)
  · exact .inl ⟨no OkD.n1 (by omega), h1⟩
set_option maxHeartbeats 4000000 in
theorem check_q {p : Nat → Prop} {v : Value} {x : Pd} {b : Bool} {w : World} (h : PdR w p v x) (hs : x.e.length ≤ 1000) (hb : okD x = b) : Calls Try.prog 15 #[v] w (RetG (.bool b) w) := by
  obtain ⟨a, c, rfl, h⟩ := h
  have HB := Lib.hid hb
  clear hb
  have HW := Lib.hid (okD_cases x)
  obtain ⟨L, P, l⟩ := x
  simp only at h hs HW ⊢
  obtain ⟨n, hn⟩ : ∃ n, L.length = n := ⟨_, rfl⟩
  have HN := Lib.hid hn
  rw [hn] at h HW ⊢
  have hs : n ≤ 1000 := hn ▸ hs
  have HZ := Lib.hid (h.grew ((Grew.refl w).alloc (.cells #[.slice a n c, .int .i64 P, .int .i64 l] 27)))
  have HG := Lib.hid ((Grew.refl w).alloc (.cells #[.slice a n c, .int .i64 P, .int .i64 l] 27))
  have HO := Lib.hid (Own.new w 27 #[.slice a n c, .int .i64 P, .int .i64 l])
  clear h hn
  rcases HW.out with ⟨e, h1⟩ | ⟨e, h1, h2⟩ | ⟨e, h1, h2, h3⟩ | ⟨e, h1, h2, h3, h4⟩ | ⟨e, h1, h2, h3, h4, h5⟩ | ⟨e, h1, h2, h3, h4, h5, h6⟩ | ⟨e, h1, h2, h3, h4, h5, h6⟩
  rotate_left 6
  · have HE : Hid (b = !L.any wrI) := Lib.hid (HB.out.symm.trans e)
    clear e HW HB
    go_enter Try.func15, Try.ntmps15
    go_wp2_with fail
    generalize World.alloc w _ = wa at *
    clear h3 h4 h5 h6
    go_loopw [3] (fun iv wr => ∃ i : Nat, iv = .int .i64 i ∧ i ≤ n ∧ Hid (∀ j, j < i → wrI (L.getD j 0) = false) ∧ Grew wa wr) (fun iv _ => n - (intOf iv).toNat)
    case atStart => exact ⟨0, rfl, by omega, Lib.hid fun j hj => by omega, Grew.refl _⟩
    case round =>
      obtain ⟨i, rfl, hi, HB, G⟩ := hrel
      obtain ⟨wo, rfl⟩ : ∃ wo : World, wo = wr := ⟨_, rfl⟩
      obtain ⟨c0, c1, c2, -⟩ := (HO.out.grew G).three
      by_cases hlt : i < n
      · have hiL : i < L.length := by rw [HN.out]; exact hlt
        obtain ⟨g, o, rfl, -, hg, d0⟩ := (HZ.out.grew G).at_ hiL
        have HNX : Hid (wrI (L.getD i 0) = false → ∀ j, j < i + 1 → wrI (L.getD j 0) = false) := Lib.hid fun h j hj => by
          by_cases e : j = i
          · rw [e]; exact h
          · exact HB.out j (by omega)
        have HAN : Hid (wrI (L.getD i 0) = true → L.any wrI = true) := Lib.hid fun h => by
          refine List.any_eq_true.2 ⟨_, List.getElem_mem hiL, ?_⟩
          have e : L.getD i 0 = L[i] := by simp [List.getD, hiL]
          rw [← e]; exact h
        obtain ⟨x, hx⟩ : ∃ x, L.getD i 0 = x := ⟨_, rfl⟩
        rw [hx] at d0 HNX HAN
        have hi0 : (0 : Int) ≤ (i : Int) := by omega
        have hi1 : (i : Int) < (n : Int) := by omega
        have HG2 := Lib.hid G
        clear hx G HB
        by_cases t1 : 0 ≤ x
        · by_cases t2 : x ≤ 1000000
          · have HNX2 := Lib.hid (HNX.out (wrI_f.2 ⟨t1, t2⟩))
            clear HNX HAN
            go_wp2
            exact ⟨⟨i + 1, by go_num, by omega, HNX2, HG2.out⟩, by simp [intOf] <;> omega⟩
          · have HE2 : Hid (b = false) := Lib.hid (by rw [HE.out, HAN.out (by unfold wrI; rw [frB_2 t2]; rfl)]; rfl)
            clear HNX HAN HE
            go_wp2
            go_ret
            exact ⟨ret_bool HE2.out.symm, HG.out.trans HG2.out⟩
        · have HE2 : Hid (b = false) := Lib.hid (by rw [HE.out, HAN.out (by unfold wrI; rw [frB_1 t1]; rfl)]; rfl)
          clear HNX HAN HE
          go_wp2
          go_ret
          exact ⟨ret_bool HE2.out.symm, HG.out.trans HG2.out⟩
      · obtain rfl : i = n := by omega
        have HE2 : Hid (b = true) := Lib.hid (by
          have : L.any wrI = false := by
            rw [List.any_eq_false]
            intro z hz
            obtain ⟨k, hk, rfl⟩ := List.getElem_of_mem hz
            have := HB.out k (by rw [← HN.out]; exact hk)
            have e : L.getD k 0 = L[k] := by simp [List.getD, hk]
            rw [e] at this
            simp [this]
          rw [HE.out, this]; rfl)
        have HG2 := Lib.hid G
        clear G HB
        go_wp2
        go_ret
        exact ⟨ret_bool HE2.out.symm, HG.out.trans HG2.out⟩
  all_goals
    have HE : Hid (b = false) := Lib.hid (HB.out.symm.trans e)
    clear e HW HB
    go_enter Try.func15, Try.ntmps15
    go_wp2
    go_ret
    exact ⟨ret_bool HE.out.symm, HG.out⟩
set_option maxHeartbeats 4000000 in
theorem same_q {p q : Nat → Prop} {v1 v2 : Value} {x : Pd} {w : World} (h1 : PdR w p v1 x) (h2 : PdR w q v2 x) (hs : x.e.length ≤ 1000) : Calls Try.prog 13 #[v1, v2] w (RetG (.bool true) w) := by
  obtain ⟨a, c, rfl, h⟩ := h1
  obtain ⟨a2, c2, rfl, h'⟩ := h2
  obtain ⟨L, P, l⟩ := x
  simp only at h h' hs ⊢
  obtain ⟨n, hn⟩ : ∃ n, L.length = n := ⟨_, rfl⟩
  have HN := Lib.hid hn
  rw [hn] at h h' ⊢
  have hs : n ≤ 1000 := hn ▸ hs
  have GA := ((Grew.refl w).alloc (.cells #[.slice a n c, .int .i64 P, .int .i64 l] 27)).alloc (.cells #[.slice a2 n c2, .int .i64 P, .int .i64 l] 27)
  have HZ := Lib.hid (h.grew GA)
  have HY := Lib.hid (h'.grew GA)
  have HG := Lib.hid GA
  have HO := Lib.hid ((Own.new w 27 #[.slice a n c, .int .i64 P, .int .i64 l]).alloc (.cells #[.slice a2 n c2, .int .i64 P, .int .i64 l] 27))
  have HP := Lib.hid (Own.new2 w (.cells #[.slice a n c, .int .i64 P, .int .i64 l] 27) 27 #[.slice a2 n c2, .int .i64 P, .int .i64 l])
  clear h h' hn GA
  go_enter Try.func13, Try.ntmps13
  go_wp2_with fail
  generalize World.alloc (World.alloc w _) _ = wa at *
  go_loopw [5] (fun iv wr => ∃ i : Nat, iv = .int .i64 i ∧ i ≤ n ∧ Grew wa wr) (fun iv _ => n - (intOf iv).toNat)
  case atStart => exact ⟨0, rfl, by omega, Grew.refl _⟩
  case round =>
    obtain ⟨i, rfl, hi, G⟩ := hrel
    obtain ⟨wo, rfl⟩ : ∃ wo : World, wo = wr := ⟨_, rfl⟩
    obtain ⟨c0, c1, c2, -⟩ := (HO.out.grew G).three
    obtain ⟨d0, d1, d2, -⟩ := (HP.out.grew G).three
    have HG2 := Lib.hid G
    by_cases hlt : i < n
    · have hiL : i < L.length := by rw [HN.out]; exact hlt
      obtain ⟨g, o, rfl, -, hg, e0⟩ := (HZ.out.grew G).at_ hiL
      obtain ⟨g2, o2, rfl, -, hg2, f0⟩ := (HY.out.grew G).at_ hiL
      generalize L.getD i 0 = y at *
      have hi0 : (0 : Int) ≤ (i : Int) := by omega
      have hi1 : (i : Int) < (n : Int) := by omega
      clear G
      go_upto_region 6 with fail
      go_quiet (fail)
      revert nq; intro nq1
      go_wp2
      exact ⟨⟨i + 1, by go_num, by omega, HG2.out.drewN nq1⟩, by simp [intOf] <;> omega⟩
    · obtain rfl : i = n := by omega
      clear G
      go_wp2
      go_ret
      exact ⟨rfl, HG.out.trans HG2.out⟩
set_option maxHeartbeats 2000000 in
theorem sum_p {p : Nat → Prop} {a : Option Addr} {n c : Nat} {L : List Int} {w : World} (h : RdI w p a n L) (hs : L.length ≤ 4) (hv : ∀ k, k < L.length → 0 ≤ L.getD k 0 ∧ L.getD k 0 ≤ 1000000) :
    Calls Try.prog 30 #[.slice a n c] w (RetS (.int .i64 (smF L L.length)) w) := by
  have HN := Lib.hid h.1.symm
  have hs' : n ≤ 4 := by rw [h.1]; exact hs
  have HZ := Lib.hid h
  have HS := Lib.hid (fun k (hk : k < L.length) => sm_s hk)
  have HL := Lib.hid (sm_le hv)
  have HV := Lib.hid hv
  clear h hv hs
  rw [HN.out]
  go_enter Try.func30, Try.ntmps30
  go_wp2_with fail
  go_loopw [3, 8] (fun sv iv wr => ∃ i : Nat, iv = .int .i64 i ∧ i ≤ n ∧ sv = .int .i64 (smF L i) ∧ wr = w) (fun _ iv _ => n - (intOf iv).toNat)
  case atStart => exact ⟨0, rfl, by omega, by rw [sm_0], rfl⟩
  case round =>
    obtain ⟨i, rfl, hi, rfl, rfl⟩ := hrel
    by_cases hlt : i < n
    · have hiL : i < L.length := by rw [HN.out]; exact hlt
      obtain ⟨g, o, rfl, -, hg, e0⟩ := HZ.out.at_ hiL
      have hn := HS.out i hiL
      have hb := HL.out i (by omega)
      have hy := HV.out i hiL
      obtain ⟨s, hs⟩ : ∃ s, smF L i = s := ⟨_, rfl⟩
      obtain ⟨s2, hs2⟩ : ∃ s2, smF L (i + 1) = s2 := ⟨_, rfl⟩
      rw [hs] at hn hb ⊢
      rw [hs2] at hn
      generalize L.getD i 0 = y at *
      have hi0 : (0 : Int) ≤ (i : Int) := by omega
      have hi1 : (i : Int) < (n : Int) := by omega
      have n1 : IntKind.i64.wrap (s + y) = s2 := (IntWalk.i64_in _ (by omega)).trans hn.symm
      have n2 : wrap64 (s + y) = s2 := (IntWalk.wrap64_in _ (by omega)).trans hn.symm
      have HS2 := Lib.hid hs2
      clear hn hb hy hs hs2
      go_wp2
      exact ⟨⟨i + 1, by go_num, by omega, by rw [HS2.out], by first | rfl | trivial⟩, by simp [intOf] <;> omega⟩
    · obtain rfl : i = n := by omega
      go_wp2
      go_ret
      exact ⟨rfl, rfl⟩
end Go.Proofs.Ytjeelciijfpdiaa

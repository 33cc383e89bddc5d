/- Dirty files by age (layer 15): Check, has of the reference. -/
import Derived.Test.YtmdechoajmbhoaaAg1
namespace Go.Mine
open Go Go.RowKit
theorem oneA_cases (L : List Du) (i : Nat) (hi : i < L.length) (hp : okA (L.take i) = true) : (oneA (L.take i) (L.getD i zD) = false ∧ (L.getD i zD).1 < 0) ∨ (oneA (L.take i) (L.getD i zD) = false ∧ 0 ≤ (L.getD i zD).1 ∧ 8 ≤ (L.getD i zD).1) ∨
    (oneA (L.take i) (L.getD i zD) = false ∧ 0 ≤ (L.getD i zD).1 ∧ (L.getD i zD).1 < 8 ∧ (L.getD i zD).2 < 0) ∨ (oneA (L.take i) (L.getD i zD) = false ∧ 0 ≤ (L.getD i zD).1 ∧ (L.getD i zD).1 < 8 ∧ 0 ≤ (L.getD i zD).2 ∧ 1000000 < (L.getD i zD).2) ∨
    (oneA (L.take i) (L.getD i zD) = false ∧ 0 ≤ (L.getD i zD).1 ∧ (L.getD i zD).1 < 8 ∧ 0 ≤ (L.getD i zD).2 ∧ (L.getD i zD).2 ≤ 1000000 ∧ 0 < i ∧ (L.getD i zD).2 < (L.getD (i - 1) zD).2) ∨
    (oneA (L.take i) (L.getD i zD) = (!hasA (L.take i) (L.getD i zD).1) ∧ 0 ≤ (L.getD i zD).1 ∧ (L.getD i zD).1 < 8 ∧ 0 ≤ (L.getD i zD).2 ∧ (L.getD i zD).2 ≤ 1000000 ∧ i = 0) ∨
    (oneA (L.take i) (L.getD i zD) = (!hasA (L.take i) (L.getD i zD).1) ∧ 0 ≤ (L.getD i zD).1 ∧ (L.getD i zD).1 < 8 ∧ 0 ≤ (L.getD i zD).2 ∧ (L.getD i zD).2 ≤ 1000000 ∧ 0 < i ∧ (L.getD (i - 1) zD).2 ≤ (L.getD i zD).2) := by
  have hl := (okA_lst hp).1
  have hlast : 0 < i → lstA (L.take i) = (L.getD (i - 1) zD).2 := fun h0 => by
    have := lstA_take (L := L) (k := i - 1) (by omega)
    rwa [show i - 1 + 1 = i by omega] at this
  have h00 : i = 0 → lstA (L.take i) = 0 := fun h0 => by subst h0; rfl
  generalize L.getD i zD = d at *
  generalize (L.getD (i - 1) zD).2 = p at *
  by_cases h1 : 0 ≤ d.1
  · by_cases h2 : d.1 < 8
    · by_cases h3 : 0 ≤ d.2
      · by_cases h4 : d.2 ≤ 1000000
        · have hone : lstA (L.take i) ≤ d.2 → oneA (L.take i) d = !hasA (L.take i) d.1 := fun h5 => by
            unfold oneA
            rw [fileB_t h1 h2, decide_eq_true h5, decide_eq_true h4]
            simp
          by_cases h0 : i = 0
          · exact .inr (.inr (.inr (.inr (.inr (.inl ⟨hone (by rw [h00 h0]; exact h3), h1, h2, h3, h4, h0⟩)))))
          · by_cases h5 : d.2 < p
            · exact .inr (.inr (.inr (.inr (.inl ⟨oneA_f3 (by rw [hlast (by omega)]; exact h5), h1, h2, h3, h4, by omega, h5⟩))))
            · exact .inr (.inr (.inr (.inr (.inr (.inr ⟨hone (by rw [hlast (by omega)]; omega), h1, h2, h3, h4, by omega, by omega⟩)))))
        · exact .inr (.inr (.inr (.inl ⟨oneA_f4 (by omega), h1, h2, h3, by omega⟩)))
      · exact .inr (.inr (.inl ⟨oneA_f3 (by omega), h1, h2, by omega⟩))
    · exact .inr (.inl ⟨oneA_f1 (fileB_2 h2), h1, by omega⟩)
  · exact .inl ⟨oneA_f1 (fileB_1 h1), by omega⟩
end Go.Mine
namespace Go.Proofs.Ytmdechoajmbhoaa
open Go.RowKit Go.Mine

set_option maxHeartbeats 2000000 in
theorem has_q {B : Nat} {v : Value} {L : List Du} {f : Int} {b : Bool} {w : World} (h : RdS 2 enc2 w B v L) (hs : L.length ≤ 1000) (hb : hasA L f = b) : Calls Try.prog 30 #[v, .int .i64 f] w (RetG (.bool b) w) := by
  obtain ⟨a, c, rfl, -, -⟩ := h.slice
  have HB := Lib.hid hb
  obtain ⟨n, hn⟩ : ∃ n, L.length = n := ⟨_, rfl⟩
  have HN := Lib.hid hn
  rw [hn] at h hs ⊢
  have HZ := Lib.hid h
  clear h hn hb
  go_enter Try.func30, Try.ntmps30
  go_wp2_with fail
  go_loopw [5] (fun iv wr => ∃ i : Nat, iv = .int .i64 i ∧ i ≤ n ∧ Hid (∀ j, j < i → (L.getD j zD).1 ≠ f) ∧ Grew w wr) (fun iv _ => n - (intOf iv).toNat)
  case atStart => exact ⟨0, rfl, by omega, Lib.hid (fun j hj => by omega), Grew.refl _⟩
  case round =>
    obtain ⟨i, rfl, hi, HK, G⟩ := hrel
    obtain ⟨wo, rfl⟩ : ∃ wo : World, wo = wr := ⟨_, rfl⟩
    by_cases hlt : i < n
    · have hiL : i < L.length := by rw [HN.out]; exact hlt
      obtain ⟨g, o, rfl, hBg, hg, c0, c1⟩ := (HZ.out.grew G).at2 hiL
      have HYE : Hid ((L.getD i zD).1 = f → b = true) := Lib.hid (fun h => by rw [← HB.out]; exact hasA_iff.2 ⟨i, hiL, h⟩)
      have HNX : Hid ((L.getD i zD).1 ≠ f → ∀ j, j < i + 1 → (L.getD j zD).1 ≠ f) := Lib.hid (fun h j hj => by
        by_cases e : j = i
        · rw [e]; exact h
        · exact HK.out j (by omega))
      obtain ⟨⟨df, ds⟩, hd⟩ : ∃ d, L.getD i zD = d := ⟨_, rfl⟩
      rw [show (L.getD i ((0 : Int), (0 : Int))) = (df, ds) from hd] at c0 c1
      rw [hd] at HYE HNX
      simp only at c0 c1 HYE HNX
      have hi0 : (0 : Int) ≤ (i : Int) := by omega
      have hi1 : (i : Int) < (n : Int) := by omega
      have HG := Lib.hid G
      clear HB HK hd c1 G
      by_cases e : df = f
      · have HE := Lib.hid (HYE.out e)
        have e1 : (df == f) = true := by simp [e]
        clear HYE HNX e
        go_wp2
        go_ret
        exact ⟨ret_bool HE.out.symm, HG.out⟩
      · have HE := Lib.hid (HNX.out e)
        have e1 : (df == f) = false := by simp [e]
        clear HYE HNX e
        go_wp2
        exact ⟨⟨i + 1, by go_num, by omega, HE, HG.out⟩, by simp [intOf] <;> omega⟩
    · obtain rfl : i = n := by omega
      have HE : Hid (b = false) := Lib.hid (by rw [← HB.out]; exact hasA_iff'.2 (by rw [HN.out]; exact HK.out))
      go_wp2
      go_ret
      exact ⟨ret_bool HE.out.symm, G⟩
set_option maxRecDepth 100000 in
set_option maxHeartbeats 8000000 in
theorem check_q {B : Nat} {v : Value} {L : List Du} {b : Bool} {w : World} (h : RdS 2 enc2 w B v L) (hs : L.length ≤ 1000) (hb : okA L = b) : Calls Try.prog 20 #[v] w (RetG (.bool b) w) := by
  obtain ⟨a, c, rfl, -, -⟩ := h.slice
  have HB := Lib.hid hb
  obtain ⟨n, hn⟩ : ∃ n, L.length = n := ⟨_, rfl⟩
  have HN := Lib.hid hn
  rw [hn] at h hs ⊢
  have HZ := Lib.hid h
  clear h hn hb
  go_enter Try.func20, Try.ntmps20
  go_wp2_with fail
  go_loopw [3] (fun iv wr => ∃ i : Nat, iv = .int .i64 i ∧ i ≤ n ∧ Hid (∀ j, j < i → oneA (L.take j) (L.getD j zD) = true) ∧ Grew w wr) (fun iv _ => n - (intOf iv).toNat)
  case atStart => exact ⟨0, rfl, by omega, Lib.hid (fun j hj => by omega), Grew.refl _⟩
  case round =>
    obtain ⟨i, rfl, hi, HK, G⟩ := hrel
    obtain ⟨wo, rfl⟩ : ∃ wo : World, wo = wr := ⟨_, rfl⟩
    by_cases hlt : i < n
    · have hiL : i < L.length := by rw [HN.out]; exact hlt
      obtain ⟨g, o, rfl, hBg, hg, c0, c1⟩ := (HZ.out.grew G).at2 hiL
      have hok : okA (L.take i) = true := okA_iff.2 fun j hj => by
        rw [List.length_take] at hj
        rw [List.take_take, Nat.min_eq_left (by omega), take_getD2 (show j < i by omega)]
        exact HK.out j (by omega)
      have HC := Lib.hid (oneA_cases L i hiL hok)
      have HNO : Hid (oneA (L.take i) (L.getD i zD) = false → b = false) := Lib.hid (fun h => by rw [← HB.out]; exact okA_no hiL h)
      have HYE : Hid (oneA (L.take i) (L.getD i zD) = true → ∀ j, j < i + 1 → oneA (L.take j) (L.getD j zD) = true) := Lib.hid (fun h j hj => by
        by_cases e : j = i
        · rw [e]; exact h
        · exact HK.out j (by omega))
      have HH : Hid (∀ f, (∀ j, j < i → (L.getD j zD).1 ≠ f) → hasA (L.take i) f = false) := Lib.hid (fun f h => hasA_iff'.2 fun j hj => by
        rw [List.length_take] at hj
        rw [take_getD2 (show j < i by omega)]
        exact h j (by omega))
      have HH2 : Hid (∀ f j, j < i → (L.getD j zD).1 = f → hasA (L.take i) f = true) := Lib.hid (fun f j hj h => hasA_iff.2 ⟨j, by rw [List.length_take]; omega, by rw [take_getD2 hj]; exact h⟩)
      have HCB : Hid (∀ j, j < n → wo.cell? ⟨g, o + j * 2, none⟩ = some (.int .i64 (L.getD j zD).1) ∧ wo.cell? ⟨g, o + j * 2 + 1, none⟩ = some (.int .i64 (L.getD j zD).2)) := Lib.hid (fun j hj => by
        obtain ⟨g', o', e, -, -, d0, d1⟩ := (HZ.out.grew G).at2 (k := j) (by rw [HN.out]; exact hj)
        injection e with e
        injection e with e1 e2
        subst e1 e2
        exact ⟨d0, d1⟩)
      obtain ⟨⟨df, ds⟩, hd⟩ : ∃ d, L.getD i zD = d := ⟨_, rfl⟩
      rw [show (L.getD i ((0 : Int), (0 : Int))) = (df, ds) from hd] at c0 c1
      rw [hd] at HYE HNO HC
      simp only at c0 c1 HC
      have hi0 : (0 : Int) ≤ (i : Int) := by omega
      have hi1 : (i : Int) < (n : Int) := by omega
      have HG := Lib.hid G
      clear HB HK hd G hok
      rcases HC.out with ⟨e, h1⟩ | ⟨e, h1, h2⟩ | ⟨e, h1, h2, h3⟩ | ⟨e, h1, h2, h3, h4⟩ | ⟨e, h1, h2, h3, h4, h5, h6⟩ | ⟨e, h1, h2, h3, h4, h5⟩ | ⟨e, h1, h2, h3, h4, h5, h6⟩
      · have HE := Lib.hid (HNO.out e)
        clear HYE HNO HC HH HH2 e HCB
        have q1 : decide (df < 0) = true := decide_eq_true (by omega)
        go_wp2
        go_quiet (fail)
        revert nq; intro nq1
        go_wp2
        go_ret
        exact ⟨ret_bool HE.out.symm, HG.out.drewN _⟩
      · have HE := Lib.hid (HNO.out e)
        clear HYE HNO HC HH HH2 e HCB
        have q1 : decide (df < 0) = false := decide_eq_false (by omega)
        have q2 : decide (8 ≤ df) = true := decide_eq_true (by omega)
        go_wp2
        go_quiet (fail)
        revert nq; intro nq1
        go_wp2
        go_ret
        exact ⟨ret_bool HE.out.symm, HG.out.drewN _⟩
      · have HE := Lib.hid (HNO.out e)
        clear HYE HNO HC HH HH2 e HCB
        have q1 : decide (df < 0) = false := decide_eq_false (by omega)
        have q2 : decide (8 ≤ df) = false := decide_eq_false (by omega)
        have q3 : decide (ds < 0) = true := decide_eq_true (by omega)
        go_wp2
        go_quiet (fail)
        revert nq; intro nq1
        go_wp2
        go_ret
        exact ⟨ret_bool HE.out.symm, HG.out.drewN _⟩
      · have HE := Lib.hid (HNO.out e)
        clear HYE HNO HC HH HH2 e HCB
        have q1 : decide (df < 0) = false := decide_eq_false (by omega)
        have q2 : decide (8 ≤ df) = false := decide_eq_false (by omega)
        have q3 : decide (ds < 0) = false := decide_eq_false (by omega)
        have q4 : decide (1000000 < ds) = true := decide_eq_true (by omega)
        go_wp2
        go_quiet (fail)
        revert nq; intro nq1
        go_wp2
        go_ret
        exact ⟨ret_bool HE.out.symm, HG.out.drewN _⟩
      · have HE := Lib.hid (HNO.out e)
        obtain ⟨-, d1⟩ := HCB.out (i - 1) (by omega)
        generalize (L.getD (i - 1) zD).2 = pv at *
        obtain ⟨m, rfl⟩ : ∃ m, i = m + 1 := ⟨i - 1, by omega⟩
        rw [Nat.add_sub_cancel] at d1
        clear HYE HNO HC HH HH2 e HCB
        have q1 : decide (df < 0) = false := decide_eq_false (by omega)
        have q2 : decide (8 ≤ df) = false := decide_eq_false (by omega)
        have q3 : decide (ds < 0) = false := decide_eq_false (by omega)
        have q4 : decide (1000000 < ds) = false := decide_eq_false (by omega)
        have q5 : decide ((0 : Int) < ((m + 1 : Nat) : Int)) = true := decide_eq_true (by omega)
        have q6 : decide (ds < pv) = true := decide_eq_true (by omega)
        go_wp2
        go_quiet (fail)
        revert nq; intro nq1
        go_wp2
        go_ret
        exact ⟨ret_bool HE.out.symm, HG.out.drewN _⟩
      · have HE : Hid (hasA (L.take i) df = false → ∀ j, j < i + 1 → oneA (L.take j) (L.getD j zD) = true) := Lib.hid (fun h => HYE.out (by rw [e, h]; rfl))
        have HE2 : Hid (hasA (L.take i) df = true → b = false) := Lib.hid (fun h => HNO.out (by rw [e, h]; rfl))
        clear HYE HNO HC e
        have q1 : decide (df < 0) = false := decide_eq_false (by omega)
        have q2 : decide (8 ≤ df) = false := decide_eq_false (by omega)
        have q3 : decide (ds < 0) = false := decide_eq_false (by omega)
        have q4 : decide (1000000 < ds) = false := decide_eq_false (by omega)
        have q5 : decide (0 < i) = false := decide_eq_false (by omega)
        try have HI0 := Lib.hid h5
        try clear h5
        go_wp2
        go_quiet (fail)
        revert nq; intro nq1
        go_wp2_with fail
        go_loopw [4] (fun kv wr => ∃ k : Nat, kv = .int .i64 k ∧ k ≤ i ∧ Hid (∀ j, j < k → (L.getD j zD).1 ≠ df) ∧ Grew (wo.drewN nq1) wr) (fun kv _ => i - (intOf kv).toNat)
        case atStart => exact ⟨0, rfl, by omega, Lib.hid (fun j hj => by omega), Grew.refl _⟩
        case round =>
          obtain ⟨k, rfl, hk, HK2, G2⟩ := hrel
          obtain ⟨wi, rfl⟩ : ∃ wi : World, wi = wr := ⟨_, rfl⟩
          by_cases hkl : k < i
          · have e0 := (G2.cells.1 g _ hg).trans c0
            obtain ⟨x0, -⟩ := HCB.out k (by omega)
            replace x0 := (G2.cells.1 g _ hg).trans x0
            have HM : Hid ((L.getD k zD).1 = df → hasA (L.take (i)) df = true) := Lib.hid (fun h => HH2.out df k hkl h)
            have HN2 : Hid ((L.getD k zD).1 ≠ df → ∀ j, j < k + 1 → (L.getD j zD).1 ≠ df) := Lib.hid (fun h j hj => by
              by_cases e : j = k
              · rw [e]; exact h
              · exact HK2.out j (by omega))
            generalize (L.getD k zD).1 = kf at *
            have hk0 : (0 : Int) ≤ (k : Int) := by omega
            have hk1 : (k : Int) < (n : Int) := by omega
            have hk2 : (k : Int) < ((i : Nat) : Int) := by omega
            have hgi := Nat.lt_of_lt_of_le (show g < (wo.drewN nq1).heap.size from hg) G2.size
            have HG2 := Lib.hid G2
            clear HH HH2 HCB c0 c1 G2 HK2 HE
            by_cases e : kf = df
            · have HB2 := Lib.hid (HE2.out (HM.out e))
              have e1 : (kf == df) = true := by simp [e]
              clear HM HN2 e HE2
              go_wp2
              go_quiet (fail)
              revert nq; intro nq2
              go_wp2
              go_ret
              exact ⟨ret_bool HB2.out.symm, ((HG.out.drewN _).trans HG2.out).drewN _⟩
            · have HB2 := Lib.hid (HN2.out e)
              have e1 : (kf == df) = false := by simp [e]
              clear HM HN2 e HE2
              go_wp2
              go_quiet (fail)
              revert nq; intro nq2
              go_wp2
              exact ⟨⟨k + 1, by go_num, by omega, HB2, HG2.out.drewN _⟩, by simp [intOf] <;> omega⟩
          · obtain rfl : i = k := by omega
            have HE3 := Lib.hid (HE.out (HH.out df HK2.out))
            have HG2 := Lib.hid ((HG.out.drewN _).trans G2)
            clear HE HE2 HK2 HH HH2 HCB G2
            go_wp2
            exact ⟨⟨i + 1, by go_num, by omega, HE3, HG2.out⟩, by simp [intOf] <;> omega⟩
      · have HE : Hid (hasA (L.take i) df = false → ∀ j, j < i + 1 → oneA (L.take j) (L.getD j zD) = true) := Lib.hid (fun h => HYE.out (by rw [e, h]; rfl))
        have HE2 : Hid (hasA (L.take i) df = true → b = false) := Lib.hid (fun h => HNO.out (by rw [e, h]; rfl))
        obtain ⟨-, d1⟩ := HCB.out (i - 1) (by omega)
        generalize (L.getD (i - 1) zD).2 = pv at *
        obtain ⟨m, rfl⟩ : ∃ m, i = m + 1 := ⟨i - 1, by omega⟩
        rw [Nat.add_sub_cancel] at d1
        clear HYE HNO HC e
        have q1 : decide (df < 0) = false := decide_eq_false (by omega)
        have q2 : decide (8 ≤ df) = false := decide_eq_false (by omega)
        have q3 : decide (ds < 0) = false := decide_eq_false (by omega)
        have q4 : decide (1000000 < ds) = false := decide_eq_false (by omega)
        have q5 : decide ((0 : Int) < ((m + 1 : Nat) : Int)) = true := decide_eq_true (by omega)
        have q6 : decide (ds < pv) = false := decide_eq_false (by omega)
        try have HI0 := Lib.hid h5
        try clear h5
        go_wp2
        go_quiet (fail)
        revert nq; intro nq1
        go_wp2_with fail
        go_loopw [4] (fun kv wr => ∃ k : Nat, kv = .int .i64 k ∧ k ≤ m + 1 ∧ Hid (∀ j, j < k → (L.getD j zD).1 ≠ df) ∧ Grew (wo.drewN nq1) wr) (fun kv _ => m + 1 - (intOf kv).toNat)
        case atStart => exact ⟨0, rfl, by omega, Lib.hid (fun j hj => by omega), Grew.refl _⟩
        case round =>
          obtain ⟨k, rfl, hk, HK2, G2⟩ := hrel
          obtain ⟨wi, rfl⟩ : ∃ wi : World, wi = wr := ⟨_, rfl⟩
          by_cases hkl : k < m + 1
          · have e0 := (G2.cells.1 g _ hg).trans c0
            obtain ⟨x0, -⟩ := HCB.out k (by omega)
            replace x0 := (G2.cells.1 g _ hg).trans x0
            have HM : Hid ((L.getD k zD).1 = df → hasA (L.take (m + 1)) df = true) := Lib.hid (fun h => HH2.out df k hkl h)
            have HN2 : Hid ((L.getD k zD).1 ≠ df → ∀ j, j < k + 1 → (L.getD j zD).1 ≠ df) := Lib.hid (fun h j hj => by
              by_cases e : j = k
              · rw [e]; exact h
              · exact HK2.out j (by omega))
            generalize (L.getD k zD).1 = kf at *
            have hk0 : (0 : Int) ≤ (k : Int) := by omega
            have hk1 : (k : Int) < (n : Int) := by omega
            have hk2 : (k : Int) < ((m + 1 : Nat) : Int) := by omega
            have hgi := Nat.lt_of_lt_of_le (show g < (wo.drewN nq1).heap.size from hg) G2.size
            have HG2 := Lib.hid G2
            clear HH HH2 HCB c0 c1 G2 HK2 HE
            by_cases e : kf = df
            · have HB2 := Lib.hid (HE2.out (HM.out e))
              have e1 : (kf == df) = true := by simp [e]
              clear HM HN2 e HE2
              go_wp2
              go_quiet (fail)
              revert nq; intro nq2
              go_wp2
              go_ret
              exact ⟨ret_bool HB2.out.symm, ((HG.out.drewN _).trans HG2.out).drewN _⟩
            · have HB2 := Lib.hid (HN2.out e)
              have e1 : (kf == df) = false := by simp [e]
              clear HM HN2 e HE2
              go_wp2
              go_quiet (fail)
              revert nq; intro nq2
              go_wp2
              exact ⟨⟨k + 1, by go_num, by omega, HB2, HG2.out.drewN _⟩, by simp [intOf] <;> omega⟩
          · obtain rfl : m + 1 = k := by omega
            have HE3 := Lib.hid (HE.out (HH.out df HK2.out))
            have HG2 := Lib.hid ((HG.out.drewN _).trans G2)
            clear HE HE2 HK2 HH HH2 HCB G2
            go_wp2
            exact ⟨⟨m + 1 + 1, by go_num, by omega, HE3, HG2.out⟩, by simp [intOf] <;> omega⟩
    · obtain rfl : i = n := by omega
      have HE : Hid (b = true) := Lib.hid (by rw [← HB.out]; exact okA_iff.2 (by rw [HN.out]; exact HK.out))
      go_wp2
      go_ret
      exact ⟨ret_bool HE.out.symm, G⟩
end Go.Proofs.Ytmdechoajmbhoaa

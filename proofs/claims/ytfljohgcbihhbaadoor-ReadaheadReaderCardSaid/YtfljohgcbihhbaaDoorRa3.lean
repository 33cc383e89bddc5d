/- Lists of which those are taken out that a closure names (layer 7): slices.IndexFunc, slices.DeleteFunc. -/
import Derived.Test.YtfljohgcbihhbaaDoorRa2
import Derived.Test.YtfljohgcbihhbaaDoorRowCut
namespace Go.Mine
open Go Go.RowKit
/-- M is L behind the deletion's first j elements: i of them stand at the front. -/
def DelP (e : Int) (L M : List Int) (i j : Nat) : Prop := M.length = L.length ∧ i < j ∧ j ≤ L.length ∧ M.take i = kpL e (L.take j) ∧ ∀ k, j ≤ k → k < L.length → M.getD k 0 = L.getD k 0
theorem getD_setI {L : List Int} {j i : Nat} (x : Int) (hi : i < L.length) : (L.set j x).getD i 0 = if i = j then x else L.getD i 0 := by
  simp only [List.getD, List.getElem?_set]
  by_cases e : j = i
  · subst e; simp [hi]
  · rw [if_neg e, if_neg (fun h => e h.symm)]
theorem DelP.first {e : Int} {L : List Int} {m : Nat} (hm : m < L.length) (h : ∀ k, k < m → L.getD k 0 < e) (hn : ¬L.getD m 0 < e) : DelP e L L m (m + 1) := by
  refine ⟨rfl, by omega, hm, ?_, fun k _ _ => rfl⟩
  rw [take_getD (d := 0) L m hm, kpL_snoc, if_neg hn]
  refine (kpL_all fun p hp => ?_).symm
  obtain ⟨k, hk, rfl⟩ := List.mem_iff_getElem.1 hp
  rw [List.length_take] at hk
  have := h k (by omega)
  rw [List.getElem_take]
  simpa [List.getD, show k < L.length by omega] using this
theorem DelP.keep {e : Int} {L M : List Int} {i j : Nat} (h : DelP e L M i j) (hj : j < L.length) (hv : L.getD j 0 < e) : DelP e L (M.set i (L.getD j 0)) (i + 1) (j + 1) := by
  obtain ⟨h1, h2, h3, h4, h5⟩ := h
  refine ⟨by rw [List.length_set]; exact h1, by omega, hj, ?_, fun k hk hk2 => ?_⟩
  · rw [take_getD (d := 0) L j hj, kpL_snoc, if_pos hv, ← h4, take_getD (d := 0) _ i (by rw [List.length_set]; omega), getD_setI _ (by omega), if_pos rfl, List.take_set_of_le (Nat.le_refl _)]
  · rw [getD_setI _ (by omega), if_neg (by omega)]
    exact h5 k (by omega) hk2
theorem DelP.drop {e : Int} {L M : List Int} {i j : Nat} (h : DelP e L M i j) (hj : j < L.length) (hv : ¬L.getD j 0 < e) : DelP e L M i (j + 1) := by
  obtain ⟨h1, h2, h3, h4, h5⟩ := h
  refine ⟨h1, by omega, hj, ?_, fun k hk hk2 => h5 k (by omega) hk2⟩
  rw [take_getD (d := 0) L j hj, kpL_snoc, if_neg hv]
  exact h4
theorem DelP.last {e : Int} {L M : List Int} {i : Nat} (h : DelP e L M i L.length) : M.take i = kpL e L ∧ i < M.length := by
  obtain ⟨h1, h2, h3, h4, h5⟩ := h
  rw [List.take_length] at h4
  exact ⟨h4, by omega⟩
end Go.Mine
namespace Go.Proofs.YtfljohgcbihhbaaDoor
open Go.RowKit Go.Mine

def geB (e p : Int) : Bool := decide (e ≤ p)
theorem before1_any (p e : Int) (c : Nat) (w : World) (h : w.cell? ⟨c, 0, none⟩ = some (.int .i64 e)) :
    Calls Tryd.prog 49 #[.int .i64 p, .pointer (some ⟨c, 0, none⟩)] w (RetS (.bool (geB e p)) w) := by
  go_enter Tryd.func49, Tryd.ntmps49
  go_wp2
  go_ret
  exact ⟨rfl, rfl⟩
theorem before1_v {v : Bool} (p e : Int) (c : Nat) (w : World) (h : w.cell? ⟨c, 0, none⟩ = some (.int .i64 e)) (hv : geB e p = v) :
    Calls Tryd.prog 49 #[.int .i64 p, .pointer (some ⟨c, 0, none⟩)] w (RetS (.bool v) w) := hv ▸ before1_any p e c w h
/-- The place of the first element that is not before e; -1 if there is none. -/
def RetFst (e : Int) (L : List Int) (w : World) (e' : Ending) (w' : World) : Prop := ∃ j : Int, e' = .returned (.int .i64 j) ∧ w' = w ∧
  ((j = -1 ∧ ∀ k, k < L.length → L.getD k 0 < e) ∨ ∃ m : Nat, j = m ∧ m < L.length ∧ (∀ k, k < m → L.getD k 0 < e) ∧ ¬L.getD m 0 < e)
set_option maxHeartbeats 1000000 in
theorem indexI_any {L : List Int} {B : Nat} (a : Option Addr) (n cp : Nat) (e : Int) (c : Nat) (w : World) (R : RowE 3 1 enc1 w B (.slice a n cp) L) (hl : L.length ≤ 100000) (h : w.cell? ⟨c, 0, none⟩ = some (.int .i64 e)) :
    Calls Tryd.prog 65 #[.slice a n cp, .func (.func 49) #[] #[.pointer (some ⟨c, 0, none⟩)]] w (RetFst e L w) := by
  obtain ⟨hn, hcell⟩ := R.atI
  have HC := Lib.hid hcell
  clear hcell R
  subst hn
  go_enter Tryd.func65, Tryd.ntmps65
  go_wp2
  go_loopw [8] (fun i wr => ∃ k : Nat, k ≤ L.length ∧ i = .int .i64 k ∧ (∀ m, m < k → L.getD m 0 < e) ∧ wr = w) (fun i _ => L.length - (intOf i).toNat)
  case atStart => exact ⟨0, by omega, rfl, fun m hm => absurd hm (Nat.not_lt_zero m), rfl⟩
  case round =>
    obtain ⟨k, hk, rfl, hh, rfl⟩ := hrel
    have HH := Lib.hid hh
    clear hh
    by_cases hlt : k < L.length
    · obtain ⟨g, rfl, -, hg, p0, -⟩ := HC.out k hlt
      obtain ⟨x, hx⟩ : ∃ x, L.getD k 0 = x := ⟨_, rfl⟩
      rw [hx] at p0
      have HX := Lib.hid hx
      clear hx
      cases hb : geB e x
      all_goals
        have HB := Lib.hid hb
        go_wp2_with (go_at_call 49; (with_reducible refine (before1_v _ _ _ _ h HB.out).mono ?_); rintro e w1 ⟨rfl, rfl⟩)
      · refine ⟨⟨k + 1, by omega, by go_num, fun m hm => ?_, by first | rfl | trivial⟩, by simp [intOf]; omega⟩
        by_cases em : m = k
        · subst em
          have := of_decide_eq_false HB.out
          rw [HX.out]; omega
        · exact HH.out m (by omega)
      · go_ret
        have := of_decide_eq_true HB.out
        exact ⟨k, rfl, rfl, .inr ⟨k, rfl, hlt, HH.out, by rw [HX.out]; omega⟩⟩
    · have hkn : k = L.length := by omega
      subst hkn
      go_wp2
      go_ret
      exact ⟨-1, rfl, rfl, .inl ⟨rfl, HH.out⟩⟩
def RetKp (e : Int) (L : List Int) (B : Nat) (v : Value) (w : World) (e' : Ending) (w' : World) : Prop := ∃ u, e' = .returned u ∧ RowE 3 1 enc1 w' B u (kpL e L) ∧ w.grownBy w' v.ownBlock
theorem zero_I (w : World) : (zeroValue 3).run Tryd.prog w = .ok (.int .i64 0) w := by kernel_rfl
set_option maxHeartbeats 1000000 in
theorem deleteI_any {L : List Int} {B : Nat} (a : Option Addr) (n cp : Nat) (e : Int) (c : Nat) (w : World) (R : RowE 3 1 enc1 w B (.slice a n cp) L) (hl : L.length ≤ 100000) (h : w.cell? ⟨c, 0, none⟩ = some (.int .i64 e))
    (hc : (Value.slice a n cp).ownBlock ≠ some c) :
    Calls Tryd.prog 48 #[.slice a n cp, .func (.func 49) #[] #[.pointer (some ⟨c, 0, none⟩)]] w (RetKp e L B (.slice a n cp) w) := by
  have hn := R.atI.1
  have HR := Lib.hid R
  have hclt := World.block_lt_of_cell? w _ h
  clear R
  subst hn
  go_enter Tryd.func48, Tryd.ntmps48
  go_wp2_with fail
  with_reducible refine (indexI_any _ _ _ _ _ _ HR.out hl h).mono ?_
  rintro e' w1 ⟨j, rfl, rfl, ⟨rfl, hall⟩ | ⟨m, rfl, hm, hbef, hat⟩⟩
  · have HK := Lib.hid (show kpL e L = L from kpL_all fun p hp => by
      obtain ⟨k, hk, rfl⟩ := List.mem_iff_getElem.1 hp
      have := hall k hk
      simpa [List.getD, hk] using this)
    clear hall
    go_wp2
    go_ret
    exact ⟨_, rfl, by rw [HK.out]; exact HR.out, grown_refl _ _⟩
  · have HD := Lib.hid (DelP.first hm hbef hat)
    clear hbef hat
    obtain ⟨g, rfl, -⟩ := HR.out.atI.2 m (by omega)
    have hcg : ¬c = g := fun e => hc (by rw [e]; rfl)
    have hm1 : (m == (-1 : Int)) = false := beqF (by omega)
    go_wp2
    go_loopw [5, 6] (fun iv jv wr => ∃ (i j : Nat) (M : List Int), iv = .int .i64 i ∧ jv = .int .i64 j ∧ DelP e L M i j ∧ RowE 3 1 enc1 wr B (.slice (some ⟨g, 0, none⟩) L.length cp) M ∧ w1.grownBy wr (some g)) (fun _ jv _ => L.length - (intOf jv).toNat)
    case atStart => exact ⟨m, m + 1, L, rfl, by go_num, HD.out, HR.out, grown_refl _ _⟩
    case round =>
      clear HD
      obtain ⟨i, j, M, rfl, rfl, hD, RM, G⟩ := hrel
      obtain ⟨wo, rfl⟩ : ∃ wo : World, wo = wr := ⟨_, rfl⟩
      have hj := hD.2.2.1
      have hij := hD.2.1
      have hML := hD.1
      have HD := Lib.hid hD
      have HRM := Lib.hid RM
      clear hD RM
      by_cases hlt : j < L.length
      · obtain ⟨gg, eg, -, -, p0, -⟩ := HRM.out.atI.2 j (by omega)
        obtain rfl : g = gg := by injection eg with eg; injection eg
        rw [HD.out.2.2.2.2 j (Nat.le_refl _) hlt] at p0
        obtain ⟨gg, eg, -, -, q0, q1⟩ := HRM.out.atI.2 i (by omega)
        obtain rfl : g = gg := by injection eg with eg; injection eg
        have c0 := (World.cell?_of_block (a := ⟨c, 0, none⟩) (G.block c hclt (fun e => hcg (by injection e with e)))).trans h
        have HK := Lib.hid (fun hv => HD.out.keep hlt hv)
        have HX := Lib.hid (fun hv => HD.out.drop hlt hv)
        generalize L.getD j 0 = x at *
        have j0 : (0 : Int) ≤ (j : Int) := by omega
        have j1 : (j : Int) < (L.length : Int) := by omega
        have i0 : (0 : Int) ≤ (i : Int) := by omega
        have i1 : (i : Int) < (L.length : Int) := by omega
        cases hb : geB e x
        all_goals
          have HB := Lib.hid hb
          go_wp2_with (go_at_call 49; (with_reducible refine (before1_v _ _ _ _ c0 HB.out).mono ?_); rintro e w1 ⟨rfl, rfl⟩)
        · have hv : x < e := by have := of_decide_eq_false HB.out; omega
          exact ⟨⟨i + 1, j + 1, M.set i x, by go_num, by go_num, HK.out hv, HRM.out.storeI i x, grown_set G (p := ⟨g, i, none⟩) (.inl rfl) _⟩, by simp [intOf]; omega⟩
        · have hv : e ≤ x := of_decide_eq_true HB.out
          exact ⟨⟨i, j + 1, M, rfl, by go_num, HX.out hv, HRM.out, G⟩, by simp [intOf]; omega⟩
      · obtain rfl : j = L.length := by omega
        obtain ⟨e1, e2⟩ := HD.out.last
        have HE := Lib.hid e1
        have i0 : (0 : Int) ≤ (i : Int) := by omega
        have i1 : (i : Int) ≤ (L.length : Int) := by omega
        have hcl : ∀ ty, (Builtin.clear_ #[22] ty #[.slice (some ⟨g, i, none⟩) (L.length - i) (cp - i)]).run Tryd.prog wo = .ok (.tuple #[]) (wo.setCells g i (List.replicate (L.length - i) (.int .i64 0))) :=
          fun ty => Lib.run_clear_slice wo _ 3 ty (.int .i64 0) und_I zero_I rfl rfl g i _ _ (by omega)
            (fun k hk => by obtain ⟨gg, eg, -, -, q0, -⟩ := HRM.out.atI.2 (i + k) (by omega); obtain rfl : g = gg := by injection eg with eg; injection eg
                            rw [q0]; rfl)
            (fun k hk => by obtain ⟨gg, eg, -, -, -, q1⟩ := HRM.out.atI.2 (i + k) (by omega); obtain rfl : g = gg := by injection eg with eg; injection eg
                            exact q1)
        have hcp : L.length ≤ cp := by
          rcases HRM.out.shape enc1_len with ⟨e, -⟩ | ⟨g', cap, e, -, -, hc, -⟩
          · exact absurd e (by simp)
          · injection e with e1 e2 e3; omega
        have hic : i ≤ cp := by omega
        have i2 : (i : Int) ≤ (cp : Int) := by omega
        clear e1
        go_wp2
        go_ret
        have R1 := HRM.out.cut enc1_len (k := i) (by omega)
        rw [HE.out] at R1
        have hl2 : (kpL e L).length = i := by rw [← HE.out, List.length_take]; omega
        clear hcl HE HD i0 i1 i2 hic
        obtain ⟨K, hK⟩ : ∃ K, kpL e L = K := ⟨_, rfl⟩
        rw [hK] at R1 hl2
        subst hl2
        exact ⟨.slice (some ⟨g, 0, none⟩) K.length cp, rfl, by rw [hK]; exact RowE.wiped enc1_len _ _ _ R1 (Nat.le_of_eq (Nat.mul_one _)), grown_setCells (.inl rfl) _ _ _ G⟩
theorem before_any {L : List Int} {B : Nat} (e : Int) (v : Value) (w : World) (R : RowE 3 1 enc1 w B v L) (hl : L.length ≤ 100000) :
    Calls Tryd.prog 27 #[.int .i64 e, v] w (RetKp e L B v w) := by
  obtain ⟨a, c, rfl⟩ := R.len
  have HR := Lib.hid (R.alloc (.cells #[.int .i64 e] 3))
  have hlt := R.lt
  have X := (Own.new w 3 #[.int .i64 e]).one
  have hne : (Value.slice a L.length c).ownBlock ≠ some w.heap.size := fun h => by have := hlt _ h; omega
  have HNE := Lib.hid hne
  clear R hlt hne
  go_enter Tryd.func27, Tryd.ntmps27
  go_wp2_with fail
  with_reducible refine (deleteI_any _ _ _ _ _ _ HR.out hl X.1 HNE.out).mono ?_
  rintro e' w1 ⟨u, rfl, RK, G⟩
  go_wp2
  go_ret
  exact ⟨_, rfl, RK, grown_trans (grown_alloc (grown_refl _ _) _) G⟩
end Go.Proofs.YtfljohgcbihhbaaDoor

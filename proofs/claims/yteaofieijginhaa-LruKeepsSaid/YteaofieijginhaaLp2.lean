/- slices.IndexFunc, slices.DeleteFunc with the closure of without; without, toFront, withReference (layer 8): contracts. -/
import Derived.Test.YteaofieijginhaaLp1
namespace Go.Mine
open Go Go.RowKit
theorem take_getD1 {L : List Int} {k : Nat} (h : k < L.length) : L.take (k + 1) = L.take k ++ [L.getD k 0] := by
  rw [List.take_add_one, List.getElem?_eq_getElem h, List.getD, List.getElem?_eq_getElem h]; rfl
theorem wol_snoc (L : List Int) (x e : Int) : wol (L ++ [x]) e = if x = e then wol L e else wol L e ++ [x] := by
  unfold wol
  rw [List.filter_append]
  by_cases h : x = e <;> simp [h]
theorem wol_all {L : List Int} {e : Int} (h : ∀ p ∈ L, ¬p = e) : wol L e = L := List.filter_eq_self.2 fun p hp => decide_eq_true (h p hp)
/-- M is L behind the deletion's first j elements: i of them stand at the front. -/
def DelQ (e : Int) (L M : List Int) (i j : Nat) : Prop := M.length = L.length ∧ i < j ∧ j ≤ L.length ∧ M.take i = wol (L.take j) e ∧ ∀ k, j ≤ k → k < L.length → M.getD k 0 = L.getD k 0
theorem getD_setQ {L : List Int} {j i : Nat} (x : Int) (hi : i < L.length) : (L.set j x).getD i 0 = if i = j then x else L.getD i 0 := by
  simp only [List.getD, List.getElem?_set]
  by_cases e : j = i
  · subst e; simp [hi]
  · rw [if_neg e, if_neg (fun h => e h.symm)]
theorem DelQ.first {e : Int} {L : List Int} {m : Nat} (hm : m < L.length) (h : ∀ k, k < m → ¬L.getD k 0 = e) (hn : L.getD m 0 = e) : DelQ e L L m (m + 1) := by
  refine ⟨rfl, by omega, hm, ?_, fun k _ _ => rfl⟩
  rw [take_getD1 hm, wol_snoc, if_pos hn]
  refine (wol_all fun p hp => ?_).symm
  obtain ⟨k, hk, rfl⟩ := List.mem_iff_getElem.1 hp
  rw [List.length_take] at hk
  have := h k (by omega)
  rw [List.getElem_take]
  simpa [List.getD, show k < L.length by omega] using this
theorem DelQ.keep {e : Int} {L M : List Int} {i j : Nat} (h : DelQ e L M i j) (hj : j < L.length) (hv : ¬L.getD j 0 = e) : DelQ e L (M.set i (L.getD j 0)) (i + 1) (j + 1) := by
  obtain ⟨h1, h2, h3, h4, h5⟩ := h
  refine ⟨by rw [List.length_set]; exact h1, by omega, hj, ?_, fun k hk hk2 => ?_⟩
  · rw [take_getD1 hj, wol_snoc, if_neg hv, ← h4, take_getD1 (by rw [List.length_set]; omega), getD_setQ _ (by omega), if_pos rfl, List.take_set_of_le (Nat.le_refl _)]
  · rw [getD_setQ _ (by omega), if_neg (by omega)]
    exact h5 k (by omega) hk2
theorem DelQ.drop {e : Int} {L M : List Int} {i j : Nat} (h : DelQ e L M i j) (hj : j < L.length) (hv : L.getD j 0 = e) : DelQ e L M i (j + 1) := by
  obtain ⟨h1, h2, h3, h4, h5⟩ := h
  refine ⟨h1, by omega, hj, ?_, fun k hk hk2 => h5 k (by omega) hk2⟩
  rw [take_getD1 hj, wol_snoc, if_pos hv]
  exact h4
theorem DelQ.last {e : Int} {L M : List Int} {i : Nat} (h : DelQ e L M i L.length) : M.take i = wol L e ∧ i < M.length := by
  obtain ⟨h1, h2, h3, h4, h5⟩ := h
  rw [List.take_length] at h4
  exact ⟨h4, by omega⟩
end Go.Mine
namespace Go.Proofs.Yteaofieijginhaa
open Go.RowKit Go.Mine

theorem neF {x y : Int} (h : (x == y) = false) : ¬x = y := by simpa using h
theorem eqT {x y : Int} (h : (x == y) = true) : x = y := by simpa using h
theorem eq1_v {v : Bool} (p e : Int) (c : Nat) (w : World) (h : w.cell? ⟨c, 0, none⟩ = some (.int .i64 e)) (hv : (p == e) = v) :
    Calls Try.prog 52 #[.int .i64 p, .pointer (some ⟨c, 0, none⟩)] w fun e' w' => e' = .returned (.bool v) ∧ w' = w := by
  go_enter Try.func52, Try.ntmps52
  go_wp2
  all_goals (go_ret; exact ⟨by simp [*], rfl⟩)
/-- The place of the first element that is not before e; -1 if there is none. -/
def RetFsq (e : Int) (L : List Int) (w : World) (e' : Ending) (w' : World) : Prop := ∃ j : Int, e' = .returned (.int .i64 j) ∧ w' = w ∧
  ((j = -1 ∧ ∀ k, k < L.length → ¬L.getD k 0 = e) ∨ ∃ m : Nat, j = m ∧ m < L.length ∧ (∀ k, k < m → ¬L.getD k 0 = e) ∧ L.getD m 0 = e)
set_option maxHeartbeats 1000000 in
theorem indexQ_any {L : List Int} {B : Nat} (a : Option Addr) (n cp : Nat) (e : Int) (c : Nat) (w : World) (R : RowE 3 1 enc1 w B (.slice a n cp) L) (hl : L.length ≤ 100000) (h : w.cell? ⟨c, 0, none⟩ = some (.int .i64 e)) :
    Calls Try.prog 57 #[.slice a n cp, .func (.func 52) #[] #[.pointer (some ⟨c, 0, none⟩)]] w (RetFsq e L w) := by
  obtain ⟨hn, hcell⟩ := R.atI
  have HC := Lib.hid hcell
  clear hcell R
  subst hn
  go_enter Try.func57, Try.ntmps57
  go_wp2
  go_loopw [8] (fun i wr => ∃ k : Nat, k ≤ L.length ∧ i = .int .i64 k ∧ (∀ m, m < k → ¬L.getD m 0 = e) ∧ wr = w) (fun i _ => L.length - (intOf i).toNat)
  case atStart => exact ⟨0, by omega, rfl, fun m hm => absurd hm (Nat.not_lt_zero m), rfl⟩
  case round =>
    obtain ⟨k, hk, rfl, hh, rfl⟩ := hrel
    have HH := Lib.hid hh
    clear hh
    by_cases hlt : k < L.length
    · obtain ⟨g, rfl, -, hg, p0, -⟩ := HC.out k hlt
      obtain ⟨x, hx⟩ : ∃ x, L.getD k 0 = x := ⟨_, rfl⟩
      rw [hx] at p0
      have HX := Lib.hid hx
      clear hx
      cases hb : (x == e)
      all_goals
        have HB := Lib.hid hb
        go_wp2_with (go_at_call 52; (with_reducible refine (eq1_v _ _ _ _ h HB.out).mono ?_); rintro e w1 ⟨rfl, rfl⟩)
      · refine ⟨⟨k + 1, by omega, by go_num, fun m hm => ?_, by first | rfl | trivial⟩, by simp [intOf]; omega⟩
        by_cases em : m = k
        · subst em
          rw [HX.out]; exact neF HB.out
        · exact HH.out m (by omega)
      · go_ret
        exact ⟨k, rfl, rfl, .inr ⟨k, rfl, hlt, HH.out, by rw [HX.out]; exact eqT HB.out⟩⟩
    · have hkn : k = L.length := by omega
      subst hkn
      go_wp2
      go_ret
      exact ⟨-1, rfl, rfl, .inl ⟨rfl, HH.out⟩⟩
def RetDq (e : Int) (L : List Int) (B : Nat) (v : Value) (w : World) (e' : Ending) (w' : World) : Prop := ∃ u, e' = .returned u ∧ RowE 3 1 enc1 w' B u (wol L e) ∧ w.grownBy w' v.ownBlock
theorem zero_Q (w : World) : (zeroValue 3).run Try.prog w = .ok (.int .i64 0) w := by kernel_rfl
set_option maxHeartbeats 1000000 in
theorem deleteQ_any {L : List Int} {B : Nat} (a : Option Addr) (n cp : Nat) (e : Int) (c : Nat) (w : World) (R : RowE 3 1 enc1 w B (.slice a n cp) L) (hl : L.length ≤ 100000) (h : w.cell? ⟨c, 0, none⟩ = some (.int .i64 e))
    (hc : (Value.slice a n cp).ownBlock ≠ some c) :
    Calls Try.prog 51 #[.slice a n cp, .func (.func 52) #[] #[.pointer (some ⟨c, 0, none⟩)]] w (RetDq e L B (.slice a n cp) w) := by
  have hn := R.atI.1
  have HR := Lib.hid R
  have hclt := World.block_lt_of_cell? w _ h
  clear R
  subst hn
  go_enter Try.func51, Try.ntmps51
  go_wp2_with fail
  with_reducible refine (indexQ_any _ _ _ _ _ _ HR.out hl h).mono ?_
  rintro e' w1 ⟨j, rfl, rfl, ⟨rfl, hall⟩ | ⟨m, rfl, hm, hbef, hat⟩⟩
  · have HK := Lib.hid (show wol L e = L from wol_all fun p hp => by
      obtain ⟨k, hk, rfl⟩ := List.mem_iff_getElem.1 hp
      have := hall k hk
      simpa [List.getD, hk] using this)
    clear hall
    go_wp2
    go_ret
    exact ⟨_, rfl, by rw [HK.out]; exact HR.out, grown_refl _ _⟩
  · have HD := Lib.hid (DelQ.first hm hbef hat)
    clear hbef hat
    obtain ⟨g, rfl, -⟩ := HR.out.atI.2 m (by omega)
    have hcg : ¬c = g := fun e => hc (by rw [e]; rfl)
    have hm1 : (m == (-1 : Int)) = false := beqF (by omega)
    go_wp2
    go_loopw [5, 6] (fun iv jv wr => ∃ (i j : Nat) (M : List Int), iv = .int .i64 i ∧ jv = .int .i64 j ∧ DelQ e L M i j ∧ RowE 3 1 enc1 wr B (.slice (some ⟨g, 0, none⟩) L.length cp) M ∧ w1.grownBy wr (some g)) (fun _ jv _ => L.length - (intOf jv).toNat)
    case atStart => exact ⟨m, m + 1, L, rfl, by go_num, HD.out, HR.out, grown_refl _ _⟩
    case round =>
      clear HD
      obtain ⟨i, j, M, rfl, rfl, hD, RM, G⟩ := hrel
      obtain ⟨wo, rfl⟩ : ∃ wo : World, wo = wr := ⟨_, rfl⟩
      have hj := hD.2.2.1
      have hij := hD.2.1
      have hML := hD.1
      have HD := Lib.hid hD
      have HRM := Lib.hid RM
      clear hD RM
      by_cases hlt : j < L.length
      · obtain ⟨gg, eg, -, -, p0, -⟩ := HRM.out.atI.2 j (by omega)
        obtain rfl : g = gg := by injection eg with eg; injection eg
        rw [HD.out.2.2.2.2 j (Nat.le_refl _) hlt] at p0
        obtain ⟨gg, eg, -, -, q0, q1⟩ := HRM.out.atI.2 i (by omega)
        obtain rfl : g = gg := by injection eg with eg; injection eg
        have c0 := (World.cell?_of_block (a := ⟨c, 0, none⟩) (G.block c hclt (fun e => hcg (by injection e with e)))).trans h
        have HK := Lib.hid (fun hv => HD.out.keep hlt hv)
        have HX := Lib.hid (fun hv => HD.out.drop hlt hv)
        generalize L.getD j 0 = x at *
        have j0 : (0 : Int) ≤ (j : Int) := by omega
        have j1 : (j : Int) < (L.length : Int) := by omega
        have i0 : (0 : Int) ≤ (i : Int) := by omega
        have i1 : (i : Int) < (L.length : Int) := by omega
        cases hb : (x == e)
        all_goals
          have HB := Lib.hid hb
          go_wp2_with (go_at_call 52; (with_reducible refine (eq1_v _ _ _ _ c0 HB.out).mono ?_); rintro e w1 ⟨rfl, rfl⟩)
        · have hv : ¬x = e := neF HB.out
          exact ⟨⟨i + 1, j + 1, M.set i x, by go_num, by go_num, HK.out hv, HRM.out.storeI i x, grown_set G (p := ⟨g, i, none⟩) (.inl rfl) _⟩, by simp [intOf]; omega⟩
        · have hv : x = e := eqT HB.out
          exact ⟨⟨i, j + 1, M, rfl, by go_num, HX.out hv, HRM.out, G⟩, by simp [intOf]; omega⟩
      · obtain rfl : j = L.length := by omega
        obtain ⟨e1, e2⟩ := HD.out.last
        have HE := Lib.hid e1
        have i0 : (0 : Int) ≤ (i : Int) := by omega
        have i1 : (i : Int) ≤ (L.length : Int) := by omega
        have hcl : ∀ ty, (Builtin.clear_ #[22] ty #[.slice (some ⟨g, i, none⟩) (L.length - i) (cp - i)]).run Try.prog wo = .ok (.tuple #[]) (wo.setCells g i (List.replicate (L.length - i) (.int .i64 0))) :=
          fun ty => Lib.run_clear_slice wo _ 3 ty (.int .i64 0) und_I zero_Q rfl rfl g i _ _ (by omega)
            (fun k hk => by obtain ⟨gg, eg, -, -, q0, -⟩ := HRM.out.atI.2 (i + k) (by omega); obtain rfl : g = gg := by injection eg with eg; injection eg
                            rw [q0]; rfl)
            (fun k hk => by obtain ⟨gg, eg, -, -, -, q1⟩ := HRM.out.atI.2 (i + k) (by omega); obtain rfl : g = gg := by injection eg with eg; injection eg
                            exact q1)
        have hcp : L.length ≤ cp := by
          rcases HRM.out.shape enc1_len with ⟨e, -⟩ | ⟨g', cap, e, -, -, hc, -⟩
          · exact absurd e (by simp)
          · injection e with e1 e2 e3; omega
        have hic : i ≤ cp := by omega
        have i2 : (i : Int) ≤ (cp : Int) := by omega
        clear e1
        go_wp2
        go_ret
        have R1 := HRM.out.cut enc1_len (k := i) (by omega)
        rw [HE.out] at R1
        have hl2 : (wol L e).length = i := by rw [← HE.out, List.length_take]; omega
        clear hcl HE HD i0 i1 i2 hic
        obtain ⟨K, hK⟩ : ∃ K, wol L e = K := ⟨_, rfl⟩
        rw [hK] at R1 hl2
        subst hl2
        exact ⟨.slice (some ⟨g, 0, none⟩) K.length cp, rfl, by rw [hK]; exact RowE.wiped enc1_len _ _ _ R1 (Nat.le_of_eq (Nat.mul_one _)), grown_setCells (.inl rfl) _ _ _ G⟩
theorem without_p {L : List Int} {B : Nat} (v : Value) (f : Int) (w : World) (R : RwI w B v L) (hl : L.length ≤ 100000) : Calls Try.prog 38 #[v, .int .i64 f] w (RetL1 (wol L f) w) := by
  have HR := Lib.hid (R.alloc (.cells #[.int .i64 f] 3))
  have hO := Own.new w 3 #[.int .i64 f]
  have k := (Grew.refl w).alloc (.cells #[.int .i64 f] 3)
  have hz : (w.alloc (.cells #[.int .i64 f] 3)).heap.size = w.heap.size + 1 := by simp
  clear R
  go_enter Try.func38, Try.ntmps38
  go_wp2_with fail
  with_reducible refine (clone_i _ _ HR.out hl).mono ?_
  rintro e' w1 ⟨v1, rfl, R1, G1⟩
  have X := (hO.grew G1).one
  rw [hz] at R1
  obtain ⟨a, c, rfl⟩ := R1.len
  have hne : (Value.slice a L.length c).ownBlock ≠ some w.heap.size := fun h => by have := R1.above _ h; omega
  have HNE := Lib.hid hne
  have HR1 := Lib.hid R1
  have HK := Lib.hid (k.trans G1)
  clear R1 hne k G1 hz
  go_wp2_with fail
  with_reducible refine (deleteQ_any _ _ _ _ _ _ HR1.out hl X.1 HNE.out).mono ?_
  rintro e' w2 ⟨u, rfl, R2, G2⟩
  go_wp2
  go_ret
  exact ⟨_, rfl, R2.wider (Nat.le_succ _), HK.out.keptA G2 (fun x e => HR1.out.above x e) (Nat.le_succ _)⟩
theorem toFront_p {L : List Int} {B : Nat} (v : Value) (f : Int) (w : World) (R : RwI w B v L) (hl : L.length ≤ 100000) : Calls Try.prog 34 #[v, .int .i64 f] w (RetL1 (f :: wol L f) w) := by
  have HR := Lib.hid (R.alloc (.cells #[.int .i64 f] 3))
  have hO : RwI (w.alloc (.cells #[.int .i64 f] 3)) w.heap.size (.slice (some ⟨w.heap.size, 0, none⟩) 1 1) [f] := RowE.lit (L := [f]) w #[.int .i64 f] (by simp [enc1]) (by simp) (by simp [maxLen]) (Nat.le_refl _)
  have HO := Lib.hid hO
  have k := (Grew.refl w).alloc (.cells #[.int .i64 f] 3)
  have hl2 := wol_len L f
  have HL2 := Lib.hid (show [f].length + (wol L f).length < 1000000 by simp; omega)
  have HK := Lib.hid k
  clear R k hO hl2
  go_enter Try.func34, Try.ntmps34
  go_wp2_with fail
  with_reducible refine (without_p _ _ _ HR.out hl).mono ?_
  rintro e' w1 ⟨v1, rfl, R1, G1⟩
  have HK1 := Lib.hid (HK.out.trans G1)
  have HO1 := Lib.hid (HO.out.grew G1)
  have hsz : w.heap.size ≤ w1.heap.size := HK1.out.size
  have HR1 := Lib.hid R1
  clear R1 G1
  go_wp2_with (at_builtin; go_loud (refine wpList_append_ints _ rfl (.tmp 6) (.tmp 9) 22 rfl w.heap.size info_I und_I (by decide) _ [f] rfl HO1.out _ (wol L f) rfl HR1.out HL2.out (by decide) hsz ?_; intro v3 w3 R3 G3 o3))
  go_ret
  exact ⟨_, rfl, R3, HK1.out.keptA G3 (fun x e => HO1.out.above x e) (Nat.le_refl _)⟩
theorem withRef_p {L : List Int} {B : Nat} (v : Value) (f : Int) (w : World) (R : RwI w B v L) (hl : L.length ≤ 100000) (hs : AscP L) (hn : ¬f ∈ L) : Calls Try.prog 41 #[v, .int .i64 f] w (RetL1 (inl L f) w) := by
  have HR := Lib.hid R
  have HI := Lib.hid (ins_asc hs hn)
  have hcl : L.countP (· < f) ≤ L.length := List.countP_le_length
  have HS := Lib.hid hs
  clear R hs hn
  go_enter Try.func41, Try.ntmps41
  go_wp2_with fail
  with_reducible refine (bin_i _ _ _ HR.out hl HS.out).mono ?_
  rintro e' w1 ⟨rfl, q, rfl⟩
  obtain ⟨i, hi⟩ : ∃ i, L.countP (· < f) = i := ⟨_, rfl⟩
  have HI2 : Hid (insAt L i f = inl L f) := Lib.hid (hi ▸ HI.out)
  rw [hi] at hcl ⊢
  clear hi HI
  have G0 := (Grew.refl w).drewN q
  have HR0 := Lib.hid (HR.out.drewN q)
  generalize w.drewN q = w1 at *
  go_wp2_with fail
  with_reducible refine (clone_i _ _ HR0.out hl).mono ?_
  rintro e' w2 ⟨v2, rfl, R2, G2⟩
  have HR2 := Lib.hid (R2.alloc (.cells #[.int .i64 f] 3))
  have hO := Own.new w2 3 #[.int .i64 f]
  have HG := Lib.hid ((G0.trans G2).alloc (.cells #[.int .i64 f] 3))
  have hz1 : w1.heap.size ≤ (w2.alloc (.cells #[.int .i64 f] 3)).heap.size := by have := G2.size; simp; omega
  have hzw : w.heap.size ≤ w1.heap.size := G0.size
  have hne : v2.ownBlock ≠ some w2.heap.size := fun h => by have := R2.lt _ h; omega
  have HN := Lib.hid hne
  have HO := Lib.hid hO
  clear R2 G2 hO hne
  go_wp2_with fail
  with_reducible refine (ins_i _ i f _ _ 1 HR2.out hl hcl HO.out HN.out hz1).mono ?_
  rintro e' w3 ⟨u, rfl, R3, G3⟩
  go_wp2
  go_ret
  exact ⟨_, rfl, by rw [← HI2.out]; exact R3.wider hzw, HG.out.keptA G3 (fun x e => HR2.out.above x e) hzw⟩
end Go.Proofs.Yteaofieijginhaa

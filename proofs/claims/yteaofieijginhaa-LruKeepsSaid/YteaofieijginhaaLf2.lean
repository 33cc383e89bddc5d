/- Lists of frames (layer 8): the reference's front, insert, has, SameInts, Same: contracts. -/
import Derived.Test.YteaofieijginhaaLf1
namespace Go.Proofs.Yteaofieijginhaa
open Go.RowKit Go.Mine

abbrev lruV (va vi vr : Value) : Value := .agg #[va, vi, vr]
/-- The three slices hold the lists of x. -/
structure LrR (w : World) (B : Nat) (va vi vr : Value) (x : Lr) : Prop where
  a : RwI w B va x.a
  i : RwI w B vi x.i
  r : RwI w B vr x.r
theorem LrR.grew {w w' : World} {B : Nat} {va vi vr : Value} {x : Lr} (h : LrR w B va vi vr x) (G : Grew w w') : LrR w' B va vi vr x := ⟨h.a.grew G, h.i.grew G, h.r.grew G⟩
theorem LrR.drew {w : World} {B : Nat} {va vi vr : Value} {x : Lr} (h : LrR w B va vi vr x) : LrR w.drew B va vi vr x := ⟨h.a.drew, h.i.drew, h.r.drew⟩
theorem LrR.wider {w : World} {B C : Nat} {va vi vr : Value} {x : Lr} (h : LrR w B va vi vr x) (hC : C ≤ B) : LrR w C va vi vr x := ⟨h.a.wider hC, h.i.wider hC, h.r.wider hC⟩
structure SmP (x : Lr) : Prop where
  a : x.a.length ≤ 1000
  i : x.i.length ≤ 1000
  r : x.r.length ≤ 1000
set_option maxHeartbeats 1000000 in
theorem front_any {L : List Int} {B : Nat} (v : Value) (n : Int) (w : World) (R : RwI w B v L) (hl : L.length ≤ 100000) : Calls Try.prog 36 #[v, .int .i64 n] w (RetL1 (n :: L) w) := by
  have k := (Grew.refl w).alloc (.cells #[.int .i64 n] 3)
  have HR := Lib.hid (R.grew k)
  have HO : Hid (RwI (w.alloc (.cells #[.int .i64 n] 3)) w.heap.size (.slice (some ⟨w.heap.size, 0, none⟩) 1 1) [n]) := Lib.hid (RowE.lit (L := [n]) w #[.int .i64 n] (by simp [enc1]) (by simp) (by simp [maxLen]) (Nat.le_refl _))
  have HL := Lib.hid (show [n].length + L.length < 1000000 by simp; omega)
  have HK := Lib.hid k
  clear R k
  go_enter Try.func36, Try.ntmps36
  go_wp2_with (at_builtin; go_loud (refine wpList_append_ints _ rfl (.tmp 6) (.tmp 7) 22 rfl w.heap.size info_I und_I (by decide) _ [n] rfl HO.out _ L rfl HR.out HL.out (by decide) (by simp) ?_; intro v3 w3 R3 G3 o3))
  go_ret
  exact ⟨_, rfl, R3, HK.out.keptA G3 (fun x e => HO.out.above x e) (Nat.le_refl _)⟩
theorem drop_at {L : List Int} {i : Nat} (h : i < L.length) : L.drop i = L.getD i 0 :: L.drop (i + 1) := by rw [List.drop_eq_getElem_cons h]; simp [List.getD, h]
theorem inl_len (L : List Int) (n : Int) : (inl L n).length = L.length + 1 := by
  induction L with
  | nil => rfl
  | cons x l ih => unfold inl; split <;> simp [ih]
def insR (L : List Int) (n : Int) (d : Bool) (i : Nat) : List Int := match d with
  | true => L.drop i
  | false => inl (L.drop i) n
theorem ins_t {L : List Int} {n : Int} {i : Nat} (h : i < L.length) : insR L n true i = L.getD i 0 :: insR L n true (i + 1) := drop_at h
theorem ins_f {L : List Int} {n : Int} {i : Nat} (h : i < L.length) : insR L n false i = if n < L.getD i 0 then n :: L.getD i 0 :: insR L n true (i + 1) else L.getD i 0 :: insR L n false (i + 1) := by
  unfold insR
  rw [drop_at h, inl]
set_option maxHeartbeats 2000000 in
theorem insert_any {L : List Int} {B : Nat} (v : Value) (n : Int) (w : World) (R : RwI w B v L) (hl : L.length ≤ 100000) : Calls Try.prog 43 #[v, .int .i64 n] w (RetL1 (inl L n) w) := by
  obtain ⟨a, c, rfl⟩ := R.len
  have HR := Lib.hid R
  clear R
  go_enter Try.func43, Try.ntmps43
  go_wp2_with fail
  go_loopw [5, 6, 7] (fun ov dv iv wr => ∃ (i : Nat) (r : Value) (d : Bool) (O : List Int), r = ov ∧ dv = .bool d ∧ iv = .int .i64 i ∧ i ≤ L.length ∧ RwI wr w.heap.size r O ∧ O ++ insR L n d i = inl L n ∧ O.length ≤ i + d.toNat ∧ Grew w wr) (fun _ _ iv _ => L.length - (intOf iv).toNat)
  case atStart => exact ⟨0, _, false, [], rfl, rfl, rfl, by omega, RowE.nil _ _, rfl, by simp, Grew.refl _⟩
  case round =>
    obtain ⟨i, r, d, O, rfl, rfl, rfl, hi, RO, hO, hOl, G⟩ := hrel
    obtain ⟨wo, rfl⟩ : ∃ wo : World, wo = wr := ⟨_, rfl⟩
    have hws : w.heap.size ≤ wo.heap.size := G.size
    have HA := Lib.hid (fun (k : Nat) (e : r.ownBlock = some k) => RO.above k e)
    have HG := Lib.hid G
    have hO1 : O.length ≤ i + 1 := by cases d <;> simp at hOl <;> omega
    by_cases hlt : i < L.length
    · obtain ⟨g, rfl, hg, x0⟩ := rowI_at HR.out hlt
      have x1 := (G.cells.1 g _ hg).trans x0
      have i0 : (0 : Int) ≤ (i : Int) := by omega
      have i1 : (i : Int) < (L.length : Int) := by omega
      have HOL := Lib.hid (show O.length < 1000000 by omega)
      have HO2 := Lib.hid hOl
      cases d
      · have ht := ins_f (n := n) hlt
        rw [ht] at hO
        generalize L.getD i 0 = y at *
        by_cases hn : n < y
        · rw [if_pos hn] at hO
          have HRO := Lib.hid RO
          have HO := Lib.hid hO
          clear hO RO G hOl ht
          have HOL2 := Lib.hid (show (O ++ [n]).length < 1000000 by rw [List.length_append]; simp; omega)
          have X0 := Lib.hid x0
          clear x0
          go_wp2_with (first
            | (at_builtin; (refine wpList_append_row _ rfl (.tmp 24) (.tmp 26) 22 rfl w.heap.size info_I und_I (by decide) (by decide) enc1_len r O rfl (HRO.out.alloc _) _ _ n rfl (Own.new _ _ _) enc1_one HOL.out (by decide) (by simp; omega) ?_; intro g3 cap w3 R3 G3 o3); have HG4 := Lib.hid ((HG.out.alloc (.cells #[.int .i64 n] 3)).keptA G3 (fun x e => HA.out x e) (Nat.le_refl _)); have x2 := (HG4.out.cells.1 g _ hg).trans X0.out; have HA3 := Lib.hid (fun (k : Nat) (e : (Value.slice (some ⟨g3, 0, none⟩) (O.length + 1) cap).ownBlock = some k) => R3.above k e); have HR3 := Lib.hid R3; have hB3 : w.heap.size ≤ w3.heap.size := HG4.out.size; clear x1 R3 G3 o3)
            | (at_builtin; (refine wpList_append_row _ rfl (.tmp 28) (.tmp 33) 22 rfl w.heap.size info_I und_I (by decide) (by decide) enc1_len (.slice (some ⟨g3, 0, none⟩) (O.length + 1) cap) (O ++ [n]) rfl (HR3.out.alloc _) _ _ y rfl (Own.new _ _ _) enc1_one HOL2.out (by decide) (by simp; omega) ?_; intro g5 cap5 w5 R5 G5 o5)))
          refine ⟨⟨i + 1, _, true, O ++ [n] ++ [y], rfl, rfl, by go_num, by omega, by simpa using R5, ?_, by have := HO2.out; simp at this ⊢; omega, (HG4.out.alloc _).keptA G5 (fun x e => HA3.out x e) (Nat.le_refl _)⟩, by simp [intOf]; omega⟩
          rw [← HO.out]; simp
        · rw [if_neg hn] at hO
          have HRO := Lib.hid RO
          have HO := Lib.hid hO
          clear hO RO G x0 hOl ht
          go_wp2_with (at_builtin; go_loud (refine wpList_append_row _ rfl (.tmp 28) (.tmp 33) 22 rfl w.heap.size info_I und_I (by decide) (by decide) enc1_len r O rfl (HRO.out.alloc _) _ _ y rfl (Own.new _ _ _) enc1_one HOL.out (by decide) (by simp; omega) ?_; intro g5 cap5 w5 R5 G5 o5))
          refine ⟨⟨i + 1, _, false, O ++ [y], rfl, rfl, by go_num, by omega, R5, ?_, by have := HO2.out; simp at this ⊢; omega, (HG.out.alloc _).keptA G5 (fun x e => HA.out x e) (Nat.le_refl _)⟩, by simp [intOf]; omega⟩
          rw [← HO.out]; simp
      · have ht := ins_t (n := n) hlt
        rw [ht] at hO
        generalize L.getD i 0 = y at *
        have HRO := Lib.hid RO
        have HO := Lib.hid hO
        clear hO RO G x0 hOl ht
        go_wp2_with (at_builtin; go_loud (refine wpList_append_row _ rfl (.tmp 28) (.tmp 33) 22 rfl w.heap.size info_I und_I (by decide) (by decide) enc1_len r O rfl (HRO.out.alloc _) _ _ y rfl (Own.new _ _ _) enc1_one HOL.out (by decide) (by simp; omega) ?_; intro g5 cap5 w5 R5 G5 o5))
        refine ⟨⟨i + 1, _, true, O ++ [y], rfl, rfl, by go_num, by omega, R5, ?_, by have := HO2.out; simp at this ⊢; omega, (HG.out.alloc _).keptA G5 (fun x e => HA.out x e) (Nat.le_refl _)⟩, by simp [intOf]; omega⟩
        rw [← HO.out]; simp
    · have hin : i = L.length := by omega
      subst hin
      cases d
      · have hO2 : O ++ [n] = inl L n := by rw [← hO]; unfold insR; rw [List.drop_length]; rfl
        have HO := Lib.hid hO2
        have HRO := Lib.hid RO
        have HOL := Lib.hid (show O.length < 1000000 by omega)
        clear RO G hO hO2 hOl
        go_wp2_with (at_builtin; go_loud (refine wpList_append_row _ rfl (.tmp 37) (.tmp 39) 22 rfl w.heap.size info_I und_I (by decide) (by decide) enc1_len r O rfl (HRO.out.alloc _) _ _ n rfl (Own.new _ _ _) enc1_one HOL.out (by decide) (by simp; omega) ?_; intro g5 cap5 w5 R5 G5 o5))
        go_ret
        exact ⟨_, rfl, by rw [← HO.out]; exact R5, (HG.out.alloc _).keptA G5 (fun x e => HA.out x e) (Nat.le_refl _)⟩
      · have hO2 : O = inl L n := by rw [← hO]; unfold insR; rw [List.drop_length]; simp
        subst hO2
        have HRO := Lib.hid RO
        clear RO G hO hOl
        go_wp2
        go_ret
        exact ⟨_, rfl, HRO.out, HG.out⟩
set_option maxHeartbeats 1000000 in
theorem same_ints {L : List Int} {B C : Nat} (v u : Value) (w : World) (R : RwI w B v L) (S : RwI w C u L) (hl : L.length ≤ 100000) :
    Calls Try.prog 28 #[v, u] w (RetG (.bool true) w) := by
  obtain ⟨a, n, c, rfl, hn, hv⟩ := R.ints
  obtain ⟨a', n', c', rfl, hn', hu⟩ := S.ints
  obtain rfl : n = n' := by omega
  have HV := Lib.hid hv
  have HU := Lib.hid hu
  clear R S hv hu hn'
  go_enter Try.func28, Try.ntmps28
  go_wp2_with fail
  go_loopw [5] (fun iv wr => ∃ i : Nat, iv = .int .i64 i ∧ i ≤ n ∧ Grew w wr) (fun iv _ => n - (intOf iv).toNat)
  case atStart => exact ⟨0, rfl, by omega, Grew.refl _⟩
  case round =>
    obtain ⟨i, rfl, hi, G⟩ := hrel
    obtain ⟨wo, rfl⟩ : ∃ wo : World, wo = wr := ⟨_, rfl⟩
    by_cases hlt : i < n
    · obtain ⟨g, rfl, hg, -, x0⟩ := HV.out i hlt
      obtain ⟨h, rfl, hh, -, y0⟩ := HU.out i hlt
      have x1 := (G.cells.1 g _ hg).trans x0
      have y1 := (G.cells.1 h _ hh).trans y0
      have i0 : (0 : Int) ≤ (i : Int) := by omega
      have i1 : (i : Int) < (n : Int) := by omega
      clear x0 y0
      generalize L.getD i 0 = z at *
      go_upto_region 6 with fail
      go_quiet (fail)
      revert nq; intro nq1
      have G2 := G.drewN nq1
      generalize World.drewN wo nq1 = w2 at *
      go_wp2
      exact ⟨⟨i + 1, by go_num, by omega, G2⟩, by simp [intOf]; omega⟩
    · have hin : i = n := by omega
      subst hin
      go_wp2
      go_ret
      exact ⟨rfl, G⟩
theorem has_any {B : Nat} (va vi vr : Value) (x : Lr) (f : Int) (w : World) (R : LrR w B va vi vr x) (hs : SmP x) : Calls Try.prog 35 #[lruV va vi vr, .int .i64 f] w (RetG (.bool (inB x f)) w) := by
  have O := Own.new w 27 #[va, vi, vr]
  have k := (Grew.refl w).alloc (.cells #[va, vi, vr] 27)
  have HR := Lib.hid (R.grew k)
  have HS := Lib.hid hs
  have HI := Lib.hid (show inB x f = (decide (f ∈ x.a) || decide (f ∈ x.i)) from rfl)
  obtain ⟨o0, o1, o2, o3, o4, o5⟩ := O.three
  clear R hs
  cases ha : decide (f ∈ x.a)
  · go_enter Try.func35, Try.ntmps35
    go_wp2_with fail
    with_reducible refine (at_v _ _ _ HR.out.a (by have := HS.out.a; omega) ha).mono ?_
    rintro e w1 ⟨z, rfl, z0, z1, rfl⟩
    have hz : z < 0 := by have : ¬0 ≤ z := fun h => by have := z1.1 h; simp at this
                          omega
    clear z1
    cases hi : decide (f ∈ x.i)
    · go_wp2_with fail
      with_reducible refine (at_v _ _ _ HR.out.i (by have := HS.out.i; omega) hi).mono ?_
      rintro e w2 ⟨y, rfl, y0, y1, rfl⟩
      have hy : y < 0 := by have : ¬0 ≤ y := fun h => by have := y1.1 h; simp at this
                            omega
      clear y1
      go_wp2
      go_ret
      exact ⟨ret_bool (by rw [HI.out, ha, hi]; simp <;> omega), k⟩
    · go_wp2_with fail
      with_reducible refine (at_v _ _ _ HR.out.i (by have := HS.out.i; omega) hi).mono ?_
      rintro e w2 ⟨y, rfl, y0, y1, rfl⟩
      have hy : 0 ≤ y := y1.2 rfl
      clear y1
      go_wp2
      go_ret
      exact ⟨ret_bool (by rw [HI.out, ha, hi]; simp <;> omega), k⟩
  · go_enter Try.func35, Try.ntmps35
    go_wp2_with fail
    with_reducible refine (at_v _ _ _ HR.out.a (by have := HS.out.a; omega) ha).mono ?_
    rintro e w1 ⟨z, rfl, z0, z1, rfl⟩
    have hz : 0 ≤ z := z1.2 rfl
    clear z1
    go_wp2
    go_ret
    exact ⟨ret_bool (by rw [HI.out, ha]; simp <;> omega), k⟩
theorem has_v {b : Bool} {B : Nat} (va vi vr : Value) (x : Lr) (f : Int) (w : World) (R : LrR w B va vi vr x) (hs : SmP x) (h : inB x f = b) : Calls Try.prog 35 #[lruV va vi vr, .int .i64 f] w (RetG (.bool b) w) := h ▸ has_any va vi vr x f w R hs
end Go.Proofs.Yteaofieijginhaa

/- The program's Scan (layer 8): contract. -/
import Derived.Test.YteaofieijginhaaLp9
import Derived.Test.YteaofieijginhaaRoundReg
import Derived.Maps.OwnIn
namespace Go.Proofs.Yteaofieijginhaa
open Go.RowKit Go.Mine Go.Shelf
attribute [local go_sem] Oper.semAt_some

theorem copied_w {B s : Nat} (va vi vr : Value) (x : Lr) (w : World) (R : LrR w B va vi vr x) (hs : SmP x) (hz : w.heap.size = s) : Calls Try.prog 31 #[lruV va vi vr] w (RetLr x s w) := hz ▸ copied_any va vi vr x w R hs
theorem row_put {w : World} {B D : Nat} {v : Value} {L : List Int} {o : Obj} (h : RwI w B v L) (hD : w.heap[D]? = some o) (o' : Obj) (hc : o.isCells = false) : RwI (w.putObj D o') B v L :=
  RowE.keptG h (grownBy_putObj' w D o') (fun k e ho => by
    injection e with e
    subst e
    obtain ⟨cs, hO⟩ := row_block h ho
    rw [own_cellsOnly hO o hD] at hc
    cases hc)
theorem own_put {w : World} {g D : Nat} {t : TypeId} {cs : Array Value} {o : Obj} (h : Mine.Own w g t cs) (hD : w.heap[D]? = some o) (o' : Obj) (hc : o.isCells = false) : Mine.Own (w.putObj D o') g t cs :=
  h.keptN (grownBy_putObj' w D o') (fun e => by
    injection e with e
    subst e
    rw [own_cellsOnly h o hD] at hc
    cases hc)
theorem grew_put {a w : World} {D : Nat} (h : Grew a w) (o' : Obj) (hD : a.heap.size ≤ D) : Grew a (w.putObj D o') :=
  h.keptA (grownBy_putObj' w D o') (B := D) (fun x e => by injection e with e <;> omega) hD
theorem wpListIn_row {F : Fence} {nF : Nat} {P : Program} (w : World) {ops : Array Oper} {rest : List Oper} {o : Oper} {a : Act} {Q : Exit → Act → World → Prop} (hgd : o.guard = none) (s x : Operand) (t : TypeId)
    (ho : o.op = .call { callee := .builtin .append, args := #[s, x], argTypes := #[t, t] }) (B : Nat) {T : TypeId} {z : Value} {bytes : Nat}
    (hinfo : (P.info? T).map (fun i => (i.zero, i.size, i.bytes)) = some (some z, 1, bytes)) (ht : P.underlying t = some (.slice T)) (hzs : z.cells.size = 1)
    (v : Value) (L : List Int) (hs : a.eval s = v) (hown : RowE T 1 enc1 w B v L) (G c : Nat) (y : Int) (hx : a.eval x = .slice (some ⟨G, 0, none⟩) 1 c) (hnew : Mine.Own w G T #[.int .i64 y])
    (hlen : L.length < 1000000) (hby : bytes ≤ 1000) (hB : B ≤ w.heap.size)
    (h : ∀ g cap w', RowE T 1 enc1 w' B (.slice (some ⟨g, 0, none⟩) (L.length + 1) cap) (L ++ [y]) → w.grownBy w' v.ownBlock → (v.ownBlock = some g ∨ w.heap.size ≤ g) → wpListIn F nF P ops Q rest (a.put o.dst (.slice (some ⟨g, 0, none⟩) (L.length + 1) cap)) w') :
    wpListIn F nF P ops Q (o :: rest) a w := by
  obtain ⟨i0, hi, hz0, hz1, hz2⟩ := info_parts hinfo
  refine wpListIn_append_own_at w hgd s x t ho B T i0 z 1 bytes ht hi hz0 hz1 hz2 hzs (by omega) v L.length _ hs hown ⟨G, 0, none⟩ 1 c (enc1 y) hx rfl (own_news hnew) enc1_one (by unfold maxLen; omega)
    (Nat.le_trans (Nat.mul_le_mul (show L.length + 1 ≤ 1000000 by omega) hby) (by decide)) hB ?_
  intro v' w' r1 r2 _ r4
  have R := RowE.snoc r1
  rcases R.shape enc1_len with ⟨-, e⟩ | ⟨g, cap, rfl, -⟩
  · simp at e
  · rw [List.length_append, List.length_singleton] at R ⊢
    exact h g cap w' R r2 (r4.elim (fun e => .inl e.symm) (fun e => .inr (Nat.le_of_eq (Option.some.inj e).symm)))
/-- What holds between two rounds; what holds where a round has ended the loop. -/
def ScI (w : World) (sx gn vb hb mb bs e0 : Nat) (n : Int) (H : List Int) (A : Array Value) (vi : Value) (x : Lr) (pre : List (Fin x.i.length)) (W : World) : Prop :=
  (∃ ua ui ur vv, ScM w sx gn vb hb mb bs H.length e0 n H A vi (stP H x pre).1 (stP H x pre).2 ua ui ur vv W) ∧ ((stP H x pre).2.length : Int) < n
def ScX (w : World) (sx gn vb hb mb bs e0 : Nat) (n : Int) (H : List Int) (A : Array Value) (vi : Value) (x : Lr) (c : Code) (pre : List (Fin x.i.length)) (W : World) : Prop :=
  c = .exit 0 ∧ (∃ ini j, pre = ini ++ [j] ∧ ((stP H x ini).2.length : Int) < n) ∧ ¬((stP H x pre).2.length : Int) < n ∧ ∃ ua ui ur vv, ScM w sx gn vb hb mb bs H.length e0 n H A vi (stP H x pre).1 (stP H x pre).2 ua ui ur vv W
theorem scI_own {w : World} {sx gn vb hb mb bs e0 B : Nat} {n : Int} {H : List Int} {A : Array Value} {vi : Value} {x : Lr} (hB : e0 ≤ B) (hm : mb < e0) (he : w.heap.size ≤ e0) : OwnFrom B (ScI w sx gn vb hb mb bs e0 n H A vi x) := by
  rintro pre W W' r ⟨⟨ua, ui, ur, vv, h⟩, h2⟩ g hr
  exact ⟨⟨ua, ui, ur, vv, h.by_ g (fun k e => ⟨Nat.le_trans hB (hr k e).1, (hr k e).2⟩) hm he⟩, h2⟩
theorem scX_own {w : World} {sx gn vb hb mb bs e0 B : Nat} {n : Int} {H : List Int} {A : Array Value} {vi : Value} {x : Lr} {c : Code} (hB : e0 ≤ B) (hm : mb < e0) (he : w.heap.size ≤ e0) : OwnFrom B (ScX w sx gn vb hb mb bs e0 n H A vi x c) := by
  rintro pre W W' r ⟨h0, h1, h2, ua, ui, ur, vv, h⟩ g hr
  exact ⟨h0, h1, h2, ua, ui, ur, vv, h.by_ g (fun k e => ⟨Nat.le_trans hB (hr k e).1, (hr k e).2⟩) hm he⟩
set_option maxRecDepth 100000 in
set_option maxHeartbeats 8000000 in
theorem scanp_any {B C : Nat} {H : List Int} (va vi vr vh : Value) (x : Lr) (n : Int) (w : World) (R : LrR w B va vi vr x) (Q : RwI w C vh H) (hs1 : x.a.length ≤ 1000) (hs2 : x.i.length ≤ 400) (hs3 : x.r.length ≤ 1000) (hH : H.length ≤ 1000) (hwf : WfR x) (hHw : ∀ y ∈ H, (Lit.int .i64 y).wf = true) :
    Calls Try.prog 26 #[lruV va vi vr, .int .i64 n, vh] w (RetSc (scnF x n (hlB H)).1 (scnF x n (hlB H)).2 w.heap.size w) := by
  have hs : SmP x := ⟨hs1, by omega, hs3⟩
  obtain ⟨aa, ca, rfl⟩ := R.a.len
  obtain ⟨ai, ci, rfl⟩ := R.i.len
  obtain ⟨ar, cr, rfl⟩ := R.r.len
  obtain ⟨na, hna⟩ : ∃ na, x.a.length = na := ⟨_, rfl⟩
  obtain ⟨ni, hni⟩ : ∃ ni, x.i.length = ni := ⟨_, rfl⟩
  obtain ⟨nr, hnr⟩ : ∃ nr, x.r.length = nr := ⟨_, rfl⟩
  rw [hna, hni, hnr] at R ⊢
  have HNI := Lib.hid hni
  clear hna hni hnr
  have W0 : Grew w (((w.alloc (.cells #[(.slice aa na ca), (.slice ai ni ci), (.slice ar nr cr)] 27)).alloc (.cells #[.int .i64 n] 3)).alloc (.cells n3 27)) := (((Grew.refl w).alloc _).alloc _).alloc _
  obtain ⟨sx, hsx⟩ : ∃ sx, w.heap.size = sx := ⟨_, rfl⟩
  have X : Mine.Own (((w.alloc (.cells #[(.slice aa na ca), (.slice ai ni ci), (.slice ar nr cr)] 27)).alloc (.cells #[.int .i64 n] 3)).alloc (.cells n3 27)) sx 27 #[(.slice aa na ca), (.slice ai ni ci), (.slice ar nr cr)] := ((hsx ▸ Mine.Own.new w 27 #[(.slice aa na ca), (.slice ai ni ci), (.slice ar nr cr)]).alloc _).alloc _
  have K : Mine.Own (((w.alloc (.cells #[(.slice aa na ca), (.slice ai ni ci), (.slice ar nr cr)] 27)).alloc (.cells #[.int .i64 n] 3)).alloc (.cells n3 27)) (sx + 1) 3 #[.int .i64 n] := (hsx ▸ Mine.Own.new2 w (.cells #[(.slice aa na ca), (.slice ai ni ci), (.slice ar nr cr)] 27) 3 #[.int .i64 n]).alloc _
  have S : Mine.Own (((w.alloc (.cells #[(.slice aa na ca), (.slice ai ni ci), (.slice ar nr cr)] 27)).alloc (.cells #[.int .i64 n] 3)).alloc (.cells n3 27)) (sx + 2) 27 n3 := by
    have := Mine.Own.new2 (w.alloc (.cells #[(.slice aa na ca), (.slice ai ni ci), (.slice ar nr cr)] 27)) (.cells #[.int .i64 n] 3) 27 n3
    rw [World.size_alloc, hsx] at this
    exact this
  have hz0 : (((w.alloc (.cells #[(.slice aa na ca), (.slice ai ni ci), (.slice ar nr cr)] 27)).alloc (.cells #[.int .i64 n] 3)).alloc (.cells n3 27)).heap.size = sx + 3 := by simp; omega
  have HR := Lib.hid R
  have HQ := Lib.hid Q
  have HS := Lib.hid hs
  have HW := Lib.hid hwf
  have HHW := Lib.hid hHw
  have HSX := Lib.hid hsx
  have hsw : w.heap.size ≤ sx := by omega
  have HVL := Lib.hid R.i.lt
  clear R Q hs hwf hHw
  obtain ⟨x0, x1, x2, x3, x4, x5⟩ := X.three
  obtain ⟨k0, k1⟩ := K.one
  cases h0 : okB x
  · have HX := Lib.hid (show scnF x n (hlB H) = (x, []) from by unfold scnF; rw [h0]; rfl)
    have H0 := Lib.hid h0
    clear h0
    refine (callsIn_wide (n := 6)).1 ?_
    refine callsIn_of_wp_marks Try.func26 rfl trivial ?_ rfl
    simp only [Try.ntmps26, List.size_toArray, List.length_cons, List.length_nil, Nat.reduceAdd, Nat.reduceSub, Array.replicate_succ, Array.replicate_zero, List.push_toArray, List.append_toArray, List.nil_append, List.cons_append]
    refine wpIn_wide.2 ?_
    go_upto_region 1 with fail
    try rw [hsx]
    try rw [show sx + 1 + 1 = sx + 2 from rfl]
    generalize World.alloc (World.alloc (World.alloc w _) _) _ = wb at *
    clear hsx
    go_wp2_with fail
    with_reducible refine (copied_w _ _ _ _ _ (HR.out.grew W0) HS.out hz0).mono ?_
    rintro e_w1 w1 ⟨v1, v2, v3, rfl, RN, g1⟩
    obtain ⟨a1, c1, rfl⟩ := RN.a.len
    obtain ⟨a2, c2, rfl⟩ := RN.i.len
    obtain ⟨a3, c3, rfl⟩ := RN.r.len
    obtain ⟨l1, hl1⟩ : ∃ n, x.a.length = n := ⟨_, rfl⟩
    obtain ⟨l2, hl2⟩ : ∃ n, x.i.length = n := ⟨_, rfl⟩
    obtain ⟨l3, hl3⟩ : ∃ n, x.r.length = n := ⟨_, rfl⟩
    rw [hl1, hl2, hl3] at RN ⊢
    clear hl1 hl2 hl3 hz0
    replace X := X.grew g1
    replace K := K.grew g1
    replace S := S.grew g1
    replace W0 := W0.trans g1
    clear g1 x0 x1 x2 x3 x4 x5 k0 k1
    obtain ⟨x0, x1, x2, x3, x4, x5⟩ := X.three
    obtain ⟨k0, k1⟩ := K.one
    have hgn : sx + 2 < w1.heap.size := S.lt
    have N := Mine.Own.new w1 27 #[.slice a1 l1 c1, .slice a2 l2 c2, .slice a3 l3 c3]
    have FN0 := RN.farN
    have hfl := RN.lt
    obtain ⟨gn, hgn2⟩ : ∃ gn, w1.heap.size = gn := ⟨_, rfl⟩
    go_upto_region 2 with fail
    have hz2 : (w1.alloc (.cells #[.slice a1 l1 c1, .slice a2 l2 c2, .slice a3 l3 c3] 27)).heap.size = gn + 1 := by simp; omega
    have G2 := (Grew.refl w1).alloc (.cells #[.slice a1 l1 c1, .slice a2 l2 c2, .slice a3 l3 c3] 27)
    replace X := X.grew G2
    replace K := K.grew G2
    replace S := S.grew G2
    replace W0 := W0.trans G2
    have HN := Lib.hid (RN.grew G2)
    have HFN := Lib.hid FN0
    have HFL := Lib.hid hfl
    clear G2 RN FN0 hfl x0 x1 x2 x3 x4 x5 k0 k1
    rw [hgn2] at N HFN HFL hgn
    generalize World.alloc w1 _ = w2 at *
    clear hgn2
    obtain ⟨x0, x1, x2, x3, x4, x5⟩ := X.three
    obtain ⟨k0, k1⟩ := K.one
    obtain ⟨n0, n1, n2, n3a, n4, n5⟩ := N.three
    go_wp2_with fail
    with_reducible refine (pchk_v _ _ _ _ _ (HR.out.grew W0) HS.out HW.out H0.out).mono ?_
    rintro e_w3 w3 ⟨rfl, g1⟩
    have hz3 : gn + 1 ≤ w3.heap.size := by have := g1.size; omega
    replace X := X.grew g1
    replace K := K.grew g1
    replace S := S.grew g1
    replace W0 := W0.trans g1
    replace N := N.grew g1
    replace HN := Lib.hid (HN.out.grew g1)
    clear g1 hz2 x0 x1 x2 x3 x4 x5 k0 k1 n0 n1 n2 n3a n4 n5
    obtain ⟨x0, x1, x2, x3, x4, x5⟩ := X.three
    obtain ⟨k0, k1⟩ := K.one
    obtain ⟨n0, n1, n2, n3a, n4, n5⟩ := N.three
    obtain ⟨s0, s1, s2, s3, s4, s5⟩ := S.three
    go_wp2
    generalize hw : World.setCell _ _ _ = wz
    have RR := S.store3 hw
    have gB := W0.far3 hw (show w.heap.size ≤ sx + 2 by omega)
    obtain ⟨u0, u1, u2, u3, u4, u5⟩ := RR.three
    exact ⟨.tuple #[lruV (.slice a1 l1 c1) (.slice a2 l2 c2) (.slice a3 l3 c3), .slice none 0 0], by simp [results, Try.results26, go_sem, u0, u1, u2], _, _, _, _, rfl, by rw [HX.out]; exact (HN.out.far3N hw (by omega)).wider (by omega), by rw [HX.out]; exact RowE.nil _ _, gB⟩
  · have H0 := Lib.hid h0
    have HOK := Lib.hid (of_decide_eq_true h0)
    by_cases hn : n < 1
    · have HX := Lib.hid (show scnF x n (hlB H) = (x, []) from by unfold scnF; rw [h0, decide_eq_false (by omega : ¬1 ≤ n)]; rfl)
      clear h0
      refine (callsIn_wide (n := 6)).1 ?_
      refine callsIn_of_wp_marks Try.func26 rfl trivial ?_ rfl
      simp only [Try.ntmps26, List.size_toArray, List.length_cons, List.length_nil, Nat.reduceAdd, Nat.reduceSub, Array.replicate_succ, Array.replicate_zero, List.push_toArray, List.append_toArray, List.nil_append, List.cons_append]
      refine wpIn_wide.2 ?_
      go_upto_region 1 with fail
      try rw [hsx]
      try rw [show sx + 1 + 1 = sx + 2 from rfl]
      generalize World.alloc (World.alloc (World.alloc w _) _) _ = wb at *
      clear hsx
      go_wp2_with fail
      with_reducible refine (copied_w _ _ _ _ _ (HR.out.grew W0) HS.out hz0).mono ?_
      rintro e_w1 w1 ⟨v1, v2, v3, rfl, RN, g1⟩
      obtain ⟨a1, c1, rfl⟩ := RN.a.len
      obtain ⟨a2, c2, rfl⟩ := RN.i.len
      obtain ⟨a3, c3, rfl⟩ := RN.r.len
      obtain ⟨l1, hl1⟩ : ∃ n, x.a.length = n := ⟨_, rfl⟩
      obtain ⟨l2, hl2⟩ : ∃ n, x.i.length = n := ⟨_, rfl⟩
      obtain ⟨l3, hl3⟩ : ∃ n, x.r.length = n := ⟨_, rfl⟩
      rw [hl1, hl2, hl3] at RN ⊢
      clear hl1 hl2 hl3 hz0
      replace X := X.grew g1
      replace K := K.grew g1
      replace S := S.grew g1
      replace W0 := W0.trans g1
      clear g1 x0 x1 x2 x3 x4 x5 k0 k1
      obtain ⟨x0, x1, x2, x3, x4, x5⟩ := X.three
      obtain ⟨k0, k1⟩ := K.one
      have hgn : sx + 2 < w1.heap.size := S.lt
      have N := Mine.Own.new w1 27 #[.slice a1 l1 c1, .slice a2 l2 c2, .slice a3 l3 c3]
      have FN0 := RN.farN
      have hfl := RN.lt
      obtain ⟨gn, hgn2⟩ : ∃ gn, w1.heap.size = gn := ⟨_, rfl⟩
      go_upto_region 2 with fail
      have hz2 : (w1.alloc (.cells #[.slice a1 l1 c1, .slice a2 l2 c2, .slice a3 l3 c3] 27)).heap.size = gn + 1 := by simp; omega
      have G2 := (Grew.refl w1).alloc (.cells #[.slice a1 l1 c1, .slice a2 l2 c2, .slice a3 l3 c3] 27)
      replace X := X.grew G2
      replace K := K.grew G2
      replace S := S.grew G2
      replace W0 := W0.trans G2
      have HN := Lib.hid (RN.grew G2)
      have HFN := Lib.hid FN0
      have HFL := Lib.hid hfl
      clear G2 RN FN0 hfl x0 x1 x2 x3 x4 x5 k0 k1
      rw [hgn2] at N HFN HFL hgn
      generalize World.alloc w1 _ = w2 at *
      clear hgn2
      obtain ⟨x0, x1, x2, x3, x4, x5⟩ := X.three
      obtain ⟨k0, k1⟩ := K.one
      obtain ⟨n0, n1, n2, n3a, n4, n5⟩ := N.three
      go_wp2_with fail
      with_reducible refine (pchk_v _ _ _ _ _ (HR.out.grew W0) HS.out HW.out H0.out).mono ?_
      rintro e_w3 w3 ⟨rfl, g1⟩
      have hz3 : gn + 1 ≤ w3.heap.size := by have := g1.size; omega
      replace X := X.grew g1
      replace K := K.grew g1
      replace S := S.grew g1
      replace W0 := W0.trans g1
      replace N := N.grew g1
      replace HN := Lib.hid (HN.out.grew g1)
      clear g1 hz2 x0 x1 x2 x3 x4 x5 k0 k1 n0 n1 n2 n3a n4 n5
      obtain ⟨x0, x1, x2, x3, x4, x5⟩ := X.three
      obtain ⟨k0, k1⟩ := K.one
      obtain ⟨n0, n1, n2, n3a, n4, n5⟩ := N.three
      obtain ⟨s0, s1, s2, s3, s4, s5⟩ := S.three
      go_wp2
      generalize hw : World.setCell _ _ _ = wz
      have RR := S.store3 hw
      have gB := W0.far3 hw (show w.heap.size ≤ sx + 2 by omega)
      obtain ⟨u0, u1, u2, u3, u4, u5⟩ := RR.three
      exact ⟨.tuple #[lruV (.slice a1 l1 c1) (.slice a2 l2 c2) (.slice a3 l3 c3), .slice none 0 0], by simp [results, Try.results26, go_sem, u0, u1, u2], _, _, _, _, rfl, by rw [HX.out]; exact (HN.out.far3N hw (by omega)).wider (by omega), by rw [HX.out]; exact RowE.nil _ _, gB⟩
    · have hn2 : 1 ≤ n := by omega
      have hn1 : ¬n < 1 := hn
      have hn3 : decide (n < 1) = false := decide_eq_false hn
      have HN1 := Lib.hid (show 1 ≤ n by omega)
      clear h0 hn
      refine (callsIn_wide (n := 6)).1 ?_
      refine callsIn_of_wp_marks Try.func26 rfl trivial ?_ rfl
      simp only [Try.ntmps26, List.size_toArray, List.length_cons, List.length_nil, Nat.reduceAdd, Nat.reduceSub, Array.replicate_succ, Array.replicate_zero, List.push_toArray, List.append_toArray, List.nil_append, List.cons_append]
      refine wpIn_wide.2 ?_
      go_upto_region 1 with fail
      try rw [hsx]
      try rw [show sx + 1 + 1 = sx + 2 from rfl]
      generalize World.alloc (World.alloc (World.alloc w _) _) _ = wb at *
      clear hsx
      go_wp2_with fail
      with_reducible refine (copied_w _ _ _ _ _ (HR.out.grew W0) HS.out hz0).mono ?_
      rintro e_w1 w1 ⟨v1, v2, v3, rfl, RN, g1⟩
      obtain ⟨a1, c1, rfl⟩ := RN.a.len
      obtain ⟨a2, c2, rfl⟩ := RN.i.len
      obtain ⟨a3, c3, rfl⟩ := RN.r.len
      obtain ⟨l1, hl1⟩ : ∃ n, x.a.length = n := ⟨_, rfl⟩
      obtain ⟨l2, hl2⟩ : ∃ n, x.i.length = n := ⟨_, rfl⟩
      obtain ⟨l3, hl3⟩ : ∃ n, x.r.length = n := ⟨_, rfl⟩
      rw [hl1, hl2, hl3] at RN ⊢
      clear hl1 hl2 hl3 hz0
      replace X := X.grew g1
      replace K := K.grew g1
      replace S := S.grew g1
      replace W0 := W0.trans g1
      clear g1 x0 x1 x2 x3 x4 x5 k0 k1
      obtain ⟨x0, x1, x2, x3, x4, x5⟩ := X.three
      obtain ⟨k0, k1⟩ := K.one
      have hgn : sx + 2 < w1.heap.size := S.lt
      have N := Mine.Own.new w1 27 #[.slice a1 l1 c1, .slice a2 l2 c2, .slice a3 l3 c3]
      have FN0 := RN.farN
      have hfl := RN.lt
      obtain ⟨gn, hgn2⟩ : ∃ gn, w1.heap.size = gn := ⟨_, rfl⟩
      go_upto_region 2 with fail
      have hz2 : (w1.alloc (.cells #[.slice a1 l1 c1, .slice a2 l2 c2, .slice a3 l3 c3] 27)).heap.size = gn + 1 := by simp; omega
      have G2 := (Grew.refl w1).alloc (.cells #[.slice a1 l1 c1, .slice a2 l2 c2, .slice a3 l3 c3] 27)
      replace X := X.grew G2
      replace K := K.grew G2
      replace S := S.grew G2
      replace W0 := W0.trans G2
      have HN := Lib.hid (RN.grew G2)
      have HFN := Lib.hid FN0
      have HFL := Lib.hid hfl
      clear G2 RN FN0 hfl x0 x1 x2 x3 x4 x5 k0 k1
      rw [hgn2] at N HFN HFL hgn
      generalize World.alloc w1 _ = w2 at *
      clear hgn2
      obtain ⟨x0, x1, x2, x3, x4, x5⟩ := X.three
      obtain ⟨k0, k1⟩ := K.one
      obtain ⟨n0, n1, n2, n3a, n4, n5⟩ := N.three
      go_wp2_with fail
      with_reducible refine (pchk_v _ _ _ _ _ (HR.out.grew W0) HS.out HW.out H0.out).mono ?_
      rintro e_w3 w3 ⟨rfl, g1⟩
      have hz3 : gn + 1 ≤ w3.heap.size := by have := g1.size; omega
      replace X := X.grew g1
      replace K := K.grew g1
      replace S := S.grew g1
      replace W0 := W0.trans g1
      replace N := N.grew g1
      replace HN := Lib.hid (HN.out.grew g1)
      clear g1 hz2 x0 x1 x2 x3 x4 x5 k0 k1 n0 n1 n2 n3a n4 n5
      obtain ⟨x0, x1, x2, x3, x4, x5⟩ := X.three
      obtain ⟨k0, k1⟩ := K.one
      obtain ⟨n0, n1, n2, n3a, n4, n5⟩ := N.three
      go_wp2_with fail
      have Vb := Mine.Own.new w3 22 #[.slice none 0 0]
      have G4 := (Grew.refl w3).alloc (.cells #[.slice none 0 0] 22)
      have hz4 : (w3.alloc (.cells #[.slice none 0 0] 22)).heap.size = w3.heap.size + 1 := by simp
      replace HN := Lib.hid (HN.out.grew G4)
      replace W0 := W0.trans G4
      replace X := X.grew G4
      replace K := K.grew G4
      replace N := N.grew G4
      replace S := S.grew G4
      clear x0 x1 x2 x3 x4 x5 k0 k1 n0 n1 n2 n3a n4 n5
      obtain ⟨vb, hvb⟩ : ∃ vb, w3.heap.size = vb := ⟨_, rfl⟩
      rw [hvb] at Vb hz3 hz4
      try rw [hvb]
      generalize World.alloc w3 _ = w4 at *
      clear hvb G4
      obtain ⟨x0, x1, x2, x3, x4, x5⟩ := X.three
      obtain ⟨k0, k1⟩ := K.one
      obtain ⟨n0, n1, n2, n3a, n4, n5⟩ := N.three
      obtain ⟨v0, v1x⟩ := Vb.one
      with_reducible refine (setOf_any _ _ (HQ.out.grew W0) (by omega) HHW.out).mono ?_
      rintro e_w5 w5 ⟨mb, rfl, M, g1, hmb⟩
      rw [hz4] at hmb
      have hz5 : mb < w5.heap.size := M.lt
      replace HN := Lib.hid (HN.out.grew g1)
      replace W0 := W0.trans g1
      replace X := X.grew g1
      replace K := K.grew g1
      replace N := N.grew g1
      replace Vb := Vb.grew g1
      replace S := S.grew g1
      clear x0 x1 x2 x3 x4 x5 k0 k1 n0 n1 n2 n3a n4 n5 v0 v1x
      obtain ⟨x0, x1, x2, x3, x4, x5⟩ := X.three
      obtain ⟨k0, k1⟩ := K.one
      obtain ⟨n0, n1, n2, n3a, n4, n5⟩ := N.three
      obtain ⟨v0, v1x⟩ := Vb.one
      go_upto_region 6 with fail
      have Hb := Mine.Own.new w5 52 #[.map (some mb)]
      have G6 := (Grew.refl w5).alloc (.cells #[.map (some mb)] 52)
      have hz6 : (w5.alloc (.cells #[.map (some mb)] 52)).heap.size = w5.heap.size + 1 := by simp
      replace M := M.grew G6
      replace HN := Lib.hid (HN.out.grew G6)
      replace W0 := W0.trans G6
      replace X := X.grew G6
      replace K := K.grew G6
      replace N := N.grew G6
      replace Vb := Vb.grew G6
      replace S := S.grew G6
      clear x0 x1 x2 x3 x4 x5 k0 k1 n0 n1 n2 n3a n4 n5 v0 v1x
      obtain ⟨hb, hhb⟩ : ∃ hb, w5.heap.size = hb := ⟨_, rfl⟩
      rw [hhb] at Hb hz5 hz6
      try rw [hhb]
      generalize World.alloc w5 _ = w6 at *
      clear hhb G6
      obtain ⟨x0, x1, x2, x3, x4, x5⟩ := X.three
      obtain ⟨k0, k1⟩ := K.one
      obtain ⟨n0, n1, n2, n3a, n4, n5⟩ := N.three
      obtain ⟨v0, v1x⟩ := Vb.one
      obtain ⟨h0x, h1x⟩ := Hb.one
      go_wp2_with fail
      with_reducible refine (bk_any _ _ _ _).mono ?_
      rintro e_w7 w7 ⟨rfl, rfl⟩
      have Bs := Mine.Own.new w6 22 #[.slice ai ni ci]
      have G7 := (Grew.refl w6).alloc (.cells #[.slice ai ni ci] 22)
      have hz7 : (w6.alloc (.cells #[.slice ai ni ci] 22)).heap.size = w6.heap.size + 1 := by simp
      replace M := M.grew G7
      replace HN := Lib.hid (HN.out.grew G7)
      replace W0 := W0.trans G7
      replace X := X.grew G7
      replace K := K.grew G7
      replace N := N.grew G7
      replace Vb := Vb.grew G7
      replace Hb := Hb.grew G7
      replace S := S.grew G7
      clear x0 x1 x2 x3 x4 x5 k0 k1 n0 n1 n2 n3a n4 n5 v0 v1x h0x h1x
      rw [hz6] at Bs hz7
      generalize World.alloc w6 _ = w7 at *
      clear G7
      obtain ⟨x0, x1, x2, x3, x4, x5⟩ := X.three
      obtain ⟨k0, k1⟩ := K.one
      obtain ⟨n0, n1, n2, n3a, n4, n5⟩ := N.three
      obtain ⟨v0, v1x⟩ := Vb.one
      obtain ⟨h0x, h1x⟩ := Hb.one
      obtain ⟨b0x, b1x⟩ := Bs.one
      go_wp2_with fail
      obtain ⟨bs, hbs⟩ : ∃ bs, hb + 1 = bs := ⟨_, rfl⟩
      rw [hbs] at Bs hz7 ⊢
      clear x0 x1 x2 x3 x4 x5 k0 k1 n0 n1 n2 n3a n4 n5 v0 v1x h0x h1x b0x b1x
      have hgv : gn < vb := by omega
      have SC : ScM w sx gn vb hb mb bs H.length (bs + 1) n H #[(.slice aa na ca), (.slice ai ni ci), (.slice ar nr cr)] (.slice ai ni ci) x [] (.slice a1 l1 c1) (.slice a2 l2 c2) (.slice a3 l3 c3) (.slice none 0 0) w7 :=
        ⟨X, K, S, N, Vb, Hb, Bs, M, HN.out, RowE.nil _ _, HFN.out, ⟨fun e => by have := HFL.out.1 _ e; omega, fun e => by have := HFL.out.2.1 _ e; omega, fun e => by have := HFL.out.2.2 _ e; omega⟩, ⟨sep_nil _, sep_nil _, sep_nil _⟩, W0⟩
      have HSC := Lib.hid SC
      have HBs := Lib.hid Bs
      have hm : mb < bs + 1 := by omega
      have hwe : w.heap.size ≤ bs + 1 := by omega
      have hd : gn ≠ vb ∧ gn ≠ hb ∧ gn ≠ bs ∧ gn ≠ mb ∧ vb ≠ hb ∧ vb ≠ bs ∧ vb ≠ mb := by omega
      clear X K S N Vb Hb M SC HN W0 HFN HFL Bs
      refine wpIn_wide.1 (wpIn_rangeFunc_ownG (n := 6) rfl (by decide) (gf := 56) (lb := #[.pointer (some ⟨bs, 0, none⟩)]) rfl trivial (enters_of Try.func56 (by kernel_rfl) rfl)
        (bk_stops (n₀ := sx) (.slice ai ni ci) w7 (HR.out.grew HSC.out.G).i (fun k e => by have := HVL.out k e; omega) (by omega) HBs.out) kpB_t (kpB_b (by omega) (by omega)) (Below.refl _ _) (fun _ => rfl)
        (ScI w sx gn vb hb mb bs (bs + 1) n H #[(.slice aa na ca), (.slice ai ni ci), (.slice ar nr cr)] (.slice ai ni ci) x) (ScX w sx gn vb hb mb bs (bs + 1) n H #[(.slice aa na ca), (.slice ai ni ci), (.slice ar nr cr)] (.slice ai ni ci) x)
        (scI_own (by omega) hm hwe) (fun c => scX_own (by omega) hm hwe) ⟨⟨_, _, _, _, HSC.out⟩, by show ((0 : Nat) : Int) < n; have := HN1.out; omega⟩
        (fun j => { tmps := #[lruV (.slice aa na ca) (.slice ai ni ci) (.slice ar nr cr), .int .i64 n, vh, .pointer (some ⟨sx, 0, none⟩), .pointer (some ⟨sx + 1, 0, none⟩), undef, .pointer (some ⟨sx + 2, 0, none⟩), .slice none 0 0, .pointer (some ⟨gn, 0, none⟩), .pointer (some ⟨vb, 0, none⟩), .pointer (some ⟨hb, 0, none⟩), undef, .int .i64 (x.i.getD j.val 0), .agg #[(.slice aa na ca), (.slice ai ni ci), (.slice ar nr cr)], lruV (.slice a1 l1 c1) (.slice a2 l2 c2) (.slice a3 l3 c3), .agg #[(.slice aa na ca), (.slice ai ni ci), (.slice ar nr cr)], .bool true, .bool false, .bool false, .int .i64 n, .bool false, .bool false, undef, vh, .map (some mb), .pointer (some ⟨sx, 1, none⟩), (.slice ai ni ci), .func (.func 56) #[] #[.pointer (some ⟨bs, 0, none⟩)], .int .i64 (j.val : Int), .int .i64 (x.i.getD j.val 0), undef, undef, undef, undef, undef, undef, undef, undef, undef, undef, undef, undef, undef, undef, undef, undef, undef, undef, undef, undef, undef, undef, undef, undef, undef, undef, undef, undef], defers := [] }) ?assign ?body ?done ?stop)
      case assign =>
        intro l j W K hK
        revert hK
        unfold encF
        dsimp only
        generalize x.i.getD j.val 0 = y
        intro hK
        gi_wp2
        exact hK
      case body =>
        rintro l pre j W ⟨⟨ua, ui, ur, vv, SM⟩, hlen⟩ hN
        have HST := Lib.hid (stP_snoc H x pre j)
        have hls := stP_len H x pre
        have hin := getD_mem j.isLt
        obtain ⟨y, hy⟩ : ∃ y, x.i.getD j.val 0 = y := ⟨_, rfl⟩
        rw [hy] at HST hin
        dsimp only
        rw [hy]
        clear hy
        have hyF := HOK.out.1 y (List.mem_append_right _ hin)
        have hwy : (Lit.int .i64 y).wf = true := WalkArith.wf_i64 (by omega)
        obtain ⟨jj, hjj⟩ : ∃ jj, j.val = jj := ⟨_, rfl⟩
        try rw [hjj]
        obtain ⟨st, hst⟩ : ∃ st, stP H x pre = st := ⟨_, rfl⟩
        rw [hst] at SM hlen HST hls
        obtain ⟨cur, V⟩ := st
        have HPR := Lib.hid hst
        dsimp only at SM hlen hls
        obtain ⟨hls1, hls2, hls3, hls4⟩ := hls
        have hp4 : pre.length < 400 := by omega
        obtain ⟨a5, c5, rfl⟩ := SM.R.a.len
        obtain ⟨a6, c6, rfl⟩ := SM.R.i.len
        obtain ⟨a7, c7, rfl⟩ := SM.R.r.len
        obtain ⟨a8, c8, rfl⟩ := SM.RV.len
        have gX := SM.X
        have gK := SM.K
        have gN := SM.N
        have gV := SM.Vb
        have gH := SM.Hb
        have hlk := SM.M.look hwy
        have HSM := Lib.hid SM
        have HLEN := Lib.hid hlen
        obtain ⟨x0, x1, x2, x3, x4, x5⟩ := gX.three
        obtain ⟨k0, k1⟩ := gK.one
        obtain ⟨n0, n1, n2, n3a, n4, n5⟩ := gN.three
        obtain ⟨v0, v1⟩ := gV.one
        obtain ⟨h0x, h1x⟩ := gH.one
        have hne : ((V.length : Int) == n) = false := beqF (by omega)
        clear SM hst hwy hin hjj
        cases hh : hlB H y
        · rw [hh] at hlk
          cases hr : decide (y ∈ x.r)
          · have H1 := Lib.hid hr
            have HY : Hid (stP H x (pre ++ [j]) = (cur, V ++ [y])) := Lib.hid (by rw [HST.out]; unfold psS; rw [hh, hr])
            clear hr hh
            gi_wp2_with fail
            refine ⟨trivial, ?_⟩
            with_reducible refine (CallsIn.inRound l (callsIn_wide.2 (refd_v _ _ _ _ _ _ (HR.out.grew HSM.out.G).r (by omega) H1.out))).mono ?_
            rintro e W2 ⟨rfl, g1⟩
            have T2 := (Trk.refl (e0 := w7.heap.size) (n₀ := sx) (bs := bs) W).grew g1 (by have := HSM.out.S.lt; omega) HSM.out.Bs.lt
            have HT2 := Lib.hid T2
            have HS2 := Lib.hid (HSM.out.grew g1)
            clear g1 T2 x0 x1 x2 x3 x4 x5 k0 k1 n0 n1 n2 n3a n4 n5 v0 v1 h0x h1x hlk gX gK gN gV gH
            have HS3 := Lib.hid (HS2.out.grew ((Grew.refl W2).alloc (.cells #[.int .i64 y] 3)))
            have HT3 := Lib.hid (HT2.out.grew ((Grew.refl W2).alloc (.cells #[.int .i64 y] 3)) (by have := HS2.out.S.lt; omega) HS2.out.Bs.lt)
            have HO3 := Lib.hid (Mine.Own.new W2 3 #[.int .i64 y])
            obtain ⟨v0, v1⟩ := HS2.out.Vb.one
            obtain ⟨k0, k1⟩ := HS2.out.K.one
            have hz9 : bs + 1 ≤ (W2.alloc (.cells #[.int .i64 y] 3)).heap.size := by have := HS2.out.Bs.lt; simp; omega
            have hV9 : V.length < 1000000 := by omega
            have hvk : ¬vb = sx + 1 := by omega
            have hvk2 : ¬sx + 1 = vb := by omega
            obtain ⟨nx, hnx⟩ : ∃ nx : Nat, n = (nx : Int) := ⟨n.toNat, by have := HN1.out; omega⟩
            by_cases hfin : V.length + 1 = nx
            · have HFN2 := Lib.hid hfin
              gi_wp2_with (gi_at_builtin; refine wpListIn_row _ rfl (.tmp 30) (.tmp 32) 22 rfl (bs + 1) info_I und_I (by decide) _ V rfl HS3.out.RV _ 1 y rfl HO3.out hV9 (by decide) hz9 ?_; intro g9 cap9 W4 R4 G4 o4; have HT4 := Lib.hid (HT3.out.by_ G4 (fun k e => ⟨by have := HS3.out.RV.above k e; omega, by have := HS3.out.RV.above k e; omega, fun o ho => (row_block HS3.out.RV e).elim fun cs hO => own_cellsOnly hO o ho⟩) (by omega) HS3.out.Bs.lt); have HR4 := Lib.hid R4; have HG4 := Lib.hid G4; have HO4 := Lib.hid o4; obtain ⟨v0, v1⟩ := (HS3.out.Vb.keptN G4 (far_of HS3.out.RV (by omega))).one; obtain ⟨k0, k1⟩ := (HS3.out.K.keptN G4 (far_of HS3.out.RV (by omega))).one; clear R4 G4 o4)
              have e9 := HFN2.out
              subst e9
              have hSA := HS3.out.app HR4.out HG4.out ⟨sep_app HS3.out.Sp.1 HS3.out.R.a HO4.out, sep_app HS3.out.Sp.2.1 HS3.out.R.i HO4.out, sep_app HS3.out.Sp.2.2 HS3.out.R.r HO4.out⟩ (by omega) (by omega) (by omega) (by omega) (by omega) (by omega) (by omega) (by omega) (by omega) (by omega) (by omega) (by omega)
              have hT5 := HT4.out.set (p := ⟨vb, 0, none⟩) (.slice (some ⟨g9, 0, none⟩) (V.length + 1) cap9) (show sx ≤ vb by omega) (show bs ≠ vb by omega)
              exact ⟨hT5.keeps, rfl, ⟨pre, j, rfl, by have := HLEN.out; rw [HPR.out]; exact this⟩, by rw [HY.out]; show ¬(((V ++ [y]).length : Nat) : Int) < _; simp; omega, _, _, _, _, by rw [HY.out]; exact hSA⟩
            · have HFN2 := Lib.hid hfin
              gi_wp2_with (gi_at_builtin; refine wpListIn_row _ rfl (.tmp 30) (.tmp 32) 22 rfl (bs + 1) info_I und_I (by decide) _ V rfl HS3.out.RV _ 1 y rfl HO3.out hV9 (by decide) hz9 ?_; intro g9 cap9 W4 R4 G4 o4; have HT4 := Lib.hid (HT3.out.by_ G4 (fun k e => ⟨by have := HS3.out.RV.above k e; omega, by have := HS3.out.RV.above k e; omega, fun o ho => (row_block HS3.out.RV e).elim fun cs hO => own_cellsOnly hO o ho⟩) (by omega) HS3.out.Bs.lt); have HR4 := Lib.hid R4; have HG4 := Lib.hid G4; have HO4 := Lib.hid o4; obtain ⟨v0, v1⟩ := (HS3.out.Vb.keptN G4 (far_of HS3.out.RV (by omega))).one; obtain ⟨k0, k1⟩ := (HS3.out.K.keptN G4 (far_of HS3.out.RV (by omega))).one; clear R4 G4 o4)
              have hSA := HS3.out.app HR4.out HG4.out ⟨sep_app HS3.out.Sp.1 HS3.out.R.a HO4.out, sep_app HS3.out.Sp.2.1 HS3.out.R.i HO4.out, sep_app HS3.out.Sp.2.2 HS3.out.R.r HO4.out⟩ (by omega) (by omega) (by omega) (by omega) (by omega) (by omega) (by omega) (by omega) (by omega) (by omega) (by omega) (by omega)
              have hT5 := HT4.out.set (p := ⟨vb, 0, none⟩) (.slice (some ⟨g9, 0, none⟩) (V.length + 1) cap9) (show sx ≤ vb by omega) (show bs ≠ vb by omega)
              exact ⟨hT5.keeps, hT5.2, ⟨_, _, _, _, by rw [HY.out]; exact hSA⟩, by rw [HY.out]; show (((V ++ [y]).length : Nat) : Int) < _; have := HLEN.out; have := HFN2.out; simp; omega⟩
          · have H1 := Lib.hid hr
            have HY : Hid (stP H x (pre ++ [j]) = (⟨cur.a, y :: wol cur.i y, wol cur.r y⟩, V)) := Lib.hid (by rw [HST.out]; unfold psS; rw [hh, hr])
            clear hr hh
            gi_wp2_with fail
            refine ⟨trivial, ?_⟩
            with_reducible refine (CallsIn.inRound l (callsIn_wide.2 (refd_v _ _ _ _ _ _ (HR.out.grew HSM.out.G).r (by omega) H1.out))).mono ?_
            rintro e W2 ⟨rfl, g1⟩
            have T2 := (Trk.refl (e0 := w7.heap.size) (n₀ := sx) (bs := bs) W).grew g1 (by have := HSM.out.S.lt; omega) HSM.out.Bs.lt
            have HT2 := Lib.hid T2.drew
            have HS2 := Lib.hid (HSM.out.grew g1)
            have HSC := Lib.hid HS2.out.drew
            obtain ⟨MI, hMI⟩ : ∃ M, y :: wol cur.i y = M := ⟨_, rfl⟩
            obtain ⟨MR, hMR⟩ : ∃ M, wol cur.r y = M := ⟨_, rfl⟩
            have HMI := Lib.hid hMI
            have HMR := Lib.hid hMR
            rw [hMI, hMR] at HY
            have hb2 : bs + 1 ≤ W2.heap.size := HS2.out.Bs.lt
            clear g1 T2 hMI hMR x0 x1 x2 x3 x4 x5 k0 k1 n0 n1 n2 n3a n4 n5 v0 v1 h0x h1x hlk gX gK gN gV gH
            obtain ⟨n0, n1, n2, n3a, n4, n5⟩ := HS2.out.N.three
            have hfa : Fence.wide.fn 34 := trivial
            have hfb : Fence.wide.fn 38 := trivial
            gi_wp2_with fail
            refine region_round (by kernel_rfl) (by kernel_rfl) (fun ⟨_, _, h⟩ => h) ?_
            refine wpAny_take (i := 0) (oi := ⟨some 42, _, _, _, _, _⟩) (v := ?vv1) rfl (by kernel_rfl) (by kernel_rfl) (by kernel_rfl) (fun _ _ _ h => h) (Or.inl ⟨by rfl, ?yy1⟩) ?rr1
            case yy1 => (intro w; go_simp; (try with_reducible rfl))
            try simp only [Act.put, List.setIfInBounds_toArray, List.set_cons_zero, List.set_cons_succ]
            refine wpAny_take (i := 2) (oi := ⟨some 44, _, _, _, _, _⟩) (v := ?vv2) rfl (by kernel_rfl) (by kernel_rfl) (by kernel_rfl) (fun _ _ _ h => h) (Or.inl ⟨by rfl, ?yy2⟩) ?rr2
            case yy2 => (intro w; go_simp; (try with_reducible rfl))
            try simp only [Act.put, List.setIfInBounds_toArray, List.set_cons_zero, List.set_cons_succ]
            refine wpAny_take (i := 4) (oi := ⟨some 46, _, _, _, _, _⟩) (v := ?vv3) rfl (by kernel_rfl) (by kernel_rfl) (by kernel_rfl) (fun _ _ _ h => h) (Or.inl ⟨by rfl, ?yy3⟩) ?rr3
            case yy3 => (intro w; go_simp; (try with_reducible rfl))
            try simp only [Act.put, List.setIfInBounds_toArray, List.set_cons_zero, List.set_cons_succ]
            refine wpAny_take (i := 6) (oi := ⟨some 48, _, _, _, _, _⟩) (v := ?vv4) rfl (by kernel_rfl) (by kernel_rfl) (by kernel_rfl) (fun _ _ _ h => h) (Or.inl ⟨by rfl, ?yy4⟩) ?rr4
            case yy4 => (intro w; go_simp; (try with_reducible rfl))
            try simp only [Act.put, List.setIfInBounds_toArray, List.set_cons_zero, List.set_cons_succ]
            refine wpAny_ready (rs := [1, 5]) (by kernel_rfl) (by simp) ?_
            refine AllReady.cons (o := ⟨some 43, _, _, _, _, _⟩) rfl (fun K hK => ?st25_0) (AllReady.cons (o := ⟨some 47, _, _, _, _, _⟩) rfl (fun K hK => ?st25_1) AllReady.nil)
            case st25_0 =>
              go_simp
              refine hK _ _ ?_
              clear hK K
              try simp only [Act.put, List.setIfInBounds_toArray, List.set_cons_zero, List.set_cons_succ]
              refine wpAny_ready (rs := [3, 5]) (by kernel_rfl) (by simp) ?_
              refine AllReady.cons (o := ⟨some 45, _, _, _, _, _⟩) rfl (fun K hK => ?st17_0) (AllReady.cons (o := ⟨some 47, _, _, _, _, _⟩) rfl (fun K hK => ?st17_1) AllReady.nil)
              case st17_0 =>
                go_simp
                with_reducible refine (toFront_w (M := MI) (.slice a6 cur.i.length c6) y _ HSC.out.R.i (by omega) HMI.out).mono ?_
                rintro e W5 ⟨v5, rfl, R5, g1⟩
                obtain ⟨a9, c9, rfl⟩ := R5.len
                have HR5 := Lib.hid R5
                have hz5 : W2.heap.size ≤ W5.heap.size := g1.size
                replace HT2 := Lib.hid (HT2.out.grew g1 (by have := HSC.out.S.lt; omega) HSC.out.Bs.lt)
                replace HSC := Lib.hid (HSC.out.grew g1)
                clear g1 R5 n0 n1 n2 n3a n4 n5
                obtain ⟨n0, n1, n2, n3a, n4, n5⟩ := HSC.out.N.three
                dsimp only
                refine hK _ _ ?_
                clear hK K
                try simp only [Act.put, List.setIfInBounds_toArray, List.set_cons_zero, List.set_cons_succ]
                refine wpAny_ready (rs := [5]) (by kernel_rfl) (by simp) ?_
                refine AllReady.cons (o := ⟨some 47, _, _, _, _, _⟩) rfl (fun K hK => ?st10_0) AllReady.nil
                case st10_0 =>
                  go_simp
                  refine hK _ _ ?_
                  clear hK K
                  try simp only [Act.put, List.setIfInBounds_toArray, List.set_cons_zero, List.set_cons_succ]
                  refine wpAny_take (i := 8) (oi := ⟨some 50, _, _, _, _, _⟩) (v := ?vv5) rfl (by kernel_rfl) (by kernel_rfl) (by kernel_rfl) (fun _ _ _ h => h) (Or.inl ⟨by rfl, ?yy5⟩) ?rr5
                  case yy5 => (intro w; go_simp; (try with_reducible rfl))
                  try simp only [Act.put, List.setIfInBounds_toArray, List.set_cons_zero, List.set_cons_succ]
                  refine wpAny_ready (rs := [7]) (by kernel_rfl) (by simp) ?_
                  refine AllReady.cons (o := ⟨some 49, _, _, _, _, _⟩) rfl (fun K hK => ?st9_0) AllReady.nil
                  case st9_0 =>
                    go_simp
                    with_reducible refine (without_w (M := MR) (.slice a7 cur.r.length c7) y _ HSC.out.R.r (by omega) HMR.out).mono ?_
                    rintro e W6 ⟨v6, rfl, R6, g1⟩
                    obtain ⟨a10, c10, rfl⟩ := R6.len
                    have HR6 := Lib.hid R6
                    replace HR5 := Lib.hid (HR5.out.grew g1)
                    replace HT2 := Lib.hid (HT2.out.grew g1 (by have := HSC.out.S.lt; omega) HSC.out.Bs.lt)
                    replace HSC := Lib.hid (HSC.out.grew g1)
                    clear g1 R6 n0 n1 n2 n3a n4 n5
                    obtain ⟨n0, n1, n2, n3a, n4, n5⟩ := HSC.out.N.three
                    dsimp only
                    refine hK _ _ ?_
                    clear hK K
                    try simp only [Act.put, List.setIfInBounds_toArray, List.set_cons_zero, List.set_cons_succ]
                    refine wpAny_ready (rs := [9]) (by kernel_rfl) (by simp) ?_
                    refine AllReady.cons (o := ⟨none, _, _, _, _, _⟩) rfl (fun K hK => ?st8_0) AllReady.nil
                    case st8_0 =>
                      go_simp
                      refine hK _ _ ?_
                      clear hK K
                      try simp only [Act.put, List.setIfInBounds_toArray, List.set_cons_zero, List.set_cons_succ]
                      refine wpAny_take (i := 10) (oi := ⟨some 51, _, _, _, _, _⟩) (v := ?vv6) rfl (by kernel_rfl) (by kernel_rfl) (by kernel_rfl) (fun _ _ _ h => h) (Or.inl ⟨by rfl, ?yy6⟩) ?rr6
                      case yy6 => (intro w; go_simp; (try with_reducible rfl))
                      try simp only [Act.put, List.setIfInBounds_toArray, List.set_cons_zero, List.set_cons_succ]
                      refine wpAny_ready (rs := [11]) (by kernel_rfl) (by simp) ?_
                      refine AllReady.cons (o := ⟨none, _, _, _, _, _⟩) rfl (fun K hK => ?st7_0) AllReady.nil
                      case st7_0 =>
                        go_simp
                        refine hK _ _ ?_
                        clear hK K
                        try simp only [Act.put, List.setIfInBounds_toArray, List.set_cons_zero, List.set_cons_succ]
                        refine wpAny_done (by kernel_rfl) ?_ _
                        have hsw2 : W2.heap.size ≤ W2.drew.heap.size := Nat.le_refl _
                        have hSt := HSC.out.store2 HR5.out HR6.out (show bs + 1 ≤ W2.drew.heap.size from hb2) (by omega) (sep_new HS2.out.RV HR5.out hsw2) (sep_new HS2.out.RV HR6.out hz5) (by omega) (by omega) (by omega) (by omega) (by omega) (by omega) (by omega) (by omega)
                        have hT8 := (HT2.out.set (p := ⟨gn, 1, none⟩) (.slice a9 MI.length c9) (show sx ≤ gn by omega) (show bs ≠ gn by omega)).set (p := ⟨gn, 2, none⟩) (.slice a10 MR.length c10) (show sx ≤ gn by omega) (show bs ≠ gn by omega)
                        clear n0 n1 n2 n3a n4 n5
                        generalize World.setCell (World.setCell W6 _ _) _ _ = W8 at hSt hT8 ⊢
                        obtain ⟨v0, v1⟩ := hSt.Vb.one
                        obtain ⟨k0, k1⟩ := hSt.K.one
                        have HSt := Lib.hid hSt
                        have HT8 := Lib.hid hT8
                        clear hSt hT8
                        gi_wp2
                        exact ⟨HT8.out.keeps, HT8.out.2, ⟨_, _, _, _, by rw [HY.out]; exact HSt.out⟩, by rw [HY.out]; exact HLEN.out⟩
              case st17_1 =>
                go_simp
                refine hK _ _ ?_
                clear hK K
                try simp only [Act.put, List.setIfInBounds_toArray, List.set_cons_zero, List.set_cons_succ]
                refine wpAny_ready (rs := [3]) (by kernel_rfl) (by simp) ?_
                refine AllReady.cons (o := ⟨some 45, _, _, _, _, _⟩) rfl (fun K hK => ?st16_0) AllReady.nil
                case st16_0 =>
                  go_simp
                  with_reducible refine (toFront_w (M := MI) (.slice a6 cur.i.length c6) y _ HSC.out.R.i (by omega) HMI.out).mono ?_
                  rintro e W5 ⟨v5, rfl, R5, g1⟩
                  obtain ⟨a9, c9, rfl⟩ := R5.len
                  have HR5 := Lib.hid R5
                  have hz5 : W2.heap.size ≤ W5.heap.size := g1.size
                  replace HT2 := Lib.hid (HT2.out.grew g1 (by have := HSC.out.S.lt; omega) HSC.out.Bs.lt)
                  replace HSC := Lib.hid (HSC.out.grew g1)
                  clear g1 R5 n0 n1 n2 n3a n4 n5
                  obtain ⟨n0, n1, n2, n3a, n4, n5⟩ := HSC.out.N.three
                  dsimp only
                  refine hK _ _ ?_
                  clear hK K
                  try simp only [Act.put, List.setIfInBounds_toArray, List.set_cons_zero, List.set_cons_succ]
                  refine wpAny_take (i := 8) (oi := ⟨some 50, _, _, _, _, _⟩) (v := ?vv11) rfl (by kernel_rfl) (by kernel_rfl) (by kernel_rfl) (fun _ _ _ h => h) (Or.inl ⟨by rfl, ?yy11⟩) ?rr11
                  case yy11 => (intro w; go_simp; (try with_reducible rfl))
                  try simp only [Act.put, List.setIfInBounds_toArray, List.set_cons_zero, List.set_cons_succ]
                  refine wpAny_ready (rs := [7]) (by kernel_rfl) (by simp) ?_
                  refine AllReady.cons (o := ⟨some 49, _, _, _, _, _⟩) rfl (fun K hK => ?st15_0) AllReady.nil
                  case st15_0 =>
                    go_simp
                    with_reducible refine (without_w (M := MR) (.slice a7 cur.r.length c7) y _ HSC.out.R.r (by omega) HMR.out).mono ?_
                    rintro e W6 ⟨v6, rfl, R6, g1⟩
                    obtain ⟨a10, c10, rfl⟩ := R6.len
                    have HR6 := Lib.hid R6
                    replace HR5 := Lib.hid (HR5.out.grew g1)
                    replace HT2 := Lib.hid (HT2.out.grew g1 (by have := HSC.out.S.lt; omega) HSC.out.Bs.lt)
                    replace HSC := Lib.hid (HSC.out.grew g1)
                    clear g1 R6 n0 n1 n2 n3a n4 n5
                    obtain ⟨n0, n1, n2, n3a, n4, n5⟩ := HSC.out.N.three
                    dsimp only
                    refine hK _ _ ?_
                    clear hK K
                    try simp only [Act.put, List.setIfInBounds_toArray, List.set_cons_zero, List.set_cons_succ]
                    refine wpAny_ready (rs := [9]) (by kernel_rfl) (by simp) ?_
                    refine AllReady.cons (o := ⟨none, _, _, _, _, _⟩) rfl (fun K hK => ?st14_0) AllReady.nil
                    case st14_0 =>
                      go_simp
                      refine hK _ _ ?_
                      clear hK K
                      try simp only [Act.put, List.setIfInBounds_toArray, List.set_cons_zero, List.set_cons_succ]
                      refine wpAny_take (i := 10) (oi := ⟨some 51, _, _, _, _, _⟩) (v := ?vv12) rfl (by kernel_rfl) (by kernel_rfl) (by kernel_rfl) (fun _ _ _ h => h) (Or.inl ⟨by rfl, ?yy12⟩) ?rr12
                      case yy12 => (intro w; go_simp; (try with_reducible rfl))
                      try simp only [Act.put, List.setIfInBounds_toArray, List.set_cons_zero, List.set_cons_succ]
                      refine wpAny_ready (rs := [11]) (by kernel_rfl) (by simp) ?_
                      refine AllReady.cons (o := ⟨none, _, _, _, _, _⟩) rfl (fun K hK => ?st13_0) AllReady.nil
                      case st13_0 =>
                        go_simp
                        refine hK _ _ ?_
                        clear hK K
                        try simp only [Act.put, List.setIfInBounds_toArray, List.set_cons_zero, List.set_cons_succ]
                        refine wpAny_done (by kernel_rfl) ?_ _
                        have hsw2 : W2.heap.size ≤ W2.drew.heap.size := Nat.le_refl _
                        have hSt := HSC.out.store2 HR5.out HR6.out (show bs + 1 ≤ W2.drew.heap.size from hb2) (by omega) (sep_new HS2.out.RV HR5.out hsw2) (sep_new HS2.out.RV HR6.out hz5) (by omega) (by omega) (by omega) (by omega) (by omega) (by omega) (by omega) (by omega)
                        have hT8 := (HT2.out.set (p := ⟨gn, 1, none⟩) (.slice a9 MI.length c9) (show sx ≤ gn by omega) (show bs ≠ gn by omega)).set (p := ⟨gn, 2, none⟩) (.slice a10 MR.length c10) (show sx ≤ gn by omega) (show bs ≠ gn by omega)
                        clear n0 n1 n2 n3a n4 n5
                        generalize World.setCell (World.setCell W6 _ _) _ _ = W8 at hSt hT8 ⊢
                        obtain ⟨v0, v1⟩ := hSt.Vb.one
                        obtain ⟨k0, k1⟩ := hSt.K.one
                        have HSt := Lib.hid hSt
                        have HT8 := Lib.hid hT8
                        clear hSt hT8
                        gi_wp2
                        exact ⟨HT8.out.keeps, HT8.out.2, ⟨_, _, _, _, by rw [HY.out]; exact HSt.out⟩, by rw [HY.out]; exact HLEN.out⟩
            case st25_1 =>
              go_simp
              refine hK _ _ ?_
              clear hK K
              try simp only [Act.put, List.setIfInBounds_toArray, List.set_cons_zero, List.set_cons_succ]
              refine wpAny_ready (rs := [1]) (by kernel_rfl) (by simp) ?_
              refine AllReady.cons (o := ⟨some 43, _, _, _, _, _⟩) rfl (fun K hK => ?st24_0) AllReady.nil
              case st24_0 =>
                go_simp
                refine hK _ _ ?_
                clear hK K
                try simp only [Act.put, List.setIfInBounds_toArray, List.set_cons_zero, List.set_cons_succ]
                refine wpAny_ready (rs := [3]) (by kernel_rfl) (by simp) ?_
                refine AllReady.cons (o := ⟨some 45, _, _, _, _, _⟩) rfl (fun K hK => ?st23_0) AllReady.nil
                case st23_0 =>
                  go_simp
                  with_reducible refine (toFront_w (M := MI) (.slice a6 cur.i.length c6) y _ HSC.out.R.i (by omega) HMI.out).mono ?_
                  rintro e W5 ⟨v5, rfl, R5, g1⟩
                  obtain ⟨a9, c9, rfl⟩ := R5.len
                  have HR5 := Lib.hid R5
                  have hz5 : W2.heap.size ≤ W5.heap.size := g1.size
                  replace HT2 := Lib.hid (HT2.out.grew g1 (by have := HSC.out.S.lt; omega) HSC.out.Bs.lt)
                  replace HSC := Lib.hid (HSC.out.grew g1)
                  clear g1 R5 n0 n1 n2 n3a n4 n5
                  obtain ⟨n0, n1, n2, n3a, n4, n5⟩ := HSC.out.N.three
                  dsimp only
                  refine hK _ _ ?_
                  clear hK K
                  try simp only [Act.put, List.setIfInBounds_toArray, List.set_cons_zero, List.set_cons_succ]
                  refine wpAny_take (i := 8) (oi := ⟨some 50, _, _, _, _, _⟩) (v := ?vv18) rfl (by kernel_rfl) (by kernel_rfl) (by kernel_rfl) (fun _ _ _ h => h) (Or.inl ⟨by rfl, ?yy18⟩) ?rr18
                  case yy18 => (intro w; go_simp; (try with_reducible rfl))
                  try simp only [Act.put, List.setIfInBounds_toArray, List.set_cons_zero, List.set_cons_succ]
                  refine wpAny_ready (rs := [7]) (by kernel_rfl) (by simp) ?_
                  refine AllReady.cons (o := ⟨some 49, _, _, _, _, _⟩) rfl (fun K hK => ?st22_0) AllReady.nil
                  case st22_0 =>
                    go_simp
                    with_reducible refine (without_w (M := MR) (.slice a7 cur.r.length c7) y _ HSC.out.R.r (by omega) HMR.out).mono ?_
                    rintro e W6 ⟨v6, rfl, R6, g1⟩
                    obtain ⟨a10, c10, rfl⟩ := R6.len
                    have HR6 := Lib.hid R6
                    replace HR5 := Lib.hid (HR5.out.grew g1)
                    replace HT2 := Lib.hid (HT2.out.grew g1 (by have := HSC.out.S.lt; omega) HSC.out.Bs.lt)
                    replace HSC := Lib.hid (HSC.out.grew g1)
                    clear g1 R6 n0 n1 n2 n3a n4 n5
                    obtain ⟨n0, n1, n2, n3a, n4, n5⟩ := HSC.out.N.three
                    dsimp only
                    refine hK _ _ ?_
                    clear hK K
                    try simp only [Act.put, List.setIfInBounds_toArray, List.set_cons_zero, List.set_cons_succ]
                    refine wpAny_ready (rs := [9]) (by kernel_rfl) (by simp) ?_
                    refine AllReady.cons (o := ⟨none, _, _, _, _, _⟩) rfl (fun K hK => ?st21_0) AllReady.nil
                    case st21_0 =>
                      go_simp
                      refine hK _ _ ?_
                      clear hK K
                      try simp only [Act.put, List.setIfInBounds_toArray, List.set_cons_zero, List.set_cons_succ]
                      refine wpAny_take (i := 10) (oi := ⟨some 51, _, _, _, _, _⟩) (v := ?vv19) rfl (by kernel_rfl) (by kernel_rfl) (by kernel_rfl) (fun _ _ _ h => h) (Or.inl ⟨by rfl, ?yy19⟩) ?rr19
                      case yy19 => (intro w; go_simp; (try with_reducible rfl))
                      try simp only [Act.put, List.setIfInBounds_toArray, List.set_cons_zero, List.set_cons_succ]
                      refine wpAny_ready (rs := [11]) (by kernel_rfl) (by simp) ?_
                      refine AllReady.cons (o := ⟨none, _, _, _, _, _⟩) rfl (fun K hK => ?st20_0) AllReady.nil
                      case st20_0 =>
                        go_simp
                        refine hK _ _ ?_
                        clear hK K
                        try simp only [Act.put, List.setIfInBounds_toArray, List.set_cons_zero, List.set_cons_succ]
                        refine wpAny_done (by kernel_rfl) ?_ _
                        have hsw2 : W2.heap.size ≤ W2.drew.heap.size := Nat.le_refl _
                        have hSt := HSC.out.store2 HR5.out HR6.out (show bs + 1 ≤ W2.drew.heap.size from hb2) (by omega) (sep_new HS2.out.RV HR5.out hsw2) (sep_new HS2.out.RV HR6.out hz5) (by omega) (by omega) (by omega) (by omega) (by omega) (by omega) (by omega) (by omega)
                        have hT8 := (HT2.out.set (p := ⟨gn, 1, none⟩) (.slice a9 MI.length c9) (show sx ≤ gn by omega) (show bs ≠ gn by omega)).set (p := ⟨gn, 2, none⟩) (.slice a10 MR.length c10) (show sx ≤ gn by omega) (show bs ≠ gn by omega)
                        clear n0 n1 n2 n3a n4 n5
                        generalize World.setCell (World.setCell W6 _ _) _ _ = W8 at hSt hT8 ⊢
                        obtain ⟨v0, v1⟩ := hSt.Vb.one
                        obtain ⟨k0, k1⟩ := hSt.K.one
                        have HSt := Lib.hid hSt
                        have HT8 := Lib.hid hT8
                        clear hSt hT8
                        gi_wp2
                        exact ⟨HT8.out.keeps, HT8.out.2, ⟨_, _, _, _, by rw [HY.out]; exact HSt.out⟩, by rw [HY.out]; exact HLEN.out⟩
        · rw [hh] at hlk
          have HY : Hid (stP H x (pre ++ [j]) = (cur, V)) := Lib.hid (by rw [HST.out]; unfold psS; rw [hh])
          gi_wp2
          exact ⟨KeepsFrom.refl _ _, ⟨Below.refl _ _, rfl⟩, ⟨_, _, _, _, by rw [HY.out]; exact HSM.out⟩, by rw [HY.out]; exact HLEN.out⟩
      case done =>
        rintro D ys W hD rfl ⟨⟨ua, ui, ur, vv, SM⟩, hl⟩ hK
        have hst : stP H x (rvF x.i.length x.i.length) = psL (hlB H) x.r x.i.reverse (x, []) := by
          unfold stP
          rw [frL_rv, List.take_of_length_le (by simp)]
        have HX := Lib.hid (show scnF x n (hlB H) = stP H x (rvF x.i.length x.i.length) from by
          rw [hst] at hl ⊢
          exact scnF_done HOK.out HN1.out hl)
        clear hst
        obtain ⟨y, hy⟩ : ∃ y, stP H x (rvF x.i.length x.i.length) = y := ⟨_, rfl⟩
        rw [hy] at SM HX
        clear hl hy
        obtain ⟨cur, V⟩ := y
        have gX := SM.X
        have gS := SM.S
        have gN := SM.N
        have gV := SM.Vb
        have HSM := Lib.hid SM
        obtain ⟨a5, c5, rfl⟩ := SM.R.a.len
        obtain ⟨a6, c6, rfl⟩ := SM.R.i.len
        obtain ⟨a7, c7, rfl⟩ := SM.R.r.len
        obtain ⟨a8, c8, rfl⟩ := SM.RV.len
        obtain ⟨n0, n1, n2, n3a, n4, n5⟩ := gN.three
        obtain ⟨s0, s1, s2, s3, s4, s5⟩ := gS.three
        obtain ⟨v0, v1⟩ := gV.one
        have hDs : sx + 2 < D := by omega
        clear SM gX
        go_wp2_with fail
        go_region
        all_goals
          go_wp2
          generalize hw : World.setCell _ _ _ = wz
          have RR := (gS.store3 hw).drew
          have GZ : W.grownBy wz.drew (some (sx + 2)) := grown_drew (by
            rw [← hw]
            exact grown_set (p := ⟨sx + 2, 2, none⟩) (grown_set (p := ⟨sx + 2, 1, none⟩) (grown_set (p := ⟨sx + 2, 0, none⟩) (grown_refl _ _) (.inl rfl) _) (.inl rfl) _) (.inl rfl) _)
          clear hw
          generalize wz.drew = wy at *
          have hKz : wy.heap[D]? = some (.deferred (some [])) := (GZ.block D (Array.getElem?_eq_some_iff.1 hK).1 (fun e => by injection e with e <;> omega)).trans hK
          have RP := own_put RR hKz (.deferred none) rfl
          obtain ⟨u0, u1, u2, u3, u4, u5⟩ := RP.three
          have far : ∀ {B' : Nat} {v : Value} {L : List Int}, RwI W B' v L → sx + 2 < B' → RwI (wy.putObj D (.deferred none)) B' v L := fun h hB => row_put (RowE.keptB h GZ (fun k e => by injection e with e <;> omega)) hKz (.deferred none) rfl
          have hR := HSM.out.R
          refine ⟨by simp, .inl ⟨_, _, rfl, run_takeDeferred hKz, .tuple #[lruV (.slice a5 cur.a.length c5) (.slice a6 cur.i.length c6) (.slice a7 cur.r.length c7), .slice a8 V.length c8], by simp [results, Try.results26, go_sem, u0, u1, u2], _, _, _, _, rfl, ?_, ?_, ?_⟩⟩
          · rw [HX.out]
            exact LrR.wider ⟨far hR.a (Nat.lt_succ_self _), far hR.i (Nat.lt_succ_self _), far hR.r (Nat.lt_succ_self _)⟩ (by omega)
          · rw [HX.out]
            exact RowE.wider (far HSM.out.RV (by omega)) (by omega)
          · exact grew_put (HSM.out.G.keptA GZ (B := sx + 2) (fun x e => by injection e with e <;> omega) (by omega)) (.deferred none) (by omega)

      case stop =>
        rintro D c pre W hD ⟨k, hk, rfl⟩ ⟨rfl, ⟨ini, j, hij, hl1⟩, hl2, ua, ui, ur, vv, SM⟩ hK
        obtain ⟨t, rfl⟩ : ∃ t, k = t + 1 := by
          cases k with
          | zero => exact absurd (congrArg List.length hij) (by simp [rvF])
          | succ t => exact ⟨t, rfl⟩
        rw [rvF_succ (by omega)] at hij
        obtain ⟨rfl, -⟩ := List.append_inj' hij rfl
        have HX := Lib.hid (show scnF x n (hlB H) = stP H x (rvF x.i.length (t + 1)) from by
          unfold stP at hl1 hl2 ⊢
          rw [frL_rv] at hl1 hl2 ⊢
          exact scnF_stop HOK.out HN1.out t (by omega) hl1 hl2)
        obtain ⟨y, hy⟩ : ∃ y, stP H x (rvF x.i.length (t + 1)) = y := ⟨_, rfl⟩
        rw [hy] at SM HX
        clear hl1 hl2 hy
        refine wpIn_wide.2 ?_
        obtain ⟨cur, V⟩ := y
        have gX := SM.X
        have gS := SM.S
        have gN := SM.N
        have gV := SM.Vb
        have HSM := Lib.hid SM
        obtain ⟨a5, c5, rfl⟩ := SM.R.a.len
        obtain ⟨a6, c6, rfl⟩ := SM.R.i.len
        obtain ⟨a7, c7, rfl⟩ := SM.R.r.len
        obtain ⟨a8, c8, rfl⟩ := SM.RV.len
        obtain ⟨n0, n1, n2, n3a, n4, n5⟩ := gN.three
        obtain ⟨s0, s1, s2, s3, s4, s5⟩ := gS.three
        obtain ⟨v0, v1⟩ := gV.one
        have hDs : sx + 2 < D := by omega
        clear SM gX
        go_wp2_with fail
        go_region
        all_goals
          go_wp2
          generalize hw : World.setCell _ _ _ = wz
          have RR := (gS.store3 hw).drew
          have GZ : W.grownBy wz.drew (some (sx + 2)) := grown_drew (by
            rw [← hw]
            exact grown_set (p := ⟨sx + 2, 2, none⟩) (grown_set (p := ⟨sx + 2, 1, none⟩) (grown_set (p := ⟨sx + 2, 0, none⟩) (grown_refl _ _) (.inl rfl) _) (.inl rfl) _) (.inl rfl) _)
          clear hw
          generalize wz.drew = wy at *
          have hKz : wy.heap[D]? = some (.deferred (some [])) := (GZ.block D (Array.getElem?_eq_some_iff.1 hK).1 (fun e => by injection e with e <;> omega)).trans hK
          have RP := own_put RR hKz (.deferred none) rfl
          obtain ⟨u0, u1, u2, u3, u4, u5⟩ := RP.three
          have far : ∀ {B' : Nat} {v : Value} {L : List Int}, RwI W B' v L → sx + 2 < B' → RwI (wy.putObj D (.deferred none)) B' v L := fun h hB => row_put (RowE.keptB h GZ (fun k e => by injection e with e <;> omega)) hKz (.deferred none) rfl
          have hR := HSM.out.R
          refine ⟨by simp, .inl ⟨_, _, rfl, run_takeDeferred hKz, .tuple #[lruV (.slice a5 cur.a.length c5) (.slice a6 cur.i.length c6) (.slice a7 cur.r.length c7), .slice a8 V.length c8], by simp [results, Try.results26, go_sem, u0, u1, u2], _, _, _, _, rfl, ?_, ?_, ?_⟩⟩
          · rw [HX.out]
            exact LrR.wider ⟨far hR.a (Nat.lt_succ_self _), far hR.i (Nat.lt_succ_self _), far hR.r (Nat.lt_succ_self _)⟩ (by omega)
          · rw [HX.out]
            exact RowE.wider (far HSM.out.RV (by omega)) (by omega)
          · exact grew_put (HSM.out.G.keptA GZ (B := sx + 2) (fun x e => by injection e with e <;> omega) (by omega)) (.deferred none) (by omega)

end Go.Proofs.Yteaofieijginhaa

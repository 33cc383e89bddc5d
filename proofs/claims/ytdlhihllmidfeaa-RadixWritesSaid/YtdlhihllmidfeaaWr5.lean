/- The reference of layer 1: change, Mark, Unmark. -/
import Derived.Test.YtdlhihllmidfeaaWr4
import Derived.Test.YtdlhihllmidfeaaSp9
namespace Go.Proofs.Ytdlhihllmidfeaa
open Go.RowKit Go.Mine

theorem fnOf_put {i : Nat} {l : Lef} (j : Nat) : ∀ {L : List En} {k : Nat}, k < L.length → (L.getD k eZ).1 = (i : Int) → (∀ q, q < k → ¬(L.getD q eZ).1 = (i : Int)) → fnOf (L.set k ((i : Int), l)) j = if j = i then l else fnOf L j
  | b :: L, 0, _, h, _ => by
    have hb : b.1 = (i : Int) := h
    unfold fnOf
    rw [List.set_cons_zero, List.find?_cons, List.find?_cons, hb]
    by_cases e : j = i
    · subst e
      simp
    · have e2 : (((i : Int)) == (j : Int)) = false := by simp; omega
      rw [if_neg e]
      simp only [e2]
  | b :: L, k + 1, hk, h, hn => by
    have hb : ¬b.1 = (i : Int) := hn 0 (by omega)
    have ih := fnOf_put (i := i) (l := l) j (L := L) (k := k) (by simpa using hk) h (fun q hq => hn (q + 1) (by omega))
    unfold fnOf at ih ⊢
    rw [List.set_cons_succ, List.find?_cons, List.find?_cons]
    cases e : (b.1 == (j : Int))
    · simp only [e]
      exact ih
    · have : b.1 = (j : Int) := by simpa using e
      have hji : ¬j = i := fun e2 => hb (by rw [this, e2])
      rw [if_neg hji]
theorem put_fn {h : Nat} {f : Fen} (hf : GoodF f) (ho : ∀ j, p4 h ≤ j → f j = (0, 0)) {i k : Nat} {l : Lef} (hk : k < (entR h f 0).length) (hi : ((entR h f 0).getD k eZ).1 = (i : Int)) : fnOf ((entR h f 0).set k ((i : Int), l)) = updG f i l := by
  have hR := fnOf_R (h := h) hf ho
  funext j
  rw [fnOf_put j hk hi (fun q hq e => by
    have := ents_asc (h := h) (f := f) hq hk
    rw [e, hi] at this
    omega), hR]
  rfl
theorem put_ok {L : List En} (ok : EntOK L) {i k : Nat} {l : Lef} (hi : i < 256) (hl : LefOK l) (h0 : l.1 ≠ 0) : EntOK (L.set k ((i : Int), l)) := fun e he => by
  rcases List.mem_or_eq_of_mem_set he with he | rfl
  · exact ok e he
  · exact ⟨by show (0 : Int) ≤ (i : Int); omega, by show (i : Int) < 256; omega, hl, h0⟩
/-- The marks of an element are stored. -/
theorem put_row {T : TypeId} {w : World} {B g c k : Nat} {L : List En} (R : RowE T 3 encE w B (.slice (some ⟨g, 0, none⟩) L.length c) L) (hk : k < L.length) (z : Int) :
    RowE T 3 encE (w.setCell ⟨g, k * 3 + 2, none⟩ (.int .i64 z)) B (.slice (some ⟨g, 0, none⟩) L.length c) (L.set k ((L.getD k eZ).1, ((L.getD k eZ).2.1, z))) := by
  have hd : L.getD k eZ = L[k] := by rw [List.getD, List.getElem?_eq_getElem hk]; rfl
  rw [hd]
  exact RowE.stored R (k * 3 + 2) _ (by simp) (fm_set encE_len L k hk 2 (.int .i64 z) (L[k].1, (L[k].2.1, z)) (by omega) rfl)
section
variable (H : Int) (a : Option Addr) (n c : Nat) (x m : Int) (w : World)
set_option maxHeartbeats 2000000 in
theorem chq_bad (i mk : Int) (on : Bool) (b : BadT w H (.slice a n c) x m) : Calls Try.prog 58 #[treeI H (.slice a n c) x m, .int .i64 i, .int .i64 mk, .bool on] w (NoV zTree 1 w) := by
  have HB := Lib.hid b
  clear b
  go_enter Try.func58, Try.ntmps58
  have T := (Own.new w 28 #[.int .i64 H, .slice a n c, .int .i64 x, .int .i64 m]).alloc (.cells #[.int .i64 0, .slice none 0 0, .int .i64 0, .int .i64 0] 28)
  have R := Own.new2 w (.cells #[.int .i64 H, .slice a n c, .int .i64 x, .int .i64 m] 28) 28 #[.int .i64 0, .slice none 0 0, .int .i64 0, .int .i64 0]
  have G := ((Grew.refl w).alloc (.cells #[.int .i64 H, .slice a n c, .int .i64 x, .int .i64 m] 28)).alloc (.cells #[.int .i64 0, .slice none 0 0, .int .i64 0, .int .i64 0] 28)
  go_wp2_with fail
  with_reducible refine (validq_bad H _ _ _ _ (HB.out.grew G)).mono ?_
  rintro e w1 ⟨rfl, g1⟩
  replace T := T.grew g1
  replace R := R.grew g1
  replace G := G.trans g1
  clear g1
  have hlR := R.lt
  obtain ⟨R0, R1, R2, R3, R4, R5, R6, R7⟩ := R.four
  go_wp2_with fail
  generalize hw3 : World.setCell (World.setCell (World.setCell (World.setCell _ _ _) _ _) _ _) _ _ = w3
  have OE := own4 hw3 R
  have GE := grew4 hw3 G (by omega)
  clear hw3 R0 R1 R2 R3 R4 R5 R6 R7
  obtain ⟨b0, b1, b2, b3, -⟩ := OE.four
  exact bodyPost_ret (v := .tuple #[zTree, .int .i64 1]) (by simp [results, Try.results58, go_sem, b0, b1, b2, b3]) rfl ⟨rfl, GE⟩
set_option maxHeartbeats 4000000 in
theorem chq_rng (h : Nat) (f : Fen) (i mk : Int) (on : Bool) (nn : TreeF w AllP h f (.slice a n c) x m) (hi : rangeI i = false) : Calls Try.prog 58 #[treeI h (.slice a n c) x m, .int .i64 i, .int .i64 mk, .bool on] w (NoV zTree 2 w) := by
  have HN := Lib.hid nn
  have hh := nn.le
  have hi2 := of_decide_eq_false hi
  clear nn hi
  by_cases h0 : i < 0
  · clear hi2
    go_enter Try.func58, Try.ntmps58
    have T := (Own.new w 28 #[.int .i64 h, .slice a n c, .int .i64 x, .int .i64 m]).alloc (.cells #[.int .i64 0, .slice none 0 0, .int .i64 0, .int .i64 0] 28)
    have R := Own.new2 w (.cells #[.int .i64 h, .slice a n c, .int .i64 x, .int .i64 m] 28) 28 #[.int .i64 0, .slice none 0 0, .int .i64 0, .int .i64 0]
    have G := ((Grew.refl w).alloc (.cells #[.int .i64 h, .slice a n c, .int .i64 x, .int .i64 m] 28)).alloc (.cells #[.int .i64 0, .slice none 0 0, .int .i64 0, .int .i64 0] 28)
    go_wp2_with fail
    with_reducible refine (validq_node h f _ _ _ _ hh (HN.out.node.grew G) HN.out.good).mono ?_
    rintro e w1 ⟨rfl, g1⟩
    rw [HN.out.valid]
    replace T := T.grew g1
    replace R := R.grew g1
    replace G := G.trans g1
    clear g1
    have hlR := R.lt
    obtain ⟨R0, R1, R2, R3, R4, R5, R6, R7⟩ := R.four
    go_wp2_with fail
    generalize hw3 : World.setCell (World.setCell (World.setCell (World.setCell _ _ _) _ _) _ _) _ _ = w3
    have OE := own4 hw3 R
    have GE := grew4 hw3 G (by omega)
    clear hw3 R0 R1 R2 R3 R4 R5 R6 R7
    obtain ⟨b0, b1, b2, b3, -⟩ := OE.four
    exact bodyPost_ret (v := .tuple #[zTree, .int .i64 2]) (by simp [results, Try.results58, go_sem, b0, b1, b2, b3]) rfl ⟨rfl, GE⟩
  · have h1 : 255 < i := by omega
    clear hi2
    go_enter Try.func58, Try.ntmps58
    have T := (Own.new w 28 #[.int .i64 h, .slice a n c, .int .i64 x, .int .i64 m]).alloc (.cells #[.int .i64 0, .slice none 0 0, .int .i64 0, .int .i64 0] 28)
    have R := Own.new2 w (.cells #[.int .i64 h, .slice a n c, .int .i64 x, .int .i64 m] 28) 28 #[.int .i64 0, .slice none 0 0, .int .i64 0, .int .i64 0]
    have G := ((Grew.refl w).alloc (.cells #[.int .i64 h, .slice a n c, .int .i64 x, .int .i64 m] 28)).alloc (.cells #[.int .i64 0, .slice none 0 0, .int .i64 0, .int .i64 0] 28)
    go_wp2_with fail
    with_reducible refine (validq_node h f _ _ _ _ hh (HN.out.node.grew G) HN.out.good).mono ?_
    rintro e w1 ⟨rfl, g1⟩
    rw [HN.out.valid]
    replace T := T.grew g1
    replace R := R.grew g1
    replace G := G.trans g1
    clear g1
    have hlR := R.lt
    obtain ⟨R0, R1, R2, R3, R4, R5, R6, R7⟩ := R.four
    go_wp2_with fail
    generalize hw3 : World.setCell (World.setCell (World.setCell (World.setCell _ _ _) _ _) _ _) _ _ = w3
    have OE := own4 hw3 R
    have GE := grew4 hw3 G (by omega)
    clear hw3 R0 R1 R2 R3 R4 R5 R6 R7
    obtain ⟨b0, b1, b2, b3, -⟩ := OE.four
    exact bodyPost_ret (v := .tuple #[zTree, .int .i64 2]) (by simp [results, Try.results58, go_sem, b0, b1, b2, b3]) rfl ⟨rfl, GE⟩
set_option maxHeartbeats 2000000 in
theorem chq_nm (h : Nat) (f : Fen) (i : Nat) (mk : Int) (on : Bool) (nn : TreeF w AllP h f (.slice a n c) x m) (hi : i < 256) (hm : markB mk = false) : Calls Try.prog 58 #[treeI h (.slice a n c) x m, .int .i64 i, .int .i64 mk, .bool on] w (NoV zTree 1 w) := by
  have HN := Lib.hid nn
  have hh := nn.le
  have hi0 : (0 : Int) ≤ (i : Int) := by omega
  have hi1 : (i : Int) ≤ 255 := by omega
  clear nn hi
  go_enter Try.func58, Try.ntmps58
  have T := (Own.new w 28 #[.int .i64 h, .slice a n c, .int .i64 x, .int .i64 m]).alloc (.cells #[.int .i64 0, .slice none 0 0, .int .i64 0, .int .i64 0] 28)
  have R := Own.new2 w (.cells #[.int .i64 h, .slice a n c, .int .i64 x, .int .i64 m] 28) 28 #[.int .i64 0, .slice none 0 0, .int .i64 0, .int .i64 0]
  have G := ((Grew.refl w).alloc (.cells #[.int .i64 h, .slice a n c, .int .i64 x, .int .i64 m] 28)).alloc (.cells #[.int .i64 0, .slice none 0 0, .int .i64 0, .int .i64 0] 28)
  go_wp2_with fail
  with_reducible refine (validq_node h f _ _ _ _ hh (HN.out.node.grew G) HN.out.good).mono ?_
  rintro e w1 ⟨rfl, g1⟩
  rw [HN.out.valid]
  replace T := T.grew g1
  replace R := R.grew g1
  replace G := G.trans g1
  clear g1
  go_wp2_with fail
  with_reducible refine (one_q mk _).mono ?_
  rintro e w2 ⟨rfl, rfl⟩
  rw [hm]
  have hlR := R.lt
  obtain ⟨R0, R1, R2, R3, R4, R5, R6, R7⟩ := R.four
  go_wp2_with fail
  generalize hw3 : World.setCell (World.setCell (World.setCell (World.setCell _ _ _) _ _) _ _) _ _ = w3
  have OE := own4 hw3 R
  have GE := grew4 hw3 G (by omega)
  clear hw3 R0 R1 R2 R3 R4 R5 R6 R7
  obtain ⟨b0, b1, b2, b3, -⟩ := OE.four
  exact bodyPost_ret (v := .tuple #[zTree, .int .i64 1]) (by simp [results, Try.results58, go_sem, b0, b1, b2, b3]) rfl ⟨rfl, GE⟩
set_option maxHeartbeats 4000000 in
theorem chq_no (h : Nat) (f : Fen) (i : Nat) (mk : Int) (on : Bool) (nn : TreeF w AllP h f (.slice a n c) x m) (hi : i < 256) (hm : markB mk = true) (hv : (f i).1 ≤ 0) : Calls Try.prog 58 #[treeI h (.slice a n c) x m, .int .i64 i, .int .i64 mk, .bool on] w (NoV zTree 4 w) := by
  have HN := Lib.hid nn
  have hh := nn.le
  have hi0 : (0 : Int) ≤ (i : Int) := by omega
  have hi1 : (i : Int) ≤ 255 := by omega
  have HV := Lib.hid hv
  clear nn hi hv
  go_enter Try.func58, Try.ntmps58
  have T := (Own.new w 28 #[.int .i64 h, .slice a n c, .int .i64 x, .int .i64 m]).alloc (.cells #[.int .i64 0, .slice none 0 0, .int .i64 0, .int .i64 0] 28)
  have R := Own.new2 w (.cells #[.int .i64 h, .slice a n c, .int .i64 x, .int .i64 m] 28) 28 #[.int .i64 0, .slice none 0 0, .int .i64 0, .int .i64 0]
  have G := ((Grew.refl w).alloc (.cells #[.int .i64 h, .slice a n c, .int .i64 x, .int .i64 m] 28)).alloc (.cells #[.int .i64 0, .slice none 0 0, .int .i64 0, .int .i64 0] 28)
  go_wp2_with fail
  with_reducible refine (validq_node h f _ _ _ _ hh (HN.out.node.grew G) HN.out.good).mono ?_
  rintro e w1 ⟨rfl, g1⟩
  rw [HN.out.valid]
  replace T := T.grew g1
  replace R := R.grew g1
  replace G := G.trans g1
  clear g1
  go_wp2_with fail
  with_reducible refine (one_q mk _).mono ?_
  rintro e w2 ⟨rfl, rfl⟩
  rw [hm]
  obtain ⟨T0, T1, T2, T3, -⟩ := T.four
  go_wp2_with fail
  have hR1 := R.lt
  with_reducible refine (entriesq_f h f _ _ _ _ (HN.out.grew G)).mono ?_
  rintro e w2 ⟨ve, rfl, RE, g2⟩
  replace R := R.grew g2
  replace G := G.trans g2
  clear g2 T T0 T1 T2 T3
  have hLl := Nat.le_trans (entR_len h f 0) (p4_256' hh)
  obtain ⟨ae, ce, rfl⟩ := RE.len
  have HRE := Lib.hid RE
  have hL10 := Lib.hid (show (entR h f 0).length ≤ 1000 by omega)
  go_wp2_with fail
  with_reducible refine (find_q _ (entR h f 0) (i : Int) _ RE hL10.out).mono ?_
  rintro e w3 ⟨p, rfl, hp, rfl⟩
  clear RE
  rcases hp with ⟨k, hk, rfl, hik⟩ | ⟨rfl, -⟩
  · obtain ⟨j, hj, e1, e2⟩ := ents_at hk
    have hij : i = j := by rw [e1] at hik; have : (j : Int) = (i : Int) := hik; omega
    subst hij
    have hy : (f i).1 < 0 := by have := HV.out; omega
    obtain ⟨ae2, ne, ce2, eq, hne, hce⟩ := RowE.ents HRE.out
    injection eq with q1 q2 q3
    subst q1 q3
    obtain ⟨g, rfl, hg, -, c0, c1, c2⟩ := hce k (by omega)
    have e1' : (entR h f 0).getD k (0, (0, 0)) = ((i : Int), f i) := e1
    rw [e1'] at c1
    obtain ⟨y, hyy⟩ : ∃ y, (f i).1 = y := ⟨_, rfl⟩
    have c1' : w2.cell? ⟨g, k * 3 + 1, none⟩ = some (.int .i64 y) := by rw [← hyy]; exact c1
    rw [hyy] at hy
    have hk0 : (0 : Int) ≤ (k : Int) := by omega
    have hk1 : (k : Int) < ((entR h f 0).length : Int) := by omega
    clear hik e1 e2 e1' hyy c0 c1 c2 hce hne q2
    have hlR := R.lt
    obtain ⟨R0, R1, R2, R3, R4, R5, R6, R7⟩ := R.four
    go_wp2_with fail
    generalize hw3 : World.setCell (World.setCell (World.setCell (World.setCell _ _ _) _ _) _ _) _ _ = w3
    have OE := own4 hw3 R
    have GE := grew4 hw3 G (by omega)
    clear hw3 R0 R1 R2 R3 R4 R5 R6 R7
    obtain ⟨b0, b1, b2, b3, -⟩ := OE.four
    exact bodyPost_ret (v := .tuple #[zTree, .int .i64 4]) (by simp [results, Try.results58, go_sem, b0, b1, b2, b3]) rfl ⟨rfl, GE⟩
  · skip
    have hlR := R.lt
    obtain ⟨R0, R1, R2, R3, R4, R5, R6, R7⟩ := R.four
    go_wp2_with fail
    generalize hw3 : World.setCell (World.setCell (World.setCell (World.setCell _ _ _) _ _) _ _) _ _ = w3
    have OE := own4 hw3 R
    have GE := grew4 hw3 G (by omega)
    clear hw3 R0 R1 R2 R3 R4 R5 R6 R7
    obtain ⟨b0, b1, b2, b3, -⟩ := OE.four
    exact bodyPost_ret (v := .tuple #[zTree, .int .i64 4]) (by simp [results, Try.results58, go_sem, b0, b1, b2, b3]) rfl ⟨rfl, GE⟩
set_option maxHeartbeats 4000000 in
theorem chq_true (h : Nat) (f : Fen) (i : Nat) (mk : Int) (nn : TreeF w AllP h f (.slice a n c) x m) (hi : i < 256) (hm : markB mk = true) (hv : 0 < (f i).1) : Calls Try.prog 58 #[treeI h (.slice a n c) x m, .int .i64 i, .int .i64 mk, .bool true] w (RetOp (updG f i ((f i).1, orI (f i).2 mk), 0) w) := by
  have HN := Lib.hid nn
  have hh := nn.le
  have hi0 : (0 : Int) ≤ (i : Int) := by omega
  have hi1 : (i : Int) ≤ 255 := by omega
  have HV := Lib.hid hv
  have HI := Lib.hid hi
  have HLF := Lib.hid (mark_lef (i := i) nn.good hm hv)
  clear nn hi hv
  go_enter Try.func58, Try.ntmps58
  have T := (Own.new w 28 #[.int .i64 h, .slice a n c, .int .i64 x, .int .i64 m]).alloc (.cells #[.int .i64 0, .slice none 0 0, .int .i64 0, .int .i64 0] 28)
  have R := Own.new2 w (.cells #[.int .i64 h, .slice a n c, .int .i64 x, .int .i64 m] 28) 28 #[.int .i64 0, .slice none 0 0, .int .i64 0, .int .i64 0]
  have G := ((Grew.refl w).alloc (.cells #[.int .i64 h, .slice a n c, .int .i64 x, .int .i64 m] 28)).alloc (.cells #[.int .i64 0, .slice none 0 0, .int .i64 0, .int .i64 0] 28)
  go_wp2_with fail
  with_reducible refine (validq_node h f _ _ _ _ hh (HN.out.node.grew G) HN.out.good).mono ?_
  rintro e w1 ⟨rfl, g1⟩
  rw [HN.out.valid]
  replace T := T.grew g1
  replace R := R.grew g1
  replace G := G.trans g1
  clear g1
  go_wp2_with fail
  with_reducible refine (one_q mk _).mono ?_
  rintro e w2 ⟨rfl, rfl⟩
  rw [hm]
  obtain ⟨T0, T1, T2, T3, -⟩ := T.four
  go_wp2_with fail
  have hR1 := R.lt
  with_reducible refine (entriesq_f h f _ _ _ _ (HN.out.grew G)).mono ?_
  rintro e w2 ⟨ve, rfl, RE, g2⟩
  replace R := R.grew g2
  replace G := G.trans g2
  clear g2 T T0 T1 T2 T3
  have hLl := Nat.le_trans (entR_len h f 0) (p4_256' hh)
  obtain ⟨ae, ce, rfl⟩ := RE.len
  have HRE := Lib.hid RE
  have hL10 := Lib.hid (show (entR h f 0).length ≤ 1000 by omega)
  go_wp2_with fail
  with_reducible refine (find_q _ (entR h f 0) (i : Int) _ RE hL10.out).mono ?_
  rintro e w3 ⟨p, rfl, hp, rfl⟩
  clear RE
  obtain ⟨k, hk, rfl, hik⟩ : ∃ k : Nat, k < (entR h f 0).length ∧ p = k ∧ ((entR h f 0).getD k eZ).1 = (i : Int) := by
    rcases hp with hp | ⟨-, hno⟩
    · exact hp
    · exfalso
      have h0 : (f i).1 ≠ 0 := by have := HV.out; omega
      have hpi : i < p4 h := Classical.byContradiction fun e => h0 (by rw [HN.out.out i (by omega)])
      obtain ⟨k, hk, e⟩ := ents_pos h0 hpi
      exact hno k hk (by rw [e])
  clear hp
  obtain ⟨j, hj, e1, e2⟩ := ents_at hk
  have hij : i = j := by rw [e1] at hik; have : (j : Int) = (i : Int) := hik; omega
  subst hij
  have HPF := Lib.hid (put_fn (l := ((f i).1, orI (f i).2 mk)) HN.out.good HN.out.out hk hik)
  have HPO := Lib.hid (put_ok (k := k) (entOK_R hh HN.out.good) HI.out HLF.out (by have := HV.out; show (f i).1 ≠ 0; omega))
  have HE1 := Lib.hid e1
  have HK := Lib.hid hk
  have hy : 0 < (f i).1 := HV.out
  obtain ⟨ae2, ne, ce2, eq, hne, hce⟩ := RowE.ents HRE.out
  injection eq with q1 q2 q3
  subst q1 q3
  obtain ⟨g, rfl, hg, -, -, c1, c2⟩ := hce k (by omega)
  have hgB := HRE.out.above g rfl
  have hfz : ∀ j, w2.frozen? ⟨g, j, none⟩ = false := by
    rcases RowE.shape encE_len HRE.out with ⟨e3, -⟩ | ⟨g3, cap3, e3, -, -, -, -, -, hfz⟩
    · cases e3
    · injection e3 with e3
      injection e3 with e3
      injection e3 with e3
      subst e3
      exact hfz
  have e1' : (entR h f 0).getD k (0, (0, 0)) = ((i : Int), f i) := e1
  rw [e1'] at c1 c2
  have c1' : w2.cell? ⟨g, k * 3 + 1, none⟩ = some (.int .i64 (f i).1) := c1
  have c2' : w2.cell? ⟨g, k * 3 + 2, none⟩ = some (.int .i64 (f i).2) := c2
  have f2 := hfz (k * 3 + 2)
  obtain ⟨y, hyy⟩ : ∃ y, (f i).1 = y := ⟨_, rfl⟩
  obtain ⟨z, hzz⟩ : ∃ z, (f i).2 = z := ⟨_, rfl⟩
  rw [hyy] at c1' hy
  rw [hzz] at c2'
  have HYY := Lib.hid hyy
  have HZZ := Lib.hid hzz
  have hk0 : (0 : Int) ≤ (k : Int) := by omega
  have hk1 : (k : Int) < ((entR h f 0).length : Int) := by omega
  have hlR := R.lt
  have hgR : w.heap.size + 1 < g := by omega
  have HR := Lib.hid R
  have HG := Lib.hid G
  have HGB := Lib.hid hgB
  clear hik e1 e2 e1' hyy hzz c1 c2 hce hne q2 hfz hk R G hgB
  have PR := put_row HRE.out HK.out (bits .or .i64 z mk)
  rw [HE1.out] at PR
  have PR2 : RowE 51 3 encE (w2.setCell ⟨g, k * 3 + 2, none⟩ (.int .i64 (bits .or .i64 z mk))) w1.heap.size (.slice (some ⟨g, 0, none⟩) (entR h f 0).length ce) ((entR h f 0).set k ((i : Int), ((f i).1, orI (f i).2 mk))) := by
    rw [HZZ.out]
    exact PR
  have HPR := Lib.hid PR2
  have HR4 := Lib.hid (HR.out.far (p := ⟨g, k * 3 + 2, none⟩) (by simp; omega) (.int .i64 (bits .or .i64 z mk)))
  have HG4 := Lib.hid (HG.out.set (p := ⟨g, k * 3 + 2, none⟩) (by simp; omega) (.int .i64 (bits .or .i64 z mk)))
  have hl3 : ((entR h f 0).set k ((i : Int), ((f i).1, orI (f i).2 mk))).length ≤ 300 := by
    rw [List.length_set]
    exact Nat.le_trans (Nat.le_trans (entR_len h f 0) (p4_256' hh)) (by decide)
  have HL3 := Lib.hid hl3
  clear PR PR2 hl3
  go_wp2_with fail
  with_reducible refine (made_f w1.heap.size _ ((entR h f 0).set k ((i : Int), ((f i).1, orI (f i).2 mk))) _ HL3.out HPO.out HPR.out).mono ?_
  rintro e w5 ⟨s5, x5, m5, rfl, n5, g5⟩
  obtain ⟨a5, j5, c5, rfl⟩ := n5.slice
  have HN5 := Lib.hid (made_tree HPO.out n5)
  have hs5 := g5.size
  have R5 := HR4.out.grew g5
  have G5 := HG4.out.trans g5
  have lr5 := R5.lt
  have lr4 := HR4.out.lt
  clear n5 g5
  obtain ⟨R0, R1, R2, R3, R4, R5a, R6, R7⟩ := R5.four
  go_wp2_with fail
  generalize hw3 : World.setCell (World.setCell (World.setCell (World.setCell _ _ _) _ _) _ _) _ _ = w3
  have OE := own4 hw3 R5
  have GE := grew4 hw3 G5 (by omega)
  have nE := node4 hw3 HN5.out.node (fun b hb => by omega)
  clear hw3 R0 R1 R2 R3 R4 R5a R6 R7
  obtain ⟨b0, b1, b2, b3, -⟩ := OE.four
  refine bodyPost_ret (v := .tuple #[treeI (hF (topOf ((entR h f 0).set k ((i : Int), ((f i).1, orI (f i).2 mk)))) : Nat) (.slice a5 j5 c5) x5 m5, .int .i64 0]) (by simp [results, Try.results58, go_sem, b0, b1, b2, b3]) rfl ⟨_, _, _, _, rfl, ?_, GE⟩
  rw [← HPF.out]
  exact ⟨HN5.out.le, nE.mono (fun b hb _ => Nat.le_trans HG4.out.size hb), HN5.out.2.2⟩
set_option maxHeartbeats 4000000 in
theorem chq_false (h : Nat) (f : Fen) (i : Nat) (mk : Int) (nn : TreeF w AllP h f (.slice a n c) x m) (hi : i < 256) (hm : markB mk = true) (hv : 0 < (f i).1) : Calls Try.prog 58 #[treeI h (.slice a n c) x m, .int .i64 i, .int .i64 mk, .bool false] w (RetOp (updG f i ((f i).1, anI (f i).2 mk), 0) w) := by
  have HN := Lib.hid nn
  have hh := nn.le
  have hi0 : (0 : Int) ≤ (i : Int) := by omega
  have hi1 : (i : Int) ≤ 255 := by omega
  have HV := Lib.hid hv
  have HI := Lib.hid hi
  have HLF := Lib.hid (unmark_lef (i := i) nn.good hm hv)
  clear nn hi hv
  go_enter Try.func58, Try.ntmps58
  have T := (Own.new w 28 #[.int .i64 h, .slice a n c, .int .i64 x, .int .i64 m]).alloc (.cells #[.int .i64 0, .slice none 0 0, .int .i64 0, .int .i64 0] 28)
  have R := Own.new2 w (.cells #[.int .i64 h, .slice a n c, .int .i64 x, .int .i64 m] 28) 28 #[.int .i64 0, .slice none 0 0, .int .i64 0, .int .i64 0]
  have G := ((Grew.refl w).alloc (.cells #[.int .i64 h, .slice a n c, .int .i64 x, .int .i64 m] 28)).alloc (.cells #[.int .i64 0, .slice none 0 0, .int .i64 0, .int .i64 0] 28)
  go_wp2_with fail
  with_reducible refine (validq_node h f _ _ _ _ hh (HN.out.node.grew G) HN.out.good).mono ?_
  rintro e w1 ⟨rfl, g1⟩
  rw [HN.out.valid]
  replace T := T.grew g1
  replace R := R.grew g1
  replace G := G.trans g1
  clear g1
  go_wp2_with fail
  with_reducible refine (one_q mk _).mono ?_
  rintro e w2 ⟨rfl, rfl⟩
  rw [hm]
  obtain ⟨T0, T1, T2, T3, -⟩ := T.four
  go_wp2_with fail
  have hR1 := R.lt
  with_reducible refine (entriesq_f h f _ _ _ _ (HN.out.grew G)).mono ?_
  rintro e w2 ⟨ve, rfl, RE, g2⟩
  replace R := R.grew g2
  replace G := G.trans g2
  clear g2 T T0 T1 T2 T3
  have hLl := Nat.le_trans (entR_len h f 0) (p4_256' hh)
  obtain ⟨ae, ce, rfl⟩ := RE.len
  have HRE := Lib.hid RE
  have hL10 := Lib.hid (show (entR h f 0).length ≤ 1000 by omega)
  go_wp2_with fail
  with_reducible refine (find_q _ (entR h f 0) (i : Int) _ RE hL10.out).mono ?_
  rintro e w3 ⟨p, rfl, hp, rfl⟩
  clear RE
  obtain ⟨k, hk, rfl, hik⟩ : ∃ k : Nat, k < (entR h f 0).length ∧ p = k ∧ ((entR h f 0).getD k eZ).1 = (i : Int) := by
    rcases hp with hp | ⟨-, hno⟩
    · exact hp
    · exfalso
      have h0 : (f i).1 ≠ 0 := by have := HV.out; omega
      have hpi : i < p4 h := Classical.byContradiction fun e => h0 (by rw [HN.out.out i (by omega)])
      obtain ⟨k, hk, e⟩ := ents_pos h0 hpi
      exact hno k hk (by rw [e])
  clear hp
  obtain ⟨j, hj, e1, e2⟩ := ents_at hk
  have hij : i = j := by rw [e1] at hik; have : (j : Int) = (i : Int) := hik; omega
  subst hij
  have HPF := Lib.hid (put_fn (l := ((f i).1, anI (f i).2 mk)) HN.out.good HN.out.out hk hik)
  have HPO := Lib.hid (put_ok (k := k) (entOK_R hh HN.out.good) HI.out HLF.out (by have := HV.out; show (f i).1 ≠ 0; omega))
  have HE1 := Lib.hid e1
  have HK := Lib.hid hk
  have hy : 0 < (f i).1 := HV.out
  obtain ⟨ae2, ne, ce2, eq, hne, hce⟩ := RowE.ents HRE.out
  injection eq with q1 q2 q3
  subst q1 q3
  obtain ⟨g, rfl, hg, -, -, c1, c2⟩ := hce k (by omega)
  have hgB := HRE.out.above g rfl
  have hfz : ∀ j, w2.frozen? ⟨g, j, none⟩ = false := by
    rcases RowE.shape encE_len HRE.out with ⟨e3, -⟩ | ⟨g3, cap3, e3, -, -, -, -, -, hfz⟩
    · cases e3
    · injection e3 with e3
      injection e3 with e3
      injection e3 with e3
      subst e3
      exact hfz
  have e1' : (entR h f 0).getD k (0, (0, 0)) = ((i : Int), f i) := e1
  rw [e1'] at c1 c2
  have c1' : w2.cell? ⟨g, k * 3 + 1, none⟩ = some (.int .i64 (f i).1) := c1
  have c2' : w2.cell? ⟨g, k * 3 + 2, none⟩ = some (.int .i64 (f i).2) := c2
  have f2 := hfz (k * 3 + 2)
  obtain ⟨y, hyy⟩ : ∃ y, (f i).1 = y := ⟨_, rfl⟩
  obtain ⟨z, hzz⟩ : ∃ z, (f i).2 = z := ⟨_, rfl⟩
  rw [hyy] at c1' hy
  rw [hzz] at c2'
  have HYY := Lib.hid hyy
  have HZZ := Lib.hid hzz
  have hk0 : (0 : Int) ≤ (k : Int) := by omega
  have hk1 : (k : Int) < ((entR h f 0).length : Int) := by omega
  have hlR := R.lt
  have hgR : w.heap.size + 1 < g := by omega
  have HR := Lib.hid R
  have HG := Lib.hid G
  have HGB := Lib.hid hgB
  clear hik e1 e2 e1' hyy hzz c1 c2 hce hne q2 hfz hk R G hgB
  have PR := put_row HRE.out HK.out (bits .andNot .i64 z mk)
  rw [HE1.out] at PR
  have PR2 : RowE 51 3 encE (w2.setCell ⟨g, k * 3 + 2, none⟩ (.int .i64 (bits .andNot .i64 z mk))) w1.heap.size (.slice (some ⟨g, 0, none⟩) (entR h f 0).length ce) ((entR h f 0).set k ((i : Int), ((f i).1, anI (f i).2 mk))) := by
    rw [HZZ.out]
    exact PR
  have HPR := Lib.hid PR2
  have HR4 := Lib.hid (HR.out.far (p := ⟨g, k * 3 + 2, none⟩) (by simp; omega) (.int .i64 (bits .andNot .i64 z mk)))
  have HG4 := Lib.hid (HG.out.set (p := ⟨g, k * 3 + 2, none⟩) (by simp; omega) (.int .i64 (bits .andNot .i64 z mk)))
  have hl3 : ((entR h f 0).set k ((i : Int), ((f i).1, anI (f i).2 mk))).length ≤ 300 := by
    rw [List.length_set]
    exact Nat.le_trans (Nat.le_trans (entR_len h f 0) (p4_256' hh)) (by decide)
  have HL3 := Lib.hid hl3
  clear PR PR2 hl3
  go_wp2_with fail
  with_reducible refine (made_f w1.heap.size _ ((entR h f 0).set k ((i : Int), ((f i).1, anI (f i).2 mk))) _ HL3.out HPO.out HPR.out).mono ?_
  rintro e w5 ⟨s5, x5, m5, rfl, n5, g5⟩
  obtain ⟨a5, j5, c5, rfl⟩ := n5.slice
  have HN5 := Lib.hid (made_tree HPO.out n5)
  have hs5 := g5.size
  have R5 := HR4.out.grew g5
  have G5 := HG4.out.trans g5
  have lr5 := R5.lt
  have lr4 := HR4.out.lt
  clear n5 g5
  obtain ⟨R0, R1, R2, R3, R4, R5a, R6, R7⟩ := R5.four
  go_wp2_with fail
  generalize hw3 : World.setCell (World.setCell (World.setCell (World.setCell _ _ _) _ _) _ _) _ _ = w3
  have OE := own4 hw3 R5
  have GE := grew4 hw3 G5 (by omega)
  have nE := node4 hw3 HN5.out.node (fun b hb => by omega)
  clear hw3 R0 R1 R2 R3 R4 R5a R6 R7
  obtain ⟨b0, b1, b2, b3, -⟩ := OE.four
  refine bodyPost_ret (v := .tuple #[treeI (hF (topOf ((entR h f 0).set k ((i : Int), ((f i).1, anI (f i).2 mk)))) : Nat) (.slice a5 j5 c5) x5 m5, .int .i64 0]) (by simp [results, Try.results58, go_sem, b0, b1, b2, b3]) rfl ⟨_, _, _, _, rfl, ?_, GE⟩
  rw [← HPF.out]
  exact ⟨HN5.out.le, nE.mono (fun b hb _ => Nat.le_trans HG4.out.size hb), HN5.out.2.2⟩
end

theorem set_q (H : Int) (s : Value) (x m i v : Int) (o : Option Fen) (w : World) (t : TvO w H s x m o) (hv : (Lit.int .i64 v).wf = true) : Calls Try.prog 29 #[treeI H s x m, .int .i64 i, .int .i64 v] w (RetOp (setR o i v) w) := by
  obtain ⟨a, n, c, rfl⟩ := t.slice
  cases o with
  | none => exact (setq_bad H a n c x m w i v t).mono fun _ _ h => op_no h
  | some f =>
    obtain ⟨h, rfl, n⟩ := t
    cases hi : rangeI i
    · have e : setR (some f) i v = (fZ, 2) := by unfold setR; rw [hi]
      rw [e]
      exact (setq_rng a _ c x m w h f i v n hi).mono fun _ _ h => op_no h
    · have e : setR (some f) i v = (updG f i.toNat (v, 0), 0) := by unfold setR; rw [hi]
      obtain ⟨i0, i1⟩ := of_decide_eq_true hi
      obtain ⟨i, rfl⟩ := Int.eq_ofNat_of_zero_le i0
      rw [e, show ((i : Nat) : Int).toNat = i by omega]
      exact setq_ok h f a _ c x m v i w n (by omega) hv
theorem change_q (H : Int) (s : Value) (x m i mk : Int) (on : Bool) (o : Option Fen) (w : World) (t : TvO w H s x m o) : Calls Try.prog 58 #[treeI H s x m, .int .i64 i, .int .i64 mk, .bool on] w (RetOp (mrkR o i mk on) w) := by
  obtain ⟨a, n, c, rfl⟩ := t.slice
  cases o with
  | none => exact (chq_bad H a n c x m w i mk on t).mono fun _ _ h => op_no h
  | some f =>
    obtain ⟨h, rfl, nn⟩ := t
    cases hi : rangeI i
    · have e : mrkR (some f) i mk on = (fZ, 2) := by unfold mrkR; rw [hi]
      rw [e]
      exact (chq_rng a n c x m w h f i mk on nn hi).mono fun _ _ h => op_no h
    · obtain ⟨i0, i1⟩ := of_decide_eq_true hi
      obtain ⟨j, rfl⟩ := Int.eq_ofNat_of_zero_le i0
      have ej : ((j : Nat) : Int).toNat = j := by omega
      by_cases hm : markB mk = true
      · by_cases hv : (f j).1 ≤ 0
        · have e : mrkR (some f) (j : Int) mk on = (fZ, 4) := by unfold mrkR; simp only [hi, hm, ej, decide_eq_true hv]
          rw [e]
          exact (chq_no a n c x m w h f j mk on nn (by omega) hm hv).mono fun _ _ h => op_no h
        · have e : mrkR (some f) (j : Int) mk on = (updG f j ((f j).1, opI on (f j).2 mk), 0) := by unfold mrkR; simp only [hi, hm, ej, decide_eq_false hv]
          rw [e]
          cases on
          · exact chq_false a n c x m w h f j mk nn (by omega) hm (by omega)
          · exact chq_true a n c x m w h f j mk nn (by omega) hm (by omega)
      · have hm2 : markB mk = false := by simpa using hm
        have e : mrkR (some f) (j : Int) mk on = (fZ, 1) := by unfold mrkR; simp only [hi, hm2]
        rw [e]
        exact (chq_nm a n c x m w h f j mk on nn (by omega) hm2).mono fun _ _ h => op_no h
set_option maxHeartbeats 2000000 in
theorem mark_q (H : Int) (s : Value) (x m i mk : Int) (o : Option Fen) (w : World) (t : TvO w H s x m o) : Calls Try.prog 31 #[treeI H s x m, .int .i64 i, .int .i64 mk] w (RetOp (mrkR o i mk true) w) := by
  obtain ⟨a, n, c, rfl⟩ := t.slice
  have HT := Lib.hid t
  clear t
  go_enter Try.func31, Try.ntmps31
  have R := Own.new2 w (.cells #[.int .i64 H, .slice a n c, .int .i64 x, .int .i64 m] 28) 28 #[.int .i64 0, .slice none 0 0, .int .i64 0, .int .i64 0]
  have G := ((Grew.refl w).alloc (.cells #[.int .i64 H, .slice a n c, .int .i64 x, .int .i64 m] 28)).alloc (.cells #[.int .i64 0, .slice none 0 0, .int .i64 0, .int .i64 0] 28)
  have hlR0 := R.lt
  have hG0 := G.size
  go_wp2_with fail
  with_reducible refine (change_q H _ _ _ i mk true o _ (HT.out.grew G)).mono ?_
  rintro e w1 ⟨k, s5, x5, m5, rfl, n5, g1⟩
  obtain ⟨a5, j5, c5, rfl⟩ := n5.node.slice
  obtain ⟨er, her⟩ : ∃ er, (mrkR o i mk true).2 = er := ⟨_, rfl⟩
  have HE := Lib.hid her
  have HN5 := Lib.hid (n5.mono (q := fun b => w.heap.size + 1 < b) (fun b hb _ => Nat.lt_of_lt_of_le hlR0 hb))
  rw [her]
  replace R := R.grew g1
  replace G := G.trans g1
  clear g1 n5 her
  have hlR := R.lt
  obtain ⟨R0, R1, R2, R3, R4, R5, R6, R7⟩ := R.four
  go_wp2_with fail
  generalize hw3 : World.setCell (World.setCell (World.setCell (World.setCell _ _ _) _ _) _ _) _ _ = w3
  have OE := own4 hw3 R
  have GE := grew4 hw3 G (by omega)
  have nE := node4 hw3 HN5.out.node (fun b hb => by omega)
  clear hw3 R0 R1 R2 R3 R4 R5 R6 R7
  obtain ⟨b0, b1, b2, b3, -⟩ := OE.four
  refine bodyPost_ret (v := .tuple #[treeI k (.slice a5 j5 c5) x5 m5, .int .i64 er]) (by simp [results, Try.results31, go_sem, b0, b1, b2, b3]) rfl ⟨k, _, x5, m5, by rw [HE.out], ?_, GE⟩
  exact ⟨HN5.out.le, nE.mono (fun b hb _ => by omega), HN5.out.2.2⟩
set_option maxHeartbeats 2000000 in
theorem unmark_q (H : Int) (s : Value) (x m i mk : Int) (o : Option Fen) (w : World) (t : TvO w H s x m o) : Calls Try.prog 33 #[treeI H s x m, .int .i64 i, .int .i64 mk] w (RetOp (mrkR o i mk false) w) := by
  obtain ⟨a, n, c, rfl⟩ := t.slice
  have HT := Lib.hid t
  clear t
  go_enter Try.func33, Try.ntmps33
  have R := Own.new2 w (.cells #[.int .i64 H, .slice a n c, .int .i64 x, .int .i64 m] 28) 28 #[.int .i64 0, .slice none 0 0, .int .i64 0, .int .i64 0]
  have G := ((Grew.refl w).alloc (.cells #[.int .i64 H, .slice a n c, .int .i64 x, .int .i64 m] 28)).alloc (.cells #[.int .i64 0, .slice none 0 0, .int .i64 0, .int .i64 0] 28)
  have hlR0 := R.lt
  have hG0 := G.size
  go_wp2_with fail
  with_reducible refine (change_q H _ _ _ i mk false o _ (HT.out.grew G)).mono ?_
  rintro e w1 ⟨k, s5, x5, m5, rfl, n5, g1⟩
  obtain ⟨a5, j5, c5, rfl⟩ := n5.node.slice
  obtain ⟨er, her⟩ : ∃ er, (mrkR o i mk false).2 = er := ⟨_, rfl⟩
  have HE := Lib.hid her
  have HN5 := Lib.hid (n5.mono (q := fun b => w.heap.size + 1 < b) (fun b hb _ => Nat.lt_of_lt_of_le hlR0 hb))
  rw [her]
  replace R := R.grew g1
  replace G := G.trans g1
  clear g1 n5 her
  have hlR := R.lt
  obtain ⟨R0, R1, R2, R3, R4, R5, R6, R7⟩ := R.four
  go_wp2_with fail
  generalize hw3 : World.setCell (World.setCell (World.setCell (World.setCell _ _ _) _ _) _ _) _ _ = w3
  have OE := own4 hw3 R
  have GE := grew4 hw3 G (by omega)
  have nE := node4 hw3 HN5.out.node (fun b hb => by omega)
  clear hw3 R0 R1 R2 R3 R4 R5 R6 R7
  obtain ⟨b0, b1, b2, b3, -⟩ := OE.four
  refine bodyPost_ret (v := .tuple #[treeI k (.slice a5 j5 c5) x5 m5, .int .i64 er]) (by simp [results, Try.results33, go_sem, b0, b1, b2, b3]) rfl ⟨k, _, x5, m5, by rw [HE.out], ?_, GE⟩
  exact ⟨HN5.out.le, nE.mono (fun b hb _ => by omega), HN5.out.2.2⟩
/-- Two results of one operation are the same. -/
theorem same_ops {w : World} {p q : Nat → Prop} {k l : Nat} {F : Fen} {s s' : Value} {x m x' m' : Int} (n : TreeF w p k F s x m) (n' : TreeF w q l F s' x' m') :
    Calls Try.prog 34 #[treeI k s x m, treeI l s' x' m'] w (RetG (.bool true) w) := same_trees n n'
end Go.Proofs.Ytdlhihllmidfeaa

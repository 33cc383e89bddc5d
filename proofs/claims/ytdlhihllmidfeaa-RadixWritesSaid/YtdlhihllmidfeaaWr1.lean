/- Package radix where Set, Mark and Unmark refuse (layer 1); what they make of any tree. -/
import Derived.Test.YtdlhihllmidfeaaSp8
import Derived.Test.YtdlhihllmidfeaaRm6
import Derived.Test.YtdlhihllmidfeaaRm9
namespace Go.Proofs.Ytdlhihllmidfeaa
open Go.RowKit Go.Mine

theorem field1z (w : World) : True := trivial
def NoV (T : Value) (er : Int) (w : World) (e : Ending) (w' : World) : Prop := e = .returned (.tuple #[T, .int .i64 er]) ∧ Grew w w'
section
variable (H : Int) (a : Option Addr) (n c : Nat) (x m i er : Int) (w : World)
set_option maxHeartbeats 2000000 in
theorem set_no (v : Int) (hc : ChkNo w (treeI H (.slice a n c) x m) i er) (he : (er == 0) = false) : Calls Try.prog 28 #[treeI H (.slice a n c) x m, .int .i64 i, .int .i64 v] w (NoV zTree er w) := by
  have HC := Lib.hid hc
  have he2 : (er != 0) = true := by simp [bne, he]
  clear hc
  go_enter Try.func28, Try.ntmps28
  have R := Own.new2 w (.cells #[.int .i64 H, .slice a n c, .int .i64 x, .int .i64 m] 28) 28 #[.int .i64 0, .slice none 0 0, .int .i64 0, .int .i64 0]
  have G := ((Grew.refl w).alloc (.cells #[.int .i64 H, .slice a n c, .int .i64 x, .int .i64 m] 28)).alloc (.cells #[.int .i64 0, .slice none 0 0, .int .i64 0, .int .i64 0] 28)
  go_wp2_with fail
  with_reducible refine (ChkNo.run HC.out G).mono ?_
  rintro e w1 ⟨rfl, g1⟩
  replace R := R.grew g1
  replace G := G.trans g1
  clear g1
  have hlR := R.lt
  obtain ⟨R0, R1, R2, R3, R4, R5, R6, R7⟩ := R.four
  go_wp2_with fail
  generalize hw3 : World.setCell (World.setCell (World.setCell (World.setCell _ _ _) _ _) _ _) _ _ = w3
  have OE := (own4 hw3 R)
  have GE := (grew4 hw3 G (by omega))
  clear hw3 R0 R1 R2 R3 R4 R5 R6 R7
  obtain ⟨b0, b1, b2, b3, -⟩ := OE.four
  exact bodyPost_ret (v := .tuple #[zTree, .int .i64 er]) (by simp [results, Try.results28, go_sem, b0, b1, b2, b3]) rfl ⟨rfl, GE⟩
/-- What markable answers where it refuses. -/
def MkNo (w : World) (T : Value) (i mk er : Int) : Prop := ∀ w', Grew w w' → Calls Try.prog 57 #[T, .int .i64 i, .int .i64 mk] w' (NoV (nodeV (.slice none 0 0) 0 0) er w')
theorem MkNo.run {w w' : World} {T : Value} {i mk er : Int} (h : MkNo w T i mk er) (G : Grew w w') : Calls Try.prog 57 #[T, .int .i64 i, .int .i64 mk] w' (NoV (nodeV (.slice none 0 0) 0 0) er w') := h w' G
set_option maxHeartbeats 2000000 in
theorem mark_er (mk : Int) (hc : MkNo w (treeI H (.slice a n c) x m) i mk er) (he : (er == 0) = false) : Calls Try.prog 30 #[treeI H (.slice a n c) x m, .int .i64 i, .int .i64 mk] w (NoV zTree er w) := by
  have HC := Lib.hid hc
  have he2 : (er != 0) = true := by simp [bne, he]
  clear hc
  go_enter Try.func30, Try.ntmps30
  have R := Own.new2 w (.cells #[.int .i64 H, .slice a n c, .int .i64 x, .int .i64 m] 28) 28 #[.int .i64 0, .slice none 0 0, .int .i64 0, .int .i64 0]
  have G := ((Grew.refl w).alloc (.cells #[.int .i64 H, .slice a n c, .int .i64 x, .int .i64 m] 28)).alloc (.cells #[.int .i64 0, .slice none 0 0, .int .i64 0, .int .i64 0] 28)
  go_wp2_with fail
  with_reducible refine (MkNo.run HC.out G).mono ?_
  rintro e w1 ⟨rfl, g1⟩
  replace R := R.grew g1
  replace G := G.trans g1
  clear g1
  have hlR := R.lt
  obtain ⟨R0, R1, R2, R3, R4, R5, R6, R7⟩ := R.four
  go_wp2_with fail
  generalize hw3 : World.setCell (World.setCell (World.setCell (World.setCell _ _ _) _ _) _ _) _ _ = w3
  have OE := (own4 hw3 R).alloc (.cells #[.slice none 0 0, .int .i64 0, .int .i64 0] 26)
  have GE := (grew4 hw3 G (by omega)).alloc (.cells #[.slice none 0 0, .int .i64 0, .int .i64 0] 26)
  clear hw3 R0 R1 R2 R3 R4 R5 R6 R7
  obtain ⟨b0, b1, b2, b3, -⟩ := OE.four
  exact bodyPost_ret (v := .tuple #[zTree, .int .i64 er]) (by simp [results, Try.results30, go_sem, b0, b1, b2, b3]) rfl ⟨rfl, GE⟩
set_option maxHeartbeats 2000000 in
theorem unmark_er (mk : Int) (hc : MkNo w (treeI H (.slice a n c) x m) i mk er) (he : (er == 0) = false) : Calls Try.prog 32 #[treeI H (.slice a n c) x m, .int .i64 i, .int .i64 mk] w (NoV zTree er w) := by
  have HC := Lib.hid hc
  have he2 : (er != 0) = true := by simp [bne, he]
  clear hc
  go_enter Try.func32, Try.ntmps32
  have R := Own.new2 w (.cells #[.int .i64 H, .slice a n c, .int .i64 x, .int .i64 m] 28) 28 #[.int .i64 0, .slice none 0 0, .int .i64 0, .int .i64 0]
  have G := ((Grew.refl w).alloc (.cells #[.int .i64 H, .slice a n c, .int .i64 x, .int .i64 m] 28)).alloc (.cells #[.int .i64 0, .slice none 0 0, .int .i64 0, .int .i64 0] 28)
  go_wp2_with fail
  with_reducible refine (MkNo.run HC.out G).mono ?_
  rintro e w1 ⟨rfl, g1⟩
  replace R := R.grew g1
  replace G := G.trans g1
  clear g1
  have hlR := R.lt
  obtain ⟨R0, R1, R2, R3, R4, R5, R6, R7⟩ := R.four
  go_wp2_with fail
  generalize hw3 : World.setCell (World.setCell (World.setCell (World.setCell _ _ _) _ _) _ _) _ _ = w3
  have OE := (own4 hw3 R).alloc (.cells #[.slice none 0 0, .int .i64 0, .int .i64 0] 26)
  have GE := (grew4 hw3 G (by omega)).alloc (.cells #[.slice none 0 0, .int .i64 0, .int .i64 0] 26)
  clear hw3 R0 R1 R2 R3 R4 R5 R6 R7
  obtain ⟨b0, b1, b2, b3, -⟩ := OE.four
  exact bodyPost_ret (v := .tuple #[zTree, .int .i64 er]) (by simp [results, Try.results32, go_sem, b0, b1, b2, b3]) rfl ⟨rfl, GE⟩
set_option maxHeartbeats 2000000 in
theorem markable_chk (mk : Int) (hc : ChkNo w (treeI H (.slice a n c) x m) i er) (he : (er == 0) = false) : Calls Try.prog 57 #[treeI H (.slice a n c) x m, .int .i64 i, .int .i64 mk] w (NoV (nodeV (.slice none 0 0) 0 0) er w) := by
  have HC := Lib.hid hc
  have he2 : (er != 0) = true := by simp [bne, he]
  clear hc
  go_enter Try.func57, Try.ntmps57
  have R := Own.new2 w (.cells #[.int .i64 H, .slice a n c, .int .i64 x, .int .i64 m] 28) 26 #[.slice none 0 0, .int .i64 0, .int .i64 0]
  have G := ((Grew.refl w).alloc (.cells #[.int .i64 H, .slice a n c, .int .i64 x, .int .i64 m] 28)).alloc (.cells #[.slice none 0 0, .int .i64 0, .int .i64 0] 26)
  go_wp2_with fail
  with_reducible refine (ChkNo.run HC.out G).mono ?_
  rintro e w1 ⟨rfl, g1⟩
  replace R := R.grew g1
  replace G := G.trans g1
  clear g1
  have hlR := R.lt
  obtain ⟨R0, R1, R2, R3, R4, R5⟩ := R.three
  go_wp2_with fail
  generalize hw4 : World.setCell (World.setCell (World.setCell _ _ _) _ _) _ _ = w4
  have OE := R.store3 hw4
  have GE := G.far3 hw4 (by omega)
  clear hw4 R0 R1 R2 R3 R4 R5
  obtain ⟨b0, b1, b2, -⟩ := OE.three
  exact bodyPost_ret (v := .tuple #[nodeV (.slice none 0 0) 0 0, .int .i64 er]) (by simp [results, Try.results57, go_sem, b0, b1, b2]) rfl ⟨rfl, GE⟩
set_option maxHeartbeats 2000000 in
theorem markable_nm (mk : Int) (hc : ChkNo w (treeI H (.slice a n c) x m) i 0) (hm : markB mk = false) : Calls Try.prog 57 #[treeI H (.slice a n c) x m, .int .i64 i, .int .i64 mk] w (NoV (nodeV (.slice none 0 0) 0 0) 1 w) := by
  have HC := Lib.hid hc
  clear hc
  go_enter Try.func57, Try.ntmps57
  have R := Own.new2 w (.cells #[.int .i64 H, .slice a n c, .int .i64 x, .int .i64 m] 28) 26 #[.slice none 0 0, .int .i64 0, .int .i64 0]
  have G := ((Grew.refl w).alloc (.cells #[.int .i64 H, .slice a n c, .int .i64 x, .int .i64 m] 28)).alloc (.cells #[.slice none 0 0, .int .i64 0, .int .i64 0] 26)
  go_wp2_with fail
  with_reducible refine (ChkNo.run HC.out G).mono ?_
  rintro e w1 ⟨rfl, g1⟩
  replace R := R.grew g1
  replace G := G.trans g1
  clear g1
  have hlR := R.lt
  go_wp2_with fail
  with_reducible refine (isMark_any mk _).mono ?_
  rintro e w2 ⟨rfl, rfl⟩
  rw [hm]
  obtain ⟨R0, R1, R2, R3, R4, R5⟩ := R.three
  go_wp2_with fail
  generalize hw4 : World.setCell (World.setCell (World.setCell _ _ _) _ _) _ _ = w4
  have OE := R.store3 hw4
  have GE := G.far3 hw4 (by omega)
  clear hw4 R0 R1 R2 R3 R4 R5
  obtain ⟨b0, b1, b2, -⟩ := OE.three
  exact bodyPost_ret (v := .tuple #[nodeV (.slice none 0 0) 0 0, .int .i64 1]) (by simp [results, Try.results57, go_sem, b0, b1, b2]) rfl ⟨rfl, GE⟩
end

/-- A tree: valid with these entries, or not valid. -/
def TvO (w : World) (H : Int) (s : Value) (x m : Int) (o : Option Fen) : Prop := match o with | none => BadT w H s x m | some f => ∃ h : Nat, H = h ∧ TreeF w AllP h f s x m
theorem TvO.slice {w : World} {H : Int} {s : Value} {x m : Int} {o : Option Fen} (t : TvO w H s x m o) : ∃ a n c, s = .slice a n c := by
  cases o with
  | none => exact t.1
  | some f => obtain ⟨h, -, n⟩ := t; exact n.node.slice
theorem TvO.grew {w w' : World} {H : Int} {s : Value} {x m : Int} {o : Option Fen} (t : TvO w H s x m o) (G : Grew w w') : TvO w' H s x m o := by
  cases o with
  | none => exact BadT.grew t G
  | some f => obtain ⟨h, e, n⟩ := t; exact ⟨h, e, n.grew G⟩
/-- It returns a valid tree with these entries, and an error. -/
def RetOp (r : Fen × Int) (w : World) (e : Ending) (w' : World) : Prop := ∃ (k : Nat) (s : Value) (x m : Int), e = .returned (.tuple #[treeI k s x m, .int .i64 r.2]) ∧ TreeF w' (fun b => w.heap.size ≤ b) k r.1 s x m ∧ Grew w w'
theorem tree_zero (w : World) (p : Nat → Prop) : TreeF w p 0 fZ (.slice none 0 0) 0 0 := ⟨by omega, NodeF.empty 0 (emp_Z 0) _ _, good_Z, rfl, fun _ _ => rfl⟩
theorem op_no {er : Int} {w : World} {e : Ending} {w' : World} (h : NoV zTree er w e w') : RetOp (fZ, er) w e w' := ⟨0, _, 0, 0, h.1, tree_zero w' _, h.2⟩
theorem op_ok {F : Fen} {w : World} {e : Ending} {w' : World} (h : RetSet F w e w') : RetOp (F, 0) w e w' := by
  obtain ⟨k, s, x, m, e1, n, G⟩ := h
  exact ⟨k, s, x, m, e1, n, G⟩
def setR (o : Option Fen) (i v : Int) : Fen × Int := match o with
  | none => (fZ, 1)
  | some f => match rangeI i with | false => (fZ, 2) | true => (updG f i.toNat (v, 0), 0)
def opI (on : Bool) (a b : Int) : Int := match on with | true => orI a b | false => anI a b
def mrkR (o : Option Fen) (i mk : Int) (on : Bool) : Fen × Int := match o with
  | none => (fZ, 1)
  | some f => match rangeI i with
    | false => (fZ, 2)
    | true => match markB mk with
      | false => (fZ, 1)
      | true => match decide ((f i.toNat).1 ≤ 0) with | true => (fZ, 4) | false => (updG f i.toNat ((f i.toNat).1, opI on (f i.toNat).2 mk), 0)
theorem set_p (H : Int) (s : Value) (x m i v : Int) (o : Option Fen) (w : World) (t : TvO w H s x m o) (hv : (Lit.int .i64 v).wf = true) : Calls Try.prog 28 #[treeI H s x m, .int .i64 i, .int .i64 v] w (RetOp (setR o i v) w) := by
  obtain ⟨a, n, c, rfl⟩ := t.slice
  cases o with
  | none => exact (set_no H a n c x m i 1 w v (chkNo_bad t i) rfl).mono fun _ _ h => op_no h
  | some f =>
    obtain ⟨h, rfl, n⟩ := t
    cases hi : rangeI i
    · have e : setR (some f) i v = (fZ, 2) := by unfold setR; rw [hi]
      rw [e]
      exact (set_no h a _ c x m i 2 w v (chkNo_out n hi) rfl).mono fun _ _ h => op_no h
    · have e : setR (some f) i v = (updG f i.toNat (v, 0), 0) := by unfold setR; rw [hi]
      obtain ⟨i0, i1⟩ := of_decide_eq_true hi
      obtain ⟨i, rfl⟩ := Int.eq_ofNat_of_zero_le i0
      rw [e, show ((i : Nat) : Int).toNat = i by omega]
      exact (set_f h f _ x m v i AllP w n (by omega) hv).mono fun _ _ h => op_ok h
theorem mk_cases (H : Int) (a : Option Addr) (n c : Nat) (x m i mk : Int) (o : Option Fen) (w : World) (t : TvO w H (.slice a n c) x m o) (on : Bool) :
    (∃ er, (er == 0) = false ∧ mrkR o i mk on = (fZ, er) ∧ MkNo w (treeI H (.slice a n c) x m) i mk er) ∨
    ∃ (h : Nat) (f : Fen) (j : Nat), o = some f ∧ H = h ∧ i = j ∧ TreeF w AllP h f (.slice a n c) x m ∧ j < 256 ∧ markB mk = true ∧ 0 < (f j).1 ∧ mrkR o i mk on = (updG f j ((f j).1, opI on (f j).2 mk), 0) := by
  cases o with
  | none => exact .inl ⟨1, rfl, rfl, fun w' G => markable_chk H a n c x m i 1 w' mk (fun w2 G2 => chkNo_bad t i w2 (G.trans G2)) rfl⟩
  | some f =>
    obtain ⟨h, rfl, nn⟩ := t
    cases hi : rangeI i
    · exact .inl ⟨2, rfl, by unfold mrkR; rw [hi], fun w' G => markable_chk h a n c x m i 2 w' mk (fun w2 G2 => chkNo_out nn hi w2 (G.trans G2)) rfl⟩
    · obtain ⟨i0, i1⟩ := of_decide_eq_true hi
      obtain ⟨j, rfl⟩ := Int.eq_ofNat_of_zero_le i0
      have ej : ((j : Nat) : Int).toNat = j := by omega
      by_cases hm : markB mk = true
      · by_cases hv : (f j).1 ≤ 0
        · refine .inl ⟨4, rfl, by unfold mrkR; simp only [hi, hm, ej, decide_eq_true hv], fun w' G => ?_⟩
          exact markable_no h f (.slice a n c) x m mk j AllP w' (nn.grew G) (by omega) hm hv
        · exact .inr ⟨h, f, j, rfl, rfl, rfl, nn, by omega, hm, by omega, by unfold mrkR; simp only [hi, hm, ej, decide_eq_false hv]⟩
      · have hm2 : markB mk = false := by simpa using hm
        refine .inl ⟨1, rfl, by unfold mrkR; simp only [hi, hm2], fun w' G => markable_nm h a n c x m j w' mk (fun w2 G2 => ?_) hm2⟩
        have := check_f h f (.slice a n c) x m j AllP w2 (nn.grew (G.trans G2))
        rw [show chkE (j : Int) = 0 from by unfold chkE; rw [hi]] at this
        exact this
theorem mark_p (H : Int) (s : Value) (x m i mk : Int) (o : Option Fen) (w : World) (t : TvO w H s x m o) : Calls Try.prog 30 #[treeI H s x m, .int .i64 i, .int .i64 mk] w (RetOp (mrkR o i mk true) w) := by
  obtain ⟨a, n, c, rfl⟩ := t.slice
  rcases mk_cases H a n c x m i mk o w t true with ⟨er, he, e, hn⟩ | ⟨h, f, j, rfl, rfl, rfl, nn, hj, hm, hv, e⟩
  · rw [e]; exact (mark_er H a n c x m i er w mk hn he).mono fun _ _ h => op_no h
  · rw [e]; exact (mark_ok h f _ x m mk j AllP w nn hj hm hv).mono fun _ _ h => op_ok h
theorem unmark_p (H : Int) (s : Value) (x m i mk : Int) (o : Option Fen) (w : World) (t : TvO w H s x m o) : Calls Try.prog 32 #[treeI H s x m, .int .i64 i, .int .i64 mk] w (RetOp (mrkR o i mk false) w) := by
  obtain ⟨a, n, c, rfl⟩ := t.slice
  rcases mk_cases H a n c x m i mk o w t false with ⟨er, he, e, hn⟩ | ⟨h, f, j, rfl, rfl, rfl, nn, hj, hm, hv, e⟩
  · rw [e]; exact (unmark_er H a n c x m i er w mk hn he).mono fun _ _ h => op_no h
  · rw [e]; exact (unmark_ok h f _ x m mk j AllP w nn hj hm hv).mono fun _ _ h => op_ok h
end Go.Proofs.Ytdlhihllmidfeaa

/- The program's groups (layer 11): slices.Clone of groups, changed, Over, Charge, Uncharge. -/
import Derived.Test.YtgcblkibnihplaaGp2
import Derived.Test.YtgcblkibnihplaaZnA
import Derived.Lib.SliceRun
import Derived.Deep.RegionHeld3
import Derived.Deep.DeepCutAuto
import Derived.Deep.CutBlock
namespace Go.Mine
open Go Go.RowKit Go.ChangeShapes Go.WideShapes Go.ChangeAt
theorem RowE.liesG {T : TypeId} {w : World} {B : Nat} {a : Option Addr} {n c : Nat} {L : List Gp} (h : RowE T 3 encG w B (.slice a n c) L) : n = L.length ∧ (L = [] ∨ a.isSome = true) ∧ Lies encG w a L := by
  have h0 := h
  obtain ⟨-, h1 | ⟨g, cap, cur, e, hB, hb, hc, hm, -⟩⟩ := h
  · obtain ⟨e1, e2⟩ := h1
    injection e1 with e3 e4 e5
    have e6 := List.length_eq_zero_iff.1 e2
    exact ⟨by rw [e4, e6]; rfl, .inl e6, .inl e6⟩
  · injection e with e1 e2 e3
    subst e1 e2 e3
    refine ⟨rfl, .inr rfl, .inr ⟨_, rfl, fun j u hu => ?_⟩⟩
    have hj : j < L.length * 3 := by have := (List.getElem?_eq_some_iff.1 hu).1; rwa [fm_len encG_len] at this
    rw [add_plain, Nat.zero_add]
    exact (World.ownsRow.cellAt h0 j hj).trans hu
end Go.Mine
namespace Go.Proofs.Ytgcblkibnihplaa
open Go.RowKit Go.Mine

theorem info_grp : (Try.prog.info? 33).map (fun i => (i.zero, i.size, i.bytes)) = some (some (gpV zG), 3, 24) := by kernel_rfl
/-- It returns the groups L in a row of its own. -/
def RetG3 (L : List Gp) (w : World) (e : Ending) (w' : World) : Prop := ∃ v, e = .returned v ∧ RowE 33 3 encG w' w.heap.size v L ∧ Grew w w'
set_option maxHeartbeats 1000000 in
theorem clone_g {B : Nat} {v : Value} {L : List Gp} {w : World} (h : RowE 33 3 encG w B v L) (hl : L.length ≤ 1000) : Calls Try.prog 22 #[v] w (RetG3 L w) := by
  obtain ⟨a, c, rfl, -⟩ := h.gps
  obtain ⟨-, hs, hlies⟩ := h.liesG
  cases a with
  | none =>
    have hx : L = [] := hs.resolve_right (by simp)
    subst hx
    have q22 : ∀ (w : World) (a : Option Addr) (n c n' c' : Nat), (binOp .eql 26 (.slice a n c) (.slice none n' c')).run Try.prog w = .ok (.bool a.isNone) w := fun w a n c n' c' => Lib.run_eql_slice_nil w _ _ a n c n' c' Try.underlying26
    go_enter Try.func22, Try.ntmps22
    go_wp2
    go_ret
    exact ⟨_, rfl, RowE.nil _ _, Grew.refl _⟩
  | some A =>
    have hk : Lies encG (w.alloc (.cells #[] 33)) (some A) L := by
      rcases hlies with h0 | ⟨b, e, hb⟩
      · exact .inl h0
      · refine .inr ⟨b, e, fun j u hu => ?_⟩
        rw [← hb j u hu]
        exact World.cell?_of_block (Below.heap_alloc w _ _ (World.block_lt_of_cell? w _ (hb j u hu)))
    have HL := Lib.hid hk
    obtain ⟨n, hn⟩ : ∃ n, L.length = n := ⟨_, rfl⟩
    have HN := Lib.hid hn
    rw [hn] at hl ⊢
    have hx6 : ([] : List Gp).length + L.length < 1000000 := by rw [hn]; simp; omega
    have R0 : RowE 33 3 encG (w.alloc (.cells #[] 33)) w.heap.size (.slice (some ⟨w.heap.size, 0, none⟩) 0 0) [] := RowE.lit w #[] rfl rfl (by decide) (Nat.le_refl _)
    have HR0 := Lib.hid R0
    have HG0 := Lib.hid ((Grew.refl w).alloc (.cells #[] 33))
    have hz : w.heap.size ≤ (w.alloc (.cells #[] 33)).heap.size := by simp
    clear h R0 hlies hk hs hn
    have q22 : ∀ (w : World) (a : Option Addr) (n c n' c' : Nat), (binOp .eql 26 (.slice a n c) (.slice none n' c')).run Try.prog w = .ok (.bool a.isNone) w := fun w a n c n' c' => Lib.run_eql_slice_nil w _ _ a n c n' c' Try.underlying26
    go_enter Try.func22, Try.ntmps22
    go_wp2_with (at_builtin; go_loud (
      refine wpList_append_src _ rfl _ _ 26 rfl w.heap.size info_grp Try.underlying26 (by decide) (by decide) encG_len (fun z => encG_one) _ [] rfl HR0.out _ _ _ L rfl HN.out.symm HL.out hx6 (by decide) hz ?_
      intro v2 w2 R2 G2 o2))
    have HG2 := Lib.hid (Grew.keptA (B := w.heap.size) HG0.out G2 (fun x e => HR0.out.above x e) (Nat.le_refl _))
    go_wp2
    go_ret
    exact ⟨_, rfl, R2, HG2.out⟩
/-- The groups with another charge at t. -/
def chgL (L : List Gp) (t : Nat) (y : Int) : List Gp := L.set t ⟨(L.getD t zG).l, (L.getD t zG).p, (L.getD t zG).c + y⟩
set_option maxHeartbeats 1000000 in
theorem changed_p {B : Nat} {v : Value} {L : List Gp} {t : Nat} {y : Int} {w : World} (h : RowE 33 3 encG w B v L) (hl : L.length ≤ 1000) (ht : t < L.length) (y0 : -1000 ≤ y) (y1 : y ≤ 1000) (c0 : 0 ≤ (L.getD t zG).c) (c1 : (L.getD t zG).c ≤ 64) :
    Calls Try.prog 24 #[v, .int .i64 t, .int .i64 y] w (RetG3 (chgL L t y) w) := by
  have HC := Lib.hid (clone_g h hl)
  have HT := Lib.hid ht
  have t0 : (0 : Int) ≤ (t : Int) := by omega
  clear h
  go_enter Try.func24, Try.ntmps24
  go_wp2_with fail
  with_reducible refine HC.out.mono ?_
  rintro e w1 ⟨v1, rfl, R1, G1⟩
  obtain ⟨a1, cc1, rfl, -⟩ := R1.gps
  obtain ⟨-, g, rfl, hBg, hg, d0, d1, d2⟩ := R1.gat HT.out
  obtain ⟨g', e', hfr⟩ := R1.gfree (by omega)
  injection e' with e'
  injection e' with e'
  subst e'
  have hf2 := hfr (t * 3 + 2)
  have HL : Hid (chgL L t y = L.set t ⟨(L.getD t zG).l, (L.getD t zG).p, (L.getD t zG).c + y⟩) := Lib.hid rfl
  have HSET := Lib.hid (fun u x he => R1.gset (k := t) (r := 2) (u := u) (x := x) HT.out (by omega) he)
  obtain ⟨n, hn⟩ : ∃ n, L.length = n := ⟨_, rfl⟩
  have t1 : (t : Int) < (n : Int) := by omega
  rw [hn] at hl HSET ⊢
  have HG1 := Lib.hid G1
  obtain ⟨⟨xl, xp, xc⟩, hx⟩ : ∃ x, L.getD t zG = x := ⟨_, rfl⟩
  have HX := Lib.hid hx
  rw [hx] at d0 d1 d2 c0 c1 HL
  simp only at d0 d1 d2 c0 c1 HL
  clear hx hfr R1 G1 hn HC HT
  generalize chgL L t y = M at *
  go_wp2
  go_ret
  have R2 := HSET.out (.int .i64 (xc + y)) ⟨xl, xp, xc + y⟩ (by rw [HX.out]; rfl)
  rw [← HL.out] at R2
  exact ⟨_, rfl, R2, HG1.out.set (p := ⟨g, t * 3 + 2, none⟩) hBg _⟩
/-- By how many frames tenant t would be above its limit. -/
def ovX (L : List Gp) (t : Nat) (k : Int) : Int := max ((L.getD t zG).c + k - (L.getD t zG).l) 0
set_option maxRecDepth 100000 in
set_option maxHeartbeats 2000000 in
theorem over_p {B : Nat} {v : Value} {L : List Gp} {t : Nat} {k x : Int} {w : World} (h : RowE 33 3 encG w B v L) (hok : okG L = true) (ht : t < L.length) (k0 : 0 ≤ k) (k1 : k ≤ 64) (hx : ovX L t k = x) :
    Calls Try.prog 17 #[v, .int .i64 t, .int .i64 k] w (RetG (.int .i64 x) w) := by
  have hl4 := (okG_iff.1 hok).1.2
  have HC := Lib.hid (check_p h (by omega) hok)
  obtain ⟨h1, h2, h3, h4, h5, h6⟩ := okG_at hok ht
  obtain ⟨a, c, rfl, -⟩ := h.gps
  obtain ⟨n, hn⟩ : ∃ n, L.length = n := ⟨_, rfl⟩
  have HH := Lib.hid h
  have HT := Lib.hid ht
  have t0 : (0 : Int) ≤ (t : Int) := by omega
  have t1 : (t : Int) < (n : Int) := by omega
  have hn1 : n ≤ 1000 := by omega
  have HX : Hid (max ((L.getD t zG).c + k - (L.getD t zG).l) 0 = x) := Lib.hid hx
  have HCC := Lib.hid (fun w => canCharge_p (a := a) (n := n) (c := c) (w := w) hn1 t0 t1 k0 k1)
  rw [hn] at HC ⊢
  clear h hok ht hn hx
  go_enter Try.func17, Try.ntmps17
  go_wp2_with fail
  with_reducible refine HC.out.mono ?_
  rintro e w1 ⟨rfl, g1⟩
  obtain ⟨-, g, rfl, hBg, hg, d0, d1, d2⟩ := (HH.out.grew g1).gat HT.out
  obtain ⟨⟨xl, xp, xc⟩, hx⟩ : ∃ x, L.getD t zG = x := ⟨_, rfl⟩
  rw [hx] at d0 d1 d2 HX h1 h2 h5 h6
  simp only at d0 d1 d2 HX h1 h2 h5 h6
  have HG1 := Lib.hid g1
  clear hx g1 HH HC h3 h4
  go_wp2_with fail
  with_reducible refine (HCC.out _).mono ?_
  rintro e w2 ⟨rfl, rfl⟩
  go_upto_region 3 with fail
  have n1 : IntKind.i64.wrap (xc + k) = xc + k := IntWalk.i64_in _ (by omega)
  have n2 : IntKind.i64.wrap (xc + k - xl) = xc + k - xl := IntWalk.i64_in _ (by omega)
  by_cases hp : 0 ≤ xc + k - xl
  · have HE : Hid (xc + k - xl = x) := Lib.hid (by have := HX.out; omega)
    go_region
    all_goals
      go_wp2
      go_ret
      exact ⟨ret_int HE.out, HG1.out.drew⟩
  · have HE : Hid (0 = x) := Lib.hid (by have := HX.out; omega)
    go_region
    all_goals
      go_wp2
      go_ret
      exact ⟨ret_int HE.out, HG1.out.drew⟩
/-- It returns the groups L in a row of its own, and no error. -/
def RetGE (L : List Gp) (w : World) (e : Ending) (w' : World) : Prop := ∃ v, e = .returned (.tuple #[v, .int .i64 0]) ∧ RowE 33 3 encG w' w.heap.size v L ∧ Grew w w'
set_option maxRecDepth 100000 in
set_option maxHeartbeats 2000000 in
theorem charge_p {B : Nat} {v : Value} {L : List Gp} {t : Nat} {k : Int} {w : World} (h : RowE 33 3 encG w B v L) (hok : okG L = true) (ht : t < L.length) (k0 : 0 ≤ k) (k1 : k ≤ 64) (hx : (L.getD t zG).c + k ≤ (L.getD t zG).l) :
    Calls Try.prog 15 #[v, .int .i64 t, .int .i64 k] w (RetGE (chgL L t k) w) := by
  have hl4 := (okG_iff.1 hok).1.2
  have hl : L.length ≤ 1000 := by omega
  have HC := Lib.hid (check_p h (by omega) hok)
  have hob := okG_at hok ht
  have HOV := Lib.hid (fun w (h : RowE 33 3 encG w B v L) => over_p h hok ht k0 k1 (show ovX L t k = 0 by unfold ovX; omega))
  have HCH := Lib.hid (fun w (h : RowE 33 3 encG w B v L) => changed_p h hl ht (by omega) (by omega) hob.2.2.2.2.1 hob.2.2.2.2.2 (y := k))
  have HH := Lib.hid h
  obtain ⟨a, c, rfl, -⟩ := h.gps
  obtain ⟨n, hn⟩ : ∃ n, L.length = n := ⟨_, rfl⟩
  have t0 : (0 : Int) ≤ (t : Int) := by omega
  have t1 : (t : Int) < (n : Int) := by omega
  have hn1 : n ≤ 1000 := by omega
  have HCC := Lib.hid (fun w => canCharge_p (a := a) (n := n) (c := c) (w := w) hn1 t0 t1 k0 k1)
  rw [hn] at HC HH HOV HCH ⊢
  generalize chgL L t k = M at *
  clear h hok ht hn hx hob hl hl4
  go_enter Try.func15, Try.ntmps15
  go_wp2_with fail
  with_reducible refine HC.out.mono ?_
  rintro e w1 ⟨rfl, g1⟩
  have HH1 := Lib.hid (HH.out.grew g1)
  have HG1 := Lib.hid g1
  clear g1
  go_wp2_with fail
  with_reducible refine (HCC.out _).mono ?_
  rintro e w2 ⟨rfl, rfl⟩
  go_wp2_with fail
  with_reducible refine (HOV.out _ HH1.out).mono ?_
  rintro e w3 ⟨rfl, g3⟩
  have HH3 := Lib.hid (HH1.out.grew g3)
  have HG3 := Lib.hid (HG1.out.trans g3)
  clear g3
  go_wp2_with fail
  with_reducible refine (HCH.out _ HH3.out).mono ?_
  rintro e w4 ⟨v4, rfl, R4, g4⟩
  have HR4 := Lib.hid (R4.wider HG3.out.size)
  have HG4 := Lib.hid (HG3.out.trans g4)
  clear R4 g4
  go_wp2
  refine bodyPost_ret (v := .tuple #[v4, .int .i64 0]) (by simp [results, Try.results15, go_sem]) rfl ⟨_, rfl, HR4.out, HG4.out⟩
set_option maxRecDepth 100000 in
set_option maxHeartbeats 2000000 in
theorem charge_no {B : Nat} {v : Value} {L : List Gp} {t : Nat} {k : Int} {w : World} (h : RowE 33 3 encG w B v L) (hok : okG L = true) (ht : t < L.length) (k0 : 0 ≤ k) (k1 : k ≤ 64) (hx : ¬(L.getD t zG).c + k ≤ (L.getD t zG).l) :
    Calls Try.prog 15 #[v, .int .i64 t, .int .i64 k] w (RetG (.tuple #[.slice none 0 0, .int .i64 3]) w) := by
  have hl4 := (okG_iff.1 hok).1.2
  have HC := Lib.hid (check_p h (by omega) hok)
  obtain ⟨x, hxx⟩ : ∃ x, ovX L t k = x := ⟨_, rfl⟩
  have x1 : 0 < x := by rw [← hxx]; unfold ovX; omega
  have HOV := Lib.hid (fun w (h : RowE 33 3 encG w B v L) => over_p h hok ht k0 k1 hxx)
  have HH := Lib.hid h
  obtain ⟨a, c, rfl, -⟩ := h.gps
  obtain ⟨n, hn⟩ : ∃ n, L.length = n := ⟨_, rfl⟩
  have t0 : (0 : Int) ≤ (t : Int) := by omega
  have t1 : (t : Int) < (n : Int) := by omega
  have hn1 : n ≤ 1000 := by omega
  have HCC := Lib.hid (fun w => canCharge_p (a := a) (n := n) (c := c) (w := w) hn1 t0 t1 k0 k1)
  rw [hn] at HC HH HOV ⊢
  clear h hok ht hn hx hl4 hxx
  go_enter Try.func15, Try.ntmps15
  go_wp2_with fail
  with_reducible refine HC.out.mono ?_
  rintro e w1 ⟨rfl, g1⟩
  have HH1 := Lib.hid (HH.out.grew g1)
  have HG1 := Lib.hid g1
  clear g1
  go_wp2_with fail
  with_reducible refine (HCC.out _).mono ?_
  rintro e w2 ⟨rfl, rfl⟩
  go_wp2_with fail
  with_reducible refine (HOV.out _ HH1.out).mono ?_
  rintro e w3 ⟨rfl, g3⟩
  have HG3 := Lib.hid (HG1.out.trans g3)
  clear g3
  go_wp2
  refine bodyPost_ret (v := .tuple #[.slice none 0 0, .int .i64 3]) (by simp [results, Try.results15, go_sem]) rfl ⟨rfl, HG3.out⟩
set_option maxRecDepth 100000 in
set_option maxHeartbeats 2000000 in
theorem uncharge_p {B : Nat} {v : Value} {L : List Gp} {t : Nat} {k : Int} {w : World} (h : RowE 33 3 encG w B v L) (hok : okG L = true) (ht : t < L.length) (k0 : 0 ≤ k) (k1 : k ≤ 64) (hx : k ≤ (L.getD t zG).c) :
    Calls Try.prog 16 #[v, .int .i64 t, .int .i64 k] w (RetGE (chgL L t (-k)) w) := by
  have hl4 := (okG_iff.1 hok).1.2
  have hl : L.length ≤ 1000 := by omega
  have HC := Lib.hid (check_p h (by omega) hok)
  have hob := okG_at hok ht
  have HCH := Lib.hid (fun w (h : RowE 33 3 encG w B v L) => changed_p h hl ht (by omega) (by omega) hob.2.2.2.2.1 hob.2.2.2.2.2 (y := -k))
  have HH := Lib.hid h
  obtain ⟨a, c, rfl, -⟩ := h.gps
  obtain ⟨n, hn⟩ : ∃ n, L.length = n := ⟨_, rfl⟩
  have HT := Lib.hid ht
  have t0 : (0 : Int) ≤ (t : Int) := by omega
  have t1 : (t : Int) < (n : Int) := by omega
  have hn1 : n ≤ 1000 := by omega
  have HCC := Lib.hid (fun w => canCharge_p (a := a) (n := n) (c := c) (w := w) hn1 t0 t1 k0 k1)
  rw [hn] at HC HH HCH ⊢
  generalize chgL L t (-k) = M at *
  clear h hok ht hn hob hl hl4
  go_enter Try.func16, Try.ntmps16
  go_wp2_with fail
  with_reducible refine HC.out.mono ?_
  rintro e w1 ⟨rfl, g1⟩
  obtain ⟨-, g, rfl, hBg, hg, d0, d1, d2⟩ := (HH.out.grew g1).gat HT.out
  have HH1 := Lib.hid (HH.out.grew g1)
  have HG1 := Lib.hid g1
  generalize (L.getD t zG).c = xc at *
  clear g1 d0 d1 hg
  go_wp2_with fail
  with_reducible refine (HCC.out _).mono ?_
  rintro e w2 ⟨rfl, rfl⟩
  go_wp2_with fail
  with_reducible refine (HCH.out _ HH1.out).mono ?_
  rintro e w4 ⟨v4, rfl, R4, g4⟩
  have HR4 := Lib.hid (R4.wider HG1.out.size)
  have HG4 := Lib.hid (HG1.out.trans g4)
  clear R4 g4
  go_wp2
  refine bodyPost_ret (v := .tuple #[v4, .int .i64 0]) (by simp [results, Try.results16, go_sem]) rfl ⟨_, rfl, HR4.out, HG4.out⟩
set_option maxRecDepth 100000 in
set_option maxHeartbeats 2000000 in
theorem uncharge_no {B : Nat} {v : Value} {L : List Gp} {t : Nat} {k : Int} {w : World} (h : RowE 33 3 encG w B v L) (hok : okG L = true) (ht : t < L.length) (k0 : 0 ≤ k) (k1 : k ≤ 64) (hx : ¬k ≤ (L.getD t zG).c) :
    Calls Try.prog 16 #[v, .int .i64 t, .int .i64 k] w (RetG (.tuple #[.slice none 0 0, .int .i64 4]) w) := by
  have hl4 := (okG_iff.1 hok).1.2
  have HC := Lib.hid (check_p h (by omega) hok)
  have HH := Lib.hid h
  obtain ⟨a, c, rfl, -⟩ := h.gps
  obtain ⟨n, hn⟩ : ∃ n, L.length = n := ⟨_, rfl⟩
  have HT := Lib.hid ht
  have t0 : (0 : Int) ≤ (t : Int) := by omega
  have t1 : (t : Int) < (n : Int) := by omega
  have hn1 : n ≤ 1000 := by omega
  have HCC := Lib.hid (fun w => canCharge_p (a := a) (n := n) (c := c) (w := w) hn1 t0 t1 k0 k1)
  rw [hn] at HC HH ⊢
  clear h hok ht hn hl4
  go_enter Try.func16, Try.ntmps16
  go_wp2_with fail
  with_reducible refine HC.out.mono ?_
  rintro e w1 ⟨rfl, g1⟩
  obtain ⟨-, g, rfl, hBg, hg, d0, d1, d2⟩ := (HH.out.grew g1).gat HT.out
  have HG1 := Lib.hid g1
  generalize (L.getD t zG).c = xc at *
  clear g1 d0 d1 hg
  go_wp2_with fail
  with_reducible refine (HCC.out _).mono ?_
  rintro e w2 ⟨rfl, rfl⟩
  go_wp2
  refine bodyPost_ret (v := .tuple #[.slice none 0 0, .int .i64 4]) (by simp [results, Try.results16, go_sem]) rfl ⟨rfl, HG1.out⟩
end Go.Proofs.Ytgcblkibnihplaa

/- The program's zones (layer 10): unused, New. -/
import Derived.Test.YtphccdfdknihdaaZp4
namespace Go.Mine
open Go Go.RowKit
theorem Own.store6 {w w' : World} {g : Nat} {t : TypeId} {a b c d e f x0 x1 x2 x3 x4 x5 : Value} (o : Own w g t #[a, b, c, d, e, f])
    (hw : (((((w.setCell ⟨g, 0, none⟩ x0).setCell ⟨g, 1, none⟩ x1).setCell ⟨g, 2, none⟩ x2).setCell ⟨g, 3, none⟩ x3).setCell ⟨g, 4, none⟩ x4).setCell ⟨g, 5, none⟩ x5 = w') : Own w' g t #[x0, x1, x2, x3, x4, x5] := by
  rw [← hw]
  exact (((((o.set 0 x0).set 1 x1).set 2 x2).set 3 x3).set 4 x4).set 5 x5
theorem six_block0 {w w' : World} {g : Nat} {a b c d e f : Value} (hw : (((((w.setCell ⟨g, 0, none⟩ a).setCell ⟨g, 1, none⟩ b).setCell ⟨g, 2, none⟩ c).setCell ⟨g, 3, none⟩ d).setCell ⟨g, 4, none⟩ e).setCell ⟨g, 5, none⟩ f = w') : w.grownBy w' (some g) :=
  six_block (o := 0) hw
end Go.Mine
namespace Go.Proofs.Ytphccdfdknihdaa
open Go.RowKit Go.Mine

/-- It returns the zone of q frames from nx on. -/
def RetU (nx : Int) (q : Nat) (w : World) (e : Ending) (w' : World) : Prop := ∃ a c, e = .returned (.agg #[.int .i64 nx, .int .i64 q, .int .i64 ((q : Int) / 8), .int .i64 ((q : Int) / 4), .int .i64 ((q : Int) / 2), .slice a q c]) ∧ RdI w' (fun g => w.heap.size ≤ g) a q (frmI nx q) ∧ q ≤ c ∧ Grew w w'
set_option maxRecDepth 100000 in
set_option maxHeartbeats 4000000 in
theorem unused_p {nx : Int} {q : Nat} {w : World} (h1 : 1 ≤ nx) (h2 : nx ≤ 65) (h3 : q ≤ 64) : Calls Try.prog 43 #[.int .i64 nx, .int .i64 q] w (RetU nx q w) := by
  have e8 : (q : Int).tdiv 8 = (q : Int) / 8 := Int.tdiv_eq_ediv_of_nonneg (by omega)
  have e4 : (q : Int).tdiv 4 = (q : Int) / 4 := Int.tdiv_eq_ediv_of_nonneg (by omega)
  have e2 : (q : Int).tdiv 2 = (q : Int) / 2 := Int.tdiv_eq_ediv_of_nonneg (by omega)
  have HB0 := Lib.hid ((Own.new w 42 (cZ 0 0 0 0 0 none 0 0)).alloc (.cells (cZ nx q ((q : Int) / 8) ((q : Int) / 4) ((q : Int) / 2) none 0 0) 42))
  have HB1 := Lib.hid (Own.new2 w (.cells (cZ 0 0 0 0 0 none 0 0) 42) 42 (cZ nx q ((q : Int) / 8) ((q : Int) / 4) ((q : Int) / 2) none 0 0))
  have HG0 := Lib.hid (((Grew.refl w).alloc (.cells (cZ 0 0 0 0 0 none 0 0) 42)).alloc (.cells (cZ nx q ((q : Int) / 8) ((q : Int) / 4) ((q : Int) / 2) none 0 0) 42))
  go_enter Try.func43, Try.ntmps43
  go_wp2_with fail
  obtain ⟨sx, hsx⟩ : ∃ sx, w.heap.size = sx := ⟨_, rfl⟩
  have HSX := Lib.hid hsx
  rw [hsx] at HB0 HB1 ⊢
  clear hsx
  generalize World.alloc (World.alloc w _) _ = wa at *
  go_loopw [17] (fun iv wi => ∃ (t : Nat) (r2 : Value), iv = .int .i64 t ∧ t ≤ q ∧ Own wi sx 42 (cZ 0 0 0 0 0 none 0 0) ∧ Own wi (sx + 1) 42 #[.int .i64 nx, .int .i64 q, .int .i64 ((q : Int) / 8), .int .i64 ((q : Int) / 4), .int .i64 ((q : Int) / 2), r2] ∧ RowE 3 1 enc1 wi (sx + 2) r2 (frmI nx t) ∧ Grew w wi) (fun iv _ => q - (intOf iv).toNat)
  case atStart => exact ⟨0, _, rfl, by omega, HB0.out, HB1.out, RowE.nil _ _, HG0.out⟩
  case round =>
    obtain ⟨t, r2, rfl, ht, O0, O, R, G⟩ := hrel
    obtain ⟨wi, rfl⟩ : ∃ wi : World, wi = wr := ⟨_, rfl⟩
    obtain ⟨z0, z1, z2, z3, z4, z5⟩ := O.six
    have HO0 := Lib.hid O0
    have HOO := Lib.hid O
    have HRR := Lib.hid R
    have HGG := Lib.hid G
    have hsz := O.lt
    clear O0 O R G
    by_cases htq : t < q
    · have hx7 : (frmI nx t).length < 1000000 := by rw [frmI_len]; omega
      have hz7 : ∀ o, sx + 2 ≤ (wi.alloc o).heap.size := fun o => by simp; omega
      go_wp2_with (at_builtin; go_loud (
        refine wpList_append_row _ rfl _ _ 22 rfl (sx + 2) info_int Try.underlying22 (by decide) (by decide) enc1_len _ (frmI nx t) rfl (HRR.out.alloc _) _ _ (nx + (t : Int)) rfl (Own.new _ _ _) enc1_one hx7 (by decide) (hz7 _) ?_
        intro g3 cap3 w3 R3 G3 o3
        have HR3 := Lib.hid R3
        have HO3 := Lib.hid (Own.keptA (B := sx + 2) (HOO.out.alloc _) G3 (fun x e => HRR.out.above x e) (Nat.lt_succ_self _))
        have HO4 := Lib.hid (Own.keptA (B := sx + 2) (HO0.out.alloc _) G3 (fun x e => HRR.out.above x e) (by omega))
        have HG3 := Lib.hid (Grew.keptA (B := sx + 2) (HGG.out.alloc _) G3 (fun x e => HRR.out.above x e) (by rw [HSX.out]; omega))
        clear R3 G3 o3 z0 z1 z2 z3 z4 z5
        obtain ⟨z0, z1, z2, z3, z4, z5⟩ := HO3.out.six
        have zfz := HO3.out.frozen 5))
      exact ⟨⟨t + 1, _, by go_num, by omega, HO4.out.far (by show sx ≠ sx + 1; omega) _, HO3.out.set 5 _, by rw [frmI_snoc]; exact HR3.out.putB (Nat.lt_succ_self _), HG3.out.set (p := ⟨sx + 1, 5, none⟩) (by rw [HSX.out]; exact Nat.le_succ _) _⟩, by simp [intOf] <;> omega⟩
    · obtain rfl : t = q := by omega
      obtain ⟨a3, c3, rfl, hr3, hc3⟩ := HRR.out.rdI
      have HR3 : Hid (RdI wi (fun g => sx + 2 ≤ g) a3 t (frmI nx t)) := Lib.hid (by have h := hr3; rw [frmI_len] at h; exact h)
      rw [frmI_len] at z5 hc3
      obtain ⟨y0, y1, y2, y3, y4, y5⟩ := HO0.out.six
      have f0 := HO0.out.frozen 0
      have f1 := HO0.out.frozen 1
      have f2 := HO0.out.frozen 2
      have f3 := HO0.out.frozen 3
      have f4 := HO0.out.frozen 4
      have f5 := HO0.out.frozen 5
      clear hr3
      go_wp2
      generalize hw : World.setCell _ _ _ = wz
      have OZ := HO0.out.store6 hw
      have GB := six_block0 hw
      obtain ⟨u0, u1, u2, u3, u4, u5⟩ := OZ.six
      have GZ : Grew w wz := Below.grown HGG.out GB HGG.out.size (fun x e => by injection e with e; have := HSX.out; omega)
      have RZ := HR3.out.keep (q := fun g => w.heap.size ≤ g) (w' := wz) GB.size (fun g h _ => by have h2 : sx + 2 ≤ g := h; have := HSX.out; show w.heap.size ≤ g; omega) fun g h hl => GB.block g hl (fun e => by injection e with e; have h2 : sx + 2 ≤ g := h; omega)
      refine bodyPost_ret (v := .agg #[.int .i64 nx, .int .i64 t, .int .i64 ((t : Int) / 8), .int .i64 ((t : Int) / 4), .int .i64 ((t : Int) / 2), .slice a3 t c3]) (by simp [results, Try.results43, go_sem, u0, u1, u2, u3, u4, u5]) rfl ⟨_, _, rfl, RZ, hc3, GZ⟩
set_option maxRecDepth 100000 in
set_option maxHeartbeats 8000000 in
theorem new_p {p : Nat → Prop} {a : Option Addr} {c n : Nat} {S : List Int} {w : World} (h : RdI w p a n S) (hs : S.length ≤ 1000) : Calls Try.prog 26 #[.slice a n c] w (RetE2 pF (newX S) w.heap.size w) := by
  have HN : Hid (S.length = n) := Lib.hid h.1.symm
  have HR := Lib.hid h
  rw [← h.1] at hs
  clear h
  by_cases h0 : n = 0
  · subst h0
    have hS : S = [] := List.length_eq_zero_iff.1 HN.out
    subst hS
    go_enter Try.func26, Try.ntmps26
    go_wp2
    refine bodyPost_ret (v := .tuple #[.slice none 0 0, .int .i64 1]) (by simp [results, Try.results26, go_sem]) rfl ⟨_, rfl, ZsR.nil _ _ _ _, Grew.refl _⟩
  · have hn0 : 0 < n := by omega
    have hn1 : ¬(n : Int) = 0 := by omega
    have hn2 : ((n : Int) == 0) = false := by simp; omega
    go_enter Try.func26, Try.ntmps26
    go_wp2_with fail
    go_loopw [4, 5, 13] (fun lv nv iv wr => ∃ (k : Nat) (L : List Zo) (nx : Int) (r : Value), r = lv ∧ nv = .int .i64 nx ∧ iv = .int .i64 k ∧ k ≤ n ∧ 1 ≤ nx ∧ nx ≤ 65 ∧ Hid (NwI S k L nx) ∧ ZsO 42 wr w.heap.size (pR w.heap.size r) r L ∧ Grew w wr) (fun _ _ iv _ => n - (intOf iv).toNat)
    case atStart => exact ⟨0, [], 1, _, rfl, rfl, rfl, by omega, by omega, by omega, Lib.hid (NwI.zero S), ⟨[], RowE.nil _ _, rfl, fun k hk => absurd hk (by simp)⟩, Grew.refl _⟩
    case round =>
      obtain ⟨k, L, nx, r, rfl, rfl, rfl, hk, hx1, hx6, HI, HO, G⟩ := hrel
      obtain ⟨wo, rfl⟩ : ∃ wo : World, wo = wr := ⟨_, rfl⟩
      have HZO := Lib.hid HO
      have HG := Lib.hid G
      clear HO G
      by_cases hlt : k < n
      · have hkS : k < S.length := by rw [HN.out]; exact hlt
        obtain ⟨g, o, rfl, -, hg, x0⟩ := HR.out.at_ hkS
        have x1 := (HG.out.cells.1 g _ hg).trans x0
        have HBD : Hid (¬(1 ≤ S.getD k 0 ∧ S.getD k 0 ≤ 65 - nx) → newX S = ([], 2)) := Lib.hid fun h => HI.out.bad hkS rfl h
        have HNX : Hid (1 ≤ S.getD k 0 → S.getD k 0 ≤ 65 - nx → NwI S (k + 1) (L ++ [mkZ nx (S.getD k 0)]) (nx + S.getD k 0)) := Lib.hid fun h1 h2 => HI.out.next hkS rfl h1 h2
        generalize S.getD k 0 = q at *
        have j0 : (0 : Int) ≤ (k : Int) := by omega
        have j1 : (k : Int) < (n : Int) := by omega
        clear x0
        cases hf : fitB nx q
        · have HX := Lib.hid (HBD.out (of_decide_eq_false hf))
          have HF := Lib.hid hf
          clear hf
          go_wp2_with fail
          with_reducible refine (fits_p hx1 hx6 HF.out).mono ?_
          rintro e1 w1 ⟨rfl, rfl⟩
          go_wp2
          refine bodyPost_ret (v := .tuple #[.slice none 0 0, .int .i64 2]) (by simp [results, Try.results26, go_sem]) rfl ⟨_, by rw [HX.out], by rw [HX.out]; exact ZsR.nil _ _ _ _, HG.out⟩
        · obtain ⟨t1, t2⟩ := of_decide_eq_true hf
          have HF := Lib.hid hf
          have HI2 := Lib.hid (HNX.out t1 t2)
          clear HBD HNX HI hf
          obtain ⟨t, rfl⟩ : ∃ qn : Nat, q = qn := ⟨q.toNat, by omega⟩
          have ht6 : t ≤ 64 := by omega
          go_wp2_with fail
          with_reducible refine (fits_p hx1 hx6 HF.out).mono ?_
          rintro e1 w1 ⟨rfl, rfl⟩
          go_wp2_with fail
          with_reducible refine (unused_p hx1 hx6 ht6).mono ?_
          rintro e2 wi ⟨a3, c3, rfl, hr3, hc3, g3⟩
          have HGG := Lib.hid g3
          have HR3 := Lib.hid hr3
          obtain ⟨M, RM, hM, hrd⟩ := HZO.out
          have HRM := Lib.hid (RM.grew HGG.out)
          have HRD := Lib.hid hrd
          have HRL := Lib.hid RM.lt
          have hM6 : M.length < 1000000 := by have := HI2.out.2.2.2.1; simp at this; omega
          have hwo := HG.out.size
          have hzb : ∀ o, w.heap.size ≤ (wi.alloc o).heap.size := fun o => by have := HGG.out.size; simp; omega
          clear hr3 RM hrd g3
          go_wp2_with (at_builtin; go_loud (
            refine wpList_append_row _ rfl _ _ 26 rfl w.heap.size info_zone Try.underlying26 (by decide) (by decide) encZ_len _ M rfl (HRM.out.alloc _) _ _ ((nx, (t : Int), (t : Int) / 8, (t : Int) / 4, (t : Int) / 2), (a3, t, c3)) rfl (Own.new _ _ _) encZ_one hM6 (by decide) (hzb _) ?_
            intro g5 cap5 w5 R5 G5 o5))
          have hX : ∀ x, pR w.heap.size r x → x < wo.heap.size → pR w.heap.size (.slice (some ⟨g5, 0, none⟩) (M.length + 1) cap5) x ∧ r.ownBlock ≠ some x := fun x hx hx2 => by
            refine ⟨⟨hx.1, fun e => ?_⟩, hx.2⟩
            have e : g5 = x := by injection e
            rcases o5 with o5 | o5
            · exact hx.2 (o5.trans (congrArg some e))
            · have := HGG.out.size; simp at o5; omega
          have hY : ∀ x, wo.heap.size ≤ x → x < wi.heap.size → pR w.heap.size (.slice (some ⟨g5, 0, none⟩) (M.length + 1) cap5) x ∧ r.ownBlock ≠ some x := fun x hx hx2 => by
            have hb : ∀ y, r.ownBlock = some y → y < wo.heap.size := fun y e => HRL.out y e
            refine ⟨⟨by omega, fun e => ?_⟩, fun e => by have := hb x e; omega⟩
            have e : g5 = x := by injection e
            rcases o5 with o5 | o5
            · have := hb _ o5; omega
            · simp at o5; omega
          have hz : RdZ w5 (pR w.heap.size (.slice (some ⟨g5, 0, none⟩) (M.length + 1) cap5)) ((nx, (t : Int), (t : Int) / 8, (t : Int) / 4, (t : Int) / 2), (a3, t, c3)) (mkZ nx t) :=
            ⟨rfl, RdI.keep (w' := w5) HR3.out (Nat.le_trans (by simp) G5.size) (fun g h1 h2 => (hY g h1 h2).1) fun g h1 h2 => (G5.block g (by simp; omega) (fun e => (hY g h1 h2).2 e.symm)).trans (Below.heap_alloc wi _ g h2), hc3⟩
          have HZ5 := Lib.hid (ZsO.snoc (T := 42) (L := L) R5 hM (fun k hk => (HRD.out k hk).keep (w' := w5) (Nat.le_trans HGG.out.size (Nat.le_trans (by simp) G5.size)) (fun g h1 h2 => (hX g h1 h2).1) fun g h1 h2 => (G5.block g (by have := HGG.out.size; simp; omega) (fun e => (hX g h1 h2).2 e.symm)).trans ((Below.heap_alloc wi _ g (by have := HGG.out.size; omega)).trans (Below.block HGG.out g h2))) hz)
          have HG5 := Lib.hid (Grew.keptA (B := w.heap.size) ((HG.out.trans HGG.out).alloc _) G5 (fun x e => HRM.out.above x e) (Nat.le_refl _))
          clear hX hY hz R5 G5 o5
          exact ⟨⟨k + 1, L ++ [mkZ nx t], nx + (t : Int), _, rfl, rfl, by go_num, by omega, by omega, by omega, HI2, by have h := HZ5.out; rw [hM] at h; exact h, HG5.out⟩, by simp [intOf] <;> omega⟩
      · obtain rfl : k = n := by omega
        have HX := Lib.hid ((HN.out ▸ HI.out : NwI S S.length L nx).last (by rw [HN.out]; exact hn0))
        go_wp2
        refine bodyPost_ret (v := .tuple #[r, .int .i64 0]) (by simp [results, Try.results26, go_sem]) rfl ⟨_, by rw [HX.out], by rw [HX.out]; exact HZO.out.read (fun g h _ => .inr h) fun g h _ => .inr h.1, HG.out⟩
end Go.Proofs.Ytphccdfdknihdaa

/- The law's own states of layer 10: drawn: zones that need not be right. -/
import Derived.Test.YtphccdfdknihdaaZm1
import Derived.Deep.RegionWith
namespace Go.Mine
open Go Go.RowKit
theorem ZsO.past {T : TypeId} {w w' : World} {B b : Nat} {v : Value} {p : Nat → Prop} {L : List Zo} (h : ZsO T w B p v L) (G : w.grownBy w' (some b)) (hb : b < B) (hp : ∀ x, p x → x ≠ b) : ZsO T w' B p v L := by
  obtain ⟨M, R, hM, hrd⟩ := h
  exact ⟨M, R.past G hb, hM, fun k hk => (hrd k hk).keep G.size (fun _ a _ => a) fun x hx hl => G.block x hl (fun e => by injection e with e; exact hp x hx e)⟩
theorem ZsO.monoP {T : TypeId} {w : World} {B : Nat} {v : Value} {p q : Nat → Prop} {L : List Zo} (h : ZsO T w B p v L) (hp : ∀ x, p x → x < w.heap.size → q x) : ZsO T w B q v L := by
  obtain ⟨M, R, hM, hrd⟩ := h
  exact ⟨M, R, hM, fun k hk => (hrd k hk).keep (Nat.le_refl _) hp fun _ _ _ => rfl⟩
theorem ZsO.putI {T : TypeId} {w : World} {B n c g k r : Nat} {p : Nat → Prop} {L : List Zo} (h : ZsO T w B p (.slice (some ⟨g, 0, none⟩) n c) L) (hk : k < L.length) (hg : ∀ x, p x → x ≠ g) (hr : r < 5) (y : Int) :
    ∃ z', z'.fr = (L.getD k zoZ).fr ∧ ZsO T (w.setCell ⟨g, k * 6 + r, none⟩ (.int .i64 y)) B p (.slice (some ⟨g, 0, none⟩) n c) (L.set k z') := by
  obtain ⟨⟨f, s, mn, lo, hi, fr⟩, hz⟩ : ∃ z, L.getD k zoZ = z := ⟨_, rfl⟩
  rcases (show r = 0 ∨ r = 1 ∨ r = 2 ∨ r = 3 ∨ r = 4 by omega) with rfl | rfl | rfl | rfl | rfl
  · refine ⟨⟨y, s, mn, lo, hi, fr⟩, by rw [hz], h.stored hk (by omega) hg fun zc hr => ?_⟩
    rw [hz] at hr
    obtain ⟨h1, h2⟩ := hr
    refine ⟨((y, s, mn, lo, hi), zc.2), ?_, rfl, h2⟩
    obtain ⟨z1, z2⟩ := zc
    have h3 : z1 = (f, s, mn, lo, hi) := h1
    subst h3; rfl
  · refine ⟨⟨f, y, mn, lo, hi, fr⟩, by rw [hz], h.stored hk (by omega) hg fun zc hr => ?_⟩
    rw [hz] at hr
    obtain ⟨h1, h2⟩ := hr
    refine ⟨((f, y, mn, lo, hi), zc.2), ?_, rfl, h2⟩
    obtain ⟨z1, z2⟩ := zc
    have h3 : z1 = (f, s, mn, lo, hi) := h1
    subst h3; rfl
  · refine ⟨⟨f, s, y, lo, hi, fr⟩, by rw [hz], h.stored hk (by omega) hg fun zc hr => ?_⟩
    rw [hz] at hr
    obtain ⟨h1, h2⟩ := hr
    refine ⟨((f, s, y, lo, hi), zc.2), ?_, rfl, h2⟩
    obtain ⟨z1, z2⟩ := zc
    have h3 : z1 = (f, s, mn, lo, hi) := h1
    subst h3; rfl
  · refine ⟨⟨f, s, mn, y, hi, fr⟩, by rw [hz], h.stored hk (by omega) hg fun zc hr => ?_⟩
    rw [hz] at hr
    obtain ⟨h1, h2⟩ := hr
    refine ⟨((f, s, mn, y, hi), zc.2), ?_, rfl, h2⟩
    obtain ⟨z1, z2⟩ := zc
    have h3 : z1 = (f, s, mn, lo, hi) := h1
    subst h3; rfl
  · refine ⟨⟨f, s, mn, lo, y, fr⟩, by rw [hz], h.stored hk (by omega) hg fun zc hr => ?_⟩
    rw [hz] at hr
    obtain ⟨h1, h2⟩ := hr
    refine ⟨((f, s, mn, lo, y), zc.2), ?_, rfl, h2⟩
    obtain ⟨z1, z2⟩ := zc
    have h3 : z1 = (f, s, mn, lo, hi) := h1
    subst h3; rfl
theorem SmZ.set {L : List Zo} {k : Nat} {z : Zo} (h : SmZ L) (hk : k < L.length) (hz : z.fr.length ≤ 1000) : SmZ (L.set k z) := by
  refine ⟨by rw [List.length_set]; exact h.1, fun j hj => ?_⟩
  rw [List.length_set] at hj
  by_cases e : j = k
  · subst e
    have e1 : (L.set j z).getD j zoZ = z := by simp [List.getD, hk]
    rw [e1]; exact hz
  · have e1 : (L.set k z).getD j zoZ = L.getD j zoZ := by simp [List.getD, List.getElem?_set, Ne.symm e]
    rw [e1]; exact h.2 j hj
theorem ok_fr64 {L : List Zo} (h : okB L = true) {i : Nat} (hi : i < L.length) : (L.getD i zoZ).fr.length ≤ 64 := by
  obtain ⟨nx, h6, h7⟩ := ok_at h hi
  have h8 := asc_len (s := (L.getD i zoZ).s.toNat) h7.2.2.2.2.2.2.2.2 (f := (L.getD i zoZ).f) (by intro x hx; have := h7.2.2.2.2.2.2.2.1 x hx; have := h7.2.1; omega)
  have := h7.2.2.1
  omega
theorem ZsO.below {T : TypeId} {w w' : World} {B C : Nat} {v : Value} {p : Nat → Prop} {L : List Zo} (h : ZsO T w B p v L) (k : Below C w w') (hC : ∀ x, v.ownBlock = some x → x < C) (hp : ∀ x, p x → x < C) : ZsO T w' B p v L := by
  obtain ⟨M, R, hM, hrd⟩ := h
  exact ⟨M, R.below k hC, hM, fun j hj => (hrd j hj).keep (Below.size k) (fun _ a _ => a) fun x hx _ => Below.block k x (hp x hx)⟩
/-- The cells of the row of zones. -/
theorem ZsO.cells_at {T : TypeId} {w : World} {B n c g k : Nat} {p : Nat → Prop} {L : List Zo} (h : ZsO T w B p (.slice (some ⟨g, 0, none⟩) n c) L) (hk : k < L.length) :
    w.cell? ⟨g, k * 6, none⟩ = some (.int .i64 (L.getD k zoZ).f) ∧ w.cell? ⟨g, k * 6 + 1, none⟩ = some (.int .i64 (L.getD k zoZ).s) ∧ w.cell? ⟨g, k * 6 + 2, none⟩ = some (.int .i64 (L.getD k zoZ).mn) ∧ w.cell? ⟨g, k * 6 + 3, none⟩ = some (.int .i64 (L.getD k zoZ).lo) := by
  obtain ⟨g', a', c', e, -, -, c0, c1, c2, c3, -⟩ := (h.read (q := fun _ => True) (fun _ _ _ => trivial) fun _ _ _ => trivial).at_ hk
  injection e with e
  injection e with e
  subst e
  exact ⟨c0, c1, c2, c3⟩
end Go.Mine
namespace Go.Proofs.Ytphccdfdknihdaa
open Go.RowKit Go.Mine

/-- Some small zones, one to three. -/
def RetDw (B b : Nat) (w : World) (e : Ending) (w' : World) : Prop := ∃ v L, e = .returned v ∧ SmZ L ∧ ZsR w' (fun g => w.heap.size ≤ g) v L ∧ Tp B w' b ∧ w.grownBy w' (some b)
set_option maxRecDepth 100000 in
set_option maxHeartbeats 8000000 in
theorem drawn_x {B b : Nat} {w : World} (tp : Tp B w b) (hbw : B ≤ w.heap.size) : Calls Try.prog 9 #[.pointer (some ⟨b, 0, none⟩)] w (RetDw B b w) := by
  have hb := tp.ltB
  go_enter Try.func9, Try.ntmps9
  go_wp2_with fail
  with_reducible refine (zones_x tp hbw).mono ?_
  rintro e w1 ⟨v1, L, rfl, HOK, hL3, Z1, T1, G1⟩
  obtain ⟨M, a1, c1, rfl, hM, hlies, hrd⟩ := Z1.cells
  have HT1 := Lib.hid T1
  have HG1 := Lib.hid G1
  have HSM := Lib.hid (ok_small HOK)
  have hN1 : 1 ≤ L.length := (okB_iff.1 HOK).1
  have HOO := Lib.hid HOK
  have HRD := Lib.hid hrd
  have HLI := Lib.hid hlies
  have hM6 : M.length < 1000000 := by omega
  have hs1 := G1.size
  clear T1 G1 HOK hrd hlies Z1
  go_upto_region 2 with (at_builtin; go_loud (
    refine wpList_append_src _ rfl _ _ 26 rfl w1.heap.size info_zone Try.underlying26 (by decide) (by decide) encZ_len (fun z => encZ_one) _ [] rfl (RowE.nil _ _) _ _ _ M rfl hM.symm HLI.out (by simpa using hM6) (by decide) (Nat.le_refl _) ?_
    intro v2 w2 R2 G2 o2))
  rw [List.nil_append] at R2
  have g2 : Grew w1 w2 := below_of_grown G2
  have HZ2 : Hid (ZsO 42 w2 w1.heap.size (fun x => w.heap.size ≤ x ∧ x < w1.heap.size) v2 L) := Lib.hid ⟨M, R2, hM, fun k hk => (HRD.out k hk).keep g2.size (fun x h1 h2 => ⟨h1, h2⟩) fun x _ h2 => Below.block g2 x h2⟩
  have HT2 := Lib.hid (HT1.out.grew g2)
  have HG2 := Lib.hid (grown_trans HG1.out (grown_row g2.grown))
  have hbw1 : b < w1.heap.size := by omega
  have hbp : ∀ x, (w.heap.size ≤ x ∧ x < w1.heap.size) → x ≠ b := fun x hx => by omega
  obtain ⟨a2, c2, rfl⟩ := HZ2.out.len_
  clear R2 G2 o2 g2 HT1 HG1 HLI HRD
  obtain ⟨N, hN⟩ : ∃ N, L.length = N := ⟨_, rfl⟩
  have HN := Lib.hid hN
  rw [hN] at HZ2 hL3 hN1 ⊢
  clear hN
  go_wp2_with fail
  with_reducible refine (next_x _ _ _ _ (by omega) (by omega) HT2.out).mono ?_
  rintro e w3 ⟨q3, q30, q31, rfl, t3, g3⟩
  have HZ3 := Lib.hid (HZ2.out.past g3 hbw1 hbp)
  have HT3 := Lib.hid t3
  have HG3 := Lib.hid (grown_trans HG2.out g3)
  clear t3 g3 HZ2 HT2 HG2
  by_cases hq3 : q3 = 0
  · subst hq3
    go_wp2_with fail
    with_reducible refine (next_x _ _ _ _ (by omega) (by omega) HT3.out).mono ?_
    rintro e w4 ⟨q4, q40, q41, rfl, t4, g4⟩
    obtain ⟨i, rfl⟩ : ∃ i : Nat, q4 = i := ⟨q4.toNat, by omega⟩
    have HZ4 := Lib.hid (HZ3.out.past g4 hbw1 hbp)
    have HT4 := Lib.hid t4
    have HG4 := Lib.hid (grown_trans HG3.out g4)
    clear t4 g4 HZ3 HT3 HG3
    go_wp2_with fail
    with_reducible refine (next_x _ _ _ _ (by omega) (by omega) HT4.out).mono ?_
    rintro e w5 ⟨q5, q50, q51, rfl, t5, g5⟩
    have HZ5 := Lib.hid (HZ4.out.past g5 hbw1 hbp)
    have HT5 := Lib.hid t5
    have HG5 := Lib.hid (grown_trans HG4.out g5)
    have hiL : i < L.length := by rw [HN.out]; omega
    have hi1 : (i : Int) < (N : Int) := q41
    have hi0 : (0 : Int) ≤ (i : Int) := q40
    obtain ⟨-, gn, rfl, hBn, hgn, hfz⟩ := HZ5.out.block (by omega)
    have hgnb : gn ≠ b := by omega
    have hpg : ∀ x, (w.heap.size ≤ x ∧ x < w1.heap.size) → x ≠ gn := fun x hx => by omega
    have hws : w.heap.size ≤ gn := by omega
    have hfb := HSM.out.2 i hiL
    have hzb : 1 ≤ (L.getD i zoZ).f ∧ (L.getD i zoZ).f ≤ 65 := by
      obtain ⟨nx, h1, h2⟩ := ok_at HOO.out hiL
      obtain ⟨b1, b2, b3, -⟩ := h2
      omega
    clear t5 g5 HZ4 HT4 HG4 q40 q41
    have h5 : q5 = 0 ∨ q5 = 1 ∨ q5 = 2 ∨ q5 = 3 ∨ q5 = 4 := by omega
    clear q50 q51
    rcases h5 with rfl | rfl | rfl | rfl | rfl
    · skip
      go_wp2_with fail
      have hbw5 : B ≤ w5.heap.size := by omega
      with_reducible refine (odd_x _ _ _ HT5.out hbw5).mono ?_
      rintro e w6 ⟨z, rfl, t6, g6⟩
      have HZ6 := Lib.hid (HZ5.out.past g6 hbw1 hbp)
      have HT6 := Lib.hid t6
      have HG6 := Lib.hid (grown_trans HG5.out g6)
      obtain ⟨d0, d1, d2, d3⟩ := HZ6.out.cells_at hiL
      obtain ⟨-, gn', e', -, -, hfz6⟩ := HZ6.out.block (by omega)
      obtain rfl : gn = gn' := by injection e' with e'; injection e'
      have f6 := hfz6 (i * 6 + 1)
      obtain ⟨z', hz', Z7⟩ := HZ6.out.putI hiL hpg (r := 1) (by omega) (z)
      have HZ7 := Lib.hid (Z7.read (q := fun g => w.heap.size ≤ g) (fun g h _ => Nat.le_trans hs1 h) fun g h _ => h.1)
      have HS7 := Lib.hid (HSM.out.set hiL (z := z') (by rw [hz']; exact hfb))
      have HT7 := Lib.hid (HT6.out.set (p := ⟨gn, i * 6 + 1, none⟩) (show B ≤ gn by omega) (.int .i64 (z)))
      have HG7 := Lib.hid (grown_set HG6.out (p := ⟨gn, i * 6 + 1, none⟩) (.inr hws) (.int .i64 (z)))
      clear t6 g6 Z7 hfz6
      go_wp2
      go_ret
      exact ⟨_, _, rfl, HS7.out, HZ7.out, HT7.out, HG7.out⟩
    · skip
      have HT5d := Lib.hid HT5.out.drew
      have HZ5d : Hid (ZsO 42 w5.drew w1.heap.size (fun x => w.heap.size ≤ x ∧ x < w1.heap.size) (.slice (some ⟨gn, 0, none⟩) N c2) L) := Lib.hid HZ5.out
      have HG5d := Lib.hid (grown_drew HG5.out)
      obtain ⟨d0, -⟩ := HZ5.out.cells_at hiL
      have e0 : w5.drew.cell? ⟨gn, i * 6, none⟩ = some (.int .i64 (L.getD i zoZ).f) := d0
      obtain ⟨zf, hzf⟩ : ∃ zf, (L.getD i zoZ).f = zf := ⟨_, rfl⟩
      rw [hzf] at hzb e0 d0
      have f5 := hfz (i * 6)
      have f5d : w5.drew.frozen? ⟨gn, i * 6, none⟩ = false := f5
      have hgnd : gn < w5.drew.heap.size := hgn
      obtain ⟨zb1, zb2⟩ := hzb
      clear hzf hfz
      go_upto_region 8 with fail
      go_region_with (go_at_call 10; (with_reducible refine (next_x _ _ _ _ (by omega) (by omega) HT5d.out).mono ?_); rintro e w6 ⟨z, z0, z1, rfl, t6, g6⟩; have y0 := (World.cell?_of_block (a := ⟨gn, i * 6, none⟩) (g6.block gn hgnd (fun e => hgnb (Option.some.inj e)))).trans e0; have yf := (World.frozen?_of_block (a := ⟨gn, i * 6, none⟩) (g6.block gn hgnd (fun e => hgnb (Option.some.inj e)))).trans f5d)
      all_goals
        have HZ6 := Lib.hid (HZ5d.out.past g6 hbw1 hbp)
        obtain ⟨z', hz', Z7⟩ := HZ6.out.putI hiL hpg (r := 0) (by omega) (IntKind.i64.wrap (zf + IntKind.i64.wrap (z - 1)))
        rw [Nat.add_zero] at Z7
        have HZ7 := Lib.hid (Z7.read (q := fun g => w.heap.size ≤ g) (fun g h _ => Nat.le_trans hs1 h) fun g h _ => h.1)
        have HS7 := Lib.hid (HSM.out.set hiL (z := z') (by rw [hz']; exact hfb))
        have HT7 := Lib.hid (t6.set (p := ⟨gn, i * 6, none⟩) (show B ≤ gn by omega) (.int .i64 (IntKind.i64.wrap (zf + IntKind.i64.wrap (z - 1)))))
        have HG7 := Lib.hid (grown_set (grown_trans HG5d.out g6) (p := ⟨gn, i * 6, none⟩) (.inr hws) (.int .i64 (IntKind.i64.wrap (zf + IntKind.i64.wrap (z - 1)))))
        clear t6 g6 Z7
        go_wp2
        go_ret
        exact ⟨_, _, rfl, HS7.out, HZ7.out, HT7.out, HG7.out⟩
    · skip
      go_wp2_with fail
      with_reducible refine (next_x _ _ _ _ (by omega) (by omega) HT5.out).mono ?_
      rintro e w6 ⟨z, z0, z1, rfl, t6, g6⟩
      have HZ6 := Lib.hid (HZ5.out.past g6 hbw1 hbp)
      have HT6 := Lib.hid t6
      have HG6 := Lib.hid (grown_trans HG5.out g6)
      obtain ⟨d0, d1, d2, d3⟩ := HZ6.out.cells_at hiL
      obtain ⟨-, gn', e', -, -, hfz6⟩ := HZ6.out.block (by omega)
      obtain rfl : gn = gn' := by injection e' with e'; injection e'
      have f6 := hfz6 (i * 6 + 3)
      obtain ⟨z', hz', Z7⟩ := HZ6.out.putI hiL hpg (r := 3) (by omega) (z)
      have HZ7 := Lib.hid (Z7.read (q := fun g => w.heap.size ≤ g) (fun g h _ => Nat.le_trans hs1 h) fun g h _ => h.1)
      have HS7 := Lib.hid (HSM.out.set hiL (z := z') (by rw [hz']; exact hfb))
      have HT7 := Lib.hid (HT6.out.set (p := ⟨gn, i * 6 + 3, none⟩) (show B ≤ gn by omega) (.int .i64 (z)))
      have HG7 := Lib.hid (grown_set HG6.out (p := ⟨gn, i * 6 + 3, none⟩) (.inr hws) (.int .i64 (z)))
      clear t6 g6 Z7 hfz6
      go_wp2
      go_ret
      exact ⟨_, _, rfl, HS7.out, HZ7.out, HT7.out, HG7.out⟩
    · skip
      obtain ⟨a5, c5, d5, hri, hcp⟩ := HZ5.out.free_at hiL
      have f5 := hfz (i * 6 + 5)
      obtain ⟨fr, hfr⟩ : ∃ fr, (L.getD i zoZ).fr = fr := ⟨_, rfl⟩
      have HFR := Lib.hid hfr
      rw [hfr] at d5 hri hcp hfb
      have HRI := Lib.hid hri
      have hx6 : fr.length < 1000000 := by omega
      have hw15 : w1.heap.size ≤ w5.heap.size := by omega
      clear hfr hri hfz
      go_wp2_with (at_builtin; go_loud (
        refine wpList_append_src _ rfl _ _ 22 rfl w5.heap.size info_int Try.underlying22 (by decide) (by decide) enc1_len (fun z => enc1_one) _ [] rfl (RowE.nil _ _) _ _ _ fr rfl rfl HRI.out.lies.2 (by simpa using hx6) (by decide) (Nat.le_refl _) ?_
        intro v6 w6 R6 G6 o6))
      have g6 : Grew w5 w6 := below_of_grown G6
      rw [List.nil_append] at R6
      have HR6 := Lib.hid R6
      have HZ6 := Lib.hid (HZ5.out.kept g6)
      have HT6 := Lib.hid (HT5.out.grew g6)
      have HG6 := Lib.hid (grown_trans HG5.out (grown_row g6.grown))
      have d6 := (g6.cells.1 gn (i * 6 + 5) hgn).trans d5
      have f6 := (g6.cells.2 gn (i * 6 + 5) hgn).trans f5
      have hgn6 : gn < w6.heap.size := Nat.lt_of_lt_of_le hgn g6.size
      have hw6 := g6.size
      clear R6 G6 o6 g6 d5 f5
      with_reducible refine (next_x _ _ _ _ (by omega) (by omega) HT6.out).mono ?_
      rintro e w7 ⟨z, z0, z1, rfl, t7, g7⟩
      have HR7 := Lib.hid (HR6.out.past g7 (by omega))
      have HZ7 := Lib.hid (HZ6.out.past g7 hbw1 hbp)
      have HT7 := Lib.hid t7
      have HG7 := Lib.hid (grown_trans HG6.out g7)
      have d7 := (World.cell?_of_block (a := ⟨gn, i * 6 + 5, none⟩) (g7.block gn hgn6 (fun e => hgnb (Option.some.inj e)))).trans d6
      have f7 := (World.frozen?_of_block (a := ⟨gn, i * 6 + 5, none⟩) (g7.block gn hgn6 (fun e => hgnb (Option.some.inj e)))).trans f6
      have hgn7 : gn < w7.heap.size := Nat.lt_of_lt_of_le hgn6 g7.size
      have hw7 := g7.size
      have hw7' : w5.heap.size ≤ w7.heap.size := by omega
      have hz7 : ∀ o, w5.heap.size ≤ (w7.alloc o).heap.size := fun o => by simp; omega
      clear t7 g7 d6 f6
      go_wp2_with (at_builtin; go_loud (
        refine wpList_append_row _ rfl _ _ 22 rfl w5.heap.size info_int Try.underlying22 (by decide) (by decide) enc1_len _ fr rfl (HR7.out.alloc _) _ _ (1 + z) rfl (Own.new _ _ _) enc1_one hx6 (by decide) (hz7 _) ?_
        intro g8 cap8 w8 R8 G8 o8
        have k8 : ((w7.alloc (.cells #[.int .i64 (1 + z)] 3)).heap[gn]? = w7.heap[gn]?) := Below.heap_alloc w7 _ gn hgn7
        have j8 := G8.block gn (by simp; omega) (fun e => by have := HR7.out.above gn e.symm; omega)
        have d8 := (World.cell?_of_block (a := ⟨gn, i * 6 + 5, none⟩) (j8.trans k8)).trans d7
        have f8 := (World.frozen?_of_block (a := ⟨gn, i * 6 + 5, none⟩) (j8.trans k8)).trans f7))
      have hB8 : Below w5.heap.size w7 w8 := below_grown (Below.alloc (Below.refl _ w7) hw7' _) G8 (by simp; omega) (fun x e => HR7.out.above x e)
      have HZ8 := (HZ7.out.below hB8 (fun x e => by have e2 : gn = x := Option.some.inj e; rw [← e2]; exact hgn) (fun x hx => by omega)).monoP (q := fun x => w.heap.size ≤ x ∧ x ≠ gn) (fun x hx _ => ⟨hx.1, hpg x hx⟩)
      obtain ⟨a8, k9, e8, r8, h8⟩ := R8.rdI
      rw [List.length_append, List.length_singleton] at e8 r8 h8
      injection e8 with e81 e82 e83
      subst e81 e83
      have HZ9 := HZ8.put5 hiL (fun x hx => hx.2) (r8.keep (q := fun x => w.heap.size ≤ x ∧ x ≠ gn) (Nat.le_refl _) (fun x h _ => ⟨by have h1 : w5.heap.size ≤ x := h; omega, by have h1 : w5.heap.size ≤ x := h; omega⟩) fun _ _ _ => rfl) h8
      have HZR := Lib.hid (HZ9.read (q := fun g => w.heap.size ≤ g) (fun g h _ => Nat.le_trans hs1 h) fun g h _ => h.1)
      have HS9 := Lib.hid (HSM.out.set hiL (z := { L.getD i zoZ with fr := fr ++ [1 + z] }) (by show (fr ++ [1 + z]).length ≤ 1000; rw [List.length_append, List.length_singleton]; have := ok_fr64 HOO.out hiL; rw [HFR.out] at this; omega))
      have HT9 := Lib.hid ((Tp.keptA (B := w5.heap.size) (HT7.out.alloc (.cells #[.int .i64 (1 + z)] 3)) G8 (fun x e => HR7.out.above x e) (by omega)).set (p := ⟨gn, i * 6 + 5, none⟩) (show B ≤ gn by omega) (.slice (some ⟨g8, 0, none⟩) (fr.length + 1) cap8))
      have HG9 := Lib.hid (grown_set (grown_above (grown_alloc HG7.out (.cells #[.int .i64 (1 + z)] 3)) G8 (fun x e => by have := HR7.out.above x e; omega)) (p := ⟨gn, i * 6 + 5, none⟩) (.inr hws) (.slice (some ⟨g8, 0, none⟩) (fr.length + 1) cap8))
      clear HZ9 HZ8 hB8 R8 G8 o8 r8 h8 d8 f8
      go_ret
      exact ⟨_, _, rfl, HS9.out, HZR.out, HT9.out, HG9.out⟩
    · skip
      go_wp2_with fail
      with_reducible refine (next_x _ _ _ _ (by omega) (by omega) HT5.out).mono ?_
      rintro e w6 ⟨z, z0, z1, rfl, t6, g6⟩
      have HZ6 := Lib.hid (HZ5.out.past g6 hbw1 hbp)
      have HT6 := Lib.hid t6
      have HG6 := Lib.hid (grown_trans HG5.out g6)
      obtain ⟨d0, d1, d2, d3⟩ := HZ6.out.cells_at hiL
      obtain ⟨-, gn', e', -, -, hfz6⟩ := HZ6.out.block (by omega)
      obtain rfl : gn = gn' := by injection e' with e'; injection e'
      have f6 := hfz6 (i * 6 + 2)
      obtain ⟨z', hz', Z7⟩ := HZ6.out.putI hiL hpg (r := 2) (by omega) (z - 1)
      have HZ7 := Lib.hid (Z7.read (q := fun g => w.heap.size ≤ g) (fun g h _ => Nat.le_trans hs1 h) fun g h _ => h.1)
      have HS7 := Lib.hid (HSM.out.set hiL (z := z') (by rw [hz']; exact hfb))
      have HT7 := Lib.hid (HT6.out.set (p := ⟨gn, i * 6 + 2, none⟩) (show B ≤ gn by omega) (.int .i64 (z - 1)))
      have HG7 := Lib.hid (grown_set HG6.out (p := ⟨gn, i * 6 + 2, none⟩) (.inr hws) (.int .i64 (z - 1)))
      clear t6 g6 Z7 hfz6
      go_wp2
      go_ret
      exact ⟨_, _, rfl, HS7.out, HZ7.out, HT7.out, HG7.out⟩
  · have HZR : Hid (ZsR w3 (fun g => w.heap.size ≤ g) (.slice a2 N c2) L) := Lib.hid (HZ3.out.read (fun g h _ => Nat.le_trans hs1 h) fun g h _ => h.1)
    have hq4 : (q3 == 0) = false := by simpa using hq3
    go_wp2
    go_ret
    exact ⟨_, L, rfl, HSM.out, HZR.out, HT3.out, HG3.out⟩
end Go.Proofs.Ytphccdfdknihdaa

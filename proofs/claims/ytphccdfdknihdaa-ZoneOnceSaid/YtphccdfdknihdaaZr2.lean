/- The reference of layer 10: with, Take. -/
import Derived.Test.YtphccdfdknihdaaZr1
namespace Go.Proofs.Ytphccdfdknihdaa
open Go.RowKit Go.Mine

theorem info_zone : (Try.prog.info? 42).map (fun i => (i.zero, i.size, i.bytes)) = some (some (.agg #[.int .i64 0, .int .i64 0, .int .i64 0, .int .i64 0, .int .i64 0, .slice none 0 0]), 6, 64) := by kernel_rfl
theorem info_int : (Try.prog.info? 3).map (fun i => (i.zero, i.size, i.bytes)) = some (some (.int .i64 0), 1, 8) := by kernel_rfl
abbrev zoV (z : Zo) (a : Option Addr) (c : Nat) : Value := .agg #[.int .i64 z.f, .int .i64 z.s, .int .i64 z.mn, .int .i64 z.lo, .int .i64 z.hi, .slice a z.fr.length c]
def pN (p : Nat → Prop) (B : Nat) (g : Nat) : Prop := p g ∨ B ≤ g
/-- It returns the zones L, some of them in blocks of its own. -/
def RetZB (p : Nat → Prop) (L : List Zo) (B : Nat) (w : World) (e : Ending) (w' : World) : Prop := ∃ v, e = .returned v ∧ ZsR w' (pN p B) v L ∧ Grew w w'
theorem rowZ_free {T : TypeId} {w : World} {B g n c : Nat} {M : List Zc} (R : RowE T 6 encZ w B (.slice (some ⟨g, 0, none⟩) n c) M) (o : Nat) : w.frozen? ⟨g, o, none⟩ = false := by
  rcases R.shape encZ_len with ⟨e, -⟩ | ⟨g', c', e, -, -, -, -, -, hf⟩
  · cases e
  · injection e with e1 e2 e3
    injection e1 with e1
    injection e1 with e1
    subst e1
    exact hf o
theorem rowZ_has {T : TypeId} {w : World} {B g n c k : Nat} {M : List Zc} (R : RowE T 6 encZ w B (.slice (some ⟨g, 0, none⟩) n c) M) (hk : k < n) : ∃ u0 u1 u2 u3 u4 u5, w.cell? ⟨g, k * 6, none⟩ = some u0 ∧ w.cell? ⟨g, k * 6 + 1, none⟩ = some u1 ∧ w.cell? ⟨g, k * 6 + 2, none⟩ = some u2 ∧
    w.cell? ⟨g, k * 6 + 3, none⟩ = some u3 ∧ w.cell? ⟨g, k * 6 + 4, none⟩ = some u4 ∧ w.cell? ⟨g, k * 6 + 5, none⟩ = some u5 := by
  rcases R.shape encZ_len with ⟨e, -⟩ | ⟨g', c', e, -, -, -, -, hc, hf⟩
  · cases e
  · injection e with e1 e2 e3
    injection e1 with e1
    injection e1 with e1
    subst e1 e2
    have h := hc k hk
    exact ⟨_, _, _, _, _, _, h 0 (by omega), h 1 (by omega), h 2 (by omega), h 3 (by omega), h 4 (by omega), h 5 (by omega)⟩
set_option maxHeartbeats 2000000 in
theorem with_q {p : Nat → Prop} {B : Nat} {a a' : Option Addr} {n c c' i : Nat} {L : List Zo} {z : Zo} {w : World} (h : ZsR w p (.slice a n c) L) (hl : L.length ≤ 1000) (hi : i < L.length) (hr : RdI w (pN p B) a' z.fr.length z.fr) (hc : z.fr.length ≤ c') (hB : B ≤ w.heap.size) :
    Calls Try.prog 32 #[.slice a n c, .int .i64 i, zoV z a' c'] w (RetZB p (L.set i z) B w) := by
  obtain ⟨M, a2, c2, e, hM, hlies, hrd⟩ := h.cells
  injection e with e1 e2 e3
  subst e1 e2 e3
  obtain ⟨zf, zs, zm, zl, zh, fr⟩ := z
  have HL := Lib.hid hlies
  have HRD := Lib.hid hrd
  have HRI := Lib.hid hr
  have hm0 : M.length < 1000000 := by omega
  have HBX := Lib.hid (Own.new w 42 (cZ zf zs zm zl zh a' fr.length c'))
  have HG := Lib.hid ((Grew.refl w).alloc (.cells (cZ zf zs zm zl zh a' fr.length c') 42))
  have HL2 : Hid (Lies encZ (w.alloc (.cells (cZ zf zs zm zl zh a' fr.length c') 42)) a M) := Lib.hid (by
    rcases HL.out with h0 | ⟨b, rfl, hb⟩
    · exact .inl h0
    · refine .inr ⟨b, rfl, fun j u hu => ?_⟩
      rw [← hb j u hu]
      exact World.cell?_of_block (Below.heap_alloc w _ _ (World.block_lt_of_cell? w _ (hb j u hu))))
  clear h hlies hrd hr
  go_enter Try.func32, Try.ntmps32
  have hz6 : w.heap.size ≤ (w.alloc (.cells (cZ zf zs zm zl zh a' fr.length c') 42)).heap.size := by simp
  go_wp2_with (at_builtin; go_loud (
    refine wpList_append_src _ rfl _ _ 26 rfl w.heap.size info_zone Try.underlying26 (by decide) (by decide) encZ_len (fun z => encZ_one) _ [] rfl (RowE.nil _ _) a L.length c M rfl hM.symm HL2.out (by simpa using hm0) (by decide) hz6 ?_
    intro v2 w2 R2 G2 o2
    have HG2 := Lib.hid (below_of_grown G2 : Grew (w.alloc (.cells (cZ zf zs zm zl zh a' fr.length c') 42)) w2)
    rw [List.nil_append] at R2
    have HR2 := Lib.hid R2
    clear R2 G2 o2
    obtain ⟨g2, cap2, rfl, hg2, hg3, hcap⟩ : ∃ g2 cap2, v2 = .slice (some ⟨g2, 0, none⟩) L.length cap2 ∧ w.heap.size ≤ g2 ∧ g2 < w2.heap.size ∧ L.length ≤ cap2 := by
      rcases HR2.out.shape encZ_len with ⟨-, e0⟩ | ⟨g2, cap2, e, hg2, hg3, hc2, -⟩
      · rw [e0] at hM; exact absurd hi (by rw [← hM]; simp)
      · exact ⟨g2, cap2, by rw [e, hM], hg2, hg3, by omega⟩
    obtain ⟨z0, z1, z2, z3, z4, z5⟩ := (HBX.out.grew HG2.out).six
    obtain ⟨u0, u1, u2, u3, u4, u5, d0, d1, d2, d3, d4, d5⟩ := rowZ_has HR2.out hi
    have f0 := rowZ_free HR2.out (i * 6)
    have f1 := rowZ_free HR2.out (i * 6 + 1)
    have f2 := rowZ_free HR2.out (i * 6 + 2)
    have f3 := rowZ_free HR2.out (i * 6 + 3)
    have f4 := rowZ_free HR2.out (i * 6 + 4)
    have f5 := rowZ_free HR2.out (i * 6 + 5)
    have i0 : (0 : Int) ≤ (i : Int) := by omega
    have i1 : (i : Int) < (L.length : Int) := by omega))
  generalize hw : World.setCell _ _ _ = wz
  have hgr := HG.out.trans HG2.out
  have hgrz : Grew w wz := Below.grown hgr (six_block hw) hgr.size (fun x e => by injection e with e; omega)
  have hZ : ZsO 42 w2 w.heap.size (fun x => pN p B x ∧ x < w.heap.size) (.slice (some ⟨g2, 0, none⟩) L.length cap2) L :=
    ⟨M, HR2.out, hM, fun k hk => (HRD.out k hk).keep hgr.size (fun g h1 h2 => ⟨.inl h1, h2⟩) fun g _ h2 => Below.block hgr g h2⟩
  have hZ2 := hZ.put (z := ⟨zf, zs, zm, zl, zh, fr⟩) hi (HRI.out.keep hgr.size (fun g h1 h2 => ⟨h1, h2⟩) fun g _ h2 => Below.block hgr g h2) hc (fun x hx e => by have := hx.2; omega) hw
  go_wp2
  go_ret
  exact ⟨_, rfl, hZ2.read (fun g h1 _ => .inr (Nat.le_trans hB h1)) fun g h1 _ => h1.1, hgrz⟩
end Go.Proofs.Ytphccdfdknihdaa

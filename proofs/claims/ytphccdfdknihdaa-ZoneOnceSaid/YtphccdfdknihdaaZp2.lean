/- The program's zones (layer 10): hasFree, isRight, Check. -/
import Derived.Test.YtphccdfdknihdaaZp1
namespace Go.Proofs.Ytphccdfdknihdaa
open Go.RowKit Go.Mine

theorem frK_iff {z : Zo} : FrK z z.fr.length ↔ (∀ x ∈ z.fr, z.f ≤ x ∧ x < z.f + z.s) ∧ z.fr.Pairwise (· < ·) := by
  constructor
  · intro h
    refine ⟨fun x hx => ?_, frK_asc h.2⟩
    obtain ⟨j, hj, e⟩ := List.getElem_of_mem hx
    have := h.1 j hj
    rw [List.getD, List.getElem?_eq_getElem hj, Option.getD_some, e] at this
    exact this
  · rintro ⟨h1, h2⟩
    have hd : ∀ j (hj : j < z.fr.length), z.fr.getD j 0 = z.fr[j] := fun j hj => by rw [List.getD, List.getElem?_eq_getElem hj]; rfl
    refine ⟨fun j hj => ?_, fun j hj => ?_⟩
    · rw [hd j (by omega)]
      exact h1 _ (List.getElem_mem _)
    · rw [hd j (by omega), hd (j + 1) (by omega)]
      exact (List.pairwise_iff_getElem.1 h2) j (j + 1) (by omega) (by omega) (by omega)
theorem inZ_t2 {f a s mn lo hi : Int} {fr : List Int} (h : a ≤ f) (h2 : f < a + s) : inZ f ⟨a, s, mn, lo, hi, fr⟩ = true := decide_eq_true ⟨h, h2⟩
theorem frK_le {z : Zo} {k m : Nat} (h : FrK z m) (hk : k ≤ m) : FrK z k := ⟨fun j hj => h.1 j (by omega), fun j hj => h.2 j (by omega)⟩
/-- The frame ahead of the k-th one. -/
def lasI (xs : List Int) : Nat → Int
  | 0 => 0
  | k + 1 => xs.getD k 0
set_option maxHeartbeats 2000000 in
theorem hasFree_p {p : Nat → Prop} {z : Zo} {a : Option Addr} {c : Nat} {b : Bool} {w : World} (h1 : 1 ≤ z.f) (h2 : 1 ≤ z.s) (h3 : z.f + z.s ≤ 65) (hl : z.fr.length ≤ 1000) (hr : RdI w p a z.fr.length z.fr) (hb : b = true ↔ FrK z z.fr.length) :
    Calls Try.prog 49 #[zoV z a c] w (RetG (.bool b) w) := by
  have HB := Lib.hid hb
  obtain ⟨zf, zs, zm, zl, zh, fr⟩ := z
  simp only at h1 h2 h3 hl hr
  obtain ⟨m, hm⟩ : ∃ m, fr.length = m := ⟨_, rfl⟩
  have HM := Lib.hid hm
  have HRI := Lib.hid (hr.keep (q := p) (w' := w.alloc (.cells (cZ zf zs zm zl zh a fr.length c) 42)) (by simp) (fun _ a _ => a) fun g _ hg => Below.heap_alloc w _ g hg)
  have HBX := Lib.hid (Own.new w 42 (cZ zf zs zm zl zh a fr.length c))
  have HG := Lib.hid ((Grew.refl w).alloc (.cells (cZ zf zs zm zl zh a fr.length c) 42))
  rw [hm] at hl HRI HBX HG
  clear hb hr hm
  go_enter Try.func49, Try.ntmps49
  go_wp2_with fail
  rw [show fr.length = m from HM.out]
  generalize hsx : w.heap.size = sx at *
  generalize World.alloc w _ = wa at *
  go_loopw [3, 9] (fun lv kv wr => ∃ k : Nat, lv = .int .i64 (lasI fr k) ∧ kv = .int .i64 k ∧ k ≤ m ∧ Hid (FrK ⟨zf, zs, zm, zl, zh, fr⟩ k) ∧ Grew wa wr) (fun _ kv _ => m - (intOf kv).toNat)
  case atStart => exact ⟨0, rfl, rfl, by omega, Lib.hid ⟨fun j hj => by omega, fun j hj => by omega⟩, Grew.refl _⟩
  case round =>
    obtain ⟨k, rfl, rfl, hk, HF, G⟩ := hrel
    obtain ⟨wi, rfl⟩ : ∃ wi : World, wi = wr := ⟨_, rfl⟩
    obtain ⟨z0, z1, z2, z3, z4, z5⟩ := (HBX.out.grew G).six
    by_cases hkm : k < m
    · have hkL : k < fr.length := by rw [HM.out]; exact hkm
      obtain ⟨gf, of, rfl, -, hgf, x0⟩ := HRI.out.at_ hkL
      have x1 := (G.cells.1 gf _ hgf).trans x0
      have hla : lasI fr (k + 1) = fr.getD k 0 := rfl
      have HLA := Lib.hid hla
      have HBA : Hid (b = true → zf ≤ fr.getD k 0 ∧ fr.getD k 0 < zf + zs ∧ lasI fr k < fr.getD k 0) := Lib.hid fun h => by
        have h4 := HB.out.1 h
        have h5 := h4.1 k hkL
        refine ⟨h5.1, h5.2, ?_⟩
        cases k with
        | zero => have := h5.1; show 0 < _; simp only at this; omega
        | succ j => exact h4.2 j hkL
      have HST : Hid (zf ≤ fr.getD k 0 → fr.getD k 0 < zf + zs → lasI fr k < fr.getD k 0 → FrK ⟨zf, zs, zm, zl, zh, fr⟩ (k + 1)) := Lib.hid fun h4 h5 h6 => by
        refine ⟨fun j hj => ?_, fun j hj => ?_⟩
        · by_cases e : j = k
          · subst e; exact ⟨h4, h5⟩
          · exact HF.out.1 j (by omega)
        · by_cases e : j + 1 = k
          · subst e; exact h6
          · exact HF.out.2 j (by omega)
      generalize fr.getD k 0 = y at *
      generalize lasI fr k = la at *
      have j0 : (0 : Int) ≤ (k : Int) := by omega
      have j1 : (k : Int) < (m : Int) := by omega
      have HG2 := Lib.hid G
      clear G x0 hla
      by_cases t1 : y ≤ la
      · have HE : Hid (b = false) := Lib.hid (by
          cases b
          · rfl
          · have := (HBA.out rfl).2.2; omega)
        have HGG := Lib.hid (HG.out.trans HG2.out)
        go_wp2
        go_ret
        exact ⟨ret_bool HE.out.symm, HGG.out⟩
      · cases hq : inZ y ⟨zf, zs, zm, zl, zh, fr⟩
        · have HE : Hid (b = false) := Lib.hid (by
            cases b
            · rfl
            · have h4 := HBA.out rfl
              rw [inZ_t2 h4.1 h4.2.1] at hq
              exact absurd hq (by decide))
          have HGG := Lib.hid (HG.out.trans HG2.out)
          have HQ := Lib.hid hq
          clear hq
          go_wp2_with fail
          with_reducible refine (has_p (z := ⟨zf, zs, zm, zl, zh, fr⟩) h1 h2 h3 HQ.out).mono ?_
          rintro e3 w3 ⟨rfl, g3⟩
          have HG3 := Lib.hid (HGG.out.trans g3)
          clear g3
          go_wp2
          go_ret
          exact ⟨ret_bool HE.out.symm, HG3.out⟩
        · have h4 := of_decide_eq_true hq
          have HS := Lib.hid (HST.out h4.1 h4.2 (by omega))
          have HQ := Lib.hid hq
          clear hq h4
          go_wp2_with fail
          with_reducible refine (has_p (z := ⟨zf, zs, zm, zl, zh, fr⟩) h1 h2 h3 HQ.out).mono ?_
          rintro e3 w3 ⟨rfl, g3⟩
          have HG3 := Lib.hid (HG2.out.trans g3)
          clear g3
          go_wp2
          exact ⟨⟨k + 1, by rw [HLA.out], by go_num, by omega, HS, HG3.out⟩, by simp [intOf] <;> omega⟩
    · obtain rfl : k = m := by omega
      have HE := Lib.hid (HB.out.2 (show FrK _ fr.length by rw [HM.out]; exact HF.out))
      have HGG := Lib.hid (HG.out.trans G)
      clear G
      go_wp2
      go_ret
      exact ⟨ret_bool HE.out.symm, HGG.out⟩
end Go.Proofs.Ytphccdfdknihdaa

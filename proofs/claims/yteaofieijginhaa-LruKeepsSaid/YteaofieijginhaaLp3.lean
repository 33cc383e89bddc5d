/- The program's sets of frames, and its Check (layer 8): contracts. -/
import Derived.Test.YteaofieijginhaaLp2
import Derived.Test.YteaofieijginhaaLf3
import Derived.Test.YteaofieijginhaaMapSet
namespace Go.Mine
open Go Go.RowKit
/-- The frames of L may come to a set: each is one, none is in it or twice in L. -/
def tkB (f : Int → Bool) (L : List Int) : Bool := decide ((∀ y ∈ L, (1 ≤ y ∧ y ≤ 64) ∧ f y = false) ∧ L.Nodup)
theorem tk_step {f : Int → Bool} {L : List Int} {k : Nat} (h : k < L.length) :
    tkB f (L.take (k + 1)) = true ↔ tkB f (L.take k) = true ∧ (1 ≤ L.getD k 0 ∧ L.getD k 0 ≤ 64) ∧ (f (L.getD k 0) || decide (L.getD k 0 ∈ L.take k)) = false := by
  unfold tkB
  rw [take_getD1 h, decide_eq_true_iff, decide_eq_true_iff]
  generalize L.take k = M
  generalize L.getD k 0 = y
  rw [Bool.or_eq_false_iff, decide_eq_false_iff_not]
  constructor
  · rintro ⟨h1, h2⟩
    rw [List.nodup_append] at h2
    have hy := h1 y (List.mem_append_right _ (List.mem_singleton.2 rfl))
    exact ⟨⟨fun g hg => h1 g (List.mem_append_left _ hg), h2.1⟩, hy.1, hy.2, fun hm => h2.2.2 y hm y (List.mem_singleton.2 rfl) rfl⟩
  · rintro ⟨⟨h1, h2⟩, h3, h4, h5⟩
    refine ⟨fun g hg => ?_, ?_⟩
    · rcases List.mem_append.1 hg with hg | hg
      · exact h1 g hg
      · rw [List.mem_singleton.1 hg]; exact ⟨h3, h4⟩
    · rw [List.nodup_append]
      refine ⟨h2, by simp, fun a ha b hb e => ?_⟩
      rw [List.mem_singleton.1 hb] at e
      exact h5 (e ▸ ha)
theorem tk_mono {f : Int → Bool} {L : List Int} {k : Nat} (h : tkB f L = true) : tkB f (L.take k) = true := by
  unfold tkB at *
  have h := of_decide_eq_true h
  have hs : (L.take k).Sublist L := List.take_sublist ..
  exact decide_eq_true ⟨fun y hy => h.1 y (hs.subset hy), h.2.sublist hs⟩
theorem tk_no {f : Int → Bool} {L : List Int} {k : Nat} (h : ¬tkB f (L.take k) = true) : tkB f L = false := by
  cases hb : tkB f L
  · rfl
  · exact absurd (tk_mono hb) h
end Go.Mine
namespace Go.Proofs.Yteaofieijginhaa
open Go.RowKit Go.Mine

def f0B : Int → Bool := fun _ => false
def inA (L : List Int) : Int → Bool := fun y => f0B y || decide (y ∈ L)
def inAI (L M : List Int) : Int → Bool := fun y => inA L y || decide (y ∈ M)
theorem ok_three (x : Lr) : okB x = true ↔ tkB f0B x.a = true ∧ tkB (inA x.a) x.i = true ∧ c2B (x.a ++ x.i) x.r x.r.length = true := by
  rw [ok_is]
  have : c1B (x.a ++ x.i) (x.a ++ x.i).length = true ↔ tkB f0B x.a = true ∧ tkB (inA x.a) x.i = true := by
    unfold c1B tkB
    rw [List.take_length, decide_eq_true_iff, decide_eq_true_iff, decide_eq_true_iff, List.nodup_append]
    constructor
    · rintro ⟨h1, h2, h3, h4⟩
      refine ⟨⟨fun y hy => ⟨h1 y (List.mem_append_left _ hy), rfl⟩, h2⟩, fun y hy => ⟨h1 y (List.mem_append_right _ hy), ?_⟩, h3⟩
      show (false || decide (y ∈ x.a)) = false
      rw [Bool.false_or, decide_eq_false_iff_not]
      exact fun hm => h4 y hm y hy rfl
    · rintro ⟨⟨h1, h2⟩, h3, h4⟩
      refine ⟨fun y hy => (List.mem_append.1 hy).elim (fun h => (h1 y h).1) (fun h => (h3 y h).1), h2, h4, fun a ha b hb e => ?_⟩
      have := (h3 b hb).2
      rw [show inA x.a b = (false || decide (b ∈ x.a)) from rfl, Bool.false_or, decide_eq_false_iff_not] at this
      exact this (e ▸ ha)
  rw [this, and_assoc]
/-- Block b is a set of numbers: f tells which. -/
def BS (w : World) (b n : Nat) (f : Int → Bool) : Prop := ∃ sz, BSet Try.prog 3 4 w b n f sz
theorem zero_B (w : World) : (zeroValue 4).run Try.prog w = .ok (.bool false) w := by kernel_rfl
theorem BS.look {w : World} {b n : Nat} {f : Int → Bool} (h : BS w b n f) {x : Int} (hx : (Lit.int .i64 x).wf = true) : (Instr.lookup 52 (.map (some b)) (.int .i64 x) false).run Try.prog w = .ok (.bool (f x)) w :=
  h.elim fun _ h => BSet.look h Try.underlying3 Try.underlying4 Try.underlying52 (zero_B w) hx
theorem BS.store {w : World} {b n : Nat} {f : Int → Bool} (h : BS w b n f) (hn : n < 100000) {x : Int} (hx : (Lit.int .i64 x).wf = true) : ∃ w', (Instr.mapUpdate 52 (.map (some b)) (.int .i64 x) (.bool true)).run Try.prog w = .ok () w' ∧ BS w' b (n + 1) (fun y => f y || decide (y = x)) ∧ w.grownBy w' (some b) := by
  obtain ⟨sz, h⟩ := h
  obtain ⟨w', h1, h2, h3⟩ := BSet.store h Try.underlying3 Try.underlying4 Try.underlying52 (by unfold maxLen; omega) hx
  exact ⟨w', h1, ⟨_, h2⟩, h3⟩
theorem BS.congr {w : World} {b n : Nat} {f g : Int → Bool} (h : BS w b n f) (e : ∀ x, f x = g x) : BS w b n g := h.elim fun sz h => ⟨sz, h.congr (fun x _ => e x) rfl⟩
theorem BS.kept {w w' : World} {b n : Nat} {f : Int → Bool} {r : Option Nat} (h : BS w b n f) (g : w.grownBy w' r) (hr : r ≠ some b) : BS w' b n f := h.elim fun sz h => ⟨sz, h.kept g hr⟩
theorem BS.grew {w w' : World} {b n : Nat} {f : Int → Bool} (h : BS w b n f) (g : Grew w w') : BS w' b n f := h.elim fun sz h => ⟨sz, h.grew g⟩
theorem BS.lt {w : World} {b n : Nat} {f : Int → Bool} (h : BS w b n f) : b < w.heap.size := h.elim fun _ h => h.lt
def isF (y : Int) : Bool := decide (1 ≤ y ∧ y ≤ 64)
theorem isFrame_v {b : Bool} (y : Int) (w : World) (h : isF y = b) : Calls Try.prog 50 #[.int .i64 y] w fun e w' => e = .returned (.bool b) ∧ w' = w := by
  subst h
  go_enter Try.func50, Try.ntmps50
  by_cases h1 : 1 ≤ y
  · by_cases h2 : y ≤ 64
    · go_wp2
      go_ret
      exact ⟨ret_bool (decide_eq_true ⟨h1, h2⟩).symm, rfl⟩
    · go_wp2
      go_ret
      exact ⟨ret_bool (decide_eq_false (fun h => by omega)).symm, rfl⟩
  · go_wp2
    go_ret
    exact ⟨ret_bool (decide_eq_false (fun h => by omega)).symm, rfl⟩
def RetTk (f : Int → Bool) (L : List Int) (b n : Nat) (w : World) (e : Ending) (w' : World) : Prop := e = .returned (.bool (tkB f L)) ∧ w.grownBy w' (some b) ∧ (tkB f L = true → BS w' b (n + L.length) (fun y => f y || decide (y ∈ L)))
set_option maxHeartbeats 1000000 in
theorem takes_any {f : Int → Bool} {L : List Int} {B : Nat} (b n : Nat) (v : Value) (w : World) (S : BS w b n f) (R : RwI w B v L) (hl : L.length ≤ 10000) (hn : n ≤ 10000) (hvb : v.ownBlock ≠ some b) :
    Calls Try.prog 44 #[.map (some b), v] w (RetTk f L b n w) := by
  obtain ⟨a, c, rfl⟩ := R.len
  have HR := Lib.hid R
  have HV := Lib.hid hvb
  have HS := Lib.hid S
  clear R hvb S
  go_enter Try.func44, Try.ntmps44
  go_wp2_with fail
  go_loopw [9] (fun iv wr => ∃ k : Nat, iv = .int .i64 k ∧ k ≤ L.length ∧ tkB f (L.take k) = true ∧ BS wr b (n + k) (fun y => f y || decide (y ∈ L.take k)) ∧ w.grownBy wr (some b)) (fun iv _ => L.length - (intOf iv).toNat)
  case atStart => exact ⟨0, rfl, by omega, by unfold tkB; simp, HS.out.congr (fun x => by simp), grown_refl _ _⟩
  case round =>
    obtain ⟨k, rfl, hk, ht, S, G⟩ := hrel
    obtain ⟨wo, rfl⟩ : ∃ wo : World, wo = wr := ⟨_, rfl⟩
    have HT := Lib.hid ht
    have HSk := Lib.hid S
    have HG := Lib.hid G
    clear HS ht S G
    by_cases hlt : k < L.length
    · obtain ⟨g, rfl, hg, x0⟩ := rowI_at HR.out hlt
      have hgb : ¬g = b := fun e => HV.out (by rw [e]; rfl)
      have x1 : wo.cell? ⟨g, k, none⟩ = some (.int .i64 (L.getD k 0)) := (World.cell?_of_block (a := ⟨g, k, none⟩) (HG.out.block g hg (fun e => hgb (by injection e with e <;> omega)))).trans x0
      have hst := Lib.hid (tk_step (f := f) hlt)
      have hmt := Lib.hid (fun y => show y ∈ L.take (k + 1) ↔ y ∈ L.take k ∨ y = L.getD k 0 from by rw [take_getD1 hlt, List.mem_append, List.mem_singleton])
      have HNO := Lib.hid (fun h => tk_no (f := f) (L := L) (k := k + 1) h)
      generalize L.getD k 0 = y at *
      have i0 : (0 : Int) ≤ (k : Int) := by omega
      have i1 : (k : Int) < (L.length : Int) := by omega
      clear x0
      cases hF : isF y
      · have HF := Lib.hid hF
        have HB := Lib.hid (HNO.out fun h => of_decide_eq_false HF.out (hst.out.1 h).2.1)
        clear hF
        go_wp2_with (go_at_call 50; (with_reducible refine (isFrame_v _ _ HF.out).mono ?_); rintro e w1 ⟨rfl, rfl⟩)
        go_ret
        exact ⟨ret_bool HB.out.symm, HG.out, fun h => by rw [HB.out] at h; cases h⟩
      · have HF := Lib.hid hF
        have hyF := of_decide_eq_true hF
        have hwf : (Lit.int .i64 y).wf = true := WalkArith.wf_i64 (by omega)
        have hlk := HSk.out.look hwf
        clear hF
        cases hm : (f y || decide (y ∈ L.take k))
        · rw [hm] at hlk
          have HM := Lib.hid hm
          obtain ⟨w2, hup, S2, G2⟩ := HSk.out.store (by omega) hwf
          have HS2 := Lib.hid S2
          have HG2 := Lib.hid (grown_trans HG.out G2)
          clear hm S2 G2 hwf
          go_wp2_with (go_at_call 50; (with_reducible refine (isFrame_v _ _ HF.out).mono ?_); rintro e w1 ⟨rfl, rfl⟩)
          refine ⟨⟨k + 1, by go_num, by omega, hst.out.2 ⟨HT.out, hyF, HM.out⟩, HS2.out.congr (fun z => ?_), HG2.out⟩, by simp [intOf]; omega⟩
          rw [Bool.or_assoc]
          congr 1
          rw [Bool.eq_iff_iff, Bool.or_eq_true, decide_eq_true_iff, decide_eq_true_iff, decide_eq_true_iff]
          exact (hmt.out z).symm
        · rw [hm] at hlk
          have HB := Lib.hid (HNO.out fun h => by have := (hst.out.1 h).2.2; rw [hm] at this; cases this)
          clear hm hwf
          go_wp2_with (go_at_call 50; (with_reducible refine (isFrame_v _ _ HF.out).mono ?_); rintro e w1 ⟨rfl, rfl⟩)
          go_ret
          exact ⟨ret_bool HB.out.symm, HG.out, fun h => by rw [HB.out] at h; cases h⟩
    · have hkn : k = L.length := by omega
      subst hkn
      have hT := HT.out
      have hS := HSk.out
      rw [List.take_length] at hT
      simp only [List.take_length] at hS
      have HT2 := Lib.hid hT
      have HS2 := Lib.hid hS
      clear hT hS HT HSk
      go_wp2
      go_ret
      exact ⟨ret_bool HT2.out.symm, HG.out, fun _ => HS2.out⟩
set_option maxHeartbeats 1000000 in
theorem asc_any {f : Int → Bool} {A L : List Int} {B : Nat} {r : Bool} (b n : Nat) (v : Value) (w : World) (S : BS w b n f) (hf : ∀ y, f y = true ↔ y ∈ A) (h1 : ∀ y, y ∈ A → 1 ≤ y) (R : RwI w B v L) (hl : L.length ≤ 10000) (hwf : ∀ y ∈ L, (Lit.int .i64 y).wf = true) (hr : c2B A L L.length = r) :
    Calls Try.prog 45 #[.map (some b), v] w fun e w' => e = .returned (.bool r) ∧ w' = w := by
  obtain ⟨a, c, rfl⟩ := R.len
  have HR := Lib.hid R
  have HS := Lib.hid S
  have HF := Lib.hid hf
  have H1 := Lib.hid h1
  have HW := Lib.hid hwf
  have HRR := Lib.hid hr
  clear R S hf h1 hwf hr
  go_enter Try.func45, Try.ntmps45
  go_wp2_with fail
  go_loopw [5, 10] (fun lv iv wr => ∃ k : Nat, iv = .int .i64 k ∧ lv = .int .i64 (if k = 0 then 0 else L.getD (k - 1) 0) ∧ k ≤ L.length ∧ c2B A L k = true ∧ w = wr) (fun _ iv _ => L.length - (intOf iv).toNat)
  case atStart => exact ⟨0, rfl, rfl, by omega, by unfold c2B AscP; simp, rfl⟩
  case round =>
    obtain ⟨k, rfl, rfl, hk, hc, rfl⟩ := hrel
    have HC := Lib.hid hc
    clear hc
    by_cases hlt : k < L.length
    · obtain ⟨g, rfl, hg, x0⟩ := rowI_at HR.out hlt
      have hst := Lib.hid (c2_step (L := A) hlt)
      have HNO := Lib.hid (fun (h : ¬c2B A L (k + 1) = true) => show c2B A L L.length = false from by
        cases hb : c2B A L L.length
        · rfl
        · exact absurd (c2_mono (by omega) hb) h)
      have hwy := HW.out _ (getD_mem hlt)
      have hlk := HS.out.look hwy
      have hyA := HF.out (L.getD k 0)
      have HK := Lib.hid (show (if k + 1 = 0 then 0 else L.getD (k + 1 - 1) 0) = L.getD k 0 from by rw [if_neg (by omega), show k + 1 - 1 = k by omega])
      have hla : ∀ la, (if k = 0 then 0 else L.getD (k - 1) 0) = la → L.getD k 0 ∈ A → ((k = 0 ∨ L.getD (k - 1) 0 < L.getD k 0) ↔ la < L.getD k 0) := by
        intro la e hm
        by_cases k0 : k = 0
        · rw [if_pos k0] at e
          have := H1.out _ hm
          exact ⟨fun _ => by omega, fun _ => .inl k0⟩
        · rw [if_neg k0] at e
          rw [e]
          exact ⟨fun h => h.resolve_left k0, .inr⟩
      have hla2 : ∀ la, (if k = 0 then 0 else L.getD (k - 1) 0) = la → (k = 0 ∨ L.getD (k - 1) 0 < L.getD k 0) → L.getD k 0 ∈ A → la < L.getD k 0 := fun la e h hm => (hla la e hm).1 h
      generalize hlast : (if k = 0 then 0 else L.getD (k - 1) 0) = la at *
      have HLA := Lib.hid (hla la rfl)
      clear hla hla2
      generalize L.getD k 0 = y at *
      have HKy := Lib.hid HK.out
      have i0 : (0 : Int) ≤ (k : Int) := by omega
      have i1 : (k : Int) < (L.length : Int) := by omega
      have HYA := Lib.hid hyA
      have HLS := Lib.hid hlast
      clear hwy hyA hlast HK
      by_cases hle : y ≤ la
      · have HB := Lib.hid (HNO.out fun h => by have h2 := (hst.out.1 h).2; have := (HLA.out h2.1).1 h2.2; omega)
        go_wp2
        go_ret
        exact ⟨ret_bool (HRR.out.symm.trans HB.out).symm, rfl⟩
      · cases hb : f y
        · rw [hb] at hlk
          have HB := Lib.hid (HNO.out fun h => by have h2 := HYA.out.2 (hst.out.1 h).2.1; rw [hb] at h2; cases h2)
          clear hb
          go_wp2
          go_ret
          exact ⟨ret_bool (HRR.out.symm.trans HB.out).symm, rfl⟩
        · rw [hb] at hlk
          have hm := HYA.out.1 hb
          have HB := Lib.hid (hst.out.2 ⟨HC.out, hm, (HLA.out hm).2 (by omega)⟩)
          clear hb hm
          go_wp2
          exact ⟨⟨k + 1, by go_num, by rw [HKy.out], by omega, HB.out, by first | rfl | trivial⟩, by simp [intOf]; omega⟩
    · have hkn : k = L.length := by omega
      subst hkn
      have HB := Lib.hid (HRR.out.symm.trans HC.out)
      generalize (if L.length = 0 then 0 else L.getD (L.length - 1) 0) = la
      go_wp2
      go_ret
      exact ⟨ret_bool HB.out.symm, rfl⟩
end Go.Proofs.Yteaofieijginhaa

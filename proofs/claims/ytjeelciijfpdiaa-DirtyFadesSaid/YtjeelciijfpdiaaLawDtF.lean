/- DirtyFades holds: completions are counted one by one, and what a device completed counts half behind each period. -/
import Derived.Test.YtjeelciijfpdiaaDt8
import Derived.Deep.CutBlock
namespace Go.Mine
open Go Go.RowKit
theorem fade_st {z : Pd} (h2 : z.e.length = 2) (he : z.e.getD 1 0 ≤ 100) : (z.l = 1 ∧ (stD 1 z).e.getD 1 0 = (z.e.getD 1 0 + 1) / 2 ∧ (stD 1 z).l = z.p) ∨ (¬z.l = 1 ∧ (stD 1 z).e.getD 1 0 = z.e.getD 1 0 + 1 ∧ (stD 1 z).l = z.l - 1) := by
  by_cases h : z.l = 1
  · refine .inl ⟨h, ?_, by rw [st_t h]⟩
    rw [st_t h]
    show (halD (incD 1 z.e)).getD 1 0 = _
    rw [hal_at (by rw [inc_len]; omega), inc_self (by omega), Int.min_eq_left (by omega)]
  · refine .inr ⟨h, ?_, by rw [st_f h]⟩
    rw [st_f h]
    show (incD 1 z.e).getD 1 0 = _
    rw [inc_self (by omega), Int.min_eq_left (by omega)]
theorem PdR.far3 {w E : World} {b : Nat} {v x y z : Value} {u : Pd} (h : PdR w (fun g => g ≠ b) v u) (hw : ((w.setCell ⟨b, 0, none⟩ x).setCell ⟨b, 1, none⟩ y).setCell ⟨b, 2, none⟩ z = E) : PdR E (fun g => g ≠ b) v u := by
  subst hw
  exact h.keep (by simp [World.setCell]) (fun _ h _ => h) fun g hg _ => ((Below.heap_setCell _ ⟨b, 2, none⟩ z g hg).trans (Below.heap_setCell _ ⟨b, 1, none⟩ y g hg)).trans (Below.heap_setCell _ ⟨b, 0, none⟩ x g hg)
theorem PdR.open_ {w : World} {p : Nat → Prop} {v : Value} {x : Pd} {n : Nat} {P : Int} (h : PdR w p v x) (hn : x.e.length = n) (hp : x.p = P) : ∃ a c, v = .agg #[.slice a n c, .int .i64 P, .int .i64 x.l] ∧ RdI w p a n x.e := by
  obtain ⟨a, c, e, r⟩ := h
  subst hn hp
  exact ⟨a, c, e, r⟩
theorem PdR.mono {w : World} {p q : Nat → Prop} {v : Value} {u : Pd} (h : PdR w p v u) (hp : ∀ g, p g → g < w.heap.size → q g) : PdR w q v u := h.keep (Nat.le_refl _) hp fun _ _ _ => rfl
end Go.Mine
namespace Go.Proofs.Ytjeelciijfpdiaa
open Go.ChangeShapes Go.WideShapes Go.ChangeAt Go.RowKit Go.Mine

set_option maxRecDepth 100000 in
set_option maxHeartbeats 4000000 in
theorem fades_core (u v : Int) (w : World) (_ : (Lit.int .i64 u).wf = true) (_ : (Lit.int .i64 v).wf = true) :
    Calls Try.prog 5 #[.int .i64 u, .int .i64 v] w (RetG (.bool true) w) := by
  obtain ⟨n0, n1⟩ := cut_lt u 65 (by omega)
  obtain ⟨r0, r1⟩ := cut_lt v 40 (by omega)
  obtain ⟨n, hn⟩ : ∃ x, cut u 65 = x := ⟨_, rfl⟩
  obtain ⟨r, hr⟩ : ∃ x, cut v 40 = x := ⟨_, rfl⟩
  rw [hn] at n0 n1
  rw [hr] at r0 r1
  obtain ⟨N, rfl⟩ := Int.eq_ofNat_of_zero_le n0
  obtain ⟨k, hk⟩ : ∃ x, 1 + r = x := ⟨_, rfl⟩
  have nk : IntKind.i64.wrap (1 + r) = k := (IntWalk.i64_in _ (by omega)).trans hk
  have k0 : 1 ≤ k := by omega
  have k1 : k ≤ 40 := by omega
  have hkb : frB k 1 1000000 = true := frB_t k0 (by omega)
  have HNW := Lib.hid (show NwR 2 k ⟨[0, 0], k, k⟩ 0 from .inl ⟨rfl, hkb, rfl, rfl⟩)
  have HOK0 := Lib.hid (show OkD ⟨[0, 0], k, k⟩ from new_ok (n := 2) rfl hkb)
  have HCW := Lib.hid (show CmR ⟨[0, 0], k, k⟩ 1 N (itD 1 N ⟨[0, 0], k, k⟩) 0 from .inr (.inr (.inr ⟨okD_iff.2 HOK0.out, rfl, frB_t n0 (by omega), rfl, rfl⟩)))
  have HIT := Lib.hid (fun i => it_p 1 i ⟨[0, 0], k, k⟩)
  have HIO := Lib.hid (fun i => it_ok (d := 1) i HOK0.out (Nat.lt_succ_self 1))
  have hs2 : (Pd.mk [0, 0] k k).e.length ≤ 1000 := by show (2 : Nat) ≤ 1000; omega
  have HN := Lib.hid hn
  have HR := Lib.hid hr
  clear hn hr hk hkb
  go_enter Try.func5, Try.ntmps5
  go_wp2_with fail
  with_reducible refine (cut_any _ _ _ (by omega) (by omega)).mono ?_
  rintro e w1 ⟨rfl, rfl⟩
  rw [HN.out]
  go_wp2_with fail
  with_reducible refine (cut_any _ _ _ (by omega) (by omega)).mono ?_
  rintro e w1 ⟨rfl, rfl⟩
  rw [HR.out]
  go_wp2_with fail
  with_reducible refine (new_p HNW.out).mono ?_
  rintro e1 w1 ⟨v1, rfl, P1, g1⟩
  obtain ⟨a1, c1, rfl, r1'⟩ := P1
  have HP1 := Lib.hid ((show PdR w1 (fun b => b ≠ w1.heap.size) (.agg #[.slice a1 2 c1, .int .i64 k, .int .i64 k]) ⟨[0, 0], k, k⟩ from ⟨a1, c1, rfl, r1'.keep (Nat.le_refl _) (fun g _ h => by omega) fun _ _ _ => rfl⟩).grew ((Grew.refl w1).alloc (.cells #[.slice a1 2 c1, .int .i64 k, .int .i64 k] 27)))
  have HG1 := Lib.hid (g1.alloc (.cells #[.slice a1 2 c1, .int .i64 k, .int .i64 k] 27))
  have HO1 := Lib.hid (Own.new w1 27 #[.slice a1 2 c1, .int .i64 k, .int .i64 k])
  have hwg : w.heap.size ≤ w1.heap.size := g1.size
  clear g1 r1'
  go_wp2_with fail
  generalize w1.heap.size = g at *
  with_reducible refine (complete_p HP1.out hs2 HCW.out).mono ?_
  rintro e2 w2 ⟨v2, rfl, P2, g2⟩
  have hl1 := HO1.out.lt
  obtain ⟨a2, c2, rfl, -⟩ := P2.open_ (HIT.out N).2 (HIT.out N).1
  have hPW := P2.mono (q := fun b => b ≠ g) (fun b h _ => by omega)
  obtain ⟨lw, hlw⟩ : ∃ l, (itD 1 N ⟨[0, 0], k, k⟩).l = l := ⟨_, rfl⟩
  have hn2 : ([0, 0] : List Int).length = 2 := rfl
  rw [hlw, hn2] at hPW ⊢
  have GX := (Grew.refl w2).alloc (.cells #[.slice a2 2 c2, .int .i64 k, .int .i64 lw] 27)
  have HPW := Lib.hid (hPW.grew GX)
  have HOW := Lib.hid (Own.new w2 27 #[.slice a2 2 c2, .int .i64 k, .int .i64 lw])
  have HO2 := Lib.hid ((HO1.out.grew g2).grew GX)
  have HP2 := Lib.hid ((HP1.out.grew g2).grew GX)
  have HG2 := Lib.hid ((HG1.out.trans g2).trans GX)
  have hgz : g < w2.heap.size := (HO1.out.grew g2).lt
  clear P2 hPW hl1 g2 GX hlw hn2 HO1 HP1 HG1 HCW HNW
  go_wp2_with fail
  generalize World.alloc w2 _ = w3 at *
  generalize w2.heap.size = gw at *
  have hgg : g ≠ gw := by omega
  go_loopw [8, 11, 12, 13] (fun ev sv lv iv wr => ∃ (i : Nat) (z : Pd) (a : Option Addr) (c : Nat), iv = .int .i64 i ∧ i ≤ N ∧ ev = .int .i64 0 ∧ Hid (itD 1 i ⟨[0, 0], k, k⟩ = z) ∧ sv = .int .i64 (z.e.getD 1 0) ∧ lv = .int .i64 z.l ∧ z.e.getD 1 0 ≤ i ∧
    Own wr g 27 #[.slice a 2 c, .int .i64 k, .int .i64 z.l] ∧ PdR wr (fun b => b ≠ g) (.agg #[.slice a 2 c, .int .i64 k, .int .i64 z.l]) z ∧ Own wr gw 27 #[.slice a2 2 c2, .int .i64 k, .int .i64 lw] ∧ PdR wr (fun b => b ≠ g) (.agg #[.slice a2 2 c2, .int .i64 k, .int .i64 lw]) (itD 1 N ⟨[0, 0], k, k⟩) ∧ Grew w wr) (fun _ _ _ iv _ => N - (intOf iv).toNat)
  case atStart => exact ⟨0, ⟨[0, 0], k, k⟩, a1, c1, rfl, by omega, rfl, Lib.hid rfl, rfl, rfl, by show (0 : Int) ≤ _; omega, HO2.out, HP2.out, HOW.out, HPW.out, HG2.out⟩
  case round =>
    obtain ⟨i, z, a, c, rfl, hi, rfl, HZ, rfl, rfl, hei, Oz, Pz, Ow, Pw, G⟩ := hrel
    obtain ⟨wo, rfl⟩ : ∃ wo : World, wo = wr := ⟨_, rfl⟩
    have hzl : z.e.length = 2 := by rw [← HZ.out]; exact (HIT.out i).2
    have hzp : z.p = k := by rw [← HZ.out]; exact (HIT.out i).1
    have hok : OkD z := by rw [← HZ.out]; exact HIO.out i
    have HOZ := Lib.hid Oz
    have HPZ := Lib.hid Pz
    have HOW3 := Lib.hid Ow
    have HPW3 := Lib.hid Pw
    have HG3 := Lib.hid G
    obtain ⟨m0, m1, m2, m3, m4, m5⟩ := Oz.three
    by_cases hlt : i < N
    · have HC := Lib.hid (show CmR z 1 1 (stD 1 z) 0 from .inr (.inr (.inr ⟨okD_iff.2 hok, by unfold hasD; rw [hzl]; rfl, rfl, rfl, rfl⟩)))
      have hst := fade_st hzl (by omega)
      have hyl : (stD 1 z).e.length = 2 := (st_p 1 z).2.trans hzl
      have hyp : (stD 1 z).p = k := (st_p 1 z).1.trans hzp
      have HY : Hid (itD 1 (i + 1) ⟨[0, 0], k, k⟩ = stD 1 z) := Lib.hid (by rw [it_s, HZ.out])
      have hz5 : z.e.length ≤ 1000 := by omega
      have e0 := (hok.ev 1 (by omega)).1
      have l1 := hok.l1
      have l2 := hok.l2
      rw [hzp] at hst l2
      obtain ⟨y, hy⟩ : ∃ y, stD 1 z = y := ⟨_, rfl⟩
      rw [hy] at HC hst hyl hyp HY
      obtain ⟨e, he⟩ : ∃ e, z.e.getD 1 0 = e := ⟨_, rfl⟩
      obtain ⟨l, hl⟩ : ∃ l, z.l = l := ⟨_, rfl⟩
      obtain ⟨e', he'⟩ : ∃ e', y.e.getD 1 0 = e' := ⟨_, rfl⟩
      obtain ⟨l', hl'⟩ : ∃ l', y.l = l' := ⟨_, rfl⟩
      rw [he] at hei e0 hst ⊢
      rw [hl] at l1 l2 hst m2 HOZ HPZ ⊢
      rw [he', hl'] at hst
      have HE := Lib.hid he'
      have HL := Lib.hid hl'
      have hj0 : (0 : Int) ≤ (i : Int) := by omega
      have hj1 : (i : Int) < (N : Int) := by omega
      clear Oz Pz Ow Pw G hok hzl hzp hy he hl he' hl'
      go_wp2_with fail
      with_reducible refine (complete_p HPZ.out hz5 HC.out).mono ?_
      rintro e3 w4 ⟨v4, rfl, P4, g4⟩
      have hgo := HOZ.out.lt
      obtain ⟨a4, c4, rfl, r4⟩ := P4.open_ hyl hyp
      rw [HL.out] at P4 ⊢
      obtain ⟨ga, oa, rfl, hga, hgl, x1⟩ := r4.at_ (k := 1) (by rw [hyl]; omega)
      rw [HE.out] at x1
      have hne : ga ≠ g := by omega
      have hne2 : g ≠ ga := by omega
      have HP5 := Lib.hid (P4.mono (q := fun b => b ≠ g) (fun b h _ => by omega))
      have HO5 := Lib.hid (HOZ.out.grew g4)
      have HOW5 := Lib.hid (HOW3.out.grew g4)
      have HPW5 := Lib.hid (HPW3.out.grew g4)
      have HG5 := Lib.hid (HG3.out.trans g4)
      clear m0 m1 m2 m3 m4 m5 r4 P4 g4
      obtain ⟨m0, m1, m2, m3, m4, m5⟩ := HO5.out.three
      rcases hst with ⟨rfl, t1, t2⟩ | ⟨t0, t1, t2⟩
      · have q1 : IntKind.i64.wrap (e + 1) = e + 1 := IntWalk.i64_in _ (by omega)
        have q2 : Int.tdiv (e + 1) 2 = e' := by rw [Int.tdiv_eq_ediv_of_nonneg (by omega), t1]
        have q3 : IntKind.i64.wrap e' = e' := IntWalk.i64_in _ (by omega)
        have q4 : wrap64 e' = e' := IntWalk.wrap64_in _ (by omega)
        have hei2 : e' ≤ ((i + 1 : Nat) : Int) := by omega
        subst t2
        clear t1
        go_wp2
        generalize hw : World.setCell (World.setCell (World.setCell w4 _ _) _ _) _ _ = E
        exact ⟨⟨i + 1, y, _, c4, by go_num, by omega, rfl, HY, by rw [HE.out], by rw [HL.out], by rw [HE.out]; omega, by rw [HL.out]; exact HO5.out.store3 hw, by rw [HL.out]; exact HP5.out.far3 hw, HOW5.out.far3 hw (Ne.symm hgg), HPW5.out.far3 hw, HG5.out.far3 hw hwg⟩, by simp [intOf] <;> omega⟩
      · have q1 : IntKind.i64.wrap (e + 1) = e + 1 := IntWalk.i64_in _ (by omega)
        have q2 : IntKind.i64.wrap (l - 1) = l - 1 := IntWalk.i64_in _ (by omega)
        have q3 : ¬l - 1 = 0 := by omega
        have q4 : (l - 1 == 0) = false := by simpa using q3
        have hei2 : e' ≤ ((i + 1 : Nat) : Int) := by omega
        subst t1 t2
        go_wp2
        generalize hw : World.setCell (World.setCell (World.setCell w4 _ _) _ _) _ _ = E
        exact ⟨⟨i + 1, y, _, c4, by go_num, by omega, rfl, HY, by rw [HE.out], by rw [HL.out], by rw [HE.out]; omega, by rw [HL.out]; exact HO5.out.store3 hw, by rw [HL.out]; exact HP5.out.far3 hw, HOW5.out.far3 hw (Ne.symm hgg), HPW5.out.far3 hw, HG5.out.far3 hw hwg⟩, by simp [intOf] <;> omega⟩
    · obtain rfl : i = N := by omega
      rw [HZ.out] at Pw
      obtain ⟨n0, n1, n2, -⟩ := Ow.three
      have HPW4 := Lib.hid Pw
      have hz5 : z.e.length ≤ 1000 := by omega
      clear Oz Pz Ow Pw G hok
      go_wp2_with fail
      with_reducible refine (same_q HPZ.out HPW4.out hz5).mono ?_
      rintro e3 w4 ⟨rfl, g4⟩
      have HG4 := Lib.hid (HG3.out.trans g4)
      clear g4
      go_wp2_with fail
      with_reducible refine (awake_any _).mono ?_
      rintro e5 w5 ⟨rfl, g5⟩
      have HG5 := Lib.hid (HG4.out.trans g5)
      clear g5
      go_wp2
      go_ret
      exact ⟨rfl, HG5.out⟩

theorem Try.own : ownKnob Try.prog.godebug = none := by kernel_rfl
theorem Try.laidOut : laidOutB Try.prog = true := by kernel_rfl

theorem dirtyFades_contract (W : World) (base : Nat) (args : Array Value) (H : Type) (enc : TypeId × Value → H) (ds : List (DataW H)) (p : List MemPlace)
    (hval : ∀ (j : Nat) t v, Try.f5.params[j]? = some t → args[j]? = some v → Value.okWide Try.prog W .any base t v)
    (hA : DataW.TrodAll enc Try.prog W 0 (fun _ => true) true Try.f5.params.toList args.toList ds p) :
    (∃ d0 d1, ds = [d0, d1]) ∧ Calls Try.prog 5 args W fun e W' => e = .returned (.bool true) ∧ Below W.heap.size W W' := by
  rw [Try.params5] at hval hA
  obtain ⟨v0, v1, d0, d1, p0, p1, ha, hd, hp, h0, h1⟩ := args_2 hA
  subst ha hd
  obtain ⟨n0, rfl, -, -, hw0⟩ := open_int Try.underlying3 (hval 0 _ _ rfl rfl) h0
  obtain ⟨n1, rfl, -, -, hw1⟩ := open_int Try.underlying3 (hval 1 _ _ rfl rfl) h1
  exact ⟨⟨_, _, rfl⟩, (fades_core n0 n1 W hw0 hw1).mono fun _ _ h => h⟩

set_option maxRecDepth 100000 in
theorem dirtyFades_lifted (os : Os) (started : os.Started) (H : Type) (enc : TypeId × Value → H) :
    ReturnsInHanded {} Try.checked os 5 .any (Rows.dirtyFadesSpec.pre6 enc Try.prog Try.f5 Rows.dirtyFadesRow.domain false) (Rows.dirtyFadesSpec.post enc Try.prog Try.f5 false true false false) := by
  refine returnsInHanded_of_change (C := Try.checked) Try.own started (by kernel_rfl) Try.func5
    (ChangeSpec.witness6 (enc := enc) (C := Try.checked) false ⟨#[], #[.int .i64 0, .int .i64 0], []⟩ 8 (by kernel_rfl) (by kernel_rfl) (by kernel_rfl) (by kernel_rfl)) ?_
  intro W base args ds gs before hval hW _ _
  obtain ⟨p, q, hA, hV, hrest⟩ := id hW
  obtain ⟨⟨d0, d1, rfl⟩, hc⟩ := dirtyFades_contract W base args H enc ds p hval hA
  obtain ⟨rfl, -⟩ := trodVars_none hV
  refine hc.mono fun e W' ⟨he, hb⟩ => ⟨_, he, ?_⟩
  exact law_close (tb := 4) Try.laidOut (by rw [Try.params5]; decide +kernel) Try.underlying4 rfl rfl hW rfl rfl rfl hb

theorem dirtyFades_holds : Rows.DirtyFadesSaid :=
  OpenClaim.holds_of_wide 5 Try.f5 rfl rfl rfl rfl rfl rfl rfl ⟨rfl, rfl, rfl, rfl, rfl⟩ rfl rfl rfl rfl rfl (by kernel_rfl) Try.func5 (by kernel_rfl)
    (of_decide_eq_true (by kernel_rfl)) (by unfold Func.isWrapper; first | (rw [if_pos (by decide +kernel)]; kernel_rfl) | (rw [if_neg (by decide +kernel)]; exact ⟨rfl, rfl⟩))
    (fun os started H enc _ => dirtyFades_lifted os started H enc)

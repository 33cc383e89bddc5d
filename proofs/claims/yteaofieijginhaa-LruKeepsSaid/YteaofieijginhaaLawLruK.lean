/- LruKeeps holds: touching, balancing and scanning lose no frame and add none, and keep the lists right. -/
import Derived.Test.YteaofieijginhaaLp12
import Derived.Deep.RegionHeld3
import Derived.Deep.DeepCutAuto
import Derived.Deep.RegionWith
namespace Go.Proofs.Yteaofieijginhaa
open Go.ChangeShapes Go.WideShapes Go.ChangeAt Go.RowKit Go.Mine

/-- Block g holds 65 marks; those of the frames of P are set. -/
def KpM (w : World) (g : Nat) (P : Int → Prop) : Prop := ∃ cs, Mine.Own w g 46 cs ∧ cs.size = 65 ∧ (∀ k, k < 65 → ∃ b, cs[k]? = some (.bool b)) ∧ ∀ k : Nat, P k → k < 65 → cs[k]? = some (.bool true)
theorem KpM.grew {w w' : World} {g : Nat} {P : Int → Prop} (h : KpM w g P) (k : Grew w w') : KpM w' g P := h.elim fun cs h => ⟨cs, h.1.grew k, h.2⟩
theorem KpM.past {w w' : World} {g r : Nat} {P : Int → Prop} (h : KpM w g P) (k : w.grownBy w' (some r)) (hr : g ≠ r) : KpM w' g P := h.elim fun cs h => ⟨cs, h.1.past k hr, h.2⟩
theorem KpM.imp {w : World} {g : Nat} {P Q : Int → Prop} (h : KpM w g P) (k : ∀ f, Q f → P f) : KpM w g Q := h.elim fun cs h => ⟨cs, h.1, h.2.1, h.2.2.1, fun n hn => h.2.2.2 n (k _ hn)⟩
theorem KpM.put {w : World} {g n : Nat} {P : Int → Prop} (h : KpM w g P) (hn : n < 65) : KpM (w.setCell ⟨g, n, none⟩ (.bool true)) g (fun f => P f ∨ f = n) := by
  obtain ⟨cs, h1, h2, h3, h4⟩ := h
  refine ⟨_, h1.set n _, by simpa using h2, fun k hk => ?_, fun k hp hk => ?_⟩
  · obtain ⟨b, hb⟩ := h3 k hk
    by_cases e : n = k
    · exact ⟨true, by rw [Array.getElem?_setIfInBounds, if_pos e, if_pos (by omega)]⟩
    · exact ⟨b, by rw [Array.getElem?_setIfInBounds, if_neg e]; exact hb⟩
  · rw [Array.getElem?_setIfInBounds]
    by_cases e : n = k
    · rw [if_pos e, if_pos (by omega)]
    · rw [if_neg e]
      exact h4 k (hp.resolve_right fun e2 => e (by omega)) hk
theorem KpM.far3 {w w' : World} {g b : Nat} {P : Int → Prop} {x y z : Value} (h : KpM w g P) (hw : ((w.setCell ⟨b, 0, none⟩ x).setCell ⟨b, 1, none⟩ y).setCell ⟨b, 2, none⟩ z = w') (hne : g ≠ b) : KpM w' g P := h.elim fun cs h => ⟨cs, h.1.far3 hw hne, h.2⟩
theorem KpM.spot {w : World} {g n : Nat} {P : Int → Prop} (h : KpM w g P) (hn : n < 65) : (∃ b, w.cell? ⟨g, n, none⟩ = some (.bool b)) ∧ w.frozen? ⟨g, n, none⟩ = false := by
  obtain ⟨cs, h1, -, h3, -⟩ := h
  obtain ⟨b, hb⟩ := h3 n hn
  exact ⟨⟨b, (h1.cell n).trans hb⟩, h1.frozen n⟩
theorem KpM.read {w : World} {g n : Nat} {P : Int → Prop} (h : KpM w g P) (hn : n < 65) (hp : P n) : w.cell? ⟨g, n, none⟩ = some (.bool true) := by
  obtain ⟨cs, h1, -, -, h4⟩ := h
  exact (h1.cell n).trans (h4 n hp hn)
theorem KpM.lt {w : World} {g : Nat} {P : Int → Prop} (h : KpM w g P) : g < w.heap.size := h.elim fun _ h => h.1.lt
theorem KpM.new (w : World) : KpM (w.alloc (.cells (Try.zeroCells46) 46)) w.heap.size (fun _ => False) := by
  have e : Try.zeroCells46 = (List.replicate 65 (Value.bool false)).toArray := by kernel_rfl
  refine ⟨_, Mine.Own.new w 46 _, by rw [e]; simp, fun k hk => ⟨false, by rw [e, List.getElem?_toArray, List.getElem?_replicate, if_pos hk]⟩, fun k hk => hk.elim⟩
/-- While the marks are set: the lists x lie in the box sb, the tape behind it, the marks behind that. -/
def KpQ (w : World) (sb : Nat) (x : Lr) (va vi vr : Value) (P : Int → Prop) (wx : World) : Prop :=
  LrR wx (w.heap.size + 1) va vi vr x ∧ Mine.Own wx sb 27 #[va, vi, vr] ∧ TapN w.heap.size wx (sb + 1) ∧ KpM wx (sb + 2) P ∧ Grew w wx
theorem KpQ.put {w : World} {sb n : Nat} {x : Lr} {va vi vr : Value} {P Q : Int → Prop} {wx : World} (h : KpQ w sb x va vi vr P wx) (hF : Far3 (sb + 2) va vi vr) (hN : w.heap.size ≤ sb) (hn : n < 65) (hq : ∀ f, Q f → P f ∨ f = n) :
    KpQ w sb x va vi vr Q (wx.setCell ⟨sb + 2, n, none⟩ (.bool true)) := by
  obtain ⟨h1, h2, h3, h4, h5⟩ := h
  have GW : wx.grownBy (wx.setCell ⟨sb + 2, n, none⟩ (.bool true)) (some (sb + 2)) := grown_set (p := ⟨sb + 2, n, none⟩) (grown_refl _ _) (.inl rfl) _
  exact ⟨h1.keptG GW hF, h2.past GW (by omega), h3.kept GW (by omega) (by omega), (h4.put hn).imp hq, h5.past GW (by omega)⟩
/-- Between the rounds. -/
def KpS (w : World) (sb : Nat) (x : Lr) (k : Nat) (wx : World) : Prop := ∃ (y : Lr) (a1 : Option Addr) (c1 : Nat) (a2 : Option Addr) (c2 : Nat) (a3 : Option Addr) (c3 : Nat), OkP y ∧ LnP (12 + k) y ∧ y.all.Perm x.all ∧
  Far3 sb (.slice a1 y.a.length c1) (.slice a2 y.i.length c2) (.slice a3 y.r.length c3) ∧ Far3 (sb + 1) (.slice a1 y.a.length c1) (.slice a2 y.i.length c2) (.slice a3 y.r.length c3) ∧ Far3 (sb + 2) (.slice a1 y.a.length c1) (.slice a2 y.i.length c2) (.slice a3 y.r.length c3) ∧
  KpQ w sb y (.slice a1 y.a.length c1) (.slice a2 y.i.length c2) (.slice a3 y.r.length c3) (fun f => f ∈ x.all) wx
theorem balN_len : ∀ (n : Nat) (x : Lr), (balN n x).a.length + (balN n x).i.length = x.a.length + x.i.length ∧ (balN n x).r.length ≤ x.r.length
  | 0, _ => ⟨rfl, Nat.le_refl _⟩
  | n + 1, x => by
    unfold balN
    split
    · rename_i h
      obtain ⟨h1, h2⟩ := balS_len (x := x) (by omega)
      obtain ⟨h3, h4⟩ := balN_len n (balS x)
      exact ⟨h3.trans h1, Nat.le_trans h4 h2⟩
    · exact ⟨rfl, Nat.le_refl _⟩
theorem ln_bal {k : Nat} {x : Lr} (h : LnP k x) : LnP k (balX x) := by
  unfold balX
  cases okB x
  · exact h
  · obtain ⟨h1, h2⟩ := balN_len x.a.length x
    obtain ⟨h3, h4⟩ := h
    exact ⟨by show (balN x.a.length x).a.length + (balN x.a.length x).i.length ≤ k; omega, by show (balN x.a.length x).r.length ≤ k; omega⟩
theorem LnP.up {k l : Nat} {x : Lr} (h : LnP k x) (hk : k ≤ l) : LnP l x := ⟨Nat.le_trans h.1 hk, Nat.le_trans h.2 hk⟩
theorem getI {L : List Int} {k : Nat} (hk : k < L.length) (h : ∀ f ∈ L, 1 ≤ f ∧ f ≤ 64) : ∃ n : Nat, L.getD k 0 = (n : Int) ∧ 1 ≤ n ∧ n < 65 ∧ (n : Int) ∈ L := by
  have hm := getD_mem hk
  obtain ⟨h1, h2⟩ := h _ hm
  obtain ⟨n, hn⟩ := Int.eq_ofNat_of_zero_le (show 0 ≤ L.getD k 0 by omega)
  exact ⟨n, hn, by omega, by omega, hn ▸ hm⟩
theorem mem_at {L : List Int} {f : Int} (h : f ∈ L) : ∃ j, j < L.length ∧ L.getD j 0 = f := by
  obtain ⟨j, hj, e⟩ := List.getElem_of_mem h
  exact ⟨j, hj, by rw [List.getD, List.getElem?_eq_getElem hj, Option.getD_some, e]⟩
theorem KpQ.imp {w : World} {sb : Nat} {x : Lr} {va vi vr : Value} {P Q : Int → Prop} {wx : World} (h : KpQ w sb x va vi vr P wx) (k : ∀ f, Q f → P f) : KpQ w sb x va vi vr Q wx := ⟨h.1, h.2.1, h.2.2.1, h.2.2.2.1.imp k, h.2.2.2.2⟩
/-- The lists that a move hands back: right ones, of the same frames. -/
def RetKt (x : Lr) (k C : Nat) (w : World) (e : Ending) (w' : World) : Prop := ∃ (u1 u2 u3 z : Value) (y9 : Lr), e = .returned (.tuple #[lruV u1 u2 u3, z]) ∧ LrR w' C u1 u2 u3 y9 ∧ (OkP y9 ∧ LnP k y9 ∧ y9.all.Perm x.all) ∧ Grew w w'
def RetKb (x : Lr) (k C : Nat) (w : World) (e : Ending) (w' : World) : Prop := ∃ (u1 u2 u3 : Value) (y9 : Lr), e = .returned (lruV u1 u2 u3) ∧ LrR w' C u1 u2 u3 y9 ∧ (OkP y9 ∧ LnP k y9 ∧ y9.all.Perm x.all) ∧ Grew w w'
theorem kp_tou {B C k : Nat} (l : Nat) {va vi vr : Value} {x y : Lr} {w : World} (f : Int) (R : LrR w B va vi vr y) (hok : OkP y) (hln : LnP k y) (hk : k ≤ 100) (hp : y.all.Perm x.all) (hC : C ≤ w.heap.size) (hl : k + 1 ≤ l) : Calls Try.prog 16 #[lruV va vi vr, .int .i64 f] w (RetKt x l C w) :=
  (tou_v f R (hln.sm (by omega)) (wf_ok hok) rfl rfl hC).mono fun _ _ ⟨u1, u2, u3, e, h, g⟩ => ⟨u1, u2, u3, _, _, e, h, ⟨(ok_tou hok).1, (ln_tou hln).up hl, (ok_tou hok).2.trans hp⟩, g⟩
theorem kp_bal {B C k : Nat} (l : Nat) {va vi vr : Value} {x y : Lr} {w : World} (R : LrR w B va vi vr y) (hok : OkP y) (hln : LnP k y) (hk : k ≤ 100) (hp : y.all.Perm x.all) (hC : C ≤ w.heap.size) (hl : k + 1 ≤ l) : Calls Try.prog 21 #[lruV va vi vr] w (RetKb x l C w) :=
  (bal_v R (by have := hln.1; omega) (by have := hln.2; omega) (wf_ok hok) rfl hC).mono fun _ _ ⟨u1, u2, u3, e, h, g⟩ => ⟨u1, u2, u3, _, e, h, ⟨(ok_bal hok).1, (ln_bal hln).up (by omega), (ok_bal hok).2.trans hp⟩, g⟩
theorem kp_scn {B C D k : Nat} (l : Nat) {va vi vr vh : Value} {x y : Lr} {w : World} {h : Int} (n : Int) (R : LrR w B va vi vr y) (Q : RwI w D vh [h]) (hw : (Lit.int .i64 h).wf = true) (hok : OkP y) (hln : LnP k y) (hk : k ≤ 100) (hp : y.all.Perm x.all) (hC : C ≤ w.heap.size) (hl : k + 1 ≤ l) : Calls Try.prog 26 #[lruV va vi vr, .int .i64 n, vh] w (RetKt x l C w) := by
  obtain ⟨z, hz⟩ : ∃ z, scnF y n (hlB [h]) = z := ⟨_, rfl⟩
  obtain ⟨y9, V9⟩ := z
  have h1 := ok_scn (n := n) (held := hlB [h]) hok
  have h2 := ln_scn (n := n) (h := hlB [h]) hok hln
  rw [hz] at h1 h2
  exact (scn_v n vh R Q (by have := hln.1; omega) (by have := hln.1; omega) (by have := hln.2; omega) (by simp) (wf_ok hok) (fun z hz => by rw [List.mem_singleton] at hz; exact hz ▸ hw) hz hC).mono fun _ _ ⟨u1, u2, u3, uv, e, h, hv, g⟩ => ⟨u1, u2, u3, uv, _, e, h, ⟨h1.1, LnP.up h2 (by omega), h1.2.1.trans hp⟩, g⟩
theorem kp_store {w w6 wz : World} {sb k C : Nat} {x y9 : Lr} {a1 : Option Addr} {c1 : Nat} {a2 : Option Addr} {c2 : Nat} {a3 : Option Addr} {c3 : Nat} {p q r : Value} (RN : LrR w6 C (.slice a1 y9.a.length c1) (.slice a2 y9.i.length c2) (.slice a3 y9.r.length c3) y9) (hk : OkP y9 ∧ LnP (12 + k) y9 ∧ y9.all.Perm x.all)
    (O : Mine.Own w6 sb 27 #[p, q, r]) (tp : TapN w.heap.size w6 (sb + 1)) (M : KpM w6 (sb + 2) (fun f => f ∈ x.all)) (G : Grew w w6) (hC : sb + 3 ≤ C) (hN : w.heap.size + 1 ≤ sb)
    (hw : ((w6.setCell ⟨sb, 0, none⟩ (.slice a1 y9.a.length c1)).setCell ⟨sb, 1, none⟩ (.slice a2 y9.i.length c2)).setCell ⟨sb, 2, none⟩ (.slice a3 y9.r.length c3) = wz) : KpS w sb x k wz := by
  have GW : w6.grownBy wz (some sb) := by
    rw [← hw]
    exact grown_set (p := ⟨sb, 2, none⟩) (grown_set (p := ⟨sb, 1, none⟩) (grown_set (p := ⟨sb, 0, none⟩) (grown_refl _ _) (.inl rfl) _) (.inl rfl) _) (.inl rfl) _
  exact ⟨y9, _, _, _, _, _, _, hk.1, hk.2.1, hk.2.2, RN.farB (by omega), RN.farB (by omega), RN.farB (by omega), (RN.set3F hw (RN.farB (by omega))).wider (by omega), O.store3 hw, tp.kept GW (by omega) (by omega), M.far3 hw (by omega), G.far3 hw (by omega)⟩
set_option maxRecDepth 100000 in
set_option maxHeartbeats 8000000 in
theorem keeps_core (A : Option Addr) (c : Nat) (xs : List Int) (A2 : Option Addr) (c2 : Nat) (xs2 : List Int) (w : World) (hr : IntRow w A xs) (hm : xs.length ≤ maxLen) (hr2 : IntRow w A2 xs2) (hm2 : xs2.length ≤ maxLen) :
    Calls Try.prog 5 #[.slice A xs.length c, .slice A2 xs2.length c2] w (RetG (.bool true) w) := by
  have tp := Tp.made hr hm c 25
  have HR2 := Lib.hid hr2
  have HM2 := Lib.hid hm2
  clear hr hr2 hm2
  generalize hX : xs.length = X at *
  clear hX
  go_enter Try.func5, Try.ntmps5
  go_wp2_with fail
  have G0 : w.grownBy (w.alloc (.cells #[.slice A X c, .int .i64 0] 25)) (some w.heap.size) := grown_alloc (grown_refl _ _) _
  generalize World.alloc w _ = w0 at *
  have hsz0 : w.heap.size + 1 ≤ w0.heap.size := tp.lt
  with_reducible refine (lru_x _ _ _ tp hsz0).mono ?_
  rintro e w1 ⟨va, vi, vr, x, rfl, hok, hln, R, T1, g1⟩
  have G1 := (Grew.refl w).past (grown_trans G0 g1) (Nat.le_refl _)
  obtain ⟨aa, ca, rfl⟩ := R.a.len
  obtain ⟨ai, ci, rfl⟩ := R.i.len
  obtain ⟨ar, cr, rfl⟩ := R.r.len
  have gA := (Grew.refl w1).alloc (.cells #[.slice aa x.a.length ca, .slice ai x.i.length ci, .slice ar x.r.length cr] 27)
  have G2 := G1.trans gA
  have tp2 := TapN.made HR2.out HM2.out rfl G2 c2 25
  have gB := (Grew.refl (w1.alloc (.cells #[.slice aa x.a.length ca, .slice ai x.i.length ci, .slice ar x.r.length cr] 27))).alloc (.cells #[.slice A2 xs2.length c2, .int .i64 0] 25)
  have O := (Mine.Own.new w1 27 #[.slice aa x.a.length ca, .slice ai x.i.length ci, .slice ar x.r.length cr]).grew gB
  have hF1 := Far3.of_lt R (Nat.le_refl _)
  have hF2 := Far3.of_lt R (Nat.le_succ _)
  have hF3 := Far3.of_lt R (show w1.heap.size ≤ w1.heap.size + 2 by omega)
  have R2 := ((R.grew gA).grew gB).wider hsz0
  rw [World.size_alloc] at tp2
  have G3 := G2.trans gB
  have hs2 : ((w1.alloc (.cells #[.slice aa x.a.length ca, .slice ai x.i.length ci, .slice ar x.r.length cr] 27)).alloc (.cells #[.slice A2 xs2.length c2, .int .i64 0] 25)).heap.size = w1.heap.size + 2 := by rw [World.size_alloc, World.size_alloc]
  have hsb0 : w.heap.size + 1 ≤ w1.heap.size := Nat.le_trans hsz0 g1.size
  clear R tp G0 g1 T1 G1 G2 hsz0 HR2 HM2 gA gB
  generalize hX2 : xs2.length = X2 at *
  clear hX2
  go_upto_region 3 with fail
  generalize World.alloc (World.alloc w1 _) _ = w2 at *
  generalize w1.heap.size = sb at *
  have M := KpM.new w2
  rw [hs2] at M
  have gC := (Grew.refl w2).alloc (.cells Try.zeroCells46 46)
  have HQ : Hid (KpQ w sb x (.slice aa x.a.length ca) (.slice ai x.i.length ci) (.slice ar x.r.length cr) (fun _ => False) (w2.alloc (.cells Try.zeroCells46 46))) := Lib.hid ⟨R2.grew gC, O.grew gC, tp2.grew gC, M, G3.trans gC⟩
  have O3 := O.grew gC
  clear R2 O tp2 M G3 gC
  obtain ⟨o0, o1, o2, o3, o4, o5⟩ := O3.three
  have HF1 := Lib.hid hF1
  have HF2 := Lib.hid hF2
  have HF3 := Lib.hid hF3
  have HOK := Lib.hid hok
  have HLN := Lib.hid hln
  have HWF := Lib.hid (wf_ok hok)
  obtain ⟨la, hla⟩ : ∃ n, x.a.length = n := ⟨_, rfl⟩
  obtain ⟨li, hli⟩ : ∃ n, x.i.length = n := ⟨_, rfl⟩
  obtain ⟨lr, hlr⟩ : ∃ n, x.r.length = n := ⟨_, rfl⟩
  rw [hla] at HQ o0 HF1 HF2 HF3 ⊢
  rw [hli] at HQ o1 HF1 HF2 HF3 ⊢
  rw [hlr] at HQ o2 HF1 HF2 HF3 ⊢
  have HLA := Lib.hid hla
  have HLI := Lib.hid hli
  have HLR := Lib.hid hlr
  have hl12 : la + li ≤ 12 := by have := hln.1; omega
  have hadd : IntKind.i64.wrap ((la : Int) + (li : Int)) = (la : Int) + (li : Int) := IntWalk.i64_in _ (by omega)
  have HADD := Lib.hid hadd
  clear hF1 hF2 hF3 hok hln hla hli hlr O3
  go_upto_region 5 with fail
  clear o0 o1 o2 o3 o4 o5
  go_wp2_with fail
  go_loopw [9] (fun fv wr => ∃ k : Nat, fv = .int .i64 k ∧ k ≤ la ∧ KpQ w sb x (.slice aa la ca) (.slice ai li ci) (.slice ar lr cr) (fun f => ∃ j, j < k ∧ x.a.getD j 0 = f) wr) (fun fv _ => (13 - intOf fv).toNat)
  case atStart => exact ⟨0, rfl, by omega, by have h := HQ.out; exact ⟨h.1, h.2.1, h.2.2.1, h.2.2.2.1.imp (fun f ⟨j, hj, _⟩ => absurd hj (Nat.not_lt_zero _)), h.2.2.2.2⟩⟩
  case round =>
    clear HQ
    obtain ⟨k, rfl, hk, Q⟩ := hrel
    obtain ⟨wo, rfl⟩ : ∃ wo : World, wo = wr := ⟨_, rfl⟩
    have HQ := Lib.hid Q
    obtain ⟨R, O, tp, M, G⟩ := Q
    obtain ⟨o0, o1, o2, o3, o4, o5⟩ := O.three
    by_cases hlt : k < la
    · obtain ⟨n, hn, n0, n1, nm⟩ := getI (L := x.a) (k := k) (by rw [HLA.out]; exact hlt) (fun f hf => HOK.out.1 f (List.mem_append_left _ hf))
      obtain ⟨g, rfl, hg, hp⟩ := rowI_at (HLA.out ▸ R.a) (show k < x.a.length by rw [HLA.out]; exact hlt)
      rw [hn] at hp
      obtain ⟨⟨b, hb⟩, hbf⟩ := M.spot n1
      have HQ2 := Lib.hid (HQ.out.put HF3.out (by omega) n1 (Q := fun f => ∃ j, j < k + 1 ∧ x.a.getD j 0 = f) (fun f ⟨j, hj, e⟩ => by
        by_cases h9 : j = k
        · exact .inr (by rw [← e, h9, hn])
        · exact .inl ⟨j, by omega, e⟩))
      clear R O tp M G HQ hn nm
      go_wp2
      exact ⟨⟨k + 1, congrArg (Value.int .i64) (by omega), by omega, HQ2.out⟩, by simp [intOf]; omega⟩
    · obtain rfl : k = la := by omega
      clear o0 o1 o2 o3 o4 o5 R O tp M G
      replace HQ := Lib.hid (HQ.out.imp (Q := fun f => f ∈ x.a ∨ ∃ j, j < 0 ∧ x.i.getD j 0 = f) (fun f hf => by
        rcases hf with hf | ⟨j, hj, -⟩
        · obtain ⟨j, hj, e⟩ := mem_at hf
          exact ⟨j, by rw [← HLA.out]; exact hj, e⟩
        · omega))
      obtain ⟨o0, o1, o2, o3, o4, o5⟩ := HQ.out.2.1.three
      go_wp2_with fail
      clear o0 o1 o2 o3 o4 o5
      go_loopw [10] (fun fv wr => ∃ m : Nat, fv = .int .i64 m ∧ m ≤ li ∧ KpQ w sb x (.slice aa k ca) (.slice ai li ci) (.slice ar lr cr) (fun f => f ∈ x.a ∨ ∃ j, j < m ∧ x.i.getD j 0 = f) wr) (fun fv _ => (13 - intOf fv).toNat)
      case atStart => exact ⟨0, rfl, by omega, HQ.out⟩
      case round =>
        clear HQ hlt hk
        obtain ⟨m, rfl, hk, Q⟩ := hrel
        obtain ⟨wo, rfl⟩ : ∃ wo : World, wo = wr := ⟨_, rfl⟩
        have HQ := Lib.hid Q
        obtain ⟨R, O, tp, M, G⟩ := Q
        obtain ⟨o0, o1, o2, o3, o4, o5⟩ := O.three
        by_cases hlt : m < li
        · obtain ⟨n, hn, n0, n1, nm⟩ := getI (L := x.i) (k := m) (by rw [HLI.out]; exact hlt) (fun f hf => HOK.out.1 f (List.mem_append_right _ hf))
          obtain ⟨g, rfl, hg, hp⟩ := rowI_at (HLI.out ▸ R.i) (show m < x.i.length by rw [HLI.out]; exact hlt)
          rw [hn] at hp
          obtain ⟨⟨b, hb⟩, hbf⟩ := M.spot n1
          have HQ2 := Lib.hid (HQ.out.put HF3.out (by omega) n1 (Q := fun f => f ∈ x.a ∨ ∃ j, j < m + 1 ∧ x.i.getD j 0 = f) (fun f hf => by
            rcases hf with hf | ⟨j, hj, e⟩
            · exact .inl (.inl hf)
            · by_cases h9 : j = m
              · exact .inr (by rw [← e, h9, hn])
              · exact .inl (.inr ⟨j, by omega, e⟩)))
          clear R O tp M G HQ hn nm
          go_wp2
          exact ⟨⟨m + 1, congrArg (Value.int .i64) (by omega), by omega, HQ2.out⟩, by simp [intOf]; omega⟩
        · obtain rfl : m = li := by omega
          have HS : Hid (KpS w sb x 0 wo) := Lib.hid (by
            have e1 := HLA.out
            have e2 := HLI.out
            have e3 := HLR.out
            subst e1 e2 e3
            exact ⟨x, _, _, _, _, _, _, HOK.out, HLN.out.up (by omega), List.Perm.refl _, HF1.out, HF2.out, HF3.out, HQ.out.imp (fun f hf => (List.mem_append.1 hf).imp id mem_at)⟩)
          have hn12 : x.all.length = k + m := by unfold Lr.all; rw [List.length_append, HLA.out, HLI.out]
          have HN := Lib.hid hn12
          clear HQ R O tp M G hn12 hlt HF1 HF2 HF3 HLN HWF HLA HLI HLR
          go_wp2_with fail
          clear o0 o1 o2 o3 o4 o5
          go_loopw [11] (fun fv wr => ∃ t : Nat, fv = .int .i64 t ∧ t ≤ 8 ∧ KpS w sb x t wr) (fun fv _ => (9 - intOf fv).toNat)
          case atStart => exact ⟨0, rfl, by omega, HS.out⟩
          case round =>
            clear HS
            obtain ⟨t, rfl, ht, S⟩ := hrel
            obtain ⟨wo, rfl⟩ : ∃ wo : World, wo = wr := ⟨_, rfl⟩
            by_cases hlt : t < 8
            · go_upto_block 5 with fail
              go_step
              go_step
              have ht8 : decide ((t : Int) < 8) = true := decide_eq_true (by omega)
              rw [ht8]
              clear ht8
              go_cut [] from 58 to 87 (KpS w sb x (t + 1))
              case first =>
                obtain ⟨y, a1, c1, a2, c2, a3, c3, hok, hln, hpm, hf1, hf2, hf3, R, O, tp, M, G⟩ := S
                have HOK2 := Lib.hid hok
                have HLN := Lib.hid hln
                have HPM := Lib.hid hpm
                obtain ⟨l1, hl1⟩ : ∃ n, y.a.length = n := ⟨_, rfl⟩
                obtain ⟨l2, hl2⟩ : ∃ n, y.i.length = n := ⟨_, rfl⟩
                obtain ⟨l3, hl3⟩ : ∃ n, y.r.length = n := ⟨_, rfl⟩
                rw [hl1, hl2, hl3] at R O hf1 hf2 hf3
                have HF1 := Lib.hid hf1
                have HF2 := Lib.hid hf2
                have HF3 := Lib.hid hf3
                clear hok hln hpm hf1 hf2 hf3 hl1 hl2 hl3
                go_wp2_with fail
                with_reducible refine (next_n _ _ _ _ (by omega) (by omega) tp).mono ?_
                rintro e w3 ⟨q, q0, q1, rfl, tp3, g3⟩
                have O3 := O.past g3 (by omega)
                have R3 := LrR.keptG R g3 HF2.out
                have M3 := M.past g3 (by omega)
                have G3 := G.past g3 (by omega)
                have hz3 : sb + 2 < w3.heap.size := M3.lt
                clear R O tp M G g3
                obtain ⟨o0, o1, o2, o3, o4, o5⟩ := O3.three
                rcases (show q = 0 ∨ q = 1 ∨ q = 2 by omega) with hq | hq | hq <;> subst hq
                · go_upto_region 18 with fail
                  have HTP := Lib.hid (tp3.grew ((Grew.refl w3).drew))
                  have HO := Lib.hid O3.drew
                  have HR := Lib.hid R3.drew
                  have HM := Lib.hid (M3.grew ((Grew.refl w3).drew))
                  have HG := Lib.hid G3.drew
                  clear O3 R3 M3 G3 tp3
                  go_region_with
                    (first
                        | (go_at_call 10; (with_reducible refine (next_n _ _ _ _ (by omega) (by omega) HTP.out).mono ?_)
                           rintro e w5 ⟨p, p0, p1, rfl, tp5, g5⟩
                           have gz5 := g5.size
                           have hwp : IntKind.i64.wrap (1 + p) = 1 + p := IntWalk.i64_in _ (by omega)
                           have HWP := Lib.hid (show (Lit.int .i64 (1 + p)).wf = true from WalkArith.wf_i64 (by omega))
                           replace HTP := Lib.hid tp5
                           replace HO := Lib.hid (HO.out.past g5 (by omega))
                           replace HR := Lib.hid (LrR.keptG HR.out g5 HF2.out)
                           replace HM := Lib.hid (HM.out.past g5 (by omega))
                           replace HG := Lib.hid (HG.out.past g5 (by omega))
                           have hmz : sb + 2 < w5.heap.size := HM.out.lt
                           clear tp5 g5 o0 o1 o2 o3 o4 o5
                           obtain ⟨o0, o1, o2, o3, o4, o5⟩ := HO.out.three)
                        | (go_at_call 16; (with_reducible refine (kp_tou (12 + (t + 1)) _ HR.out HOK2.out HLN.out (by omega) HPM.out (Nat.le_refl _) (by omega)).mono ?_)
                           rintro e w6 ⟨u1, u2, u3, uz, y9, rfl, RN, hk9, g6⟩
                           obtain ⟨a5, c5, rfl⟩ := RN.a.len
                           obtain ⟨a6, c6, rfl⟩ := RN.i.len
                           obtain ⟨a7, c7, rfl⟩ := RN.r.len
                           have HRN := Lib.hid RN
                           have HK := Lib.hid hk9
                           replace HTP := Lib.hid (HTP.out.grew g6)
                           replace HO := Lib.hid (HO.out.grew g6)
                           replace HM := Lib.hid (HM.out.grew g6)
                           replace HG := Lib.hid (HG.out.trans g6)
                           clear RN hk9 g6 o0 o1 o2 o3 o4 o5
                           obtain ⟨o0, o1, o2, o3, o4, o5⟩ := HO.out.three))
                  all_goals
                      go_wp2
                      go_meet
                      generalize hw : World.setCell _ _ _ = wz
                      exact kp_store HRN.out HK.out HO.out HTP.out HM.out HG.out (by omega) (by omega) hw
                · have HTP := Lib.hid tp3
                  go_wp2_with fail
                  with_reducible refine (kp_bal (12 + (t + 1)) R3 HOK2.out HLN.out (by omega) HPM.out (Nat.le_refl _) (by omega)).mono ?_
                  rintro e w6 ⟨u1, u2, u3, y9, rfl, RN, hk9, g6⟩
                  obtain ⟨a5, c5, rfl⟩ := RN.a.len
                  obtain ⟨a6, c6, rfl⟩ := RN.i.len
                  obtain ⟨a7, c7, rfl⟩ := RN.r.len
                  have HRN := Lib.hid RN
                  have HK := Lib.hid hk9
                  have HO := Lib.hid (O3.grew g6)
                  have HM := Lib.hid (M3.grew g6)
                  have HG := Lib.hid (G3.trans g6)
                  replace HTP := Lib.hid (tp3.grew g6)
                  clear RN hk9 g6 O3 R3 M3 G3 tp3 o0 o1 o2 o3 o4 o5
                  obtain ⟨o0, o1, o2, o3, o4, o5⟩ := HO.out.three
                  go_wp2
                  go_meet
                  generalize hw : World.setCell _ _ _ = wz
                  exact kp_store HRN.out HK.out HO.out HTP.out HM.out HG.out (by omega) (by omega) hw
                · go_upto_region 22 with fail
                  have HTP := Lib.hid (tp3.grew ((Grew.refl w3).drew))
                  have HO := Lib.hid O3.drew
                  have HR := Lib.hid R3.drew
                  have HM := Lib.hid (M3.grew ((Grew.refl w3).drew))
                  have HG := Lib.hid G3.drew
                  clear O3 R3 M3 G3 tp3
                  go_region_with
                    (first
                        | (go_at_call 10; (with_reducible refine (next_n _ _ _ _ (by omega) (by omega) HTP.out).mono ?_)
                           rintro e w5 ⟨p, p0, p1, rfl, tp5, g5⟩
                           have gz5 := g5.size
                           have hwp : IntKind.i64.wrap (1 + p) = 1 + p := IntWalk.i64_in _ (by omega)
                           have HWP := Lib.hid (show (Lit.int .i64 (1 + p)).wf = true from WalkArith.wf_i64 (by omega))
                           replace HTP := Lib.hid tp5
                           replace HO := Lib.hid (HO.out.past g5 (by omega))
                           replace HR := Lib.hid (LrR.keptG HR.out g5 HF2.out)
                           replace HM := Lib.hid (HM.out.past g5 (by omega))
                           replace HG := Lib.hid (HG.out.past g5 (by omega))
                           have hmz : sb + 2 < w5.heap.size := HM.out.lt
                           clear tp5 g5 o0 o1 o2 o3 o4 o5
                           have oa0 : ∀ o, (w5.alloc o).cell? ⟨sb, 0, none⟩ = some (.slice a1 l1 c1) := fun o => ((HO.out.alloc o).cell 0).trans rfl
                           have oa1 : ∀ o, (w5.alloc o).cell? ⟨sb, 1, none⟩ = some (.slice a2 l2 c2) := fun o => ((HO.out.alloc o).cell 1).trans rfl
                           have oa2 : ∀ o, (w5.alloc o).cell? ⟨sb, 2, none⟩ = some (.slice a3 l3 c3) := fun o => ((HO.out.alloc o).cell 2).trans rfl
                           obtain ⟨o0, o1, o2, o3, o4, o5⟩ := HO.out.three)
                        | (go_at_call 26
                           have ga := (Grew.refl w5).alloc (.cells #[.int .i64 (1 + p)] 3)
                           have HB := Lib.hid (show RwI (w5.alloc (.cells #[.int .i64 (1 + p)] 3)) w5.heap.size (.slice (some ⟨w5.heap.size, 0, none⟩) 1 1) [1 + p] from RowE.lit (L := [1 + p]) w5 #[.int .i64 (1 + p)] (by simp [enc1]) (by simp) (by simp [maxLen]) (Nat.le_refl _))
                           have hga := ga.size
                           (with_reducible refine (kp_scn (C := w5.heap.size) (12 + (t + 1)) _ (HR.out.grew ga) HB.out HWP.out HOK2.out HLN.out (by omega) HPM.out hga (by omega)).mono ?_)
                           rintro e w6 ⟨u1, u2, u3, uz, y9, rfl, RN, hk9, g6⟩
                           obtain ⟨a5, c5, rfl⟩ := RN.a.len
                           obtain ⟨a6, c6, rfl⟩ := RN.i.len
                           obtain ⟨a7, c7, rfl⟩ := RN.r.len
                           have HRN := Lib.hid RN
                           have HK := Lib.hid hk9
                           replace HTP := Lib.hid (HTP.out.grew (ga.trans g6))
                           replace HO := Lib.hid (HO.out.grew (ga.trans g6))
                           replace HM := Lib.hid (HM.out.grew (ga.trans g6))
                           replace HG := Lib.hid (HG.out.trans (ga.trans g6))
                           clear RN hk9 g6 ga HB o0 o1 o2 o3 o4 o5
                           obtain ⟨o0, o1, o2, o3, o4, o5⟩ := HO.out.three))
                  all_goals
                      go_wp2
                      go_meet
                      generalize hw : World.setCell _ _ _ = wz
                      exact kp_store HRN.out HK.out HO.out HTP.out HM.out HG.out (by omega) (by omega) hw
              case rest =>
                clear S
                obtain ⟨y, a1, c1, a2, c2, a3, c3, hok, hln, hpm, hf1, hf2, hf3, R, O, tp, M, G⟩ := hcut
                have HS : Hid (KpS w sb x (t + 1) wc) := Lib.hid ⟨y, a1, c1, a2, c2, a3, c3, hok, hln, hpm, hf1, hf2, hf3, R, O, tp, M, G⟩
                have HOK2 := Lib.hid hok
                have HPM := Lib.hid hpm
                have hll : y.a.length + y.i.length = k + m := by
                  have h := hpm.length_eq
                  unfold Lr.all at h
                  rw [List.length_append] at h
                  have h2 := HN.out
                  unfold Lr.all at h2
                  omega
                obtain ⟨o0, o1, o2, o3, o4, o5⟩ := O.three
                clear hf1 hf2 hf3 hpm
                go_wp2_with fail
                with_reducible refine (pchk_v (b := true) _ _ _ _ _ R (hln.sm (by omega)) (wf_ok hok) (by unfold okB; exact decide_eq_true hok)).mono ?_
                rintro e w9 ⟨rfl, g9⟩
                have hS9 : KpS w sb x (t + 1) w9 := by
                  obtain ⟨y, a1, c1, a2, c2, a3, c3, hok, hln, hpm, hf1, hf2, hf3, R, O, tp, M, G⟩ := HS.out
                  exact ⟨y, a1, c1, a2, c2, a3, c3, hok, hln, hpm, hf1, hf2, hf3, R.grew g9, O.grew g9, tp.grew g9, M.grew g9, G.trans g9⟩
                have HS9 := Lib.hid hS9
                have R9 := R.grew g9
                have O9 := O.grew g9
                have HM9 := Lib.hid (M.grew g9)
                clear hS9 hok hln R O tp M G g9 HS o0 o1 o2 o3 o4 o5
                obtain ⟨o0, o1, o2, o3, o4, o5⟩ := O9.three
                obtain ⟨l1, hl1⟩ : ∃ n, y.a.length = n := ⟨_, rfl⟩
                obtain ⟨l2, hl2⟩ : ∃ n, y.i.length = n := ⟨_, rfl⟩
                obtain ⟨l3, hl3⟩ : ∃ n, y.r.length = n := ⟨_, rfl⟩
                rw [hl1, hl2] at hll
                rw [hl1] at o0 R9 O9
                rw [hl2] at o1 R9 O9
                rw [hl3] at o2 R9 O9
                have HL1 := Lib.hid hl1
                have HL2 := Lib.hid hl2
                have hkm : IntKind.i64.wrap ((l1 : Int) + (l2 : Int)) = (l1 : Int) + (l2 : Int) := IntWalk.i64_in _ (by omega)
                have hne : ((l1 : Int) + (l2 : Int) != (k : Int) + (m : Int)) = false := by
                  rw [bne_eq_false_iff_eq]; omega
                have HR9 := Lib.hid R9
                have HO9 := Lib.hid O9
                clear hl1 hl2 hl3 R9 O9
                go_wp2_with fail
                clear o0 o1 o2 o3 o4 o5
                go_loopw [12] (fun fv wr => w9 = wr ∧ ∃ j : Nat, fv = .int .i64 j ∧ j ≤ l1) (fun fv _ => (13 - intOf fv).toNat)
                case atStart => exact ⟨rfl, 0, rfl, by omega⟩
                case round =>
                  obtain ⟨rfl, j, rfl, hj⟩ := hrel
                  obtain ⟨o0, o1, o2, o3, o4, o5⟩ := HO9.out.three
                  by_cases hjl : j < l1
                  · obtain ⟨n, hn, n0, n1, nm⟩ := getI (L := y.a) (k := j) (by rw [HL1.out]; exact hjl) (fun f hf => HOK2.out.1 f (List.mem_append_left _ hf))
                    obtain ⟨g, rfl, hg, hp⟩ := rowI_at (HL1.out ▸ HR9.out.a) (show j < y.a.length by rw [HL1.out]; exact hjl)
                    rw [hn] at hp
                    have hb := HM9.out.read n1 (HPM.out.mem_iff.1 (List.mem_append_left _ nm))
                    have hbf := (HM9.out.spot n1).2
                    have hn1 : decide ((n : Int) < 1) = false := decide_eq_false (by omega)
                    have hn2 : decide ((64 : Int) < (n : Int)) = false := decide_eq_false (by omega)
                    have hl12b : l1 + l2 ≤ 12 := by omega
                    clear HS9 HR9 HO9 HM9 HOK2 HPM HL1 HL2 nm hn
                    go_wp2
                    exact ⟨⟨by trivial, j + 1, congrArg (Value.int .i64) (by omega), by omega⟩, by simp [intOf]; omega⟩
                  · obtain rfl : j = l1 := by omega
                    go_wp2_with fail
                    clear o0 o1 o2 o3 o4 o5
                    go_loopw [13] (fun fv wr => w9 = wr ∧ ∃ p : Nat, fv = .int .i64 p ∧ p ≤ l2) (fun fv _ => (13 - intOf fv).toNat)
                    case atStart => exact ⟨rfl, 0, rfl, by omega⟩
                    case round =>
                      obtain ⟨rfl, p, rfl, hp0⟩ := hrel
                      obtain ⟨o0, o1, o2, o3, o4, o5⟩ := HO9.out.three
                      by_cases hpl : p < l2
                      · obtain ⟨n, hn, n0, n1, nm⟩ := getI (L := y.i) (k := p) (by rw [HL2.out]; exact hpl) (fun f hf => HOK2.out.1 f (List.mem_append_right _ hf))
                        obtain ⟨g, rfl, hg, hp⟩ := rowI_at (HL2.out ▸ HR9.out.i) (show p < y.i.length by rw [HL2.out]; exact hpl)
                        rw [hn] at hp
                        have hb := HM9.out.read n1 (HPM.out.mem_iff.1 (List.mem_append_right _ nm))
                        have hbf := (HM9.out.spot n1).2
                        have hn1 : decide ((n : Int) < 1) = false := decide_eq_false (by omega)
                        have hn2 : decide ((64 : Int) < (n : Int)) = false := decide_eq_false (by omega)
                        have hl12b : j + l2 ≤ 12 := by omega
                        clear HS9 HR9 HO9 HM9 HOK2 HPM HL1 HL2 nm hn
                        go_wp2
                        exact ⟨⟨by trivial, p + 1, congrArg (Value.int .i64) (by omega), by omega⟩, by simp [intOf]; omega⟩
                      · obtain rfl : p = l2 := by omega
                        go_wp2
                        exact ⟨⟨t + 1, congrArg (Value.int .i64) (by omega), by omega, HS9.out⟩, by simp [intOf]; omega⟩
            · obtain rfl : t = 8 := by omega
              have HG : Hid (Grew w wo) := Lib.hid (by
                obtain ⟨y, a1, c1, a2, c2, a3, c3, hok, hln, hpm, hf1, hf2, hf3, R, O, tp, M, G⟩ := S
                exact G)
              clear S
              go_wp2_with fail
              with_reducible refine (awake_any _).mono ?_
              rintro e w9 ⟨rfl, g9⟩
              go_wp2
              go_ret
              exact ⟨rfl, HG.out.trans g9⟩

theorem Try.own : ownKnob Try.prog.godebug = none := by kernel_rfl
theorem Try.laidOut : laidOutB Try.prog = true := by kernel_rfl

theorem lruKeeps_contract (W : World) (base : Nat) (args : Array Value) (H : Type) (enc : TypeId × Value → H) (ds : List (DataW H)) (p : List MemPlace)
    (hval : ∀ (j : Nat) t v, Try.f5.params[j]? = some t → args[j]? = some v → Value.okWide Try.prog W .any base t v)
    (hA : DataW.TrodAll enc Try.prog W 0 (fun _ => true) true Try.f5.params.toList args.toList ds p) :
    (∃ d0 d1, ds = [d0, d1]) ∧ Calls Try.prog 5 args W fun e W' => e = .returned (.bool true) ∧ Below W.heap.size W W' := by
  rw [Try.params5] at hval hA
  obtain ⟨v0, v1, d0, d1, p0, p1, ha, hd, hp, h0, h1⟩ := args_2 hA
  subst ha hd
  obtain ⟨A0, c0, xs0, rfl, hr0, hm0⟩ := open_introw Try.underlying22 Try.underlying3 (by kernel_rfl) (hval 0 _ _ rfl rfl) h0
  obtain ⟨A1, c1, xs1, rfl, hr1, hm1⟩ := open_introw Try.underlying22 Try.underlying3 (by kernel_rfl) (hval 1 _ _ rfl rfl) h1
  exact ⟨⟨_, _, rfl⟩, (keeps_core A0 c0 xs0 A1 c1 xs1 W hr0 hm0 hr1 hm1).mono fun _ _ h => h⟩

set_option maxRecDepth 100000 in
theorem lruKeeps_lifted (os : Os) (started : os.Started) (H : Type) (enc : TypeId × Value → H) :
    ReturnsInHanded {} Try.checked os 5 .any (Rows.lruKeepsSpec.pre6 enc Try.prog Try.f5 Rows.lruKeepsRow.domain false) (Rows.lruKeepsSpec.post enc Try.prog Try.f5 false true false false) := by
  refine returnsInHanded_of_change (C := Try.checked) Try.own started (by kernel_rfl) Try.func5
    (ChangeSpec.witness6 (enc := enc) (C := Try.checked) false ⟨#[], #[.slice none 0 0, .slice none 0 0], []⟩ 8 (by kernel_rfl) (by kernel_rfl) (by kernel_rfl) (by kernel_rfl)) ?_
  intro W base args ds gs before hval hW _ _
  obtain ⟨p, q, hA, hV, hrest⟩ := id hW
  obtain ⟨⟨d0, d1, rfl⟩, hc⟩ := lruKeeps_contract W base args H enc ds p hval hA
  obtain ⟨rfl, -⟩ := trodVars_none hV
  refine hc.mono fun e W' ⟨he, hb⟩ => ⟨_, he, ?_⟩
  exact law_close (tb := 4) Try.laidOut (by rw [Try.params5]; decide +kernel) Try.underlying4 rfl rfl hW rfl rfl rfl hb

theorem lruKeeps_holds : Rows.LruKeepsSaid :=
  OpenClaim.holds_of_wide 5 Try.f5 rfl rfl rfl rfl rfl rfl rfl ⟨rfl, rfl, rfl, rfl, rfl⟩ rfl rfl rfl rfl rfl (by kernel_rfl) Try.func5 (by kernel_rfl)
    (of_decide_eq_true (by kernel_rfl)) (by unfold Func.isWrapper; first | (rw [if_pos (by decide +kernel)]; kernel_rfl) | (rw [if_neg (by decide +kernel)]; exact ⟨rfl, rfl⟩))
    (fun os started H enc _ => lruKeeps_lifted os started H enc)
end Go.Proofs.Yteaofieijginhaa

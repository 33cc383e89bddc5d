/- DirtyCalls holds: proportions, limits and shares, and the errors, are those of the document's answer. -/
import Derived.Test.YtjeelciijfpdiaaDt9
import Derived.Deep.RegionHeld3
import Derived.Deep.DeepCutAuto
import Derived.Deep.CutBlock
namespace Go.Mine
open Go Go.RowKit
theorem PdR.past {w w' : World} {b : Nat} {p : Nat → Prop} {v : Value} {x : Pd} (h : PdR w p v x) (g : w.grownBy w' (some b)) (hp : ∀ k, p k → k ≠ b) : PdR w' p v x :=
  h.keep g.size (fun _ h _ => h) fun k hk hl => g.block k hl (fun e => by injection e with e; exact hp k hk e)
theorem PdR.to {w : World} {p q : Nat → Prop} {v : Value} {u : Pd} (h : PdR w p v u) (hp : ∀ g, p g → g < w.heap.size → q g) : PdR w q v u := h.keep (Nat.le_refl _) hp fun _ _ _ => rfl
theorem PdR.opn {w : World} {p : Nat → Prop} {v : Value} {x : Pd} {n : Nat} (h : PdR w p v x) (hn : x.e.length = n) : ∃ a c, v = .agg #[.slice a n c, .int .i64 x.p, .int .i64 x.l] ∧ RdI w p a n x.e := by
  obtain ⟨a, c, e, r⟩ := h
  subst hn
  exact ⟨a, c, e, r⟩
/-- The law's proportions in block g, a tape. -/
structure DcW (w0 : World) (T : TypeId) (g n : Nat) (a : Option Addr) (c : Nat) (x : Pd) (w : World) : Prop where
  own : Own w g T #[.slice a n c, .int .i64 x.p, .int .i64 x.l]
  row : PdR w (fun k => w0.heap.size + 1 ≤ k) (.agg #[.slice a n c, .int .i64 x.p, .int .i64 x.l]) x
  tp : Tp (w0.heap.size + 1) w w0.heap.size
  gr : Grew w0 w
theorem DcW.past {w0 w w' : World} {T : TypeId} {g n c : Nat} {a : Option Addr} {x : Pd} (h : DcW w0 T g n a c x w) (k : w.grownBy w' (some w0.heap.size)) (t : Tp (w0.heap.size + 1) w' w0.heap.size) (hg : w0.heap.size + 1 ≤ g) : DcW w0 T g n a c x w' :=
  ⟨h.own.past k (by omega), h.row.past k (fun j hj => by omega), t, h.gr.past k (Nat.le_refl _)⟩
def DcCut (w0 : World) (T : TypeId) (g n : Nat) (a : Option Addr) (c : Nat) (x : Pd) (v5 v6 v7 : Value) (w : World) : Prop := ∃ d k l : Int, v5 = .int .i64 d ∧ v6 = .int .i64 k ∧ v7 = .int .i64 l ∧ (-9223372036854775808 ≤ l ∧ l ≤ 9223372036854775807) ∧ DcW w0 T g n a c x w
end Go.Mine
namespace Go.Proofs.Ytjeelciijfpdiaa
open Go.ChangeShapes Go.WideShapes Go.ChangeAt Go.RowKit Go.Mine

set_option maxRecDepth 100000 in
set_option maxHeartbeats 16000000 in
theorem dcalls_core (A : Option Addr) (c : Nat) (xs : List Int) (w : World) (hr : IntRow w A xs) (hm : xs.length ≤ maxLen) :
    Calls Try.prog 3 #[.slice A xs.length c] w (RetG (.bool true) w) := by
  have tp := Tp.made hr hm c 25
  have gA := (Grew.refl w).alloc (.cells #[.slice A xs.length c, .int .i64 0] 25)
  have hbw : w.heap.size + 1 ≤ (w.alloc (.cells #[.slice A xs.length c, .int .i64 0] 25)).heap.size := by simp
  clear hr hm
  generalize hX : xs.length = X at *
  clear hX
  go_enter Try.func3, Try.ntmps3
  go_wp2_with fail
  with_reducible refine (drawn_x tp hbw).mono ?_
  rintro e w1 ⟨v, x, rfl, hx6, P1, T1, g1⟩
  obtain ⟨nx, hnx⟩ : ∃ n, x.e.length = n := ⟨_, rfl⟩
  obtain ⟨a4, c4, rfl, -⟩ := P1.opn hnx
  have hb1 := Nat.le_trans hbw g1.size
  have GX := (Grew.refl w1).alloc (.cells #[.slice a4 nx c4, .int .i64 x.p, .int .i64 x.l] 27)
  have HD1 : Hid (DcW w 27 w1.heap.size nx a4 c4 x (w1.alloc (.cells #[.slice a4 nx c4, .int .i64 x.p, .int .i64 x.l] 27))) :=
    Lib.hid ⟨Own.new w1 _ _, (P1.to fun g h1 _ => Nat.le_trans hbw h1).grew GX, T1.grew GX, (gA.past g1 (Nat.le_refl _)).trans GX⟩
  have HNX := Lib.hid hnx
  have hx5 : x.e.length ≤ 1000 := by omega
  clear tp gA T1 P1 g1 GX hnx hbw
  go_wp2_with fail
  generalize World.alloc w1 _ = w2 at *
  generalize w1.heap.size = g4 at *
  have hg : w.heap.size + 1 ≤ g4 := hb1
  have hB : ∀ w', DcW w 27 g4 nx a4 c4 x w' → w.heap.size + 1 ≤ w'.heap.size := fun w' h => by have := h.own.lt; omega
  with_reducible refine (next_x _ _ _ _ (by omega) (by omega) HD1.out.tp).mono ?_
  rintro e w3 ⟨d, d0, d1, rfl, T3, g3⟩
  have HD3 := Lib.hid (HD1.out.past g3 T3 hg)
  have n1 : IntKind.i64.wrap (d - 1) = d - 1 := IntWalk.i64_in _ (by omega)
  clear T3 g3 HD1 hb1
  go_wp2_with fail
  with_reducible refine (next_x _ _ _ _ (by omega) (by omega) HD3.out.tp).mono ?_
  rintro e w4 ⟨k, k0, k1, rfl, T4, g4'⟩
  have HD4 := Lib.hid (HD3.out.past g4' T4 hg)
  have n2 : IntKind.i64.wrap (k - 2) = k - 2 := IntWalk.i64_in _ (by omega)
  clear T4 g4' HD3
  go_wp2_with fail
  with_reducible refine (next_x _ _ _ _ (by omega) (by omega) HD4.out.tp).mono ?_
  rintro e w5 ⟨l, l0, l1, rfl, T5, g5⟩
  have HD5 := Lib.hid (HD4.out.past g5 T5 hg)
  have n3 : IntKind.i64.wrap (l - 2) = l - 2 := IntWalk.i64_in _ (by omega)
  clear T5 g5 HD4
  go_wp2_with fail
  with_reducible refine (next_x _ _ _ _ (by omega) (by omega) HD5.out.tp).mono ?_
  rintro e w6 ⟨q, q0, q1, rfl, T6, g6⟩
  have HD6 := Lib.hid (HD5.out.past g6 T6 hg)
  clear T6 g6 HD5
  go_upto_if 33 with fail
  go_cut [5, 6, 7] (DcCut w 27 g4 nx a4 c4 x)
  case first =>
    by_cases h0 : q = 0
    · subst h0
      go_wp2_with fail
      with_reducible refine (odd_x _ _ _ HD6.out.tp (hB _ HD6.out)).mono ?_
      rintro e w7 ⟨z1, rfl, T7, g7⟩
      have HD7 := Lib.hid (HD6.out.past g7 T7 hg)
      clear T7 g7 HD6
      go_wp2_with fail
      with_reducible refine (odd_x _ _ _ HD7.out.tp (hB _ HD7.out)).mono ?_
      rintro e w8 ⟨z2, rfl, T8, g8⟩
      have HD8 := Lib.hid (HD7.out.past g8 T8 hg)
      clear T8 g8 HD7
      go_wp2_with fail
      with_reducible refine (odd_w _ _ _ HD8.out.tp (hB _ HD8.out)).mono ?_
      rintro e w9 ⟨z3, hz3, rfl, T9, g9⟩
      have HD9 := Lib.hid (HD8.out.past g9 T9 hg)
      have HZ3 := Lib.hid (wf_le hz3)
      clear T9 g9 HD8 hz3
      go_wp2_with fail
      go_meet
      exact ⟨z1, z2, z3, rfl, rfl, rfl, HZ3.out, HD9.out⟩
    · have e0 : (q == 0) = false := by simpa using h0
      clear h0
      go_wp2_with fail
      go_meet
      exact ⟨d - 1, k - 2, l - 2, rfl, rfl, rfl, by omega, HD6.out⟩
  case rest =>
    clear HD6 n1 n2 n3 d0 d1 k0 k1 l0 l1 q0 q1
    obtain ⟨d, k, l, rfl, rfl, rfl, hl, D⟩ := hcut
    obtain ⟨ya, ea, hya⟩ := NwR.some d k
    obtain ⟨yc, ec, hyc⟩ := CmR.some x d k
    obtain ⟨na, hna⟩ : ∃ n, ya.e.length = n := ⟨_, rfl⟩
    have hna5 : ya.e.length ≤ 1000 := by have := hya.small; omega
    have hnc : yc.e.length = nx := hyc.len.trans HNX.out
    have hnc5 : yc.e.length ≤ 1000 := by rw [hyc.len]; exact hx5
    obtain ⟨ok, hok⟩ : ∃ ok, okD x = ok := ⟨_, rfl⟩
    obtain ⟨lm, hlm⟩ : ∃ lm, lmF l k = lm := ⟨_, rfl⟩
    obtain ⟨bg, hbg⟩ : ∃ bg, bgF l = bg := ⟨_, rfl⟩
    obtain ⟨sh, hsh⟩ : ∃ sh, shF x d l = sh := ⟨_, rfl⟩
    have HYA := Lib.hid hya
    have HYC := Lib.hid hyc
    have HOK := Lib.hid hok
    have HLM := Lib.hid hlm
    have HBG := Lib.hid hbg
    have HSH := Lib.hid hsh
    have HNA := Lib.hid hna
    have HNC := Lib.hid hnc
    have HL := Lib.hid hl
    have O4 := Lib.hid D.own
    have PX := Lib.hid (D.row.to (q := fun _ => True) fun _ _ _ => trivial)
    have HG := Lib.hid D.gr
    clear hya hyc hok hlm hbg hsh hna hnc hl D hB hg
    go_wp2_with fail
    skip
    with_reducible refine (new_p HYA.out).mono ?_
    rintro e w11 ⟨v, rfl, P, g⟩
    obtain ⟨a8, c8, rfl, -⟩ := P.opn HNA.out
    have GX := (Grew.refl w11).alloc (.cells #[.slice a8 na c8, .int .i64 ya.p, .int .i64 ya.l] 27)
    have GY := g.trans GX
    replace O4 := Lib.hid (O4.out.grew GY)
    replace PX := Lib.hid (PX.out.grew GY)
    replace HG := Lib.hid (HG.out.trans GY)
    have O8 := Lib.hid (Own.new w11 27 #[.slice a8 na c8, .int .i64 ya.p, .int .i64 ya.l])
    have PA := Lib.hid ((P.to (q := fun _ => True) fun _ _ _ => trivial).grew GX)
    clear P g GX GY
    go_wp2_with fail
    with_reducible refine (new_q HYA.out).mono ?_
    rintro e w12 ⟨v, rfl, P, g⟩
    obtain ⟨a10, c10, rfl, -⟩ := P.opn HNA.out
    have GX := (Grew.refl w12).alloc (.cells #[.slice a10 na c10, .int .i64 ya.p, .int .i64 ya.l] 27)
    have GY := g.trans GX
    replace O4 := Lib.hid (O4.out.grew GY)
    replace O8 := Lib.hid (O8.out.grew GY)
    replace PX := Lib.hid (PX.out.grew GY)
    replace PA := Lib.hid (PA.out.grew GY)
    replace HG := Lib.hid (HG.out.trans GY)
    have O10 := Lib.hid (Own.new w12 27 #[.slice a10 na c10, .int .i64 ya.p, .int .i64 ya.l])
    have PB := Lib.hid ((P.to (q := fun _ => True) fun _ _ _ => trivial).grew GX)
    clear P g GX GY
    obtain ⟨m0, m1, m2, -⟩ := O4.out.three
    go_wp2_with fail
    with_reducible refine (complete_p PX.out hx5 HYC.out).mono ?_
    rintro e w13 ⟨v, rfl, P, g⟩
    obtain ⟨a12, c12, rfl, -⟩ := P.opn HNC.out
    have GX := (Grew.refl w13).alloc (.cells #[.slice a12 nx c12, .int .i64 yc.p, .int .i64 yc.l] 27)
    have GY := g.trans GX
    replace O4 := Lib.hid (O4.out.grew GY)
    replace O8 := Lib.hid (O8.out.grew GY)
    replace O10 := Lib.hid (O10.out.grew GY)
    replace PX := Lib.hid (PX.out.grew GY)
    replace PA := Lib.hid (PA.out.grew GY)
    replace PB := Lib.hid (PB.out.grew GY)
    replace HG := Lib.hid (HG.out.trans GY)
    have O12 := Lib.hid (Own.new w13 27 #[.slice a12 nx c12, .int .i64 yc.p, .int .i64 yc.l])
    have PC := Lib.hid ((P.to (q := fun _ => True) fun _ _ _ => trivial).grew GX)
    clear P g GX GY m0 m1 m2
    obtain ⟨m0, m1, m2, -⟩ := O4.out.three
    go_wp2_with fail
    with_reducible refine (complete_q PX.out hx5 HYC.out).mono ?_
    rintro e w14 ⟨v, rfl, P, g⟩
    obtain ⟨a14, c14, rfl, -⟩ := P.opn HNC.out
    have GX := (Grew.refl w14).alloc (.cells #[.slice a14 nx c14, .int .i64 yc.p, .int .i64 yc.l] 27)
    have GY := g.trans GX
    replace O4 := Lib.hid (O4.out.grew GY)
    replace O8 := Lib.hid (O8.out.grew GY)
    replace O10 := Lib.hid (O10.out.grew GY)
    replace O12 := Lib.hid (O12.out.grew GY)
    replace PX := Lib.hid (PX.out.grew GY)
    replace PA := Lib.hid (PA.out.grew GY)
    replace PB := Lib.hid (PB.out.grew GY)
    replace PC := Lib.hid (PC.out.grew GY)
    replace HG := Lib.hid (HG.out.trans GY)
    have O14 := Lib.hid (Own.new w14 27 #[.slice a14 nx c14, .int .i64 yc.p, .int .i64 yc.l])
    have PD := Lib.hid ((P.to (q := fun _ => True) fun _ _ _ => trivial).grew GX)
    clear P g GX GY m0 m1 m2
    go_upto_region 10 with fail
    generalize w11.heap.size = b8 at *
    generalize w12.heap.size = b10 at *
    generalize w13.heap.size = b12 at *
    generalize w14.heap.size = b14 at *
    generalize World.alloc w14 _ = wz at *
    replace O4 := Lib.hid O4.out.drew
    replace O8 := Lib.hid O8.out.drew
    replace O10 := Lib.hid O10.out.drew
    replace O12 := Lib.hid O12.out.drew
    replace O14 := Lib.hid O14.out.drew
    replace PX := Lib.hid (PX.out.grew ((Grew.refl wz).drew))
    replace PA := Lib.hid (PA.out.grew ((Grew.refl wz).drew))
    replace PB := Lib.hid (PB.out.grew ((Grew.refl wz).drew))
    replace PC := Lib.hid (PC.out.grew ((Grew.refl wz).drew))
    replace PD := Lib.hid (PD.out.grew ((Grew.refl wz).drew))
    replace HG := Lib.hid HG.out.drew
    obtain ⟨m0, m1, m2, -⟩ := O4.out.three
    obtain ⟨ka0, ka1, ka2, -⟩ := O8.out.three
    obtain ⟨kb0, kb1, kb2, -⟩ := O10.out.three
    obtain ⟨kc0, kc1, kc2, -⟩ := O12.out.three
    obtain ⟨kd0, kd1, kd2, -⟩ := O14.out.three
    go_region_held3 (fun w' => w'.cell? ⟨g4, 0, none⟩ = some (.slice a4 nx c4) ∧ w'.cell? ⟨g4, 1, none⟩ = some (.int .i64 x.p) ∧ w'.cell? ⟨g4, 2, none⟩ = some (.int .i64 x.l) ∧ w'.cell? ⟨b8, 0, none⟩ = some (.slice a8 na c8) ∧ w'.cell? ⟨b8, 1, none⟩ = some (.int .i64 ya.p) ∧ w'.cell? ⟨b8, 2, none⟩ = some (.int .i64 ya.l) ∧ w'.cell? ⟨b10, 0, none⟩ = some (.slice a10 na c10) ∧ w'.cell? ⟨b10, 1, none⟩ = some (.int .i64 ya.p) ∧ w'.cell? ⟨b10, 2, none⟩ = some (.int .i64 ya.l) ∧ w'.cell? ⟨b12, 0, none⟩ = some (.slice a12 nx c12) ∧ w'.cell? ⟨b12, 1, none⟩ = some (.int .i64 yc.p) ∧ w'.cell? ⟨b12, 2, none⟩ = some (.int .i64 yc.l) ∧ w'.cell? ⟨b14, 0, none⟩ = some (.slice a14 nx c14) ∧ w'.cell? ⟨b14, 1, none⟩ = some (.int .i64 yc.p) ∧ w'.cell? ⟨b14, 2, none⟩ = some (.int .i64 yc.l))
      (refine ⟨?_, ?_, ?_, ?_, ?_, ?_, ?_, ?_, ?_, ?_, ?_, ?_, ?_, ?_, ?_⟩ <;> (repeat (first | (with_reducible assumption) | (with_reducible refine far_drew ?_))))
      (first
        | (go_at_call 13; (with_reducible refine (same_q PA.out PB.out hna5).mono ?_); rintro e vx ⟨rfl, g⟩; replace O4 := Lib.hid (O4.out.grew g); replace O8 := Lib.hid (O8.out.grew g); replace O10 := Lib.hid (O10.out.grew g); replace O12 := Lib.hid (O12.out.grew g); replace O14 := Lib.hid (O14.out.grew g); replace PX := Lib.hid (PX.out.grew g); replace PA := Lib.hid (PA.out.grew g); replace PB := Lib.hid (PB.out.grew g); replace PC := Lib.hid (PC.out.grew g); replace PD := Lib.hid (PD.out.grew g); replace HG := Lib.hid (HG.out.trans g); clear g m0 m1 m2 ka0 ka1 ka2 kb0 kb1 kb2 kc0 kc1 kc2 kd0 kd1 kd2; obtain ⟨m0, m1, m2, -⟩ := O4.out.three; obtain ⟨ka0, ka1, ka2, -⟩ := O8.out.three; obtain ⟨kb0, kb1, kb2, -⟩ := O10.out.three; obtain ⟨kc0, kc1, kc2, -⟩ := O12.out.three; obtain ⟨kd0, kd1, kd2, -⟩ := O14.out.three)
        | (go_at_call 13; (with_reducible refine (same_q PC.out PD.out hnc5).mono ?_); rintro e vx ⟨rfl, g⟩; replace O4 := Lib.hid (O4.out.grew g); replace O8 := Lib.hid (O8.out.grew g); replace O10 := Lib.hid (O10.out.grew g); replace O12 := Lib.hid (O12.out.grew g); replace O14 := Lib.hid (O14.out.grew g); replace PX := Lib.hid (PX.out.grew g); replace PA := Lib.hid (PA.out.grew g); replace PB := Lib.hid (PB.out.grew g); replace PC := Lib.hid (PC.out.grew g); replace PD := Lib.hid (PD.out.grew g); replace HG := Lib.hid (HG.out.trans g); clear g m0 m1 m2 ka0 ka1 ka2 kb0 kb1 kb2 kc0 kc1 kc2 kd0 kd1 kd2; obtain ⟨m0, m1, m2, -⟩ := O4.out.three; obtain ⟨ka0, ka1, ka2, -⟩ := O8.out.three; obtain ⟨kb0, kb1, kb2, -⟩ := O10.out.three; obtain ⟨kc0, kc1, kc2, -⟩ := O12.out.three; obtain ⟨kd0, kd1, kd2, -⟩ := O14.out.three)
        | (go_at_call 14; (with_reducible refine (check_p PX.out hx5 HOK.out).mono ?_); rintro e vx ⟨rfl, g⟩; replace O4 := Lib.hid (O4.out.grew g); replace O8 := Lib.hid (O8.out.grew g); replace O10 := Lib.hid (O10.out.grew g); replace O12 := Lib.hid (O12.out.grew g); replace O14 := Lib.hid (O14.out.grew g); replace PX := Lib.hid (PX.out.grew g); replace PA := Lib.hid (PA.out.grew g); replace PB := Lib.hid (PB.out.grew g); replace PC := Lib.hid (PC.out.grew g); replace PD := Lib.hid (PD.out.grew g); replace HG := Lib.hid (HG.out.trans g); clear g m0 m1 m2 ka0 ka1 ka2 kb0 kb1 kb2 kc0 kc1 kc2 kd0 kd1 kd2; obtain ⟨m0, m1, m2, -⟩ := O4.out.three; obtain ⟨ka0, ka1, ka2, -⟩ := O8.out.three; obtain ⟨kb0, kb1, kb2, -⟩ := O10.out.three; obtain ⟨kc0, kc1, kc2, -⟩ := O12.out.three; obtain ⟨kd0, kd1, kd2, -⟩ := O14.out.three)
        | (go_at_call 15; (with_reducible refine (check_q PX.out hx5 HOK.out).mono ?_); rintro e vx ⟨rfl, g⟩; replace O4 := Lib.hid (O4.out.grew g); replace O8 := Lib.hid (O8.out.grew g); replace O10 := Lib.hid (O10.out.grew g); replace O12 := Lib.hid (O12.out.grew g); replace O14 := Lib.hid (O14.out.grew g); replace PX := Lib.hid (PX.out.grew g); replace PA := Lib.hid (PA.out.grew g); replace PB := Lib.hid (PB.out.grew g); replace PC := Lib.hid (PC.out.grew g); replace PD := Lib.hid (PD.out.grew g); replace HG := Lib.hid (HG.out.trans g); clear g m0 m1 m2 ka0 ka1 ka2 kb0 kb1 kb2 kc0 kc1 kc2 kd0 kd1 kd2; obtain ⟨m0, m1, m2, -⟩ := O4.out.three; obtain ⟨ka0, ka1, ka2, -⟩ := O8.out.three; obtain ⟨kb0, kb1, kb2, -⟩ := O10.out.three; obtain ⟨kc0, kc1, kc2, -⟩ := O12.out.three; obtain ⟨kd0, kd1, kd2, -⟩ := O14.out.three))
    go_upto_region 11 with fail
    clear m0 m1 m2 ka0 ka1 ka2 kb0 kb1 kb2 kc0 kc1 kc2 kd0 kd1 kd2
    clear O8 O10 O12 O14 PA PB PC PD
    skip
    replace O4 := Lib.hid O4.out.drew
    replace PX := Lib.hid (PX.out.grew ((Grew.refl _).drew))
    replace HG := Lib.hid HG.out.drew
    obtain ⟨m0, m1, m2, -⟩ := O4.out.three
    go_region_held3 (fun w' => w'.cell? ⟨g4, 0, none⟩ = some (.slice a4 nx c4) ∧ w'.cell? ⟨g4, 1, none⟩ = some (.int .i64 x.p) ∧ w'.cell? ⟨g4, 2, none⟩ = some (.int .i64 x.l))
      (refine ⟨?_, ?_, ?_⟩ <;> (repeat (first | (with_reducible assumption) | (with_reducible refine far_drew ?_))))
      (first
        | (go_at_call 16; (with_reducible refine (lim_p HLM.out).mono ?_); rintro e vx ⟨rfl, rfl⟩)
        | (go_at_call 17; (with_reducible refine (lim_q HLM.out).mono ?_); rintro e vx ⟨rfl, rfl⟩)
        | (go_at_call 18; (with_reducible refine (bg_p HBG.out HL.out).mono ?_); rintro e vx ⟨rfl, rfl⟩)
        | (go_at_call 19; (with_reducible refine (bg_q HBG.out HL.out).mono ?_); rintro e vx ⟨rfl, rfl⟩)
        | (go_at_call 20; (with_reducible refine (share_p PX.out hx5 HSH.out).mono ?_); rintro e vx ⟨rfl, g⟩; replace O4 := Lib.hid (O4.out.grew g); replace PX := Lib.hid (PX.out.grew g); replace HG := Lib.hid (HG.out.trans g); clear g m0 m1 m2; obtain ⟨m0, m1, m2, -⟩ := O4.out.three)
        | (go_at_call 21; (with_reducible refine (share_q PX.out hx5 HSH.out).mono ?_); rintro e vx ⟨rfl, g⟩; replace O4 := Lib.hid (O4.out.grew g); replace PX := Lib.hid (PX.out.grew g); replace HG := Lib.hid (HG.out.trans g); clear g m0 m1 m2; obtain ⟨m0, m1, m2, -⟩ := O4.out.three)
        | (go_at_call 22; (with_reducible refine (awake_any _).mono ?_); rintro e vx ⟨rfl, g⟩; replace O4 := Lib.hid (O4.out.grew g); replace PX := Lib.hid (PX.out.grew g); replace HG := Lib.hid (HG.out.trans g); clear g m0 m1 m2; obtain ⟨m0, m1, m2, -⟩ := O4.out.three))
    go_wp2
    go_ret
    exact ⟨by simp, HG.out⟩

theorem Try.own : ownKnob Try.prog.godebug = none := by kernel_rfl
theorem Try.laidOut : laidOutB Try.prog = true := by kernel_rfl

theorem dirtyCalls_contract (W : World) (base : Nat) (args : Array Value) (H : Type) (enc : TypeId × Value → H) (ds : List (DataW H)) (p : List MemPlace)
    (hval : ∀ (j : Nat) t v, Try.f3.params[j]? = some t → args[j]? = some v → Value.okWide Try.prog W .any base t v)
    (hA : DataW.TrodAll enc Try.prog W 0 (fun _ => true) true Try.f3.params.toList args.toList ds p) :
    (∃ d0, ds = [d0]) ∧ Calls Try.prog 3 args W fun e W' => e = .returned (.bool true) ∧ Below W.heap.size W W' := by
  rw [Try.params3] at hval hA
  obtain ⟨v0, d0, p0, ha, hd, hp, h0⟩ := args_1 hA
  subst ha hd
  obtain ⟨A0, c0, xs0, rfl, hr0, hm0⟩ := open_introw Try.underlying22 Try.underlying3 (by kernel_rfl) (hval 0 _ _ rfl rfl) h0
  exact ⟨⟨_, rfl⟩, (dcalls_core A0 c0 xs0 W hr0 hm0).mono fun _ _ h => h⟩

set_option maxRecDepth 100000 in
theorem dirtyCalls_lifted (os : Os) (started : os.Started) (H : Type) (enc : TypeId × Value → H) :
    ReturnsInHanded {} Try.checked os 3 .any (Rows.dirtyCallsSpec.pre6 enc Try.prog Try.f3 Rows.dirtyCallsRow.domain false) (Rows.dirtyCallsSpec.post enc Try.prog Try.f3 false true false false) := by
  refine returnsInHanded_of_change (C := Try.checked) Try.own started (by kernel_rfl) Try.func3
    (ChangeSpec.witness6 (enc := enc) (C := Try.checked) false ⟨#[], #[.slice none 0 0], []⟩ 8 (by kernel_rfl) (by kernel_rfl) (by kernel_rfl) (by kernel_rfl)) ?_
  intro W base args ds gs before hval hW _ _
  obtain ⟨p, q, hA, hV, hrest⟩ := id hW
  obtain ⟨⟨d0, rfl⟩, hc⟩ := dirtyCalls_contract W base args H enc ds p hval hA
  obtain ⟨rfl, -⟩ := trodVars_none hV
  refine hc.mono fun e W' ⟨he, hb⟩ => ⟨_, he, ?_⟩
  exact law_close (tb := 4) Try.laidOut (by rw [Try.params3]; decide +kernel) Try.underlying4 rfl rfl hW rfl rfl rfl hb

theorem dirtyCalls_holds : Rows.DirtyCallsSaid :=
  OpenClaim.holds_of_wide 3 Try.f3 rfl rfl rfl rfl rfl rfl rfl ⟨rfl, rfl, rfl, rfl, rfl⟩ rfl rfl rfl rfl rfl (by kernel_rfl) Try.func3 (by kernel_rfl)
    (of_decide_eq_true (by kernel_rfl)) (by unfold Func.isWrapper; first | (rw [if_pos (by decide +kernel)]; kernel_rfl) | (rw [if_neg (by decide +kernel)]; exact ⟨rfl, rfl⟩))
    (fun os started H enc _ => dirtyCalls_lifted os started H enc)

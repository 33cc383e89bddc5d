/- The reference's Feed (layer 6): contract. -/
import Derived.Test.YtfljohgcbihhbaaDoorSr5
namespace Go.Proofs.YtfljohgcbihhbaaDoor
open Go.RowKit Go.Mine

theorem RowN.form {T : TypeId} {w : World} {B n : Nat} {v : Value} {f : Nat → Str} (h : RowN T w B v (lsF f n)) (h1 : 1 ≤ n) : ∃ g c, v = .slice (some ⟨g, 0, none⟩) n c ∧ B ≤ g ∧ g < w.heap.size ∧ Rd w (some ⟨g, 0, none⟩) n f ∧ n ≤ c := by
  obtain ⟨a, c, rfl, hr, hc, -, -⟩ := h.rd
  rw [lsF_len] at hr hc ⊢
  obtain ⟨g, rfl, hg, -⟩ := hr 0 (by omega)
  refine ⟨g, c, rfl, h.1.above g rfl, hg, fun k hk => ?_, hc⟩
  obtain ⟨g', e, hg', he⟩ := hr k hk
  exact ⟨g', e, hg', by rw [← lsF_get f n k hk]; exact he⟩
def bestI (f : Nat → Str) (a b : Int) (n : Nat) : Int := match bestO f a b n with
  | none => -1
  | some j => j
/-- The reference answers the list itself where there is an error. -/
def RetRf (f : Nat → Str) (n : Nat) (x y : Int) (v : Value) (w : World) (e : Ending) (w' : World) : Prop :=
  (¬errF f n x y = 0 ∧ e = .returned (.tuple #[v, .int .i64 0, .int .i64 (errF f n x y)]) ∧ Grew w w') ∨
  (errF f n x y = 0 ∧ ∃ v', e = .returned (.tuple #[v', .int .i64 (fdI f n x y), .int .i64 0]) ∧ RowN 29 w' w.heap.size v' (fdL f n x y) ∧ Grew w w')
theorem rcheck_v {v : Bool} (a : Option Addr) (n cp : Nat) (f : Nat → Str) (w : World) (hn : n ≤ 1000000) (hr : Rd w a n f) (h : chkB f n = v) :
    Calls Tryd.prog 44 #[.slice a n cp] w (RetG (.bool v) w) := h ▸ rcheck_any a n cp f w hn hr
theorem rfeed_1 (a : Option Addr) (n cp : Nat) (f : Nat → Str) (x y : Int) (w : World) (hn : n ≤ 1000000) (hr : Rd w a n f) (h1 : chkB f n = false) :
    Calls Tryd.prog 24 #[.slice a n cp, .int .i64 x, .int .i64 y] w (RetRf f n x y (.slice a n cp) w) := by
  have HE := Lib.hid (show errF f n x y = 1 from by simp [errF, h1])
  have HR := Lib.hid hr
  clear hr
  go_enter Tryd.func24, Tryd.ntmps24
  go_wp2_with fail
  with_reducible refine (rcheck_v _ _ _ _ _ hn HR.out h1).mono ?_
  rintro e w1 ⟨rfl, g1⟩
  go_wp2
  refine bodyPost_ret (v := .tuple #[.slice a n cp, .int .i64 0, .int .i64 1]) (by simp [results, Tryd.results24, go_sem]) rfl (.inl ⟨by rw [HE.out]; decide, by rw [HE.out], g1⟩)
theorem rfeed_2 (a : Option Addr) (n cp : Nat) (f : Nat → Str) (x y : Int) (w : World) (hn : n ≤ 1000000) (hr : Rd w a n f) (h1 : chkB f n = true) (h2 : accB x y = false) :
    Calls Tryd.prog 24 #[.slice a n cp, .int .i64 x, .int .i64 y] w (RetRf f n x y (.slice a n cp) w) := by
  have HE := Lib.hid (show errF f n x y = 2 from by simp [errF, h1, h2])
  have HR := Lib.hid hr
  clear hr
  go_enter Tryd.func24, Tryd.ntmps24
  go_wp2_with fail
  with_reducible refine (rcheck_v _ _ _ _ _ hn HR.out h1).mono ?_
  rintro e w1 ⟨rfl, g1⟩
  go_wp2_with (go_at_call 32; (with_reducible refine (rAccess_v _ _ _ h2).mono ?_); rintro e w2 ⟨rfl, rfl⟩)
  refine bodyPost_ret (v := .tuple #[.slice a n cp, .int .i64 0, .int .i64 2]) (by simp [results, Tryd.results24, go_sem]) rfl (.inl ⟨by rw [HE.out]; decide, by rw [HE.out], g1⟩)
theorem better_v {v : Bool} (x y : Str) (w : World) (hx : RgtP x) (hy : RgtP y) (h : btB x y = v) : Calls Tryd.prog 46 #[strV x, strV y] w (RetG (.bool v) w) := h ▸ better_any x y w hx hy
set_option maxRecDepth 100000 in
set_option maxHeartbeats 4000000 in
theorem rfeed_3 (a : Option Addr) (n cp : Nat) (f : Nat → Str) (x y : Int) (w : World) (hr : Rd w a n f) (hz : n = 0 → a = none ∧ cp = 0) (h1 : chkB f n = true) (h2 : accB x y = true) :
    Calls Tryd.prog 24 #[.slice a n cp, .int .i64 x, .int .i64 y] w (RetRf f n x y (.slice a n cp) w) := by
  have HR := Lib.hid hr
  have HZ := Lib.hid hz
  have hn : n ≤ 4 := by have := h1; unfold chkB at this; rw [Bool.and_eq_true] at this; exact of_decide_eq_true this.1
  have hck : ckN f n = true := by have := h1; unfold chkB at this; rw [Bool.and_eq_true] at this; exact this.2
  have HCK := Lib.hid (ck_all hck)
  have t0 := last_nn f n
  have t1 := last_le hck
  clear hr hz hck
  go_enter Tryd.func24, Tryd.ntmps24
  go_wp2_with fail
  with_reducible refine (rcheck_v _ _ _ _ _ (by omega) HR.out h1).mono ?_
  rintro e w1 ⟨rfl, g1⟩
  have R1 := Lib.hid (HR.out.grew g1)
  go_wp2_with (go_at_call 32; (with_reducible refine (rAccess_v _ _ _ h2).mono ?_); rintro e w2 ⟨rfl, rfl⟩)
  have HC1 := Lib.hid h1
  have HC2 := Lib.hid h2
  clear h1 h2
  go_loop [9, 10] (fun v i => ∃ k : Nat, k ≤ n ∧ i = .int .i64 k ∧ v = .int .i64 (lastN f k + 1)) (fun _ i => n - (intOf i).toNat)
  case atStart => exact ⟨0, by omega, rfl, rfl⟩
  case round =>
    obtain ⟨k, hk, rfl, rfl⟩ := hrel
    by_cases hlt : k < n
    · obtain ⟨g, rfl, hg, he⟩ := R1.out k hlt
      obtain ⟨p0, p1, p2, p3, p4, p5⟩ := he
      have HL := Lib.hid (show lastN f (k + 1) = if lastN f k < (f k).t then (f k).t else lastN f k from rfl)
      have b0 := last_nn f k
      have b1 := (HCK.out k hlt).1.2.2.2.2.1
      have b2 := (HCK.out k hlt).1.2.2.2.1
      have b3 : lastN f k ≤ 1000000 := last_le (ck_of (fun i hi => HCK.out i (by omega)))
      generalize lastN f k = z at *
      generalize f k = s at *
      go_wp2
      exact ⟨⟨k + 1, by omega, by go_num, by rw [HL.out]; by_cases hzz : z < s.t <;> simp [hzz]⟩, by simp [intOf]; omega⟩
    · have hkn : k = n := by omega
      subst hkn
      by_cases h3 : lastN f k = 1000000
      · have HE := Lib.hid (show errF f k x y = 3 from by unfold errF; rw [HC1.out, HC2.out]; simp [h3])
        rw [h3]
        go_wp2
        refine bodyPost_ret (v := .tuple #[.slice a k cp, .int .i64 0, .int .i64 3]) (by simp [results, Tryd.results24, go_sem]) rfl (.inl ⟨by rw [HE.out]; decide, by rw [HE.out], g1⟩)
      · have HE := Lib.hid (show errF f k x y = 0 from by unfold errF; rw [HC1.out, HC2.out]; simp [h3])
        have t2 : lastN f k < 1000000 := by omega
        obtain ⟨t, ht⟩ : ∃ t, lastN f k = t := ⟨_, rfl⟩
        have HT := Lib.hid ht
        rw [ht] at t0 t1 t2 ⊢
        clear h3 ht
        go_wp2
        go_loopw [11, 12] (fun v i wr => ∃ m : Nat, m ≤ k ∧ i = .int .i64 m ∧ v = .int .i64 (bestI f x y m) ∧ Grew w1 wr) (fun _ i _ => k - (intOf i).toNat)
        case atStart => exact ⟨0, by omega, rfl, rfl, Grew.refl _⟩
        case round =>
          obtain ⟨m, hm, rfl, rfl, G⟩ := hrel
          by_cases hlt2 : m < k
          · obtain ⟨g, rfl, hg, he⟩ := R1.out m hlt2
            obtain ⟨p0, p1, p2, p3, p4, p5⟩ := he.grew G hg
            have HS := Lib.hid he
            have hbm := best_mt f x y m
            have HRm := Lib.hid (HCK.out m hlt2).1
            clear he
            have HBn := Lib.hid (show bestO f x y (m + 1) = _ from by rw [bestO])
            obtain ⟨s, hs⟩ : ∃ s, f m = s := ⟨_, rfl⟩
            rw [hs] at p0 p1 p2 p3 p4 p5 HS HRm HBn
            clear hs
            go_wp2_with fail
            cases hb : mtcB s x y
            · rw [hb] at HBn
              with_reducible refine (rmatches_any _ _ _ _).mono ?_
              rw [hb]
              rintro e w2 ⟨rfl, g2⟩
              have HBI := Lib.hid (show bestI f x y (m + 1) = bestI f x y m from by unfold bestI; rw [HBn.out])
              clear hbm
              generalize bestI f x y m = bi at *
              go_wp2
              go_quiet (fail)
              go_wp2
              exact ⟨⟨m + 1, by omega, by go_num, by rw [HBI.out], ((G.trans g2).alloc _).drewN _⟩, by simp [intOf]; omega⟩
            · rw [hb] at HBn
              with_reducible refine (rmatches_any _ _ _ _).mono ?_
              rw [hb]
              rintro e w2 ⟨rfl, g2⟩
              rcases hbm with ⟨b1, -⟩ | ⟨j, b1, b2, -⟩
              · rw [b1] at HBn
                rw [show bestI f x y m = -1 from by unfold bestI; rw [b1]]
                have HBI := Lib.hid (show bestI f x y (m + 1) = m from by unfold bestI; rw [HBn.out])
                clear b1
                go_wp2
                go_quiet (fail)
                go_wp2
                exact ⟨⟨m + 1, by omega, by go_num, by rw [HBI.out], ((G.trans g2).alloc _).drewN _⟩, by simp [intOf]; omega⟩
              · rw [b1] at HBn
                rw [show bestI f x y m = j from by unfold bestI; rw [b1]]
                obtain ⟨g', e', hg', hej⟩ := R1.out j (by omega)
                obtain rfl : g = g' := by injection e' with e'; injection e'
                have HRj := Lib.hid (HCK.out j (by omega)).1
                obtain ⟨z, hz⟩ : ∃ z, f j = z := ⟨_, rfl⟩
                rw [hz] at hej HRj
                have HBI := Lib.hid (show bestI f x y (m + 1) = if btB s z = true then (m : Int) else j from by
                  unfold bestI; rw [HBn.out, ← hz]; simp only [btB, decide_eq_true_eq]; by_cases hc : 0 < clmI s (f j) <;> simp [hc])
                have G3 : Grew w1 (w2.alloc (.cells (csS (becF s x y)) 29)) := (G.trans g2).alloc _
                have HZ := Lib.hid hej
                clear hz e' hej b1 HBn p0 p1 p2 p3 p4 p5
                go_upto_region 17 with fail
                generalize World.alloc w2 _ = w3 at *
                obtain ⟨p0, p1, p2, p3, p4, p5⟩ := HS.out.grew G3 hg
                obtain ⟨q0, q1, q2, q3, q4, q5⟩ := HZ.out.grew G3 hg
                have i0 : (0 : Int) ≤ (m : Int) := by omega
                have i1 : (m : Int) < (k : Int) := by omega
                have i2 : (0 : Int) ≤ (j : Int) := by omega
                have i3 : (j : Int) < (k : Int) := by omega
                have hg3 := Nat.lt_of_lt_of_le hg G3.size
                cases hbt : btB s z
                all_goals
                  go_region_held3 (fun w' => (w'.cell? ⟨g, m * 6, none⟩ = some (.int .i64 s.k) ∧ w'.cell? ⟨g, m * 6 + 1, none⟩ = some (.int .i64 s.a) ∧ w'.cell? ⟨g, m * 6 + 2, none⟩ = some (.int .i64 s.b) ∧ w'.cell? ⟨g, m * 6 + 3, none⟩ = some (.int .i64 s.d) ∧ w'.cell? ⟨g, m * 6 + 4, none⟩ = some (.int .i64 s.h) ∧ w'.cell? ⟨g, m * 6 + 5, none⟩ = some (.int .i64 s.t))
                      ∧ w'.cell? ⟨g, j * 6, none⟩ = some (.int .i64 z.k) ∧ w'.cell? ⟨g, j * 6 + 1, none⟩ = some (.int .i64 z.a) ∧ w'.cell? ⟨g, j * 6 + 2, none⟩ = some (.int .i64 z.b) ∧ w'.cell? ⟨g, j * 6 + 3, none⟩ = some (.int .i64 z.d) ∧ w'.cell? ⟨g, j * 6 + 4, none⟩ = some (.int .i64 z.h) ∧ w'.cell? ⟨g, j * 6 + 5, none⟩ = some (.int .i64 z.t))
                    (refine ⟨⟨?_, ?_, ?_, ?_, ?_, ?_⟩, ?_, ?_, ?_, ?_, ?_, ?_⟩ <;> (repeat (first | with_reducible assumption | with_reducible refine far_drew ?_)))
                    (first | (go_at_call 46; (with_reducible refine (better_v _ _ _ HRm.out HRj.out hbt).mono ?_); rintro e w4 ⟨rfl, g4⟩; have G4 : Grew w1 w4 := G3.drew.trans g4; clear p0 p1 p2 p3 p4 p5 q0 q1 q2 q3 q4 q5; obtain ⟨p0, p1, p2, p3, p4, p5⟩ := HS.out.grew G4 hg; obtain ⟨q0, q1, q2, q3, q4, q5⟩ := HZ.out.grew G4 hg))
                  go_wp2
                  exact ⟨⟨m + 1, by omega, by go_num, by rw [HBI.out, hbt]; rfl, G4⟩, by simp [intOf]; omega⟩
          · have hmk : m = k := by omega
            subst hmk
            have R2 := Lib.hid (R1.out.grew G)
            have G2 := g1.trans G
            rcases best_mt f x y m with ⟨b1, -⟩ | ⟨j, b1, b2, b3, -⟩
            · rw [show bestI f x y m = -1 from by unfold bestI; rw [b1]]
              have HP := Lib.hid (show newS f m x y = ⟨1, x, y, 0, 0, t + 1⟩ from by rw [newS, preS, b1, HT.out])
              by_cases h0 : m = 0
              · obtain ⟨rfl, rfl⟩ := HZ.out h0
                subst h0
                have HL := Lib.hid (show fdL f 0 x y = [] ++ [⟨1, x, y, 0, 0, t + 1⟩] from by rw [fdL, if_pos HE.out, slotO, b1, HP.out]; rfl)
                have HI := Lib.hid (show fdI f 0 x y = 0 from by rw [fdI, if_pos HE.out, slotO, b1]; rfl)
                have hB := G2.size
                have HBB := Lib.hid hB
                go_wp2_with (at_builtin; (refine wpList_append_row (L := []) _ rfl (.tmp 109) (.tmp 111) 26 rfl w.heap.size info_S und_S (by decide) (by decide) encS_len (.slice none 0 0) rfl (RowE.nil _ _) _ _ ⟨1, x, y, 0, 0, t + 1⟩ rfl (Own.new2 _ _ _ _) encS_one (by decide) (by decide) (by have := HBB.out; simp; omega) ?_); intro g8 cap w8 R8 G8 o8)
                refine bodyPost_ret (v := .tuple #[.slice (some ⟨g8, 0, none⟩) 1 cap, .int .i64 0, .int .i64 0]) (by simp [results, Tryd.results24, go_sem]) rfl (.inr ⟨HE.out, _, by rw [HI.out], ⟨by rw [HL.out]; exact R8, fun e => by rw [HL.out] at e; simp at e⟩, ?_⟩)
                exact Grew.keptA (B := w.heap.size) ((G2.alloc _).alloc _) G8 (fun y e => by simp [Value.ownBlock] at e) (Nat.le_refl _)
              · have h01 : 1 ≤ m := by omega
                obtain ⟨ga, rfl, -, -⟩ := HR.out 0 (by omega)
                have H01 := Lib.hid h01
                by_cases h4 : m = 4
                · subst h4
                  have HL := Lib.hid (show fdL f 4 x y = (lsF f 4).set (minIx f 3) ⟨1, x, y, 0, 0, t + 1⟩ from by rw [fdL, if_pos HE.out, slotO, b1, HP.out]; rfl)
                  have HI := Lib.hid (show fdI f 4 x y = minIx f 3 from by rw [fdI, if_pos HE.out, slotO, b1]; rfl)
                  clear b1
                  go_wp2_with (refine wpList_append_all _ rfl _ _ rfl none rfl ga 4 cp f rfl R2.out (by omega) (by omega) ?_; intro v wv hv gv; obtain ⟨gr, cr, rfl, hgB, hgr, rv, hcr⟩ := RowN.form hv H01.out; have HV := Lib.hid hv; have RV := Lib.hid rv; have GV := Lib.hid (G2.trans gv); clear hv rv gv)
                  have X := Own.new wv 29 (csS ⟨1, x, y, 0, 0, t + 1⟩)
                  have GX : Grew wv (wv.alloc (.cells (csS ⟨1, x, y, 0, 0, t + 1⟩) 29)) := (Grew.refl _).alloc _
                  generalize World.alloc wv _ = wb at *
                  have hsv := GV.out.size
                  go_loopw [19, 20] (fun l i ws => ∃ q : Nat, q + 1 ≤ 4 ∧ i = .int .i64 ((q + 1 : Nat) : Int) ∧ l = .int .i64 (minIx f q : Nat) ∧ Own ws wv.heap.size 29 (csS ⟨1, x, y, 0, 0, t + 1⟩) ∧ Grew wv ws) (fun _ i _ => 4 - (intOf i).toNat)
                  case atStart => exact ⟨0, by omega, rfl, rfl, X, GX⟩
                  case round =>
                    clear X GX wb
                    obtain ⟨q, hq, rfl, rfl, X, GX⟩ := hrel
                    have RS := RV.out.grew GX
                    have hml := minIx_le f q
                    by_cases hlq : q + 1 < 4
                    · obtain ⟨g5, e5, hg5, h5⟩ := RS (q + 1) hlq
                      obtain rfl : gr = g5 := by injection e5 with e5; injection e5
                      obtain ⟨g6, e6, hg6, h6⟩ := RS (minIx f q) (by omega)
                      obtain rfl : gr = g6 := by injection e6 with e6; injection e6
                      have HM := Lib.hid (show minIx f (q + 1) = if cmpI (f (q + 1)).t (f (minIx f q)).t < 0 then q + 1 else minIx f q from rfl)
                      obtain ⟨p0, p1, p2, p3, p4, p5⟩ := h5
                      obtain ⟨q0, q1, q2, q3, q4, q5⟩ := h6
                      clear e5 e6
                      generalize f (minIx f q) = z at *
                      generalize f (q + 1) = u at *
                      generalize minIx f q = mi at *
                      by_cases hc : u.t < z.t
                      · have HM2 := Lib.hid (show minIx f (q + 1) = q + 1 from by rw [HM.out, if_pos (by rcases cmpI_cases u.t z.t with ⟨_, e⟩ | ⟨_, _⟩ | ⟨_, _⟩ <;> omega)])
                        go_wp2
                        go_quiet (fail)
                        go_wp2
                        exact ⟨⟨q + 1, by omega, by go_num, by rw [HM2.out], X.drewN _, GX.drewN _⟩, by simp [intOf]; omega⟩
                      · have HM2 := Lib.hid (show minIx f (q + 1) = mi from by rw [HM.out, if_neg (by rcases cmpI_cases u.t z.t with ⟨_, e⟩ | ⟨_, e⟩ | ⟨_, e⟩ <;> omega)])
                        go_wp2
                        go_quiet (fail)
                        go_wp2
                        exact ⟨⟨q + 1, by omega, by go_num, by rw [HM2.out], X.drewN _, GX.drewN _⟩, by simp [intOf]; omega⟩
                    · have hq3 : q = 3 := by omega
                      subst hq3
                      obtain ⟨g6, e6, hg6, h6⟩ := RS (minIx f 3) (by omega)
                      obtain rfl : gr = g6 := by injection e6 with e6; injection e6
                      obtain ⟨q0, q1, q2, q3, q4, q5⟩ := h6
                      clear e6 RS
                      have HV2 := Lib.hid (HV.out.grew GX)
                      have HFr := RowE.free HV2.out.1
                      generalize minIx f 3 = mi at *
                      have f0 := HFr (mi * 6)
                      have f1 := HFr (mi * 6 + 1)
                      have f2 := HFr (mi * 6 + 2)
                      have f3 := HFr (mi * 6 + 3)
                      have f4 := HFr (mi * 6 + 4)
                      have f5 := HFr (mi * 6 + 5)
                      obtain ⟨X0, X1, X2, X3, X4, X5⟩ := X.six
                      clear HFr
                      go_wp2
                      generalize hw : World.setCell _ _ _ = wz
                      have R9 := RowE.storeS HV2.out.1 mi ⟨1, x, y, 0, 0, t + 1⟩ (by rw [lsF_len]; omega) hw
                      have G9 := Go.Proofs.YtfljohgcbihhbaaDoor.Grew.far6j (GV.out.trans GX) hw (by have := G2.size; omega)
                      refine bodyPost_ret (v := .tuple #[.slice (some ⟨gr, 0, none⟩) 4 cr, .int .i64 mi, .int .i64 0]) (by simp [results, Tryd.results24, go_sem]) rfl (.inr ⟨HE.out, _, by rw [HI.out], ⟨by rw [HL.out]; exact R9.wider G2.size, fun e => ?_⟩, G9⟩)
                      rw [HL.out] at e
                      have := congrArg List.length e
                      rw [List.length_set, lsF_len] at this
                      simp at this
                · have hm4 : (m : Int) < 4 := by omega
                  have HL := Lib.hid (show fdL f m x y = lsF f m ++ [⟨1, x, y, 0, 0, t + 1⟩] from by rw [fdL, if_pos HE.out, slotO, b1, HP.out]; simp [h4])
                  have HI := Lib.hid (show fdI f m x y = m from by rw [fdI, if_pos HE.out, slotO, b1]; simp [h4])
                  clear b1
                  have hB := G2.size
                  have HBB := Lib.hid hB
                  go_wp2_with (first
                    | (refine wpList_append_all _ rfl _ _ rfl none rfl ga m cp f rfl R2.out (by omega) (by omega) ?_; intro v wv hv gv; obtain ⟨gr, cr, rfl, hgB, hgr, rv, hcr⟩ := RowN.form hv H01.out; have HV := Lib.hid hv; have RV := Lib.hid rv; have GV := Lib.hid (G2.trans gv); have HVA := Lib.hid (Nat.le_trans HBB.out gv.size); clear hv rv gv)
                    | (at_builtin; (refine wpList_append_row _ rfl (.tmp 109) (.tmp 111) 26 rfl w.heap.size info_S und_S (by decide) (by decide) encS_len (.slice (some ⟨gr, 0, none⟩) m cr) (lsF f m) rfl ((((HV.out.wider HBB.out).1.alloc _).alloc _)) _ _ ⟨1, x, y, 0, 0, t + 1⟩ rfl (Own.new2 _ _ _ _) encS_one (by rw [lsF_len]; omega) (by decide) (by have := HVA.out; simp; omega) ?_); intro g8 cap w8 R8 G8 o8))
                  refine bodyPost_ret (v := .tuple #[.slice (some ⟨g8, 0, none⟩) ((lsF f m).length + 1) cap, .int .i64 m, .int .i64 0]) (by simp [results, Tryd.results24, go_sem]) rfl (.inr ⟨HE.out, _, by rw [HI.out], ⟨by rw [HL.out]; exact R8, fun e => by rw [HL.out] at e; simp at e⟩, ?_⟩)
                  exact Grew.keptA (B := w.heap.size) ((GV.out.alloc _).alloc _) G8 (fun y e => by have e2 : gr = y := (by simpa [Value.ownBlock] using e); have := HBB.out; omega) (Nat.le_refl _)
            · have HP := Lib.hid (show newS f m x y = ⟨(becF (f j) x y).k, (becF (f j) x y).a, (becF (f j) x y).b, (becF (f j) x y).d, (becF (f j) x y).h, t + 1⟩ from by rw [newS, preS, b1, HT.out])
              have HL := Lib.hid (show fdL f m x y = (lsF f m).set j (newS f m x y) from by rw [fdL, if_pos HE.out, slotO, b1])
              have HI := Lib.hid (show fdI f m x y = j from by rw [fdI, if_pos HE.out, slotO, b1])
              rw [show bestI f x y m = j from by unfold bestI; rw [b1]]
              have h01 : 1 ≤ m := by omega
              have H01 := Lib.hid h01
              have hB := G2.size
              have HBB := Lib.hid hB
              obtain ⟨ga, rfl, hga, hea⟩ := HR.out j b2
              have HEA := Lib.hid hea
              have Gw1 := g1.trans G
              clear b1 b3 hea
              go_wp2_with (refine wpList_append_all _ rfl _ _ rfl none rfl ga m cp f rfl R2.out (by omega) (by omega) ?_; intro v wv hv gv; obtain ⟨gr, cr, rfl, hgB, hgr, rv, hcr⟩ := RowN.form hv H01.out; have HV := Lib.hid hv; have RV := Lib.hid rv; have GV := Lib.hid (G2.trans gv); obtain ⟨p0, p1, p2, p3, p4, p5⟩ := HEA.out.grew (G2.trans gv) hga; clear hv rv gv)
              with_reducible refine (rmatches_any _ _ _ _).mono ?_
              generalize becF (f j) x y = nb at *
              generalize mtcB (f j) x y = nm at *
              rintro e w5 ⟨rfl, g5⟩
              have HV5 := Lib.hid (HV.out.grew g5)
              have RV5 := Lib.hid (RV.out.grew g5)
              have G5 := GV.out.trans g5
              clear p0 p1 p2 p3 p4 p5 g5
              go_upto_region 23 with fail
              have X := Own.new w5 29 (csS ⟨nb.k, nb.a, nb.b, nb.d, nb.h, t + 1⟩)
              have GX : Grew w5 (w5.alloc (.cells (csS ⟨nb.k, nb.a, nb.b, nb.d, nb.h, t + 1⟩) 29)) := (Grew.refl _).alloc _
              generalize World.alloc w5 _ = w6 at *
              obtain ⟨g6, e6, hg6, h6⟩ := (RV5.out.grew GX) j b2
              obtain rfl : gr = g6 := by injection e6 with e6; injection e6
              obtain ⟨q0, q1, q2, q3, q4, q5⟩ := h6
              have HV6 := Lib.hid (HV5.out.grew GX)
              have HFr := RowE.free HV6.out.1
              have f0 := HFr (j * 6)
              have f1 := HFr (j * 6 + 1)
              have f2 := HFr (j * 6 + 2)
              have f3 := HFr (j * 6 + 3)
              have f4 := HFr (j * 6 + 4)
              have f5 := HFr (j * 6 + 5)
              obtain ⟨X0, X1, X2, X3, X4, X5⟩ := X.six
              have hwr : w.heap.size ≤ gr := Nat.le_trans HBB.out hgB
              clear HFr e6
              go_wp2
              generalize hw : World.setCell _ _ _ = wz
              have R9 := RowE.storeS HV6.out.1 j ⟨nb.k, nb.a, nb.b, nb.d, nb.h, t + 1⟩ (by rw [lsF_len]; exact b2) hw
              have G9 := Go.Proofs.YtfljohgcbihhbaaDoor.Grew.far6j (G5.trans GX) hw hwr
              refine bodyPost_ret (v := .tuple #[.slice (some ⟨gr, 0, none⟩) m cr, .int .i64 j, .int .i64 0]) (by simp [results, Tryd.results24, go_sem]) rfl (.inr ⟨HE.out, _, by rw [HI.out], ⟨by rw [HL.out, HP.out]; exact R9.wider HBB.out, fun e => ?_⟩, G9⟩)
              rw [HL.out] at e
              have := congrArg List.length e
              rw [List.length_set, lsF_len] at this
              simp at this
              omega
theorem rfeed_any (a : Option Addr) (n cp : Nat) (f : Nat → Str) (x y : Int) (w : World) (hn : n ≤ 1000000) (hr : Rd w a n f) (hz : n = 0 → a = none ∧ cp = 0) :
    Calls Tryd.prog 24 #[.slice a n cp, .int .i64 x, .int .i64 y] w (RetRf f n x y (.slice a n cp) w) := by
  cases h1 : chkB f n
  · exact rfeed_1 a n cp f x y w hn hr h1
  · cases h2 : accB x y
    · exact rfeed_2 a n cp f x y w hn hr h1 h2
    · exact rfeed_3 a n cp f x y w hr hz h1 h2
end Go.Proofs.YtfljohgcbihhbaaDoor

/- StreamReaders holds: sequential, backward and strided readers that take turns are recognized. -/
import Derived.Test.YthdcmknenjallaaStP
import Derived.Test.YthdcmknenjallaaStU
import Derived.BigQuiet
import Derived.Deep.RegionHeld3
import Derived.Deep.RegionWith
namespace Go.Proofs.Ythdcmknenjallaa
open Go.ChangeShapes Go.WideShapes Go.ChangeAt Go.RowKit Go.Mine

def ia (f : Nat → Int) : Array Value := #[.int .i64 (f 0), .int .i64 (f 1), .int .i64 (f 2), .int .i64 (f 3)]
theorem ia_at (f : Nat → Int) {i : Nat} (h : i < 4) : (ia f)[i]? = some (.int .i64 (f i)) := by
  have hc : i = 0 ∨ i = 1 ∨ i = 2 ∨ i = 3 := by omega
  rcases hc with rfl | rfl | rfl | rfl <;> rfl
theorem ia_set (f : Nat → Int) {i : Nat} (h : i < 4) (v : Int) : (ia f).setIfInBounds i (.int .i64 v) = ia (upd f i v) := by
  have hc : i = 0 ∨ i = 1 ∨ i = 2 ∨ i = 3 := by omega
  rcases hc with rfl | rfl | rfl | rfl <;> simp [ia, upd]
theorem _root_.Go.Mine.Own.iat {w : World} {g i : Nat} {t : TypeId} {f : Nat → Int} (h : Own w g t (ia f)) (hi : i < 4) : w.cell? ⟨g, i, none⟩ = some (.int .i64 (f i)) := (h.cell i).trans (ia_at f hi)
theorem _root_.Go.Mine.Own.iset {w : World} {g i : Nat} {t : TypeId} {f : Nat → Int} (h : Own w g t (ia f)) (hi : i < 4) (v : Int) : Own (w.setCell ⟨g, i, none⟩ (.int .i64 v)) g t (ia (upd f i v)) := ia_set f hi v ▸ h.set i _
theorem _root_.Go.Mine.RowN.setA {T : TypeId} {w : World} {B b i : Nat} {v : Value} {L : List Str} (h : RowN T w B v L) (hb : b < B) (u : Value) : RowN T (w.setCell ⟨b, i, none⟩ u) B v L :=
  h.past (b := b) (grown_set (grown_refl _ _) (.inl rfl) u) hb
theorem sure_q {v : Bool} (x : Str) (w : World) (hm : Mild x) (h : sureB x = v) : Calls Try.prog 20 #[strV x] w (RetG (.bool v) w) := h ▸ sure_any x w hm
theorem predict_q {L : List Int} (x : Str) (n : Int) (w : World) (hm : Mild x) (h : prF x n = L) : Calls Try.prog 23 #[strV x, .int .i64 n] w (RetI1 L w) := h ▸ predict_any x n w hm
def zI : Nat → Int := fun _ => 0
set_option maxRecDepth 100000 in
set_option maxHeartbeats 4000000 in
theorem readers_core (A : Option Addr) (c : Nat) (xs : List Int) (w : World) (hr : IntRow w A xs) (hm : xs.length ≤ maxLen) :
    Calls Try.prog 5 #[.slice A xs.length c] w (RetG (.bool true) w) := by
  have tp := Tp.made hr hm c 25
  clear hr
  generalize hX : xs.length = X at *
  clear hX
  go_enter Try.func5, Try.ntmps5
  go_wp2_with fail
  have G0 : w.grownBy (w.alloc (.cells #[.slice A X c, .int .i64 0] 25)) (some w.heap.size) := grown_alloc (grown_refl _ _) _
  generalize World.alloc w _ = w0 at *
  have hsz0 : w.heap.size + 1 ≤ w0.heap.size := tp.lt
  with_reducible refine (next_x _ _ _ _ (by omega) (by omega) tp).mono ?_
  rintro e w1 ⟨q, q0, q1, rfl, T1, g1⟩
  have G1 := (Grew.refl w).past (grown_trans G0 g1) (Nat.le_refl _)
  have hsz1 := Nat.le_trans hsz0 g1.size
  clear tp G0 g1 hsz0 w0
  obtain ⟨N, rfl⟩ := Int.eq_ofNat_of_zero_le q0
  go_upto_region 4 with fail
  have O3 : Own (((w1.alloc (.cells (ia zI) 47)).alloc (.cells (ia zI) 47)).alloc (.cells (ia zI) 47)) (w1.heap.size + 1 + 1) 47 (ia zI) := by
    have h := Own.new ((w1.alloc (.cells (ia zI) 47)).alloc (.cells (ia zI) 47)) 47 (ia zI)
    rwa [World.size_alloc, World.size_alloc] at h
  have O2 : Own (((w1.alloc (.cells (ia zI) 47)).alloc (.cells (ia zI) 47)).alloc (.cells (ia zI) 47)) (w1.heap.size + 1) 47 (ia zI) := (Own.new2 w1 _ 47 (ia zI)).alloc _
  have O1 : Own (((w1.alloc (.cells (ia zI) 47)).alloc (.cells (ia zI) 47)).alloc (.cells (ia zI) 47)) w1.heap.size 47 (ia zI) := ((Own.new w1 47 (ia zI)).alloc _).alloc _
  have T2 := ((T1.alloc (.cells (ia zI) 47)).alloc (.cells (ia zI) 47)).alloc (.cells (ia zI) 47)
  have G2 := ((G1.alloc (.cells (ia zI) 47)).alloc (.cells (ia zI) 47)).alloc (.cells (ia zI) 47)
  simp only [ia, zI] at O1 O2 O3 T2 G2
  have hP0 : w.heap.size < w1.heap.size := by omega
  clear T1 G1 hsz1
  generalize World.alloc (World.alloc (World.alloc w1 _) _) _ = w2 at *
  generalize w1.heap.size = P at *
  obtain ⟨C, hC⟩ : ∃ C, P + 1 = C := ⟨_, rfl⟩
  rw [hC] at O2 O3 ⊢
  obtain ⟨K, hK⟩ : ∃ K, C + 1 = K := ⟨_, rfl⟩
  rw [hK] at O3 ⊢
  have hPC : P < C := by omega
  have hCK : C < K := by omega
  have L3 : K < w2.heap.size := O3.lt
  clear hC hK
  have HN : N < 4 := by omega
  go_wp2_with fail
  go_loopw [8] (fun v wr => ∃ (i : Nat) (ps ks : Nat → Int), v = .int .i64 i ∧ i ≤ N + 1 ∧ (∀ j, j < i → PlP j (ks j) (ps j) 0) ∧ Own wr P 47 (ia ps) ∧ Own wr C 47 (ia zI) ∧ Own wr K 47 (ia ks) ∧ Tp (w.heap.size + 1) wr w.heap.size ∧ Grew w wr) (fun v _ => N + 1 - (intOf v).toNat)
  case atStart => exact ⟨0, zI, zI, rfl, by omega, fun j hj => absurd hj (Nat.not_lt_zero j), O1, O2, O3, T2, G2⟩
  case round =>
    clear O1 O2 O3 T2 G2 L3
    obtain ⟨i, ps, ks, rfl, hi, hpl, O1, O2, O3, T, G⟩ := hrel
    obtain ⟨wo, rfl⟩ : ∃ wo : World, wo = wr := ⟨_, rfl⟩
    have HP := Lib.hid hpl
    clear hpl
    by_cases hlt : i < N + 1
    · have hi4 : i < 4 := by omega
      have i0 : (0 : Int) ≤ (i : Int) := by omega
      have i1 : (i : Int) < 4 := by omega
      have fP := O1.frozen i
      have fK := O3.frozen i
      have cP := O1.iat hi4
      have cK := O3.iat hi4
      have v1 : IntKind.i64.wrap ((i : Int) * 60) = (i : Int) * 60 := IntWalk.i64_in _ (by omega)
      have v2 : IntKind.i64.wrap (20 + (i : Int) * 60) = 20 + (i : Int) * 60 := IntWalk.i64_in _ (by omega)
      go_upto_region 7 with fail
      go_region_with (go_at_call 25; (with_reducible refine (next_x _ _ 3 _ (by omega) (by omega) T.drew).mono ?_); rintro e w3 ⟨q, q0, q1, rfl, T3, g3⟩; have P3 := O1.drew.past g3 (by omega); have C3 := O2.drew.past g3 (by omega); have K3 := O3.drew.past g3 (by omega); have G3 := G.drew.past g3 (Nat.le_refl _); have fP3 := P3.frozen i; have fK3 := K3.frozen i; have cP3 := P3.iat hi4; have cK3 := K3.iat hi4; clear fP fK cP cK)
      all_goals
        go_wp2
        refine ⟨⟨i + 1, upd ps i (20 + (i : Int) * 60), upd ks i q, by go_num, by omega, fun j hj => ?_, (P3.iset hi4 _).far (p := ⟨K, i, none⟩) (show P ≠ K by omega) _, (C3.far (p := ⟨P, i, none⟩) (show C ≠ P by omega) _).far (p := ⟨K, i, none⟩) (show C ≠ K by omega) _,
          (K3.far (p := ⟨P, i, none⟩) (show K ≠ P by omega) _).iset hi4 _, (T3.set (p := ⟨P, i, none⟩) hP0 _).set (p := ⟨K, i, none⟩) (show w.heap.size + 1 ≤ K by omega) _, (G3.set (p := ⟨P, i, none⟩) (show w.heap.size ≤ P by omega) _).set (p := ⟨K, i, none⟩) (show w.heap.size ≤ K by omega) _⟩, by simp [intOf]; omega⟩
        by_cases e : j = i
        · subst e; rw [upd_eq, upd_eq]; unfold PlP; omega
        · rw [upd_ne _ _ e, upd_ne _ _ e]; exact HP.out j (by omega)
    · have hiN : i = N + 1 := by omega
      subst hiN
      clear hi hlt
      rw [show ((N + 1 : Nat) : Int) = (N : Int) + 1 from by omega]
      go_upto_region 10 with fail
      have OW : Own (wo.alloc (.cells (ia zI) 47)) wo.heap.size 47 (ia zI) := Own.new wo _ _
      have P1 := O1.alloc (.cells (ia zI) 47)
      have C1 := O2.alloc (.cells (ia zI) 47)
      have K1 := O3.alloc (.cells (ia zI) 47)
      have T4 := T.alloc (.cells (ia zI) 47)
      have G4 := G.alloc (.cells (ia zI) 47)
      have hKW : K < wo.heap.size := O3.lt
      clear O1 O2 O3 T G
      obtain ⟨w5, hw5⟩ : ∃ w5, wo.alloc (.cells (ia zI) 47) = w5 := ⟨_, rfl⟩
      rw [hw5] at OW P1 C1 K1 T4 G4
      rw [show (wo.alloc (.cells #[.int .i64 0, .int .i64 0, .int .i64 0, .int .i64 0] 47)) = w5 from hw5]
      clear hw5
      generalize wo.heap.size = W at *
      have hN4 : N + 1 ≤ 4 := by omega
      have R0 : Rdr (N + 1) ps ks zI zI [] 0 := ⟨hN4, by unfold Sound; kernel_rfl, Int.le_refl _, fun m _ => ⟨Int.le_refl _, by show (0 : Int) ≤ 6; omega⟩, HP.out, fun m _ h => absurd h (by show ¬(0 : Int) < 0; omega), fun m h => absurd h (Nat.not_lt_zero m)⟩
      have HR0 := Lib.hid R0
      have RN : RowN 36 w5 (W + 1) (.slice none 0 0) [] := ⟨RowE.nil _ _, fun _ => rfl⟩
      clear HP R0
      go_wp2_with fail
      go_loopw [9, 11] (fun v tv wr => ∃ (T : Nat) (L : List Str) (r : Value) (ps cs ws : Nat → Int), r = v ∧ tv = .int .i64 T ∧ T ≤ 24 ∧ Rdr (N + 1) ps ks cs ws L T ∧ RowN 36 wr (W + 1) r L ∧ Own wr P 47 (ia ps) ∧ Own wr C 47 (ia cs) ∧ Own wr K 47 (ia ks) ∧ Own wr W 47 (ia ws) ∧ Tp (w.heap.size + 1) wr w.heap.size ∧ Grew w wr) (fun _ tv _ => 24 - (intOf tv).toNat)
      case atStart => exact ⟨0, [], _, ps, zI, zI, rfl, rfl, by omega, HR0.out, RN, P1, C1, K1, OW, T4, G4⟩
      case round =>
        clear RN P1 C1 K1 OW T4 G4 HR0 ps
        obtain ⟨T, L, r, ps, cs, ws, rfl, rfl, hT, hRd, R, OP, OC, OK, OW, tp, G⟩ := hrel
        obtain ⟨wo, rfl⟩ : ∃ wo : World, wo = wr := ⟨_, rfl⟩
        have HRd := Lib.hid hRd
        have HR := Lib.hid R
        clear hRd R
        by_cases hlt : T < 24
        · go_wp2_with fail
          with_reducible refine (next_x _ _ _ _ (by omega) (by omega) tp).mono ?_
          rintro e w6 ⟨q, q0, q1, rfl, T6, g6⟩
          obtain ⟨i, rfl⟩ := Int.eq_ofNat_of_zero_le q0
          have hiN : i < N + 1 := by omega
          have hi4 : i < 4 := by omega
          have i4 : (i : Int) < 4 := by omega
          have R6 := Lib.hid (HR.out.past g6 (by omega))
          have OP6 := OP.past g6 (by omega)
          have OC6 := OC.past g6 (by omega)
          have OK6 := OK.past g6 (by omega)
          have OW6 := OW.past g6 (by omega)
          have G6 := G.past g6 (Nat.le_refl _)
          have hci := HRd.out.cnt i hiN
          clear HR OP OC OK OW tp G g6
          have cC := OC6.iat hi4
          by_cases h6 : 6 ≤ cs i
          · have d6 : decide (6 ≤ cs i) = true := decide_eq_true h6
            go_wp2
            obtain ⟨y0, y1, y2, y3, y4, y5, y6⟩ := HRd.out
            exact ⟨⟨T + 1, L, _, ps, cs, ws, rfl, by go_num, by omega, ⟨y0, y1, by omega, y3, y4, y5, y6⟩, R6.out, OP6, OC6, OK6, OW6, T6, G6⟩, by simp [intOf]; omega⟩
          · have d6 : decide (6 ≤ cs i) = false := decide_eq_false h6
            have hpi := HRd.out.plc i hiN
            have hkk := hpi.k
            have hra := hpi.range hi4 hci.1 hci.2
            go_upto_if 52 with fail
            go_cut [13] from 52 to 81 (fun (_ : Value) wx => RowN 36 wx (W + 1) r L ∧ Own wx P 47 (ia ps) ∧ Own wx C 47 (ia cs) ∧ Own wx K 47 (ia ks) ∧ Own wx W 47 (ia ws) ∧ Tp (w.heap.size + 1) wx w.heap.size ∧ Grew w wx)
            case first =>
              by_cases h3 : 3 ≤ cs i
              · have d3 : decide (3 ≤ cs i) = true := decide_eq_true h3
                obtain ⟨j, hw, hj, hx⟩ := HRd.out.own i hiN (by omega)
                have hrg := (HRd.out.sound.all j hj).1
                obtain ⟨s1, s2⟩ := rd_sure hrg hx hkk.1 hkk.2 h3 (by omega) (by omega)
                have hmi := rgt_mild hrg
                have cW := OW6.iat hi4
                rw [hw] at cW
                obtain ⟨a6, c6, rfl, -⟩ := R6.out.rd
                obtain ⟨g, rfl, hgW, hg, he⟩ := rowN_at R6.out hj
                obtain ⟨s, hs⟩ : ∃ s, L.getD j zS = s := ⟨_, rfl⟩
                rw [hs] at he s1 s2 hmi
                have HE := Lib.hid he
                have S1 := Lib.hid s1
                have S2 := Lib.hid s2
                have MI := Lib.hid hmi
                clear hs hrg hx s1 s2 hmi
                have j0 : (0 : Int) ≤ (j : Int) := by omega
                have j1 : (j : Int) < (L.length : Int) := by omega
                obtain ⟨p0, p1, p2, p3, p4, p5⟩ := he
                go_wp2_with fail
                with_reducible refine (predict_q s 1 _ MI.out S2.out).mono ?_
                rintro e w7 ⟨vp, rfl, RP, g7⟩
                obtain ⟨ap, np, cp, rfl, hn, hcell⟩ := RP.ints
                obtain rfl : np = 1 := hn
                obtain ⟨gp, rfl, hgp, -, x0⟩ := hcell 0 Nat.zero_lt_one
                rw [show [ps i].getD 0 0 = ps i from rfl] at x0
                have E7 := HE.out.grew g7 hg
                have hg7 : g < w7.heap.size := Nat.lt_of_lt_of_le hg g7.size
                have R7 := Lib.hid (R6.out.grew g7)
                have OP7 := OP6.grew g7
                have OC7 := OC6.grew g7
                have OK7 := OK6.grew g7
                have OW7 := OW6.grew g7
                have T7 := T6.grew g7
                have G7 := G6.trans g7
                have cW7 := OW7.iat hi4
                rw [hw] at cW7
                have cP7 := OP7.iat hi4
                have HE7 := Lib.hid E7
                clear p0 p1 p2 p3 p4 p5 cW cC HE R6 OP6 OC6 OK6 OW6 T6 G6 g7 hcell RP
                obtain ⟨p0, p1, p2, p3, p4, p5⟩ := E7
                go_upto_region 17 with fail
                go_region_held3 (fun w' => (w'.cell? ⟨g, j * 6, none⟩ = some (.int .i64 s.k) ∧ w'.cell? ⟨g, j * 6 + 1, none⟩ = some (.int .i64 s.a) ∧ w'.cell? ⟨g, j * 6 + 2, none⟩ = some (.int .i64 s.b) ∧ w'.cell? ⟨g, j * 6 + 3, none⟩ = some (.int .i64 s.d) ∧ w'.cell? ⟨g, j * 6 + 4, none⟩ = some (.int .i64 s.h) ∧ w'.cell? ⟨g, j * 6 + 5, none⟩ = some (.int .i64 s.t)) ∧ w'.cell? ⟨W, i, none⟩ = some (.int .i64 (j : Int)) ∧ w'.cell? ⟨P, i, none⟩ = some (.int .i64 (ps i)) ∧ w'.cell? ⟨gp, 0, none⟩ = some (.int .i64 (ps i)))
                  (refine ⟨⟨?_, ?_, ?_, ?_, ?_, ?_⟩, ?_, ?_, ?_⟩ <;> (repeat (first | with_reducible assumption | with_reducible refine far_drew ?_)))
                  (first | (go_at_call 20; (with_reducible refine (sure_q s _ MI.out S1.out).mono ?_); rintro e w8 ⟨rfl, g8⟩; have E8 := HE7.out.grew ((Grew.refl w7).drew.trans g8) hg7; have R8 := Lib.hid (R7.out.grew ((Grew.refl w7).drew.trans g8)); have OP8 := OP7.drew.grew g8; have OC8 := OC7.drew.grew g8; have OK8 := OK7.drew.grew g8; have OW8 := OW7.drew.grew g8; have T8 := T7.drew.grew g8; have G8 := G7.drew.trans g8; have cW8 := OW8.iat hi4; rw [hw] at cW8; have cP8 := OP8.iat hi4; have x8 := (((Grew.refl w7).drew.trans g8).cells.1 gp 0 hgp).trans x0; clear p0 p1 p2 p3 p4 p5 cW7 cP7 x0; obtain ⟨p0, p1, p2, p3, p4, p5⟩ := E8))
                go_wp2_with fail
                go_meet
                exact ⟨R8.out, OP8, OC8, OK8, OW8, T8, G8⟩
              · have d3 : decide (3 ≤ cs i) = false := decide_eq_false h3
                go_wp2_with fail
                go_meet
                exact ⟨R6.out, OP6, OC6, OK6, OW6, T6, G6⟩
            case rest =>
              clear R6 OP6 OC6 OK6 OW6 T6 G6 cC
              obtain ⟨R7, OP7, OC7, OK7, OW7, T7, G7⟩ := hcut
              obtain ⟨he, j, L', hj, hL', hjl, hwj, hkj, hRd'⟩ := HRd.out.step hiN (by omega) (by omega)
              have hle := HRd.out.sound.le
              have hle' := hRd'.sound.le
              have HE := Lib.hid he
              have HJ := Lib.hid hj
              have HL := Lib.hid hL'
              have HW := Lib.hid hwj
              have HKj := Lib.hid hkj
              have HR' := Lib.hid hRd'
              have HR7 := Lib.hid R7
              clear he hj hL' hwj hkj hRd' R7
              have j0 : (0 : Int) ≤ (j : Int) := by omega
              have j1 : (j : Int) < (L'.length : Int) := by omega
              have j4 : (L'.length : Int) ≤ 4 := by omega
              have cP7 := OP7.iat hi4
              have hW7 : W < wc.heap.size := OW7.lt
              have wv : IntKind.i64.wrap (ps i + 1) = ps i + 1 := IntWalk.i64_in _ (by omega)
              go_upto_region 19 with fail
              go_region_held3 (fun w' => w'.cell? ⟨P, i, none⟩ = some (.int .i64 (ps i)))
                (repeat (first | with_reducible assumption | with_reducible refine far_drew ?_))
                (first | (go_at_call 11; (with_reducible refine (feed_L _ _ _ _ HR7.out.drew (by omega) HRd.out.sound.milds HL.out HJ.out HE.out).mono ?_); rintro e w8 ⟨v8, rfl, R8, g8⟩; obtain ⟨a8, c8, rfl, -⟩ := R8.rd; have R8w := Lib.hid (R8.wider (C := W + 1) hW7); have OP8 := OP7.drew.grew g8; have OC8 := OC7.drew.grew g8; have OK8 := OK7.drew.grew g8; have OW8 := OW7.drew.grew g8; have T8 := T7.drew.grew g8; have G8 := G7.drew.trans g8; have cP8 := OP8.iat hi4; clear cP7 R8))
              have cC8 := OC8.iat hi4
              have fC8 := OC8.frozen i
              have cW8 := OW8.iat hi4
              have fW8 := OW8.frozen i
              have wc1 : IntKind.i64.wrap (cs i + 1) = cs i + 1 := IntWalk.i64_in _ (by omega)
              obtain ⟨g, rfl, -, -, -⟩ := rowN_at R8w.out hjl
              go_upto_region 20 with fail
              go_cut [119] from 95 to 118 (fun v wx => v = .bool false ∧ wx = w8)
              case first =>
                by_cases c0 : 0 < cs i
                · have d0 : decide (0 < cs i) = true := decide_eq_true c0
                  rw [HW.out c0] at cW8
                  go_wp2_with fail
                  go_meet
                  exact ⟨by rw [decide_eq_false (show ¬((j : Int) < 0) by omega), decide_eq_false (show ¬(L'.length ≤ j) by omega)]; rfl, rfl⟩
                · have d0 : decide (0 < cs i) = false := decide_eq_false c0
                  go_wp2_with fail
                  go_meet
                  exact ⟨by rw [decide_eq_false (show ¬((j : Int) < 0) by omega), decide_eq_false (show ¬(L'.length ≤ j) by omega)]; rfl, rfl⟩
              case rest =>
                obtain ⟨rfl, rfl⟩ := hcut
                go_upto_region 24 with fail
                have OW9 := (OW8.iset hi4 (j : Int)).far (p := ⟨C, i, none⟩) (show W ≠ C by omega) (.int .i64 (cs i + 1))
                have OC9 := (OC8.far (p := ⟨W, i, none⟩) (show C ≠ W by omega) (.int .i64 (j : Int))).iset hi4 (cs i + 1)
                have OP9 := (OP8.far (p := ⟨W, i, none⟩) (show P ≠ W by omega) (.int .i64 (j : Int))).far (p := ⟨C, i, none⟩) (show P ≠ C by omega) (.int .i64 (cs i + 1))
                have OK9 := (OK8.far (p := ⟨W, i, none⟩) (show K ≠ W by omega) (.int .i64 (j : Int))).far (p := ⟨C, i, none⟩) (show K ≠ C by omega) (.int .i64 (cs i + 1))
                have R9 := Lib.hid ((R8w.out.setA (b := W) (i := i) (by omega) (.int .i64 (j : Int))).setA (b := C) (i := i) (by omega) (.int .i64 (cs i + 1)))
                have T9 := (T8.set (p := ⟨W, i, none⟩) (show w.heap.size + 1 ≤ W by omega) (.int .i64 (j : Int))).set (p := ⟨C, i, none⟩) (show w.heap.size + 1 ≤ C by omega) (.int .i64 (cs i + 1))
                have G9 := (G8.set (p := ⟨W, i, none⟩) (show w.heap.size ≤ W by omega) (.int .i64 (j : Int))).set (p := ⟨C, i, none⟩) (show w.heap.size ≤ C by omega) (.int .i64 (cs i + 1))
                clear OW8 OC8 OP8 OK8 R8w T8 G8 cP8 cC8 fC8 cW8 fW8 OP7 OC7 OK7 OW7 T7 G7 HR7 hW7
                generalize World.setCell (World.setCell wc _ _) _ _ = w9 at *
                have hk3 : ks i = 0 ∨ ks i = 1 ∨ ks i = 2 := by omega
                go_cut [146] from 129 to 145 (fun v wx => v = .bool false ∧ RowN 36 wx (W + 1) (.slice (some ⟨g, 0, none⟩) L'.length c8) L' ∧ Own wx P 47 (ia ps) ∧ Own wx C 47 (ia (upd cs i (cs i + 1))) ∧ Own wx K 47 (ia ks) ∧ Own wx W 47 (ia (upd ws i (j : Int))) ∧ Tp (w.heap.size + 1) wx w.heap.size ∧ Grew w wx)
                case first =>
                  have cC9 := OC9.iat hi4
                  rw [upd_eq] at cC9
                  have lC := OC9.lt
                  by_cases c0 : 0 < cs i
                  · have lK := OK9.lt
                    have cK9 := OK9.iat hi4
                    have d2 : decide (2 ≤ cs i + 1) = true := decide_eq_true (by omega)
                    obtain ⟨g', eg, -, hg, he⟩ := rowN_at R9.out hjl
                    obtain rfl : g = g' := by injection eg with eg; injection eg
                    have pk := he.1
                    rw [HKj.out c0] at pk
                    clear he eg
                    rcases hk3 with hk3 | hk3 | hk3
                    · rw [hk3] at cK9 pk
                      rw [show (0 : Int) + 2 = 2 from rfl] at pk
                      refine wp_region_held_drew (S := (fun w' => w'.cell? ⟨C, i, none⟩ = some (.int .i64 (cs i + 1)) ∧ w'.cell? ⟨K, i, none⟩ = some (.int .i64 0) ∧ w'.cell? ⟨g, j * 6, none⟩ = some (.int .i64 2))) (by kernel_rfl) ?_ (fun hHeld => ?_)
                      · (refine ⟨?_, ?_, ?_⟩ <;> (repeat (first | with_reducible assumption | with_reducible refine far_drew ?_ | with_reducible refine far_alloc ?_)))
                      refine wpAnyH_take (i := 0) (oi := ⟨some 129, _, _, _, _, _⟩) (v := ?vv1) rfl (by kernel_rfl) (by kernel_rfl) (by kernel_rfl) (fun _ _ _ h => h) (Or.inl ⟨by rfl, ?yy1⟩) (by assumption) ?rr1
                      case yy1 => (intro w hSw; (try dsimp only at hSw); go_simp; (try with_reducible rfl))
                      try simp only [Act.put, List.setIfInBounds_toArray, List.set_cons_zero, List.set_cons_succ]
                      refine wpAnyH_take (i := 1) (oi := ⟨some 130, _, _, _, _, _⟩) (v := ?vv2) rfl (by kernel_rfl) (by kernel_rfl) (by kernel_rfl) (fun _ _ _ h => h) (Or.inl ⟨by rfl, ?yy2⟩) (by assumption) ?rr2
                      case yy2 => (intro w hSw; (try dsimp only at hSw); go_simp; (try with_reducible rfl))
                      try simp only [Act.put, List.setIfInBounds_toArray, List.set_cons_zero, List.set_cons_succ]
                      refine wpAnyH_take (i := 2) (oi := ⟨some 131, _, _, _, _, _⟩) (v := ?vv3) rfl (by kernel_rfl) (by kernel_rfl) (by kernel_rfl) (fun _ _ _ h => h) (Or.inl ⟨by rfl, ?yy3⟩) (by assumption) ?rr3
                      case yy3 => (intro w hSw; (try dsimp only at hSw); go_simp; (try with_reducible rfl))
                      try simp only [Act.put, List.setIfInBounds_toArray, List.set_cons_zero, List.set_cons_succ]
                      refine wpAnyH_take (i := 3) (oi := ⟨some 132, _, _, _, _, _⟩) (v := ?vv4) rfl (by kernel_rfl) (by kernel_rfl) (by kernel_rfl) (fun _ _ _ h => h) (Or.inl ⟨by rfl, ?yy4⟩) (by assumption) ?rr4
                      case yy4 => (intro w hSw; (try dsimp only at hSw); go_simp; (try with_reducible rfl))
                      try simp only [Act.put, List.setIfInBounds_toArray, List.set_cons_zero, List.set_cons_succ]
                      refine wpAnyH_take (i := 4) (oi := ⟨some 133, _, _, _, _, _⟩) (v := ?vv5) rfl (by kernel_rfl) (by kernel_rfl) (by kernel_rfl) (fun _ _ _ h => h) (Or.inl ⟨by rfl, ?yy5⟩) (by assumption) ?rr5
                      case yy5 => (intro w hSw; (try dsimp only at hSw); go_simp; (try with_reducible rfl))
                      try simp only [Act.put, List.setIfInBounds_toArray, List.set_cons_zero, List.set_cons_succ]
                      refine wpAnyH_take (i := 5) (oi := ⟨some 134, _, _, _, _, _⟩) (v := ?vv6) rfl (by kernel_rfl) (by kernel_rfl) (by kernel_rfl) (fun _ _ _ h => h) (Or.inl ⟨by rfl, ?yy6⟩) (by assumption) ?rr6
                      case yy6 => (intro w hSw; (try dsimp only at hSw); go_simp; (try with_reducible rfl))
                      try simp only [Act.put, List.setIfInBounds_toArray, List.set_cons_zero, List.set_cons_succ]
                      refine wpAnyH_take (i := 6) (oi := ⟨some 135, _, _, _, _, _⟩) (v := ?vv7) rfl (by kernel_rfl) (by kernel_rfl) (by kernel_rfl) (fun _ _ _ h => h) (Or.inl ⟨by rfl, ?yy7⟩) (by assumption) ?rr7
                      case yy7 => (intro w hSw; (try dsimp only at hSw); go_simp; (try with_reducible rfl))
                      try simp only [Act.put, List.setIfInBounds_toArray, List.set_cons_zero, List.set_cons_succ]
                      refine wpAnyH_take (i := 7) (oi := ⟨some 136, _, _, _, _, _⟩) (v := ?vv8) rfl (by kernel_rfl) (by kernel_rfl) (by kernel_rfl) (fun _ _ _ h => h) (Or.inl ⟨by rfl, ?yy8⟩) (by assumption) ?rr8
                      case yy8 => (intro w hSw; (try dsimp only at hSw); go_simp; (try with_reducible rfl))
                      try simp only [Act.put, List.setIfInBounds_toArray, List.set_cons_zero, List.set_cons_succ]
                      refine wpAnyH_take (i := 8) (oi := ⟨some 137, _, _, _, _, _⟩) (v := ?vv9) rfl (by kernel_rfl) (by kernel_rfl) (by kernel_rfl) (fun _ _ _ h => h) (Or.inl ⟨by rfl, ?yy9⟩) (by assumption) ?rr9
                      case yy9 => (intro w hSw; (try dsimp only at hSw); go_simp; (try with_reducible rfl))
                      try simp only [Act.put, List.setIfInBounds_toArray, List.set_cons_zero, List.set_cons_succ]
                      refine wpAnyH_take (i := 9) (oi := ⟨some 138, _, _, _, _, _⟩) (v := ?vv10) rfl (by kernel_rfl) (by kernel_rfl) (by kernel_rfl) (fun _ _ _ h => h) (Or.inl ⟨by rfl, ?yy10⟩) (by assumption) ?rr10
                      case yy10 => (intro w hSw; (try dsimp only at hSw); go_simp; (try with_reducible rfl))
                      try simp only [Act.put, List.setIfInBounds_toArray, List.set_cons_zero, List.set_cons_succ]
                      refine wpAnyH_take (i := 11) (oi := ⟨some 140, _, _, _, _, _⟩) (v := ?vv11) rfl (by kernel_rfl) (by kernel_rfl) (by kernel_rfl) (fun _ _ _ h => h) (Or.inl ⟨by rfl, ?yy11⟩) (by assumption) ?rr11
                      case yy11 => (intro w hSw; (try dsimp only at hSw); go_simp; (try with_reducible rfl))
                      try simp only [Act.put, List.setIfInBounds_toArray, List.set_cons_zero, List.set_cons_succ]
                      refine wpAnyH_take (i := 12) (oi := ⟨some 141, _, _, _, _, _⟩) (v := ?vv12) rfl (by kernel_rfl) (by kernel_rfl) (by kernel_rfl) (fun _ _ _ h => h) (Or.inl ⟨by rfl, ?yy12⟩) (by assumption) ?rr12
                      case yy12 => (intro w hSw; (try dsimp only at hSw); go_simp; (try with_reducible rfl))
                      try simp only [Act.put, List.setIfInBounds_toArray, List.set_cons_zero, List.set_cons_succ]
                      refine wpAnyH_take (i := 13) (oi := ⟨some 142, _, _, _, _, _⟩) (v := ?vv13) rfl (by kernel_rfl) (by kernel_rfl) (by kernel_rfl) (fun _ _ _ h => h) (Or.inl ⟨by rfl, ?yy13⟩) (by assumption) ?rr13
                      case yy13 => (intro w hSw; (try dsimp only at hSw); go_simp; (try with_reducible rfl))
                      try simp only [Act.put, List.setIfInBounds_toArray, List.set_cons_zero, List.set_cons_succ]
                      refine wpAnyH_ready (rs := [10]) (by kernel_rfl) (by simp) ?_
                      refine AllReadyH.cons (o := ⟨some 139, _, _, _, _, _⟩) rfl (fun K hK => ?st18) ?mo18
                      case mo18 => exact AllReadyH.nil
                      go_simp
                      refine hK.out _ _ ?hs18 (fun hHeld => ?re18)
                      case hs18 => ((try dsimp only); (refine ⟨?_, ?_, ?_⟩ <;> (repeat (first | with_reducible assumption | with_reducible refine far_drew ?_ | with_reducible refine far_alloc ?_))))
                      clear hK K
                      try simp only [Act.put, List.setIfInBounds_toArray, List.set_cons_zero, List.set_cons_succ]
                      refine wpAnyH_take (i := 14) (oi := ⟨some 143, _, _, _, _, _⟩) (v := ?vv14) rfl (by kernel_rfl) (by kernel_rfl) (by kernel_rfl) (fun _ _ _ h => h) (Or.inl ⟨by rfl, ?yy14⟩) (by assumption) ?rr14
                      case yy14 => (intro w hSw; (try dsimp only at hSw); go_simp; (try with_reducible rfl))
                      try simp only [Act.put, List.setIfInBounds_toArray, List.set_cons_zero, List.set_cons_succ]
                      refine wpAnyH_ready (rs := [15]) (by kernel_rfl) (by simp) ?_
                      refine AllReadyH.cons (o := ⟨some 144, _, _, _, _, _⟩) rfl (fun K hK => ?st17) ?mo17
                      case mo17 => exact AllReadyH.nil
                      go_simp
                      refine hK.out _ _ ?hs17 (fun hHeld => ?re17)
                      case hs17 => ((try dsimp only); (refine ⟨?_, ?_, ?_⟩ <;> (repeat (first | with_reducible assumption | with_reducible refine far_drew ?_ | with_reducible refine far_alloc ?_))))
                      clear hK K
                      try simp only [Act.put, List.setIfInBounds_toArray, List.set_cons_zero, List.set_cons_succ]
                      refine wpAnyH_take (i := 16) (oi := ⟨some 145, _, _, _, _, _⟩) (v := ?vv15) rfl (by kernel_rfl) (by kernel_rfl) (by kernel_rfl) (fun _ _ _ h => h) (Or.inl ⟨by rfl, ?yy15⟩) (by assumption) ?rr15
                      case yy15 => (intro w hSw; (try dsimp only at hSw); go_simp; (try with_reducible rfl))
                      try simp only [Act.put, List.setIfInBounds_toArray, List.set_cons_zero, List.set_cons_succ]
                      refine wpAnyH_take (i := 17) (oi := ⟨some 146, _, _, _, _, _⟩) (v := ?vv16) rfl (by kernel_rfl) (by kernel_rfl) (by kernel_rfl) (fun _ _ _ h => h) (Or.inl ⟨by rfl, ?yy16⟩) (by assumption) ?rr16
                      case yy16 => (intro w hSw; (try dsimp only at hSw); go_simp; (try with_reducible rfl))
                      try simp only [Act.put, List.setIfInBounds_toArray, List.set_cons_zero, List.set_cons_succ]
                      refine wpAnyH_done (by kernel_rfl) ?_ _
                      go_wp2_with fail
                      go_meet
                      exact ⟨rfl, (R9.out.alloc _).drew, (OP9.alloc _).drew, (OC9.alloc _).drew, (OK9.alloc _).drew, (OW9.alloc _).drew, (T9.alloc _).drew, (G9.alloc _).drew⟩
                    · rw [hk3] at cK9 pk
                      rw [show (1 : Int) + 2 = 3 from rfl] at pk
                      refine wp_region_held_drew (S := (fun w' => w'.cell? ⟨C, i, none⟩ = some (.int .i64 (cs i + 1)) ∧ w'.cell? ⟨K, i, none⟩ = some (.int .i64 1) ∧ w'.cell? ⟨g, j * 6, none⟩ = some (.int .i64 3))) (by kernel_rfl) ?_ (fun hHeld => ?_)
                      · (refine ⟨?_, ?_, ?_⟩ <;> (repeat (first | with_reducible assumption | with_reducible refine far_drew ?_ | with_reducible refine far_alloc ?_)))
                      refine wpAnyH_take (i := 0) (oi := ⟨some 129, _, _, _, _, _⟩) (v := ?vv19) rfl (by kernel_rfl) (by kernel_rfl) (by kernel_rfl) (fun _ _ _ h => h) (Or.inl ⟨by rfl, ?yy19⟩) (by assumption) ?rr19
                      case yy19 => (intro w hSw; (try dsimp only at hSw); go_simp; (try with_reducible rfl))
                      try simp only [Act.put, List.setIfInBounds_toArray, List.set_cons_zero, List.set_cons_succ]
                      refine wpAnyH_take (i := 1) (oi := ⟨some 130, _, _, _, _, _⟩) (v := ?vv20) rfl (by kernel_rfl) (by kernel_rfl) (by kernel_rfl) (fun _ _ _ h => h) (Or.inl ⟨by rfl, ?yy20⟩) (by assumption) ?rr20
                      case yy20 => (intro w hSw; (try dsimp only at hSw); go_simp; (try with_reducible rfl))
                      try simp only [Act.put, List.setIfInBounds_toArray, List.set_cons_zero, List.set_cons_succ]
                      refine wpAnyH_take (i := 2) (oi := ⟨some 131, _, _, _, _, _⟩) (v := ?vv21) rfl (by kernel_rfl) (by kernel_rfl) (by kernel_rfl) (fun _ _ _ h => h) (Or.inl ⟨by rfl, ?yy21⟩) (by assumption) ?rr21
                      case yy21 => (intro w hSw; (try dsimp only at hSw); go_simp; (try with_reducible rfl))
                      try simp only [Act.put, List.setIfInBounds_toArray, List.set_cons_zero, List.set_cons_succ]
                      refine wpAnyH_take (i := 3) (oi := ⟨some 132, _, _, _, _, _⟩) (v := ?vv22) rfl (by kernel_rfl) (by kernel_rfl) (by kernel_rfl) (fun _ _ _ h => h) (Or.inl ⟨by rfl, ?yy22⟩) (by assumption) ?rr22
                      case yy22 => (intro w hSw; (try dsimp only at hSw); go_simp; (try with_reducible rfl))
                      try simp only [Act.put, List.setIfInBounds_toArray, List.set_cons_zero, List.set_cons_succ]
                      refine wpAnyH_take (i := 4) (oi := ⟨some 133, _, _, _, _, _⟩) (v := ?vv23) rfl (by kernel_rfl) (by kernel_rfl) (by kernel_rfl) (fun _ _ _ h => h) (Or.inl ⟨by rfl, ?yy23⟩) (by assumption) ?rr23
                      case yy23 => (intro w hSw; (try dsimp only at hSw); go_simp; (try with_reducible rfl))
                      try simp only [Act.put, List.setIfInBounds_toArray, List.set_cons_zero, List.set_cons_succ]
                      refine wpAnyH_take (i := 5) (oi := ⟨some 134, _, _, _, _, _⟩) (v := ?vv24) rfl (by kernel_rfl) (by kernel_rfl) (by kernel_rfl) (fun _ _ _ h => h) (Or.inl ⟨by rfl, ?yy24⟩) (by assumption) ?rr24
                      case yy24 => (intro w hSw; (try dsimp only at hSw); go_simp; (try with_reducible rfl))
                      try simp only [Act.put, List.setIfInBounds_toArray, List.set_cons_zero, List.set_cons_succ]
                      refine wpAnyH_take (i := 6) (oi := ⟨some 135, _, _, _, _, _⟩) (v := ?vv25) rfl (by kernel_rfl) (by kernel_rfl) (by kernel_rfl) (fun _ _ _ h => h) (Or.inl ⟨by rfl, ?yy25⟩) (by assumption) ?rr25
                      case yy25 => (intro w hSw; (try dsimp only at hSw); go_simp; (try with_reducible rfl))
                      try simp only [Act.put, List.setIfInBounds_toArray, List.set_cons_zero, List.set_cons_succ]
                      refine wpAnyH_take (i := 7) (oi := ⟨some 136, _, _, _, _, _⟩) (v := ?vv26) rfl (by kernel_rfl) (by kernel_rfl) (by kernel_rfl) (fun _ _ _ h => h) (Or.inl ⟨by rfl, ?yy26⟩) (by assumption) ?rr26
                      case yy26 => (intro w hSw; (try dsimp only at hSw); go_simp; (try with_reducible rfl))
                      try simp only [Act.put, List.setIfInBounds_toArray, List.set_cons_zero, List.set_cons_succ]
                      refine wpAnyH_take (i := 8) (oi := ⟨some 137, _, _, _, _, _⟩) (v := ?vv27) rfl (by kernel_rfl) (by kernel_rfl) (by kernel_rfl) (fun _ _ _ h => h) (Or.inl ⟨by rfl, ?yy27⟩) (by assumption) ?rr27
                      case yy27 => (intro w hSw; (try dsimp only at hSw); go_simp; (try with_reducible rfl))
                      try simp only [Act.put, List.setIfInBounds_toArray, List.set_cons_zero, List.set_cons_succ]
                      refine wpAnyH_take (i := 9) (oi := ⟨some 138, _, _, _, _, _⟩) (v := ?vv28) rfl (by kernel_rfl) (by kernel_rfl) (by kernel_rfl) (fun _ _ _ h => h) (Or.inl ⟨by rfl, ?yy28⟩) (by assumption) ?rr28
                      case yy28 => (intro w hSw; (try dsimp only at hSw); go_simp; (try with_reducible rfl))
                      try simp only [Act.put, List.setIfInBounds_toArray, List.set_cons_zero, List.set_cons_succ]
                      refine wpAnyH_take (i := 11) (oi := ⟨some 140, _, _, _, _, _⟩) (v := ?vv29) rfl (by kernel_rfl) (by kernel_rfl) (by kernel_rfl) (fun _ _ _ h => h) (Or.inl ⟨by rfl, ?yy29⟩) (by assumption) ?rr29
                      case yy29 => (intro w hSw; (try dsimp only at hSw); go_simp; (try with_reducible rfl))
                      try simp only [Act.put, List.setIfInBounds_toArray, List.set_cons_zero, List.set_cons_succ]
                      refine wpAnyH_take (i := 12) (oi := ⟨some 141, _, _, _, _, _⟩) (v := ?vv30) rfl (by kernel_rfl) (by kernel_rfl) (by kernel_rfl) (fun _ _ _ h => h) (Or.inl ⟨by rfl, ?yy30⟩) (by assumption) ?rr30
                      case yy30 => (intro w hSw; (try dsimp only at hSw); go_simp; (try with_reducible rfl))
                      try simp only [Act.put, List.setIfInBounds_toArray, List.set_cons_zero, List.set_cons_succ]
                      refine wpAnyH_take (i := 13) (oi := ⟨some 142, _, _, _, _, _⟩) (v := ?vv31) rfl (by kernel_rfl) (by kernel_rfl) (by kernel_rfl) (fun _ _ _ h => h) (Or.inl ⟨by rfl, ?yy31⟩) (by assumption) ?rr31
                      case yy31 => (intro w hSw; (try dsimp only at hSw); go_simp; (try with_reducible rfl))
                      try simp only [Act.put, List.setIfInBounds_toArray, List.set_cons_zero, List.set_cons_succ]
                      refine wpAnyH_ready (rs := [10]) (by kernel_rfl) (by simp) ?_
                      refine AllReadyH.cons (o := ⟨some 139, _, _, _, _, _⟩) rfl (fun K hK => ?st36) ?mo36
                      case mo36 => exact AllReadyH.nil
                      go_simp
                      refine hK.out _ _ ?hs36 (fun hHeld => ?re36)
                      case hs36 => ((try dsimp only); (refine ⟨?_, ?_, ?_⟩ <;> (repeat (first | with_reducible assumption | with_reducible refine far_drew ?_ | with_reducible refine far_alloc ?_))))
                      clear hK K
                      try simp only [Act.put, List.setIfInBounds_toArray, List.set_cons_zero, List.set_cons_succ]
                      refine wpAnyH_take (i := 14) (oi := ⟨some 143, _, _, _, _, _⟩) (v := ?vv32) rfl (by kernel_rfl) (by kernel_rfl) (by kernel_rfl) (fun _ _ _ h => h) (Or.inl ⟨by rfl, ?yy32⟩) (by assumption) ?rr32
                      case yy32 => (intro w hSw; (try dsimp only at hSw); go_simp; (try with_reducible rfl))
                      try simp only [Act.put, List.setIfInBounds_toArray, List.set_cons_zero, List.set_cons_succ]
                      refine wpAnyH_ready (rs := [15]) (by kernel_rfl) (by simp) ?_
                      refine AllReadyH.cons (o := ⟨some 144, _, _, _, _, _⟩) rfl (fun K hK => ?st35) ?mo35
                      case mo35 => exact AllReadyH.nil
                      go_simp
                      refine hK.out _ _ ?hs35 (fun hHeld => ?re35)
                      case hs35 => ((try dsimp only); (refine ⟨?_, ?_, ?_⟩ <;> (repeat (first | with_reducible assumption | with_reducible refine far_drew ?_ | with_reducible refine far_alloc ?_))))
                      clear hK K
                      try simp only [Act.put, List.setIfInBounds_toArray, List.set_cons_zero, List.set_cons_succ]
                      refine wpAnyH_take (i := 16) (oi := ⟨some 145, _, _, _, _, _⟩) (v := ?vv33) rfl (by kernel_rfl) (by kernel_rfl) (by kernel_rfl) (fun _ _ _ h => h) (Or.inl ⟨by rfl, ?yy33⟩) (by assumption) ?rr33
                      case yy33 => (intro w hSw; (try dsimp only at hSw); go_simp; (try with_reducible rfl))
                      try simp only [Act.put, List.setIfInBounds_toArray, List.set_cons_zero, List.set_cons_succ]
                      refine wpAnyH_take (i := 17) (oi := ⟨some 146, _, _, _, _, _⟩) (v := ?vv34) rfl (by kernel_rfl) (by kernel_rfl) (by kernel_rfl) (fun _ _ _ h => h) (Or.inl ⟨by rfl, ?yy34⟩) (by assumption) ?rr34
                      case yy34 => (intro w hSw; (try dsimp only at hSw); go_simp; (try with_reducible rfl))
                      try simp only [Act.put, List.setIfInBounds_toArray, List.set_cons_zero, List.set_cons_succ]
                      refine wpAnyH_done (by kernel_rfl) ?_ _
                      go_wp2_with fail
                      go_meet
                      exact ⟨rfl, (R9.out.alloc _).drew, (OP9.alloc _).drew, (OC9.alloc _).drew, (OK9.alloc _).drew, (OW9.alloc _).drew, (T9.alloc _).drew, (G9.alloc _).drew⟩
                    · rw [hk3] at cK9 pk
                      rw [show (2 : Int) + 2 = 4 from rfl] at pk
                      refine wp_region_held_drew (S := (fun w' => w'.cell? ⟨C, i, none⟩ = some (.int .i64 (cs i + 1)) ∧ w'.cell? ⟨K, i, none⟩ = some (.int .i64 2) ∧ w'.cell? ⟨g, j * 6, none⟩ = some (.int .i64 4))) (by kernel_rfl) ?_ (fun hHeld => ?_)
                      · (refine ⟨?_, ?_, ?_⟩ <;> (repeat (first | with_reducible assumption | with_reducible refine far_drew ?_ | with_reducible refine far_alloc ?_)))
                      refine wpAnyH_take (i := 0) (oi := ⟨some 129, _, _, _, _, _⟩) (v := ?vv37) rfl (by kernel_rfl) (by kernel_rfl) (by kernel_rfl) (fun _ _ _ h => h) (Or.inl ⟨by rfl, ?yy37⟩) (by assumption) ?rr37
                      case yy37 => (intro w hSw; (try dsimp only at hSw); go_simp; (try with_reducible rfl))
                      try simp only [Act.put, List.setIfInBounds_toArray, List.set_cons_zero, List.set_cons_succ]
                      refine wpAnyH_take (i := 1) (oi := ⟨some 130, _, _, _, _, _⟩) (v := ?vv38) rfl (by kernel_rfl) (by kernel_rfl) (by kernel_rfl) (fun _ _ _ h => h) (Or.inl ⟨by rfl, ?yy38⟩) (by assumption) ?rr38
                      case yy38 => (intro w hSw; (try dsimp only at hSw); go_simp; (try with_reducible rfl))
                      try simp only [Act.put, List.setIfInBounds_toArray, List.set_cons_zero, List.set_cons_succ]
                      refine wpAnyH_take (i := 2) (oi := ⟨some 131, _, _, _, _, _⟩) (v := ?vv39) rfl (by kernel_rfl) (by kernel_rfl) (by kernel_rfl) (fun _ _ _ h => h) (Or.inl ⟨by rfl, ?yy39⟩) (by assumption) ?rr39
                      case yy39 => (intro w hSw; (try dsimp only at hSw); go_simp; (try with_reducible rfl))
                      try simp only [Act.put, List.setIfInBounds_toArray, List.set_cons_zero, List.set_cons_succ]
                      refine wpAnyH_take (i := 3) (oi := ⟨some 132, _, _, _, _, _⟩) (v := ?vv40) rfl (by kernel_rfl) (by kernel_rfl) (by kernel_rfl) (fun _ _ _ h => h) (Or.inl ⟨by rfl, ?yy40⟩) (by assumption) ?rr40
                      case yy40 => (intro w hSw; (try dsimp only at hSw); go_simp; (try with_reducible rfl))
                      try simp only [Act.put, List.setIfInBounds_toArray, List.set_cons_zero, List.set_cons_succ]
                      refine wpAnyH_take (i := 4) (oi := ⟨some 133, _, _, _, _, _⟩) (v := ?vv41) rfl (by kernel_rfl) (by kernel_rfl) (by kernel_rfl) (fun _ _ _ h => h) (Or.inl ⟨by rfl, ?yy41⟩) (by assumption) ?rr41
                      case yy41 => (intro w hSw; (try dsimp only at hSw); go_simp; (try with_reducible rfl))
                      try simp only [Act.put, List.setIfInBounds_toArray, List.set_cons_zero, List.set_cons_succ]
                      refine wpAnyH_take (i := 5) (oi := ⟨some 134, _, _, _, _, _⟩) (v := ?vv42) rfl (by kernel_rfl) (by kernel_rfl) (by kernel_rfl) (fun _ _ _ h => h) (Or.inl ⟨by rfl, ?yy42⟩) (by assumption) ?rr42
                      case yy42 => (intro w hSw; (try dsimp only at hSw); go_simp; (try with_reducible rfl))
                      try simp only [Act.put, List.setIfInBounds_toArray, List.set_cons_zero, List.set_cons_succ]
                      refine wpAnyH_take (i := 6) (oi := ⟨some 135, _, _, _, _, _⟩) (v := ?vv43) rfl (by kernel_rfl) (by kernel_rfl) (by kernel_rfl) (fun _ _ _ h => h) (Or.inl ⟨by rfl, ?yy43⟩) (by assumption) ?rr43
                      case yy43 => (intro w hSw; (try dsimp only at hSw); go_simp; (try with_reducible rfl))
                      try simp only [Act.put, List.setIfInBounds_toArray, List.set_cons_zero, List.set_cons_succ]
                      refine wpAnyH_take (i := 7) (oi := ⟨some 136, _, _, _, _, _⟩) (v := ?vv44) rfl (by kernel_rfl) (by kernel_rfl) (by kernel_rfl) (fun _ _ _ h => h) (Or.inl ⟨by rfl, ?yy44⟩) (by assumption) ?rr44
                      case yy44 => (intro w hSw; (try dsimp only at hSw); go_simp; (try with_reducible rfl))
                      try simp only [Act.put, List.setIfInBounds_toArray, List.set_cons_zero, List.set_cons_succ]
                      refine wpAnyH_take (i := 8) (oi := ⟨some 137, _, _, _, _, _⟩) (v := ?vv45) rfl (by kernel_rfl) (by kernel_rfl) (by kernel_rfl) (fun _ _ _ h => h) (Or.inl ⟨by rfl, ?yy45⟩) (by assumption) ?rr45
                      case yy45 => (intro w hSw; (try dsimp only at hSw); go_simp; (try with_reducible rfl))
                      try simp only [Act.put, List.setIfInBounds_toArray, List.set_cons_zero, List.set_cons_succ]
                      refine wpAnyH_take (i := 9) (oi := ⟨some 138, _, _, _, _, _⟩) (v := ?vv46) rfl (by kernel_rfl) (by kernel_rfl) (by kernel_rfl) (fun _ _ _ h => h) (Or.inl ⟨by rfl, ?yy46⟩) (by assumption) ?rr46
                      case yy46 => (intro w hSw; (try dsimp only at hSw); go_simp; (try with_reducible rfl))
                      try simp only [Act.put, List.setIfInBounds_toArray, List.set_cons_zero, List.set_cons_succ]
                      refine wpAnyH_take (i := 11) (oi := ⟨some 140, _, _, _, _, _⟩) (v := ?vv47) rfl (by kernel_rfl) (by kernel_rfl) (by kernel_rfl) (fun _ _ _ h => h) (Or.inl ⟨by rfl, ?yy47⟩) (by assumption) ?rr47
                      case yy47 => (intro w hSw; (try dsimp only at hSw); go_simp; (try with_reducible rfl))
                      try simp only [Act.put, List.setIfInBounds_toArray, List.set_cons_zero, List.set_cons_succ]
                      refine wpAnyH_take (i := 12) (oi := ⟨some 141, _, _, _, _, _⟩) (v := ?vv48) rfl (by kernel_rfl) (by kernel_rfl) (by kernel_rfl) (fun _ _ _ h => h) (Or.inl ⟨by rfl, ?yy48⟩) (by assumption) ?rr48
                      case yy48 => (intro w hSw; (try dsimp only at hSw); go_simp; (try with_reducible rfl))
                      try simp only [Act.put, List.setIfInBounds_toArray, List.set_cons_zero, List.set_cons_succ]
                      refine wpAnyH_take (i := 13) (oi := ⟨some 142, _, _, _, _, _⟩) (v := ?vv49) rfl (by kernel_rfl) (by kernel_rfl) (by kernel_rfl) (fun _ _ _ h => h) (Or.inl ⟨by rfl, ?yy49⟩) (by assumption) ?rr49
                      case yy49 => (intro w hSw; (try dsimp only at hSw); go_simp; (try with_reducible rfl))
                      try simp only [Act.put, List.setIfInBounds_toArray, List.set_cons_zero, List.set_cons_succ]
                      refine wpAnyH_ready (rs := [10]) (by kernel_rfl) (by simp) ?_
                      refine AllReadyH.cons (o := ⟨some 139, _, _, _, _, _⟩) rfl (fun K hK => ?st54) ?mo54
                      case mo54 => exact AllReadyH.nil
                      go_simp
                      refine hK.out _ _ ?hs54 (fun hHeld => ?re54)
                      case hs54 => ((try dsimp only); (refine ⟨?_, ?_, ?_⟩ <;> (repeat (first | with_reducible assumption | with_reducible refine far_drew ?_ | with_reducible refine far_alloc ?_))))
                      clear hK K
                      try simp only [Act.put, List.setIfInBounds_toArray, List.set_cons_zero, List.set_cons_succ]
                      refine wpAnyH_take (i := 14) (oi := ⟨some 143, _, _, _, _, _⟩) (v := ?vv50) rfl (by kernel_rfl) (by kernel_rfl) (by kernel_rfl) (fun _ _ _ h => h) (Or.inl ⟨by rfl, ?yy50⟩) (by assumption) ?rr50
                      case yy50 => (intro w hSw; (try dsimp only at hSw); go_simp; (try with_reducible rfl))
                      try simp only [Act.put, List.setIfInBounds_toArray, List.set_cons_zero, List.set_cons_succ]
                      refine wpAnyH_ready (rs := [15]) (by kernel_rfl) (by simp) ?_
                      refine AllReadyH.cons (o := ⟨some 144, _, _, _, _, _⟩) rfl (fun K hK => ?st53) ?mo53
                      case mo53 => exact AllReadyH.nil
                      go_simp
                      refine hK.out _ _ ?hs53 (fun hHeld => ?re53)
                      case hs53 => ((try dsimp only); (refine ⟨?_, ?_, ?_⟩ <;> (repeat (first | with_reducible assumption | with_reducible refine far_drew ?_ | with_reducible refine far_alloc ?_))))
                      clear hK K
                      try simp only [Act.put, List.setIfInBounds_toArray, List.set_cons_zero, List.set_cons_succ]
                      refine wpAnyH_take (i := 16) (oi := ⟨some 145, _, _, _, _, _⟩) (v := ?vv51) rfl (by kernel_rfl) (by kernel_rfl) (by kernel_rfl) (fun _ _ _ h => h) (Or.inl ⟨by rfl, ?yy51⟩) (by assumption) ?rr51
                      case yy51 => (intro w hSw; (try dsimp only at hSw); go_simp; (try with_reducible rfl))
                      try simp only [Act.put, List.setIfInBounds_toArray, List.set_cons_zero, List.set_cons_succ]
                      refine wpAnyH_take (i := 17) (oi := ⟨some 146, _, _, _, _, _⟩) (v := ?vv52) rfl (by kernel_rfl) (by kernel_rfl) (by kernel_rfl) (fun _ _ _ h => h) (Or.inl ⟨by rfl, ?yy52⟩) (by assumption) ?rr52
                      case yy52 => (intro w hSw; (try dsimp only at hSw); go_simp; (try with_reducible rfl))
                      try simp only [Act.put, List.setIfInBounds_toArray, List.set_cons_zero, List.set_cons_succ]
                      refine wpAnyH_done (by kernel_rfl) ?_ _
                      go_wp2_with fail
                      go_meet
                      exact ⟨rfl, (R9.out.alloc _).drew, (OP9.alloc _).drew, (OC9.alloc _).drew, (OK9.alloc _).drew, (OW9.alloc _).drew, (T9.alloc _).drew, (G9.alloc _).drew⟩
                  · have d2 : decide (2 ≤ cs i + 1) = false := decide_eq_false (by omega)
                    go_quiet (fail)
                    revert nq; intro nq1
                    go_wp2_with fail
                    go_meet
                    exact ⟨rfl, R9.out, OP9.drewN nq1, OC9.drewN nq1, OK9.drewN nq1, OW9.drewN nq1, T9.drewN nq1, G9.drewN nq1⟩
                case rest =>
                  clear OP9 OC9 OK9 OW9 T9 G9 R9 w9
                  obtain ⟨rfl, R10, OP10, OC10, OK10, OW10, T10, G10⟩ := hcut
                  obtain ⟨w10, rfl⟩ : ∃ w10 : World, w10 = wc := ⟨_, rfl⟩
                  have cP10 := OP10.iat hi4
                  have fP10 := OP10.frozen i
                  have lP10 := OP10.lt
                  have cK10 := OK10.iat hi4
                  have lK10 := OK10.lt
                  rcases hk3 with hk3 | hk3 | hk3
                  · skip
                    rw [hk3] at cK10
                    have wd : IntKind.i64.wrap (ps i + 1) = ps i + 1 := IntWalk.i64_in _ (by omega)
                    have hd : dlF (ks i) = 1 := by rw [hk3]; rfl
                    have HR2 := HR'.out
                    rw [hd] at HR2
                    have HR3 := Lib.hid HR2
                    clear HR2 hd
                    go_upto_region 26 with fail
                    go_region_with (fail)
                    all_goals
                      go_wp2
                      exact ⟨⟨T + 1, L', _, _, _, _, rfl, by go_num, by omega, HR3.out, ((R10.setA (b := P) (by omega) _).alloc _).drew, ((OP10.iset hi4 _).alloc _).drew, ((OC10.far (p := ⟨P, i, none⟩) (show C ≠ P by omega) _).alloc _).drew, ((OK10.far (p := ⟨P, i, none⟩) (show K ≠ P by omega) _).alloc _).drew, ((OW10.far (p := ⟨P, i, none⟩) (show W ≠ P by omega) _).alloc _).drew, ((T10.set (p := ⟨P, i, none⟩) (show w.heap.size + 1 ≤ P by omega) _).alloc _).drew, ((G10.set (p := ⟨P, i, none⟩) (show w.heap.size ≤ P by omega) _).alloc _).drew⟩, by simp [intOf]; omega⟩
                  · skip
                    rw [hk3] at cK10
                    have wd : IntKind.i64.wrap (ps i + -1) = ps i + -1 := IntWalk.i64_in _ (by omega)
                    have hd : dlF (ks i) = -1 := by rw [hk3]; rfl
                    have HR2 := HR'.out
                    rw [hd] at HR2
                    have HR3 := Lib.hid HR2
                    clear HR2 hd
                    go_upto_region 26 with fail
                    go_region_with (fail)
                    all_goals
                      go_wp2
                      exact ⟨⟨T + 1, L', _, _, _, _, rfl, by go_num, by omega, HR3.out, ((R10.setA (b := P) (by omega) _).alloc _).drew, ((OP10.iset hi4 _).alloc _).drew, ((OC10.far (p := ⟨P, i, none⟩) (show C ≠ P by omega) _).alloc _).drew, ((OK10.far (p := ⟨P, i, none⟩) (show K ≠ P by omega) _).alloc _).drew, ((OW10.far (p := ⟨P, i, none⟩) (show W ≠ P by omega) _).alloc _).drew, ((T10.set (p := ⟨P, i, none⟩) (show w.heap.size + 1 ≤ P by omega) _).alloc _).drew, ((G10.set (p := ⟨P, i, none⟩) (show w.heap.size ≤ P by omega) _).alloc _).drew⟩, by simp [intOf]; omega⟩
                  · skip
                    rw [hk3] at cK10
                    have wd : IntKind.i64.wrap (ps i + 3) = ps i + 3 := IntWalk.i64_in _ (by omega)
                    have hd : dlF (ks i) = 3 := by rw [hk3]; rfl
                    have HR2 := HR'.out
                    rw [hd] at HR2
                    have HR3 := Lib.hid HR2
                    clear HR2 hd
                    go_upto_region 26 with fail
                    go_region_with (fail)
                    all_goals
                      go_wp2
                      exact ⟨⟨T + 1, L', _, _, _, _, rfl, by go_num, by omega, HR3.out, ((R10.setA (b := P) (by omega) _).alloc _).drew, ((OP10.iset hi4 _).alloc _).drew, ((OC10.far (p := ⟨P, i, none⟩) (show C ≠ P by omega) _).alloc _).drew, ((OK10.far (p := ⟨P, i, none⟩) (show K ≠ P by omega) _).alloc _).drew, ((OW10.far (p := ⟨P, i, none⟩) (show W ≠ P by omega) _).alloc _).drew, ((T10.set (p := ⟨P, i, none⟩) (show w.heap.size + 1 ≤ P by omega) _).alloc _).drew, ((G10.set (p := ⟨P, i, none⟩) (show w.heap.size ≤ P by omega) _).alloc _).drew⟩, by simp [intOf]; omega⟩
        · have hT2 : T = 24 := by omega
          subst hT2
          rw [show ((24 : Nat) : Int) = 24 from rfl]
          go_wp2_with fail
          with_reducible refine (awake_any _).mono ?_
          rintro e w2 ⟨rfl, g2⟩
          go_wp2
          go_ret
          exact ⟨rfl, G.trans g2⟩

theorem Try.own : ownKnob Try.prog.godebug = none := by kernel_rfl
theorem Try.laidOut : laidOutB Try.prog = true := by kernel_rfl

theorem streamReaders_contract (W : World) (base : Nat) (args : Array Value) (H : Type) (enc : TypeId × Value → H) (ds : List (DataW H)) (p : List MemPlace)
    (hval : ∀ (j : Nat) t v, Try.f5.params[j]? = some t → args[j]? = some v → Value.okWide Try.prog W .any base t v)
    (hA : DataW.TrodAll enc Try.prog W 0 (fun _ => true) true Try.f5.params.toList args.toList ds p) :
    (∃ d0, ds = [d0]) ∧ Calls Try.prog 5 args W fun e W' => e = .returned (.bool true) ∧ Below W.heap.size W W' := by
  rw [Try.params5] at hval hA
  obtain ⟨v0, d0, p0, ha, hd, hp, h0⟩ := args_1 hA
  subst ha hd
  obtain ⟨A0, c0, xs0, rfl, hr0, hm0⟩ := open_introw Try.underlying22 Try.underlying3 (by kernel_rfl) (hval 0 _ _ rfl rfl) h0
  exact ⟨⟨_, rfl⟩, (readers_core A0 c0 xs0 W hr0 hm0).mono fun _ _ h => h⟩

set_option maxRecDepth 100000 in
theorem streamReaders_lifted (os : Os) (started : os.Started) (H : Type) (enc : TypeId × Value → H) :
    ReturnsInHanded {} Try.checked os 5 .any (Rows.streamReadersSpec.pre6 enc Try.prog Try.f5 Rows.streamReadersRow.domain false) (Rows.streamReadersSpec.post enc Try.prog Try.f5 false true false false) := by
  refine returnsInHanded_of_change (C := Try.checked) Try.own started (by kernel_rfl) Try.func5
    (ChangeSpec.witness6 (enc := enc) (C := Try.checked) false ⟨#[], #[.slice none 0 0], []⟩ 8 (by kernel_rfl) (by kernel_rfl) (by kernel_rfl) (by kernel_rfl)) ?_
  intro W base args ds gs before hval hW _ _
  obtain ⟨p, q, hA, hV, hrest⟩ := id hW
  obtain ⟨⟨d0, rfl⟩, hc⟩ := streamReaders_contract W base args H enc ds p hval hA
  obtain ⟨rfl, -⟩ := trodVars_none hV
  refine hc.mono fun e W' ⟨he, hb⟩ => ⟨_, he, ?_⟩
  exact law_close (tb := 4) Try.laidOut (by rw [Try.params5]; decide +kernel) Try.underlying4 rfl rfl hW rfl rfl rfl hb

theorem streamReaders_holds : Rows.StreamReadersSaid :=
  OpenClaim.holds_of_wide 5 Try.f5 rfl rfl rfl rfl rfl rfl rfl ⟨rfl, rfl, rfl, rfl, rfl⟩ rfl rfl rfl rfl rfl (by kernel_rfl) Try.func5 (by kernel_rfl)
    (of_decide_eq_true (by kernel_rfl)) (by unfold Func.isWrapper; first | (rw [if_pos (by decide +kernel)]; kernel_rfl) | (rw [if_neg (by decide +kernel)]; exact ⟨rfl, rfl⟩))
    (fun os started H enc _ => streamReaders_lifted os started H enc)
end Go.Proofs.Ythdcmknenjallaa

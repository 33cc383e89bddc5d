/- radix.replace. -/
import Derived.Test.YtdlhihllmidfeaaRx7
namespace Go.Proofs.Ytdlhihllmidfeaa
open Go.RowKit Go.Mine

def updG (f : Fen) (i : Nat) (l : Lef) : Fen := fun j => if j = i then l else f j
theorem upd_G {h : Nat} (f : Fen) {i : Nat} (l : Lef) (hi : i < p4 h) : upd h f i l = updG f i l := by
  unfold upd updG
  rw [Nat.mod_eq_of_lt hi]
theorem GoodF.updG {f : Fen} (g : GoodF f) (i : Nat) {l : Lef} (hl : LefOK l) : GoodF (updG f i l) := fun j => by
  unfold Go.Proofs.Ytdlhihllmidfeaa.updG
  split
  · exact hl
  · exact g j
theorem p4_mono {a b : Nat} (h : a ≤ b) : p4 a ≤ p4 b := by
  induction b with
  | zero => have : a = 0 := by omega
            subst this; exact Nat.le_refl _
  | succ b ih =>
    by_cases e : a = b + 1
    · rw [e]; exact Nat.le_refl _
    · have := ih (by omega)
      show p4 a ≤ 4 * p4 b
      omega
theorem onlyB_iff (k : Nat) (f : Fen) : onlyB k f = true ↔ ∀ j, p4 k ≤ j → j < p4 (k + 1) → f j = (0, 0) := by
  unfold onlyB
  simp only [Bool.and_eq_true, emp_iff]
  have hp := p4_pos k
  have h4 : p4 (k + 1) = 4 * p4 k := rfl
  constructor
  · rintro ⟨⟨a, b⟩, c⟩ j h1 h2
    obtain ⟨e1, e2, e3⟩ := split4 h2
    generalize j / p4 k = q at e1 e3
    rw [e3]
    have hq : q = 0 ∨ q = 1 ∨ q = 2 ∨ q = 3 := by omega
    rcases hq with rfl | rfl | rfl | rfl
    · rw [e3] at h1; omega
    · exact a _ e2
    · exact b _ e2
    · exact c _ e2
  · intro a
    refine ⟨⟨fun i hi => a _ (by omega) (by omega), fun i hi => a _ (by omega) (by omega)⟩, fun i hi => a _ (by omega) (by omega)⟩
theorem low_le : ∀ (h : Nat) (f : Fen), low h f ≤ h
  | 0, _ => Nat.le_refl _
  | k + 1, f => by
    unfold low
    cases onlyB k f
    · exact Nat.le_refl _
    · exact Nat.le_trans (low_le k f) (Nat.le_succ k)
theorem low_out : ∀ (h : Nat) (f : Fen), (∀ j, p4 h ≤ j → f j = (0, 0)) → ∀ j, p4 (low h f) ≤ j → f j = (0, 0)
  | 0, _, a => a
  | k + 1, f, a => by
    unfold low
    cases ho : onlyB k f
    · exact a
    · refine low_out k f fun j hj => ?_
      by_cases h1 : j < p4 (k + 1)
      · exact (onlyB_iff k f).1 ho j hj h1
      · exact a j (by omega)
theorem low_valid : ∀ (h : Nat) (f : Fen), validB (low h f) f = true
  | 0, _ => rfl
  | k + 1, f => by
    unfold low
    cases ho : onlyB k f
    · show validB (k + 1) f = true
      simp [validB, ho]
    · exact low_valid k f
/-- A valid tree. -/
def TreeF (w : World) (p : Nat → Prop) (h : Nat) (f : Fen) (s : Value) (x m : Int) : Prop := h ≤ 4 ∧ NodeF w p h f s x m ∧ GoodF f ∧ validB h f = true ∧ ∀ j, p4 h ≤ j → f j = (0, 0)
theorem raise_f {w : World} {p : Nat → Prop} {h : Nat} {f : Fen} {s : Value} {x m : Int} {g : Nat} {T : TypeId} (n : NodeF w p h f s x m) (ho : ∀ j, p4 h ≤ j → f j = (0, 0))
    (o : Own w g T #[s, .int .i64 x, .int .i64 m, .slice none 0 0, .int .i64 0, .int .i64 0, .slice none 0 0, .int .i64 0, .int .i64 0, .slice none 0 0, .int .i64 0, .int .i64 0]) : KidsF w p h f g := fun k hk => by
  have he : ∀ k, 0 < k → k < 4 → emp h (sub h f k) = true := fun k h0 h4 => by
    rw [emp_iff]
    intro i hi
    have : 1 * p4 h ≤ k * p4 h := Nat.mul_le_mul_right _ h0
    exact ho _ (by show p4 h ≤ k * p4 h + i; omega)
  have hc : k = 0 ∨ k = 1 ∨ k = 2 ∨ k = 3 := by omega
  rcases hc with rfl | rfl | rfl | rfl
  · exact ⟨s, x, m, (o.cell _).trans rfl, (o.cell _).trans rfl, (o.cell _).trans rfl, by rw [sub_zero]; exact n⟩
  · exact ⟨_, 0, 0, (o.cell _).trans rfl, (o.cell _).trans rfl, (o.cell _).trans rfl, NodeF.empty h (he 1 (by omega) (by omega)) _ _⟩
  · exact ⟨_, 0, 0, (o.cell _).trans rfl, (o.cell _).trans rfl, (o.cell _).trans rfl, NodeF.empty h (he 2 (by omega) (by omega)) _ _⟩
  · exact ⟨_, 0, 0, (o.cell _).trans rfl, (o.cell _).trans rfl, (o.cell _).trans rfl, NodeF.empty h (he 3 (by omega) (by omega)) _ _⟩
set_option maxHeartbeats 40000000 in
theorem replace_f (h : Nat) (f : Fen) (s : Value) (x m lx lm : Int) (i : Nat) (p : Nat → Prop) (w : World) (n : NodeF w p h f s x m) (hf : GoodF f) (ho : ∀ j, p4 h ≤ j → f j = (0, 0)) (hh : h ≤ 4) (hi : i < 256) (hl : LefOK (lx, lm)) :
    Calls Try.prog 55 #[treeV h s x m, .int .i64 i, nodeV (.slice none 0 0) lx lm] w (fun e w' => ∃ k s' x' m', e = .returned (treeV k s' x' m') ∧ TreeF w' (fun b => w.heap.size ≤ b) k (updG f i (lx, lm)) s' x' m' ∧ Grew w w') := by
  obtain ⟨a, j, c, rfl⟩ := n.slice
  have HN := Lib.hid (n.mono (q := fun b => b ≠ w.heap.size ∧ b ≠ w.heap.size + 1 ∧ b ≠ w.heap.size + 1 + 1) (fun b h1 h2 => by omega))
  have HF := Lib.hid hf
  have HO := Lib.hid ho
  have HL := Lib.hid hl
  clear n hf ho hl
  go_enter Try.func55, Try.ntmps55
  have T := ((Own.new w 28 #[.int .i64 h, .slice a j c, .int .i64 x, .int .i64 m]).alloc (.cells #[.slice none 0 0, .int .i64 lx, .int .i64 lm] 26)).alloc (.cells #[.int .i64 0, .slice none 0 0, .int .i64 0, .int .i64 0] 28)
  have L := (Own.new2 w (.cells #[.int .i64 h, .slice a j c, .int .i64 x, .int .i64 m] 28) 26 #[.slice none 0 0, .int .i64 lx, .int .i64 lm]).alloc (.cells #[.int .i64 0, .slice none 0 0, .int .i64 0, .int .i64 0] 28)
  have R := Own.new2 (w.alloc (.cells #[.int .i64 h, .slice a j c, .int .i64 x, .int .i64 m] 28)) (.cells #[.slice none 0 0, .int .i64 lx, .int .i64 lm] 26) 28 #[.int .i64 0, .slice none 0 0, .int .i64 0, .int .i64 0]
  simp only [World.size_alloc] at R
  have G := (((Grew.refl w).alloc (.cells #[.int .i64 h, .slice a j c, .int .i64 x, .int .i64 m] 28)).alloc (.cells #[.slice none 0 0, .int .i64 lx, .int .i64 lm] 26)).alloc (.cells #[.int .i64 0, .slice none 0 0, .int .i64 0, .int .i64 0] 28)
  go_wp2_with fail
  with_reducible refine (pathTo_any i _ (by omega) (by omega)).mono ?_
  rintro e w1 ⟨rfl, g1⟩
  replace T := T.grew g1
  replace L := L.grew g1
  replace R := R.grew g1
  replace G := G.trans g1
  clear g1
  have hR := R.lt
  have P := Own.new w1 82 #[.int .i64 ((i : Int) / 64 % 4), .int .i64 ((i : Int) / 16 % 4), .int .i64 ((i : Int) / 4 % 4), .int .i64 ((i : Int) % 4)]
  replace T := T.alloc (.cells #[.int .i64 ((i : Int) / 64 % 4), .int .i64 ((i : Int) / 16 % 4), .int .i64 ((i : Int) / 4 % 4), .int .i64 ((i : Int) % 4)] 82)
  replace L := L.alloc (.cells #[.int .i64 ((i : Int) / 64 % 4), .int .i64 ((i : Int) / 16 % 4), .int .i64 ((i : Int) / 4 % 4), .int .i64 ((i : Int) % 4)] 82)
  replace R := R.alloc (.cells #[.int .i64 ((i : Int) / 64 % 4), .int .i64 ((i : Int) / 16 % 4), .int .i64 ((i : Int) / 4 % 4), .int .i64 ((i : Int) % 4)] 82)
  replace G := G.alloc (.cells #[.int .i64 ((i : Int) / 64 % 4), .int .i64 ((i : Int) / 16 % 4), .int .i64 ((i : Int) / 4 % 4), .int .i64 ((i : Int) % 4)] 82)
  go_wp2_with fail
  obtain ⟨Q, hQ⟩ : ∃ Q, w1.heap.size = Q := ⟨_, rfl⟩
  generalize w1.alloc _ = w2 at *
  rw [hQ] at P hR ⊢
  clear hQ
  have HT := Lib.hid T
  have HLb := Lib.hid L
  have HR := Lib.hid R
  have HP := Lib.hid P
  have HG := Lib.hid G
  clear T L R P G
  go_loopg [] (4 - h) (fun k wr => ∃ hh s' x' m', k = 4 - hh ∧ h ≤ hh ∧ hh ≤ 4 ∧ Own wr w.heap.size 28 #[.int .i64 (hh : Nat), s', .int .i64 x', .int .i64 m'] ∧ NodeF wr (fun b => b ≠ w.heap.size ∧ b ≠ w.heap.size + 1 ∧ b ≠ w.heap.size + 1 + 1) hh f s' x' m' ∧
    Own wr (w.heap.size + 1) 26 #[.slice none 0 0, .int .i64 lx, .int .i64 lm] ∧ Own wr (w.heap.size + 1 + 1) 28 #[.int .i64 0, .slice none 0 0, .int .i64 0, .int .i64 0] ∧
    Own wr Q 82 #[.int .i64 ((i : Int) / 64 % 4), .int .i64 ((i : Int) / 16 % 4), .int .i64 ((i : Int) / 4 % 4), .int .i64 ((i : Int) % 4)] ∧ Grew w wr)
  case atStart => exact ⟨h, _, _, _, rfl, Nat.le_refl _, by omega, HT.out, HN.out.grew HG.out, HLb.out, HR.out, HP.out, HG.out⟩
  case round =>
    clear HT HLb HR HP HG
    obtain ⟨hh', s', x', m', rfl, hk, hk4, T, n', L, R, P, G⟩ := hrel
    obtain ⟨a', j', c', rfl⟩ := n'.slice
    have Hn := Lib.hid n'
    have HO' := Lib.hid (show ∀ j, p4 hh' ≤ j → f j = (0, 0) from fun j hj => HO.out j (Nat.le_trans (p4_mono hk) hj))
    clear n'
    obtain ⟨T0, T1, T2, T3, T4, T5, T6, T7⟩ := T.four
    obtain ⟨P0, P1, P2, P3, P4, P5, P6, P7⟩ := P.four
    go_wp2_with fail
    with_reducible refine (within_any hh' i _ hk4 (by omega) (by omega)).mono ?_
    rintro e w3 ⟨rfl, g3⟩
    replace T := T.grew g3
    replace L := L.grew g3
    replace R := R.grew g3
    replace P := P.grew g3
    replace G := G.trans g3
    have Hn3 := Lib.hid (Hn.out.grew g3)
    clear g3 T0 T1 T2 T3 T4 T5 T6 T7 P0 P1 P2 P3 P4 P5 P6 P7 Hn
    obtain ⟨T0, T1, T2, T3, T4, T5, T6, T7⟩ := T.four
    by_cases hin : i < p4 hh'
    · rw [show inB hh' (i : Int) = true from decide_eq_true (by omega)]
      clear T0 T1 T2 T3 T4 T5 T6 T7
      have hlT := T.lt
      have hlL := L.lt
      have hlR := R.lt
      have hlP := P.lt
      obtain ⟨T0, T1, T2, T3, -⟩ := T.four
      obtain ⟨L0, L1, L2, -⟩ := L.three
      obtain ⟨P0, P1, P2, P3, -⟩ := P.four
      have HHR := Lib.hid R
      have HHT := Lib.hid T
      have HHL := Lib.hid L
      have HHP := Lib.hid P
      have HHG := Lib.hid G
      clear R T L P G
      have ne1 : w.heap.size + 1 + 1 ≠ w.heap.size := by omega
      have ne2 : w.heap.size + 1 + 1 ≠ w.heap.size + 1 := by omega
      have ne3 : w.heap.size + 1 + 1 ≠ Q := by omega
      go_upto_region 4 with fail
      go_region_held3 (fun w' => (w'.cell? ⟨w.heap.size, 0, none⟩ = some (.int .i64 hh') ∧ w'.cell? ⟨w.heap.size, 1, none⟩ = some (.slice a' j' c') ∧ w'.cell? ⟨w.heap.size, 2, none⟩ = some (.int .i64 x') ∧ w'.cell? ⟨w.heap.size, 3, none⟩ = some (.int .i64 m')) ∧
          (w'.cell? ⟨w.heap.size + 1, 0, none⟩ = some (.slice none 0 0) ∧ w'.cell? ⟨w.heap.size + 1, 1, none⟩ = some (.int .i64 lx) ∧ w'.cell? ⟨w.heap.size + 1, 2, none⟩ = some (.int .i64 lm)) ∧
          (w'.cell? ⟨Q, 0, none⟩ = some (.int .i64 ((i : Int) / 64 % 4)) ∧ w'.cell? ⟨Q, 1, none⟩ = some (.int .i64 ((i : Int) / 16 % 4)) ∧ w'.cell? ⟨Q, 2, none⟩ = some (.int .i64 ((i : Int) / 4 % 4)) ∧ w'.cell? ⟨Q, 3, none⟩ = some (.int .i64 ((i : Int) % 4))))
        (refine ⟨⟨?_, ?_, ?_, ?_⟩, ⟨?_, ?_, ?_⟩, ?_, ?_, ?_, ?_⟩ <;> (repeat (first | (with_reducible assumption) | (with_reducible refine far_drew ?_) | (with_reducible refine far_cell ne1 ?_) | (with_reducible refine far_cell ne2 ?_) | (with_reducible refine far_cell ne3 ?_))))
        (first
        | (go_at_call 71; (with_reducible refine (below_any hh' i w3.drew hk4).mono ?_); rintro e w4 ⟨v, rfl, hv, ⟨av, rfl, -⟩, g4⟩; have T4 := HHT.out.drew.grew g4; have L4 := HHL.out.drew.grew g4; have R4 := Lib.hid (HHR.out.drew.grew g4); have P4 := HHP.out.drew.grew g4; have G4 := Lib.hid (HHG.out.drew.trans g4); have hlR4 : w.heap.size + 1 + 1 < w4.heap.size := R4.out.lt; have Hn4 := Lib.hid (Hn3.out.grew ((Grew.refl w3).drew.trans g4)); have HV := Lib.hid hv; clear hv g4 T0 T1 T2 T3 L0 L1 L2 P0 P1 P2 P3 HHR HHT HHL HHP HHG Hn3; obtain ⟨T0, T1, T2, T3, -⟩ := T4.four; obtain ⟨L0, L1, L2, -⟩ := L4.three; obtain ⟨P0, P1, P2, P3, -⟩ := P4.four; have HT4 := Lib.hid T4; have HL4 := Lib.hid L4; have HP4 := Lib.hid P4; clear T4 L4 P4)
        | (go_at_call 73; (with_reducible refine (put_f hh' lx lm i f _ _ _ _ _ w4 HL.out Hn4.out HF.out HV.out).mono ?_); rintro e w5 ⟨y0, y1, y2, rfl, n5, g5⟩; obtain ⟨a2, j2, c2, rfl⟩ := n5.slice; have N5 := Lib.hid (n5.mono (q := fun b => w.heap.size + 1 + 1 < b) (fun b hb _ => Nat.lt_of_lt_of_le hlR4 hb)); have T4 := HT4.out.grew g5; have L4 := HL4.out.grew g5; have R5 := Lib.hid (R4.out.grew g5); have P4 := HP4.out.grew g5; have G5 := Lib.hid (G4.out.trans g5); clear n5 g5 T0 T1 T2 T3 L0 L1 L2 P0 P1 P2 P3 HT4 HL4 HP4 R4 G4 Hn4 HV; obtain ⟨T0, T1, T2, T3, -⟩ := T4.four; obtain ⟨L0, L1, L2, -⟩ := L4.three; obtain ⟨P0, P1, P2, P3, -⟩ := P4.four; have HT4 := Lib.hid T4; have HL4 := Lib.hid L4; have HP4 := Lib.hid P4; clear T4 L4 P4)
        | (go_at_call 72; (with_reducible refine (lowered_f hh' _ _ _ _ _ w5 N5.out (HF.out.upd _ _ HL.out) (by omega)).mono ?_); rintro e w6 ⟨z0, z1, z2, rfl, n6, g6⟩; obtain ⟨a3, j3, c3, rfl⟩ := n6.slice; have N6 := Lib.hid n6; have T4 := HT4.out.grew g6; have L4 := HL4.out.grew g6; have R6 := R5.out.grew g6; have P4 := HP4.out.grew g6; have G6 := Lib.hid (G5.out.trans g6); clear n6 g6 T0 T1 T2 T3 L0 L1 L2 P0 P1 P2 P3 HT4 HL4 HP4 R5 G5 N5; obtain ⟨T0, T1, T2, T3, -⟩ := T4.four; obtain ⟨L0, L1, L2, -⟩ := L4.three; obtain ⟨P0, P1, P2, P3, -⟩ := P4.four; obtain ⟨R0, R1, R2, R3, R7, R8, R9, R10⟩ := R6.four; have HR6 := Lib.hid R6; clear T4 L4 P4 R6))
      generalize hw7 : World.setCell (World.setCell (World.setCell (World.setCell _ _ _) _ _) _ _) _ _ = w7
      have OE := own4 hw7 HR6.out
      have GE := grew4 hw7 G6.out (by omega)
      have nE := node4 hw7 N6.out (fun b hb => by omega)
      clear hw7 T0 T1 T2 T3 L0 L1 L2 P0 P1 P2 P3 R0 R1 R2 R3 R7 R8 R9 R10
      obtain ⟨b0, b1, b2, b3, -⟩ := OE.four
      have hU : upd hh' f i (lx, lm) = updG f i (lx, lm) := upd_G f _ hin
      have HGo := HF.out.upd hh' i HL.out
      have HOu := low_out hh' (upd hh' f i (lx, lm)) (fun j hj => by
        rw [hU]
        unfold updG
        rw [if_neg (by omega)]
        exact HO'.out j hj)
      have HVa := low_valid hh' (upd hh' f i (lx, lm))
      have HLe := low_le hh' (upd hh' f i (lx, lm))
      rw [hU] at nE HGo HOu HVa HLe OE b0
      have HTr := Lib.hid (show TreeF w7 (fun b => w.heap.size ≤ b) (low hh' (updG f i (lx, lm))) (updG f i (lx, lm)) (.slice a3 j3 c3) z1 z2 from ⟨by omega, nE.mono (fun b hb _ => by omega), HGo, HVa, HOu⟩)
      clear hU HGo HOu HVa HLe nE
      go_wp2_with fail
      exact bodyPost_ret (v := treeV (low hh' (updG f i (lx, lm))) (.slice a3 j3 c3) z1 z2) (by simp [results, Try.results55, go_sem, b0, b1, b2, b3]) rfl ⟨_, _, _, _, rfl, HTr.out, GE⟩
    · rw [show inB hh' (i : Int) = false from decide_eq_false (by omega)]
      have hk3 : hh' ≤ 3 := by
        by_cases e : hh' = 4
        · subst e; exact absurd hi (by show ¬ i < 256; exact fun h => hin h)
        · omega
      have k1 : IntKind.i64.wrap ((hh' : Int) + 1) = (hh' : Int) + 1 := IntWalk.i64_in _ (by omega)
      go_upto_region 3 with fail
      have hlR := R.lt
      have hlT := T.lt
      have hlL := L.lt
      have hlP := P.lt
      go_region_with (go_at_call 65; (with_reducible refine (over_f hh' f _ 4 (fun b => b ≠ w.heap.size ∧ b ≠ w.heap.size + 1 ∧ b ≠ w.heap.size + 1 + 1) _ (raise_f (Hn3.out.grew (by first | exact ((Grew.refl w3).alloc _).drew | exact (Grew.refl w3).drew.alloc _ | exact (Grew.refl w3).alloc _)) HO'.out (by first | exact (Own.new w3 26 _).drew | exact Own.new w3.drew 26 _ | exact Own.new w3 26 _)) (by show w3.heap.size ≠ _ ∧ w3.heap.size ≠ _ ∧ w3.heap.size ≠ _; omega) HF.out).mono ?_); rintro e w4 ⟨y0, y1, y2, rfl, n4, g4⟩; obtain ⟨a2, j2, c2, rfl⟩ := n4.slice; have N4 := Lib.hid n4; have g5 : Grew w3 w4 := (by first | exact ((Grew.refl w3).alloc _).drew.trans g4 | exact ((Grew.refl w3).drew.alloc _).trans g4 | exact ((Grew.refl w3).alloc _).trans g4); have T4' := T.grew g5; clear n4 g4 T0 T1 T2 T3 T4 T5 T6 T7; obtain ⟨T0, T1, T2, T3, T4, T5, T6, T7⟩ := T4'.four)
      all_goals
        generalize hw5 : World.setCell (World.setCell (World.setCell (World.setCell _ _ _) _ _) _ _) _ _ = w5
        have TT5 := own4 hw5 T4'
        have RR5 := off4 hw5 (R.grew g5) (by omega)
        have LL5 := off4 hw5 (L.grew g5) (by omega)
        have PP5 := off4 hw5 (P.grew g5) (by omega)
        have G5 := grew4 hw5 (G.trans g5) (Nat.le_refl _)
        have n5 := node4 hw5 N4.out (fun b hb => hb.1)
        clear hw5 T0 T1 T2 T3 T4 T5 T6 T7
        go_wp2_with fail
        go_roundg (4 - (hh' + 1))
      all_goals first | exact ⟨hh' + 1, _, _, _, rfl, by omega, by omega, (show ((hh' + 1 : Nat) : Int) = (hh' : Int) + 1 from by omega) ▸ TT5, n5, LL5, RR5, PP5, G5⟩ | omega
end Go.Proofs.Ytdlhihllmidfeaa

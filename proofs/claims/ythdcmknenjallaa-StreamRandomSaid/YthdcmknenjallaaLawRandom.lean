/- StreamRandom holds: accesses that are more than MaxStride pages away from all others lead to no sure stream and no predictions. -/
import Derived.Test.YthdcmknenjallaaStU
import Derived.Test.YthdcmknenjallaaStW
import Derived.Test.YthdcmknenjallaaMapSet
import Derived.Deep.RegionHeld3
import Derived.Deep.DeepCutAuto
import Derived.Deep.CutBlock
namespace Go.Proofs.Ythdcmknenjallaa
open Go.ChangeShapes Go.WideShapes Go.ChangeAt Go.RowKit Go.Mine

def rdS (c t : Int) : Str := ⟨1, 20 * c, 20 * c + 1, 0, 0, t⟩
/-- All streams are new ones, at places that were used. -/
def RandL (u : Int → Bool) (n : Nat) (L : List Str) : Prop := Sound L ∧ lastN (ofL L) L.length ≤ n ∧ ∀ i, i < L.length → ∃ c t : Int, 0 ≤ c ∧ c ≤ 12 ∧ u c = true ∧ L.getD i zS = rdS c t
theorem rand_no {c t p : Int} (hc : ¬c = p) : mtcB (rdS c t) (20 * p) (20 * p + 1) = false := by
  have f1 : fwdB (rdS c t) (20 * p) (20 * p + 1) = false := decide_eq_false (by simp only [rdS]; omega)
  have f2 : bwdB (rdS c t) (20 * p) (20 * p + 1) = false := decide_eq_false (by simp only [rdS]; omega)
  have f3 : sdB (rdS c t) (20 * p) (20 * p + 1) = false := decide_eq_false (by simp only [rdS]; unfold StpP; omega)
  have f4 : agnB (rdS c t) (20 * p) (20 * p + 1) = false := decide_eq_false (by simp only [rdS]; omega)
  simp [mtcB, f1, f2, f3, f4]
theorem best_none {f : Nat → Str} {a b : Int} : ∀ n, (∀ i, i < n → mtcB (f i) a b = false) → bestO f a b n = none
  | 0, _ => rfl
  | n + 1, h => by rw [bestO, h n (by omega)]; exact best_none n (fun i hi => h i (by omega))
theorem last_of {f : Nat → Str} {m : Int} : ∀ n, 0 ≤ m → (∀ i, i < n → (f i).t ≤ m) → lastN f n ≤ m
  | 0, h, _ => h
  | n + 1, h, hi => by have h1 := last_of n h (fun i hi2 => hi i (by omega)); have h2 := hi n (by omega); rw [lastN]; split <;> omega
theorem rand_step {u : Int → Bool} {n : Nat} {L : List Str} {p : Int} (h : RandL u n L) (hn : n ≤ 100) (hp : u p = false) (p0 : 0 ≤ p) (p1 : p ≤ 12) :
    errF (ofL L) L.length (20 * p) (20 * p + 1) = 0 ∧ RandL (fun c => u c || decide (c = p)) (n + 1) (fdL (ofL L) L.length (20 * p) (20 * p + 1)) ∧
    ∃ j : Nat, fdI (ofL L) L.length (20 * p) (20 * p + 1) = j ∧ j < (fdL (ofL L) L.length (20 * p) (20 * p + 1)).length ∧
      (fdL (ofL L) L.length (20 * p) (20 * p + 1)).getD j zS = rdS p (lastN (ofL L) L.length + 1) := by
  obtain ⟨hS, hl, hall⟩ := h
  have hA : accB (20 * p) (20 * p + 1) = true := decide_eq_true ⟨by omega, by omega, by omega⟩
  have he : errF (ofL L) L.length (20 * p) (20 * p + 1) = 0 := by
    unfold errF
    rw [show chkB (ofL L) L.length = true from hS, hA]
    simp; omega
  have hb : bestO (ofL L) (20 * p) (20 * p + 1) L.length = none := best_none _ fun i hi => by
    obtain ⟨c, t, -, -, hu, e⟩ := hall i hi
    show mtcB (L.getD i zS) _ _ = false
    rw [e]
    exact rand_no (fun e => by rw [e, hp] at hu; exact absurd hu (by simp))
  have hN : newS (ofL L) L.length (20 * p) (20 * p + 1) = rdS p (lastN (ofL L) L.length + 1) := by unfold newS preS; rw [hb]; rfl
  have hs := fd_sound (x := 20 * p) (y := 20 * p + 1) hS
  have eL : lsF (ofL L) L.length = L := lsF_of L
  have hle := hS.le
  by_cases h4 : L.length = 4
  · have hsl : slotO (ofL L) L.length (20 * p) (20 * p + 1) = some (minIx (ofL L) 3) := by unfold slotO; rw [hb]; simp [h4]
    have hm := minIx_le (ofL L) 3
    have hL : fdL (ofL L) L.length (20 * p) (20 * p + 1) = L.set (minIx (ofL L) 3) (rdS p (lastN (ofL L) L.length + 1)) := by rw [fdL, if_pos he, hsl, hN, eL]
    have hI : fdI (ofL L) L.length (20 * p) (20 * p + 1) = minIx (ofL L) 3 := by rw [fdI, if_pos he, hsl]
    generalize minIx (ofL L) 3 = j at *
    generalize hz : rdS p (lastN (ofL L) L.length + 1) = z at *
    refine ⟨he, ⟨hs, ?_, fun i hi => ?_⟩, j, hI, by rw [hL, List.length_set]; omega, by rw [hL, getD_set z (by omega), if_pos rfl]⟩
    · rw [hL, List.length_set]
      refine last_of _ (by omega) fun i hi => ?_
      show (List.getD _ i zS).t ≤ _
      rw [getD_set z hi]
      split
      · rw [← hz]; show lastN (ofL L) L.length + 1 ≤ _; omega
      · have : (L.getD i zS).t ≤ lastN (ofL L) L.length := le_last (f := ofL L) hi
        omega
    · rw [hL, List.length_set] at hi
      rw [hL, getD_set z hi]
      split
      · exact ⟨p, _, p0, p1, by simp, hz.symm⟩
      · obtain ⟨c, t, c0, c1, hu, e⟩ := hall i hi
        exact ⟨c, t, c0, c1, by simp [hu], e⟩
  · have hsl : slotO (ofL L) L.length (20 * p) (20 * p + 1) = none := by unfold slotO; rw [hb]; simp [h4]
    have hL : fdL (ofL L) L.length (20 * p) (20 * p + 1) = L ++ [rdS p (lastN (ofL L) L.length + 1)] := by rw [fdL, if_pos he, hsl, hN, eL]
    have hI : fdI (ofL L) L.length (20 * p) (20 * p + 1) = L.length := by rw [fdI, if_pos he, hsl]
    generalize hz : rdS p (lastN (ofL L) L.length + 1) = z at *
    refine ⟨he, ⟨hs, ?_, fun i hi => ?_⟩, L.length, hI, by rw [hL]; simp, by rw [hL, getD_snoc z (by omega), if_pos rfl]⟩
    · rw [hL, List.length_append, List.length_singleton]
      refine last_of _ (by omega) fun i hi => ?_
      show (List.getD _ i zS).t ≤ _
      rw [getD_snoc z hi]
      split
      · rw [← hz]; show lastN (ofL L) L.length + 1 ≤ _; omega
      · have : (L.getD i zS).t ≤ lastN (ofL L) L.length := le_last (f := ofL L) (by omega)
        omega
    · rw [hL, List.length_append, List.length_singleton] at hi
      rw [hL, getD_snoc z hi]
      split
      · exact ⟨p, _, p0, p1, by simp, hz.symm⟩
      · obtain ⟨c, t, c0, c1, hu, e⟩ := hall i (by omega)
        exact ⟨c, t, c0, c1, by simp [hu], e⟩
theorem sound_nil0 : Sound [] := by unfold Sound; kernel_rfl
theorem rand_sure (p t : Int) : sureB (rdS p t) = false := by simp [sureB, rdS]
theorem rand_pred (p t n : Int) : prF (rdS p t) n = [] := by rw [prF, if_neg]; rintro ⟨-, h⟩; exact h rfl
theorem rand_mild (p t : Int) : Mild (rdS p t) := by unfold Mild rdS; simp
theorem rand_mildE (q t : Int) : Mild ⟨1, 20 * q, 20 * q + 1, 0, 0, t⟩ := rand_mild q t
theorem rand_sureE (q t : Int) : sureB ⟨1, 20 * q, 20 * q + 1, 0, 0, t⟩ = false := rand_sure q t
theorem rand_predE (q t n : Int) : prF ⟨1, 20 * q, 20 * q + 1, 0, 0, t⟩ n = [] := rand_pred q t n
theorem RandL.sound {u : Int → Bool} {n : Nat} {L : List Str} (h : RandL u n L) : Sound L := h.1
theorem sure_v {v : Bool} (x : Str) (w : World) (hm : Mild x) (h : sureB x = v) : Calls Try.prog 20 #[strV x] w (RetG (.bool v) w) := h ▸ sure_any x w hm
theorem predict_v {L : List Int} (x : Str) (n : Int) (w : World) (hm : Mild x) (h : prF x n = L) : Calls Try.prog 23 #[strV x, .int .i64 n] w (RetI1 L w) := h ▸ predict_any x n w hm
theorem zeroE (w : World) : (zeroValue 4).run Try.prog w = .ok (.bool false) w := by kernel_rfl
abbrev Seen (w : World) (B m : Nat) (u : Int → Bool) (sz : Nat) : Prop := BSet Try.prog 3 4 w B m u sz
set_option maxRecDepth 100000 in
set_option maxHeartbeats 4000000 in
theorem random_core (A : Option Addr) (c : Nat) (xs : List Int) (w : World) (hr : IntRow w A xs) (hm : xs.length ≤ maxLen) :
    Calls Try.prog 7 #[.slice A xs.length c] w (RetG (.bool true) w) := by
  have hmm := @run_makeMap Try.prog
  have tp := (Tp.made hr hm c 25).alloc (.map #[] 0)
  have HR := Lib.hid hr
  clear hr
  generalize hX : xs.length = X at *
  clear hX
  have M0 : Seen ((w.alloc (.cells #[.slice A X c, .int .i64 0] 25)).alloc (.map #[] 0)) (w.heap.size + 1) 0 (fun _ => false) 0 := by
    have h := BSet.made (w.alloc (.cells #[.slice A X c, .int .i64 0] 25)) Try.prog 3 4
    rwa [World.size_alloc] at h
  have gA : Grew w ((w.alloc (.cells #[.slice A X c, .int .i64 0] 25)).alloc (.map #[] 0)) := ((Grew.refl w).alloc _).alloc _
  go_enter Try.func7, Try.ntmps7
  go_wp2
  generalize World.alloc (World.alloc w _) _ = w0 at *
  clear hmm
  go_loopw [4, 6] (fun v i wr => ∃ (n : Nat) (L : List Str) (r : Value) (u : Int → Bool) (sz : Nat), r = v ∧ i = .int .i64 n ∧ n ≤ 12 ∧ RandL u n L ∧ RowN 36 wr (w.heap.size + 2) r L ∧ Seen wr (w.heap.size + 1) n u sz ∧ Tp (w.heap.size + 1) wr w.heap.size ∧ Grew w wr) (fun _ i _ => 12 - (intOf i).toNat)
  case atStart => exact ⟨0, [], _, _, 0, rfl, rfl, by omega, ⟨sound_nil0, Int.le_refl _, fun i hi => absurd hi (Nat.not_lt_zero i)⟩, ⟨RowE.nil _ _, fun _ => rfl⟩, M0, tp, gA⟩
  case round =>
    clear M0 tp gA w0
    obtain ⟨n, L, r, u, sz, rfl, rfl, hn, hRL, R, M, T, G⟩ := hrel
    obtain ⟨wo, rfl⟩ : ∃ wo : World, wo = wr := ⟨_, rfl⟩
    have HL := Lib.hid hRL
    clear hRL
    have HR1 := Lib.hid R
    have HM1 := Lib.hid M
    clear R M
    by_cases hlt : n < 12
    · go_wp2_with fail
      with_reducible refine (next_x _ _ _ _ (by omega) (by omega) T).mono ?_
      rintro e w2 ⟨q, q0, q1, rfl, T2, g2⟩
      have R2 := Lib.hid (HR1.out.past g2 (by omega))
      have M2 := HM1.out.kept g2 (fun e => by have := Option.some.inj e; omega)
      have G2 := G.past g2 (Nat.le_refl _)
      clear T G g2
      have hw : (Lit.int .i64 q).wf = true := WalkArith.wf_i64 (by omega)
      have lk := BSet.look (T := 48) M2 Try.underlying3 Try.underlying4 Try.underlying48 (zeroE w2) hw
      cases hu : u q
      · rw [hu] at lk
        obtain ⟨w3, st, M3, g3⟩ := BSet.store (T := 48) M2 Try.underlying3 Try.underlying4 Try.underlying48 (by unfold maxLen; omega) hw
        rw [hu] at M3
        have R3 := Lib.hid (R2.out.past g3 (by omega))
        have T3 := Tp.keptA T2 g3 (B := w.heap.size + 1) (fun x e => by have := Option.some.inj e; omega) (Nat.le_refl _)
        have G3 := Grew.keptA G2 g3 (B := w.heap.size + 1) (fun x e => by have := Option.some.inj e; omega) (by omega)
        obtain ⟨he, hRL, j, hj, hjl, hgj⟩ := rand_step HL.out (by omega) hu q0 (by omega)
        have HRL := Lib.hid hRL
        have HE := Lib.hid he
        have HJ := Lib.hid hj
        have HG := Lib.hid hgj
        have hl1 := HL.out.sound.le
        have hl2 := hRL.sound.le
        clear hRL he hj hgj hu M2 T2 G2
        have HM3 := Lib.hid M3
        clear M3
        go_wp2_with fail
        with_reducible refine (feed_L _ _ _ _ R3.out (by omega) HL.out.sound.milds rfl HJ.out HE.out).mono ?_
        rintro e w4 ⟨v4, rfl, R4, g4⟩
        have hz3 := G3.size
        obtain ⟨L', hL'⟩ : ∃ L', fdL (ofL L) L.length (20 * q) (20 * q + 1) = L' := ⟨_, rfl⟩
        rw [hL'] at R4 hjl hl2 HG HRL
        clear hL'
        have hz4 : w.heap.size + 2 ≤ w3.heap.size := HM3.out.lt
        have R4w := Lib.hid (R4.wider hz4)
        have G4 := G3.trans g4
        have T4 := T3.grew g4
        have M4 := Lib.hid (HM3.out.grew g4)
        obtain ⟨t, ht⟩ : ∃ t, lastN (ofL L) L.length + 1 = t := ⟨_, rfl⟩
        rw [ht] at HG
        obtain ⟨a4, c4, rfl, -⟩ := R4.rd
        obtain ⟨g, rfl, -, hg, he⟩ := rowN_at R4 hjl
        rw [HG.out] at he
        have E4 : ElS w4 g j ⟨1, 20 * q, 20 * q + 1, 0, 0, t⟩ := he
        have HE4 := Lib.hid E4
        have j0 : (0 : Int) ≤ (j : Int) := by omega
        have j1 : (j : Int) < (L'.length : Int) := by omega
        have j4 : (L'.length : Int) ≤ 4 := by omega
        clear ht he R4 T3 G3 g4 HM3 R3 hl2 hjl HG HJ HE st lk
        obtain ⟨p0, p1, p2, p3, p4, p5⟩ := E4
        go_wp2_with fail
        with_reducible refine (sure_v ⟨1, 20 * q, 20 * q + 1, 0, 0, t⟩ _ (rand_mildE q t) (rand_sureE q t)).mono ?_
        rintro e w5 ⟨rfl, g5⟩
        have E5 := HE4.out.grew g5 hg
        have hg5 : g < w5.heap.size := Nat.lt_of_lt_of_le hg g5.size
        have R5 := Lib.hid (R4w.out.grew g5)
        have G5 := G4.trans g5
        have T5 := T4.grew g5
        have M5 := Lib.hid (M4.out.grew g5)
        clear p0 p1 p2 p3 p4 p5 G4 T4 M4 R4w g5
        obtain ⟨p0, p1, p2, p3, p4, p5⟩ := E5
        go_wp2_with fail
        with_reducible refine (predict_v ⟨1, 20 * q, 20 * q + 1, 0, 0, t⟩ 3 _ (rand_mildE q t) (rand_predE q t 3)).mono ?_
        rintro e w6 ⟨vp, rfl, RP, g6⟩
        obtain ⟨ap, cp, rfl⟩ := RP.len
        rw [show ([] : List Int).length = 0 from rfl]
        have R6 := Lib.hid (R5.out.grew g6)
        have G6 := G5.trans g6
        have T6 := T5.grew g6
        have M6 := Lib.hid (M5.out.grew g6)
        clear p0 p1 p2 p3 p4 p5 G5 T5 M5 R5 g6 RP
        go_wp2
        exact ⟨⟨n + 1, L', _, _, _, rfl, by go_num, by omega, HRL.out, R6.out, M6.out, T6, G6⟩, by simp [intOf]; omega⟩
      · rw [hu] at lk
        clear hu
        go_wp2
        obtain ⟨y1, y2, y3⟩ := HL.out
        exact ⟨⟨n + 1, L, _, u, sz, rfl, by go_num, by omega, ⟨y1, by omega, y3⟩, R2.out, M2.mono (by omega), T2, G2⟩, by simp [intOf]; omega⟩
    · have hN : n = 12 := by omega
      subst hN
      rw [show ((12 : Nat) : Int) = 12 from rfl]
      go_wp2_with fail
      with_reducible refine (awake_any _).mono ?_
      rintro e w2 ⟨rfl, g2⟩
      go_wp2
      go_ret
      exact ⟨rfl, G.trans g2⟩

theorem Try.own : ownKnob Try.prog.godebug = none := by kernel_rfl
theorem Try.laidOut : laidOutB Try.prog = true := by kernel_rfl

theorem streamRandom_contract (W : World) (base : Nat) (args : Array Value) (H : Type) (enc : TypeId × Value → H) (ds : List (DataW H)) (p : List MemPlace)
    (hval : ∀ (j : Nat) t v, Try.f7.params[j]? = some t → args[j]? = some v → Value.okWide Try.prog W .any base t v)
    (hA : DataW.TrodAll enc Try.prog W 0 (fun _ => true) true Try.f7.params.toList args.toList ds p) :
    (∃ d0, ds = [d0]) ∧ Calls Try.prog 7 args W fun e W' => e = .returned (.bool true) ∧ Below W.heap.size W W' := by
  rw [Try.params7] at hval hA
  obtain ⟨v0, d0, p0, ha, hd, hp, h0⟩ := args_1 hA
  subst ha hd
  obtain ⟨A0, c0, xs0, rfl, hr0, hm0⟩ := open_introw Try.underlying22 Try.underlying3 (by kernel_rfl) (hval 0 _ _ rfl rfl) h0
  exact ⟨⟨_, rfl⟩, (random_core A0 c0 xs0 W hr0 hm0).mono fun _ _ h => h⟩

set_option maxRecDepth 100000 in
theorem streamRandom_lifted (os : Os) (started : os.Started) (H : Type) (enc : TypeId × Value → H) :
    ReturnsInHanded {} Try.checked os 7 .any (Rows.streamRandomSpec.pre6 enc Try.prog Try.f7 Rows.streamRandomRow.domain false) (Rows.streamRandomSpec.post enc Try.prog Try.f7 false true false false) := by
  refine returnsInHanded_of_change (C := Try.checked) Try.own started (by kernel_rfl) Try.func7
    (ChangeSpec.witness6 (enc := enc) (C := Try.checked) false ⟨#[], #[.slice none 0 0], []⟩ 8 (by kernel_rfl) (by kernel_rfl) (by kernel_rfl) (by kernel_rfl)) ?_
  intro W base args ds gs before hval hW _ _
  obtain ⟨p, q, hA, hV, hrest⟩ := id hW
  obtain ⟨⟨d0, rfl⟩, hc⟩ := streamRandom_contract W base args H enc ds p hval hA
  obtain ⟨rfl, -⟩ := trodVars_none hV
  refine hc.mono fun e W' ⟨he, hb⟩ => ⟨_, he, ?_⟩
  exact law_close (tb := 4) Try.laidOut (by rw [Try.params7]; decide +kernel) Try.underlying4 rfl rfl hW rfl rfl rfl hb

theorem streamRandom_holds : Rows.StreamRandomSaid :=
  OpenClaim.holds_of_wide 7 Try.f7 rfl rfl rfl rfl rfl rfl rfl ⟨rfl, rfl, rfl, rfl, rfl⟩ rfl rfl rfl rfl rfl (by kernel_rfl) Try.func7 (by kernel_rfl)
    (of_decide_eq_true (by kernel_rfl)) (by unfold Func.isWrapper; first | (rw [if_pos (by decide +kernel)]; kernel_rfl) | (rw [if_neg (by decide +kernel)]; exact ⟨rfl, rfl⟩))
    (fun os started H enc _ => streamRandom_lifted os started H enc)
end Go.Proofs.Ythdcmknenjallaa

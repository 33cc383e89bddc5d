/- ZoneNew holds: New makes the zones of the document, or its error. -/
import Derived.Test.YtphccdfdknihdaaZl0
namespace Go.Proofs.Ytphccdfdknihdaa
open Go.ChangeShapes Go.WideShapes Go.ChangeAt Go.RowKit Go.Mine

set_option maxRecDepth 100000 in
set_option maxHeartbeats 8000000 in
theorem znew_core (A : Option Addr) (c : Nat) (xs : List Int) (w : World) (hr : IntRow w A xs) (hm : xs.length ≤ maxLen) :
    Calls Try.prog 4 #[.slice A xs.length c] w (RetG (.bool true) w) := by
  have tp := Tp.made hr hm c 25
  have gA := (Grew.refl w).alloc (.cells #[.slice A xs.length c, .int .i64 0] 25)
  clear hr hm
  generalize hX : xs.length = X at *
  clear hX
  go_enter Try.func4, Try.ntmps4
  go_wp2_with fail
  with_reducible refine (next_x _ _ _ _ (by omega) (by omega) tp).mono ?_
  rintro e w1 ⟨q, q0, q1, rfl, tp1, g1⟩
  have gA1 := gA.past g1 (Nat.le_refl _)
  obtain ⟨n0, rfl⟩ := Int.eq_ofNat_of_zero_le q0
  have HTP := Lib.hid tp1
  have HGA := Lib.hid gA1
  clear tp gA tp1 gA1 g1
  go_wp2_with fail
  go_loopw [4, 5] (fun sv nv wr => ∃ (n : Nat) (S : List Int) (r : Value), r = sv ∧ nv = .int .i64 n ∧ n + S.length ≤ 5 ∧ RowE 3 1 enc1 wr (w.heap.size + 1) r S ∧ Tp (w.heap.size + 1) wr w.heap.size ∧ Grew w wr) (fun _ nv _ => (intOf nv).toNat)
  case atStart => exact ⟨n0, [], _, rfl, rfl, by simp; omega, RowE.nil _ _, HTP.out, HGA.out⟩
  case round =>
    obtain ⟨n, S, r, rfl, rfl, hn, R, tp, gA⟩ := hrel
    obtain ⟨wo, rfl⟩ : ∃ wo : World, wo = wr := ⟨_, rfl⟩
    have hlt := tp.lt
    have HR := Lib.hid R
    have HTP := Lib.hid tp
    have HGA := Lib.hid gA
    clear R tp gA
    by_cases hp : 0 < n
    · have hp2 : (0 : Int) < (n : Int) := by omega
      go_wp2_with fail
      with_reducible refine (next_x _ _ _ _ (by omega) (by omega) (HTP.out.alloc _)).mono ?_
      rintro e w2 ⟨p, p0, p1, rfl, tp2, g2⟩
      obtain ⟨p, rfl⟩ := Int.eq_ofNat_of_zero_le p0
      have O := (Own.new wo _ _).past g2 (by omega)
      obtain ⟨z, hc, -⟩ := int_at O (by decide +kernel) p (by simp; omega)
      have HR2 := Lib.hid ((HR.out.alloc _).past g2 (Nat.lt_succ_self _))
      have HTP2 := Lib.hid tp2
      have HGA2 := Lib.hid ((HGA.out.alloc _).past g2 (Nat.le_refl _))
      have hw2 := HGA2.out.size
      clear O tp2 g2
      have hx6 : S.length < 1000000 := by omega
      have hp3 : (p : Int) < 10 := p1
      have hp4 : (0 : Int) ≤ (p : Int) := p0
      have hz6 : ∀ o, w.heap.size + 1 ≤ (w2.alloc o).heap.size := fun o => by simp; omega
      go_wp2_with (at_builtin; go_loud (
        refine wpList_append_row _ rfl _ _ 22 rfl (w.heap.size + 1) info_int Try.underlying22 (by decide) (by decide) enc1_len _ S rfl (HR2.out.alloc _) _ _ z rfl (Own.new _ _ _) enc1_one hx6 (by decide) (hz6 _) ?_
        intro g3 cap w3 R3 G3 o3))
      have HT3 := Lib.hid (Tp.keptA (B := w.heap.size + 1) (HTP2.out.alloc _) G3 (fun x e => HR2.out.above x e) (Nat.le_refl _))
      have HG3 := Lib.hid (Grew.keptA (B := w.heap.size + 1) (HGA2.out.alloc _) G3 (fun x e => HR2.out.above x e) (Nat.le_succ _))
      have HR3 := Lib.hid R3
      clear R3 G3 o3
      go_roundw
      case rel => exact ⟨n - 1, S ++ [z], _, rfl, by go_num, by simp; omega, HR3.out, HT3.out, HG3.out⟩
      case measure => simp [intOf]; omega
    · obtain rfl : n = 0 := by omega
      obtain ⟨a1, c1, rfl, hri, -⟩ := HR.out.rdI
      have HRI := Lib.hid hri
      have hS : S.length ≤ 1000 := by omega
      have HSM := Lib.hid (newX_small S)
      clear hri
      rw [show ((0 : Nat) : Int) = 0 from rfl]
      go_wp2_with fail
      with_reducible refine (new_v HRI.out hS).mono ?_
      rintro e w2 ⟨v2, rfl, Z2, G2⟩
      have HRI2 := Lib.hid (HRI.out.keep (q := fun _ => True) G2.size (fun _ _ _ => trivial) fun g _ hg => Below.block G2 g hg)
      have HZ2 := Lib.hid Z2
      have HG2 := Lib.hid (HGA.out.trans G2)
      clear Z2 G2
      go_wp2_with fail
      with_reducible refine (new_w HRI2.out hS).mono ?_
      rintro e w3 ⟨v3, rfl, Z3, G3⟩
      have HZ2' := Lib.hid (HZ2.out.grew G3)
      have HZ3 := Lib.hid Z3
      have HG3 := Lib.hid (HG2.out.trans G3)
      clear Z3 G3
      generalize newX S = Y at *
      obtain ⟨L, er⟩ := Y
      go_wp2_with fail
      with_reducible refine (same_q HZ2'.out HZ3.out HSM.out).mono ?_
      rintro e w4 ⟨rfl, g4⟩
      have HG4 := Lib.hid (HG3.out.trans g4)
      clear g4
      go_wp2_with fail
      with_reducible refine (awake_any _).mono ?_
      rintro e w5 ⟨rfl, g5⟩
      have HG5 := Lib.hid (HG4.out.trans g5)
      clear g5
      go_wp2
      go_ret
      exact ⟨by simp, HG5.out⟩

theorem Try.own : ownKnob Try.prog.godebug = none := by kernel_rfl
theorem Try.laidOut : laidOutB Try.prog = true := by kernel_rfl

theorem zoneNew_contract (W : World) (base : Nat) (args : Array Value) (H : Type) (enc : TypeId × Value → H) (ds : List (DataW H)) (p : List MemPlace)
    (hval : ∀ (j : Nat) t v, Try.f4.params[j]? = some t → args[j]? = some v → Value.okWide Try.prog W .any base t v)
    (hA : DataW.TrodAll enc Try.prog W 0 (fun _ => true) true Try.f4.params.toList args.toList ds p) :
    (∃ d0, ds = [d0]) ∧ Calls Try.prog 4 args W fun e W' => e = .returned (.bool true) ∧ Below W.heap.size W W' := by
  rw [Try.params4] at hval hA
  obtain ⟨v0, d0, p0, ha, hd, hp, h0⟩ := args_1 hA
  subst ha hd
  obtain ⟨A0, c0, xs0, rfl, hr0, hm0⟩ := open_introw Try.underlying22 Try.underlying3 (by kernel_rfl) (hval 0 _ _ rfl rfl) h0
  exact ⟨⟨_, rfl⟩, (znew_core A0 c0 xs0 W hr0 hm0).mono fun _ _ h => h⟩

set_option maxRecDepth 100000 in
theorem zoneNew_lifted (os : Os) (started : os.Started) (H : Type) (enc : TypeId × Value → H) :
    ReturnsInHanded {} Try.checked os 4 .any (Rows.zoneNewSpec.pre6 enc Try.prog Try.f4 Rows.zoneNewRow.domain false) (Rows.zoneNewSpec.post enc Try.prog Try.f4 false true false false) := by
  refine returnsInHanded_of_change (C := Try.checked) Try.own started (by kernel_rfl) Try.func4
    (ChangeSpec.witness6 (enc := enc) (C := Try.checked) false ⟨#[], #[.slice none 0 0], []⟩ 8 (by kernel_rfl) (by kernel_rfl) (by kernel_rfl) (by kernel_rfl)) ?_
  intro W base args ds gs before hval hW _ _
  obtain ⟨p, q, hA, hV, hrest⟩ := id hW
  obtain ⟨⟨d0, rfl⟩, hc⟩ := zoneNew_contract W base args H enc ds p hval hA
  obtain ⟨rfl, -⟩ := trodVars_none hV
  refine hc.mono fun e W' ⟨he, hb⟩ => ⟨_, he, ?_⟩
  exact law_close (tb := 4) Try.laidOut (by rw [Try.params4]; decide +kernel) Try.underlying4 rfl rfl hW rfl rfl rfl hb

theorem zoneNew_holds : Rows.ZoneNewSaid :=
  OpenClaim.holds_of_wide 4 Try.f4 rfl rfl rfl rfl rfl rfl rfl ⟨rfl, rfl, rfl, rfl, rfl⟩ rfl rfl rfl rfl rfl (by kernel_rfl) Try.func4 (by kernel_rfl)
    (of_decide_eq_true (by kernel_rfl)) (by unfold Func.isWrapper; first | (rw [if_pos (by decide +kernel)]; kernel_rfl) | (rw [if_neg (by decide +kernel)]; exact ⟨rfl, rfl⟩))
    (fun os started H enc _ => zoneNew_lifted os started H enc)
end Go.Proofs.Ytphccdfdknihdaa

/- LayoutApart holds: all inode sectors and pages of all slots have different sectors, of which Owner tells whose they are, and they are all sectors of the slots. -/
import Derived.Test.YtfoeemibhkkbgaaMapSet
import Derived.Test.YtfoeemibhkkbgaaAwake4
import Derived.Test.YtfoeemibhkkbgaaTape
namespace Go.Proofs.Ytfoeemibhkkbgaa
open Go.ChangeShapes Go.WideShapes Go.ChangeAt Go.RowKit Go.Mine

def upto (m : Nat) (x : Int) : Bool := decide (0 ≤ x ∧ x < m)
abbrev Seen (w : World) (B m : Nat) : Prop := BSet Try.prog 3 4 w B m (upto m) m
theorem zeroE (w : World) : (zeroValue 4).run Try.prog w = .ok (.bool false) w := by kernel_rfl
theorem Seen.look {w : World} {B m : Nat} (h : Seen w B m) {x : Int} (hx : (Lit.int .i64 x).wf = true) : (Instr.lookup 41 (.map (some B)) (.int .i64 x) false).run Try.prog w = .ok (.bool (upto m x)) w :=
  BSet.look h Try.underlying3 Try.underlying4 Try.underlying41 (zeroE w) hx
theorem Seen.next {w : World} {B m : Nat} (h : Seen w B m) (hm : m ≤ 1000) : ∃ w', (Instr.mapUpdate 41 (.map (some B)) (.int .i64 (m : Int)) (.bool true)).run Try.prog w = .ok () w' ∧ Seen w' B (m + 1) ∧ w.grownBy w' (some B) := by
  obtain ⟨w', h1, h2, h3⟩ := BSet.store h Try.underlying3 Try.underlying4 Try.underlying41 (by unfold maxLen; omega) (x := (m : Int)) (WalkArith.wf_i64 (by omega))
  refine ⟨w', h1, h2.congr (fun x _ => ?_) ?_, h3⟩
  · unfold upto
    rw [Bool.eq_iff_iff]
    simp
    omega
  · rw [if_neg (by simp [upto])]
theorem own_ino_at {s k : Nat} (hs : s < 7) (hk : k < 2) : ownS ((18 * s + k : Nat) : Int) = s ∧ ownP ((18 * s + k : Nat) : Int) = -1 - (k : Int) := by
  constructor
  · rw [ownS, if_pos (by omega)]; omega
  · rw [ownP, if_pos (by omega), if_pos (by omega)]; omega
theorem own_pag_at {s p k : Nat} (hs : s < 7) (hp : p < 8) (hk : k < 2) : ownS ((18 * s + 2 + 2 * p + k : Nat) : Int) = s ∧ ownP ((18 * s + 2 + 2 * p + k : Nat) : Int) = p := by
  constructor
  · rw [ownS, if_pos (by omega)]; omega
  · rw [ownP, if_pos (by omega), if_neg (by omega)]; omega
theorem ino_at' {s k : Nat} (hs : s < 7) (hk : k < 2) : inoF s k = ((18 * s + k : Nat) : Int) := by rw [inoF, if_pos (by omega)]; omega
theorem pag_at' {s p : Nat} (hs : s < 7) (hp : p < 8) : pagF s p = ((18 * s + 2 + 2 * p : Nat) : Int) := by rw [pagF, if_pos (by omega)]; omega

set_option maxRecDepth 100000 in
set_option maxHeartbeats 8000000 in
theorem apart_core (by' : Int) (w : World) (hby : (Lit.int .i64 by').wf = true) : Calls Try.prog 5 #[.int .i64 by'] w (RetG (.bool true) w) := by
  have hmm := @run_makeMap Try.prog
  have e7 : slotsF 128 = 7 := by decide +kernel
  have B0 : Seen (w.alloc (.map #[] 0)) w.heap.size 0 := (BSet.made w Try.prog 3 4).congr (fun x _ => by unfold upto; symm; rw [decide_eq_false_iff_not]; omega) rfl
  have HB0 := Lib.hid B0
  clear B0 hby
  go_enter Try.func5, Try.ntmps5
  go_wp2_with (go_at_call 11; (with_reducible refine (slots_any _ _).mono ?_); rintro e w1 ⟨rfl, rfl⟩)
  clear hmm
  go_loopw [5] (fun i wr => ∃ s : Nat, i = .int .i64 s ∧ s ≤ 7 ∧ Seen wr w.heap.size (18 * s) ∧ Grew w wr) (fun i _ => 7 - (intOf i).toNat)
  case atStart => exact ⟨0, rfl, by omega, HB0.out, (Grew.refl _).alloc _⟩
  case round =>
    obtain ⟨s, rfl, hs, M, G⟩ := hrel
    obtain ⟨wo, rfl⟩ : ∃ wo : World, wo = wr := ⟨_, rfl⟩
    by_cases hlt : s < 7
    · have d7 : decide ((s : Int) < 7) = true := decide_eq_true (by omega)
      have HM := Lib.hid M
      have HG := Lib.hid G
      clear M G
      go_wp2
      go_loopw [6] (fun i wr => ∃ k : Nat, i = .int .i64 k ∧ k ≤ 2 ∧ Seen wr w.heap.size (18 * s + k) ∧ Grew w wr) (fun i _ => 2 - (intOf i).toNat)
      case atStart => exact ⟨0, rfl, by omega, HM.out, HG.out⟩
      case round =>
        clear HM HG
        obtain ⟨k, rfl, hk, M, G⟩ := hrel
        obtain ⟨w1, rfl⟩ : ∃ w1 : World, w1 = wr := ⟨_, rfl⟩
        by_cases hlk : k < 2
        · have hx := ino_at' hlt hlk
          obtain ⟨o1, o2⟩ := own_ino_at hlt hlk
          have hl := M.look (x := ((18 * s + k : Nat) : Int)) (WalkArith.wf_i64 (by omega))
          rw [show upto (18 * s + k) ((18 * s + k : Nat) : Int) = false from by simp [upto]] at hl
          obtain ⟨w2, hst, M2, g2⟩ := M.next (by omega)
          obtain ⟨m, hm⟩ : ∃ m, 18 * s + k = m := ⟨_, rfl⟩
          have hm3 : 18 * s + (k + 1) = m + 1 := by omega
          rw [hm] at hx o1 o2 hl hst M2
          have HM2 := Lib.hid M2
          have HGG := Lib.hid (G.past g2 (Nat.le_refl _))
          have HM3 := Lib.hid hm3
          clear M G g2 M2 hm hm3
          go_wp2_with (first | (go_at_call 13; (with_reducible refine (inode_any _ _ _).mono ?_); rintro e w1 ⟨rfl, rfl⟩) | (go_at_call 9; (with_reducible refine (owner_any _ _).mono ?_); rintro e w1 ⟨rfl, rfl⟩))
          go_roundw
          case rel => exact ⟨k + 1, by go_num, by omega, by rw [HM3.out]; exact HM2.out, HGG.out⟩
          case measure => simp [intOf]; omega
        · have hk2 : k = 2 := by omega
          subst hk2
          rw [show ((2 : Nat) : Int) = 2 from rfl]
          have HM := Lib.hid M
          have HG := Lib.hid G
          clear M G
          go_wp2
          go_loopw [10] (fun i wr => ∃ p : Nat, i = .int .i64 p ∧ p ≤ 8 ∧ Seen wr w.heap.size (18 * s + 2 + 2 * p) ∧ Grew w wr) (fun i _ => 8 - (intOf i).toNat)
          case atStart => exact ⟨0, rfl, by omega, HM.out, HG.out⟩
          case round =>
            clear HM HG
            obtain ⟨p, rfl, hp, M, G⟩ := hrel
            obtain ⟨w2, rfl⟩ : ∃ w2 : World, w2 = wr := ⟨_, rfl⟩
            by_cases hlp : p < 8
            · have d8 : decide ((p : Int) < 8) = true := decide_eq_true (by omega)
              have hx := pag_at' hlt hlp
              have HO := Lib.hid (fun k hk => own_pag_at (k := k) hlt hlp hk)
              obtain ⟨a, ha⟩ : ∃ a, 18 * s + 2 + 2 * p = a := ⟨_, rfl⟩
              have ha3 := Lib.hid (show 18 * s + 2 + 2 * (p + 1) = a + 2 from by omega)
              have ha4 : a ≤ 200 := by omega
              rw [ha] at hx HO M
              have HM := Lib.hid M
              have HG := Lib.hid G
              clear M G ha
              go_wp2_with (go_at_call 15; (with_reducible refine (page_any _ _ _).mono ?_); rintro e w1 ⟨rfl, rfl⟩)
              go_loopw [12] (fun i wr => ∃ k : Nat, i = .int .i64 k ∧ k ≤ 2 ∧ Seen wr w.heap.size (a + k) ∧ Grew w wr) (fun i _ => 2 - (intOf i).toNat)
              case atStart => exact ⟨0, rfl, by omega, HM.out, HG.out⟩
              case round =>
                clear HM HG hx
                obtain ⟨k, rfl, hk, M, G⟩ := hrel
                obtain ⟨w3, rfl⟩ : ∃ w3 : World, w3 = wr := ⟨_, rfl⟩
                by_cases hlk : k < 2
                · have e : ((a + k : Nat) : Int) = (a : Int) + (k : Int) := by omega
                  obtain ⟨o1, o2⟩ := HO.out k hlk
                  have hl := M.look (x := ((a + k : Nat) : Int)) (WalkArith.wf_i64 (by omega))
                  rw [show upto (a + k) ((a + k : Nat) : Int) = false from by simp [upto]] at hl
                  obtain ⟨w4, hst, M2, g2⟩ := M.next (by omega)
                  rw [e] at o1 o2 hl hst
                  have HM2 := Lib.hid M2
                  have HGG := Lib.hid (G.past g2 (Nat.le_refl _))
                  clear M G g2 M2 e
                  go_wp2_with (go_at_call 9; (with_reducible refine (owner_any _ _).mono ?_); rintro e w1 ⟨rfl, rfl⟩)
                  go_roundw
                  case rel => exact ⟨k + 1, by go_num, by omega, by rw [← Nat.add_assoc]; exact HM2.out, HGG.out⟩
                  case measure => simp [intOf]; omega
                · have hk2 : k = 2 := by omega
                  subst hk2
                  go_wp2
                  go_roundw
                  case rel => exact ⟨p + 1, by go_num, by omega, by rw [ha3.out]; exact M, G⟩
                  case measure => simp [intOf]; omega
            · have hp8 : p = 8 := by omega
              subst hp8
              go_wp2
              go_roundw
              case rel => exact ⟨s + 1, by go_num, by omega, by rw [show 18 * (s + 1) = 18 * s + 2 + 2 * 8 from by omega]; exact M, G⟩
              case measure => simp [intOf]; omega
    · have hs7 : s = 7 := by omega
      subst hs7
      have hc := cut_lt by' 132 (by omega)
      obtain ⟨x, hx⟩ : ∃ x, cut by' 132 = x := ⟨_, rfl⟩
      have hx0 : 0 ≤ x := by omega
      have hx1 : x < 132 := by omega
      have hlen : ∀ ty, (Builtin.len_ #[41] ty #[.map (some w.heap.size)]).run Try.prog wo = .ok (.int .i64 126) wo := fun ty => BSet.len M Try.underlying41 ty
      have hl := M.look (x := x - 2) (WalkArith.wf_i64 (by omega))
      clear hc
      by_cases hin : 0 ≤ x - 2 ∧ x - 2 ≤ 125
      · rw [show upto (18 * 7) (x - 2) = true from decide_eq_true (by omega)] at hl
        have ho : (ownS (x - 2) == -1) = false := by rw [ownS, if_pos hin]; simp; omega
        have HIN := Lib.hid hin
        clear hin M
        go_wp2_with (first | (go_at_call 24; (with_reducible refine (cut_any _ _ _ (by omega) (by omega)).mono ?_); rintro e w1 ⟨rfl, rfl⟩) | (go_at_call 9; (with_reducible refine (owner_any _ _).mono ?_); rintro e w1 ⟨rfl, rfl⟩))
        with_reducible refine (awake_any _).mono ?_
        rintro e w9 ⟨rfl, g9⟩
        go_wp2
        go_ret
        exact ⟨rfl, G.trans g9⟩
      · rw [show upto (18 * 7) (x - 2) = false from decide_eq_false (by omega)] at hl
        have ho : ownS (x - 2) = -1 := by rw [ownS, if_neg hin]
        have HIN := Lib.hid hin
        clear hin M
        go_wp2_with (first | (go_at_call 24; (with_reducible refine (cut_any _ _ _ (by omega) (by omega)).mono ?_); rintro e w1 ⟨rfl, rfl⟩) | (go_at_call 9; (with_reducible refine (owner_any _ _).mono ?_); rintro e w1 ⟨rfl, rfl⟩))
        with_reducible refine (awake_any _).mono ?_
        rintro e w9 ⟨rfl, g9⟩
        go_wp2
        go_ret
        exact ⟨rfl, G.trans g9⟩

theorem Try.own : ownKnob Try.prog.godebug = none := by kernel_rfl
theorem Try.laidOut : laidOutB Try.prog = true := by kernel_rfl

theorem layoutApart_contract (W : World) (base : Nat) (args : Array Value) (H : Type) (enc : TypeId × Value → H) (ds : List (DataW H)) (p : List MemPlace)
    (hval : ∀ (j : Nat) t v, Try.f5.params[j]? = some t → args[j]? = some v → Value.okWide Try.prog W .any base t v)
    (hA : DataW.TrodAll enc Try.prog W 0 (fun _ => true) true Try.f5.params.toList args.toList ds p) :
    (∃ d0, ds = [d0]) ∧ Calls Try.prog 5 args W fun e W' => e = .returned (.bool true) ∧ Below W.heap.size W W' := by
  rw [Try.params5] at hval hA
  obtain ⟨v0, d0, p0, ha, hd, hp, h0⟩ := args_1 hA
  subst ha hd
  obtain ⟨n0, rfl, -, -, hw0⟩ := open_int Try.underlying3 (hval 0 _ _ rfl rfl) h0
  exact ⟨⟨_, rfl⟩, (apart_core n0 W hw0).mono fun _ _ h => h⟩

set_option maxRecDepth 100000 in
theorem layoutApart_lifted (os : Os) (started : os.Started) (H : Type) (enc : TypeId × Value → H) :
    ReturnsInHanded {} Try.checked os 5 .any (Rows.layoutApartSpec.pre6 enc Try.prog Try.f5 Rows.layoutApartRow.domain false) (Rows.layoutApartSpec.post enc Try.prog Try.f5 false true false false) := by
  refine returnsInHanded_of_change (C := Try.checked) Try.own started (by kernel_rfl) Try.func5
    (ChangeSpec.witness6 (enc := enc) (C := Try.checked) false ⟨#[], #[.int .i64 0], []⟩ 8 (by kernel_rfl) (by kernel_rfl) (by kernel_rfl) (by kernel_rfl)) ?_
  intro W base args ds gs before hval hW _ _
  obtain ⟨p, q, hA, hV, hrest⟩ := id hW
  obtain ⟨⟨d0, rfl⟩, hc⟩ := layoutApart_contract W base args H enc ds p hval hA
  obtain ⟨rfl, -⟩ := trodVars_none hV
  refine hc.mono fun e W' ⟨he, hb⟩ => ⟨_, he, ?_⟩
  exact law_close (tb := 4) Try.laidOut (by rw [Try.params5]; decide +kernel) Try.underlying4 rfl rfl hW rfl rfl rfl hb

theorem layoutApart_holds : Rows.LayoutApartSaid :=
  OpenClaim.holds_of_wide 5 Try.f5 rfl rfl rfl rfl rfl rfl rfl ⟨rfl, rfl, rfl, rfl, rfl⟩ rfl rfl rfl rfl rfl (by kernel_rfl) Try.func5 (by kernel_rfl)
    (of_decide_eq_true (by kernel_rfl)) (by unfold Func.isWrapper; first | (rw [if_pos (by decide +kernel)]; kernel_rfl) | (rw [if_neg (by decide +kernel)]; exact ⟨rfl, rfl⟩))
    (fun os started H enc _ => layoutApart_lifted os started H enc)
end Go.Proofs.Ytfoeemibhkkbgaa

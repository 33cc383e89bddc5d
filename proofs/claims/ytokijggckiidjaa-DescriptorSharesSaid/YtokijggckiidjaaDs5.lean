/- Same of the reference (layer 18), on equal contents. -/
import Derived.Test.YtokijggckiidjaaDs4
import Derived.Test.YtokijggckiidjaaDsO
import Derived.BigQuiet
namespace Go.Proofs.Ytokijggckiidjaa
open Go.ChangeShapes Go.WideShapes Go.ChangeAt Go.RowKit Go.Mine
theorem run_nn (w : World) (x : Ds) : (binOp .neq 34 (dsV x) (dsV x)).run Try.prog w = .ok (.bool false) w := (run_neqDs w x x).trans (by simp)
/-- The two boxes stand as at the start. -/
structure SaW (w : World) (T : TypeId) (u v u' v' : Value) (wr : World) : Prop where
  a : Mine.Own wr w.heap.size T #[u, v]
  b : Mine.Own wr (w.heap.size + 1) T #[u', v']
  g : Grew w wr
theorem SaW.drewN {w wr : World} {T : TypeId} {u v u' v' : Value} (h : SaW w T u v u' v' wr) (n : Nat) : SaW w T u v u' v' (wr.drewN n) := ⟨h.a.drewN n, h.b.drewN n, h.g.drewN n⟩
theorem SaW.drew {w wr : World} {T : TypeId} {u v u' v' : Value} (h : SaW w T u v u' v' wr) : SaW w T u v u' v' wr.drew := ⟨h.a.drew, h.b.drew, h.g.drew⟩
set_option maxHeartbeats 8000000 in
theorem same_q {B B' : Nat} {a b a' b' : Value} {d : Dd} {w : World} (h : DdR w B a b d) (k : DdR w B' a' b' d) (ho : d.o.length ≤ 1000) (ht : d.t.length ≤ 1000) (h16 : ∀ p, p < d.t.length → (d.t.getD p []).length ≤ 1000) :
    Calls Try.prog 14 #[.agg #[a, b], .agg #[a', b']] w (RetG (.bool true) w) := by
  obtain ⟨a1, ca, rfl, -, -⟩ := h.o.slice
  obtain ⟨b1, cb, rfl, -, -⟩ := h.t.slice
  obtain ⟨a2, ca2, rfl, -, -⟩ := k.o.slice
  obtain ⟨b2, cb2, rfl, -, -⟩ := k.t.slice
  obtain ⟨m, hm⟩ : ∃ m, d.o.length = m := ⟨_, rfl⟩
  obtain ⟨N, hN⟩ : ∃ N, d.t.length = N := ⟨_, rfl⟩
  have HM := Lib.hid hm
  have HN := Lib.hid hN
  rw [hm] at h k ho ⊢
  rw [hN] at h k ht ⊢
  have HH := Lib.hid h
  have HK := Lib.hid k
  have H16 := Lib.hid h16
  have HA := (Mine.Own.new w 29 #[.slice a1 m ca, .slice b1 N cb]).alloc (.cells #[.slice a2 m ca2, .slice b2 N cb2] 29)
  have HB := Mine.Own.new2 w (.cells #[.slice a1 m ca, .slice b1 N cb] 29) 29 #[.slice a2 m ca2, .slice b2 N cb2]
  have HG := ((Grew.refl w).alloc (.cells #[.slice a1 m ca, .slice b1 N cb] 29)).alloc (.cells #[.slice a2 m ca2, .slice b2 N cb2] 29)
  obtain ⟨x0, x1, -, -⟩ := HA.two
  obtain ⟨y0, y1, -, -⟩ := HB.two
  have HS : Hid (SaW w 29 (.slice a1 m ca) (.slice b1 N cb) (.slice a2 m ca2) (.slice b2 N cb2) _) := Lib.hid ⟨HA, HB, HG⟩
  clear h k hm hN h16 HA HB HG
  go_enter Try.func14, Try.ntmps14
  go_wp2_with fail
  go_loopw [5] (fun iv wr => ∃ i : Nat, iv = .int .i64 i ∧ i ≤ m ∧ SaW w 29 (.slice a1 m ca) (.slice b1 N cb) (.slice a2 m ca2) (.slice b2 N cb2) wr) (fun iv _ => m - (intOf iv).toNat)
  case atStart => exact ⟨0, rfl, Nat.zero_le _, HS.out⟩
  case round =>
    clear HS x0 x1 y0 y1
    obtain ⟨i, rfl, hi, W⟩ := hrel
    obtain ⟨wo, rfl⟩ : ∃ wo : World, wo = wr := ⟨_, rfl⟩
    obtain ⟨x0, x1, -, -⟩ := W.a.two
    obtain ⟨y0, y1, -, -⟩ := W.b.two
    by_cases hlt : i < m
    · have hi0 : (0 : Int) ≤ (i : Int) := by omega
      have hi1 : (i : Int) < (m : Int) := by omega
      have hio : i < d.o.length := by rw [HM.out]; exact hlt
      obtain ⟨g1, o1, rfl, -, hg1, c0, c1, c2, c3, c4⟩ := (HH.out.o.grew W.g).atD hio
      obtain ⟨g2, o2, rfl, -, hg2, e0, e1, e2, e3, e4⟩ := (HK.out.o.grew W.g).atD hio
      generalize d.o.getD i zDs = x at c0 c1 c2 c3 c4 e0 e1 e2 e3 e4
      have hnn : ∀ w : World, (binOp .neq 34 (dsV x) (dsV x)).run Try.prog w = .ok (.bool false) w := fun w => run_nn w x
      dsimp only [dsV] at hnn
      have HW := Lib.hid W
      clear W
      go_upto_region 6 with fail
      go_quiet (fail)
      go_wp2_with fail
      go_roundw
      case rel => exact ⟨i + 1, by go_num, by omega, HW.out.drewN _⟩
      case measure => simp [intOf]; omega
    · obtain rfl : i = m := by omega
      have HW := Lib.hid W
      clear W
      go_wp2_with fail
      clear x0 x1 y0 y1
      go_loopw [6] (fun iv wr => ∃ p : Nat, iv = .int .i64 p ∧ p ≤ N ∧ SaW w 29 (.slice a1 i ca) (.slice b1 N cb) (.slice a2 i ca2) (.slice b2 N cb2) wr) (fun iv _ => N - (intOf iv).toNat)
      case atStart => exact ⟨0, rfl, Nat.zero_le _, HW.out⟩
      case round =>
        clear HW
        obtain ⟨p, rfl, hp, W⟩ := hrel
        obtain ⟨wp, rfl⟩ : ∃ wp : World, wp = wr := ⟨_, rfl⟩
        obtain ⟨x0, x1, -, -⟩ := W.a.two
        obtain ⟨y0, y1, -, -⟩ := W.b.two
        by_cases hlt : p < N
        · have hp0 : (0 : Int) ≤ (p : Int) := by omega
          have hp1 : (p : Int) < (N : Int) := by omega
          have hpt : p < d.t.length := by rw [HN.out]; exact hlt
          obtain ⟨g1, o1, ta, tc, rfl, -, hg1, c0, -⟩ := (HH.out.t.grew W.g).at_ hpt
          obtain ⟨g2, o2, ta', tc', rfl, -, hg2, e0, -⟩ := (HK.out.t.grew W.g).at_ hpt
          have hq := H16.out p hpt
          obtain ⟨q, hqq⟩ : ∃ q, (d.t.getD p []).length = q := ⟨_, rfl⟩
          have HQ := Lib.hid hqq
          rw [hqq] at c0 e0 hq
          have HW := Lib.hid W
          clear W hqq
          go_upto_region 11 with fail
          go_quiet (fail)
          go_wp2_with fail
          have HW2 := HW
          clear x0 x1 y0 y1 c0 e0 HW
          go_loopw [7] (fun iv wr => ∃ k : Nat, iv = .int .i64 k ∧ k ≤ q ∧ SaW w 29 (.slice a1 i ca) (.slice (some ⟨g1, o1, none⟩) N cb) (.slice a2 i ca2) (.slice (some ⟨g2, o2, none⟩) N cb2) wr) (fun iv _ => q - (intOf iv).toNat)
          case atStart => exact ⟨0, rfl, Nat.zero_le _, HW2.out.drewN _⟩
          case round =>
            clear HW2
            obtain ⟨k, rfl, hk, W⟩ := hrel
            obtain ⟨wq, rfl⟩ : ∃ wq : World, wq = wr := ⟨_, rfl⟩
            obtain ⟨x0, x1, -, -⟩ := W.a.two
            obtain ⟨y0, y1, -, -⟩ := W.b.two
            obtain ⟨g1', o1', ta, tc, e9, -, hg1, c0, RT⟩ := (HH.out.t.grew W.g).at_ hpt
            injection e9 with e9
            injection e9 with e9 e8
            subst e9 e8
            obtain ⟨g2', o2', ta', tc', e9, -, hg2, e0, RT'⟩ := (HK.out.t.grew W.g).at_ hpt
            injection e9 with e9
            injection e9 with e9 e8
            subst e9 e8
            have HW := Lib.hid W
            rw [HQ.out] at c0 e0
            by_cases hlk : k < q
            · have hk0 : (0 : Int) ≤ (k : Int) := by omega
              have hk1 : (k : Int) < (q : Int) := by omega
              obtain ⟨g3, o3, rfl, -, hg3, c3⟩ := RT.atI (k := k) (by rw [HQ.out]; exact hlk)
              obtain ⟨g4, o4, rfl, -, hg4, e3⟩ := RT'.atI (k := k) (by rw [HQ.out]; exact hlk)
              generalize (d.t.getD p []).getD k 0 = x at c3 e3
              clear RT RT' W
              go_upto_region 16 with fail
              go_quiet (fail)
              go_wp2_with fail
              go_roundw
              case rel => exact ⟨k + 1, by go_num, by omega, HW.out.drewN _⟩
              case measure => simp [intOf]; omega
            · obtain rfl : k = q := by omega
              clear RT RT' W
              go_wp2_with fail
              go_roundw
              case rel => exact ⟨p + 1, by go_num, by omega, HW.out⟩
              case measure => simp [intOf]; omega
        · obtain rfl : p = N := by omega
          have HW := Lib.hid W
          clear W
          go_wp2_with fail
          go_ret
          exact ⟨rfl, HW.out.g⟩
end Go.Proofs.Ytokijggckiidjaa

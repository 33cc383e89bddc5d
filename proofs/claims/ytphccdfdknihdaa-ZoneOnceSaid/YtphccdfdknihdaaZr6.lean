/- The reference of layer 10: New. -/
import Derived.Test.YtphccdfdknihdaaZr5
import Derived.Test.YtphccdfdknihdaaZnN
namespace Go.Mine
open Go Go.RowKit
theorem RowE.putB {α : Type} {T : TypeId} {sz : Nat} {enc : α → List Value} {w : World} {B b i : Nat} {v u : Value} {L : List α} (h : RowE T sz enc w B v L) (hb : b < B) : RowE T sz enc (w.setCell ⟨b, i, none⟩ u) B v L :=
  RowE.keptB (r := some b) h (grown_set (p := ⟨b, i, none⟩) (grown_refl _ _) (.inl rfl) u) (fun k e => by injection e with e; omega)
theorem ZsO.snoc {T : TypeId} {w : World} {B : Nat} {p : Nat → Prop} {r : Value} {L : List Zo} {M : List Zc} {zc : Zc} {z : Zo} (R : RowE T 6 encZ w B r (M ++ [zc])) (hM : M.length = L.length) (hrd : ∀ k, k < L.length → RdZ w p (M.getD k zcZ) (L.getD k zoZ)) (hz : RdZ w p zc z) : ZsO T w B p r (L ++ [z]) := by
  refine ⟨_, R, by simp [hM], fun k hk => ?_⟩
  by_cases e : k < L.length
  · have e1 : (M ++ [zc]).getD k zcZ = M.getD k zcZ := by simp [List.getD, List.getElem?_append_left (show k < M.length by omega)]
    have e2 : (L ++ [z]).getD k zoZ = L.getD k zoZ := by simp [List.getD, List.getElem?_append_left e]
    rw [e1, e2]
    exact hrd k e
  · obtain rfl : k = L.length := by simp at hk; omega
    have e1 : (M ++ [zc]).getD L.length zcZ = zc := by simp [List.getD, ← hM]
    have e2 : (L ++ [z]).getD L.length zoZ = z := by simp [List.getD]
    rw [e1, e2]
    exact hz
end Go.Mine
namespace Go.Proofs.Ytphccdfdknihdaa
open Go.RowKit Go.Mine

/-- Where the free frames of a row of zones lie: from B on, apart from the row. -/
def pR (B : Nat) (r : Value) (x : Nat) : Prop := B ≤ x ∧ r.ownBlock ≠ some x
abbrev pF : Nat → Prop := fun _ => False
set_option maxRecDepth 100000 in
set_option maxHeartbeats 8000000 in
theorem new_q {p : Nat → Prop} {a : Option Addr} {c : Nat} {S : List Int} {w : World} (h : RdI w p a S.length S) (hs : S.length ≤ 1000) : Calls Try.prog 27 #[.slice a S.length c] w (RetE2 pF (newX S) w.heap.size w) := by
  have HR := Lib.hid h
  obtain ⟨n, hn⟩ : ∃ n, S.length = n := ⟨_, rfl⟩
  have HN := Lib.hid hn
  rw [hn] at hs ⊢
  clear h hn
  by_cases h0 : n = 0
  · subst h0
    have hS : S = [] := List.length_eq_zero_iff.1 HN.out
    subst hS
    go_enter Try.func27, Try.ntmps27
    go_wp2
    refine bodyPost_ret (v := .tuple #[.slice none 0 0, .int .i64 1]) (by simp [results, Try.results27, go_sem]) rfl ⟨_, rfl, ZsR.nil _ _ _ _, Grew.refl _⟩
  · have hn0 : 0 < n := by omega
    have hn1 : ¬(n : Int) = 0 := by omega
    have hn2 : ((n : Int) == 0) = false := by simp; omega
    go_enter Try.func27, Try.ntmps27
    go_wp2_with fail
    go_loopw [4, 5, 6] (fun lv nv iv wr => ∃ (k : Nat) (L : List Zo) (nx : Int) (r : Value), r = lv ∧ nv = .int .i64 nx ∧ iv = .int .i64 k ∧ k ≤ n ∧ 1 ≤ nx ∧ nx ≤ 65 ∧ Hid (NwI S k L nx) ∧ ZsO 42 wr w.heap.size (pR w.heap.size r) r L ∧ Grew w wr) (fun _ _ iv _ => n - (intOf iv).toNat)
    case atStart => exact ⟨0, [], 1, _, rfl, rfl, rfl, by omega, by omega, by omega, Lib.hid (NwI.zero S), ⟨[], RowE.nil _ _, rfl, fun k hk => absurd hk (by simp)⟩, Grew.refl _⟩
    case round =>
      obtain ⟨k, L, nx, r, rfl, rfl, rfl, hk, hx1, hx6, HI, HO, G⟩ := hrel
      obtain ⟨wo, rfl⟩ : ∃ wo : World, wo = wr := ⟨_, rfl⟩
      have HZO := Lib.hid HO
      have HG := Lib.hid G
      clear HO G
      by_cases hlt : k < n
      · have hkS : k < S.length := by rw [HN.out]; exact hlt
        obtain ⟨g, o, rfl, -, hg, x0⟩ := HR.out.at_ hkS
        have x1 := (HG.out.cells.1 g _ hg).trans x0
        have HBD : Hid (¬(1 ≤ S.getD k 0 ∧ S.getD k 0 ≤ 65 - nx) → newX S = ([], 2)) := Lib.hid fun h => HI.out.bad hkS rfl h
        have HNX : Hid (1 ≤ S.getD k 0 → S.getD k 0 ≤ 65 - nx → NwI S (k + 1) (L ++ [mkZ nx (S.getD k 0)]) (nx + S.getD k 0)) := Lib.hid fun h1 h2 => HI.out.next hkS rfl h1 h2
        generalize S.getD k 0 = q at *
        have j0 : (0 : Int) ≤ (k : Int) := by omega
        have j1 : (k : Int) < (n : Int) := by omega
        clear x0
        by_cases t1 : q < 1
        · have HX := Lib.hid (HBD.out (by omega))
          go_wp2
          refine bodyPost_ret (v := .tuple #[.slice none 0 0, .int .i64 2]) (by simp [results, Try.results27, go_sem]) rfl ⟨_, by rw [HX.out], by rw [HX.out]; exact ZsR.nil _ _ _ _, HG.out⟩
        · by_cases t2 : 64 < q
          · have HX := Lib.hid (HBD.out (by omega))
            go_wp2
            refine bodyPost_ret (v := .tuple #[.slice none 0 0, .int .i64 2]) (by simp [results, Try.results27, go_sem]) rfl ⟨_, by rw [HX.out], by rw [HX.out]; exact ZsR.nil _ _ _ _, HG.out⟩
          · by_cases t3 : 65 < nx + q
            · have HX := Lib.hid (HBD.out (by omega))
              go_wp2
              refine bodyPost_ret (v := .tuple #[.slice none 0 0, .int .i64 2]) (by simp [results, Try.results27, go_sem]) rfl ⟨_, by rw [HX.out], by rw [HX.out]; exact ZsR.nil _ _ _ _, HG.out⟩
            · have HI2 := Lib.hid (HNX.out (by omega) (by omega))
              clear HBD HNX HI
              obtain ⟨qn, rfl⟩ : ∃ qn : Nat, q = qn := ⟨q.toNat, by omega⟩
              have e8 : (qn : Int).tdiv 8 = (qn : Int) / 8 := Int.tdiv_eq_ediv_of_nonneg (by omega)
              have e4 : (qn : Int).tdiv 4 = (qn : Int) / 4 := Int.tdiv_eq_ediv_of_nonneg (by omega)
              have e2 : (qn : Int).tdiv 2 = (qn : Int) / 2 := Int.tdiv_eq_ediv_of_nonneg (by omega)
              go_wp2_with fail
              have HBX := Lib.hid (Own.new wo 42 (cZ nx qn ((qn : Int) / 8) ((qn : Int) / 4) ((qn : Int) / 2) none 0 0))
              have HG1 := Lib.hid ((Grew.refl wo).alloc (.cells (cZ nx qn ((qn : Int) / 8) ((qn : Int) / 4) ((qn : Int) / 2) none 0 0) 42))
              have hws := HG.out.size
              obtain ⟨sx, hsx⟩ : ∃ sx, wo.heap.size = sx := ⟨_, rfl⟩
              rw [hsx] at HBX hws ⊢
              have HSX := Lib.hid hsx
              clear hsx
              generalize World.alloc wo _ = wa at *
              go_loopw [9] (fun fv wi => ∃ (t : Nat) (r2 : Value), fv = .int .i64 (nx + (t : Int)) ∧ t ≤ qn ∧ Own wi sx 42 #[.int .i64 nx, .int .i64 qn, .int .i64 ((qn : Int) / 8), .int .i64 ((qn : Int) / 4), .int .i64 ((qn : Int) / 2), r2] ∧ RowE 3 1 enc1 wi (sx + 1) r2 (frmI nx t) ∧ Grew wo wi) (fun fv _ => (nx + qn - intOf fv).toNat)
              case atStart => exact ⟨0, _, by simp, by omega, HBX.out, RowE.nil _ _, HG1.out⟩
              case round =>
                obtain ⟨t, r2, rfl, ht, O, R, G⟩ := hrel
                obtain ⟨wi, rfl⟩ : ∃ wi : World, wi = wr := ⟨_, rfl⟩
                obtain ⟨z0, z1, z2, z3, z4, z5⟩ := O.six
                have HOO := Lib.hid O
                have HRR := Lib.hid R
                have HGG := Lib.hid G
                have hsz := O.lt
                clear O R G
                by_cases htq : t < qn
                · have hx7 : (frmI nx t).length < 1000000 := by rw [frmI_len]; omega
                  have hz7 : ∀ o, sx + 1 ≤ (wi.alloc o).heap.size := fun o => by simp; omega
                  have hlt1 : nx + (t : Int) < nx + (qn : Int) := by omega
                  go_wp2_with (at_builtin; go_loud (
                    refine wpList_append_row _ rfl _ _ 22 rfl (sx + 1) info_int Try.underlying22 (by decide) (by decide) enc1_len _ (frmI nx t) rfl (HRR.out.alloc _) _ _ (nx + (t : Int)) rfl (Own.new _ _ _) enc1_one hx7 (by decide) (hz7 _) ?_
                    intro g3 cap3 w3 R3 G3 o3
                    have HR3 := Lib.hid R3
                    have HO3 := Lib.hid (Own.keptA (B := sx + 1) (HOO.out.alloc _) G3 (fun x e => HRR.out.above x e) (Nat.lt_succ_self _))
                    have HG3 := Lib.hid (Grew.keptA (B := sx + 1) (HGG.out.alloc _) G3 (fun x e => HRR.out.above x e) (by rw [HSX.out]; omega))
                    clear R3 G3 o3 z0 z1 z2 z3 z4 z5
                    obtain ⟨z0, z1, z2, z3, z4, z5⟩ := HO3.out.six
                    have zfz := HO3.out.frozen 5))
                  exact ⟨⟨t + 1, _, by go_num, by omega, HO3.out.set 5 _, by rw [frmI_snoc]; exact HR3.out.putB (Nat.lt_succ_self _), HG3.out.set (p := ⟨sx, 5, none⟩) (by rw [HSX.out]; exact Nat.le_refl _) _⟩, by simp [intOf] <;> omega⟩
                · obtain rfl : t = qn := by omega
                  obtain ⟨a3, c3, rfl, hr3, hc3⟩ := HRR.out.rdI
                  have HR3 := Lib.hid hr3
                  obtain ⟨M, RM, hM, hrd⟩ := HZO.out
                  have HRM := Lib.hid (RM.grew HGG.out)
                  have HRD := Lib.hid hrd
                  have HRL := Lib.hid RM.lt
                  have hM6 : M.length < 1000000 := by have := HI2.out.2.2.2.1; simp at this; omega
                  have hzb : ∀ o, w.heap.size ≤ (wi.alloc o).heap.size := fun o => by have := HGG.out.size; have := HSX.out; simp; omega
                  clear hr3 RM hrd
                  rw [frmI_len] at z5 hc3 HOO
                  go_wp2_with (at_builtin; go_loud (
                    refine wpList_append_row _ rfl _ _ 26 rfl w.heap.size info_zone Try.underlying26 (by decide) (by decide) encZ_len _ M rfl (HRM.out.alloc _) _ _ ((nx, (t : Int), (t : Int) / 8, (t : Int) / 4, (t : Int) / 2), (a3, t, c3)) rfl (Own.new _ _ _) encZ_one hM6 (by decide) (hzb _) ?_
                    intro g5 cap5 w5 R5 G5 o5))
                  have hX : ∀ x, pR w.heap.size r x → x < wo.heap.size → pR w.heap.size (.slice (some ⟨g5, 0, none⟩) (M.length + 1) cap5) x ∧ r.ownBlock ≠ some x := fun x hx hx2 => by
                    refine ⟨⟨hx.1, fun e => ?_⟩, hx.2⟩
                    have e : g5 = x := by injection e
                    rcases o5 with o5 | o5
                    · exact hx.2 (o5.trans (congrArg some e))
                    · have := HGG.out.size; simp at o5; omega
                  have hY : ∀ x, sx + 1 ≤ x → x < wi.heap.size → pR w.heap.size (.slice (some ⟨g5, 0, none⟩) (M.length + 1) cap5) x ∧ r.ownBlock ≠ some x := fun x hx hx2 => by
                    have hb : ∀ y, r.ownBlock = some y → y < sx := fun y e => by have := HRL.out y e; have := HSX.out; omega
                    refine ⟨⟨by omega, fun e => ?_⟩, fun e => by have := hb x e; omega⟩
                    have e : g5 = x := by injection e
                    rcases o5 with o5 | o5
                    · have := hb _ o5; omega
                    · simp at o5; omega
                  have hz : RdZ w5 (pR w.heap.size (.slice (some ⟨g5, 0, none⟩) (M.length + 1) cap5)) ((nx, (t : Int), (t : Int) / 8, (t : Int) / 4, (t : Int) / 2), (a3, t, c3)) (mkZ nx t) := by
                    refine ⟨rfl, ?_, hc3⟩
                    have h1 : RdI wi (fun g => sx + 1 ≤ g) a3 t (frmI nx t) := by have h := HR3.out; rw [frmI_len] at h; exact h
                    exact RdI.keep (w' := w5) h1 (Nat.le_trans (by simp) G5.size) (fun g h1 h2 => (hY g h1 h2).1) fun g h1 h2 => (G5.block g (by simp; omega) (fun e => (hY g h1 h2).2 e.symm)).trans (Below.heap_alloc wi _ g h2)
                  have HZ5 := Lib.hid (ZsO.snoc (T := 42) (L := L) R5 hM (fun k hk => (HRD.out k hk).keep (w' := w5) (Nat.le_trans HGG.out.size (Nat.le_trans (by simp) G5.size)) (fun g h1 h2 => (hX g h1 h2).1) fun g h1 h2 => (G5.block g (by have := HGG.out.size; simp; omega) (fun e => (hX g h1 h2).2 e.symm)).trans ((Below.heap_alloc wi _ g (by have := HGG.out.size; omega)).trans (Below.block HGG.out g h2))) hz)
                  have HG5 := Lib.hid (Grew.keptA (B := w.heap.size) ((HG.out.trans HGG.out).alloc _) G5 (fun x e => HRM.out.above x e) (Nat.le_refl _))
                  clear hX hY hz R5 G5 o5
                  exact ⟨⟨k + 1, L ++ [mkZ nx t], nx + (t : Int), _, rfl, rfl, by go_num, by omega, by omega, by omega, HI2, by have h := HZ5.out; rw [hM] at h; exact h, HG5.out⟩, by simp [intOf] <;> omega⟩
      · obtain rfl : k = n := by omega
        have HX := Lib.hid ((HN.out ▸ HI.out : NwI S S.length L nx).last (by rw [HN.out]; exact hn0))
        go_wp2
        refine bodyPost_ret (v := .tuple #[r, .int .i64 0]) (by simp [results, Try.results27, go_sem]) rfl ⟨_, by rw [HX.out], by rw [HX.out]; exact HZO.out.read (fun g h _ => .inr h) fun g h _ => .inr h.1, HG.out⟩
end Go.Proofs.Ytphccdfdknihdaa

/- The document's answers of layer 3, first part: valid, Next, Torn, Encode. -/
import Derived.Test.YtbcakadefineiaaIno4
import Derived.Laws.AppendOwn
import Derived.Laws.OwnMore
import Derived.OwnWalk
namespace Go.Proofs.Ytbcakadefineiaa
open Go.RowKit Go.Mine

theorem withB_split (n m : Int) : withB n m = (decide (0 ≤ n) && decide (n ≤ m)) := by
  unfold withB
  rw [Bool.eq_iff_iff]
  simp

set_option maxHeartbeats 2000000 in
theorem rValid_s (q z b : Int) (w : World) : Calls Try.prog 28 #[inoV q z b] w (RetS (.bool (validI q z b)) (w.alloc (boxI q z b))) := by
  generalize hV : validI q z b = V
  have HV := Lib.hid hV
  clear hV
  by_cases a1 : 0 ≤ q
  · by_cases a2 : q ≤ 65535
    · by_cases a3 : 0 ≤ z
      · by_cases a4 : z ≤ 128
        · by_cases a5 : 0 ≤ b
          · by_cases a6 : b ≤ 255
            · go_enter Try.func28, Try.ntmps28
              go_wp2
              go_ret
              exact ⟨ret_bool (by rw [← HV.out]; simp [validI, withB, a1, a2, a3, a4, a5, a6]), rfl⟩
            · go_enter Try.func28, Try.ntmps28
              go_wp2
              go_ret
              exact ⟨ret_bool (by rw [← HV.out]; simp [validI, withB]; omega), rfl⟩
          · go_enter Try.func28, Try.ntmps28
            go_wp2
            go_ret
            exact ⟨ret_bool (by rw [← HV.out]; simp [validI, withB]; omega), rfl⟩
        · go_enter Try.func28, Try.ntmps28
          go_wp2
          go_ret
          exact ⟨ret_bool (by rw [← HV.out]; simp [validI, withB]; omega), rfl⟩
      · go_enter Try.func28, Try.ntmps28
        go_wp2
        go_ret
        exact ⟨ret_bool (by rw [← HV.out]; simp [validI, withB]; omega), rfl⟩
    · go_enter Try.func28, Try.ntmps28
      go_wp2
      go_ret
      exact ⟨ret_bool (by rw [← HV.out]; simp [validI, withB]; omega), rfl⟩
  · go_enter Try.func28, Try.ntmps28
    go_wp2
    go_ret
    exact ⟨ret_bool (by rw [← HV.out]; simp [validI, withB]; omega), rfl⟩

theorem rValid_any (q z b : Int) (w : World) : Calls Try.prog 28 #[inoV q z b] w (RetG (.bool (validI q z b)) w) :=
  (rValid_s q z b w).mono fun _ _ ⟨h, k⟩ => ⟨h, k ▸ (Grew.refl _).alloc _⟩

set_option maxHeartbeats 1000000 in
theorem rNext_all (q z b : Int) (w : World) :
    Calls Try.prog 18 #[inoV q z b] w (RetG (.tuple #[inoV (nxQ q z b) (nxZ q z b) (nxB q z b), .int .i64 (nxE q z b)]) w) := by
  generalize hv : Value.tuple #[inoV (nxQ q z b) (nxZ q z b) (nxB q z b), .int .i64 (nxE q z b)] = V
  have HV := Lib.hid hv
  clear hv
  cases h : validI q z b
  · go_enter Try.func18, Try.ntmps18
    go_wp2_with (go_at_call 28; (with_reducible refine (rValid_s _ _ _ _).mono ?_); rintro e w1 ⟨rfl, rfl⟩)
    rw [show V = .tuple #[inoV 0 0 0, .int .i64 1] from by simp [← HV.out, nxQ, nxZ, nxB, nxE, h]]
    refine bodyPost_ret (v := .tuple #[inoV 0 0 0, .int .i64 1]) (by simp [results, Try.results18, go_sem]) rfl ⟨rfl, ?_⟩
    repeat (first | with_reducible exact Grew.refl _ | with_reducible refine Grew.set ?_ (by simp) _ | with_reducible refine Grew.alloc ?_ _)
  · obtain ⟨q0, q1, -, -, -, -⟩ := valid_bd h
    by_cases hq : q = 65535
    · have hq1 : (q == 65535) = true := by simpa using hq
      have HQ := Lib.hid hq
      clear hq
      go_enter Try.func18, Try.ntmps18
      go_wp2_with (go_at_call 28; (with_reducible refine (rValid_s _ _ _ _).mono ?_); rintro e w1 ⟨rfl, rfl⟩)
      rw [show V = .tuple #[inoV 0 0 0, .int .i64 3] from by rw [← HV.out]; simp [nxQ, nxZ, nxB, show nxE q z b = 3 from by unfold nxE; rw [if_pos h, if_pos HQ.out]]]
      refine bodyPost_ret (v := .tuple #[inoV 0 0 0, .int .i64 3]) (by simp [results, Try.results18, go_sem]) rfl ⟨rfl, ?_⟩
      repeat (first | with_reducible exact Grew.refl _ | with_reducible refine Grew.set ?_ (by simp) _ | with_reducible refine Grew.alloc ?_ _)
    · have hq1 : (q == 65535) = false := by simpa using hq
      go_enter Try.func18, Try.ntmps18
      go_wp2_with (go_at_call 28; (with_reducible refine (rValid_s _ _ _ _).mono ?_); rintro e w1 ⟨rfl, rfl⟩)
      rw [show V = .tuple #[inoV (q + 1) z b, .int .i64 0] from by simp [← HV.out, nxQ, nxZ, nxB, nxE, h, hq]]
      refine bodyPost_ret (v := .tuple #[inoV (q + 1) z b, .int .i64 0]) (by simp [results, Try.results18, go_sem]) rfl ⟨rfl, ?_⟩
      repeat (first | with_reducible exact Grew.refl _ | with_reducible refine Grew.set ?_ (by simp) _ | with_reducible refine Grew.alloc ?_ _)

set_option maxHeartbeats 1000000 in
theorem rTorn_form (a b : ByteArray) (h : Int) (w : World) (hs : ¬ (a.size = 8 ∧ b.size = 8)) :
    Calls Try.prog 21 #[.string a, .string b, .int .i64 h] w (RetG (.tuple #[.string { data := #[] }, .int .i64 6]) w) := by
  by_cases ha : a.size = 8
  · have hb : ((b.size : Int) != 8) = true := by rw [bne_iff_ne]; omega
    have h1 : ((a.size : Int) != 8) = false := by rw [bne_eq_false_iff_eq]; omega
    clear ha hs
    go_enter Try.func21, Try.ntmps21
    go_wp2
    go_ret2
    exact ⟨rfl, Grew.refl _⟩
  · have h1 : ((a.size : Int) != 8) = true := by rw [bne_iff_ne]; omega
    clear ha hs
    go_enter Try.func21, Try.ntmps21
    go_wp2
    go_ret2
    exact ⟨rfl, Grew.refl _⟩
set_option maxHeartbeats 2000000 in
theorem rTorn_8 (a b : ByteArray) (h : Int) (w : World) (ha : a.size = 8) (hb : b.size = 8) :
    Calls Try.prog 21 #[.string a, .string b, .int .i64 h] w (RetG (.tuple #[.string (tnS a b h), .int .i64 (tnE a b h)]) w) := by
  generalize hv : Value.tuple #[.string (tnS a b h), .int .i64 (tnE a b h)] = V
  have HV := Lib.hid hv
  clear hv
  have n1 : (a.extract 0 4).size = 4 := by simp [ByteArray.size_extract, ha]
  have n2 : (a.extract 4 8).size = 4 := by simp [ByteArray.size_extract, ha]
  have n3 : (b.extract 0 4).size = 4 := by simp [ByteArray.size_extract, hb]
  have n4 : (b.extract 4 8).size = 4 := by simp [ByteArray.size_extract, hb]
  by_cases h0 : h = 0
  · subst h0
    go_enter Try.func21, Try.ntmps21
    go_wp2
    go_region
    all_goals go_wp2
    all_goals go_ret2
    all_goals exact ⟨by rw [← HV.out]; simp [tnS, tnE, ha, hb], (Grew.refl _).drew⟩
  · by_cases h1 : h = 1
    · subst h1
      go_enter Try.func21, Try.ntmps21
      go_wp2
      go_region
      all_goals go_wp2
      all_goals go_ret2
      all_goals exact ⟨by rw [← HV.out]; simp [tnS, tnE, ha, hb], (Grew.refl _).drew⟩
    · have e0 : (h == 0) = false := by simpa using h0
      have e1 : (h == 1) = false := by simpa using h1
      have e2 : (h != 0) = true := by simpa using h0
      have e3 : (h != 1) = true := by simpa using h1
      go_enter Try.func21, Try.ntmps21
      go_wp2
      go_ret2
      exact ⟨by rw [← HV.out]; simp [tnS, tnE, ha, hb, h0, h1], Grew.refl _⟩
theorem rTorn_all (a b : ByteArray) (h : Int) (w : World) :
    Calls Try.prog 21 #[.string a, .string b, .int .i64 h] w (RetG (.tuple #[.string (tnS a b h), .int .i64 (tnE a b h)]) w) := by
  by_cases hs : a.size = 8 ∧ b.size = 8
  · exact rTorn_8 a b h w hs.1 hs.2
  · exact (rTorn_form a b h w hs).mono fun _ _ k => retG_of (by simp [tnS, tnE, hs]) k

theorem info_u8r : (Try.prog.info? 5).map (fun i => (i.zero, i.size, i.bytes)) = some (some (.int .u8 0), 1, 1) := by kernel_rfl
def encN (q z b f : Int) : List Int := [q / 256, q % 256, z, b, gd (q / 256) f, gd (q % 256) f, gd z f, gd b f]
def encR (q z b f : Int) (k : Nat) : List Value := ((encN q z b f).take (4 + k)).map (Value.int .u8)
def RowE (w : World) (B : Nat) (v : Value) (q z b f : Int) (k : Nat) : Prop := w.ownsRow B 5 1 v (4 + k) (encR q z b f k)
theorem RowE.shape {w : World} {B : Nat} {v : Value} {q z b f : Int} {k : Nat} (h : RowE w B v q z b f k) : ∃ g cap, v = .slice (some ⟨g, 0, none⟩) ((4 + k : Nat)) cap ∧ ∀ j, j < 4 + k → w.cell? ⟨g, j, none⟩ = (encR q z b f k)[j]? := by
  have h0 := h
  obtain ⟨-, h1 | ⟨g, cap, cur, rfl, -⟩⟩ := h
  · exact absurd h1.2 (by omega)
  · exact ⟨g, cap, rfl, fun j hj => World.ownsRow.cellAt h0 j (by omega)⟩
theorem slice_eq {a : Option Addr} {n m c : Nat} (h : n = m) : Value.slice a n c = .slice a m c := by rw [h]

set_option maxRecDepth 100000 in
set_option maxHeartbeats 8000000 in
theorem rEncode_ok (q z b f : Int) (w : World) (hv : validI q z b = true) (hf : withB f 7 = true) :
    Calls Try.prog 12 #[inoV q z b, .int .i64 f] w (RetG (.tuple #[.string (secS q z b f), .int .i64 0]) w) := by
  obtain ⟨f0, f1⟩ := file_bd hf
  obtain ⟨h1, h2, h3, h4, h5, h6⟩ := valid_bd hv
  have gA := Grew.refl w
  obtain ⟨i0, hi, hz0, hz1, hz2⟩ := info_parts info_u8r
  go_enter Try.func12, Try.ntmps12
  go_wp2_with fail
  with_reducible refine (rValid_any _ _ _ _).mono ?_
  rintro e w1 ⟨rfl, g_w1⟩
  have s_w1 : Grew w w1 := by first | exact g_w1 | exact ((Grew.refl _).alloc _).trans g_w1 | exact (((Grew.refl _).alloc _).alloc _).trans g_w1 | exact (Grew.refl _).drew.trans g_w1 | exact ((Grew.refl _).alloc _).drew.trans g_w1 | exact ((Grew.refl _).drewN _).trans g_w1
  have z_w1 := s_w1.size
  have X := (Own.new w _ _).grew g_w1
  have l_X_w1 := X.lt
  obtain ⟨X0, X1, X2, X3, X4, X5⟩ := X.three
  replace gA := gA.trans s_w1
  clear g_w1 s_w1
  go_wp2_with fail
  have hRow : RowE (w1.alloc (.cells #[.int .u8 (q / 256), .int .u8 (q % 256), .int .u8 z, .int .u8 b] 5)) w.heap.size (.slice (some ⟨w1.heap.size, 0, none⟩) 4 4) q z b f 0 :=
    World.ownsRow_lit w1 #[.int .u8 (q / 256), .int .u8 (q % 256), .int .u8 z, .int .u8 b] 4 (by omega) (by unfold maxLen; omega) rfl
  replace gA := gA.alloc (.cells #[.int .u8 (q / 256), .int .u8 (q % 256), .int .u8 z, .int .u8 b] 5)
  clear X X0 X1 X2 X3 X4 X5
  go_loopw [6, 7] (fun v6 v7 wk => ∃ k : Nat, k ≤ 4 ∧ v7 = .int .i64 k ∧ RowE wk w.heap.size v6 q z b f k ∧ Grew w wk) (fun _ v7 _ => 4 - (intOf v7).toNat)
  case atStart => exact ⟨0, by omega, rfl, hRow, gA⟩
  case round =>
    clear hRow gA
    obtain ⟨k, hk, rfl, hRow, gA⟩ := hrel
    have hgs := gA.size
    obtain ⟨g, cap, rfl, hcell⟩ := hRow.shape
    have HCL := Lib.hid hcell
    have HRW := Lib.hid hRow
    clear hcell hRow
    have hkc : k = 0 ∨ k = 1 ∨ k = 2 ∨ k = 3 ∨ k = 4 := by omega
    rcases hkc with rfl | rfl | rfl | rfl | rfl
    · have c0 : wr.cell? ⟨g, 0, none⟩ = some (.int .u8 (q / 256)) := (HCL.out 0 (by omega)).trans rfl
      have cb : 0 ≤ q / 256 ∧ q / 256 ≤ 255 := by omega
      obtain ⟨cb0, cb1⟩ := cb
      have ZX := Own.new wr 5 #[.int .u8 ((255 - bits .xor .u8 (q / 256) f) % 256)]
      go_wp2_with (at_builtin; refine wpList_append_own _ rfl _ _ 47 rfl w.heap.size 5 i0 (.int .u8 0) 1 1 Try.underlying47 hi hz0 hz1 hz2 rfl (by decide) _ _ _ rfl (World.ownsRow.alloc HRW.out _) ⟨wr.heap.size, 0, none⟩ 1 1 [.int .u8 ((255 - bits .xor .u8 (q / 256) f) % 256)] rfl rfl ?c1 ?c2 ?c3 ?c4 ?c5 ?_)
      case c1 =>
        intro j u hj
        have hj0 : j = 0 := by
          have := (List.getElem?_eq_some_iff.1 hj).1
          simp at this
          omega
        subst hj0
        exact (ZX.cell 0).trans hj
      case c2 =>
        intro u hu
        simp at hu
        subst hu
        rfl
      case c3 => unfold maxLen; omega
      case c4 => omega
      case c5 => simp; omega
      intro v5 w5 hown5 hg5 _
      have hr5 : ∀ x, (Value.slice (some ⟨g, 0, none⟩) (4 + 0) cap).ownBlock = some x → w.heap.size ≤ x := fun x hx => (World.ownsRow.lt HRW.out x hx).1
      have gA5 : Grew w w5 := Below.grown (gA.alloc (.cells #[.int .u8 ((255 - bits .xor .u8 (q / 256) f) % 256)] 5)) hg5 (by simp; omega) hr5
      have R5 : RowE w5 w.heap.size v5 q z b f 1 := hown5
      clear hg5 hown5 hr5 ZX c0
      go_wp2_with fail
      go_roundw
      case rel => exact ⟨1, by omega, by go_num, R5, gA5⟩
      case measure => simp [intOf]
    · have c0 : wr.cell? ⟨g, 1, none⟩ = some (.int .u8 (q % 256)) := (HCL.out 1 (by omega)).trans rfl
      have cb : 0 ≤ q % 256 ∧ q % 256 ≤ 255 := by omega
      obtain ⟨cb0, cb1⟩ := cb
      have ZX := Own.new wr 5 #[.int .u8 ((255 - bits .xor .u8 (q % 256) f) % 256)]
      go_wp2_with (at_builtin; refine wpList_append_own _ rfl _ _ 47 rfl w.heap.size 5 i0 (.int .u8 0) 1 1 Try.underlying47 hi hz0 hz1 hz2 rfl (by decide) _ _ _ rfl (World.ownsRow.alloc HRW.out _) ⟨wr.heap.size, 0, none⟩ 1 1 [.int .u8 ((255 - bits .xor .u8 (q % 256) f) % 256)] rfl rfl ?c1 ?c2 ?c3 ?c4 ?c5 ?_)
      case c1 =>
        intro j u hj
        have hj0 : j = 0 := by
          have := (List.getElem?_eq_some_iff.1 hj).1
          simp at this
          omega
        subst hj0
        exact (ZX.cell 0).trans hj
      case c2 =>
        intro u hu
        simp at hu
        subst hu
        rfl
      case c3 => unfold maxLen; omega
      case c4 => omega
      case c5 => simp; omega
      intro v5 w5 hown5 hg5 _
      have hr5 : ∀ x, (Value.slice (some ⟨g, 0, none⟩) (4 + 1) cap).ownBlock = some x → w.heap.size ≤ x := fun x hx => (World.ownsRow.lt HRW.out x hx).1
      have gA5 : Grew w w5 := Below.grown (gA.alloc (.cells #[.int .u8 ((255 - bits .xor .u8 (q % 256) f) % 256)] 5)) hg5 (by simp; omega) hr5
      have R5 : RowE w5 w.heap.size v5 q z b f 2 := hown5
      clear hg5 hown5 hr5 ZX c0
      go_wp2_with fail
      go_roundw
      case rel => exact ⟨2, by omega, by go_num, R5, gA5⟩
      case measure => simp [intOf]
    · have c0 : wr.cell? ⟨g, 2, none⟩ = some (.int .u8 (z)) := (HCL.out 2 (by omega)).trans rfl
      have cb : 0 ≤ z ∧ z ≤ 255 := by omega
      obtain ⟨cb0, cb1⟩ := cb
      have ZX := Own.new wr 5 #[.int .u8 ((255 - bits .xor .u8 (z) f) % 256)]
      go_wp2_with (at_builtin; refine wpList_append_own _ rfl _ _ 47 rfl w.heap.size 5 i0 (.int .u8 0) 1 1 Try.underlying47 hi hz0 hz1 hz2 rfl (by decide) _ _ _ rfl (World.ownsRow.alloc HRW.out _) ⟨wr.heap.size, 0, none⟩ 1 1 [.int .u8 ((255 - bits .xor .u8 (z) f) % 256)] rfl rfl ?c1 ?c2 ?c3 ?c4 ?c5 ?_)
      case c1 =>
        intro j u hj
        have hj0 : j = 0 := by
          have := (List.getElem?_eq_some_iff.1 hj).1
          simp at this
          omega
        subst hj0
        exact (ZX.cell 0).trans hj
      case c2 =>
        intro u hu
        simp at hu
        subst hu
        rfl
      case c3 => unfold maxLen; omega
      case c4 => omega
      case c5 => simp; omega
      intro v5 w5 hown5 hg5 _
      have hr5 : ∀ x, (Value.slice (some ⟨g, 0, none⟩) (4 + 2) cap).ownBlock = some x → w.heap.size ≤ x := fun x hx => (World.ownsRow.lt HRW.out x hx).1
      have gA5 : Grew w w5 := Below.grown (gA.alloc (.cells #[.int .u8 ((255 - bits .xor .u8 (z) f) % 256)] 5)) hg5 (by simp; omega) hr5
      have R5 : RowE w5 w.heap.size v5 q z b f 3 := hown5
      clear hg5 hown5 hr5 ZX c0
      go_wp2_with fail
      go_roundw
      case rel => exact ⟨3, by omega, by go_num, R5, gA5⟩
      case measure => simp [intOf]
    · have c0 : wr.cell? ⟨g, 3, none⟩ = some (.int .u8 (b)) := (HCL.out 3 (by omega)).trans rfl
      have cb : 0 ≤ b ∧ b ≤ 255 := by omega
      obtain ⟨cb0, cb1⟩ := cb
      have ZX := Own.new wr 5 #[.int .u8 ((255 - bits .xor .u8 (b) f) % 256)]
      go_wp2_with (at_builtin; refine wpList_append_own _ rfl _ _ 47 rfl w.heap.size 5 i0 (.int .u8 0) 1 1 Try.underlying47 hi hz0 hz1 hz2 rfl (by decide) _ _ _ rfl (World.ownsRow.alloc HRW.out _) ⟨wr.heap.size, 0, none⟩ 1 1 [.int .u8 ((255 - bits .xor .u8 (b) f) % 256)] rfl rfl ?c1 ?c2 ?c3 ?c4 ?c5 ?_)
      case c1 =>
        intro j u hj
        have hj0 : j = 0 := by
          have := (List.getElem?_eq_some_iff.1 hj).1
          simp at this
          omega
        subst hj0
        exact (ZX.cell 0).trans hj
      case c2 =>
        intro u hu
        simp at hu
        subst hu
        rfl
      case c3 => unfold maxLen; omega
      case c4 => omega
      case c5 => simp; omega
      intro v5 w5 hown5 hg5 _
      have hr5 : ∀ x, (Value.slice (some ⟨g, 0, none⟩) (4 + 3) cap).ownBlock = some x → w.heap.size ≤ x := fun x hx => (World.ownsRow.lt HRW.out x hx).1
      have gA5 : Grew w w5 := Below.grown (gA.alloc (.cells #[.int .u8 ((255 - bits .xor .u8 (b) f) % 256)] 5)) hg5 (by simp; omega) hr5
      have R5 : RowE w5 w.heap.size v5 q z b f 4 := hown5
      clear hg5 hown5 hr5 ZX c0
      go_wp2_with fail
      go_roundw
      case rel => exact ⟨4, by omega, by go_num, R5, gA5⟩
      case measure => simp [intOf]
    · have hcv := run_convert_bytes_arg (P := Try.prog) wr 47 5 Try.underlying47 Try.underlying5 g 0 8 cap (encN q z b f) rfl (fun i hi => by
        have h8 : i = 0 ∨ i = 1 ∨ i = 2 ∨ i = 3 ∨ i = 4 ∨ i = 5 ∨ i = 6 ∨ i = 7 := by omega
        rw [Nat.zero_add, HCL.out i (by omega)]
        rcases h8 with rfl | rfl | rfl | rfl | rfl | rfl | rfl | rfl <;> rfl) _ Try.underlying9
      go_wp2
      go_ret2
      exact ⟨rfl, gA⟩
set_option maxHeartbeats 1000000 in
theorem rEncode_invalid (q z b f : Int) (w : World) (hv : validI q z b = false) :
    Calls Try.prog 12 #[inoV q z b, .int .i64 f] w (RetG (.tuple #[.string { data := #[] }, .int .i64 1]) w) := by
  go_enter Try.func12, Try.ntmps12
  go_wp2_with (go_at_call 28; (with_reducible refine (rValid_s _ _ _ _).mono ?_); rintro e w1 ⟨rfl, rfl⟩)
  go_ret2
  exact ⟨rfl, ((Grew.refl _).alloc _).alloc _⟩
set_option maxHeartbeats 1000000 in
theorem rEncode_file (q z b f : Int) (w : World) (hv : validI q z b = true) (hf : withB f 7 = false) :
    Calls Try.prog 12 #[inoV q z b, .int .i64 f] w (RetG (.tuple #[.string { data := #[] }, .int .i64 2]) w) := by
  have hfc : f < 0 ∨ 0 ≤ f ∧ 8 ≤ f := by
    simp only [withB, decide_eq_false_iff_not] at hf
    omega
  clear hf
  rcases hfc with h | ⟨h, h'⟩
  · go_enter Try.func12, Try.ntmps12
    go_wp2_with (go_at_call 28; (with_reducible refine (rValid_s _ _ _ _).mono ?_); rintro e w1 ⟨rfl, rfl⟩)
    go_ret2
    exact ⟨rfl, ((Grew.refl _).alloc _).alloc _⟩
  · go_enter Try.func12, Try.ntmps12
    go_wp2_with (go_at_call 28; (with_reducible refine (rValid_s _ _ _ _).mono ?_); rintro e w1 ⟨rfl, rfl⟩)
    go_ret2
    exact ⟨rfl, ((Grew.refl _).alloc _).alloc _⟩
theorem rEncode_all (q z b f : Int) (w : World) :
    Calls Try.prog 12 #[inoV q z b, .int .i64 f] w (RetG (.tuple #[.string (encS q z b f), .int .i64 (encE q z b f)]) w) := by
  cases hv : validI q z b
  · exact (rEncode_invalid q z b f w hv).mono fun _ _ h => retG_of (by simp [encS, encE, hv]) h
  · cases hf : withB f 7
    · exact (rEncode_file q z b f w hv hf).mono fun _ _ h => retG_of (by simp [encS, encE, hv, hf]) h
    · exact (rEncode_ok q z b f w hv hf).mono fun _ _ h => retG_of (by simp [encS, encE, hv, hf]) h
end Go.Proofs.Ytbcakadefineiaa

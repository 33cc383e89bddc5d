/- The document's answers of layer 3, second part: Decode, Choose. -/
import Derived.Test.YtbcakadefineiaaRefI
import Derived.Test.YtbcakadefineiaaIno5
import Derived.RegionTactic
import Derived.ChangeAlike
import Derived.BigRegion
namespace Go.Proofs.Ytbcakadefineiaa
open Go.RowKit Go.Mine

theorem str_neB {a b : ByteArray} (h : a ≠ b) : (a.toList == b.toList) = false := by
  rw [ByteArray.toList_eq, ByteArray.toList_eq]
  refine beq_eq_false_iff_ne.2 fun e => h ?_
  cases a; cases b
  simp at e
  rw [e]
set_option maxHeartbeats 2000000 in
theorem rDecode_form (s : ByteArray) (f : Int) (w : World) (h : s.size ≠ 8 ∨ f < 0 ∨ 0 ≤ f ∧ 8 ≤ f) :
    Calls Try.prog 14 #[.string s, .int .i64 f] w (RetG (.tuple #[inoV 0 0 0, .bool false]) w) := by
  by_cases hs : s.size = 8
  · have h1 : ((s.size : Int) != 8) = false := by rw [bne_eq_false_iff_eq]; omega
    rcases h with h | h | ⟨h, h'⟩
    · exact absurd hs h
    all_goals
      clear hs
      go_enter Try.func14, Try.ntmps14
      go_wp2
      refine bodyPost_ret (v := .tuple #[inoV 0 0 0, .bool false]) (by simp [results, Try.results14, go_sem]) rfl ⟨rfl, ?_⟩
      exact (Grew.refl _).alloc _
  · have h1 : ((s.size : Int) != 8) = true := by rw [bne_iff_ne]; omega
    clear hs h
    go_enter Try.func14, Try.ntmps14
    go_wp2
    refine bodyPost_ret (v := .tuple #[inoV 0 0 0, .bool false]) (by simp [results, Try.results14, go_sem]) rfl ⟨rfl, ?_⟩
    exact (Grew.refl _).alloc _

theorem sec_self (x0 x1 x2 x3 x4 x5 x6 x7 : UInt8) (f : Int) (h : dOK { data := #[x0, x1, x2, x3, x4, x5, x6, x7] } f = true) : secS ((x0.toNat : Int) * 256 + x1.toNat) x2.toNat x3.toNat f = { data := #[x0, x1, x2, x3, x4, x5, x6, x7] } := by
  unfold dOK at h
  simp only [Bool.and_eq_true, decide_eq_true_eq] at h
  obtain ⟨-, -, ⟨g4, g5, g6, g7⟩, -⟩ := h
  have e0 : ((x0.toNat : Int) * 256 + x1.toNat) / 256 = x0.toNat := by have := byte_bd x1; omega
  have e1 : ((x0.toNat : Int) * 256 + x1.toNat) % 256 = x1.toNat := by have := byte_bd x1; omega
  have k4 : gd x0.toNat f = x4.toNat := g4.symm
  have k5 : gd x1.toNat f = x5.toNat := g5.symm
  have k6 : gd x2.toNat f = x6.toNat := g6.symm
  have k7 : gd x3.toNat f = x7.toNat := g7.symm
  unfold secS
  rw [e0, e1, k4, k5, k6, k7]
  simp [strOfNums]
set_option maxHeartbeats 4000000 in
theorem rDecode_8 (x0 x1 x2 x3 x4 x5 x6 x7 : UInt8) (f : Int) (w : World) (hf : withB f 7 = true) :
    Calls Try.prog 14 #[.string { data := #[x0, x1, x2, x3, x4, x5, x6, x7] }, .int .i64 f] w
      (RetG (.tuple #[inoV (dQ { data := #[x0, x1, x2, x3, x4, x5, x6, x7] } f) (dZ { data := #[x0, x1, x2, x3, x4, x5, x6, x7] } f) (dB { data := #[x0, x1, x2, x3, x4, x5, x6, x7] } f), .bool (dOK { data := #[x0, x1, x2, x3, x4, x5, x6, x7] } f)]) w) := by
  obtain ⟨f0, f1⟩ := file_bd hf
  have f2 : ¬ f < 0 := by omega
  have f3 : ¬ 8 ≤ f := by omega
  have h1 : ByteArray.size { data := #[x0, x1, x2, x3, x4, x5, x6, x7] } = 8 := rfl
  have gA := Grew.refl w
  have b0 := byte_bd x0
  have b1 := byte_bd x1
  have b2 := byte_bd x2
  have b3 := byte_bd x3
  obtain ⟨b00, b01⟩ := b0
  obtain ⟨b10, b11⟩ := b1
  obtain ⟨b20, b21⟩ := b2
  obtain ⟨b30, b31⟩ := b3
  generalize hv : Value.tuple #[inoV (dQ { data := #[x0, x1, x2, x3, x4, x5, x6, x7] } f) (dZ { data := #[x0, x1, x2, x3, x4, x5, x6, x7] } f) (dB { data := #[x0, x1, x2, x3, x4, x5, x6, x7] } f), .bool (dOK { data := #[x0, x1, x2, x3, x4, x5, x6, x7] } f)] = V
  have HV := Lib.hid hv
  clear hv
  go_enter Try.func14, Try.ntmps14
  go_wp2_with fail
  go_region
  have k0 : wrap64 (x0.toNat : Int) = x0.toNat := IntWalk.wrap64_in _ (by omega)
  have k1 : wrap64 (x1.toNat : Int) = x1.toNat := IntWalk.wrap64_in _ (by omega)
  have k4 : wrap64 ((x0.toNat : Int) * 256) = (x0.toNat : Int) * 256 := IntWalk.wrap64_in _ (by omega)
  have k5 : wrap64 ((x0.toNat : Int) * 256 + x1.toNat) = (x0.toNat : Int) * 256 + x1.toNat := IntWalk.wrap64_in _ (by omega)
  have kQ : wrap64 (wrap64 (wrap64 ((({ data := #[x0, x1, x2, x3, x4, x5, x6, x7] } : ByteArray)[0]'(show 0 < 8 from by decide)).toNat : Int) * 256) + wrap64 ((({ data := #[x0, x1, x2, x3, x4, x5, x6, x7] } : ByteArray)[1]'(show 1 < 8 from by decide)).toNat : Int)) = (x0.toNat : Int) * 256 + x1.toNat := by
    show wrap64 (wrap64 (wrap64 (x0.toNat : Int) * 256) + wrap64 (x1.toNat : Int)) = _
    rw [k0, k1, k4, k5]
  have kZ : wrap64 ((({ data := #[x0, x1, x2, x3, x4, x5, x6, x7] } : ByteArray)[2]'(show 2 < 8 from by decide)).toNat : Int) = (x2.toNat : Int) := IntWalk.wrap64_in (x2.toNat : Int) (by omega)
  have kB : wrap64 ((({ data := #[x0, x1, x2, x3, x4, x5, x6, x7] } : ByteArray)[3]'(show 3 < 8 from by decide)).toNat : Int) = (x3.toNat : Int) := IntWalk.wrap64_in (x3.toNat : Int) (by omega)
  rw [kQ, kZ, kB]
  clear k0 k1 k4 k5 kQ kZ kB
  have R := (Own.new w 28 #[.int .i64 0, .int .i64 0, .int .i64 0]).alloc (.cells #[.int .i64 ((x0.toNat : Int) * 256 + x1.toNat), .int .i64 x2.toNat, .int .i64 x3.toNat] 28) |>.drew
  have X := (Own.new2 w (.cells #[.int .i64 0, .int .i64 0, .int .i64 0] 28) 28 #[.int .i64 ((x0.toNat : Int) * 256 + x1.toNat), .int .i64 x2.toNat, .int .i64 x3.toNat]).drew
  replace gA := ((gA.alloc (.cells #[.int .i64 0, .int .i64 0, .int .i64 0] 28)).alloc (.cells #[.int .i64 ((x0.toNat : Int) * 256 + x1.toNat), .int .i64 x2.toNat, .int .i64 x3.toNat] 28)).drew
  cases hb : validI ((x0.toNat : Int) * 256 + x1.toNat) x2.toNat x3.toNat
  · have hd : dOK { data := #[x0, x1, x2, x3, x4, x5, x6, x7] } f = false := by
      unfold dOK
      rw [show validI (by8 { data := #[x0, x1, x2, x3, x4, x5, x6, x7] } 0 * 256 + by8 { data := #[x0, x1, x2, x3, x4, x5, x6, x7] } 1) (by8 { data := #[x0, x1, x2, x3, x4, x5, x6, x7] } 2) (by8 { data := #[x0, x1, x2, x3, x4, x5, x6, x7] } 3) = false from hb]
      simp
    have HD := Lib.hid hd
    clear hd
    go_wp2_with fail
    with_reducible refine (rEncode_invalid _ _ _ _ _ hb).mono ?_
    rintro e w1 ⟨rfl, g1⟩
    replace R := R.grew g1
    replace gA := gA.trans g1
    clear X g1
    obtain ⟨R0, R1, R2, R3, R4, R5⟩ := R.three
    have l_R := R.lt
    go_wp2
    rw [show V = .tuple #[inoV 0 0 0, .bool false] from by rw [← HV.out]; simp [dQ, dZ, dB, HD.out]]
    refine bodyPost_ret (v := .tuple #[inoV 0 0 0, .bool false]) (by simp [results, Try.results14, go_sem, R0, R1, R2]) rfl ⟨rfl, ?_⟩
    exact ((gA.set (by simp) _).set (by simp) _).set (by simp) _
  · cases hd : dOK { data := #[x0, x1, x2, x3, x4, x5, x6, x7] } f
    · have hs := str_neB (a := secS ((x0.toNat : Int) * 256 + x1.toNat) x2.toNat x3.toNat f) (b := { data := #[x0, x1, x2, x3, x4, x5, x6, x7] }) (fun e => by rw [← e, sec_ok hb hf] at hd; exact absurd hd (by decide))
      rw [show ByteArray.toList { data := #[x0, x1, x2, x3, x4, x5, x6, x7] } = [x0, x1, x2, x3, x4, x5, x6, x7] from ByteArray.toList_mk [x0, x1, x2, x3, x4, x5, x6, x7]] at hs
      have HD := Lib.hid hd
      clear hd
      go_wp2_with fail
      with_reducible refine (rEncode_ok _ _ _ _ _ hb hf).mono ?_
      rintro e w1 ⟨rfl, g1⟩
      replace R := R.grew g1
      replace gA := gA.trans g1
      clear X g1
      obtain ⟨R0, R1, R2, R3, R4, R5⟩ := R.three
      have l_R := R.lt
      go_wp2
      rw [show V = .tuple #[inoV 0 0 0, .bool false] from by rw [← HV.out]; simp [dQ, dZ, dB, HD.out]]
      refine bodyPost_ret (v := .tuple #[inoV 0 0 0, .bool false]) (by simp [results, Try.results14, go_sem, R0, R1, R2]) rfl ⟨rfl, ?_⟩
      exact ((gA.set (by simp) _).set (by simp) _).set (by simp) _
    · have henc := fun w => (rEncode_ok ((x0.toNat : Int) * 256 + x1.toNat) x2.toNat x3.toNat f w hb hf).mono fun _ _ k => retG_of (by rw [sec_self x0 x1 x2 x3 x4 x5 x6 x7 f hd]) k
      have HD := Lib.hid hd
      have HE := Lib.hid henc
      clear hd henc
      go_wp2_with fail
      refine (HE.out _).mono ?_
      rintro e w1 ⟨rfl, g1⟩
      replace R := R.grew g1
      replace X := X.grew g1
      replace gA := gA.trans g1
      clear g1
      obtain ⟨R0, R1, R2, R3, R4, R5⟩ := R.three
      obtain ⟨X0, X1, X2, X3, X4, X5⟩ := X.three
      have l_R := R.lt
      have l_X := X.lt
      go_wp2
      rw [show V = .tuple #[inoV ((x0.toNat : Int) * 256 + x1.toNat) x2.toNat x3.toNat, .bool true] from by rw [← HV.out]; simp only [dQ, dZ, dB, HD.out, if_true]; rfl]
      refine bodyPost_ret (v := .tuple #[inoV ((x0.toNat : Int) * 256 + x1.toNat) x2.toNat x3.toNat, .bool true]) (by simp [results, Try.results14, go_sem, R0, R1, R2]) rfl ⟨rfl, ?_⟩
      exact ((gA.set (by simp) _).set (by simp) _).set (by simp) _
theorem rDecode_all (s : ByteArray) (f : Int) (w : World) :
    Calls Try.prog 14 #[.string s, .int .i64 f] w (RetG (.tuple #[inoV (dQ s f) (dZ s f) (dB s f), .bool (dOK s f)]) w) := by
  by_cases h : s.size = 8
  · cases hf : withB f 7
    · have e : dOK s f = false := by simp [dOK, hf]
      have hfc : f < 0 ∨ 0 ≤ f ∧ 8 ≤ f := by
        simp only [withB, decide_eq_false_iff_not] at hf
        omega
      exact (rDecode_form s f w (.inr hfc)).mono fun _ _ k => retG_of (by simp [dQ, dZ, dB, e]) k
    · obtain ⟨x0, x1, x2, x3, x4, x5, x6, x7, rfl⟩ := eight s h
      exact rDecode_8 x0 x1 x2 x3 x4 x5 x6 x7 f w hf
  · have e : dOK s f = false := by simp [dOK, h]
    exact (rDecode_form s f w (.inl h)).mono fun _ _ k => retG_of (by simp [dQ, dZ, dB, e]) k

set_option maxHeartbeats 4000000 in
theorem rChoose_all (a b : ByteArray) (f : Int) (w : World) :
    Calls Try.prog 16 #[.string a, .string b, .int .i64 f] w (RetG (.tuple #[inoV (chQ a b f) (chZ a b f) (chX a b f), .int .i64 (chI a b f), .bool (chO a b f)]) w) := by
  have e1 : dOK a f = false ∧ dOK b f = false ∨ dOK a f = true ∧ dOK b f = false ∨ dOK a f = false ∧ dOK b f = true ∨ dOK a f = true ∧ dOK b f = true ∧ decide (dQ b f ≤ dQ a f) = true ∨ dOK a f = true ∧ dOK b f = true ∧ decide (dQ b f ≤ dQ a f) = false := by
    cases dOK b f <;> cases dOK a f <;> cases decide (dQ b f ≤ dQ a f) <;> simp
  have e9 : decide (dQ a f < dQ b f) = !decide (dQ b f ≤ dQ a f) := by
    by_cases h : dQ b f ≤ dQ a f
    · rw [decide_eq_true h, decide_eq_false (by omega)]; rfl
    · rw [decide_eq_false h, decide_eq_true (by omega)]; rfl
  have E9 := Lib.hid e9
  clear e9
  have hz : dOK a f = false → dQ a f = 0 ∧ dZ a f = 0 ∧ dB a f = 0 := fun h => by simp [dQ, dZ, dB, h]
  have HZ := Lib.hid hz
  clear hz
  generalize hv : Value.tuple #[inoV (chQ a b f) (chZ a b f) (chX a b f), .int .i64 (chI a b f), .bool (chO a b f)] = V
  have HV := Lib.hid hv
  clear hv
  have gA := Grew.refl w
  rcases e1 with ⟨e, e'⟩ | ⟨e, e'⟩ | ⟨e, e'⟩ | ⟨e, e', e2⟩ | ⟨e, e', e2⟩
  all_goals
    go_enter Try.func16, Try.ntmps16
    go_wp2_with fail
    with_reducible refine (rDecode_all _ _ _).mono ?_
    rintro e w1 ⟨rfl, g_w1⟩
    have s_w1 : Grew w w1 := by first | exact g_w1 | exact ((Grew.refl _).alloc _).trans g_w1 | exact (((Grew.refl _).alloc _).alloc _).trans g_w1 | exact (Grew.refl _).drew.trans g_w1 | exact ((Grew.refl _).alloc _).drew.trans g_w1 | exact ((Grew.refl _).drewN _).trans g_w1
    have z_w1 := s_w1.size
    have R := (Own.new w _ _).grew g_w1
    have l_R_w1 := R.lt
    obtain ⟨R0, R1, R2, R3, R4, R5⟩ := R.three
    replace gA := gA.trans s_w1
    clear g_w1 s_w1
    go_wp2_with fail
    with_reducible refine (rDecode_all _ _ _).mono ?_
    rintro e w2 ⟨rfl, g_w2⟩
    have s_w2 : Grew w1 w2 := by first | exact g_w2 | exact ((Grew.refl _).alloc _).trans g_w2 | exact (((Grew.refl _).alloc _).alloc _).trans g_w2 | exact (Grew.refl _).drew.trans g_w2 | exact ((Grew.refl _).alloc _).drew.trans g_w2 | exact ((Grew.refl _).drewN _).trans g_w2
    have z_w2 := s_w2.size
    replace R := R.grew s_w2
    clear R0 R1 R2 R3 R4 R5
    have l_R_w2 := R.lt
    have C := (Own.new w1 _ _).grew g_w2
    have l_C_w2 := C.lt
    obtain ⟨R0, R1, R2, R3, R4, R5⟩ := R.three
    obtain ⟨C0, C1, C2, C3, C4, C5⟩ := C.three
    replace gA := gA.trans s_w2
    clear g_w2 s_w2
    go_wp2
    refine bodyPost_ret (v := V) ?_ rfl ⟨rfl, ?_⟩
    · have hz := HZ.out
      have e9 := E9.out
      rw [← HV.out]
      simp [results, Try.results16, go_sem, chQ, chZ, chX, chI, chO, chB, *]
    · repeat (first | with_reducible exact gA | with_reducible refine Grew.set ?_ (by simp) _ | with_reducible refine Grew.alloc ?_ _)
end Go.Proofs.Ytbcakadefineiaa

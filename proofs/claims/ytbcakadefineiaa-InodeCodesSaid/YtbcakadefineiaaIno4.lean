/- The contracts of package inode (layer 3), fourth part: Decode whole, Choose, Next, Torn. -/
import Derived.Test.YtbcakadefineiaaIno3
namespace Go.Proofs.Ytbcakadefineiaa
open Go.RowKit Go.Mine

/-- The byte at a place, as a number. -/
def by8 (s : ByteArray) (i : Nat) : Int := ((s.data.toList.getD i 0).toNat : Int)
def dOK (s : ByteArray) (f : Int) : Bool :=
  decide (s.size = 8) && (withB f 7 && (decide (by8 s 4 = gd (by8 s 0) f ∧ by8 s 5 = gd (by8 s 1) f ∧ by8 s 6 = gd (by8 s 2) f ∧ by8 s 7 = gd (by8 s 3) f) && validI (by8 s 0 * 256 + by8 s 1) (by8 s 2) (by8 s 3)))
def dQ (s : ByteArray) (f : Int) : Int := if dOK s f = true then by8 s 0 * 256 + by8 s 1 else 0
def dZ (s : ByteArray) (f : Int) : Int := if dOK s f = true then by8 s 2 else 0
def dB (s : ByteArray) (f : Int) : Int := if dOK s f = true then by8 s 3 else 0
theorem eight (s : ByteArray) (h : s.size = 8) : ∃ x0 x1 x2 x3 x4 x5 x6 x7 : UInt8, s = { data := #[x0, x1, x2, x3, x4, x5, x6, x7] } := by
  obtain ⟨⟨l⟩⟩ := s
  have hl : l.length = 8 := h
  match l, hl with
  | [x0, x1, x2, x3, x4, x5, x6, x7], _ => exact ⟨x0, x1, x2, x3, x4, x5, x6, x7, rfl⟩

theorem decode_all (s : ByteArray) (f : Int) (w : World) :
    Calls Try.prog 13 #[.string s, .int .i64 f] w (RetG (.tuple #[inoV (dQ s f) (dZ s f) (dB s f), .bool (dOK s f)]) w) := by
  by_cases h : s.size = 8
  · cases hf : withB f 7
    · have e : dOK s f = false := by simp [dOK, hf]
      exact (decode_file s f w h hf).mono fun _ _ k => retG_of (by simp [dQ, dZ, dB, e]) k
    · obtain ⟨x0, x1, x2, x3, x4, x5, x6, x7, rfl⟩ := eight s h
      refine (decode_8 x0 x1 x2 x3 x4 x5 x6 x7 f w hf).mono fun _ _ k => retG_of ?_ k
      have e : dOK { data := #[x0, x1, x2, x3, x4, x5, x6, x7] } f = okB x0 x1 x2 x3 x4 x5 x6 x7 f := by
        unfold dOK okB guardB
        rw [hf]
        rfl
      unfold dec8 dQ dZ dB
      rw [e]
      cases okB x0 x1 x2 x3 x4 x5 x6 x7 f <;> rfl
  · have e : dOK s f = false := by simp [dOK, h]
    exact (decode_form s f w h).mono fun _ _ k => retG_of (by simp [dQ, dZ, dB, e]) k

/-! Choose. -/
def chB (a b : ByteArray) (f : Int) : Bool := dOK b f && (!dOK a f || decide (dQ a f < dQ b f))
def chQ (a b : ByteArray) (f : Int) : Int := if chB a b f = true then dQ b f else dQ a f
def chZ (a b : ByteArray) (f : Int) : Int := if chB a b f = true then dZ b f else dZ a f
def chX (a b : ByteArray) (f : Int) : Int := if chB a b f = true then dB b f else dB a f
def chI (a b : ByteArray) (f : Int) : Int := if chB a b f = true then 1 else 0
def chO (a b : ByteArray) (f : Int) : Bool := chB a b f || dOK a f

set_option maxHeartbeats 4000000 in
theorem choose_all (a b : ByteArray) (f : Int) (w : World) :
    Calls Try.prog 15 #[.string a, .string b, .int .i64 f] w (RetG (.tuple #[inoV (chQ a b f) (chZ a b f) (chX a b f), .int .i64 (chI a b f), .bool (chO a b f)]) w) := by
  have e1 : dOK b f = false ∨ dOK b f = true ∧ dOK a f = false ∨ dOK b f = true ∧ dOK a f = true ∧ decide (dQ a f < dQ b f) = true ∨ dOK b f = true ∧ dOK a f = true ∧ decide (dQ a f < dQ b f) = false := by
    cases dOK b f <;> cases dOK a f <;> cases decide (dQ a f < dQ b f) <;> simp
  generalize hv : Value.tuple #[inoV (chQ a b f) (chZ a b f) (chX a b f), .int .i64 (chI a b f), .bool (chO a b f)] = V
  have HV := Lib.hid hv
  clear hv
  have gA := Grew.refl w
  rcases e1 with e | ⟨e, e'⟩ | ⟨e, e', e2⟩ | ⟨e, e', e2⟩
  all_goals
    go_enter Try.func15, Try.ntmps15
    go_wp2_with fail
    with_reducible refine (decode_all _ _ _).mono ?_
    rintro e w1 ⟨rfl, g_w1⟩
    have s_w1 : Grew w w1 := by first | exact g_w1 | exact ((Grew.refl _).alloc _).trans g_w1 | exact (((Grew.refl _).alloc _).alloc _).trans g_w1 | exact (Grew.refl _).drew.trans g_w1 | exact ((Grew.refl _).alloc _).drew.trans g_w1 | exact ((Grew.refl _).drewN _).trans g_w1
    have z_w1 := s_w1.size
    have R := (Own.new w _ _).grew g_w1
    have l_R_w1 := R.lt
    obtain ⟨R0, R1, R2, R3, R4, R5⟩ := R.three
    replace gA := gA.trans s_w1
    clear g_w1 s_w1
    go_wp2_with fail
    with_reducible refine (decode_all _ _ _).mono ?_
    rintro e w2 ⟨rfl, g_w2⟩
    have s_w2 : Grew w1 w2 := by first | exact g_w2 | exact ((Grew.refl _).alloc _).trans g_w2 | exact (((Grew.refl _).alloc _).alloc _).trans g_w2 | exact (Grew.refl _).drew.trans g_w2 | exact ((Grew.refl _).alloc _).drew.trans g_w2 | exact ((Grew.refl _).drewN _).trans g_w2
    have z_w2 := s_w2.size
    replace R := R.grew s_w2
    clear R0 R1 R2 R3 R4 R5
    have l_R_w2 := R.lt
    have C := (Own.new w1 _ _).grew g_w2
    have l_C_w2 := C.lt
    obtain ⟨R0, R1, R2, R3, R4, R5⟩ := R.three
    obtain ⟨C0, C1, C2, C3, C4, C5⟩ := C.three
    replace gA := gA.trans s_w2
    clear g_w2 s_w2
    go_wp2
    refine bodyPost_ret (v := V) ?_ rfl ⟨rfl, ?_⟩
    · rw [← HV.out]
      simp [results, Try.results15, go_sem, chQ, chZ, chX, chI, chO, chB, *]
    · repeat (first | with_reducible exact gA | with_reducible refine Grew.set ?_ (by simp) _ | with_reducible refine Grew.alloc ?_ _)

/-! Next. -/
def nxE (q z b : Int) : Int := if validI q z b = true then (if q = 65535 then 3 else 0) else 1
def nxQ (q z b : Int) : Int := if nxE q z b = 0 then q + 1 else 0
def nxZ (q z b : Int) : Int := if nxE q z b = 0 then z else 0
def nxB (q z b : Int) : Int := if nxE q z b = 0 then b else 0
set_option maxHeartbeats 1000000 in
theorem next_all (q z b : Int) (w : World) :
    Calls Try.prog 17 #[inoV q z b] w (RetG (.tuple #[inoV (nxQ q z b) (nxZ q z b) (nxB q z b), .int .i64 (nxE q z b)]) w) := by
  generalize hv : Value.tuple #[inoV (nxQ q z b) (nxZ q z b) (nxB q z b), .int .i64 (nxE q z b)] = V
  have HV := Lib.hid hv
  clear hv
  cases h : validI q z b
  · go_enter Try.func17, Try.ntmps17
    go_wp2_with (go_at_call 24; (with_reducible refine (isValid_any _ _ _ _).mono ?_); rintro e w1 ⟨rfl, rfl⟩)
    rw [show V = .tuple #[inoV 0 0 0, .int .i64 1] from by simp [← HV.out, nxQ, nxZ, nxB, nxE, h]]
    refine bodyPost_ret (v := .tuple #[inoV 0 0 0, .int .i64 1]) (by simp [results, Try.results17, go_sem]) rfl ⟨rfl, ?_⟩
    repeat (first | with_reducible exact Grew.refl _ | with_reducible refine Grew.set ?_ (by simp) _ | with_reducible refine Grew.alloc ?_ _)
  · obtain ⟨q0, q1, -, -, -, -⟩ := valid_bd h
    by_cases hq : q = 65535
    · have hq1 : (q == 65535) = true := by simpa using hq
      have HQ := Lib.hid hq
      clear hq
      go_enter Try.func17, Try.ntmps17
      go_wp2_with (go_at_call 24; (with_reducible refine (isValid_any _ _ _ _).mono ?_); rintro e w1 ⟨rfl, rfl⟩)
      rw [show V = .tuple #[inoV 0 0 0, .int .i64 3] from by rw [← HV.out]; simp [nxQ, nxZ, nxB, show nxE q z b = 3 from by unfold nxE; rw [if_pos h, if_pos HQ.out]]]
      refine bodyPost_ret (v := .tuple #[inoV 0 0 0, .int .i64 3]) (by simp [results, Try.results17, go_sem]) rfl ⟨rfl, ?_⟩
      repeat (first | with_reducible exact Grew.refl _ | with_reducible refine Grew.set ?_ (by simp) _ | with_reducible refine Grew.alloc ?_ _)
    · have hq1 : (q == 65535) = false := by simpa using hq
      go_enter Try.func17, Try.ntmps17
      go_wp2_with (go_at_call 24; (with_reducible refine (isValid_any _ _ _ _).mono ?_); rintro e w1 ⟨rfl, rfl⟩)
      rw [show V = .tuple #[inoV (q + 1) z b, .int .i64 0] from by simp [← HV.out, nxQ, nxZ, nxB, nxE, h, hq]]
      refine bodyPost_ret (v := .tuple #[inoV (q + 1) z b, .int .i64 0]) (by simp [results, Try.results17, go_sem]) rfl ⟨rfl, ?_⟩
      repeat (first | with_reducible exact Grew.refl _ | with_reducible refine Grew.set ?_ (by simp) _ | with_reducible refine Grew.alloc ?_ _)

/-! Torn. -/
def tnE (a b : ByteArray) (h : Int) : Int := if a.size = 8 ∧ b.size = 8 then (if h = 0 ∨ h = 1 then 0 else 2) else 6
def tnS (a b : ByteArray) (h : Int) : ByteArray := if tnE a b h = 0 then (if h = 0 then b.extract 0 4 ++ a.extract 4 8 else a.extract 0 4 ++ b.extract 4 8) else { data := #[] }
set_option maxHeartbeats 1000000 in
theorem torn_form (a b : ByteArray) (h : Int) (w : World) (hs : ¬ (a.size = 8 ∧ b.size = 8)) :
    Calls Try.prog 20 #[.string a, .string b, .int .i64 h] w (RetG (.tuple #[.string { data := #[] }, .int .i64 6]) w) := by
  by_cases ha : a.size = 8
  · have hb : ((b.size : Int) != 8) = true := by rw [bne_iff_ne]; omega
    have h1 : ((a.size : Int) != 8) = false := by rw [bne_eq_false_iff_eq]; omega
    clear ha hs
    go_enter Try.func20, Try.ntmps20
    go_wp2
    go_ret2
    exact ⟨rfl, Grew.refl _⟩
  · have h1 : ((a.size : Int) != 8) = true := by rw [bne_iff_ne]; omega
    clear ha hs
    go_enter Try.func20, Try.ntmps20
    go_wp2
    go_ret2
    exact ⟨rfl, Grew.refl _⟩
set_option maxHeartbeats 2000000 in
theorem torn_8 (a b : ByteArray) (h : Int) (w : World) (ha : a.size = 8) (hb : b.size = 8) :
    Calls Try.prog 20 #[.string a, .string b, .int .i64 h] w (RetG (.tuple #[.string (tnS a b h), .int .i64 (tnE a b h)]) w) := by
  generalize hv : Value.tuple #[.string (tnS a b h), .int .i64 (tnE a b h)] = V
  have HV := Lib.hid hv
  clear hv
  have n1 : (a.extract 0 4).size = 4 := by simp [ByteArray.size_extract, ha]
  have n2 : (a.extract 4 8).size = 4 := by simp [ByteArray.size_extract, ha]
  have n3 : (b.extract 0 4).size = 4 := by simp [ByteArray.size_extract, hb]
  have n4 : (b.extract 4 8).size = 4 := by simp [ByteArray.size_extract, hb]
  by_cases h0 : h = 0
  · subst h0
    go_enter Try.func20, Try.ntmps20
    go_wp2
    go_region
    all_goals go_wp2
    all_goals go_ret2
    all_goals exact ⟨by rw [← HV.out]; simp [tnS, tnE, ha, hb], (Grew.refl _).drew⟩
  · by_cases h1 : h = 1
    · subst h1
      go_enter Try.func20, Try.ntmps20
      go_wp2
      go_region
      all_goals go_wp2
      all_goals go_ret2
      all_goals exact ⟨by rw [← HV.out]; simp [tnS, tnE, ha, hb], (Grew.refl _).drew⟩
    · have e0 : (h == 0) = false := by simpa using h0
      have e1 : (h == 1) = false := by simpa using h1
      go_enter Try.func20, Try.ntmps20
      go_wp2
      go_ret2
      exact ⟨by rw [← HV.out]; simp [tnS, tnE, ha, hb, h0, h1], Grew.refl _⟩
theorem torn_all (a b : ByteArray) (h : Int) (w : World) :
    Calls Try.prog 20 #[.string a, .string b, .int .i64 h] w (RetG (.tuple #[.string (tnS a b h), .int .i64 (tnE a b h)]) w) := by
  by_cases hs : a.size = 8 ∧ b.size = 8
  · exact torn_8 a b h w hs.1 hs.2
  · exact (torn_form a b h w hs).mono fun _ _ k => retG_of (by simp [tnS, tnE, hs]) k
end Go.Proofs.Ytbcakadefineiaa

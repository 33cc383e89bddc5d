/- The contracts of package inode (layer 3), second part: Encode. -/
import Derived.Test.YtbcakadefineiaaIno
namespace Go.Proofs.Ytbcakadefineiaa
open Go.RowKit Go.Mine

theorem isFile_g (f : Int) (w : World) : Calls Try.prog 25 #[.int .i64 f] w (RetG (.bool (withB f 7)) w) :=
  (isFile_any f w).mono fun _ _ ⟨h, k⟩ => ⟨h, k ▸ Grew.refl _⟩
theorem isValid_g (q z b : Int) (w : World) : Calls Try.prog 24 #[inoV q z b] w (RetG (.bool (validI q z b)) w) :=
  (isValid_any q z b w).mono fun _ _ ⟨h, k⟩ => ⟨h, k ▸ (Grew.refl _).alloc _⟩

/-- Four bytes as a string. -/
theorem conv4 (b cap : Nat) (a0 a1 a2 a3 : Int) (W : World) (h0 : W.cell? ⟨b, 0, none⟩ = some (.int .u8 a0)) (h1 : W.cell? ⟨b, 1, none⟩ = some (.int .u8 a1)) (h2 : W.cell? ⟨b, 2, none⟩ = some (.int .u8 a2)) (h3 : W.cell? ⟨b, 3, none⟩ = some (.int .u8 a3)) :
    (convert 47 9 (.slice (some ⟨b, 0, none⟩) 4 cap)).run Try.prog W = .ok (.string (strOfNums [a0, a1, a2, a3])) W :=
  run_convert_bytes_arg W _ _ Try.underlying47 Try.underlying5 b 0 4 cap [a0, a1, a2, a3] rfl (fun i hi => by
    have : i = 0 ∨ i = 1 ∨ i = 2 ∨ i = 3 := by omega
    rcases this with rfl | rfl | rfl | rfl <;> simp [h0, h1, h2, h3]) _ Try.underlying9

/-- The sector of an inode. -/
def secS (q z b f : Int) : ByteArray := strOfNums [q / 256, q % 256, z, b, gd (q / 256) f, gd (q % 256) f, gd z f, gd b f]
theorem sec_join (a0 a1 a2 a3 b0 b1 b2 b3 : Int) : strOfNums [a0, a1, a2, a3] ++ strOfNums [b0, b1, b2, b3] = strOfNums [a0, a1, a2, a3, b0, b1, b2, b3] := rfl
def encE (q z b f : Int) : Int := if validI q z b = true then (if withB f 7 = true then 0 else 2) else 1
def encS (q z b f : Int) : ByteArray := if encE q z b f = 0 then secS q z b f else { data := #[] }

set_option maxHeartbeats 2000000 in
theorem encode_ok (q z b f : Int) (w : World) (hv : validI q z b = true) (hf : withB f 7 = true) :
    Calls Try.prog 11 #[inoV q z b, .int .i64 f] w (RetG (.tuple #[.string (secS q z b f), .int .i64 0]) w) := by
  obtain ⟨f0, f1⟩ := file_bd hf
  have gA := Grew.refl w
  go_enter Try.func11, Try.ntmps11
  go_wp2_with fail
  with_reducible refine (isValid_g _ _ _ _).mono ?_
  rintro e w1 ⟨rfl, g_w1⟩
  have s_w1 : Grew w w1 := by first | exact g_w1 | exact ((Grew.refl _).alloc _).trans g_w1 | exact (((Grew.refl _).alloc _).alloc _).trans g_w1 | exact (Grew.refl _).drew.trans g_w1 | exact ((Grew.refl _).alloc _).drew.trans g_w1 | exact ((Grew.refl _).drewN _).trans g_w1
  have z_w1 := s_w1.size
  have X := (Own.new w _ _).grew g_w1
  have l_X_w1 := X.lt
  obtain ⟨X0, X1, X2, X3, X4, X5⟩ := X.three
  replace gA := gA.trans s_w1
  clear g_w1 s_w1
  go_wp2_with fail
  with_reducible refine (isFile_g _ _).mono ?_
  rintro e w2 ⟨rfl, g_w2⟩
  have s_w2 : Grew w1 w2 := by first | exact g_w2 | exact ((Grew.refl _).alloc _).trans g_w2 | exact (((Grew.refl _).alloc _).alloc _).trans g_w2 | exact (Grew.refl _).drew.trans g_w2 | exact ((Grew.refl _).alloc _).drew.trans g_w2 | exact ((Grew.refl _).drewN _).trans g_w2
  have z_w2 := s_w2.size
  replace X := X.grew s_w2
  clear X0 X1 X2 X3 X4 X5
  have l_X_w2 := X.lt
  obtain ⟨X0, X1, X2, X3, X4, X5⟩ := X.three
  replace gA := gA.trans s_w2
  clear g_w2 s_w2
  go_wp2_with fail
  with_reducible refine (contentOf_any _ _ _ _ hv).mono ?_
  rintro e w3 ⟨rfl, g_w3⟩
  have s_w3 : Grew w2 w3 := by first | exact g_w3 | exact ((Grew.refl _).alloc _).trans g_w3 | exact (((Grew.refl _).alloc _).alloc _).trans g_w3 | exact (Grew.refl _).drew.trans g_w3 | exact ((Grew.refl _).alloc _).drew.trans g_w3 | exact ((Grew.refl _).drewN _).trans g_w3
  have z_w3 := s_w3.size
  replace X := X.grew s_w3
  clear X0 X1 X2 X3 X4 X5
  have l_X_w3 := X.lt
  obtain ⟨X0, X1, X2, X3, X4, X5⟩ := X.three
  replace gA := gA.trans s_w3
  clear g_w3 s_w3
  go_wp2_with fail
  with_reducible refine (guardFor_any _ _ _ _ _ _ f0 f1).mono ?_
  rintro e w4 ⟨rfl, g_w4⟩
  have s_w4 : Grew w3 w4 := by first | exact g_w4 | exact ((Grew.refl _).alloc _).trans g_w4 | exact (((Grew.refl _).alloc _).alloc _).trans g_w4 | exact (Grew.refl _).drew.trans g_w4 | exact ((Grew.refl _).alloc _).drew.trans g_w4 | exact ((Grew.refl _).drewN _).trans g_w4
  have z_w4 := s_w4.size
  have C := (Own.new w3 _ _).grew g_w4
  have l_C_w4 := C.lt
  obtain ⟨C0, C1, C2, C3, C4, C5, C6, C7⟩ := C.four
  replace gA := gA.trans s_w4
  clear g_w4 s_w4
  have D := (Own.new w4 54 #[.int .u8 (gd (q / 256) f), .int .u8 (gd (q % 256) f), .int .u8 (gd z f), .int .u8 (gd b f)])
  replace C := C.alloc (.cells #[.int .u8 (gd (q / 256) f), .int .u8 (gd (q % 256) f), .int .u8 (gd z f), .int .u8 (gd b f)] 54)
  replace gA := gA.alloc (.cells #[.int .u8 (gd (q / 256) f), .int .u8 (gd (q % 256) f), .int .u8 (gd z f), .int .u8 (gd b f)] 54)
  go_wp2_with fail
  clear C0 C1 C2 C3 C4 C5 C6 C7 X X0 X1 X2 X3 X4 X5
  obtain ⟨C0, C1, C2, C3, C4, C5, C6, C7⟩ := C.four
  obtain ⟨D0, D1, D2, D3, D4, D5, D6, D7⟩ := D.four
  have kc := fun W => conv4 w3.heap.size 4 (q / 256) (q % 256) z b W
  have kd := fun W => conv4 w4.heap.size 4 (gd (q / 256) f) (gd (q % 256) f) (gd z f) (gd b f) W
  have n1 : (strOfNums [q / 256, q % 256, z, b]).size = 4 := rfl
  have n2 : (strOfNums [gd (q / 256) f, gd (q % 256) f, gd z f, gd b f]).size = 4 := rfl
  generalize hw5 : w4.alloc _ = w5 at *
  go_region
  all_goals go_wp2
  all_goals go_ret2
  all_goals exact ⟨rfl, gA.drew⟩
set_option maxHeartbeats 1000000 in
theorem encode_invalid (q z b f : Int) (w : World) (hv : validI q z b = false) :
    Calls Try.prog 11 #[inoV q z b, .int .i64 f] w (RetG (.tuple #[.string { data := #[] }, .int .i64 1]) w) := by
  go_enter Try.func11, Try.ntmps11
  go_wp2_with (go_at_call 24; (with_reducible refine (isValid_any _ _ _ _).mono ?_); rintro e w1 ⟨rfl, rfl⟩)
  go_ret2
  exact ⟨rfl, ((Grew.refl _).alloc _).alloc _⟩
set_option maxHeartbeats 1000000 in
theorem encode_file (q z b f : Int) (w : World) (hv : validI q z b = true) (hf : withB f 7 = false) :
    Calls Try.prog 11 #[inoV q z b, .int .i64 f] w (RetG (.tuple #[.string { data := #[] }, .int .i64 2]) w) := by
  go_enter Try.func11, Try.ntmps11
  go_wp2_with (first
    | (go_at_call 24; (with_reducible refine (isValid_any _ _ _ _).mono ?_); rintro e w1 ⟨rfl, rfl⟩)
    | (go_at_call 25; (with_reducible refine (isFile_any _ _).mono ?_); rintro e w1 ⟨rfl, rfl⟩))
  go_ret2
  exact ⟨rfl, ((Grew.refl _).alloc _).alloc _⟩
theorem retG_of {a b : Value} {w : World} {e : Ending} {w' : World} (h : a = b) (k : RetG a w e w') : RetG b w e w' := h ▸ k
theorem encode_all (q z b f : Int) (w : World) :
    Calls Try.prog 11 #[inoV q z b, .int .i64 f] w (RetG (.tuple #[.string (encS q z b f), .int .i64 (encE q z b f)]) w) := by
  cases hv : validI q z b
  · exact (encode_invalid q z b f w hv).mono fun _ _ h => retG_of (by simp [encS, encE, hv]) h
  · cases hf : withB f 7
    · exact (encode_file q z b f w hv hf).mono fun _ _ h => retG_of (by simp [encS, encE, hv, hf]) h
    · exact (encode_ok q z b f w hv hf).mono fun _ _ h => retG_of (by simp [encS, encE, hv, hf]) h
end Go.Proofs.Ytbcakadefineiaa

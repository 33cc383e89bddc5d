/- PageDirty holds: a page that has been written differs from the device only in dirty sectors, and cleaning changes no bytes. -/
import Derived.Test.YthkhcbkbhnnegaaExch
import Derived.Deep.RegionHeld3
import Derived.Deep.QuietTactic
import Derived.BigQuiet
import Derived.IntWalk
import Derived.Deep.DrawnRows
import Derived.Deep.DeepCutAuto
namespace Go.Proofs.Ythkhcbkbhnnegaa
attribute [local go_sem ↓] Go.wp_at_zero Go.wp_at_succ
open Go.ChangeShapes Go.WideShapes Go.ChangeAt Go.RowKit Go.Mine

theorem secs_cases (s n m : Int) : secs s n m = 0 ∨ secs s n m = 1 ∨ secs s n m = 2 ∨ secs s n m = 3 := by
  unfold secs
  split <;> split <;> omega
theorem new_right : secE zeroP 0 0 3 = 0 := by decide +kernel
theorem full_right (d : ByteArray) (hd : d.size = 16) : rightB d 3 0 = true := right_mk hd (by decide) (by decide) (by decide +kernel)
theorem andNot3 (x : Int) (h : x = 0 ∨ x = 1 ∨ x = 2 ∨ x = 3) : bits .andNot .i64 x 3 = 0 ∧ bits .or .i64 3 x = 3 ∧ bits .or .i64 0 x = x := by
  rcases h with rfl | rfl | rfl | rfl <;> decide +kernel
theorem need_full (s n : Int) (wr : Bool) : needN 3 s n wr = 0 := by
  unfold needN
  have h1 := secs_cases s n 1
  have h8 := secs_cases s n 8
  split
  · refine (andNot3 _ ?_).1
    rcases h1 with e | e | e | e <;> rcases h8 with f | f | f | f <;> rw [e, f] <;> decide +kernel
  · exact (andNot3 _ h1).1

/-- The new page, filled from a device. -/
theorem di_fill (k : ByteArray) (w : World) (hk : k.size = 16) :
    Calls Try.prog 24 #[pageV zeroP 0 0, .int .i64 3, .string k] w (RetG (.tuple #[pageV k 3 0, .int .i64 0]) w) := by
  have c := fill_ok zeroP k 0 0 3 w new_right hk
  have e : mixP zeroP k (bits .andNot .i64 3 0) = k := by
    rw [show bits .andNot .i64 3 0 = 3 from by decide +kernel]
    apply ba_ext
    have h : k.data.toList.length = 16 := (ba_size k).trans hk
    simp only [mixP, if_pos (show (3 : Int) = 1 ∨ (3 : Int) = 3 from .inr rfl), if_pos (show (3 : Int) = 2 ∨ (3 : Int) = 3 from .inr rfl), ba_app, ba_ext_list]
    simp
    rw [List.take_of_length_le (l := List.drop 8 _) (by simp; omega), List.take_append_drop]
  rw [e] at c
  exact c
/-- The bytes behind a write. -/
def over (k s : ByteArray) (o : Nat) : ByteArray := k.extract 0 o ++ s ++ k.extract (o + s.size) 16
theorem over_size (k s : ByteArray) (o : Nat) (hk : k.size = 16) (h : o + s.size ≤ 16) : (over k s o).size = 16 := by
  simp [over, ByteArray.size_append, ByteArray.size_extract, hk]
  omega
theorem di_write (k s : ByteArray) (o : Int) (w : World) (hk : k.size = 16) (h0 : 0 ≤ o) (hs : o + s.size ≤ 16) :
    Calls Try.prog 26 #[pageV k 3 0, .int .i64 o, .string s] w (RetG (.tuple #[pageV (over k s o.toNat) 3 (secs o s.size 1), .int .i64 0]) w) := by
  obtain ⟨p, rfl⟩ := Int.eq_ofNat_of_zero_le h0
  have hr := full_right k hk
  have hg : rangeB p s.size = true := by simp [rangeB]; omega
  have c := write_ok k s 3 0 p w (by simp [accE, hr, hg, need_full])
  obtain ⟨_, h2, h3⟩ := andNot3 _ (secs_cases p s.size 1)
  rw [h2, h3] at c
  exact c
theorem di_clean (d : ByteArray) (t : Int) (w : World) (hd : d.size = 16) (ht : t = 0 ∨ t = 1 ∨ t = 2 ∨ t = 3) :
    Calls Try.prog 28 #[pageV d 3 t, .int .i64 3] w (RetG (.tuple #[pageV d 3 0, .int .i64 0]) w) := by
  have hr : rightB d 3 t = true := right_mk hd (by decide) (by rcases ht with rfl | rfl | rfl | rfl <;> decide) (andNot3 t ht).1
  have c := clean_ok d 3 t 3 w (by simp [secE, hr, setB])
  rw [(andNot3 t ht).1] at c
  exact c

theorem ba_at (a : ByteArray) (i : Nat) (h : i < a.size) : a.data.toList[i]? = some a[i] := by
  have h' : i < a.data.toList.length := (ba_size a).symm ▸ h
  rw [List.getElem?_eq_getElem h']
  rfl
theorem over_list (k s : ByteArray) (o : Nat) : (over k s o).data.toList = k.data.toList.take o ++ s.data.toList ++ (k.data.toList.drop (o + s.size)).take (16 - (o + s.size)) := by
  simp only [over, ba_app, ba_ext_list]
  simp
theorem over_at (k s : ByteArray) (o i : Nat) (hk : k.size = 16) (hs : o + s.size ≤ 16) (hi : i < 16) (hout : i < o ∨ o + s.size ≤ i) : (over k s o).data.toList[i]? = k.data.toList[i]? := by
  have h : k.data.toList.length = 16 := (ba_size k).trans hk
  have h2 : s.data.toList.length = s.size := ba_size s
  rw [over_list, List.append_assoc]
  rcases hout with h3 | h3
  · rw [List.getElem?_append_left (by simp; omega), List.getElem?_take_of_lt h3]
  · rw [List.getElem?_append_right (by simp; omega), List.getElem?_append_right (by simp; omega), List.getElem?_take_of_lt (by simp; omega), List.getElem?_drop]
    congr 1
    simp
    omega
/-- Outside the sectors that are dirty the bytes are the device's. -/
theorem over_same (k s : ByteArray) (o i : Nat) (hk : k.size = 16) (hs : o + s.size ≤ 16) (hi : i < 16) (h1 : i < (over k s o).size) (h2 : i < k.size)
    (hne : (over k s o)[i] ≠ k[i]) : bits .and .i64 (secs o s.size 1) (if i < 8 then 1 else 2) ≠ 0 := by
  have hin : o ≤ i ∧ i < o + s.size := by
    by_cases h : i < o ∨ o + s.size ≤ i
    · have e := over_at k s o i hk hs hi h
      rw [ba_at _ i h1, ba_at _ i h2] at e
      exact absurd (by injection e) hne
    · omega
  by_cases h8 : i < 8
  · have e : secB o s.size 1 0 8 = true := by simp only [secB, decide_eq_true_eq]; split <;> split <;> omega
    rw [if_pos h8]
    simp only [secs, e, if_true]
    split <;> decide +kernel
  · have e : secB o s.size 1 8 16 = true := by simp only [secB, decide_eq_true_eq]; split <;> split <;> omega
    rw [if_neg h8]
    simp only [secs, e, if_true]
    split <;> decide +kernel

/-- What stands behind the write. -/
def DirtyCut (w : World) (k : ByteArray) (o : Int) (v8 v9 : Value) (wx : World) : Prop :=
  ∃ (s : ByteArray) (b8 : Nat), o + s.size ≤ 16 ∧ v8 = .pointer (some ⟨b8, 0, none⟩) ∧ v9 = .int .i64 0 ∧ Own wx b8 27 #[.string (over k s o.toNat), .int .i64 3, .int .i64 (secs o s.size 1)] ∧ Grew w wx

set_option maxRecDepth 100000 in
set_option maxHeartbeats 4000000 in
theorem dirty_core (A : Option Addr) (c : Nat) (xs : List Int) (w : World) (hr : IntRow w A xs) (hm : xs.length ≤ maxLen) :
    Calls Try.prog 6 #[.slice A xs.length c] w (RetG (.bool true) w) := by
  have tp := Tp.made hr hm c 25
  have gA := Grew.refl w
  have HR := Lib.hid hr
  clear hr
  generalize hX : xs.length = X at *
  clear hX
  have hbA : w.heap.size ≤ w.heap.size := Nat.le_refl _
  go_enter Try.func6, Try.ntmps6
  go_wp2_with fail
  with_reducible refine (bytes_x _ _ _ _ (by omega) (by omega) tp (by simp)).mono ?_
  rintro e w1 ⟨k, hk, rfl, t_w1, g_w1⟩
  have s_w1 : w.grownBy w1 (some (w.heap.size)) := by first | exact g_w1 | exact grown_trans (grown_alloc (grown_refl _ _) _) g_w1 | exact grown_trans (grown_alloc (grown_alloc (grown_refl _ _) _) _) g_w1 | exact grown_trans (grown_drew (grown_refl _ _)) g_w1 | exact grown_trans (grown_drew (grown_alloc (grown_refl _ _) _)) g_w1
  have z_w1 := s_w1.size
  replace gA := gA.past s_w1 hbA
  clear tp
  have tp := t_w1
  have l_tp_w1 := tp.lt
  clear g_w1 s_w1 t_w1
  replace hk : k.size = 16 := hk
  go_wp2_with fail
  with_reducible refine (new_any _).mono ?_
  rintro e w2 ⟨rfl, g_w2⟩
  have s_w2 : Grew w1 w2 := by first | exact g_w2 | exact ((Grew.refl _).alloc _).trans g_w2 | exact (((Grew.refl _).alloc _).alloc _).trans g_w2 | exact (Grew.refl _).drew.trans g_w2 | exact ((Grew.refl _).alloc _).drew.trans g_w2 | exact ((Grew.refl _).drewN _).trans g_w2
  have z_w2 := s_w2.size
  replace gA := gA.trans s_w2
  replace tp := tp.grew s_w2
  clear g_w2 s_w2
  go_wp2_with fail
  with_reducible refine (di_fill _ _ hk).mono ?_
  rintro e w3 ⟨rfl, g_w3⟩
  have s_w3 : Grew w2 w3 := by first | exact g_w3 | exact ((Grew.refl _).alloc _).trans g_w3 | exact (((Grew.refl _).alloc _).alloc _).trans g_w3 | exact (Grew.refl _).drew.trans g_w3 | exact ((Grew.refl _).alloc _).drew.trans g_w3 | exact ((Grew.refl _).drewN _).trans g_w3
  have z_w3 := s_w3.size
  replace gA := gA.trans s_w3
  replace tp := tp.grew s_w3
  clear g_w3 s_w3
  go_wp2_with fail
  with_reducible refine (next_x _ _ _ _ (by omega) (by omega) (tp.alloc _)).mono ?_
  rintro e w4 ⟨o, o0, o1, rfl, t_w4, g_w4⟩
  have s_w4 : w3.grownBy w4 (some (w.heap.size)) := by first | exact g_w4 | exact grown_trans (grown_alloc (grown_refl _ _) _) g_w4 | exact grown_trans (grown_alloc (grown_alloc (grown_refl _ _) _) _) g_w4 | exact grown_trans (grown_drew (grown_refl _ _)) g_w4 | exact grown_trans (grown_drew (grown_alloc (grown_refl _ _) _)) g_w4
  have z_w4 := s_w4.size
  have P := (Own.new w3 _ _).past g_w4 (by omega)
  have l_P_w4 := P.lt
  obtain ⟨P0, P1, P2, P3, P4, P5⟩ := P.three
  replace gA := gA.past s_w4 hbA
  clear tp
  have tp := t_w4
  have l_tp_w4 := tp.lt
  clear g_w4 s_w4 t_w4
  have k1 : IntKind.i64.wrap (16 - o) = 16 - o := IntWalk.i64_in _ (by omega)
  have k2 : IntKind.i64.wrap (16 - o + 1) = 16 - o + 1 := IntWalk.i64_in _ (by omega)
  go_upto_region 5 with fail
  go_cut [8, 9] (DirtyCut w k o)
  case first =>
    go_region_held3 (fun w' => w'.cell? ⟨w3.heap.size, 0, none⟩ = some (.string k) ∧ w'.cell? ⟨w3.heap.size, 1, none⟩ = some (.int .i64 3) ∧ w'.cell? ⟨w3.heap.size, 2, none⟩ = some (.int .i64 0))
      (refine ⟨?_, ?_, ?_⟩ <;> (repeat (first | assumption | (refine far_cell (by omega) ?_) | refine far_alloc ?_ | refine far_drew ?_)))
      (first
        | (go_at_call 10; (with_reducible refine (next_x _ _ _ _ (by omega) (by omega) (by first | exact tp.drew | exact (tp.alloc _).drew)).mono ?_); rintro e w5 ⟨n, n0, n1, rfl, tp5, g5⟩; have O5 : Own w5 w3.heap.size 27 #[.string k, .int .i64 3, .int .i64 0] := (by first | exact P.drew.past g5 (by omega) | exact (P.alloc _).drew.past g5 (by omega)); have gA5 : Grew w w5 := (by first | exact gA.drew.past g5 hbA | exact (gA.alloc _).drew.past g5 hbA); (try have Z := (Own.new w4 _ _).drew.past g5 (by omega)); have l5 := O5.lt; have z5 := tp5.lt; clear P0 P1 P2 P3 P4 P5; obtain ⟨P0, P1, P2, P3, P4, P5⟩ := O5.three)
        | (go_at_call 23; (with_reducible refine (bytes_x _ _ _ _ (by omega) (by omega) (by first | exact tp5 | exact tp5.alloc _) (by first | omega | (simp; omega))).mono ?_); rintro e w6 ⟨s, hs, rfl, tp6, g6⟩; have hs2 : o + s.size ≤ 16 := (by omega); clear hs; have O6 : Own w6 w3.heap.size 27 #[.string k, .int .i64 3, .int .i64 0] := (by first | exact O5.past g6 (by omega) | exact (O5.alloc _).past g6 (by omega)); have gA6 : Grew w w6 := (by first | exact gA5.past g6 hbA | exact (gA5.alloc _).past g6 hbA); (first | (replace Z := Z.past g6 (by omega)) | (have Z := (Own.new w5 _ _).past g6 (by omega)) | skip); have l6 := O6.lt; clear P0 P1 P2 P3 P4 P5; obtain ⟨P0, P1, P2, P3, P4, P5⟩ := O6.three)
        | (go_at_call 26; (with_reducible refine (di_write k s o _ hk o0 hs2).mono ?_); rintro e w7 ⟨rfl, g7⟩; have O7 : Own w7 w3.heap.size 27 #[.string k, .int .i64 3, .int .i64 0] := (by first | exact O6.grew g7 | exact (O6.alloc _).grew g7); have gA7 : Grew w w7 := (by first | exact gA6.trans g7 | exact (gA6.alloc _).trans g7); (first | (replace Z := Z.grew g7) | (have Z := (Own.new w6 _ _).grew g7) | skip); (try obtain ⟨Z0, Z1, Z2, Z3, Z4, Z5⟩ := Z.three); have l7 := O7.lt; clear P0 P1 P2 P3 P4 P5; obtain ⟨P0, P1, P2, P3, P4, P5⟩ := O7.three))
    all_goals go_wp2_with fail
    all_goals go_meet
    all_goals first | exact ⟨s, _, hs2, rfl, rfl, Own.new _ _ _, gA7.alloc _⟩ | exact ⟨s, _, hs2, rfl, rfl, Z.store3 rfl, gA7.far3 rfl (by omega)⟩
  case rest =>
    clear gA
    obtain ⟨s, b8, hs, rfl, rfl, Q, gA⟩ := hcut
    obtain ⟨p, rfl⟩ := Int.eq_ofNat_of_zero_le o0
    rw [Int.toNat_natCast] at Q
    clear tp P P0 P1 P2 P3 P4 P5 k1 k2
    obtain ⟨Q0, Q1, Q2, Q3, Q4, Q5⟩ := Q.three
    have hq := over_size k s p hk (by omega)
    have hT := secs_cases p s.size 1
    have hsame := over_same k s p
    have HS := Lib.hid hsame
    clear hsame
    generalize hD : over k s p = D at *
    generalize hTT : secs p s.size 1 = T at *
    go_wp2_with fail
    go_loopw [10] (fun i wr => ∃ (j m : Nat), j ≤ 16 ∧ i = .int .i64 j ∧ wr = wc.drewN m) (fun i _ => 16 - (intOf i).toNat)
    case atStart => exact ⟨0, 0, by omega, rfl, rfl⟩
    case round =>
      obtain ⟨j, m, hj, rfl, rfl⟩ := hrel
      by_cases hlt : j < 16
      · have hj1 : j < D.size := by omega
        have hj2 : j < k.size := by omega
        by_cases he : D[j] = k[j]
        · have h1 : ((D[j].toNat : Int) != (k[j].toNat : Int)) = false := by simp [he]
          clear he
          go_wp2_with fail
          go_quiet (fail)
          go_wp2_with fail
          go_roundw
          case rel => exact ⟨j + 1, _, by omega, by go_num, rfl⟩
          case measure => simp [intOf]; omega
        · have h1 : ((D[j].toNat : Int) != (k[j].toNat : Int)) = true := by
            rw [bne_iff_ne]
            exact fun e => he (UInt8.toNat_inj.1 (by omega))
          have hb := HS.out j hk (by omega) hlt hj1 hj2 he
          clear he
          by_cases h8 : j < 8
          · rw [if_pos h8] at hb
            have hb2 : (bits .and .i64 T 1 == 0) = false := beq_eq_false_iff_ne.2 hb
            have hj8 : (j : Int) / 8 = 0 := by omega
            clear hb
            go_wp2_with fail
            go_quiet (fail)
            go_wp2_with fail
            go_roundw
            case rel => exact ⟨j + 1, _, by omega, by go_num, rfl⟩
            case measure => simp [intOf]; omega
          · rw [if_neg h8] at hb
            have hb2 : (bits .and .i64 T 2 == 0) = false := beq_eq_false_iff_ne.2 hb
            have hj8 : (j : Int) / 8 = 1 := by omega
            clear hb
            go_wp2_with fail
            go_quiet (fail)
            go_wp2_with fail
            go_roundw
            case rel => exact ⟨j + 1, _, by omega, by go_num, rfl⟩
            case measure => simp [intOf]; omega
      · have hj16 : j = 16 := by omega
        subst hj16
        go_wp2_with fail
        with_reducible refine (di_clean _ _ _ hq hT).mono ?_
        rintro e w9 ⟨rfl, g_w9⟩
        have s_w9 : Grew wc w9 := by first | exact g_w9 | exact ((Grew.refl _).alloc _).trans g_w9 | exact (((Grew.refl _).alloc _).alloc _).trans g_w9 | exact (Grew.refl _).drew.trans g_w9 | exact ((Grew.refl _).alloc _).drew.trans g_w9 | exact ((Grew.refl _).drewN _).trans g_w9
        have z_w9 := s_w9.size
        replace Q := Q.grew s_w9
        clear Q0 Q1 Q2 Q3 Q4 Q5
        have l_Q_w9 := Q.lt
        obtain ⟨Q0, Q1, Q2, Q3, Q4, Q5⟩ := Q.three
        replace gA := gA.trans s_w9
        clear g_w9 s_w9
        go_wp2_with fail
        with_reducible refine (awake_any _).mono ?_
        rintro e w10 ⟨rfl, g_w10⟩
        have s_w10 : Grew w9 w10 := by first | exact g_w10 | exact ((Grew.refl _).alloc _).trans g_w10 | exact (((Grew.refl _).alloc _).alloc _).trans g_w10 | exact (Grew.refl _).drew.trans g_w10 | exact ((Grew.refl _).alloc _).drew.trans g_w10 | exact ((Grew.refl _).drewN _).trans g_w10
        have z_w10 := s_w10.size
        replace Q := Q.grew s_w10
        clear Q0 Q1 Q2 Q3 Q4 Q5
        have l_Q_w10 := Q.lt
        have C := (Own.new w9 _ _).grew g_w10
        have l_C_w10 := C.lt
        obtain ⟨Q0, Q1, Q2, Q3, Q4, Q5⟩ := Q.three
        obtain ⟨C0, C1, C2, C3, C4, C5⟩ := C.three
        replace gA := gA.trans s_w10
        clear g_w10 s_w10
        go_wp2
        go_ret
        exact ⟨rfl, gA⟩

theorem Try.own : ownKnob Try.prog.godebug = none := by kernel_rfl
theorem Try.laidOut : laidOutB Try.prog = true := by kernel_rfl

theorem pageDirty_contract (W : World) (base : Nat) (args : Array Value) (H : Type) (enc : TypeId × Value → H) (ds : List (DataW H)) (p : List MemPlace)
    (hval : ∀ (j : Nat) t v, Try.f6.params[j]? = some t → args[j]? = some v → Value.okWide Try.prog W .any base t v)
    (hA : DataW.TrodAll enc Try.prog W 0 (fun _ => true) true Try.f6.params.toList args.toList ds p) :
    (∃ d0, ds = [d0]) ∧ Calls Try.prog 6 args W fun e W' => e = .returned (.bool true) ∧ Below W.heap.size W W' := by
  rw [Try.params6] at hval hA
  obtain ⟨v0, d0, p0, ha, hd, hp, h0⟩ := args_1 hA
  subst ha hd
  obtain ⟨A0, c0, xs0, rfl, hr0, hm0⟩ := open_introw Try.underlying22 Try.underlying3 (by kernel_rfl) (hval 0 _ _ rfl rfl) h0
  exact ⟨⟨_, rfl⟩, (dirty_core A0 c0 xs0 W hr0 hm0).mono fun _ _ h => h⟩

set_option maxRecDepth 100000 in
theorem pageDirty_lifted (os : Os) (started : os.Started) (H : Type) (enc : TypeId × Value → H) :
    ReturnsInHanded {} Try.checked os 6 .any (Rows.pageDirtySpec.pre6 enc Try.prog Try.f6 Rows.pageDirtyRow.domain false) (Rows.pageDirtySpec.post enc Try.prog Try.f6 false true false false) := by
  refine returnsInHanded_of_change (C := Try.checked) Try.own started (by kernel_rfl) Try.func6
    (ChangeSpec.witness6 (enc := enc) (C := Try.checked) false ⟨#[], #[.slice none 0 0], []⟩ 8 (by kernel_rfl) (by kernel_rfl) (by kernel_rfl) (by kernel_rfl)) ?_
  intro W base args ds gs before hval hW _ _
  obtain ⟨p, q, hA, hV, hrest⟩ := id hW
  obtain ⟨⟨d0, rfl⟩, hc⟩ := pageDirty_contract W base args H enc ds p hval hA
  obtain ⟨rfl, -⟩ := trodVars_none hV
  refine hc.mono fun e W' ⟨he, hb⟩ => ⟨_, he, ?_⟩
  exact law_close (tb := 4) Try.laidOut (by rw [Try.params6]; decide +kernel) Try.underlying4 rfl rfl hW rfl rfl rfl hb

theorem pageDirty_holds : Rows.PageDirtySaid :=
  OpenClaim.holds_of_wide 6 Try.f6 rfl rfl rfl rfl rfl rfl rfl ⟨rfl, rfl, rfl, rfl, rfl⟩ rfl rfl rfl rfl rfl (by kernel_rfl) Try.func6 (by kernel_rfl)
    (of_decide_eq_true (by kernel_rfl)) (by unfold Func.isWrapper; first | (rw [if_pos (by decide +kernel)]; kernel_rfl) | (rw [if_neg (by decide +kernel)]; exact ⟨rfl, rfl⟩))
    (fun os started H enc _ => pageDirty_lifted os started H enc)
end Go.Proofs.Ythkhcbkbhnnegaa

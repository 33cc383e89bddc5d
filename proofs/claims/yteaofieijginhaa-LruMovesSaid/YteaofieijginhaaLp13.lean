/- 'drawn' of the laws (layer 8): copies of made lists, with one number more now and then. -/
import Derived.Test.YteaofieijginhaaLp12
import Derived.Test.YteaofieijginhaaMadeInts
import Derived.Deep.DeepCutAuto
import Derived.Deep.CutBlock
import Derived.Deep.RegionWith
import Derived.RegionTactic
namespace Go.Proofs.Yteaofieijginhaa
open Go.RowKit Go.Mine

/-- The box sl holds the lists y in rows of their own. -/
def DrSt (w : World) (k B b sx sl : Nat) (wx : World) : Prop := ∃ (y : Lr) (a1 : Option Addr) (c1 : Nat) (a2 : Option Addr) (c2 : Nat) (a3 : Option Addr) (c3 : Nat), y.a.length ≤ k ∧ y.i.length ≤ k ∧ y.r.length ≤ k ∧ WfR y ∧
  LrR wx (sl + 1) (.slice a1 y.a.length c1) (.slice a2 y.i.length c2) (.slice a3 y.r.length c3) y ∧ (Sep (.slice a1 y.a.length c1) (.slice a2 y.i.length c2) ∧ Sep (.slice a1 y.a.length c1) (.slice a3 y.r.length c3) ∧ Sep (.slice a2 y.i.length c2) (.slice a3 y.r.length c3)) ∧
  Mine.Own wx sl 27 #[.slice a1 y.a.length c1, .slice a2 y.i.length c2, .slice a3 y.r.length c3] ∧ Mine.Own wx sx 27 n3 ∧ Tp B wx b ∧ w.grownBy wx (some b)
theorem Sep.symm {r u : Value} (h : Sep r u) : Sep u r := fun b h1 h2 => h b h2 h1
/-- It returns some lists; they need not be right. -/
def RetDr (B b : Nat) (w : World) (e : Ending) (w' : World) : Prop := ∃ va vi vr x, e = .returned (lruV va vi vr) ∧ (x.a.length ≤ 13 ∧ x.i.length ≤ 13 ∧ x.r.length ≤ 13) ∧ WfR x ∧ LrR w' w.heap.size va vi vr x ∧ Tp B w' b ∧ w.grownBy w' (some b)
theorem app_a {L : List Int} (hl : L.length ≤ 12) : ([] : List Int).length + L.length < 1000000 := by simp; omega
set_option maxRecDepth 100000 in
set_option maxHeartbeats 16000000 in
theorem drawn_x (B b : Nat) (w : World) (ht : Tp B w b) (hbw : B ≤ w.heap.size) : Calls Try.prog 9 #[.pointer (some ⟨b, 0, none⟩)] w (RetDr B b w) := by
  have hb := ht.ltB
  obtain ⟨sx, hsx⟩ : ∃ sx, w.heap.size = sx := ⟨_, rfl⟩
  have S := hsx ▸ Mine.Own.new w 27 n3
  have tp := ht.alloc (.cells n3 27)
  have G0 : w.grownBy (w.alloc (.cells n3 27)) (some b) := grown_alloc (grown_refl _ _) _
  have hz0 : (w.alloc (.cells n3 27)).heap.size = sx + 1 := by simp; omega
  have HSX := Lib.hid hsx
  clear ht
  go_enter Try.func9, Try.ntmps9
  go_upto_region 1 with fail
  try rw [hsx]
  rw [hsx] at hbw
  generalize World.alloc w _ = w0 at *
  have hb0 : B ≤ w0.heap.size := by omega
  go_wp2_with fail
  with_reducible refine (lru_x _ _ _ tp hb0).mono ?_
  rintro e w1 ⟨va, vi, vr, x, rfl, hok, hln, R, T1, g1⟩
  obtain ⟨aa, ca, rfl⟩ := R.a.len
  obtain ⟨ai, ci, rfl⟩ := R.i.len
  obtain ⟨ar, cr, rfl⟩ := R.r.len
  obtain ⟨na, hna⟩ : ∃ na, x.a.length = na := ⟨_, rfl⟩
  obtain ⟨ni, hni⟩ : ∃ ni, x.i.length = ni := ⟨_, rfl⟩
  obtain ⟨nr, hnr⟩ : ∃ nr, x.r.length = nr := ⟨_, rfl⟩
  rw [hna, hni, hnr] at R ⊢
  have gl := (Grew.refl w1).alloc (.cells #[.slice aa na ca, .slice ai ni ci, .slice ar nr cr] 27)
  have HRd := Lib.hid (R.grew gl).drew
  have HS := Lib.hid ((S.past g1 (by omega)).grew gl.drew)
  have HG := Lib.hid (grown_drew (grown_alloc (grown_trans G0 g1) (.cells #[.slice aa na ca, .slice ai ni ci, .slice ar nr cr] 27)))
  have O := Mine.Own.new w1 27 #[.slice aa na ca, .slice ai ni ci, .slice ar nr cr]
  have HT := Lib.hid (T1.grew gl.drew)
  have HWF := Lib.hid (wf_ok hok)
  have hla : x.a.length ≤ 12 := by have := hln.1; omega
  have hli : x.i.length ≤ 12 := by have := hln.1; omega
  have hlr : x.r.length ≤ 12 := hln.2
  have hg1 := g1.size
  have hlz : (w1.alloc (.cells #[.slice aa na ca, .slice ai ni ci, .slice ar nr cr] 27)).heap.size = w1.heap.size + 1 := by simp
  clear R S tp G0 g1 T1 hok hln gl
  obtain ⟨sl, hsl⟩ : ∃ sl, w1.heap.size = sl := ⟨_, rfl⟩
  rw [hsl] at O hg1 hlz
  go_upto_region 2 with fail
  try rw [hsl]
  clear hsl
  generalize World.alloc w1 _ = w2 at *
  have hsl2 : sx + 1 ≤ sl := by omega
  obtain ⟨l0, l1, l2, -⟩ := O.three
  have HO := Lib.hid O.drew
  clear O
  go_cut [] from 6 to 15 (DrSt w 12 B b sx sl)
  case first =>
    refine wp_region_any (by kernel_rfl) ?_
    have hd0 : sl + 1 ≤ w2.drew.heap.size := Nat.le_of_eq hlz.symm
    refine wpAny_take (i := 0) (oi := ⟨some 6, _, _, _, _, _⟩) (v := ?vv1) rfl (by kernel_rfl) (by kernel_rfl) (by kernel_rfl) (fun _ _ _ h => h) (Or.inl ⟨by rfl, ?yy1⟩) ?rr1
    case yy1 => (intro w; go_simp; (try with_reducible rfl))
    try simp only [Act.put, List.setIfInBounds_toArray, List.set_cons_zero, List.set_cons_succ]
    refine wpAny_take (i := 3) (oi := ⟨some 9, _, _, _, _, _⟩) (v := ?vv2) rfl (by kernel_rfl) (by kernel_rfl) (by kernel_rfl) (fun _ _ _ h => h) (Or.inl ⟨by rfl, ?yy2⟩) ?rr2
    case yy2 => (intro w; go_simp; (try with_reducible rfl))
    try simp only [Act.put, List.setIfInBounds_toArray, List.set_cons_zero, List.set_cons_succ]
    refine wpAny_take (i := 6) (oi := ⟨some 12, _, _, _, _, _⟩) (v := ?vv3) rfl (by kernel_rfl) (by kernel_rfl) (by kernel_rfl) (fun _ _ _ h => h) (Or.inl ⟨by rfl, ?yy3⟩) ?rr3
    case yy3 => (intro w; go_simp; (try with_reducible rfl))
    try simp only [Act.put, List.setIfInBounds_toArray, List.set_cons_zero, List.set_cons_succ]
    refine wpAny_ready (rs := [1, 4, 7]) (by kernel_rfl) (by simp) ?_
    refine AllReady.cons (o := ⟨some 7, _, _, _, _, _⟩) rfl (fun K hK => ?st86_0) (AllReady.cons (o := ⟨some 10, _, _, _, _, _⟩) rfl (fun K hK => ?st86_1) (AllReady.cons (o := ⟨some 13, _, _, _, _, _⟩) rfl (fun K hK => ?st86_2) AllReady.nil))
    case st86_0 =>
      go_simp
      refine hK _ _ ?_
      clear hK K
      try simp only [Act.put, List.setIfInBounds_toArray, List.set_cons_zero, List.set_cons_succ]
      refine wpAny_ready (rs := [2, 4, 7]) (by kernel_rfl) (by simp) ?_
      refine AllReady.cons (o := ⟨some 8, _, _, _, _, _⟩) rfl (fun K hK => ?st45_0) (AllReady.cons (o := ⟨some 10, _, _, _, _, _⟩) rfl (fun K hK => ?st45_1) (AllReady.cons (o := ⟨some 13, _, _, _, _, _⟩) rfl (fun K hK => ?st45_2) AllReady.nil))
      case st45_0 =>
        refine step_append_ints (w2.drew) (by rfl) (.const (.slice none 0 0)) (.tmp 7) 22 (by rfl) (w2.drew.heap.size) info_I und_I (by decide) _ [] (by rfl) (RowE.nil _ _) (.slice aa na ca) x.a (by rfl) HRd.out.a (app_a hla) (by decide) (Nat.le_refl _) ?_
        intro v4 u1 R4 G4 o4
        have g4 : Grew w2.drew u1 := below_of_grown (show w2.drew.grownBy u1 none from G4)
        rw [List.nil_append] at R4
        obtain ⟨a4, c4, rfl⟩ := R4.len
        have HR4 := Lib.hid R4
        have HRd1 := Lib.hid (HRd.out.grew g4)
        have HO1 := Lib.hid (HO.out.grew g4)
        have HS1 := Lib.hid (HS.out.grew g4)
        have HT1 := Lib.hid (HT.out.grew g4)
        have HG1 := Lib.hid (grown_trans HG.out (grown_row g4.grown))
        have hz4 := g4.size
        clear R4 G4 g4 o4 l0 l1 l2
        obtain ⟨l0, l1, l2, l3, l4, l5⟩ := HO1.out.three
        refine hK _ _ ?_
        clear hK K
        try simp only [Act.put, List.setIfInBounds_toArray, List.set_cons_zero, List.set_cons_succ]
        refine wpAny_ready (rs := [4, 7]) (by kernel_rfl) (by simp) ?_
        refine AllReady.cons (o := ⟨some 10, _, _, _, _, _⟩) rfl (fun K hK => ?st18_0) (AllReady.cons (o := ⟨some 13, _, _, _, _, _⟩) rfl (fun K hK => ?st18_1) AllReady.nil)
        case st18_0 =>
          go_simp
          refine hK _ _ ?_
          clear hK K
          try simp only [Act.put, List.setIfInBounds_toArray, List.set_cons_zero, List.set_cons_succ]
          refine wpAny_ready (rs := [5, 7]) (by kernel_rfl) (by simp) ?_
          refine AllReady.cons (o := ⟨some 11, _, _, _, _, _⟩) rfl (fun K hK => ?st12_0) (AllReady.cons (o := ⟨some 13, _, _, _, _, _⟩) rfl (fun K hK => ?st12_1) AllReady.nil)
          case st12_0 =>
            refine step_append_ints (u1) (by rfl) (.const (.slice none 0 0)) (.tmp 10) 22 (by rfl) (u1.heap.size) info_I und_I (by decide) _ [] (by rfl) (RowE.nil _ _) (.slice ai ni ci) x.i (by rfl) HRd1.out.i (app_a hli) (by decide) (Nat.le_refl _) ?_
            intro v5 u2 R5 G5 o5
            have g5 : Grew u1 u2 := below_of_grown (show u1.grownBy u2 none from G5)
            rw [List.nil_append] at R5
            obtain ⟨a5, c5, rfl⟩ := R5.len
            have hs45 := sep_new HR4.out R5 (Nat.le_refl _)
            have HR5 := Lib.hid R5
            have HR4_2 := Lib.hid (HR4.out.grew g5)
            have HRd2 := Lib.hid (HRd1.out.grew g5)
            have HO2 := Lib.hid (HO1.out.grew g5)
            have HS2 := Lib.hid (HS1.out.grew g5)
            have HT2 := Lib.hid (HT1.out.grew g5)
            have HG2 := Lib.hid (grown_trans HG1.out (grown_row g5.grown))
            have hz5 := g5.size
            clear R5 G5 g5 o5 l0 l1 l2
            obtain ⟨l0, l1, l2, l3, l4, l5⟩ := HO2.out.three
            refine hK _ _ ?_
            clear hK K
            try simp only [Act.put, List.setIfInBounds_toArray, List.set_cons_zero, List.set_cons_succ]
            refine wpAny_ready (rs := [7]) (by kernel_rfl) (by simp) ?_
            refine AllReady.cons (o := ⟨some 13, _, _, _, _, _⟩) rfl (fun K hK => ?st7_0) AllReady.nil
            case st7_0 =>
              go_simp
              refine hK _ _ ?_
              clear hK K
              try simp only [Act.put, List.setIfInBounds_toArray, List.set_cons_zero, List.set_cons_succ]
              refine wpAny_ready (rs := [8]) (by kernel_rfl) (by simp) ?_
              refine AllReady.cons (o := ⟨some 14, _, _, _, _, _⟩) rfl (fun K hK => ?st6_0) AllReady.nil
              case st6_0 =>
                refine step_append_ints (u2) (by rfl) (.const (.slice none 0 0)) (.tmp 13) 22 (by rfl) (u2.heap.size) info_I und_I (by decide) _ [] (by rfl) (RowE.nil _ _) (.slice ar nr cr) x.r (by rfl) HRd2.out.r (app_a hlr) (by decide) (Nat.le_refl _) ?_
                intro v6 u3 R6 G6 o6
                have g6 : Grew u2 u3 := below_of_grown (show u2.grownBy u3 none from G6)
                rw [List.nil_append] at R6
                obtain ⟨a6, c6, rfl⟩ := R6.len
                have hs46 := sep_new HR4_2.out R6 (Nat.le_refl _)
                have hs56 := sep_new HR5.out R6 (Nat.le_refl _)
                have HR6 := Lib.hid R6
                have HR4_3 := Lib.hid (HR4_2.out.grew g6)
                have HR5_3 := Lib.hid (HR5.out.grew g6)
                have HRd3 := Lib.hid (HRd2.out.grew g6)
                have HO3 := Lib.hid (HO2.out.grew g6)
                have HS3 := Lib.hid (HS2.out.grew g6)
                have HT3 := Lib.hid (HT2.out.grew g6)
                have HG3 := Lib.hid (grown_trans HG2.out (grown_row g6.grown))
                have hz6 := g6.size
                clear R6 G6 g6 o6 l0 l1 l2
                obtain ⟨l0, l1, l2, l3, l4, l5⟩ := HO3.out.three
                refine hK _ _ ?_
                clear hK K
                try simp only [Act.put, List.setIfInBounds_toArray, List.set_cons_zero, List.set_cons_succ]
                refine wpAny_take (i := 9) (oi := ⟨some 15, _, _, _, _, _⟩) (v := ?vv4) rfl (by kernel_rfl) (by kernel_rfl) (by kernel_rfl) (fun _ _ _ h => h) (Or.inl ⟨by rfl, ?yy4⟩) ?rr4
                case yy4 => (intro w; go_simp; (try with_reducible rfl))
                try simp only [Act.put, List.setIfInBounds_toArray, List.set_cons_zero, List.set_cons_succ]
                refine wpAny_ready (rs := [10]) (by kernel_rfl) (by simp) ?_
                refine AllReady.cons (o := ⟨none, _, _, _, _, _⟩) rfl (fun K hK => ?st5_0) AllReady.nil
                case st5_0 =>
                  go_simp
                  refine hK _ _ ?_
                  clear hK K
                  try simp only [Act.put, List.setIfInBounds_toArray, List.set_cons_zero, List.set_cons_succ]
                  refine wpAny_done (by kernel_rfl) ?_ _
                  (first | go_wp2 | skip)
                  go_meet
                  rw [← hna, ← hni, ← hnr]
                  generalize hw : World.setCell (World.setCell (World.setCell u3 _ _) _ _) _ _ = wz
                  have hb4 : sl < w2.drew.heap.size := hd0
                  have hb5 : sl < u1.heap.size := by omega
                  have hb6 : sl < u2.heap.size := by omega
                  exact ⟨x, _, _, _, _, _, _, hla, hli, hlr, HWF.out, ⟨(HR4_3.out.far3 hw hb4).wider hb4, (HR5_3.out.far3 hw hb5).wider hb5, (HR6.out.far3 hw hb6).wider hb6⟩, ⟨hs45, hs46, hs56⟩, HO3.out.store3 hw, HS3.out.far3 hw (by omega), HT3.out.far3 hw (by omega), grown3 HG3.out hw (by have := HSX.out; omega)⟩
          case st12_1 =>
            go_simp
            refine hK _ _ ?_
            clear hK K
            try simp only [Act.put, List.setIfInBounds_toArray, List.set_cons_zero, List.set_cons_succ]
            refine wpAny_ready (rs := [5]) (by kernel_rfl) (by simp) ?_
            refine AllReady.cons (o := ⟨some 11, _, _, _, _, _⟩) rfl (fun K hK => ?st11_0) AllReady.nil
            case st11_0 =>
              refine step_append_ints (u1) (by rfl) (.const (.slice none 0 0)) (.tmp 10) 22 (by rfl) (u1.heap.size) info_I und_I (by decide) _ [] (by rfl) (RowE.nil _ _) (.slice ai ni ci) x.i (by rfl) HRd1.out.i (app_a hli) (by decide) (Nat.le_refl _) ?_
              intro v5 u2 R5 G5 o5
              have g5 : Grew u1 u2 := below_of_grown (show u1.grownBy u2 none from G5)
              rw [List.nil_append] at R5
              obtain ⟨a5, c5, rfl⟩ := R5.len
              have hs45 := sep_new HR4.out R5 (Nat.le_refl _)
              have HR5 := Lib.hid R5
              have HR4_2 := Lib.hid (HR4.out.grew g5)
              have HRd2 := Lib.hid (HRd1.out.grew g5)
              have HO2 := Lib.hid (HO1.out.grew g5)
              have HS2 := Lib.hid (HS1.out.grew g5)
              have HT2 := Lib.hid (HT1.out.grew g5)
              have HG2 := Lib.hid (grown_trans HG1.out (grown_row g5.grown))
              have hz5 := g5.size
              clear R5 G5 g5 o5 l0 l1 l2
              obtain ⟨l0, l1, l2, l3, l4, l5⟩ := HO2.out.three
              refine hK _ _ ?_
              clear hK K
              try simp only [Act.put, List.setIfInBounds_toArray, List.set_cons_zero, List.set_cons_succ]
              refine wpAny_ready (rs := [8]) (by kernel_rfl) (by simp) ?_
              refine AllReady.cons (o := ⟨some 14, _, _, _, _, _⟩) rfl (fun K hK => ?st10_0) AllReady.nil
              case st10_0 =>
                refine step_append_ints (u2) (by rfl) (.const (.slice none 0 0)) (.tmp 13) 22 (by rfl) (u2.heap.size) info_I und_I (by decide) _ [] (by rfl) (RowE.nil _ _) (.slice ar nr cr) x.r (by rfl) HRd2.out.r (app_a hlr) (by decide) (Nat.le_refl _) ?_
                intro v6 u3 R6 G6 o6
                have g6 : Grew u2 u3 := below_of_grown (show u2.grownBy u3 none from G6)
                rw [List.nil_append] at R6
                obtain ⟨a6, c6, rfl⟩ := R6.len
                have hs46 := sep_new HR4_2.out R6 (Nat.le_refl _)
                have hs56 := sep_new HR5.out R6 (Nat.le_refl _)
                have HR6 := Lib.hid R6
                have HR4_3 := Lib.hid (HR4_2.out.grew g6)
                have HR5_3 := Lib.hid (HR5.out.grew g6)
                have HRd3 := Lib.hid (HRd2.out.grew g6)
                have HO3 := Lib.hid (HO2.out.grew g6)
                have HS3 := Lib.hid (HS2.out.grew g6)
                have HT3 := Lib.hid (HT2.out.grew g6)
                have HG3 := Lib.hid (grown_trans HG2.out (grown_row g6.grown))
                have hz6 := g6.size
                clear R6 G6 g6 o6 l0 l1 l2
                obtain ⟨l0, l1, l2, l3, l4, l5⟩ := HO3.out.three
                refine hK _ _ ?_
                clear hK K
                try simp only [Act.put, List.setIfInBounds_toArray, List.set_cons_zero, List.set_cons_succ]
                refine wpAny_take (i := 9) (oi := ⟨some 15, _, _, _, _, _⟩) (v := ?vv8) rfl (by kernel_rfl) (by kernel_rfl) (by kernel_rfl) (fun _ _ _ h => h) (Or.inl ⟨by rfl, ?yy8⟩) ?rr8
                case yy8 => (intro w; go_simp; (try with_reducible rfl))
                try simp only [Act.put, List.setIfInBounds_toArray, List.set_cons_zero, List.set_cons_succ]
                refine wpAny_ready (rs := [10]) (by kernel_rfl) (by simp) ?_
                refine AllReady.cons (o := ⟨none, _, _, _, _, _⟩) rfl (fun K hK => ?st9_0) AllReady.nil
                case st9_0 =>
                  go_simp
                  refine hK _ _ ?_
                  clear hK K
                  try simp only [Act.put, List.setIfInBounds_toArray, List.set_cons_zero, List.set_cons_succ]
                  refine wpAny_done (by kernel_rfl) ?_ _
                  (first | go_wp2 | skip)
                  go_meet
                  rw [← hna, ← hni, ← hnr]
                  generalize hw : World.setCell (World.setCell (World.setCell u3 _ _) _ _) _ _ = wz
                  have hb4 : sl < w2.drew.heap.size := hd0
                  have hb5 : sl < u1.heap.size := by omega
                  have hb6 : sl < u2.heap.size := by omega
                  exact ⟨x, _, _, _, _, _, _, hla, hli, hlr, HWF.out, ⟨(HR4_3.out.far3 hw hb4).wider hb4, (HR5_3.out.far3 hw hb5).wider hb5, (HR6.out.far3 hw hb6).wider hb6⟩, ⟨hs45, hs46, hs56⟩, HO3.out.store3 hw, HS3.out.far3 hw (by omega), HT3.out.far3 hw (by omega), grown3 HG3.out hw (by have := HSX.out; omega)⟩
        case st18_1 =>
          go_simp
          refine hK _ _ ?_
          clear hK K
          try simp only [Act.put, List.setIfInBounds_toArray, List.set_cons_zero, List.set_cons_succ]
          refine wpAny_ready (rs := [4]) (by kernel_rfl) (by simp) ?_
          refine AllReady.cons (o := ⟨some 10, _, _, _, _, _⟩) rfl (fun K hK => ?st17_0) AllReady.nil
          case st17_0 =>
            go_simp
            refine hK _ _ ?_
            clear hK K
            try simp only [Act.put, List.setIfInBounds_toArray, List.set_cons_zero, List.set_cons_succ]
            refine wpAny_ready (rs := [5]) (by kernel_rfl) (by simp) ?_
            refine AllReady.cons (o := ⟨some 11, _, _, _, _, _⟩) rfl (fun K hK => ?st16_0) AllReady.nil
            case st16_0 =>
              refine step_append_ints (u1) (by rfl) (.const (.slice none 0 0)) (.tmp 10) 22 (by rfl) (u1.heap.size) info_I und_I (by decide) _ [] (by rfl) (RowE.nil _ _) (.slice ai ni ci) x.i (by rfl) HRd1.out.i (app_a hli) (by decide) (Nat.le_refl _) ?_
              intro v5 u2 R5 G5 o5
              have g5 : Grew u1 u2 := below_of_grown (show u1.grownBy u2 none from G5)
              rw [List.nil_append] at R5
              obtain ⟨a5, c5, rfl⟩ := R5.len
              have hs45 := sep_new HR4.out R5 (Nat.le_refl _)
              have HR5 := Lib.hid R5
              have HR4_2 := Lib.hid (HR4.out.grew g5)
              have HRd2 := Lib.hid (HRd1.out.grew g5)
              have HO2 := Lib.hid (HO1.out.grew g5)
              have HS2 := Lib.hid (HS1.out.grew g5)
              have HT2 := Lib.hid (HT1.out.grew g5)
              have HG2 := Lib.hid (grown_trans HG1.out (grown_row g5.grown))
              have hz5 := g5.size
              clear R5 G5 g5 o5 l0 l1 l2
              obtain ⟨l0, l1, l2, l3, l4, l5⟩ := HO2.out.three
              refine hK _ _ ?_
              clear hK K
              try simp only [Act.put, List.setIfInBounds_toArray, List.set_cons_zero, List.set_cons_succ]
              refine wpAny_ready (rs := [8]) (by kernel_rfl) (by simp) ?_
              refine AllReady.cons (o := ⟨some 14, _, _, _, _, _⟩) rfl (fun K hK => ?st15_0) AllReady.nil
              case st15_0 =>
                refine step_append_ints (u2) (by rfl) (.const (.slice none 0 0)) (.tmp 13) 22 (by rfl) (u2.heap.size) info_I und_I (by decide) _ [] (by rfl) (RowE.nil _ _) (.slice ar nr cr) x.r (by rfl) HRd2.out.r (app_a hlr) (by decide) (Nat.le_refl _) ?_
                intro v6 u3 R6 G6 o6
                have g6 : Grew u2 u3 := below_of_grown (show u2.grownBy u3 none from G6)
                rw [List.nil_append] at R6
                obtain ⟨a6, c6, rfl⟩ := R6.len
                have hs46 := sep_new HR4_2.out R6 (Nat.le_refl _)
                have hs56 := sep_new HR5.out R6 (Nat.le_refl _)
                have HR6 := Lib.hid R6
                have HR4_3 := Lib.hid (HR4_2.out.grew g6)
                have HR5_3 := Lib.hid (HR5.out.grew g6)
                have HRd3 := Lib.hid (HRd2.out.grew g6)
                have HO3 := Lib.hid (HO2.out.grew g6)
                have HS3 := Lib.hid (HS2.out.grew g6)
                have HT3 := Lib.hid (HT2.out.grew g6)
                have HG3 := Lib.hid (grown_trans HG2.out (grown_row g6.grown))
                have hz6 := g6.size
                clear R6 G6 g6 o6 l0 l1 l2
                obtain ⟨l0, l1, l2, l3, l4, l5⟩ := HO3.out.three
                refine hK _ _ ?_
                clear hK K
                try simp only [Act.put, List.setIfInBounds_toArray, List.set_cons_zero, List.set_cons_succ]
                refine wpAny_take (i := 9) (oi := ⟨some 15, _, _, _, _, _⟩) (v := ?vv13) rfl (by kernel_rfl) (by kernel_rfl) (by kernel_rfl) (fun _ _ _ h => h) (Or.inl ⟨by rfl, ?yy13⟩) ?rr13
                case yy13 => (intro w; go_simp; (try with_reducible rfl))
                try simp only [Act.put, List.setIfInBounds_toArray, List.set_cons_zero, List.set_cons_succ]
                refine wpAny_ready (rs := [10]) (by kernel_rfl) (by simp) ?_
                refine AllReady.cons (o := ⟨none, _, _, _, _, _⟩) rfl (fun K hK => ?st14_0) AllReady.nil
                case st14_0 =>
                  go_simp
                  refine hK _ _ ?_
                  clear hK K
                  try simp only [Act.put, List.setIfInBounds_toArray, List.set_cons_zero, List.set_cons_succ]
                  refine wpAny_done (by kernel_rfl) ?_ _
                  (first | go_wp2 | skip)
                  go_meet
                  rw [← hna, ← hni, ← hnr]
                  generalize hw : World.setCell (World.setCell (World.setCell u3 _ _) _ _) _ _ = wz
                  have hb4 : sl < w2.drew.heap.size := hd0
                  have hb5 : sl < u1.heap.size := by omega
                  have hb6 : sl < u2.heap.size := by omega
                  exact ⟨x, _, _, _, _, _, _, hla, hli, hlr, HWF.out, ⟨(HR4_3.out.far3 hw hb4).wider hb4, (HR5_3.out.far3 hw hb5).wider hb5, (HR6.out.far3 hw hb6).wider hb6⟩, ⟨hs45, hs46, hs56⟩, HO3.out.store3 hw, HS3.out.far3 hw (by omega), HT3.out.far3 hw (by omega), grown3 HG3.out hw (by have := HSX.out; omega)⟩
      case st45_1 =>
        go_simp
        refine hK _ _ ?_
        clear hK K
        try simp only [Act.put, List.setIfInBounds_toArray, List.set_cons_zero, List.set_cons_succ]
        refine wpAny_ready (rs := [2, 7]) (by kernel_rfl) (by simp) ?_
        refine AllReady.cons (o := ⟨some 8, _, _, _, _, _⟩) rfl (fun K hK => ?st33_0) (AllReady.cons (o := ⟨some 13, _, _, _, _, _⟩) rfl (fun K hK => ?st33_1) AllReady.nil)
        case st33_0 =>
          refine step_append_ints (w2.drew) (by rfl) (.const (.slice none 0 0)) (.tmp 7) 22 (by rfl) (w2.drew.heap.size) info_I und_I (by decide) _ [] (by rfl) (RowE.nil _ _) (.slice aa na ca) x.a (by rfl) HRd.out.a (app_a hla) (by decide) (Nat.le_refl _) ?_
          intro v4 u1 R4 G4 o4
          have g4 : Grew w2.drew u1 := below_of_grown (show w2.drew.grownBy u1 none from G4)
          rw [List.nil_append] at R4
          obtain ⟨a4, c4, rfl⟩ := R4.len
          have HR4 := Lib.hid R4
          have HRd1 := Lib.hid (HRd.out.grew g4)
          have HO1 := Lib.hid (HO.out.grew g4)
          have HS1 := Lib.hid (HS.out.grew g4)
          have HT1 := Lib.hid (HT.out.grew g4)
          have HG1 := Lib.hid (grown_trans HG.out (grown_row g4.grown))
          have hz4 := g4.size
          clear R4 G4 g4 o4 l0 l1 l2
          obtain ⟨l0, l1, l2, l3, l4, l5⟩ := HO1.out.three
          refine hK _ _ ?_
          clear hK K
          try simp only [Act.put, List.setIfInBounds_toArray, List.set_cons_zero, List.set_cons_succ]
          refine wpAny_ready (rs := [5, 7]) (by kernel_rfl) (by simp) ?_
          refine AllReady.cons (o := ⟨some 11, _, _, _, _, _⟩) rfl (fun K hK => ?st27_0) (AllReady.cons (o := ⟨some 13, _, _, _, _, _⟩) rfl (fun K hK => ?st27_1) AllReady.nil)
          case st27_0 =>
            refine step_append_ints (u1) (by rfl) (.const (.slice none 0 0)) (.tmp 10) 22 (by rfl) (u1.heap.size) info_I und_I (by decide) _ [] (by rfl) (RowE.nil _ _) (.slice ai ni ci) x.i (by rfl) HRd1.out.i (app_a hli) (by decide) (Nat.le_refl _) ?_
            intro v5 u2 R5 G5 o5
            have g5 : Grew u1 u2 := below_of_grown (show u1.grownBy u2 none from G5)
            rw [List.nil_append] at R5
            obtain ⟨a5, c5, rfl⟩ := R5.len
            have hs45 := sep_new HR4.out R5 (Nat.le_refl _)
            have HR5 := Lib.hid R5
            have HR4_2 := Lib.hid (HR4.out.grew g5)
            have HRd2 := Lib.hid (HRd1.out.grew g5)
            have HO2 := Lib.hid (HO1.out.grew g5)
            have HS2 := Lib.hid (HS1.out.grew g5)
            have HT2 := Lib.hid (HT1.out.grew g5)
            have HG2 := Lib.hid (grown_trans HG1.out (grown_row g5.grown))
            have hz5 := g5.size
            clear R5 G5 g5 o5 l0 l1 l2
            obtain ⟨l0, l1, l2, l3, l4, l5⟩ := HO2.out.three
            refine hK _ _ ?_
            clear hK K
            try simp only [Act.put, List.setIfInBounds_toArray, List.set_cons_zero, List.set_cons_succ]
            refine wpAny_ready (rs := [7]) (by kernel_rfl) (by simp) ?_
            refine AllReady.cons (o := ⟨some 13, _, _, _, _, _⟩) rfl (fun K hK => ?st22_0) AllReady.nil
            case st22_0 =>
              go_simp
              refine hK _ _ ?_
              clear hK K
              try simp only [Act.put, List.setIfInBounds_toArray, List.set_cons_zero, List.set_cons_succ]
              refine wpAny_ready (rs := [8]) (by kernel_rfl) (by simp) ?_
              refine AllReady.cons (o := ⟨some 14, _, _, _, _, _⟩) rfl (fun K hK => ?st21_0) AllReady.nil
              case st21_0 =>
                refine step_append_ints (u2) (by rfl) (.const (.slice none 0 0)) (.tmp 13) 22 (by rfl) (u2.heap.size) info_I und_I (by decide) _ [] (by rfl) (RowE.nil _ _) (.slice ar nr cr) x.r (by rfl) HRd2.out.r (app_a hlr) (by decide) (Nat.le_refl _) ?_
                intro v6 u3 R6 G6 o6
                have g6 : Grew u2 u3 := below_of_grown (show u2.grownBy u3 none from G6)
                rw [List.nil_append] at R6
                obtain ⟨a6, c6, rfl⟩ := R6.len
                have hs46 := sep_new HR4_2.out R6 (Nat.le_refl _)
                have hs56 := sep_new HR5.out R6 (Nat.le_refl _)
                have HR6 := Lib.hid R6
                have HR4_3 := Lib.hid (HR4_2.out.grew g6)
                have HR5_3 := Lib.hid (HR5.out.grew g6)
                have HRd3 := Lib.hid (HRd2.out.grew g6)
                have HO3 := Lib.hid (HO2.out.grew g6)
                have HS3 := Lib.hid (HS2.out.grew g6)
                have HT3 := Lib.hid (HT2.out.grew g6)
                have HG3 := Lib.hid (grown_trans HG2.out (grown_row g6.grown))
                have hz6 := g6.size
                clear R6 G6 g6 o6 l0 l1 l2
                obtain ⟨l0, l1, l2, l3, l4, l5⟩ := HO3.out.three
                refine hK _ _ ?_
                clear hK K
                try simp only [Act.put, List.setIfInBounds_toArray, List.set_cons_zero, List.set_cons_succ]
                refine wpAny_take (i := 9) (oi := ⟨some 15, _, _, _, _, _⟩) (v := ?vv19) rfl (by kernel_rfl) (by kernel_rfl) (by kernel_rfl) (fun _ _ _ h => h) (Or.inl ⟨by rfl, ?yy19⟩) ?rr19
                case yy19 => (intro w; go_simp; (try with_reducible rfl))
                try simp only [Act.put, List.setIfInBounds_toArray, List.set_cons_zero, List.set_cons_succ]
                refine wpAny_ready (rs := [10]) (by kernel_rfl) (by simp) ?_
                refine AllReady.cons (o := ⟨none, _, _, _, _, _⟩) rfl (fun K hK => ?st20_0) AllReady.nil
                case st20_0 =>
                  go_simp
                  refine hK _ _ ?_
                  clear hK K
                  try simp only [Act.put, List.setIfInBounds_toArray, List.set_cons_zero, List.set_cons_succ]
                  refine wpAny_done (by kernel_rfl) ?_ _
                  (first | go_wp2 | skip)
                  go_meet
                  rw [← hna, ← hni, ← hnr]
                  generalize hw : World.setCell (World.setCell (World.setCell u3 _ _) _ _) _ _ = wz
                  have hb4 : sl < w2.drew.heap.size := hd0
                  have hb5 : sl < u1.heap.size := by omega
                  have hb6 : sl < u2.heap.size := by omega
                  exact ⟨x, _, _, _, _, _, _, hla, hli, hlr, HWF.out, ⟨(HR4_3.out.far3 hw hb4).wider hb4, (HR5_3.out.far3 hw hb5).wider hb5, (HR6.out.far3 hw hb6).wider hb6⟩, ⟨hs45, hs46, hs56⟩, HO3.out.store3 hw, HS3.out.far3 hw (by omega), HT3.out.far3 hw (by omega), grown3 HG3.out hw (by have := HSX.out; omega)⟩
          case st27_1 =>
            go_simp
            refine hK _ _ ?_
            clear hK K
            try simp only [Act.put, List.setIfInBounds_toArray, List.set_cons_zero, List.set_cons_succ]
            refine wpAny_ready (rs := [5]) (by kernel_rfl) (by simp) ?_
            refine AllReady.cons (o := ⟨some 11, _, _, _, _, _⟩) rfl (fun K hK => ?st26_0) AllReady.nil
            case st26_0 =>
              refine step_append_ints (u1) (by rfl) (.const (.slice none 0 0)) (.tmp 10) 22 (by rfl) (u1.heap.size) info_I und_I (by decide) _ [] (by rfl) (RowE.nil _ _) (.slice ai ni ci) x.i (by rfl) HRd1.out.i (app_a hli) (by decide) (Nat.le_refl _) ?_
              intro v5 u2 R5 G5 o5
              have g5 : Grew u1 u2 := below_of_grown (show u1.grownBy u2 none from G5)
              rw [List.nil_append] at R5
              obtain ⟨a5, c5, rfl⟩ := R5.len
              have hs45 := sep_new HR4.out R5 (Nat.le_refl _)
              have HR5 := Lib.hid R5
              have HR4_2 := Lib.hid (HR4.out.grew g5)
              have HRd2 := Lib.hid (HRd1.out.grew g5)
              have HO2 := Lib.hid (HO1.out.grew g5)
              have HS2 := Lib.hid (HS1.out.grew g5)
              have HT2 := Lib.hid (HT1.out.grew g5)
              have HG2 := Lib.hid (grown_trans HG1.out (grown_row g5.grown))
              have hz5 := g5.size
              clear R5 G5 g5 o5 l0 l1 l2
              obtain ⟨l0, l1, l2, l3, l4, l5⟩ := HO2.out.three
              refine hK _ _ ?_
              clear hK K
              try simp only [Act.put, List.setIfInBounds_toArray, List.set_cons_zero, List.set_cons_succ]
              refine wpAny_ready (rs := [8]) (by kernel_rfl) (by simp) ?_
              refine AllReady.cons (o := ⟨some 14, _, _, _, _, _⟩) rfl (fun K hK => ?st25_0) AllReady.nil
              case st25_0 =>
                refine step_append_ints (u2) (by rfl) (.const (.slice none 0 0)) (.tmp 13) 22 (by rfl) (u2.heap.size) info_I und_I (by decide) _ [] (by rfl) (RowE.nil _ _) (.slice ar nr cr) x.r (by rfl) HRd2.out.r (app_a hlr) (by decide) (Nat.le_refl _) ?_
                intro v6 u3 R6 G6 o6
                have g6 : Grew u2 u3 := below_of_grown (show u2.grownBy u3 none from G6)
                rw [List.nil_append] at R6
                obtain ⟨a6, c6, rfl⟩ := R6.len
                have hs46 := sep_new HR4_2.out R6 (Nat.le_refl _)
                have hs56 := sep_new HR5.out R6 (Nat.le_refl _)
                have HR6 := Lib.hid R6
                have HR4_3 := Lib.hid (HR4_2.out.grew g6)
                have HR5_3 := Lib.hid (HR5.out.grew g6)
                have HRd3 := Lib.hid (HRd2.out.grew g6)
                have HO3 := Lib.hid (HO2.out.grew g6)
                have HS3 := Lib.hid (HS2.out.grew g6)
                have HT3 := Lib.hid (HT2.out.grew g6)
                have HG3 := Lib.hid (grown_trans HG2.out (grown_row g6.grown))
                have hz6 := g6.size
                clear R6 G6 g6 o6 l0 l1 l2
                obtain ⟨l0, l1, l2, l3, l4, l5⟩ := HO3.out.three
                refine hK _ _ ?_
                clear hK K
                try simp only [Act.put, List.setIfInBounds_toArray, List.set_cons_zero, List.set_cons_succ]
                refine wpAny_take (i := 9) (oi := ⟨some 15, _, _, _, _, _⟩) (v := ?vv23) rfl (by kernel_rfl) (by kernel_rfl) (by kernel_rfl) (fun _ _ _ h => h) (Or.inl ⟨by rfl, ?yy23⟩) ?rr23
                case yy23 => (intro w; go_simp; (try with_reducible rfl))
                try simp only [Act.put, List.setIfInBounds_toArray, List.set_cons_zero, List.set_cons_succ]
                refine wpAny_ready (rs := [10]) (by kernel_rfl) (by simp) ?_
                refine AllReady.cons (o := ⟨none, _, _, _, _, _⟩) rfl (fun K hK => ?st24_0) AllReady.nil
                case st24_0 =>
                  go_simp
                  refine hK _ _ ?_
                  clear hK K
                  try simp only [Act.put, List.setIfInBounds_toArray, List.set_cons_zero, List.set_cons_succ]
                  refine wpAny_done (by kernel_rfl) ?_ _
                  (first | go_wp2 | skip)
                  go_meet
                  rw [← hna, ← hni, ← hnr]
                  generalize hw : World.setCell (World.setCell (World.setCell u3 _ _) _ _) _ _ = wz
                  have hb4 : sl < w2.drew.heap.size := hd0
                  have hb5 : sl < u1.heap.size := by omega
                  have hb6 : sl < u2.heap.size := by omega
                  exact ⟨x, _, _, _, _, _, _, hla, hli, hlr, HWF.out, ⟨(HR4_3.out.far3 hw hb4).wider hb4, (HR5_3.out.far3 hw hb5).wider hb5, (HR6.out.far3 hw hb6).wider hb6⟩, ⟨hs45, hs46, hs56⟩, HO3.out.store3 hw, HS3.out.far3 hw (by omega), HT3.out.far3 hw (by omega), grown3 HG3.out hw (by have := HSX.out; omega)⟩
        case st33_1 =>
          go_simp
          refine hK _ _ ?_
          clear hK K
          try simp only [Act.put, List.setIfInBounds_toArray, List.set_cons_zero, List.set_cons_succ]
          refine wpAny_ready (rs := [2]) (by kernel_rfl) (by simp) ?_
          refine AllReady.cons (o := ⟨some 8, _, _, _, _, _⟩) rfl (fun K hK => ?st32_0) AllReady.nil
          case st32_0 =>
            refine step_append_ints (w2.drew) (by rfl) (.const (.slice none 0 0)) (.tmp 7) 22 (by rfl) (w2.drew.heap.size) info_I und_I (by decide) _ [] (by rfl) (RowE.nil _ _) (.slice aa na ca) x.a (by rfl) HRd.out.a (app_a hla) (by decide) (Nat.le_refl _) ?_
            intro v4 u1 R4 G4 o4
            have g4 : Grew w2.drew u1 := below_of_grown (show w2.drew.grownBy u1 none from G4)
            rw [List.nil_append] at R4
            obtain ⟨a4, c4, rfl⟩ := R4.len
            have HR4 := Lib.hid R4
            have HRd1 := Lib.hid (HRd.out.grew g4)
            have HO1 := Lib.hid (HO.out.grew g4)
            have HS1 := Lib.hid (HS.out.grew g4)
            have HT1 := Lib.hid (HT.out.grew g4)
            have HG1 := Lib.hid (grown_trans HG.out (grown_row g4.grown))
            have hz4 := g4.size
            clear R4 G4 g4 o4 l0 l1 l2
            obtain ⟨l0, l1, l2, l3, l4, l5⟩ := HO1.out.three
            refine hK _ _ ?_
            clear hK K
            try simp only [Act.put, List.setIfInBounds_toArray, List.set_cons_zero, List.set_cons_succ]
            refine wpAny_ready (rs := [5]) (by kernel_rfl) (by simp) ?_
            refine AllReady.cons (o := ⟨some 11, _, _, _, _, _⟩) rfl (fun K hK => ?st31_0) AllReady.nil
            case st31_0 =>
              refine step_append_ints (u1) (by rfl) (.const (.slice none 0 0)) (.tmp 10) 22 (by rfl) (u1.heap.size) info_I und_I (by decide) _ [] (by rfl) (RowE.nil _ _) (.slice ai ni ci) x.i (by rfl) HRd1.out.i (app_a hli) (by decide) (Nat.le_refl _) ?_
              intro v5 u2 R5 G5 o5
              have g5 : Grew u1 u2 := below_of_grown (show u1.grownBy u2 none from G5)
              rw [List.nil_append] at R5
              obtain ⟨a5, c5, rfl⟩ := R5.len
              have hs45 := sep_new HR4.out R5 (Nat.le_refl _)
              have HR5 := Lib.hid R5
              have HR4_2 := Lib.hid (HR4.out.grew g5)
              have HRd2 := Lib.hid (HRd1.out.grew g5)
              have HO2 := Lib.hid (HO1.out.grew g5)
              have HS2 := Lib.hid (HS1.out.grew g5)
              have HT2 := Lib.hid (HT1.out.grew g5)
              have HG2 := Lib.hid (grown_trans HG1.out (grown_row g5.grown))
              have hz5 := g5.size
              clear R5 G5 g5 o5 l0 l1 l2
              obtain ⟨l0, l1, l2, l3, l4, l5⟩ := HO2.out.three
              refine hK _ _ ?_
              clear hK K
              try simp only [Act.put, List.setIfInBounds_toArray, List.set_cons_zero, List.set_cons_succ]
              refine wpAny_ready (rs := [8]) (by kernel_rfl) (by simp) ?_
              refine AllReady.cons (o := ⟨some 14, _, _, _, _, _⟩) rfl (fun K hK => ?st30_0) AllReady.nil
              case st30_0 =>
                refine step_append_ints (u2) (by rfl) (.const (.slice none 0 0)) (.tmp 13) 22 (by rfl) (u2.heap.size) info_I und_I (by decide) _ [] (by rfl) (RowE.nil _ _) (.slice ar nr cr) x.r (by rfl) HRd2.out.r (app_a hlr) (by decide) (Nat.le_refl _) ?_
                intro v6 u3 R6 G6 o6
                have g6 : Grew u2 u3 := below_of_grown (show u2.grownBy u3 none from G6)
                rw [List.nil_append] at R6
                obtain ⟨a6, c6, rfl⟩ := R6.len
                have hs46 := sep_new HR4_2.out R6 (Nat.le_refl _)
                have hs56 := sep_new HR5.out R6 (Nat.le_refl _)
                have HR6 := Lib.hid R6
                have HR4_3 := Lib.hid (HR4_2.out.grew g6)
                have HR5_3 := Lib.hid (HR5.out.grew g6)
                have HRd3 := Lib.hid (HRd2.out.grew g6)
                have HO3 := Lib.hid (HO2.out.grew g6)
                have HS3 := Lib.hid (HS2.out.grew g6)
                have HT3 := Lib.hid (HT2.out.grew g6)
                have HG3 := Lib.hid (grown_trans HG2.out (grown_row g6.grown))
                have hz6 := g6.size
                clear R6 G6 g6 o6 l0 l1 l2
                obtain ⟨l0, l1, l2, l3, l4, l5⟩ := HO3.out.three
                refine hK _ _ ?_
                clear hK K
                try simp only [Act.put, List.setIfInBounds_toArray, List.set_cons_zero, List.set_cons_succ]
                refine wpAny_take (i := 9) (oi := ⟨some 15, _, _, _, _, _⟩) (v := ?vv28) rfl (by kernel_rfl) (by kernel_rfl) (by kernel_rfl) (fun _ _ _ h => h) (Or.inl ⟨by rfl, ?yy28⟩) ?rr28
                case yy28 => (intro w; go_simp; (try with_reducible rfl))
                try simp only [Act.put, List.setIfInBounds_toArray, List.set_cons_zero, List.set_cons_succ]
                refine wpAny_ready (rs := [10]) (by kernel_rfl) (by simp) ?_
                refine AllReady.cons (o := ⟨none, _, _, _, _, _⟩) rfl (fun K hK => ?st29_0) AllReady.nil
                case st29_0 =>
                  go_simp
                  refine hK _ _ ?_
                  clear hK K
                  try simp only [Act.put, List.setIfInBounds_toArray, List.set_cons_zero, List.set_cons_succ]
                  refine wpAny_done (by kernel_rfl) ?_ _
                  (first | go_wp2 | skip)
                  go_meet
                  rw [← hna, ← hni, ← hnr]
                  generalize hw : World.setCell (World.setCell (World.setCell u3 _ _) _ _) _ _ = wz
                  have hb4 : sl < w2.drew.heap.size := hd0
                  have hb5 : sl < u1.heap.size := by omega
                  have hb6 : sl < u2.heap.size := by omega
                  exact ⟨x, _, _, _, _, _, _, hla, hli, hlr, HWF.out, ⟨(HR4_3.out.far3 hw hb4).wider hb4, (HR5_3.out.far3 hw hb5).wider hb5, (HR6.out.far3 hw hb6).wider hb6⟩, ⟨hs45, hs46, hs56⟩, HO3.out.store3 hw, HS3.out.far3 hw (by omega), HT3.out.far3 hw (by omega), grown3 HG3.out hw (by have := HSX.out; omega)⟩
      case st45_2 =>
        go_simp
        refine hK _ _ ?_
        clear hK K
        try simp only [Act.put, List.setIfInBounds_toArray, List.set_cons_zero, List.set_cons_succ]
        refine wpAny_ready (rs := [2, 4]) (by kernel_rfl) (by simp) ?_
        refine AllReady.cons (o := ⟨some 8, _, _, _, _, _⟩) rfl (fun K hK => ?st44_0) (AllReady.cons (o := ⟨some 10, _, _, _, _, _⟩) rfl (fun K hK => ?st44_1) AllReady.nil)
        case st44_0 =>
          refine step_append_ints (w2.drew) (by rfl) (.const (.slice none 0 0)) (.tmp 7) 22 (by rfl) (w2.drew.heap.size) info_I und_I (by decide) _ [] (by rfl) (RowE.nil _ _) (.slice aa na ca) x.a (by rfl) HRd.out.a (app_a hla) (by decide) (Nat.le_refl _) ?_
          intro v4 u1 R4 G4 o4
          have g4 : Grew w2.drew u1 := below_of_grown (show w2.drew.grownBy u1 none from G4)
          rw [List.nil_append] at R4
          obtain ⟨a4, c4, rfl⟩ := R4.len
          have HR4 := Lib.hid R4
          have HRd1 := Lib.hid (HRd.out.grew g4)
          have HO1 := Lib.hid (HO.out.grew g4)
          have HS1 := Lib.hid (HS.out.grew g4)
          have HT1 := Lib.hid (HT.out.grew g4)
          have HG1 := Lib.hid (grown_trans HG.out (grown_row g4.grown))
          have hz4 := g4.size
          clear R4 G4 g4 o4 l0 l1 l2
          obtain ⟨l0, l1, l2, l3, l4, l5⟩ := HO1.out.three
          refine hK _ _ ?_
          clear hK K
          try simp only [Act.put, List.setIfInBounds_toArray, List.set_cons_zero, List.set_cons_succ]
          refine wpAny_ready (rs := [4]) (by kernel_rfl) (by simp) ?_
          refine AllReady.cons (o := ⟨some 10, _, _, _, _, _⟩) rfl (fun K hK => ?st38_0) AllReady.nil
          case st38_0 =>
            go_simp
            refine hK _ _ ?_
            clear hK K
            try simp only [Act.put, List.setIfInBounds_toArray, List.set_cons_zero, List.set_cons_succ]
            refine wpAny_ready (rs := [5]) (by kernel_rfl) (by simp) ?_
            refine AllReady.cons (o := ⟨some 11, _, _, _, _, _⟩) rfl (fun K hK => ?st37_0) AllReady.nil
            case st37_0 =>
              refine step_append_ints (u1) (by rfl) (.const (.slice none 0 0)) (.tmp 10) 22 (by rfl) (u1.heap.size) info_I und_I (by decide) _ [] (by rfl) (RowE.nil _ _) (.slice ai ni ci) x.i (by rfl) HRd1.out.i (app_a hli) (by decide) (Nat.le_refl _) ?_
              intro v5 u2 R5 G5 o5
              have g5 : Grew u1 u2 := below_of_grown (show u1.grownBy u2 none from G5)
              rw [List.nil_append] at R5
              obtain ⟨a5, c5, rfl⟩ := R5.len
              have hs45 := sep_new HR4.out R5 (Nat.le_refl _)
              have HR5 := Lib.hid R5
              have HR4_2 := Lib.hid (HR4.out.grew g5)
              have HRd2 := Lib.hid (HRd1.out.grew g5)
              have HO2 := Lib.hid (HO1.out.grew g5)
              have HS2 := Lib.hid (HS1.out.grew g5)
              have HT2 := Lib.hid (HT1.out.grew g5)
              have HG2 := Lib.hid (grown_trans HG1.out (grown_row g5.grown))
              have hz5 := g5.size
              clear R5 G5 g5 o5 l0 l1 l2
              obtain ⟨l0, l1, l2, l3, l4, l5⟩ := HO2.out.three
              refine hK _ _ ?_
              clear hK K
              try simp only [Act.put, List.setIfInBounds_toArray, List.set_cons_zero, List.set_cons_succ]
              refine wpAny_ready (rs := [8]) (by kernel_rfl) (by simp) ?_
              refine AllReady.cons (o := ⟨some 14, _, _, _, _, _⟩) rfl (fun K hK => ?st36_0) AllReady.nil
              case st36_0 =>
                refine step_append_ints (u2) (by rfl) (.const (.slice none 0 0)) (.tmp 13) 22 (by rfl) (u2.heap.size) info_I und_I (by decide) _ [] (by rfl) (RowE.nil _ _) (.slice ar nr cr) x.r (by rfl) HRd2.out.r (app_a hlr) (by decide) (Nat.le_refl _) ?_
                intro v6 u3 R6 G6 o6
                have g6 : Grew u2 u3 := below_of_grown (show u2.grownBy u3 none from G6)
                rw [List.nil_append] at R6
                obtain ⟨a6, c6, rfl⟩ := R6.len
                have hs46 := sep_new HR4_2.out R6 (Nat.le_refl _)
                have hs56 := sep_new HR5.out R6 (Nat.le_refl _)
                have HR6 := Lib.hid R6
                have HR4_3 := Lib.hid (HR4_2.out.grew g6)
                have HR5_3 := Lib.hid (HR5.out.grew g6)
                have HRd3 := Lib.hid (HRd2.out.grew g6)
                have HO3 := Lib.hid (HO2.out.grew g6)
                have HS3 := Lib.hid (HS2.out.grew g6)
                have HT3 := Lib.hid (HT2.out.grew g6)
                have HG3 := Lib.hid (grown_trans HG2.out (grown_row g6.grown))
                have hz6 := g6.size
                clear R6 G6 g6 o6 l0 l1 l2
                obtain ⟨l0, l1, l2, l3, l4, l5⟩ := HO3.out.three
                refine hK _ _ ?_
                clear hK K
                try simp only [Act.put, List.setIfInBounds_toArray, List.set_cons_zero, List.set_cons_succ]
                refine wpAny_take (i := 9) (oi := ⟨some 15, _, _, _, _, _⟩) (v := ?vv34) rfl (by kernel_rfl) (by kernel_rfl) (by kernel_rfl) (fun _ _ _ h => h) (Or.inl ⟨by rfl, ?yy34⟩) ?rr34
                case yy34 => (intro w; go_simp; (try with_reducible rfl))
                try simp only [Act.put, List.setIfInBounds_toArray, List.set_cons_zero, List.set_cons_succ]
                refine wpAny_ready (rs := [10]) (by kernel_rfl) (by simp) ?_
                refine AllReady.cons (o := ⟨none, _, _, _, _, _⟩) rfl (fun K hK => ?st35_0) AllReady.nil
                case st35_0 =>
                  go_simp
                  refine hK _ _ ?_
                  clear hK K
                  try simp only [Act.put, List.setIfInBounds_toArray, List.set_cons_zero, List.set_cons_succ]
                  refine wpAny_done (by kernel_rfl) ?_ _
                  (first | go_wp2 | skip)
                  go_meet
                  rw [← hna, ← hni, ← hnr]
                  generalize hw : World.setCell (World.setCell (World.setCell u3 _ _) _ _) _ _ = wz
                  have hb4 : sl < w2.drew.heap.size := hd0
                  have hb5 : sl < u1.heap.size := by omega
                  have hb6 : sl < u2.heap.size := by omega
                  exact ⟨x, _, _, _, _, _, _, hla, hli, hlr, HWF.out, ⟨(HR4_3.out.far3 hw hb4).wider hb4, (HR5_3.out.far3 hw hb5).wider hb5, (HR6.out.far3 hw hb6).wider hb6⟩, ⟨hs45, hs46, hs56⟩, HO3.out.store3 hw, HS3.out.far3 hw (by omega), HT3.out.far3 hw (by omega), grown3 HG3.out hw (by have := HSX.out; omega)⟩
        case st44_1 =>
          go_simp
          refine hK _ _ ?_
          clear hK K
          try simp only [Act.put, List.setIfInBounds_toArray, List.set_cons_zero, List.set_cons_succ]
          refine wpAny_ready (rs := [2]) (by kernel_rfl) (by simp) ?_
          refine AllReady.cons (o := ⟨some 8, _, _, _, _, _⟩) rfl (fun K hK => ?st43_0) AllReady.nil
          case st43_0 =>
            refine step_append_ints (w2.drew) (by rfl) (.const (.slice none 0 0)) (.tmp 7) 22 (by rfl) (w2.drew.heap.size) info_I und_I (by decide) _ [] (by rfl) (RowE.nil _ _) (.slice aa na ca) x.a (by rfl) HRd.out.a (app_a hla) (by decide) (Nat.le_refl _) ?_
            intro v4 u1 R4 G4 o4
            have g4 : Grew w2.drew u1 := below_of_grown (show w2.drew.grownBy u1 none from G4)
            rw [List.nil_append] at R4
            obtain ⟨a4, c4, rfl⟩ := R4.len
            have HR4 := Lib.hid R4
            have HRd1 := Lib.hid (HRd.out.grew g4)
            have HO1 := Lib.hid (HO.out.grew g4)
            have HS1 := Lib.hid (HS.out.grew g4)
            have HT1 := Lib.hid (HT.out.grew g4)
            have HG1 := Lib.hid (grown_trans HG.out (grown_row g4.grown))
            have hz4 := g4.size
            clear R4 G4 g4 o4 l0 l1 l2
            obtain ⟨l0, l1, l2, l3, l4, l5⟩ := HO1.out.three
            refine hK _ _ ?_
            clear hK K
            try simp only [Act.put, List.setIfInBounds_toArray, List.set_cons_zero, List.set_cons_succ]
            refine wpAny_ready (rs := [5]) (by kernel_rfl) (by simp) ?_
            refine AllReady.cons (o := ⟨some 11, _, _, _, _, _⟩) rfl (fun K hK => ?st42_0) AllReady.nil
            case st42_0 =>
              refine step_append_ints (u1) (by rfl) (.const (.slice none 0 0)) (.tmp 10) 22 (by rfl) (u1.heap.size) info_I und_I (by decide) _ [] (by rfl) (RowE.nil _ _) (.slice ai ni ci) x.i (by rfl) HRd1.out.i (app_a hli) (by decide) (Nat.le_refl _) ?_
              intro v5 u2 R5 G5 o5
              have g5 : Grew u1 u2 := below_of_grown (show u1.grownBy u2 none from G5)
              rw [List.nil_append] at R5
              obtain ⟨a5, c5, rfl⟩ := R5.len
              have hs45 := sep_new HR4.out R5 (Nat.le_refl _)
              have HR5 := Lib.hid R5
              have HR4_2 := Lib.hid (HR4.out.grew g5)
              have HRd2 := Lib.hid (HRd1.out.grew g5)
              have HO2 := Lib.hid (HO1.out.grew g5)
              have HS2 := Lib.hid (HS1.out.grew g5)
              have HT2 := Lib.hid (HT1.out.grew g5)
              have HG2 := Lib.hid (grown_trans HG1.out (grown_row g5.grown))
              have hz5 := g5.size
              clear R5 G5 g5 o5 l0 l1 l2
              obtain ⟨l0, l1, l2, l3, l4, l5⟩ := HO2.out.three
              refine hK _ _ ?_
              clear hK K
              try simp only [Act.put, List.setIfInBounds_toArray, List.set_cons_zero, List.set_cons_succ]
              refine wpAny_ready (rs := [8]) (by kernel_rfl) (by simp) ?_
              refine AllReady.cons (o := ⟨some 14, _, _, _, _, _⟩) rfl (fun K hK => ?st41_0) AllReady.nil
              case st41_0 =>
                refine step_append_ints (u2) (by rfl) (.const (.slice none 0 0)) (.tmp 13) 22 (by rfl) (u2.heap.size) info_I und_I (by decide) _ [] (by rfl) (RowE.nil _ _) (.slice ar nr cr) x.r (by rfl) HRd2.out.r (app_a hlr) (by decide) (Nat.le_refl _) ?_
                intro v6 u3 R6 G6 o6
                have g6 : Grew u2 u3 := below_of_grown (show u2.grownBy u3 none from G6)
                rw [List.nil_append] at R6
                obtain ⟨a6, c6, rfl⟩ := R6.len
                have hs46 := sep_new HR4_2.out R6 (Nat.le_refl _)
                have hs56 := sep_new HR5.out R6 (Nat.le_refl _)
                have HR6 := Lib.hid R6
                have HR4_3 := Lib.hid (HR4_2.out.grew g6)
                have HR5_3 := Lib.hid (HR5.out.grew g6)
                have HRd3 := Lib.hid (HRd2.out.grew g6)
                have HO3 := Lib.hid (HO2.out.grew g6)
                have HS3 := Lib.hid (HS2.out.grew g6)
                have HT3 := Lib.hid (HT2.out.grew g6)
                have HG3 := Lib.hid (grown_trans HG2.out (grown_row g6.grown))
                have hz6 := g6.size
                clear R6 G6 g6 o6 l0 l1 l2
                obtain ⟨l0, l1, l2, l3, l4, l5⟩ := HO3.out.three
                refine hK _ _ ?_
                clear hK K
                try simp only [Act.put, List.setIfInBounds_toArray, List.set_cons_zero, List.set_cons_succ]
                refine wpAny_take (i := 9) (oi := ⟨some 15, _, _, _, _, _⟩) (v := ?vv39) rfl (by kernel_rfl) (by kernel_rfl) (by kernel_rfl) (fun _ _ _ h => h) (Or.inl ⟨by rfl, ?yy39⟩) ?rr39
                case yy39 => (intro w; go_simp; (try with_reducible rfl))
                try simp only [Act.put, List.setIfInBounds_toArray, List.set_cons_zero, List.set_cons_succ]
                refine wpAny_ready (rs := [10]) (by kernel_rfl) (by simp) ?_
                refine AllReady.cons (o := ⟨none, _, _, _, _, _⟩) rfl (fun K hK => ?st40_0) AllReady.nil
                case st40_0 =>
                  go_simp
                  refine hK _ _ ?_
                  clear hK K
                  try simp only [Act.put, List.setIfInBounds_toArray, List.set_cons_zero, List.set_cons_succ]
                  refine wpAny_done (by kernel_rfl) ?_ _
                  (first | go_wp2 | skip)
                  go_meet
                  rw [← hna, ← hni, ← hnr]
                  generalize hw : World.setCell (World.setCell (World.setCell u3 _ _) _ _) _ _ = wz
                  have hb4 : sl < w2.drew.heap.size := hd0
                  have hb5 : sl < u1.heap.size := by omega
                  have hb6 : sl < u2.heap.size := by omega
                  exact ⟨x, _, _, _, _, _, _, hla, hli, hlr, HWF.out, ⟨(HR4_3.out.far3 hw hb4).wider hb4, (HR5_3.out.far3 hw hb5).wider hb5, (HR6.out.far3 hw hb6).wider hb6⟩, ⟨hs45, hs46, hs56⟩, HO3.out.store3 hw, HS3.out.far3 hw (by omega), HT3.out.far3 hw (by omega), grown3 HG3.out hw (by have := HSX.out; omega)⟩
    case st86_1 =>
      go_simp
      refine hK _ _ ?_
      clear hK K
      try simp only [Act.put, List.setIfInBounds_toArray, List.set_cons_zero, List.set_cons_succ]
      refine wpAny_ready (rs := [1, 7]) (by kernel_rfl) (by simp) ?_
      refine AllReady.cons (o := ⟨some 7, _, _, _, _, _⟩) rfl (fun K hK => ?st67_0) (AllReady.cons (o := ⟨some 13, _, _, _, _, _⟩) rfl (fun K hK => ?st67_1) AllReady.nil)
      case st67_0 =>
        go_simp
        refine hK _ _ ?_
        clear hK K
        try simp only [Act.put, List.setIfInBounds_toArray, List.set_cons_zero, List.set_cons_succ]
        refine wpAny_ready (rs := [2, 7]) (by kernel_rfl) (by simp) ?_
        refine AllReady.cons (o := ⟨some 8, _, _, _, _, _⟩) rfl (fun K hK => ?st60_0) (AllReady.cons (o := ⟨some 13, _, _, _, _, _⟩) rfl (fun K hK => ?st60_1) AllReady.nil)
        case st60_0 =>
          refine step_append_ints (w2.drew) (by rfl) (.const (.slice none 0 0)) (.tmp 7) 22 (by rfl) (w2.drew.heap.size) info_I und_I (by decide) _ [] (by rfl) (RowE.nil _ _) (.slice aa na ca) x.a (by rfl) HRd.out.a (app_a hla) (by decide) (Nat.le_refl _) ?_
          intro v4 u1 R4 G4 o4
          have g4 : Grew w2.drew u1 := below_of_grown (show w2.drew.grownBy u1 none from G4)
          rw [List.nil_append] at R4
          obtain ⟨a4, c4, rfl⟩ := R4.len
          have HR4 := Lib.hid R4
          have HRd1 := Lib.hid (HRd.out.grew g4)
          have HO1 := Lib.hid (HO.out.grew g4)
          have HS1 := Lib.hid (HS.out.grew g4)
          have HT1 := Lib.hid (HT.out.grew g4)
          have HG1 := Lib.hid (grown_trans HG.out (grown_row g4.grown))
          have hz4 := g4.size
          clear R4 G4 g4 o4 l0 l1 l2
          obtain ⟨l0, l1, l2, l3, l4, l5⟩ := HO1.out.three
          refine hK _ _ ?_
          clear hK K
          try simp only [Act.put, List.setIfInBounds_toArray, List.set_cons_zero, List.set_cons_succ]
          refine wpAny_ready (rs := [5, 7]) (by kernel_rfl) (by simp) ?_
          refine AllReady.cons (o := ⟨some 11, _, _, _, _, _⟩) rfl (fun K hK => ?st54_0) (AllReady.cons (o := ⟨some 13, _, _, _, _, _⟩) rfl (fun K hK => ?st54_1) AllReady.nil)
          case st54_0 =>
            refine step_append_ints (u1) (by rfl) (.const (.slice none 0 0)) (.tmp 10) 22 (by rfl) (u1.heap.size) info_I und_I (by decide) _ [] (by rfl) (RowE.nil _ _) (.slice ai ni ci) x.i (by rfl) HRd1.out.i (app_a hli) (by decide) (Nat.le_refl _) ?_
            intro v5 u2 R5 G5 o5
            have g5 : Grew u1 u2 := below_of_grown (show u1.grownBy u2 none from G5)
            rw [List.nil_append] at R5
            obtain ⟨a5, c5, rfl⟩ := R5.len
            have hs45 := sep_new HR4.out R5 (Nat.le_refl _)
            have HR5 := Lib.hid R5
            have HR4_2 := Lib.hid (HR4.out.grew g5)
            have HRd2 := Lib.hid (HRd1.out.grew g5)
            have HO2 := Lib.hid (HO1.out.grew g5)
            have HS2 := Lib.hid (HS1.out.grew g5)
            have HT2 := Lib.hid (HT1.out.grew g5)
            have HG2 := Lib.hid (grown_trans HG1.out (grown_row g5.grown))
            have hz5 := g5.size
            clear R5 G5 g5 o5 l0 l1 l2
            obtain ⟨l0, l1, l2, l3, l4, l5⟩ := HO2.out.three
            refine hK _ _ ?_
            clear hK K
            try simp only [Act.put, List.setIfInBounds_toArray, List.set_cons_zero, List.set_cons_succ]
            refine wpAny_ready (rs := [7]) (by kernel_rfl) (by simp) ?_
            refine AllReady.cons (o := ⟨some 13, _, _, _, _, _⟩) rfl (fun K hK => ?st49_0) AllReady.nil
            case st49_0 =>
              go_simp
              refine hK _ _ ?_
              clear hK K
              try simp only [Act.put, List.setIfInBounds_toArray, List.set_cons_zero, List.set_cons_succ]
              refine wpAny_ready (rs := [8]) (by kernel_rfl) (by simp) ?_
              refine AllReady.cons (o := ⟨some 14, _, _, _, _, _⟩) rfl (fun K hK => ?st48_0) AllReady.nil
              case st48_0 =>
                refine step_append_ints (u2) (by rfl) (.const (.slice none 0 0)) (.tmp 13) 22 (by rfl) (u2.heap.size) info_I und_I (by decide) _ [] (by rfl) (RowE.nil _ _) (.slice ar nr cr) x.r (by rfl) HRd2.out.r (app_a hlr) (by decide) (Nat.le_refl _) ?_
                intro v6 u3 R6 G6 o6
                have g6 : Grew u2 u3 := below_of_grown (show u2.grownBy u3 none from G6)
                rw [List.nil_append] at R6
                obtain ⟨a6, c6, rfl⟩ := R6.len
                have hs46 := sep_new HR4_2.out R6 (Nat.le_refl _)
                have hs56 := sep_new HR5.out R6 (Nat.le_refl _)
                have HR6 := Lib.hid R6
                have HR4_3 := Lib.hid (HR4_2.out.grew g6)
                have HR5_3 := Lib.hid (HR5.out.grew g6)
                have HRd3 := Lib.hid (HRd2.out.grew g6)
                have HO3 := Lib.hid (HO2.out.grew g6)
                have HS3 := Lib.hid (HS2.out.grew g6)
                have HT3 := Lib.hid (HT2.out.grew g6)
                have HG3 := Lib.hid (grown_trans HG2.out (grown_row g6.grown))
                have hz6 := g6.size
                clear R6 G6 g6 o6 l0 l1 l2
                obtain ⟨l0, l1, l2, l3, l4, l5⟩ := HO3.out.three
                refine hK _ _ ?_
                clear hK K
                try simp only [Act.put, List.setIfInBounds_toArray, List.set_cons_zero, List.set_cons_succ]
                refine wpAny_take (i := 9) (oi := ⟨some 15, _, _, _, _, _⟩) (v := ?vv46) rfl (by kernel_rfl) (by kernel_rfl) (by kernel_rfl) (fun _ _ _ h => h) (Or.inl ⟨by rfl, ?yy46⟩) ?rr46
                case yy46 => (intro w; go_simp; (try with_reducible rfl))
                try simp only [Act.put, List.setIfInBounds_toArray, List.set_cons_zero, List.set_cons_succ]
                refine wpAny_ready (rs := [10]) (by kernel_rfl) (by simp) ?_
                refine AllReady.cons (o := ⟨none, _, _, _, _, _⟩) rfl (fun K hK => ?st47_0) AllReady.nil
                case st47_0 =>
                  go_simp
                  refine hK _ _ ?_
                  clear hK K
                  try simp only [Act.put, List.setIfInBounds_toArray, List.set_cons_zero, List.set_cons_succ]
                  refine wpAny_done (by kernel_rfl) ?_ _
                  (first | go_wp2 | skip)
                  go_meet
                  rw [← hna, ← hni, ← hnr]
                  generalize hw : World.setCell (World.setCell (World.setCell u3 _ _) _ _) _ _ = wz
                  have hb4 : sl < w2.drew.heap.size := hd0
                  have hb5 : sl < u1.heap.size := by omega
                  have hb6 : sl < u2.heap.size := by omega
                  exact ⟨x, _, _, _, _, _, _, hla, hli, hlr, HWF.out, ⟨(HR4_3.out.far3 hw hb4).wider hb4, (HR5_3.out.far3 hw hb5).wider hb5, (HR6.out.far3 hw hb6).wider hb6⟩, ⟨hs45, hs46, hs56⟩, HO3.out.store3 hw, HS3.out.far3 hw (by omega), HT3.out.far3 hw (by omega), grown3 HG3.out hw (by have := HSX.out; omega)⟩
          case st54_1 =>
            go_simp
            refine hK _ _ ?_
            clear hK K
            try simp only [Act.put, List.setIfInBounds_toArray, List.set_cons_zero, List.set_cons_succ]
            refine wpAny_ready (rs := [5]) (by kernel_rfl) (by simp) ?_
            refine AllReady.cons (o := ⟨some 11, _, _, _, _, _⟩) rfl (fun K hK => ?st53_0) AllReady.nil
            case st53_0 =>
              refine step_append_ints (u1) (by rfl) (.const (.slice none 0 0)) (.tmp 10) 22 (by rfl) (u1.heap.size) info_I und_I (by decide) _ [] (by rfl) (RowE.nil _ _) (.slice ai ni ci) x.i (by rfl) HRd1.out.i (app_a hli) (by decide) (Nat.le_refl _) ?_
              intro v5 u2 R5 G5 o5
              have g5 : Grew u1 u2 := below_of_grown (show u1.grownBy u2 none from G5)
              rw [List.nil_append] at R5
              obtain ⟨a5, c5, rfl⟩ := R5.len
              have hs45 := sep_new HR4.out R5 (Nat.le_refl _)
              have HR5 := Lib.hid R5
              have HR4_2 := Lib.hid (HR4.out.grew g5)
              have HRd2 := Lib.hid (HRd1.out.grew g5)
              have HO2 := Lib.hid (HO1.out.grew g5)
              have HS2 := Lib.hid (HS1.out.grew g5)
              have HT2 := Lib.hid (HT1.out.grew g5)
              have HG2 := Lib.hid (grown_trans HG1.out (grown_row g5.grown))
              have hz5 := g5.size
              clear R5 G5 g5 o5 l0 l1 l2
              obtain ⟨l0, l1, l2, l3, l4, l5⟩ := HO2.out.three
              refine hK _ _ ?_
              clear hK K
              try simp only [Act.put, List.setIfInBounds_toArray, List.set_cons_zero, List.set_cons_succ]
              refine wpAny_ready (rs := [8]) (by kernel_rfl) (by simp) ?_
              refine AllReady.cons (o := ⟨some 14, _, _, _, _, _⟩) rfl (fun K hK => ?st52_0) AllReady.nil
              case st52_0 =>
                refine step_append_ints (u2) (by rfl) (.const (.slice none 0 0)) (.tmp 13) 22 (by rfl) (u2.heap.size) info_I und_I (by decide) _ [] (by rfl) (RowE.nil _ _) (.slice ar nr cr) x.r (by rfl) HRd2.out.r (app_a hlr) (by decide) (Nat.le_refl _) ?_
                intro v6 u3 R6 G6 o6
                have g6 : Grew u2 u3 := below_of_grown (show u2.grownBy u3 none from G6)
                rw [List.nil_append] at R6
                obtain ⟨a6, c6, rfl⟩ := R6.len
                have hs46 := sep_new HR4_2.out R6 (Nat.le_refl _)
                have hs56 := sep_new HR5.out R6 (Nat.le_refl _)
                have HR6 := Lib.hid R6
                have HR4_3 := Lib.hid (HR4_2.out.grew g6)
                have HR5_3 := Lib.hid (HR5.out.grew g6)
                have HRd3 := Lib.hid (HRd2.out.grew g6)
                have HO3 := Lib.hid (HO2.out.grew g6)
                have HS3 := Lib.hid (HS2.out.grew g6)
                have HT3 := Lib.hid (HT2.out.grew g6)
                have HG3 := Lib.hid (grown_trans HG2.out (grown_row g6.grown))
                have hz6 := g6.size
                clear R6 G6 g6 o6 l0 l1 l2
                obtain ⟨l0, l1, l2, l3, l4, l5⟩ := HO3.out.three
                refine hK _ _ ?_
                clear hK K
                try simp only [Act.put, List.setIfInBounds_toArray, List.set_cons_zero, List.set_cons_succ]
                refine wpAny_take (i := 9) (oi := ⟨some 15, _, _, _, _, _⟩) (v := ?vv50) rfl (by kernel_rfl) (by kernel_rfl) (by kernel_rfl) (fun _ _ _ h => h) (Or.inl ⟨by rfl, ?yy50⟩) ?rr50
                case yy50 => (intro w; go_simp; (try with_reducible rfl))
                try simp only [Act.put, List.setIfInBounds_toArray, List.set_cons_zero, List.set_cons_succ]
                refine wpAny_ready (rs := [10]) (by kernel_rfl) (by simp) ?_
                refine AllReady.cons (o := ⟨none, _, _, _, _, _⟩) rfl (fun K hK => ?st51_0) AllReady.nil
                case st51_0 =>
                  go_simp
                  refine hK _ _ ?_
                  clear hK K
                  try simp only [Act.put, List.setIfInBounds_toArray, List.set_cons_zero, List.set_cons_succ]
                  refine wpAny_done (by kernel_rfl) ?_ _
                  (first | go_wp2 | skip)
                  go_meet
                  rw [← hna, ← hni, ← hnr]
                  generalize hw : World.setCell (World.setCell (World.setCell u3 _ _) _ _) _ _ = wz
                  have hb4 : sl < w2.drew.heap.size := hd0
                  have hb5 : sl < u1.heap.size := by omega
                  have hb6 : sl < u2.heap.size := by omega
                  exact ⟨x, _, _, _, _, _, _, hla, hli, hlr, HWF.out, ⟨(HR4_3.out.far3 hw hb4).wider hb4, (HR5_3.out.far3 hw hb5).wider hb5, (HR6.out.far3 hw hb6).wider hb6⟩, ⟨hs45, hs46, hs56⟩, HO3.out.store3 hw, HS3.out.far3 hw (by omega), HT3.out.far3 hw (by omega), grown3 HG3.out hw (by have := HSX.out; omega)⟩
        case st60_1 =>
          go_simp
          refine hK _ _ ?_
          clear hK K
          try simp only [Act.put, List.setIfInBounds_toArray, List.set_cons_zero, List.set_cons_succ]
          refine wpAny_ready (rs := [2]) (by kernel_rfl) (by simp) ?_
          refine AllReady.cons (o := ⟨some 8, _, _, _, _, _⟩) rfl (fun K hK => ?st59_0) AllReady.nil
          case st59_0 =>
            refine step_append_ints (w2.drew) (by rfl) (.const (.slice none 0 0)) (.tmp 7) 22 (by rfl) (w2.drew.heap.size) info_I und_I (by decide) _ [] (by rfl) (RowE.nil _ _) (.slice aa na ca) x.a (by rfl) HRd.out.a (app_a hla) (by decide) (Nat.le_refl _) ?_
            intro v4 u1 R4 G4 o4
            have g4 : Grew w2.drew u1 := below_of_grown (show w2.drew.grownBy u1 none from G4)
            rw [List.nil_append] at R4
            obtain ⟨a4, c4, rfl⟩ := R4.len
            have HR4 := Lib.hid R4
            have HRd1 := Lib.hid (HRd.out.grew g4)
            have HO1 := Lib.hid (HO.out.grew g4)
            have HS1 := Lib.hid (HS.out.grew g4)
            have HT1 := Lib.hid (HT.out.grew g4)
            have HG1 := Lib.hid (grown_trans HG.out (grown_row g4.grown))
            have hz4 := g4.size
            clear R4 G4 g4 o4 l0 l1 l2
            obtain ⟨l0, l1, l2, l3, l4, l5⟩ := HO1.out.three
            refine hK _ _ ?_
            clear hK K
            try simp only [Act.put, List.setIfInBounds_toArray, List.set_cons_zero, List.set_cons_succ]
            refine wpAny_ready (rs := [5]) (by kernel_rfl) (by simp) ?_
            refine AllReady.cons (o := ⟨some 11, _, _, _, _, _⟩) rfl (fun K hK => ?st58_0) AllReady.nil
            case st58_0 =>
              refine step_append_ints (u1) (by rfl) (.const (.slice none 0 0)) (.tmp 10) 22 (by rfl) (u1.heap.size) info_I und_I (by decide) _ [] (by rfl) (RowE.nil _ _) (.slice ai ni ci) x.i (by rfl) HRd1.out.i (app_a hli) (by decide) (Nat.le_refl _) ?_
              intro v5 u2 R5 G5 o5
              have g5 : Grew u1 u2 := below_of_grown (show u1.grownBy u2 none from G5)
              rw [List.nil_append] at R5
              obtain ⟨a5, c5, rfl⟩ := R5.len
              have hs45 := sep_new HR4.out R5 (Nat.le_refl _)
              have HR5 := Lib.hid R5
              have HR4_2 := Lib.hid (HR4.out.grew g5)
              have HRd2 := Lib.hid (HRd1.out.grew g5)
              have HO2 := Lib.hid (HO1.out.grew g5)
              have HS2 := Lib.hid (HS1.out.grew g5)
              have HT2 := Lib.hid (HT1.out.grew g5)
              have HG2 := Lib.hid (grown_trans HG1.out (grown_row g5.grown))
              have hz5 := g5.size
              clear R5 G5 g5 o5 l0 l1 l2
              obtain ⟨l0, l1, l2, l3, l4, l5⟩ := HO2.out.three
              refine hK _ _ ?_
              clear hK K
              try simp only [Act.put, List.setIfInBounds_toArray, List.set_cons_zero, List.set_cons_succ]
              refine wpAny_ready (rs := [8]) (by kernel_rfl) (by simp) ?_
              refine AllReady.cons (o := ⟨some 14, _, _, _, _, _⟩) rfl (fun K hK => ?st57_0) AllReady.nil
              case st57_0 =>
                refine step_append_ints (u2) (by rfl) (.const (.slice none 0 0)) (.tmp 13) 22 (by rfl) (u2.heap.size) info_I und_I (by decide) _ [] (by rfl) (RowE.nil _ _) (.slice ar nr cr) x.r (by rfl) HRd2.out.r (app_a hlr) (by decide) (Nat.le_refl _) ?_
                intro v6 u3 R6 G6 o6
                have g6 : Grew u2 u3 := below_of_grown (show u2.grownBy u3 none from G6)
                rw [List.nil_append] at R6
                obtain ⟨a6, c6, rfl⟩ := R6.len
                have hs46 := sep_new HR4_2.out R6 (Nat.le_refl _)
                have hs56 := sep_new HR5.out R6 (Nat.le_refl _)
                have HR6 := Lib.hid R6
                have HR4_3 := Lib.hid (HR4_2.out.grew g6)
                have HR5_3 := Lib.hid (HR5.out.grew g6)
                have HRd3 := Lib.hid (HRd2.out.grew g6)
                have HO3 := Lib.hid (HO2.out.grew g6)
                have HS3 := Lib.hid (HS2.out.grew g6)
                have HT3 := Lib.hid (HT2.out.grew g6)
                have HG3 := Lib.hid (grown_trans HG2.out (grown_row g6.grown))
                have hz6 := g6.size
                clear R6 G6 g6 o6 l0 l1 l2
                obtain ⟨l0, l1, l2, l3, l4, l5⟩ := HO3.out.three
                refine hK _ _ ?_
                clear hK K
                try simp only [Act.put, List.setIfInBounds_toArray, List.set_cons_zero, List.set_cons_succ]
                refine wpAny_take (i := 9) (oi := ⟨some 15, _, _, _, _, _⟩) (v := ?vv55) rfl (by kernel_rfl) (by kernel_rfl) (by kernel_rfl) (fun _ _ _ h => h) (Or.inl ⟨by rfl, ?yy55⟩) ?rr55
                case yy55 => (intro w; go_simp; (try with_reducible rfl))
                try simp only [Act.put, List.setIfInBounds_toArray, List.set_cons_zero, List.set_cons_succ]
                refine wpAny_ready (rs := [10]) (by kernel_rfl) (by simp) ?_
                refine AllReady.cons (o := ⟨none, _, _, _, _, _⟩) rfl (fun K hK => ?st56_0) AllReady.nil
                case st56_0 =>
                  go_simp
                  refine hK _ _ ?_
                  clear hK K
                  try simp only [Act.put, List.setIfInBounds_toArray, List.set_cons_zero, List.set_cons_succ]
                  refine wpAny_done (by kernel_rfl) ?_ _
                  (first | go_wp2 | skip)
                  go_meet
                  rw [← hna, ← hni, ← hnr]
                  generalize hw : World.setCell (World.setCell (World.setCell u3 _ _) _ _) _ _ = wz
                  have hb4 : sl < w2.drew.heap.size := hd0
                  have hb5 : sl < u1.heap.size := by omega
                  have hb6 : sl < u2.heap.size := by omega
                  exact ⟨x, _, _, _, _, _, _, hla, hli, hlr, HWF.out, ⟨(HR4_3.out.far3 hw hb4).wider hb4, (HR5_3.out.far3 hw hb5).wider hb5, (HR6.out.far3 hw hb6).wider hb6⟩, ⟨hs45, hs46, hs56⟩, HO3.out.store3 hw, HS3.out.far3 hw (by omega), HT3.out.far3 hw (by omega), grown3 HG3.out hw (by have := HSX.out; omega)⟩
      case st67_1 =>
        go_simp
        refine hK _ _ ?_
        clear hK K
        try simp only [Act.put, List.setIfInBounds_toArray, List.set_cons_zero, List.set_cons_succ]
        refine wpAny_ready (rs := [1]) (by kernel_rfl) (by simp) ?_
        refine AllReady.cons (o := ⟨some 7, _, _, _, _, _⟩) rfl (fun K hK => ?st66_0) AllReady.nil
        case st66_0 =>
          go_simp
          refine hK _ _ ?_
          clear hK K
          try simp only [Act.put, List.setIfInBounds_toArray, List.set_cons_zero, List.set_cons_succ]
          refine wpAny_ready (rs := [2]) (by kernel_rfl) (by simp) ?_
          refine AllReady.cons (o := ⟨some 8, _, _, _, _, _⟩) rfl (fun K hK => ?st65_0) AllReady.nil
          case st65_0 =>
            refine step_append_ints (w2.drew) (by rfl) (.const (.slice none 0 0)) (.tmp 7) 22 (by rfl) (w2.drew.heap.size) info_I und_I (by decide) _ [] (by rfl) (RowE.nil _ _) (.slice aa na ca) x.a (by rfl) HRd.out.a (app_a hla) (by decide) (Nat.le_refl _) ?_
            intro v4 u1 R4 G4 o4
            have g4 : Grew w2.drew u1 := below_of_grown (show w2.drew.grownBy u1 none from G4)
            rw [List.nil_append] at R4
            obtain ⟨a4, c4, rfl⟩ := R4.len
            have HR4 := Lib.hid R4
            have HRd1 := Lib.hid (HRd.out.grew g4)
            have HO1 := Lib.hid (HO.out.grew g4)
            have HS1 := Lib.hid (HS.out.grew g4)
            have HT1 := Lib.hid (HT.out.grew g4)
            have HG1 := Lib.hid (grown_trans HG.out (grown_row g4.grown))
            have hz4 := g4.size
            clear R4 G4 g4 o4 l0 l1 l2
            obtain ⟨l0, l1, l2, l3, l4, l5⟩ := HO1.out.three
            refine hK _ _ ?_
            clear hK K
            try simp only [Act.put, List.setIfInBounds_toArray, List.set_cons_zero, List.set_cons_succ]
            refine wpAny_ready (rs := [5]) (by kernel_rfl) (by simp) ?_
            refine AllReady.cons (o := ⟨some 11, _, _, _, _, _⟩) rfl (fun K hK => ?st64_0) AllReady.nil
            case st64_0 =>
              refine step_append_ints (u1) (by rfl) (.const (.slice none 0 0)) (.tmp 10) 22 (by rfl) (u1.heap.size) info_I und_I (by decide) _ [] (by rfl) (RowE.nil _ _) (.slice ai ni ci) x.i (by rfl) HRd1.out.i (app_a hli) (by decide) (Nat.le_refl _) ?_
              intro v5 u2 R5 G5 o5
              have g5 : Grew u1 u2 := below_of_grown (show u1.grownBy u2 none from G5)
              rw [List.nil_append] at R5
              obtain ⟨a5, c5, rfl⟩ := R5.len
              have hs45 := sep_new HR4.out R5 (Nat.le_refl _)
              have HR5 := Lib.hid R5
              have HR4_2 := Lib.hid (HR4.out.grew g5)
              have HRd2 := Lib.hid (HRd1.out.grew g5)
              have HO2 := Lib.hid (HO1.out.grew g5)
              have HS2 := Lib.hid (HS1.out.grew g5)
              have HT2 := Lib.hid (HT1.out.grew g5)
              have HG2 := Lib.hid (grown_trans HG1.out (grown_row g5.grown))
              have hz5 := g5.size
              clear R5 G5 g5 o5 l0 l1 l2
              obtain ⟨l0, l1, l2, l3, l4, l5⟩ := HO2.out.three
              refine hK _ _ ?_
              clear hK K
              try simp only [Act.put, List.setIfInBounds_toArray, List.set_cons_zero, List.set_cons_succ]
              refine wpAny_ready (rs := [8]) (by kernel_rfl) (by simp) ?_
              refine AllReady.cons (o := ⟨some 14, _, _, _, _, _⟩) rfl (fun K hK => ?st63_0) AllReady.nil
              case st63_0 =>
                refine step_append_ints (u2) (by rfl) (.const (.slice none 0 0)) (.tmp 13) 22 (by rfl) (u2.heap.size) info_I und_I (by decide) _ [] (by rfl) (RowE.nil _ _) (.slice ar nr cr) x.r (by rfl) HRd2.out.r (app_a hlr) (by decide) (Nat.le_refl _) ?_
                intro v6 u3 R6 G6 o6
                have g6 : Grew u2 u3 := below_of_grown (show u2.grownBy u3 none from G6)
                rw [List.nil_append] at R6
                obtain ⟨a6, c6, rfl⟩ := R6.len
                have hs46 := sep_new HR4_2.out R6 (Nat.le_refl _)
                have hs56 := sep_new HR5.out R6 (Nat.le_refl _)
                have HR6 := Lib.hid R6
                have HR4_3 := Lib.hid (HR4_2.out.grew g6)
                have HR5_3 := Lib.hid (HR5.out.grew g6)
                have HRd3 := Lib.hid (HRd2.out.grew g6)
                have HO3 := Lib.hid (HO2.out.grew g6)
                have HS3 := Lib.hid (HS2.out.grew g6)
                have HT3 := Lib.hid (HT2.out.grew g6)
                have HG3 := Lib.hid (grown_trans HG2.out (grown_row g6.grown))
                have hz6 := g6.size
                clear R6 G6 g6 o6 l0 l1 l2
                obtain ⟨l0, l1, l2, l3, l4, l5⟩ := HO3.out.three
                refine hK _ _ ?_
                clear hK K
                try simp only [Act.put, List.setIfInBounds_toArray, List.set_cons_zero, List.set_cons_succ]
                refine wpAny_take (i := 9) (oi := ⟨some 15, _, _, _, _, _⟩) (v := ?vv61) rfl (by kernel_rfl) (by kernel_rfl) (by kernel_rfl) (fun _ _ _ h => h) (Or.inl ⟨by rfl, ?yy61⟩) ?rr61
                case yy61 => (intro w; go_simp; (try with_reducible rfl))
                try simp only [Act.put, List.setIfInBounds_toArray, List.set_cons_zero, List.set_cons_succ]
                refine wpAny_ready (rs := [10]) (by kernel_rfl) (by simp) ?_
                refine AllReady.cons (o := ⟨none, _, _, _, _, _⟩) rfl (fun K hK => ?st62_0) AllReady.nil
                case st62_0 =>
                  go_simp
                  refine hK _ _ ?_
                  clear hK K
                  try simp only [Act.put, List.setIfInBounds_toArray, List.set_cons_zero, List.set_cons_succ]
                  refine wpAny_done (by kernel_rfl) ?_ _
                  (first | go_wp2 | skip)
                  go_meet
                  rw [← hna, ← hni, ← hnr]
                  generalize hw : World.setCell (World.setCell (World.setCell u3 _ _) _ _) _ _ = wz
                  have hb4 : sl < w2.drew.heap.size := hd0
                  have hb5 : sl < u1.heap.size := by omega
                  have hb6 : sl < u2.heap.size := by omega
                  exact ⟨x, _, _, _, _, _, _, hla, hli, hlr, HWF.out, ⟨(HR4_3.out.far3 hw hb4).wider hb4, (HR5_3.out.far3 hw hb5).wider hb5, (HR6.out.far3 hw hb6).wider hb6⟩, ⟨hs45, hs46, hs56⟩, HO3.out.store3 hw, HS3.out.far3 hw (by omega), HT3.out.far3 hw (by omega), grown3 HG3.out hw (by have := HSX.out; omega)⟩
    case st86_2 =>
      go_simp
      refine hK _ _ ?_
      clear hK K
      try simp only [Act.put, List.setIfInBounds_toArray, List.set_cons_zero, List.set_cons_succ]
      refine wpAny_ready (rs := [1, 4]) (by kernel_rfl) (by simp) ?_
      refine AllReady.cons (o := ⟨some 7, _, _, _, _, _⟩) rfl (fun K hK => ?st85_0) (AllReady.cons (o := ⟨some 10, _, _, _, _, _⟩) rfl (fun K hK => ?st85_1) AllReady.nil)
      case st85_0 =>
        go_simp
        refine hK _ _ ?_
        clear hK K
        try simp only [Act.put, List.setIfInBounds_toArray, List.set_cons_zero, List.set_cons_succ]
        refine wpAny_ready (rs := [2, 4]) (by kernel_rfl) (by simp) ?_
        refine AllReady.cons (o := ⟨some 8, _, _, _, _, _⟩) rfl (fun K hK => ?st78_0) (AllReady.cons (o := ⟨some 10, _, _, _, _, _⟩) rfl (fun K hK => ?st78_1) AllReady.nil)
        case st78_0 =>
          refine step_append_ints (w2.drew) (by rfl) (.const (.slice none 0 0)) (.tmp 7) 22 (by rfl) (w2.drew.heap.size) info_I und_I (by decide) _ [] (by rfl) (RowE.nil _ _) (.slice aa na ca) x.a (by rfl) HRd.out.a (app_a hla) (by decide) (Nat.le_refl _) ?_
          intro v4 u1 R4 G4 o4
          have g4 : Grew w2.drew u1 := below_of_grown (show w2.drew.grownBy u1 none from G4)
          rw [List.nil_append] at R4
          obtain ⟨a4, c4, rfl⟩ := R4.len
          have HR4 := Lib.hid R4
          have HRd1 := Lib.hid (HRd.out.grew g4)
          have HO1 := Lib.hid (HO.out.grew g4)
          have HS1 := Lib.hid (HS.out.grew g4)
          have HT1 := Lib.hid (HT.out.grew g4)
          have HG1 := Lib.hid (grown_trans HG.out (grown_row g4.grown))
          have hz4 := g4.size
          clear R4 G4 g4 o4 l0 l1 l2
          obtain ⟨l0, l1, l2, l3, l4, l5⟩ := HO1.out.three
          refine hK _ _ ?_
          clear hK K
          try simp only [Act.put, List.setIfInBounds_toArray, List.set_cons_zero, List.set_cons_succ]
          refine wpAny_ready (rs := [4]) (by kernel_rfl) (by simp) ?_
          refine AllReady.cons (o := ⟨some 10, _, _, _, _, _⟩) rfl (fun K hK => ?st72_0) AllReady.nil
          case st72_0 =>
            go_simp
            refine hK _ _ ?_
            clear hK K
            try simp only [Act.put, List.setIfInBounds_toArray, List.set_cons_zero, List.set_cons_succ]
            refine wpAny_ready (rs := [5]) (by kernel_rfl) (by simp) ?_
            refine AllReady.cons (o := ⟨some 11, _, _, _, _, _⟩) rfl (fun K hK => ?st71_0) AllReady.nil
            case st71_0 =>
              refine step_append_ints (u1) (by rfl) (.const (.slice none 0 0)) (.tmp 10) 22 (by rfl) (u1.heap.size) info_I und_I (by decide) _ [] (by rfl) (RowE.nil _ _) (.slice ai ni ci) x.i (by rfl) HRd1.out.i (app_a hli) (by decide) (Nat.le_refl _) ?_
              intro v5 u2 R5 G5 o5
              have g5 : Grew u1 u2 := below_of_grown (show u1.grownBy u2 none from G5)
              rw [List.nil_append] at R5
              obtain ⟨a5, c5, rfl⟩ := R5.len
              have hs45 := sep_new HR4.out R5 (Nat.le_refl _)
              have HR5 := Lib.hid R5
              have HR4_2 := Lib.hid (HR4.out.grew g5)
              have HRd2 := Lib.hid (HRd1.out.grew g5)
              have HO2 := Lib.hid (HO1.out.grew g5)
              have HS2 := Lib.hid (HS1.out.grew g5)
              have HT2 := Lib.hid (HT1.out.grew g5)
              have HG2 := Lib.hid (grown_trans HG1.out (grown_row g5.grown))
              have hz5 := g5.size
              clear R5 G5 g5 o5 l0 l1 l2
              obtain ⟨l0, l1, l2, l3, l4, l5⟩ := HO2.out.three
              refine hK _ _ ?_
              clear hK K
              try simp only [Act.put, List.setIfInBounds_toArray, List.set_cons_zero, List.set_cons_succ]
              refine wpAny_ready (rs := [8]) (by kernel_rfl) (by simp) ?_
              refine AllReady.cons (o := ⟨some 14, _, _, _, _, _⟩) rfl (fun K hK => ?st70_0) AllReady.nil
              case st70_0 =>
                refine step_append_ints (u2) (by rfl) (.const (.slice none 0 0)) (.tmp 13) 22 (by rfl) (u2.heap.size) info_I und_I (by decide) _ [] (by rfl) (RowE.nil _ _) (.slice ar nr cr) x.r (by rfl) HRd2.out.r (app_a hlr) (by decide) (Nat.le_refl _) ?_
                intro v6 u3 R6 G6 o6
                have g6 : Grew u2 u3 := below_of_grown (show u2.grownBy u3 none from G6)
                rw [List.nil_append] at R6
                obtain ⟨a6, c6, rfl⟩ := R6.len
                have hs46 := sep_new HR4_2.out R6 (Nat.le_refl _)
                have hs56 := sep_new HR5.out R6 (Nat.le_refl _)
                have HR6 := Lib.hid R6
                have HR4_3 := Lib.hid (HR4_2.out.grew g6)
                have HR5_3 := Lib.hid (HR5.out.grew g6)
                have HRd3 := Lib.hid (HRd2.out.grew g6)
                have HO3 := Lib.hid (HO2.out.grew g6)
                have HS3 := Lib.hid (HS2.out.grew g6)
                have HT3 := Lib.hid (HT2.out.grew g6)
                have HG3 := Lib.hid (grown_trans HG2.out (grown_row g6.grown))
                have hz6 := g6.size
                clear R6 G6 g6 o6 l0 l1 l2
                obtain ⟨l0, l1, l2, l3, l4, l5⟩ := HO3.out.three
                refine hK _ _ ?_
                clear hK K
                try simp only [Act.put, List.setIfInBounds_toArray, List.set_cons_zero, List.set_cons_succ]
                refine wpAny_take (i := 9) (oi := ⟨some 15, _, _, _, _, _⟩) (v := ?vv68) rfl (by kernel_rfl) (by kernel_rfl) (by kernel_rfl) (fun _ _ _ h => h) (Or.inl ⟨by rfl, ?yy68⟩) ?rr68
                case yy68 => (intro w; go_simp; (try with_reducible rfl))
                try simp only [Act.put, List.setIfInBounds_toArray, List.set_cons_zero, List.set_cons_succ]
                refine wpAny_ready (rs := [10]) (by kernel_rfl) (by simp) ?_
                refine AllReady.cons (o := ⟨none, _, _, _, _, _⟩) rfl (fun K hK => ?st69_0) AllReady.nil
                case st69_0 =>
                  go_simp
                  refine hK _ _ ?_
                  clear hK K
                  try simp only [Act.put, List.setIfInBounds_toArray, List.set_cons_zero, List.set_cons_succ]
                  refine wpAny_done (by kernel_rfl) ?_ _
                  (first | go_wp2 | skip)
                  go_meet
                  rw [← hna, ← hni, ← hnr]
                  generalize hw : World.setCell (World.setCell (World.setCell u3 _ _) _ _) _ _ = wz
                  have hb4 : sl < w2.drew.heap.size := hd0
                  have hb5 : sl < u1.heap.size := by omega
                  have hb6 : sl < u2.heap.size := by omega
                  exact ⟨x, _, _, _, _, _, _, hla, hli, hlr, HWF.out, ⟨(HR4_3.out.far3 hw hb4).wider hb4, (HR5_3.out.far3 hw hb5).wider hb5, (HR6.out.far3 hw hb6).wider hb6⟩, ⟨hs45, hs46, hs56⟩, HO3.out.store3 hw, HS3.out.far3 hw (by omega), HT3.out.far3 hw (by omega), grown3 HG3.out hw (by have := HSX.out; omega)⟩
        case st78_1 =>
          go_simp
          refine hK _ _ ?_
          clear hK K
          try simp only [Act.put, List.setIfInBounds_toArray, List.set_cons_zero, List.set_cons_succ]
          refine wpAny_ready (rs := [2]) (by kernel_rfl) (by simp) ?_
          refine AllReady.cons (o := ⟨some 8, _, _, _, _, _⟩) rfl (fun K hK => ?st77_0) AllReady.nil
          case st77_0 =>
            refine step_append_ints (w2.drew) (by rfl) (.const (.slice none 0 0)) (.tmp 7) 22 (by rfl) (w2.drew.heap.size) info_I und_I (by decide) _ [] (by rfl) (RowE.nil _ _) (.slice aa na ca) x.a (by rfl) HRd.out.a (app_a hla) (by decide) (Nat.le_refl _) ?_
            intro v4 u1 R4 G4 o4
            have g4 : Grew w2.drew u1 := below_of_grown (show w2.drew.grownBy u1 none from G4)
            rw [List.nil_append] at R4
            obtain ⟨a4, c4, rfl⟩ := R4.len
            have HR4 := Lib.hid R4
            have HRd1 := Lib.hid (HRd.out.grew g4)
            have HO1 := Lib.hid (HO.out.grew g4)
            have HS1 := Lib.hid (HS.out.grew g4)
            have HT1 := Lib.hid (HT.out.grew g4)
            have HG1 := Lib.hid (grown_trans HG.out (grown_row g4.grown))
            have hz4 := g4.size
            clear R4 G4 g4 o4 l0 l1 l2
            obtain ⟨l0, l1, l2, l3, l4, l5⟩ := HO1.out.three
            refine hK _ _ ?_
            clear hK K
            try simp only [Act.put, List.setIfInBounds_toArray, List.set_cons_zero, List.set_cons_succ]
            refine wpAny_ready (rs := [5]) (by kernel_rfl) (by simp) ?_
            refine AllReady.cons (o := ⟨some 11, _, _, _, _, _⟩) rfl (fun K hK => ?st76_0) AllReady.nil
            case st76_0 =>
              refine step_append_ints (u1) (by rfl) (.const (.slice none 0 0)) (.tmp 10) 22 (by rfl) (u1.heap.size) info_I und_I (by decide) _ [] (by rfl) (RowE.nil _ _) (.slice ai ni ci) x.i (by rfl) HRd1.out.i (app_a hli) (by decide) (Nat.le_refl _) ?_
              intro v5 u2 R5 G5 o5
              have g5 : Grew u1 u2 := below_of_grown (show u1.grownBy u2 none from G5)
              rw [List.nil_append] at R5
              obtain ⟨a5, c5, rfl⟩ := R5.len
              have hs45 := sep_new HR4.out R5 (Nat.le_refl _)
              have HR5 := Lib.hid R5
              have HR4_2 := Lib.hid (HR4.out.grew g5)
              have HRd2 := Lib.hid (HRd1.out.grew g5)
              have HO2 := Lib.hid (HO1.out.grew g5)
              have HS2 := Lib.hid (HS1.out.grew g5)
              have HT2 := Lib.hid (HT1.out.grew g5)
              have HG2 := Lib.hid (grown_trans HG1.out (grown_row g5.grown))
              have hz5 := g5.size
              clear R5 G5 g5 o5 l0 l1 l2
              obtain ⟨l0, l1, l2, l3, l4, l5⟩ := HO2.out.three
              refine hK _ _ ?_
              clear hK K
              try simp only [Act.put, List.setIfInBounds_toArray, List.set_cons_zero, List.set_cons_succ]
              refine wpAny_ready (rs := [8]) (by kernel_rfl) (by simp) ?_
              refine AllReady.cons (o := ⟨some 14, _, _, _, _, _⟩) rfl (fun K hK => ?st75_0) AllReady.nil
              case st75_0 =>
                refine step_append_ints (u2) (by rfl) (.const (.slice none 0 0)) (.tmp 13) 22 (by rfl) (u2.heap.size) info_I und_I (by decide) _ [] (by rfl) (RowE.nil _ _) (.slice ar nr cr) x.r (by rfl) HRd2.out.r (app_a hlr) (by decide) (Nat.le_refl _) ?_
                intro v6 u3 R6 G6 o6
                have g6 : Grew u2 u3 := below_of_grown (show u2.grownBy u3 none from G6)
                rw [List.nil_append] at R6
                obtain ⟨a6, c6, rfl⟩ := R6.len
                have hs46 := sep_new HR4_2.out R6 (Nat.le_refl _)
                have hs56 := sep_new HR5.out R6 (Nat.le_refl _)
                have HR6 := Lib.hid R6
                have HR4_3 := Lib.hid (HR4_2.out.grew g6)
                have HR5_3 := Lib.hid (HR5.out.grew g6)
                have HRd3 := Lib.hid (HRd2.out.grew g6)
                have HO3 := Lib.hid (HO2.out.grew g6)
                have HS3 := Lib.hid (HS2.out.grew g6)
                have HT3 := Lib.hid (HT2.out.grew g6)
                have HG3 := Lib.hid (grown_trans HG2.out (grown_row g6.grown))
                have hz6 := g6.size
                clear R6 G6 g6 o6 l0 l1 l2
                obtain ⟨l0, l1, l2, l3, l4, l5⟩ := HO3.out.three
                refine hK _ _ ?_
                clear hK K
                try simp only [Act.put, List.setIfInBounds_toArray, List.set_cons_zero, List.set_cons_succ]
                refine wpAny_take (i := 9) (oi := ⟨some 15, _, _, _, _, _⟩) (v := ?vv73) rfl (by kernel_rfl) (by kernel_rfl) (by kernel_rfl) (fun _ _ _ h => h) (Or.inl ⟨by rfl, ?yy73⟩) ?rr73
                case yy73 => (intro w; go_simp; (try with_reducible rfl))
                try simp only [Act.put, List.setIfInBounds_toArray, List.set_cons_zero, List.set_cons_succ]
                refine wpAny_ready (rs := [10]) (by kernel_rfl) (by simp) ?_
                refine AllReady.cons (o := ⟨none, _, _, _, _, _⟩) rfl (fun K hK => ?st74_0) AllReady.nil
                case st74_0 =>
                  go_simp
                  refine hK _ _ ?_
                  clear hK K
                  try simp only [Act.put, List.setIfInBounds_toArray, List.set_cons_zero, List.set_cons_succ]
                  refine wpAny_done (by kernel_rfl) ?_ _
                  (first | go_wp2 | skip)
                  go_meet
                  rw [← hna, ← hni, ← hnr]
                  generalize hw : World.setCell (World.setCell (World.setCell u3 _ _) _ _) _ _ = wz
                  have hb4 : sl < w2.drew.heap.size := hd0
                  have hb5 : sl < u1.heap.size := by omega
                  have hb6 : sl < u2.heap.size := by omega
                  exact ⟨x, _, _, _, _, _, _, hla, hli, hlr, HWF.out, ⟨(HR4_3.out.far3 hw hb4).wider hb4, (HR5_3.out.far3 hw hb5).wider hb5, (HR6.out.far3 hw hb6).wider hb6⟩, ⟨hs45, hs46, hs56⟩, HO3.out.store3 hw, HS3.out.far3 hw (by omega), HT3.out.far3 hw (by omega), grown3 HG3.out hw (by have := HSX.out; omega)⟩
      case st85_1 =>
        go_simp
        refine hK _ _ ?_
        clear hK K
        try simp only [Act.put, List.setIfInBounds_toArray, List.set_cons_zero, List.set_cons_succ]
        refine wpAny_ready (rs := [1]) (by kernel_rfl) (by simp) ?_
        refine AllReady.cons (o := ⟨some 7, _, _, _, _, _⟩) rfl (fun K hK => ?st84_0) AllReady.nil
        case st84_0 =>
          go_simp
          refine hK _ _ ?_
          clear hK K
          try simp only [Act.put, List.setIfInBounds_toArray, List.set_cons_zero, List.set_cons_succ]
          refine wpAny_ready (rs := [2]) (by kernel_rfl) (by simp) ?_
          refine AllReady.cons (o := ⟨some 8, _, _, _, _, _⟩) rfl (fun K hK => ?st83_0) AllReady.nil
          case st83_0 =>
            refine step_append_ints (w2.drew) (by rfl) (.const (.slice none 0 0)) (.tmp 7) 22 (by rfl) (w2.drew.heap.size) info_I und_I (by decide) _ [] (by rfl) (RowE.nil _ _) (.slice aa na ca) x.a (by rfl) HRd.out.a (app_a hla) (by decide) (Nat.le_refl _) ?_
            intro v4 u1 R4 G4 o4
            have g4 : Grew w2.drew u1 := below_of_grown (show w2.drew.grownBy u1 none from G4)
            rw [List.nil_append] at R4
            obtain ⟨a4, c4, rfl⟩ := R4.len
            have HR4 := Lib.hid R4
            have HRd1 := Lib.hid (HRd.out.grew g4)
            have HO1 := Lib.hid (HO.out.grew g4)
            have HS1 := Lib.hid (HS.out.grew g4)
            have HT1 := Lib.hid (HT.out.grew g4)
            have HG1 := Lib.hid (grown_trans HG.out (grown_row g4.grown))
            have hz4 := g4.size
            clear R4 G4 g4 o4 l0 l1 l2
            obtain ⟨l0, l1, l2, l3, l4, l5⟩ := HO1.out.three
            refine hK _ _ ?_
            clear hK K
            try simp only [Act.put, List.setIfInBounds_toArray, List.set_cons_zero, List.set_cons_succ]
            refine wpAny_ready (rs := [5]) (by kernel_rfl) (by simp) ?_
            refine AllReady.cons (o := ⟨some 11, _, _, _, _, _⟩) rfl (fun K hK => ?st82_0) AllReady.nil
            case st82_0 =>
              refine step_append_ints (u1) (by rfl) (.const (.slice none 0 0)) (.tmp 10) 22 (by rfl) (u1.heap.size) info_I und_I (by decide) _ [] (by rfl) (RowE.nil _ _) (.slice ai ni ci) x.i (by rfl) HRd1.out.i (app_a hli) (by decide) (Nat.le_refl _) ?_
              intro v5 u2 R5 G5 o5
              have g5 : Grew u1 u2 := below_of_grown (show u1.grownBy u2 none from G5)
              rw [List.nil_append] at R5
              obtain ⟨a5, c5, rfl⟩ := R5.len
              have hs45 := sep_new HR4.out R5 (Nat.le_refl _)
              have HR5 := Lib.hid R5
              have HR4_2 := Lib.hid (HR4.out.grew g5)
              have HRd2 := Lib.hid (HRd1.out.grew g5)
              have HO2 := Lib.hid (HO1.out.grew g5)
              have HS2 := Lib.hid (HS1.out.grew g5)
              have HT2 := Lib.hid (HT1.out.grew g5)
              have HG2 := Lib.hid (grown_trans HG1.out (grown_row g5.grown))
              have hz5 := g5.size
              clear R5 G5 g5 o5 l0 l1 l2
              obtain ⟨l0, l1, l2, l3, l4, l5⟩ := HO2.out.three
              refine hK _ _ ?_
              clear hK K
              try simp only [Act.put, List.setIfInBounds_toArray, List.set_cons_zero, List.set_cons_succ]
              refine wpAny_ready (rs := [8]) (by kernel_rfl) (by simp) ?_
              refine AllReady.cons (o := ⟨some 14, _, _, _, _, _⟩) rfl (fun K hK => ?st81_0) AllReady.nil
              case st81_0 =>
                refine step_append_ints (u2) (by rfl) (.const (.slice none 0 0)) (.tmp 13) 22 (by rfl) (u2.heap.size) info_I und_I (by decide) _ [] (by rfl) (RowE.nil _ _) (.slice ar nr cr) x.r (by rfl) HRd2.out.r (app_a hlr) (by decide) (Nat.le_refl _) ?_
                intro v6 u3 R6 G6 o6
                have g6 : Grew u2 u3 := below_of_grown (show u2.grownBy u3 none from G6)
                rw [List.nil_append] at R6
                obtain ⟨a6, c6, rfl⟩ := R6.len
                have hs46 := sep_new HR4_2.out R6 (Nat.le_refl _)
                have hs56 := sep_new HR5.out R6 (Nat.le_refl _)
                have HR6 := Lib.hid R6
                have HR4_3 := Lib.hid (HR4_2.out.grew g6)
                have HR5_3 := Lib.hid (HR5.out.grew g6)
                have HRd3 := Lib.hid (HRd2.out.grew g6)
                have HO3 := Lib.hid (HO2.out.grew g6)
                have HS3 := Lib.hid (HS2.out.grew g6)
                have HT3 := Lib.hid (HT2.out.grew g6)
                have HG3 := Lib.hid (grown_trans HG2.out (grown_row g6.grown))
                have hz6 := g6.size
                clear R6 G6 g6 o6 l0 l1 l2
                obtain ⟨l0, l1, l2, l3, l4, l5⟩ := HO3.out.three
                refine hK _ _ ?_
                clear hK K
                try simp only [Act.put, List.setIfInBounds_toArray, List.set_cons_zero, List.set_cons_succ]
                refine wpAny_take (i := 9) (oi := ⟨some 15, _, _, _, _, _⟩) (v := ?vv79) rfl (by kernel_rfl) (by kernel_rfl) (by kernel_rfl) (fun _ _ _ h => h) (Or.inl ⟨by rfl, ?yy79⟩) ?rr79
                case yy79 => (intro w; go_simp; (try with_reducible rfl))
                try simp only [Act.put, List.setIfInBounds_toArray, List.set_cons_zero, List.set_cons_succ]
                refine wpAny_ready (rs := [10]) (by kernel_rfl) (by simp) ?_
                refine AllReady.cons (o := ⟨none, _, _, _, _, _⟩) rfl (fun K hK => ?st80_0) AllReady.nil
                case st80_0 =>
                  go_simp
                  refine hK _ _ ?_
                  clear hK K
                  try simp only [Act.put, List.setIfInBounds_toArray, List.set_cons_zero, List.set_cons_succ]
                  refine wpAny_done (by kernel_rfl) ?_ _
                  (first | go_wp2 | skip)
                  go_meet
                  rw [← hna, ← hni, ← hnr]
                  generalize hw : World.setCell (World.setCell (World.setCell u3 _ _) _ _) _ _ = wz
                  have hb4 : sl < w2.drew.heap.size := hd0
                  have hb5 : sl < u1.heap.size := by omega
                  have hb6 : sl < u2.heap.size := by omega
                  exact ⟨x, _, _, _, _, _, _, hla, hli, hlr, HWF.out, ⟨(HR4_3.out.far3 hw hb4).wider hb4, (HR5_3.out.far3 hw hb5).wider hb5, (HR6.out.far3 hw hb6).wider hb6⟩, ⟨hs45, hs46, hs56⟩, HO3.out.store3 hw, HS3.out.far3 hw (by omega), HT3.out.far3 hw (by omega), grown3 HG3.out hw (by have := HSX.out; omega)⟩
  case rest =>
    obtain ⟨y, a1, c1, a2, c2, a3, c3, hya, hyi, hyr, hwf, R, ⟨s12, s13, s23⟩, O, S, tp, G⟩ := hcut
    clear HRd HS HG HT HWF HO l0 l1 l2 hla hli hlr
    have hOs := O.lt
    go_wp2_with fail
    with_reducible refine (next_x _ _ _ _ (by omega) (by omega) tp).mono ?_
    rintro e t0 ⟨q, q0, q1, rfl, tp0, g0⟩
    replace R := LrR.past R g0 (by omega)
    replace O := O.past g0 (by omega)
    replace S := S.past g0 (by omega)
    replace G := grown_trans G g0
    have hB0 : B ≤ t0.heap.size := by have := g0.size; omega
    clear tp g0
    have tp := tp0
    clear tp0
    go_upto_block 0 with fail
    go_cut [] from 18 to 46 (DrSt w 13 B b sx sl)
    case first =>
      by_cases hq0 : q = 0
      · subst hq0
        go_upto_region 5 with fail
        have HR0 := Lib.hid R.drew
        have HO0 := Lib.hid O.drew
        have HS0 := Lib.hid S.drew
        have HT0 := Lib.hid (tp.grew ((Grew.refl t0).drew))
        have HG0 := Lib.hid (grown_drew G)
        obtain ⟨l0, l1, l2, l3, l4, l5⟩ := O.three
        have hBd : B ≤ t0.drew.heap.size := hB0
        clear R O S tp G
        refine wp_region_any (by kernel_rfl) ?_
        refine wpAny_take (i := 0) (oi := ⟨some 20, _, _, _, _, _⟩) (v := ?vv87) rfl (by kernel_rfl) (by kernel_rfl) (by kernel_rfl) (fun _ _ _ h => h) (Or.inl ⟨by rfl, ?yy87⟩) ?rr87
        case yy87 => (intro w; go_simp; (try with_reducible rfl))
        try simp only [Act.put, List.setIfInBounds_toArray, List.set_cons_zero, List.set_cons_succ]
        refine wpAny_take (i := 2) (oi := ⟨some 22, _, _, _, _, _⟩) (v := ?vv88) rfl (by kernel_rfl) (by kernel_rfl) (by kernel_rfl) (fun _ _ _ h => h) (Or.inl ⟨by rfl, ?yy88⟩) ?rr88
        case yy88 => (intro w; go_simp; (try with_reducible rfl))
        try simp only [Act.put, List.setIfInBounds_toArray, List.set_cons_zero, List.set_cons_succ]
        refine wpAny_ready (rs := [1, 3]) (by kernel_rfl) (by simp) ?_
        refine AllReady.cons (o := ⟨some 21, _, _, _, _, _⟩) rfl (fun K hK => ?st105_0) (AllReady.cons (o := ⟨some 23, _, _, _, _, _⟩) rfl (fun K hK => ?st105_1) AllReady.nil)
        case st105_0 =>
          go_simp
          refine hK _ _ ?_
          clear hK K
          try simp only [Act.put, List.setIfInBounds_toArray, List.set_cons_zero, List.set_cons_succ]
          refine wpAny_ready (rs := [3]) (by kernel_rfl) (by simp) ?_
          refine AllReady.cons (o := ⟨some 23, _, _, _, _, _⟩) rfl (fun K hK => ?st94_0) AllReady.nil
          case st94_0 =>
            go_simp
            with_reducible refine (next_x _ _ _ _ (by omega) (by omega) HT0.out).mono ?_
            rintro e t1 ⟨p, p0, p1, rfl, tp1, g1⟩
            have hwq : IntKind.i64.wrap (1 + p) = 1 + p := IntWalk.i64_in _ (by omega)
            have HR1 := Lib.hid (LrR.past HR0.out g1 (by omega))
            have HO1 := Lib.hid (HO0.out.past g1 (by omega))
            have HS1 := Lib.hid (HS0.out.past g1 (by omega))
            have HT1 := Lib.hid tp1
            have HG1 := Lib.hid (grown_trans HG0.out g1)
            have hz1 := g1.size
            clear tp1 g1 l0 l1 l2 l3 l4 l5
            obtain ⟨l0, l1, l2, l3, l4, l5⟩ := HO1.out.three
            dsimp only
            refine hK _ _ ?_
            clear hK K
            try simp only [Act.put, List.setIfInBounds_toArray, List.set_cons_zero, List.set_cons_succ]
            refine wpAny_take (i := 4) (oi := ⟨some 24, _, _, _, _, _⟩) (v := ?vv89) rfl (by kernel_rfl) (by kernel_rfl) (by kernel_rfl) (fun _ _ _ h => h) (Or.inl ⟨by rfl, ?yy89⟩) ?rr89
            case yy89 => (intro w; go_simp; (try with_reducible rfl))
            try simp only [Act.put, List.setIfInBounds_toArray, List.set_cons_zero, List.set_cons_succ]
            refine wpAny_ready (rs := [5]) (by kernel_rfl) (by simp) ?_
            refine AllReady.cons (o := ⟨some 25, _, _, _, _, _⟩) rfl (fun K hK => ?st93_0) AllReady.nil
            case st93_0 =>
              go_simp
              refine hK _ _ ?_
              clear hK K
              try simp only [Act.put, List.setIfInBounds_toArray, List.set_cons_zero, List.set_cons_succ]
              have gb := (Grew.refl t1).alloc (.cells #[.int .i64 (1 + p)] 3)
              have HR2 := Lib.hid (HR1.out.grew gb)
              have HO2 := Lib.hid (HO1.out.grew gb)
              have HS2 := Lib.hid (HS1.out.grew gb)
              have HT2 := Lib.hid (HT1.out.grew gb)
              have HG2 := Lib.hid (grown_alloc HG1.out (.cells #[.int .i64 (1 + p)] 3))
              have HN2 := Lib.hid (Mine.Own.new t1 3 #[.int .i64 (1 + p)])
              have hz2 : sl + 1 ≤ (t1.alloc (.cells #[.int .i64 (1 + p)] 3)).heap.size := HO2.out.lt
              clear gb l0 l1 l2 l3 l4 l5
              obtain ⟨l0, l1, l2, l3, l4, l5⟩ := HO2.out.three
              refine wpAny_ready (rs := [6]) (by kernel_rfl) (by simp) ?_
              refine AllReady.cons (o := ⟨some 26, _, _, _, _, _⟩) rfl (fun K hK => ?st92_0) AllReady.nil
              case st92_0 =>
                refine step_append_row (w := t1.alloc (.cells #[.int .i64 (1 + p)] 3)) (by rfl) (.tmp 21) (.tmp 25) 22 (by rfl) (sl + 1) info_I und_I (by decide) (by decide) enc1_len (Value.slice a3 y.r.length c3) y.r (by rfl) HR2.out.r t1.heap.size 1 (1 + p) (by rfl) HN2.out enc1_one (by omega) (by decide) hz2 ?_
                intro g5 cap5 t3 R5 G5 o5
                have o6 : (Value.slice a3 y.r.length c3).ownBlock = some g5 ∨ (t1.alloc (.cells #[.int .i64 (1 + p)] 3)).heap.size ≤ g5 := o5.elim .inl (fun e => .inr (Nat.le_of_eq e.symm))
                have R10 := RowE.keptG HR2.out.a G5 (fun j e => s13.symm j e)
                have q10 : Sep (.slice (some ⟨g5, 0, none⟩) (y.r.length + 1) cap5) (.slice a1 y.a.length c1) := sep_app s13.symm HR2.out.a o6
                have R11 := RowE.keptG HR2.out.i G5 (fun j e => s23.symm j e)
                have q11 : Sep (.slice (some ⟨g5, 0, none⟩) (y.r.length + 1) cap5) (.slice a2 y.i.length c2) := sep_app s23.symm HR2.out.i o6
                have O3 := HO2.out.keptN G5 (far_of HR2.out.r (Nat.lt_succ_self _))
                have S3 := HS2.out.keptN G5 (far_of HR2.out.r (by omega))
                have T3 := HT2.out.keptA G5 (B := sl + 1) (fun j e => HR2.out.r.above j e) (by omega)
                have G3 := grown_above HG2.out G5 (fun j e => by have := HR2.out.r.above j e; have := HSX.out; omega)
                have HQ5 := Lib.hid (And.intro R5 (And.intro R10 (And.intro R11 (And.intro q10 q11))))
                have HQ3 := Lib.hid (And.intro O3 (And.intro S3 (And.intro T3 G3)))
                clear R5 G5 o5 o6 R10 R11 q10 q11 O3 S3 T3 G3 l0 l1 l2 l3 l4 l5
                obtain ⟨l0, l1, l2, l3, l4, l5⟩ := HQ3.out.1.three
                refine hK _ _ ?_
                clear hK K
                try simp only [Act.put, List.setIfInBounds_toArray, List.set_cons_zero, List.set_cons_succ]
                refine wpAny_take (i := 7) (oi := ⟨some 27, _, _, _, _, _⟩) (v := ?vv90) rfl (by kernel_rfl) (by kernel_rfl) (by kernel_rfl) (fun _ _ _ h => h) (Or.inl ⟨by rfl, ?yy90⟩) ?rr90
                case yy90 => (intro w; go_simp; (try with_reducible rfl))
                try simp only [Act.put, List.setIfInBounds_toArray, List.set_cons_zero, List.set_cons_succ]
                refine wpAny_ready (rs := [8]) (by kernel_rfl) (by simp) ?_
                refine AllReady.cons (o := ⟨none, _, _, _, _, _⟩) rfl (fun K hK => ?st91_0) AllReady.nil
                case st91_0 =>
                  go_simp
                  refine hK _ _ ?_
                  clear hK K
                  try simp only [Act.put, List.setIfInBounds_toArray, List.set_cons_zero, List.set_cons_succ]
                  refine wpAny_done (by kernel_rfl) ?_ _
                  (first | go_wp2 | skip)
                  go_meet
                  obtain ⟨R5, R10, R11, q10, q11⟩ := HQ5.out
                  obtain ⟨O3, S3, T3, G3⟩ := HQ3.out
                  have O4 := O3.set 2 (.slice (some ⟨g5, 0, none⟩) (y.r.length + 1) cap5)
                  have e9 : y.r.length + 1 = (y.r ++ [(1 + p)]).length := by simp
                  rw [e9] at R5 O4 q10 q11 ⊢
                  exact ⟨⟨y.a, y.i, y.r ++ [(1 + p)]⟩, a1, c1, a2, c2, some ⟨g5, 0, none⟩, cap5, (show y.a.length ≤ 13 by omega), (show y.i.length ≤ 13 by omega), (show (y.r ++ [(1 + p)]).length ≤ 13 by rw [← e9]; omega), (fun v hv => (List.mem_append.1 hv).elim (hwf v) (fun hv => by rw [List.mem_singleton] at hv; exact WalkArith.wf_i64 (by omega))), ⟨RowE.setF R10 (far_of R10 (Nat.lt_succ_self _)), RowE.setF R11 (far_of R11 (Nat.lt_succ_self _)), RowE.setF R5 (far_of R5 (Nat.lt_succ_self _))⟩, ⟨s12, q10.symm, q11.symm⟩, O4, S3.far (p := ⟨sl, 2, none⟩) (show sx ≠ sl by omega) _, T3.set (p := ⟨sl, 2, none⟩) (show B ≤ sl by omega) _, grown_set G3 (p := ⟨sl, 2, none⟩) (.inr (show w.heap.size ≤ sl by have := HSX.out; omega)) _⟩
        case st105_1 =>
          go_simp
          with_reducible refine (next_x _ _ _ _ (by omega) (by omega) HT0.out).mono ?_
          rintro e t1 ⟨p, p0, p1, rfl, tp1, g1⟩
          have hwq : IntKind.i64.wrap (1 + p) = 1 + p := IntWalk.i64_in _ (by omega)
          have HR1 := Lib.hid (LrR.past HR0.out g1 (by omega))
          have HO1 := Lib.hid (HO0.out.past g1 (by omega))
          have HS1 := Lib.hid (HS0.out.past g1 (by omega))
          have HT1 := Lib.hid tp1
          have HG1 := Lib.hid (grown_trans HG0.out g1)
          have hz1 := g1.size
          clear tp1 g1 l0 l1 l2 l3 l4 l5
          obtain ⟨l0, l1, l2, l3, l4, l5⟩ := HO1.out.three
          dsimp only
          refine hK _ _ ?_
          clear hK K
          try simp only [Act.put, List.setIfInBounds_toArray, List.set_cons_zero, List.set_cons_succ]
          refine wpAny_take (i := 4) (oi := ⟨some 24, _, _, _, _, _⟩) (v := ?vv95) rfl (by kernel_rfl) (by kernel_rfl) (by kernel_rfl) (fun _ _ _ h => h) (Or.inl ⟨by rfl, ?yy95⟩) ?rr95
          case yy95 => (intro w; go_simp; (try with_reducible rfl))
          try simp only [Act.put, List.setIfInBounds_toArray, List.set_cons_zero, List.set_cons_succ]
          refine wpAny_ready (rs := [1, 5]) (by kernel_rfl) (by simp) ?_
          refine AllReady.cons (o := ⟨some 21, _, _, _, _, _⟩) rfl (fun K hK => ?st104_0) (AllReady.cons (o := ⟨some 25, _, _, _, _, _⟩) rfl (fun K hK => ?st104_1) AllReady.nil)
          case st104_0 =>
            go_simp
            refine hK _ _ ?_
            clear hK K
            try simp only [Act.put, List.setIfInBounds_toArray, List.set_cons_zero, List.set_cons_succ]
            refine wpAny_ready (rs := [5]) (by kernel_rfl) (by simp) ?_
            refine AllReady.cons (o := ⟨some 25, _, _, _, _, _⟩) rfl (fun K hK => ?st99_0) AllReady.nil
            case st99_0 =>
              go_simp
              refine hK _ _ ?_
              clear hK K
              try simp only [Act.put, List.setIfInBounds_toArray, List.set_cons_zero, List.set_cons_succ]
              have gb := (Grew.refl t1).alloc (.cells #[.int .i64 (1 + p)] 3)
              have HR2 := Lib.hid (HR1.out.grew gb)
              have HO2 := Lib.hid (HO1.out.grew gb)
              have HS2 := Lib.hid (HS1.out.grew gb)
              have HT2 := Lib.hid (HT1.out.grew gb)
              have HG2 := Lib.hid (grown_alloc HG1.out (.cells #[.int .i64 (1 + p)] 3))
              have HN2 := Lib.hid (Mine.Own.new t1 3 #[.int .i64 (1 + p)])
              have hz2 : sl + 1 ≤ (t1.alloc (.cells #[.int .i64 (1 + p)] 3)).heap.size := HO2.out.lt
              clear gb l0 l1 l2 l3 l4 l5
              obtain ⟨l0, l1, l2, l3, l4, l5⟩ := HO2.out.three
              refine wpAny_ready (rs := [6]) (by kernel_rfl) (by simp) ?_
              refine AllReady.cons (o := ⟨some 26, _, _, _, _, _⟩) rfl (fun K hK => ?st98_0) AllReady.nil
              case st98_0 =>
                refine step_append_row (w := t1.alloc (.cells #[.int .i64 (1 + p)] 3)) (by rfl) (.tmp 21) (.tmp 25) 22 (by rfl) (sl + 1) info_I und_I (by decide) (by decide) enc1_len (Value.slice a3 y.r.length c3) y.r (by rfl) HR2.out.r t1.heap.size 1 (1 + p) (by rfl) HN2.out enc1_one (by omega) (by decide) hz2 ?_
                intro g5 cap5 t3 R5 G5 o5
                have o6 : (Value.slice a3 y.r.length c3).ownBlock = some g5 ∨ (t1.alloc (.cells #[.int .i64 (1 + p)] 3)).heap.size ≤ g5 := o5.elim .inl (fun e => .inr (Nat.le_of_eq e.symm))
                have R10 := RowE.keptG HR2.out.a G5 (fun j e => s13.symm j e)
                have q10 : Sep (.slice (some ⟨g5, 0, none⟩) (y.r.length + 1) cap5) (.slice a1 y.a.length c1) := sep_app s13.symm HR2.out.a o6
                have R11 := RowE.keptG HR2.out.i G5 (fun j e => s23.symm j e)
                have q11 : Sep (.slice (some ⟨g5, 0, none⟩) (y.r.length + 1) cap5) (.slice a2 y.i.length c2) := sep_app s23.symm HR2.out.i o6
                have O3 := HO2.out.keptN G5 (far_of HR2.out.r (Nat.lt_succ_self _))
                have S3 := HS2.out.keptN G5 (far_of HR2.out.r (by omega))
                have T3 := HT2.out.keptA G5 (B := sl + 1) (fun j e => HR2.out.r.above j e) (by omega)
                have G3 := grown_above HG2.out G5 (fun j e => by have := HR2.out.r.above j e; have := HSX.out; omega)
                have HQ5 := Lib.hid (And.intro R5 (And.intro R10 (And.intro R11 (And.intro q10 q11))))
                have HQ3 := Lib.hid (And.intro O3 (And.intro S3 (And.intro T3 G3)))
                clear R5 G5 o5 o6 R10 R11 q10 q11 O3 S3 T3 G3 l0 l1 l2 l3 l4 l5
                obtain ⟨l0, l1, l2, l3, l4, l5⟩ := HQ3.out.1.three
                refine hK _ _ ?_
                clear hK K
                try simp only [Act.put, List.setIfInBounds_toArray, List.set_cons_zero, List.set_cons_succ]
                refine wpAny_take (i := 7) (oi := ⟨some 27, _, _, _, _, _⟩) (v := ?vv96) rfl (by kernel_rfl) (by kernel_rfl) (by kernel_rfl) (fun _ _ _ h => h) (Or.inl ⟨by rfl, ?yy96⟩) ?rr96
                case yy96 => (intro w; go_simp; (try with_reducible rfl))
                try simp only [Act.put, List.setIfInBounds_toArray, List.set_cons_zero, List.set_cons_succ]
                refine wpAny_ready (rs := [8]) (by kernel_rfl) (by simp) ?_
                refine AllReady.cons (o := ⟨none, _, _, _, _, _⟩) rfl (fun K hK => ?st97_0) AllReady.nil
                case st97_0 =>
                  go_simp
                  refine hK _ _ ?_
                  clear hK K
                  try simp only [Act.put, List.setIfInBounds_toArray, List.set_cons_zero, List.set_cons_succ]
                  refine wpAny_done (by kernel_rfl) ?_ _
                  (first | go_wp2 | skip)
                  go_meet
                  obtain ⟨R5, R10, R11, q10, q11⟩ := HQ5.out
                  obtain ⟨O3, S3, T3, G3⟩ := HQ3.out
                  have O4 := O3.set 2 (.slice (some ⟨g5, 0, none⟩) (y.r.length + 1) cap5)
                  have e9 : y.r.length + 1 = (y.r ++ [(1 + p)]).length := by simp
                  rw [e9] at R5 O4 q10 q11 ⊢
                  exact ⟨⟨y.a, y.i, y.r ++ [(1 + p)]⟩, a1, c1, a2, c2, some ⟨g5, 0, none⟩, cap5, (show y.a.length ≤ 13 by omega), (show y.i.length ≤ 13 by omega), (show (y.r ++ [(1 + p)]).length ≤ 13 by rw [← e9]; omega), (fun v hv => (List.mem_append.1 hv).elim (hwf v) (fun hv => by rw [List.mem_singleton] at hv; exact WalkArith.wf_i64 (by omega))), ⟨RowE.setF R10 (far_of R10 (Nat.lt_succ_self _)), RowE.setF R11 (far_of R11 (Nat.lt_succ_self _)), RowE.setF R5 (far_of R5 (Nat.lt_succ_self _))⟩, ⟨s12, q10.symm, q11.symm⟩, O4, S3.far (p := ⟨sl, 2, none⟩) (show sx ≠ sl by omega) _, T3.set (p := ⟨sl, 2, none⟩) (show B ≤ sl by omega) _, grown_set G3 (p := ⟨sl, 2, none⟩) (.inr (show w.heap.size ≤ sl by have := HSX.out; omega)) _⟩
          case st104_1 =>
            go_simp
            refine hK _ _ ?_
            clear hK K
            try simp only [Act.put, List.setIfInBounds_toArray, List.set_cons_zero, List.set_cons_succ]
            have gb := (Grew.refl t1).alloc (.cells #[.int .i64 (1 + p)] 3)
            have HR2 := Lib.hid (HR1.out.grew gb)
            have HO2 := Lib.hid (HO1.out.grew gb)
            have HS2 := Lib.hid (HS1.out.grew gb)
            have HT2 := Lib.hid (HT1.out.grew gb)
            have HG2 := Lib.hid (grown_alloc HG1.out (.cells #[.int .i64 (1 + p)] 3))
            have HN2 := Lib.hid (Mine.Own.new t1 3 #[.int .i64 (1 + p)])
            have hz2 : sl + 1 ≤ (t1.alloc (.cells #[.int .i64 (1 + p)] 3)).heap.size := HO2.out.lt
            clear gb l0 l1 l2 l3 l4 l5
            obtain ⟨l0, l1, l2, l3, l4, l5⟩ := HO2.out.three
            refine wpAny_ready (rs := [1]) (by kernel_rfl) (by simp) ?_
            refine AllReady.cons (o := ⟨some 21, _, _, _, _, _⟩) rfl (fun K hK => ?st103_0) AllReady.nil
            case st103_0 =>
              go_simp
              refine hK _ _ ?_
              clear hK K
              try simp only [Act.put, List.setIfInBounds_toArray, List.set_cons_zero, List.set_cons_succ]
              refine wpAny_ready (rs := [6]) (by kernel_rfl) (by simp) ?_
              refine AllReady.cons (o := ⟨some 26, _, _, _, _, _⟩) rfl (fun K hK => ?st102_0) AllReady.nil
              case st102_0 =>
                refine step_append_row (w := t1.alloc (.cells #[.int .i64 (1 + p)] 3)) (by rfl) (.tmp 21) (.tmp 25) 22 (by rfl) (sl + 1) info_I und_I (by decide) (by decide) enc1_len (Value.slice a3 y.r.length c3) y.r (by rfl) HR2.out.r t1.heap.size 1 (1 + p) (by rfl) HN2.out enc1_one (by omega) (by decide) hz2 ?_
                intro g5 cap5 t3 R5 G5 o5
                have o6 : (Value.slice a3 y.r.length c3).ownBlock = some g5 ∨ (t1.alloc (.cells #[.int .i64 (1 + p)] 3)).heap.size ≤ g5 := o5.elim .inl (fun e => .inr (Nat.le_of_eq e.symm))
                have R10 := RowE.keptG HR2.out.a G5 (fun j e => s13.symm j e)
                have q10 : Sep (.slice (some ⟨g5, 0, none⟩) (y.r.length + 1) cap5) (.slice a1 y.a.length c1) := sep_app s13.symm HR2.out.a o6
                have R11 := RowE.keptG HR2.out.i G5 (fun j e => s23.symm j e)
                have q11 : Sep (.slice (some ⟨g5, 0, none⟩) (y.r.length + 1) cap5) (.slice a2 y.i.length c2) := sep_app s23.symm HR2.out.i o6
                have O3 := HO2.out.keptN G5 (far_of HR2.out.r (Nat.lt_succ_self _))
                have S3 := HS2.out.keptN G5 (far_of HR2.out.r (by omega))
                have T3 := HT2.out.keptA G5 (B := sl + 1) (fun j e => HR2.out.r.above j e) (by omega)
                have G3 := grown_above HG2.out G5 (fun j e => by have := HR2.out.r.above j e; have := HSX.out; omega)
                have HQ5 := Lib.hid (And.intro R5 (And.intro R10 (And.intro R11 (And.intro q10 q11))))
                have HQ3 := Lib.hid (And.intro O3 (And.intro S3 (And.intro T3 G3)))
                clear R5 G5 o5 o6 R10 R11 q10 q11 O3 S3 T3 G3 l0 l1 l2 l3 l4 l5
                obtain ⟨l0, l1, l2, l3, l4, l5⟩ := HQ3.out.1.three
                refine hK _ _ ?_
                clear hK K
                try simp only [Act.put, List.setIfInBounds_toArray, List.set_cons_zero, List.set_cons_succ]
                refine wpAny_take (i := 7) (oi := ⟨some 27, _, _, _, _, _⟩) (v := ?vv100) rfl (by kernel_rfl) (by kernel_rfl) (by kernel_rfl) (fun _ _ _ h => h) (Or.inl ⟨by rfl, ?yy100⟩) ?rr100
                case yy100 => (intro w; go_simp; (try with_reducible rfl))
                try simp only [Act.put, List.setIfInBounds_toArray, List.set_cons_zero, List.set_cons_succ]
                refine wpAny_ready (rs := [8]) (by kernel_rfl) (by simp) ?_
                refine AllReady.cons (o := ⟨none, _, _, _, _, _⟩) rfl (fun K hK => ?st101_0) AllReady.nil
                case st101_0 =>
                  go_simp
                  refine hK _ _ ?_
                  clear hK K
                  try simp only [Act.put, List.setIfInBounds_toArray, List.set_cons_zero, List.set_cons_succ]
                  refine wpAny_done (by kernel_rfl) ?_ _
                  (first | go_wp2 | skip)
                  go_meet
                  obtain ⟨R5, R10, R11, q10, q11⟩ := HQ5.out
                  obtain ⟨O3, S3, T3, G3⟩ := HQ3.out
                  have O4 := O3.set 2 (.slice (some ⟨g5, 0, none⟩) (y.r.length + 1) cap5)
                  have e9 : y.r.length + 1 = (y.r ++ [(1 + p)]).length := by simp
                  rw [e9] at R5 O4 q10 q11 ⊢
                  exact ⟨⟨y.a, y.i, y.r ++ [(1 + p)]⟩, a1, c1, a2, c2, some ⟨g5, 0, none⟩, cap5, (show y.a.length ≤ 13 by omega), (show y.i.length ≤ 13 by omega), (show (y.r ++ [(1 + p)]).length ≤ 13 by rw [← e9]; omega), (fun v hv => (List.mem_append.1 hv).elim (hwf v) (fun hv => by rw [List.mem_singleton] at hv; exact WalkArith.wf_i64 (by omega))), ⟨RowE.setF R10 (far_of R10 (Nat.lt_succ_self _)), RowE.setF R11 (far_of R11 (Nat.lt_succ_self _)), RowE.setF R5 (far_of R5 (Nat.lt_succ_self _))⟩, ⟨s12, q10.symm, q11.symm⟩, O4, S3.far (p := ⟨sl, 2, none⟩) (show sx ≠ sl by omega) _, T3.set (p := ⟨sl, 2, none⟩) (show B ≤ sl by omega) _, grown_set G3 (p := ⟨sl, 2, none⟩) (.inr (show w.heap.size ≤ sl by have := HSX.out; omega)) _⟩
      · by_cases hq1 : q = 1
        · subst hq1
          go_upto_region 7 with fail
          have HR0 := Lib.hid R.drew
          have HO0 := Lib.hid O.drew
          have HS0 := Lib.hid S.drew
          have HT0 := Lib.hid (tp.grew ((Grew.refl t0).drew))
          have HG0 := Lib.hid (grown_drew G)
          obtain ⟨l0, l1, l2, l3, l4, l5⟩ := O.three
          have hBd : B ≤ t0.drew.heap.size := hB0
          clear R O S tp G
          refine wp_region_any (by kernel_rfl) ?_
          refine wpAny_take (i := 0) (oi := ⟨some 30, _, _, _, _, _⟩) (v := ?vv106) rfl (by kernel_rfl) (by kernel_rfl) (by kernel_rfl) (fun _ _ _ h => h) (Or.inl ⟨by rfl, ?yy106⟩) ?rr106
          case yy106 => (intro w; go_simp; (try with_reducible rfl))
          try simp only [Act.put, List.setIfInBounds_toArray, List.set_cons_zero, List.set_cons_succ]
          refine wpAny_take (i := 2) (oi := ⟨some 32, _, _, _, _, _⟩) (v := ?vv107) rfl (by kernel_rfl) (by kernel_rfl) (by kernel_rfl) (fun _ _ _ h => h) (Or.inl ⟨by rfl, ?yy107⟩) ?rr107
          case yy107 => (intro w; go_simp; (try with_reducible rfl))
          try simp only [Act.put, List.setIfInBounds_toArray, List.set_cons_zero, List.set_cons_succ]
          refine wpAny_ready (rs := [1, 3]) (by kernel_rfl) (by simp) ?_
          refine AllReady.cons (o := ⟨some 31, _, _, _, _, _⟩) rfl (fun K hK => ?st122_0) (AllReady.cons (o := ⟨some 33, _, _, _, _, _⟩) rfl (fun K hK => ?st122_1) AllReady.nil)
          case st122_0 =>
            go_simp
            refine hK _ _ ?_
            clear hK K
            try simp only [Act.put, List.setIfInBounds_toArray, List.set_cons_zero, List.set_cons_succ]
            refine wpAny_ready (rs := [3]) (by kernel_rfl) (by simp) ?_
            refine AllReady.cons (o := ⟨some 33, _, _, _, _, _⟩) rfl (fun K hK => ?st112_0) AllReady.nil
            case st112_0 =>
              go_simp
              with_reducible refine (odd_x _ _ _ HT0.out hBd).mono ?_
              rintro e t1 ⟨p, rfl, tp1, g1⟩
              have HR1 := Lib.hid (LrR.past HR0.out g1 (by omega))
              have HO1 := Lib.hid (HO0.out.past g1 (by omega))
              have HS1 := Lib.hid (HS0.out.past g1 (by omega))
              have HT1 := Lib.hid tp1
              have HG1 := Lib.hid (grown_trans HG0.out g1)
              have hz1 := g1.size
              clear tp1 g1 l0 l1 l2 l3 l4 l5
              obtain ⟨l0, l1, l2, l3, l4, l5⟩ := HO1.out.three
              dsimp only
              refine hK _ _ ?_
              clear hK K
              try simp only [Act.put, List.setIfInBounds_toArray, List.set_cons_zero, List.set_cons_succ]
              refine wpAny_ready (rs := [4]) (by kernel_rfl) (by simp) ?_
              refine AllReady.cons (o := ⟨some 34, _, _, _, _, _⟩) rfl (fun K hK => ?st111_0) AllReady.nil
              case st111_0 =>
                go_simp
                refine hK _ _ ?_
                clear hK K
                try simp only [Act.put, List.setIfInBounds_toArray, List.set_cons_zero, List.set_cons_succ]
                have gb := (Grew.refl t1).alloc (.cells #[.int .i64 p] 3)
                have HR2 := Lib.hid (HR1.out.grew gb)
                have HO2 := Lib.hid (HO1.out.grew gb)
                have HS2 := Lib.hid (HS1.out.grew gb)
                have HT2 := Lib.hid (HT1.out.grew gb)
                have HG2 := Lib.hid (grown_alloc HG1.out (.cells #[.int .i64 p] 3))
                have HN2 := Lib.hid (Mine.Own.new t1 3 #[.int .i64 p])
                have hz2 : sl + 1 ≤ (t1.alloc (.cells #[.int .i64 p] 3)).heap.size := HO2.out.lt
                clear gb l0 l1 l2 l3 l4 l5
                obtain ⟨l0, l1, l2, l3, l4, l5⟩ := HO2.out.three
                refine wpAny_ready (rs := [5]) (by kernel_rfl) (by simp) ?_
                refine AllReady.cons (o := ⟨some 35, _, _, _, _, _⟩) rfl (fun K hK => ?st110_0) AllReady.nil
                case st110_0 =>
                  refine step_append_row (w := t1.alloc (.cells #[.int .i64 p] 3)) (by rfl) (.tmp 31) (.tmp 34) 22 (by rfl) (sl + 1) info_I und_I (by decide) (by decide) enc1_len (Value.slice a1 y.a.length c1) y.a (by rfl) HR2.out.a t1.heap.size 1 p (by rfl) HN2.out enc1_one (by omega) (by decide) hz2 ?_
                  intro g5 cap5 t3 R5 G5 o5
                  have o6 : (Value.slice a1 y.a.length c1).ownBlock = some g5 ∨ (t1.alloc (.cells #[.int .i64 p] 3)).heap.size ≤ g5 := o5.elim .inl (fun e => .inr (Nat.le_of_eq e.symm))
                  have R11 := RowE.keptG HR2.out.i G5 (fun j e => s12 j e)
                  have q11 : Sep (.slice (some ⟨g5, 0, none⟩) (y.a.length + 1) cap5) (.slice a2 y.i.length c2) := sep_app s12 HR2.out.i o6
                  have R12 := RowE.keptG HR2.out.r G5 (fun j e => s13 j e)
                  have q12 : Sep (.slice (some ⟨g5, 0, none⟩) (y.a.length + 1) cap5) (.slice a3 y.r.length c3) := sep_app s13 HR2.out.r o6
                  have O3 := HO2.out.keptN G5 (far_of HR2.out.a (Nat.lt_succ_self _))
                  have S3 := HS2.out.keptN G5 (far_of HR2.out.a (by omega))
                  have T3 := HT2.out.keptA G5 (B := sl + 1) (fun j e => HR2.out.a.above j e) (by omega)
                  have G3 := grown_above HG2.out G5 (fun j e => by have := HR2.out.a.above j e; have := HSX.out; omega)
                  have HQ5 := Lib.hid (And.intro R5 (And.intro R11 (And.intro R12 (And.intro q11 q12))))
                  have HQ3 := Lib.hid (And.intro O3 (And.intro S3 (And.intro T3 G3)))
                  clear R5 G5 o5 o6 R11 R12 q11 q12 O3 S3 T3 G3 l0 l1 l2 l3 l4 l5
                  obtain ⟨l0, l1, l2, l3, l4, l5⟩ := HQ3.out.1.three
                  refine hK _ _ ?_
                  clear hK K
                  try simp only [Act.put, List.setIfInBounds_toArray, List.set_cons_zero, List.set_cons_succ]
                  refine wpAny_take (i := 6) (oi := ⟨some 36, _, _, _, _, _⟩) (v := ?vv108) rfl (by kernel_rfl) (by kernel_rfl) (by kernel_rfl) (fun _ _ _ h => h) (Or.inl ⟨by rfl, ?yy108⟩) ?rr108
                  case yy108 => (intro w; go_simp; (try with_reducible rfl))
                  try simp only [Act.put, List.setIfInBounds_toArray, List.set_cons_zero, List.set_cons_succ]
                  refine wpAny_ready (rs := [7]) (by kernel_rfl) (by simp) ?_
                  refine AllReady.cons (o := ⟨none, _, _, _, _, _⟩) rfl (fun K hK => ?st109_0) AllReady.nil
                  case st109_0 =>
                    go_simp
                    refine hK _ _ ?_
                    clear hK K
                    try simp only [Act.put, List.setIfInBounds_toArray, List.set_cons_zero, List.set_cons_succ]
                    refine wpAny_done (by kernel_rfl) ?_ _
                    (first | go_wp2 | skip)
                    go_meet
                    obtain ⟨R5, R11, R12, q11, q12⟩ := HQ5.out
                    obtain ⟨O3, S3, T3, G3⟩ := HQ3.out
                    have O4 := O3.set 0 (.slice (some ⟨g5, 0, none⟩) (y.a.length + 1) cap5)
                    have e9 : y.a.length + 1 = (y.a ++ [p]).length := by simp
                    rw [e9] at R5 O4 q11 q12 ⊢
                    exact ⟨⟨y.a ++ [p], y.i, y.r⟩, some ⟨g5, 0, none⟩, cap5, a2, c2, a3, c3, (show (y.a ++ [p]).length ≤ 13 by rw [← e9]; omega), (show y.i.length ≤ 13 by omega), (show y.r.length ≤ 13 by omega), hwf, ⟨RowE.setF R5 (far_of R5 (Nat.lt_succ_self _)), RowE.setF R11 (far_of R11 (Nat.lt_succ_self _)), RowE.setF R12 (far_of R12 (Nat.lt_succ_self _))⟩, ⟨q11, q12, s23⟩, O4, S3.far (p := ⟨sl, 0, none⟩) (show sx ≠ sl by omega) _, T3.set (p := ⟨sl, 0, none⟩) (show B ≤ sl by omega) _, grown_set G3 (p := ⟨sl, 0, none⟩) (.inr (show w.heap.size ≤ sl by have := HSX.out; omega)) _⟩
          case st122_1 =>
            go_simp
            with_reducible refine (odd_x _ _ _ HT0.out hBd).mono ?_
            rintro e t1 ⟨p, rfl, tp1, g1⟩
            have HR1 := Lib.hid (LrR.past HR0.out g1 (by omega))
            have HO1 := Lib.hid (HO0.out.past g1 (by omega))
            have HS1 := Lib.hid (HS0.out.past g1 (by omega))
            have HT1 := Lib.hid tp1
            have HG1 := Lib.hid (grown_trans HG0.out g1)
            have hz1 := g1.size
            clear tp1 g1 l0 l1 l2 l3 l4 l5
            obtain ⟨l0, l1, l2, l3, l4, l5⟩ := HO1.out.three
            dsimp only
            refine hK _ _ ?_
            clear hK K
            try simp only [Act.put, List.setIfInBounds_toArray, List.set_cons_zero, List.set_cons_succ]
            refine wpAny_ready (rs := [1, 4]) (by kernel_rfl) (by simp) ?_
            refine AllReady.cons (o := ⟨some 31, _, _, _, _, _⟩) rfl (fun K hK => ?st121_0) (AllReady.cons (o := ⟨some 34, _, _, _, _, _⟩) rfl (fun K hK => ?st121_1) AllReady.nil)
            case st121_0 =>
              go_simp
              refine hK _ _ ?_
              clear hK K
              try simp only [Act.put, List.setIfInBounds_toArray, List.set_cons_zero, List.set_cons_succ]
              refine wpAny_ready (rs := [4]) (by kernel_rfl) (by simp) ?_
              refine AllReady.cons (o := ⟨some 34, _, _, _, _, _⟩) rfl (fun K hK => ?st116_0) AllReady.nil
              case st116_0 =>
                go_simp
                refine hK _ _ ?_
                clear hK K
                try simp only [Act.put, List.setIfInBounds_toArray, List.set_cons_zero, List.set_cons_succ]
                have gb := (Grew.refl t1).alloc (.cells #[.int .i64 p] 3)
                have HR2 := Lib.hid (HR1.out.grew gb)
                have HO2 := Lib.hid (HO1.out.grew gb)
                have HS2 := Lib.hid (HS1.out.grew gb)
                have HT2 := Lib.hid (HT1.out.grew gb)
                have HG2 := Lib.hid (grown_alloc HG1.out (.cells #[.int .i64 p] 3))
                have HN2 := Lib.hid (Mine.Own.new t1 3 #[.int .i64 p])
                have hz2 : sl + 1 ≤ (t1.alloc (.cells #[.int .i64 p] 3)).heap.size := HO2.out.lt
                clear gb l0 l1 l2 l3 l4 l5
                obtain ⟨l0, l1, l2, l3, l4, l5⟩ := HO2.out.three
                refine wpAny_ready (rs := [5]) (by kernel_rfl) (by simp) ?_
                refine AllReady.cons (o := ⟨some 35, _, _, _, _, _⟩) rfl (fun K hK => ?st115_0) AllReady.nil
                case st115_0 =>
                  refine step_append_row (w := t1.alloc (.cells #[.int .i64 p] 3)) (by rfl) (.tmp 31) (.tmp 34) 22 (by rfl) (sl + 1) info_I und_I (by decide) (by decide) enc1_len (Value.slice a1 y.a.length c1) y.a (by rfl) HR2.out.a t1.heap.size 1 p (by rfl) HN2.out enc1_one (by omega) (by decide) hz2 ?_
                  intro g5 cap5 t3 R5 G5 o5
                  have o6 : (Value.slice a1 y.a.length c1).ownBlock = some g5 ∨ (t1.alloc (.cells #[.int .i64 p] 3)).heap.size ≤ g5 := o5.elim .inl (fun e => .inr (Nat.le_of_eq e.symm))
                  have R11 := RowE.keptG HR2.out.i G5 (fun j e => s12 j e)
                  have q11 : Sep (.slice (some ⟨g5, 0, none⟩) (y.a.length + 1) cap5) (.slice a2 y.i.length c2) := sep_app s12 HR2.out.i o6
                  have R12 := RowE.keptG HR2.out.r G5 (fun j e => s13 j e)
                  have q12 : Sep (.slice (some ⟨g5, 0, none⟩) (y.a.length + 1) cap5) (.slice a3 y.r.length c3) := sep_app s13 HR2.out.r o6
                  have O3 := HO2.out.keptN G5 (far_of HR2.out.a (Nat.lt_succ_self _))
                  have S3 := HS2.out.keptN G5 (far_of HR2.out.a (by omega))
                  have T3 := HT2.out.keptA G5 (B := sl + 1) (fun j e => HR2.out.a.above j e) (by omega)
                  have G3 := grown_above HG2.out G5 (fun j e => by have := HR2.out.a.above j e; have := HSX.out; omega)
                  have HQ5 := Lib.hid (And.intro R5 (And.intro R11 (And.intro R12 (And.intro q11 q12))))
                  have HQ3 := Lib.hid (And.intro O3 (And.intro S3 (And.intro T3 G3)))
                  clear R5 G5 o5 o6 R11 R12 q11 q12 O3 S3 T3 G3 l0 l1 l2 l3 l4 l5
                  obtain ⟨l0, l1, l2, l3, l4, l5⟩ := HQ3.out.1.three
                  refine hK _ _ ?_
                  clear hK K
                  try simp only [Act.put, List.setIfInBounds_toArray, List.set_cons_zero, List.set_cons_succ]
                  refine wpAny_take (i := 6) (oi := ⟨some 36, _, _, _, _, _⟩) (v := ?vv113) rfl (by kernel_rfl) (by kernel_rfl) (by kernel_rfl) (fun _ _ _ h => h) (Or.inl ⟨by rfl, ?yy113⟩) ?rr113
                  case yy113 => (intro w; go_simp; (try with_reducible rfl))
                  try simp only [Act.put, List.setIfInBounds_toArray, List.set_cons_zero, List.set_cons_succ]
                  refine wpAny_ready (rs := [7]) (by kernel_rfl) (by simp) ?_
                  refine AllReady.cons (o := ⟨none, _, _, _, _, _⟩) rfl (fun K hK => ?st114_0) AllReady.nil
                  case st114_0 =>
                    go_simp
                    refine hK _ _ ?_
                    clear hK K
                    try simp only [Act.put, List.setIfInBounds_toArray, List.set_cons_zero, List.set_cons_succ]
                    refine wpAny_done (by kernel_rfl) ?_ _
                    (first | go_wp2 | skip)
                    go_meet
                    obtain ⟨R5, R11, R12, q11, q12⟩ := HQ5.out
                    obtain ⟨O3, S3, T3, G3⟩ := HQ3.out
                    have O4 := O3.set 0 (.slice (some ⟨g5, 0, none⟩) (y.a.length + 1) cap5)
                    have e9 : y.a.length + 1 = (y.a ++ [p]).length := by simp
                    rw [e9] at R5 O4 q11 q12 ⊢
                    exact ⟨⟨y.a ++ [p], y.i, y.r⟩, some ⟨g5, 0, none⟩, cap5, a2, c2, a3, c3, (show (y.a ++ [p]).length ≤ 13 by rw [← e9]; omega), (show y.i.length ≤ 13 by omega), (show y.r.length ≤ 13 by omega), hwf, ⟨RowE.setF R5 (far_of R5 (Nat.lt_succ_self _)), RowE.setF R11 (far_of R11 (Nat.lt_succ_self _)), RowE.setF R12 (far_of R12 (Nat.lt_succ_self _))⟩, ⟨q11, q12, s23⟩, O4, S3.far (p := ⟨sl, 0, none⟩) (show sx ≠ sl by omega) _, T3.set (p := ⟨sl, 0, none⟩) (show B ≤ sl by omega) _, grown_set G3 (p := ⟨sl, 0, none⟩) (.inr (show w.heap.size ≤ sl by have := HSX.out; omega)) _⟩
            case st121_1 =>
              go_simp
              refine hK _ _ ?_
              clear hK K
              try simp only [Act.put, List.setIfInBounds_toArray, List.set_cons_zero, List.set_cons_succ]
              have gb := (Grew.refl t1).alloc (.cells #[.int .i64 p] 3)
              have HR2 := Lib.hid (HR1.out.grew gb)
              have HO2 := Lib.hid (HO1.out.grew gb)
              have HS2 := Lib.hid (HS1.out.grew gb)
              have HT2 := Lib.hid (HT1.out.grew gb)
              have HG2 := Lib.hid (grown_alloc HG1.out (.cells #[.int .i64 p] 3))
              have HN2 := Lib.hid (Mine.Own.new t1 3 #[.int .i64 p])
              have hz2 : sl + 1 ≤ (t1.alloc (.cells #[.int .i64 p] 3)).heap.size := HO2.out.lt
              clear gb l0 l1 l2 l3 l4 l5
              obtain ⟨l0, l1, l2, l3, l4, l5⟩ := HO2.out.three
              refine wpAny_ready (rs := [1]) (by kernel_rfl) (by simp) ?_
              refine AllReady.cons (o := ⟨some 31, _, _, _, _, _⟩) rfl (fun K hK => ?st120_0) AllReady.nil
              case st120_0 =>
                go_simp
                refine hK _ _ ?_
                clear hK K
                try simp only [Act.put, List.setIfInBounds_toArray, List.set_cons_zero, List.set_cons_succ]
                refine wpAny_ready (rs := [5]) (by kernel_rfl) (by simp) ?_
                refine AllReady.cons (o := ⟨some 35, _, _, _, _, _⟩) rfl (fun K hK => ?st119_0) AllReady.nil
                case st119_0 =>
                  refine step_append_row (w := t1.alloc (.cells #[.int .i64 p] 3)) (by rfl) (.tmp 31) (.tmp 34) 22 (by rfl) (sl + 1) info_I und_I (by decide) (by decide) enc1_len (Value.slice a1 y.a.length c1) y.a (by rfl) HR2.out.a t1.heap.size 1 p (by rfl) HN2.out enc1_one (by omega) (by decide) hz2 ?_
                  intro g5 cap5 t3 R5 G5 o5
                  have o6 : (Value.slice a1 y.a.length c1).ownBlock = some g5 ∨ (t1.alloc (.cells #[.int .i64 p] 3)).heap.size ≤ g5 := o5.elim .inl (fun e => .inr (Nat.le_of_eq e.symm))
                  have R11 := RowE.keptG HR2.out.i G5 (fun j e => s12 j e)
                  have q11 : Sep (.slice (some ⟨g5, 0, none⟩) (y.a.length + 1) cap5) (.slice a2 y.i.length c2) := sep_app s12 HR2.out.i o6
                  have R12 := RowE.keptG HR2.out.r G5 (fun j e => s13 j e)
                  have q12 : Sep (.slice (some ⟨g5, 0, none⟩) (y.a.length + 1) cap5) (.slice a3 y.r.length c3) := sep_app s13 HR2.out.r o6
                  have O3 := HO2.out.keptN G5 (far_of HR2.out.a (Nat.lt_succ_self _))
                  have S3 := HS2.out.keptN G5 (far_of HR2.out.a (by omega))
                  have T3 := HT2.out.keptA G5 (B := sl + 1) (fun j e => HR2.out.a.above j e) (by omega)
                  have G3 := grown_above HG2.out G5 (fun j e => by have := HR2.out.a.above j e; have := HSX.out; omega)
                  have HQ5 := Lib.hid (And.intro R5 (And.intro R11 (And.intro R12 (And.intro q11 q12))))
                  have HQ3 := Lib.hid (And.intro O3 (And.intro S3 (And.intro T3 G3)))
                  clear R5 G5 o5 o6 R11 R12 q11 q12 O3 S3 T3 G3 l0 l1 l2 l3 l4 l5
                  obtain ⟨l0, l1, l2, l3, l4, l5⟩ := HQ3.out.1.three
                  refine hK _ _ ?_
                  clear hK K
                  try simp only [Act.put, List.setIfInBounds_toArray, List.set_cons_zero, List.set_cons_succ]
                  refine wpAny_take (i := 6) (oi := ⟨some 36, _, _, _, _, _⟩) (v := ?vv117) rfl (by kernel_rfl) (by kernel_rfl) (by kernel_rfl) (fun _ _ _ h => h) (Or.inl ⟨by rfl, ?yy117⟩) ?rr117
                  case yy117 => (intro w; go_simp; (try with_reducible rfl))
                  try simp only [Act.put, List.setIfInBounds_toArray, List.set_cons_zero, List.set_cons_succ]
                  refine wpAny_ready (rs := [7]) (by kernel_rfl) (by simp) ?_
                  refine AllReady.cons (o := ⟨none, _, _, _, _, _⟩) rfl (fun K hK => ?st118_0) AllReady.nil
                  case st118_0 =>
                    go_simp
                    refine hK _ _ ?_
                    clear hK K
                    try simp only [Act.put, List.setIfInBounds_toArray, List.set_cons_zero, List.set_cons_succ]
                    refine wpAny_done (by kernel_rfl) ?_ _
                    (first | go_wp2 | skip)
                    go_meet
                    obtain ⟨R5, R11, R12, q11, q12⟩ := HQ5.out
                    obtain ⟨O3, S3, T3, G3⟩ := HQ3.out
                    have O4 := O3.set 0 (.slice (some ⟨g5, 0, none⟩) (y.a.length + 1) cap5)
                    have e9 : y.a.length + 1 = (y.a ++ [p]).length := by simp
                    rw [e9] at R5 O4 q11 q12 ⊢
                    exact ⟨⟨y.a ++ [p], y.i, y.r⟩, some ⟨g5, 0, none⟩, cap5, a2, c2, a3, c3, (show (y.a ++ [p]).length ≤ 13 by rw [← e9]; omega), (show y.i.length ≤ 13 by omega), (show y.r.length ≤ 13 by omega), hwf, ⟨RowE.setF R5 (far_of R5 (Nat.lt_succ_self _)), RowE.setF R11 (far_of R11 (Nat.lt_succ_self _)), RowE.setF R12 (far_of R12 (Nat.lt_succ_self _))⟩, ⟨q11, q12, s23⟩, O4, S3.far (p := ⟨sl, 0, none⟩) (show sx ≠ sl by omega) _, T3.set (p := ⟨sl, 0, none⟩) (show B ≤ sl by omega) _, grown_set G3 (p := ⟨sl, 0, none⟩) (.inr (show w.heap.size ≤ sl by have := HSX.out; omega)) _⟩
        · by_cases hq2 : q = 2
          · subst hq2
            go_upto_region 9 with fail
            have HR0 := Lib.hid R.drew
            have HO0 := Lib.hid O.drew
            have HS0 := Lib.hid S.drew
            have HT0 := Lib.hid (tp.grew ((Grew.refl t0).drew))
            have HG0 := Lib.hid (grown_drew G)
            obtain ⟨l0, l1, l2, l3, l4, l5⟩ := O.three
            have hBd : B ≤ t0.drew.heap.size := hB0
            clear R O S tp G
            refine wp_region_any (by kernel_rfl) ?_
            refine wpAny_take (i := 0) (oi := ⟨some 39, _, _, _, _, _⟩) (v := ?vv123) rfl (by kernel_rfl) (by kernel_rfl) (by kernel_rfl) (fun _ _ _ h => h) (Or.inl ⟨by rfl, ?yy123⟩) ?rr123
            case yy123 => (intro w; go_simp; (try with_reducible rfl))
            try simp only [Act.put, List.setIfInBounds_toArray, List.set_cons_zero, List.set_cons_succ]
            refine wpAny_take (i := 2) (oi := ⟨some 41, _, _, _, _, _⟩) (v := ?vv124) rfl (by kernel_rfl) (by kernel_rfl) (by kernel_rfl) (fun _ _ _ h => h) (Or.inl ⟨by rfl, ?yy124⟩) ?rr124
            case yy124 => (intro w; go_simp; (try with_reducible rfl))
            try simp only [Act.put, List.setIfInBounds_toArray, List.set_cons_zero, List.set_cons_succ]
            refine wpAny_ready (rs := [1, 3]) (by kernel_rfl) (by simp) ?_
            refine AllReady.cons (o := ⟨some 40, _, _, _, _, _⟩) rfl (fun K hK => ?st141_0) (AllReady.cons (o := ⟨some 42, _, _, _, _, _⟩) rfl (fun K hK => ?st141_1) AllReady.nil)
            case st141_0 =>
              go_simp
              refine hK _ _ ?_
              clear hK K
              try simp only [Act.put, List.setIfInBounds_toArray, List.set_cons_zero, List.set_cons_succ]
              refine wpAny_ready (rs := [3]) (by kernel_rfl) (by simp) ?_
              refine AllReady.cons (o := ⟨some 42, _, _, _, _, _⟩) rfl (fun K hK => ?st130_0) AllReady.nil
              case st130_0 =>
                go_simp
                with_reducible refine (next_x _ _ _ _ (by omega) (by omega) HT0.out).mono ?_
                rintro e t1 ⟨p, p0, p1, rfl, tp1, g1⟩
                have hwq : IntKind.i64.wrap (1 + p) = 1 + p := IntWalk.i64_in _ (by omega)
                have HR1 := Lib.hid (LrR.past HR0.out g1 (by omega))
                have HO1 := Lib.hid (HO0.out.past g1 (by omega))
                have HS1 := Lib.hid (HS0.out.past g1 (by omega))
                have HT1 := Lib.hid tp1
                have HG1 := Lib.hid (grown_trans HG0.out g1)
                have hz1 := g1.size
                clear tp1 g1 l0 l1 l2 l3 l4 l5
                obtain ⟨l0, l1, l2, l3, l4, l5⟩ := HO1.out.three
                dsimp only
                refine hK _ _ ?_
                clear hK K
                try simp only [Act.put, List.setIfInBounds_toArray, List.set_cons_zero, List.set_cons_succ]
                refine wpAny_take (i := 4) (oi := ⟨some 43, _, _, _, _, _⟩) (v := ?vv125) rfl (by kernel_rfl) (by kernel_rfl) (by kernel_rfl) (fun _ _ _ h => h) (Or.inl ⟨by rfl, ?yy125⟩) ?rr125
                case yy125 => (intro w; go_simp; (try with_reducible rfl))
                try simp only [Act.put, List.setIfInBounds_toArray, List.set_cons_zero, List.set_cons_succ]
                refine wpAny_ready (rs := [5]) (by kernel_rfl) (by simp) ?_
                refine AllReady.cons (o := ⟨some 44, _, _, _, _, _⟩) rfl (fun K hK => ?st129_0) AllReady.nil
                case st129_0 =>
                  go_simp
                  refine hK _ _ ?_
                  clear hK K
                  try simp only [Act.put, List.setIfInBounds_toArray, List.set_cons_zero, List.set_cons_succ]
                  have gb := (Grew.refl t1).alloc (.cells #[.int .i64 (1 + p)] 3)
                  have HR2 := Lib.hid (HR1.out.grew gb)
                  have HO2 := Lib.hid (HO1.out.grew gb)
                  have HS2 := Lib.hid (HS1.out.grew gb)
                  have HT2 := Lib.hid (HT1.out.grew gb)
                  have HG2 := Lib.hid (grown_alloc HG1.out (.cells #[.int .i64 (1 + p)] 3))
                  have HN2 := Lib.hid (Mine.Own.new t1 3 #[.int .i64 (1 + p)])
                  have hz2 : sl + 1 ≤ (t1.alloc (.cells #[.int .i64 (1 + p)] 3)).heap.size := HO2.out.lt
                  clear gb l0 l1 l2 l3 l4 l5
                  obtain ⟨l0, l1, l2, l3, l4, l5⟩ := HO2.out.three
                  refine wpAny_ready (rs := [6]) (by kernel_rfl) (by simp) ?_
                  refine AllReady.cons (o := ⟨some 45, _, _, _, _, _⟩) rfl (fun K hK => ?st128_0) AllReady.nil
                  case st128_0 =>
                    refine step_append_row (w := t1.alloc (.cells #[.int .i64 (1 + p)] 3)) (by rfl) (.tmp 40) (.tmp 44) 22 (by rfl) (sl + 1) info_I und_I (by decide) (by decide) enc1_len (Value.slice a2 y.i.length c2) y.i (by rfl) HR2.out.i t1.heap.size 1 (1 + p) (by rfl) HN2.out enc1_one (by omega) (by decide) hz2 ?_
                    intro g5 cap5 t3 R5 G5 o5
                    have o6 : (Value.slice a2 y.i.length c2).ownBlock = some g5 ∨ (t1.alloc (.cells #[.int .i64 (1 + p)] 3)).heap.size ≤ g5 := o5.elim .inl (fun e => .inr (Nat.le_of_eq e.symm))
                    have R10 := RowE.keptG HR2.out.a G5 (fun j e => s12.symm j e)
                    have q10 : Sep (.slice (some ⟨g5, 0, none⟩) (y.i.length + 1) cap5) (.slice a1 y.a.length c1) := sep_app s12.symm HR2.out.a o6
                    have R12 := RowE.keptG HR2.out.r G5 (fun j e => s23 j e)
                    have q12 : Sep (.slice (some ⟨g5, 0, none⟩) (y.i.length + 1) cap5) (.slice a3 y.r.length c3) := sep_app s23 HR2.out.r o6
                    have O3 := HO2.out.keptN G5 (far_of HR2.out.i (Nat.lt_succ_self _))
                    have S3 := HS2.out.keptN G5 (far_of HR2.out.i (by omega))
                    have T3 := HT2.out.keptA G5 (B := sl + 1) (fun j e => HR2.out.i.above j e) (by omega)
                    have G3 := grown_above HG2.out G5 (fun j e => by have := HR2.out.i.above j e; have := HSX.out; omega)
                    have HQ5 := Lib.hid (And.intro R5 (And.intro R10 (And.intro R12 (And.intro q10 q12))))
                    have HQ3 := Lib.hid (And.intro O3 (And.intro S3 (And.intro T3 G3)))
                    clear R5 G5 o5 o6 R10 R12 q10 q12 O3 S3 T3 G3 l0 l1 l2 l3 l4 l5
                    obtain ⟨l0, l1, l2, l3, l4, l5⟩ := HQ3.out.1.three
                    refine hK _ _ ?_
                    clear hK K
                    try simp only [Act.put, List.setIfInBounds_toArray, List.set_cons_zero, List.set_cons_succ]
                    refine wpAny_take (i := 7) (oi := ⟨some 46, _, _, _, _, _⟩) (v := ?vv126) rfl (by kernel_rfl) (by kernel_rfl) (by kernel_rfl) (fun _ _ _ h => h) (Or.inl ⟨by rfl, ?yy126⟩) ?rr126
                    case yy126 => (intro w; go_simp; (try with_reducible rfl))
                    try simp only [Act.put, List.setIfInBounds_toArray, List.set_cons_zero, List.set_cons_succ]
                    refine wpAny_ready (rs := [8]) (by kernel_rfl) (by simp) ?_
                    refine AllReady.cons (o := ⟨none, _, _, _, _, _⟩) rfl (fun K hK => ?st127_0) AllReady.nil
                    case st127_0 =>
                      go_simp
                      refine hK _ _ ?_
                      clear hK K
                      try simp only [Act.put, List.setIfInBounds_toArray, List.set_cons_zero, List.set_cons_succ]
                      refine wpAny_done (by kernel_rfl) ?_ _
                      (first | go_wp2 | skip)
                      go_meet
                      obtain ⟨R5, R10, R12, q10, q12⟩ := HQ5.out
                      obtain ⟨O3, S3, T3, G3⟩ := HQ3.out
                      have O4 := O3.set 1 (.slice (some ⟨g5, 0, none⟩) (y.i.length + 1) cap5)
                      have e9 : y.i.length + 1 = (y.i ++ [(1 + p)]).length := by simp
                      rw [e9] at R5 O4 q10 q12 ⊢
                      exact ⟨⟨y.a, y.i ++ [(1 + p)], y.r⟩, a1, c1, some ⟨g5, 0, none⟩, cap5, a3, c3, (show y.a.length ≤ 13 by omega), (show (y.i ++ [(1 + p)]).length ≤ 13 by rw [← e9]; omega), (show y.r.length ≤ 13 by omega), hwf, ⟨RowE.setF R10 (far_of R10 (Nat.lt_succ_self _)), RowE.setF R5 (far_of R5 (Nat.lt_succ_self _)), RowE.setF R12 (far_of R12 (Nat.lt_succ_self _))⟩, ⟨q10.symm, s13, q12⟩, O4, S3.far (p := ⟨sl, 1, none⟩) (show sx ≠ sl by omega) _, T3.set (p := ⟨sl, 1, none⟩) (show B ≤ sl by omega) _, grown_set G3 (p := ⟨sl, 1, none⟩) (.inr (show w.heap.size ≤ sl by have := HSX.out; omega)) _⟩
            case st141_1 =>
              go_simp
              with_reducible refine (next_x _ _ _ _ (by omega) (by omega) HT0.out).mono ?_
              rintro e t1 ⟨p, p0, p1, rfl, tp1, g1⟩
              have hwq : IntKind.i64.wrap (1 + p) = 1 + p := IntWalk.i64_in _ (by omega)
              have HR1 := Lib.hid (LrR.past HR0.out g1 (by omega))
              have HO1 := Lib.hid (HO0.out.past g1 (by omega))
              have HS1 := Lib.hid (HS0.out.past g1 (by omega))
              have HT1 := Lib.hid tp1
              have HG1 := Lib.hid (grown_trans HG0.out g1)
              have hz1 := g1.size
              clear tp1 g1 l0 l1 l2 l3 l4 l5
              obtain ⟨l0, l1, l2, l3, l4, l5⟩ := HO1.out.three
              dsimp only
              refine hK _ _ ?_
              clear hK K
              try simp only [Act.put, List.setIfInBounds_toArray, List.set_cons_zero, List.set_cons_succ]
              refine wpAny_take (i := 4) (oi := ⟨some 43, _, _, _, _, _⟩) (v := ?vv131) rfl (by kernel_rfl) (by kernel_rfl) (by kernel_rfl) (fun _ _ _ h => h) (Or.inl ⟨by rfl, ?yy131⟩) ?rr131
              case yy131 => (intro w; go_simp; (try with_reducible rfl))
              try simp only [Act.put, List.setIfInBounds_toArray, List.set_cons_zero, List.set_cons_succ]
              refine wpAny_ready (rs := [1, 5]) (by kernel_rfl) (by simp) ?_
              refine AllReady.cons (o := ⟨some 40, _, _, _, _, _⟩) rfl (fun K hK => ?st140_0) (AllReady.cons (o := ⟨some 44, _, _, _, _, _⟩) rfl (fun K hK => ?st140_1) AllReady.nil)
              case st140_0 =>
                go_simp
                refine hK _ _ ?_
                clear hK K
                try simp only [Act.put, List.setIfInBounds_toArray, List.set_cons_zero, List.set_cons_succ]
                refine wpAny_ready (rs := [5]) (by kernel_rfl) (by simp) ?_
                refine AllReady.cons (o := ⟨some 44, _, _, _, _, _⟩) rfl (fun K hK => ?st135_0) AllReady.nil
                case st135_0 =>
                  go_simp
                  refine hK _ _ ?_
                  clear hK K
                  try simp only [Act.put, List.setIfInBounds_toArray, List.set_cons_zero, List.set_cons_succ]
                  have gb := (Grew.refl t1).alloc (.cells #[.int .i64 (1 + p)] 3)
                  have HR2 := Lib.hid (HR1.out.grew gb)
                  have HO2 := Lib.hid (HO1.out.grew gb)
                  have HS2 := Lib.hid (HS1.out.grew gb)
                  have HT2 := Lib.hid (HT1.out.grew gb)
                  have HG2 := Lib.hid (grown_alloc HG1.out (.cells #[.int .i64 (1 + p)] 3))
                  have HN2 := Lib.hid (Mine.Own.new t1 3 #[.int .i64 (1 + p)])
                  have hz2 : sl + 1 ≤ (t1.alloc (.cells #[.int .i64 (1 + p)] 3)).heap.size := HO2.out.lt
                  clear gb l0 l1 l2 l3 l4 l5
                  obtain ⟨l0, l1, l2, l3, l4, l5⟩ := HO2.out.three
                  refine wpAny_ready (rs := [6]) (by kernel_rfl) (by simp) ?_
                  refine AllReady.cons (o := ⟨some 45, _, _, _, _, _⟩) rfl (fun K hK => ?st134_0) AllReady.nil
                  case st134_0 =>
                    refine step_append_row (w := t1.alloc (.cells #[.int .i64 (1 + p)] 3)) (by rfl) (.tmp 40) (.tmp 44) 22 (by rfl) (sl + 1) info_I und_I (by decide) (by decide) enc1_len (Value.slice a2 y.i.length c2) y.i (by rfl) HR2.out.i t1.heap.size 1 (1 + p) (by rfl) HN2.out enc1_one (by omega) (by decide) hz2 ?_
                    intro g5 cap5 t3 R5 G5 o5
                    have o6 : (Value.slice a2 y.i.length c2).ownBlock = some g5 ∨ (t1.alloc (.cells #[.int .i64 (1 + p)] 3)).heap.size ≤ g5 := o5.elim .inl (fun e => .inr (Nat.le_of_eq e.symm))
                    have R10 := RowE.keptG HR2.out.a G5 (fun j e => s12.symm j e)
                    have q10 : Sep (.slice (some ⟨g5, 0, none⟩) (y.i.length + 1) cap5) (.slice a1 y.a.length c1) := sep_app s12.symm HR2.out.a o6
                    have R12 := RowE.keptG HR2.out.r G5 (fun j e => s23 j e)
                    have q12 : Sep (.slice (some ⟨g5, 0, none⟩) (y.i.length + 1) cap5) (.slice a3 y.r.length c3) := sep_app s23 HR2.out.r o6
                    have O3 := HO2.out.keptN G5 (far_of HR2.out.i (Nat.lt_succ_self _))
                    have S3 := HS2.out.keptN G5 (far_of HR2.out.i (by omega))
                    have T3 := HT2.out.keptA G5 (B := sl + 1) (fun j e => HR2.out.i.above j e) (by omega)
                    have G3 := grown_above HG2.out G5 (fun j e => by have := HR2.out.i.above j e; have := HSX.out; omega)
                    have HQ5 := Lib.hid (And.intro R5 (And.intro R10 (And.intro R12 (And.intro q10 q12))))
                    have HQ3 := Lib.hid (And.intro O3 (And.intro S3 (And.intro T3 G3)))
                    clear R5 G5 o5 o6 R10 R12 q10 q12 O3 S3 T3 G3 l0 l1 l2 l3 l4 l5
                    obtain ⟨l0, l1, l2, l3, l4, l5⟩ := HQ3.out.1.three
                    refine hK _ _ ?_
                    clear hK K
                    try simp only [Act.put, List.setIfInBounds_toArray, List.set_cons_zero, List.set_cons_succ]
                    refine wpAny_take (i := 7) (oi := ⟨some 46, _, _, _, _, _⟩) (v := ?vv132) rfl (by kernel_rfl) (by kernel_rfl) (by kernel_rfl) (fun _ _ _ h => h) (Or.inl ⟨by rfl, ?yy132⟩) ?rr132
                    case yy132 => (intro w; go_simp; (try with_reducible rfl))
                    try simp only [Act.put, List.setIfInBounds_toArray, List.set_cons_zero, List.set_cons_succ]
                    refine wpAny_ready (rs := [8]) (by kernel_rfl) (by simp) ?_
                    refine AllReady.cons (o := ⟨none, _, _, _, _, _⟩) rfl (fun K hK => ?st133_0) AllReady.nil
                    case st133_0 =>
                      go_simp
                      refine hK _ _ ?_
                      clear hK K
                      try simp only [Act.put, List.setIfInBounds_toArray, List.set_cons_zero, List.set_cons_succ]
                      refine wpAny_done (by kernel_rfl) ?_ _
                      (first | go_wp2 | skip)
                      go_meet
                      obtain ⟨R5, R10, R12, q10, q12⟩ := HQ5.out
                      obtain ⟨O3, S3, T3, G3⟩ := HQ3.out
                      have O4 := O3.set 1 (.slice (some ⟨g5, 0, none⟩) (y.i.length + 1) cap5)
                      have e9 : y.i.length + 1 = (y.i ++ [(1 + p)]).length := by simp
                      rw [e9] at R5 O4 q10 q12 ⊢
                      exact ⟨⟨y.a, y.i ++ [(1 + p)], y.r⟩, a1, c1, some ⟨g5, 0, none⟩, cap5, a3, c3, (show y.a.length ≤ 13 by omega), (show (y.i ++ [(1 + p)]).length ≤ 13 by rw [← e9]; omega), (show y.r.length ≤ 13 by omega), hwf, ⟨RowE.setF R10 (far_of R10 (Nat.lt_succ_self _)), RowE.setF R5 (far_of R5 (Nat.lt_succ_self _)), RowE.setF R12 (far_of R12 (Nat.lt_succ_self _))⟩, ⟨q10.symm, s13, q12⟩, O4, S3.far (p := ⟨sl, 1, none⟩) (show sx ≠ sl by omega) _, T3.set (p := ⟨sl, 1, none⟩) (show B ≤ sl by omega) _, grown_set G3 (p := ⟨sl, 1, none⟩) (.inr (show w.heap.size ≤ sl by have := HSX.out; omega)) _⟩
              case st140_1 =>
                go_simp
                refine hK _ _ ?_
                clear hK K
                try simp only [Act.put, List.setIfInBounds_toArray, List.set_cons_zero, List.set_cons_succ]
                have gb := (Grew.refl t1).alloc (.cells #[.int .i64 (1 + p)] 3)
                have HR2 := Lib.hid (HR1.out.grew gb)
                have HO2 := Lib.hid (HO1.out.grew gb)
                have HS2 := Lib.hid (HS1.out.grew gb)
                have HT2 := Lib.hid (HT1.out.grew gb)
                have HG2 := Lib.hid (grown_alloc HG1.out (.cells #[.int .i64 (1 + p)] 3))
                have HN2 := Lib.hid (Mine.Own.new t1 3 #[.int .i64 (1 + p)])
                have hz2 : sl + 1 ≤ (t1.alloc (.cells #[.int .i64 (1 + p)] 3)).heap.size := HO2.out.lt
                clear gb l0 l1 l2 l3 l4 l5
                obtain ⟨l0, l1, l2, l3, l4, l5⟩ := HO2.out.three
                refine wpAny_ready (rs := [1]) (by kernel_rfl) (by simp) ?_
                refine AllReady.cons (o := ⟨some 40, _, _, _, _, _⟩) rfl (fun K hK => ?st139_0) AllReady.nil
                case st139_0 =>
                  go_simp
                  refine hK _ _ ?_
                  clear hK K
                  try simp only [Act.put, List.setIfInBounds_toArray, List.set_cons_zero, List.set_cons_succ]
                  refine wpAny_ready (rs := [6]) (by kernel_rfl) (by simp) ?_
                  refine AllReady.cons (o := ⟨some 45, _, _, _, _, _⟩) rfl (fun K hK => ?st138_0) AllReady.nil
                  case st138_0 =>
                    refine step_append_row (w := t1.alloc (.cells #[.int .i64 (1 + p)] 3)) (by rfl) (.tmp 40) (.tmp 44) 22 (by rfl) (sl + 1) info_I und_I (by decide) (by decide) enc1_len (Value.slice a2 y.i.length c2) y.i (by rfl) HR2.out.i t1.heap.size 1 (1 + p) (by rfl) HN2.out enc1_one (by omega) (by decide) hz2 ?_
                    intro g5 cap5 t3 R5 G5 o5
                    have o6 : (Value.slice a2 y.i.length c2).ownBlock = some g5 ∨ (t1.alloc (.cells #[.int .i64 (1 + p)] 3)).heap.size ≤ g5 := o5.elim .inl (fun e => .inr (Nat.le_of_eq e.symm))
                    have R10 := RowE.keptG HR2.out.a G5 (fun j e => s12.symm j e)
                    have q10 : Sep (.slice (some ⟨g5, 0, none⟩) (y.i.length + 1) cap5) (.slice a1 y.a.length c1) := sep_app s12.symm HR2.out.a o6
                    have R12 := RowE.keptG HR2.out.r G5 (fun j e => s23 j e)
                    have q12 : Sep (.slice (some ⟨g5, 0, none⟩) (y.i.length + 1) cap5) (.slice a3 y.r.length c3) := sep_app s23 HR2.out.r o6
                    have O3 := HO2.out.keptN G5 (far_of HR2.out.i (Nat.lt_succ_self _))
                    have S3 := HS2.out.keptN G5 (far_of HR2.out.i (by omega))
                    have T3 := HT2.out.keptA G5 (B := sl + 1) (fun j e => HR2.out.i.above j e) (by omega)
                    have G3 := grown_above HG2.out G5 (fun j e => by have := HR2.out.i.above j e; have := HSX.out; omega)
                    have HQ5 := Lib.hid (And.intro R5 (And.intro R10 (And.intro R12 (And.intro q10 q12))))
                    have HQ3 := Lib.hid (And.intro O3 (And.intro S3 (And.intro T3 G3)))
                    clear R5 G5 o5 o6 R10 R12 q10 q12 O3 S3 T3 G3 l0 l1 l2 l3 l4 l5
                    obtain ⟨l0, l1, l2, l3, l4, l5⟩ := HQ3.out.1.three
                    refine hK _ _ ?_
                    clear hK K
                    try simp only [Act.put, List.setIfInBounds_toArray, List.set_cons_zero, List.set_cons_succ]
                    refine wpAny_take (i := 7) (oi := ⟨some 46, _, _, _, _, _⟩) (v := ?vv136) rfl (by kernel_rfl) (by kernel_rfl) (by kernel_rfl) (fun _ _ _ h => h) (Or.inl ⟨by rfl, ?yy136⟩) ?rr136
                    case yy136 => (intro w; go_simp; (try with_reducible rfl))
                    try simp only [Act.put, List.setIfInBounds_toArray, List.set_cons_zero, List.set_cons_succ]
                    refine wpAny_ready (rs := [8]) (by kernel_rfl) (by simp) ?_
                    refine AllReady.cons (o := ⟨none, _, _, _, _, _⟩) rfl (fun K hK => ?st137_0) AllReady.nil
                    case st137_0 =>
                      go_simp
                      refine hK _ _ ?_
                      clear hK K
                      try simp only [Act.put, List.setIfInBounds_toArray, List.set_cons_zero, List.set_cons_succ]
                      refine wpAny_done (by kernel_rfl) ?_ _
                      (first | go_wp2 | skip)
                      go_meet
                      obtain ⟨R5, R10, R12, q10, q12⟩ := HQ5.out
                      obtain ⟨O3, S3, T3, G3⟩ := HQ3.out
                      have O4 := O3.set 1 (.slice (some ⟨g5, 0, none⟩) (y.i.length + 1) cap5)
                      have e9 : y.i.length + 1 = (y.i ++ [(1 + p)]).length := by simp
                      rw [e9] at R5 O4 q10 q12 ⊢
                      exact ⟨⟨y.a, y.i ++ [(1 + p)], y.r⟩, a1, c1, some ⟨g5, 0, none⟩, cap5, a3, c3, (show y.a.length ≤ 13 by omega), (show (y.i ++ [(1 + p)]).length ≤ 13 by rw [← e9]; omega), (show y.r.length ≤ 13 by omega), hwf, ⟨RowE.setF R10 (far_of R10 (Nat.lt_succ_self _)), RowE.setF R5 (far_of R5 (Nat.lt_succ_self _)), RowE.setF R12 (far_of R12 (Nat.lt_succ_self _))⟩, ⟨q10.symm, s13, q12⟩, O4, S3.far (p := ⟨sl, 1, none⟩) (show sx ≠ sl by omega) _, T3.set (p := ⟨sl, 1, none⟩) (show B ≤ sl by omega) _, grown_set G3 (p := ⟨sl, 1, none⟩) (.inr (show w.heap.size ≤ sl by have := HSX.out; omega)) _⟩
          · have e0 : (q == 0) = false := beqF hq0
            have e1 : (q == 1) = false := beqF hq1
            have e2 : (q == 2) = false := beqF hq2
            have HF := Lib.hid (show DrSt w 13 B b sx sl t0 from ⟨y, a1, c1, a2, c2, a3, c3, by omega, by omega, by omega, hwf, R, ⟨s12, s13, s23⟩, O, S, tp, G⟩)
            clear hq0 hq1 hq2 R O S tp G
            go_wp2
            go_meet
            exact HF.out
    case rest =>
      obtain ⟨y, a1, c1, a2, c2, a3, c3, hya, hyi, hyr, hwf, R, ⟨s12, s13, s23⟩, O, S, tp, G⟩ := hcut
      obtain ⟨l0, l1, l2, l3, l4, l5⟩ := O.three
      obtain ⟨s0, s1, s2, s3, s4, s5⟩ := S.three
      go_wp2
      generalize hw : World.setCell _ _ _ = wz
      have RR := S.store3 hw
      have T2 := tp.far3 hw (by omega)
      have G2 := grown3 G hw (by have := HSX.out; omega)
      obtain ⟨u0, u1, u2, u3, u4, u5⟩ := RR.three
      refine bodyPost_ret (v := lruV (.slice a1 y.a.length c1) (.slice a2 y.i.length c2) (.slice a3 y.r.length c3)) (by simp [results, Try.results9, go_sem, u0, u1, u2]) rfl ⟨_, _, _, y, rfl, ⟨hya, hyi, hyr⟩, hwf, (R.far3N hw (by omega)).wider (by have := HSX.out; omega), T2, G2⟩

end Go.Proofs.Yteaofieijginhaa

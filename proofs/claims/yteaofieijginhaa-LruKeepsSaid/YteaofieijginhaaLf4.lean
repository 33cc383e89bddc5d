/- Lists of frames (layer 8): the reference's Add, Remove, Touch: contracts. -/
import Derived.Test.YteaofieijginhaaLf3
import Derived.Deep.RegionWith
namespace Go.Proofs.Yteaofieijginhaa
open Go.RowKit Go.Mine

/-- It returns the lists y and an error. -/
def RetLE (y : Lr) (er : Int) (B : Nat) (w : World) (e : Ending) (w' : World) : Prop := ∃ va vi vr, e = .returned (.tuple #[lruV va vi vr, .int .i64 er]) ∧ LrR w' B va vi vr y ∧ Grew w w'
abbrev n3 : Array Value := #[.slice none 0 0, .slice none 0 0, .slice none 0 0]
/-- What stands behind the move of a frame to the front of Active. -/
def TouCut (w : World) (sx : Nat) (MA MI MR : List Int) (wx : World) : Prop := ∃ a3 c3 a4 c4 a5 c5, Own wx sx 27 #[.slice a3 MA.length c3, .slice a4 MI.length c4, .slice a5 MR.length c5] ∧ Own wx (sx + 1) 27 n3 ∧
  RwI wx (sx + 2) (.slice a3 MA.length c3) MA ∧ RwI wx (sx + 2) (.slice a4 MI.length c4) MI ∧ RwI wx (sx + 2) (.slice a5 MR.length c5) MR ∧ Grew w wx
theorem check_v {b : Bool} {B : Nat} (va vi vr : Value) (x : Lr) (w : World) (R : LrR w B va vi vr x) (hs : SmP x) (h : okB x = b) : Calls Try.prog 19 #[lruV va vi vr] w (RetG (.bool b) w) := h ▸ check_any va vi vr x w R hs
theorem front_q {L : List Int} {B : Nat} (v : Value) (n : Int) (w : World) (R : RwI w B v L) (hl : L.length ≤ 1000) : Calls Try.prog 36 #[v, .int .i64 n] w (RetL1 (n :: L) w) := front_any v n w R (by omega)
theorem front_v {L M : List Int} {B : Nat} (v : Value) (n : Int) (w : World) (R : RwI w B v L) (hl : L.length ≤ 1000) (h : n :: L = M) : Calls Try.prog 36 #[v, .int .i64 n] w (RetL1 M w) := h ▸ front_q v n w R hl
theorem insert_q {L M : List Int} {B : Nat} (v : Value) (n : Int) (w : World) (R : RwI w B v L) (hl : L.length ≤ 1000) (h : inl L n = M) : Calls Try.prog 43 #[v, .int .i64 n] w (RetL1 M w) := h ▸ insert_any v n w R (by omega)
theorem without_q {L M : List Int} {B : Nat} (v : Value) (n : Int) (w : World) (R : RwI w B v L) (hl : L.length ≤ 1000) (h : wol L n = M) : Calls Try.prog 39 #[v, .int .i64 n] w (RetL1 M w) := h ▸ without_any v n w R (by omega)
theorem at_w {b : Bool} {L : List Int} {B : Nat} (v : Value) (n : Int) (w : World) (R : RwI w B v L) (hl : L.length ≤ 1000) (h : decide (n ∈ L) = b) : Calls Try.prog 30 #[v, .int .i64 n] w (RetAt b w) := at_v v n w R (by omega) h
theorem RowE.put1 {T : TypeId} {w : World} {B b i : Nat} {v u : Value} {L : List Int} (h : RowE T 1 enc1 w B v L) (hb : b < B) : RowE T 1 enc1 (w.setCell ⟨b, i, none⟩ u) B v L :=
  RowE.keptB (r := some b) h (grown_set (p := ⟨b, i, none⟩) (grown_refl _ _) (.inl rfl) u) (fun k e => by injection e with e; omega)
theorem addE_1 {x : Lr} {f : Int} (h : okB x = false) : addE x f = 1 := by unfold addE; rw [h]
theorem addE_2 {x : Lr} {f : Int} (h : okB x = true) (hf : ¬(1 ≤ f ∧ f ≤ 64)) : addE x f = 2 := by unfold addE; rw [h, decide_eq_false hf]
theorem addE_5 {x : Lr} {f : Int} (h : okB x = true) (hf : 1 ≤ f ∧ f ≤ 64) (hi : inB x f = true) : addE x f = 5 := by unfold addE; rw [h, decide_eq_true hf, hi]
theorem addE_0 {x : Lr} {f : Int} (h : okB x = true) (hf : 1 ≤ f ∧ f ≤ 64) (hi : inB x f = false) : addE x f = 0 := by unfold addE; rw [h, decide_eq_true hf, hi]
theorem remE_1 {x : Lr} {f : Int} (h : okB x = false) : remE x f = 1 := by unfold remE; rw [h]
theorem remE_2 {x : Lr} {f : Int} (h : okB x = true) (hf : ¬(1 ≤ f ∧ f ≤ 64)) : remE x f = 2 := by unfold remE; rw [h, decide_eq_false hf]
theorem remE_4 {x : Lr} {f : Int} (h : okB x = true) (hf : 1 ≤ f ∧ f ≤ 64) (hi : inB x f = false) : remE x f = 4 := by unfold remE; rw [h, decide_eq_true hf, hi]
theorem remE_0 {x : Lr} {f : Int} (h : okB x = true) (hf : 1 ≤ f ∧ f ≤ 64) (hi : inB x f = true) : remE x f = 0 := by unfold remE; rw [h, decide_eq_true hf, hi]
theorem addX_e {x : Lr} {f : Int} {act : Bool} (h : ¬addE x f = 0) : addX x f act = x := by unfold addX; rw [if_neg h]
theorem remX_e {x : Lr} {f : Int} (h : ¬remE x f = 0) : remX x f = x := by unfold remX; rw [if_neg h]
theorem touX_e {x : Lr} {f : Int} (h : ¬remE x f = 0) : touX x f = x := by unfold touX; rw [if_neg h]
set_option maxRecDepth 100000 in
set_option maxHeartbeats 2000000 in
theorem add_any {B : Nat} (va vi vr : Value) (x : Lr) (f : Int) (act : Bool) (w : World) (R : LrR w B va vi vr x) (hs : SmP x) (hB : B ≤ w.heap.size) : Calls Try.prog 13 #[lruV va vi vr, .int .i64 f, .bool act] w (RetLE (addX x f act) (addE x f) B w) := by
  obtain ⟨aa, ca, rfl⟩ := R.a.len
  obtain ⟨ai, ci, rfl⟩ := R.i.len
  obtain ⟨ar, cr, rfl⟩ := R.r.len
  obtain ⟨na, hna⟩ : ∃ na, x.a.length = na := ⟨_, rfl⟩
  obtain ⟨ni, hni⟩ : ∃ ni, x.i.length = ni := ⟨_, rfl⟩
  obtain ⟨nr, hnr⟩ : ∃ nr, x.r.length = nr := ⟨_, rfl⟩
  rw [hna, hni, hnr] at R ⊢
  clear hna hni hnr
  have W0 : Grew w ((w.alloc (.cells #[(.slice aa na ca), (.slice ai ni ci), (.slice ar nr cr)] 27)).alloc (.cells n3 27)) := ((Grew.refl w).alloc _).alloc _
  obtain ⟨sx, hsx⟩ : ∃ sx, w.heap.size = sx := ⟨_, rfl⟩
  have X : Own ((w.alloc (.cells #[(.slice aa na ca), (.slice ai ni ci), (.slice ar nr cr)] 27)).alloc (.cells n3 27)) sx 27 #[(.slice aa na ca), (.slice ai ni ci), (.slice ar nr cr)] := hsx ▸ (Own.new w 27 #[(.slice aa na ca), (.slice ai ni ci), (.slice ar nr cr)]).alloc _
  have S : Own ((w.alloc (.cells #[(.slice aa na ca), (.slice ai ni ci), (.slice ar nr cr)] 27)).alloc (.cells n3 27)) (sx + 1) 27 n3 := hsx ▸ Own.new2 w (.cells #[(.slice aa na ca), (.slice ai ni ci), (.slice ar nr cr)] 27) 27 n3
  have HR := Lib.hid R
  have HS := Lib.hid hs
  have HB := Lib.hid hB
  have HSX := Lib.hid hsx
  clear R hs
  cases h0 : okB x
  · have he := addE_1 (f := f) h0
    have HX := Lib.hid (show addX x f act = x from addX_e (by rw [he]; omega))
    rw [he]
    obtain ⟨x0, x1, x2, x3, x4, x5⟩ := X.three
    go_enter Try.func13, Try.ntmps13
    try rw [hsx]
    go_wp2_with fail
    with_reducible refine (check_v _ _ _ _ _ (HR.out.grew W0) HS.out h0).mono ?_
    rintro e_w1 w1 ⟨rfl, g1⟩
    replace X := X.grew g1
    replace S := S.grew g1
    replace W0 := W0.trans g1
    clear g1 x0 x1 x2 x3 x4 x5
    obtain ⟨x0, x1, x2, x3, x4, x5⟩ := X.three
    obtain ⟨s0, s1, s2, s3, s4, s5⟩ := S.three
    go_wp2
    generalize hw : World.setCell _ _ _ = wz
    have RR := S.store3 hw
    have gB := W0.far3 hw (by have := HSX.out; omega)
    obtain ⟨u0, u1, u2, u3, u4, u5⟩ := RR.three
    refine bodyPost_ret (v := .tuple #[lruV (.slice aa na ca) (.slice ai ni ci) (.slice ar nr cr), .int .i64 1]) (by simp [results, Try.results13, go_sem, u0, u1, u2]) rfl ⟨_, _, _, rfl, by rw [HX.out]; exact HR.out.grew gB, gB⟩
  · by_cases hf : 1 ≤ f ∧ f ≤ 64
    · obtain ⟨f0, f1⟩ := id hf
      cases hi : inB x f
      · have he := addE_0 h0 hf hi
        rw [he]
        clear hf
        cases act
        · have HX := Lib.hid (show addX x f false = ⟨x.a, f :: x.i, x.r⟩ from by unfold addX; rw [if_pos he])
          obtain ⟨x0, x1, x2, x3, x4, x5⟩ := X.three
          go_enter Try.func13, Try.ntmps13
          try rw [hsx]
          go_wp2_with fail
          with_reducible refine (check_v _ _ _ _ _ (HR.out.grew W0) HS.out h0).mono ?_
          rintro e_w1 w1 ⟨rfl, g1⟩
          replace X := X.grew g1
          replace S := S.grew g1
          replace W0 := W0.trans g1
          clear g1 x0 x1 x2 x3 x4 x5
          obtain ⟨x0, x1, x2, x3, x4, x5⟩ := X.three
          go_wp2_with fail
          with_reducible refine (has_v _ _ _ _ _ _ (HR.out.grew W0) HS.out hi).mono ?_
          rintro e_w2 w2 ⟨rfl, g1⟩
          replace X := X.grew g1
          replace S := S.grew g1
          replace W0 := W0.trans g1
          clear g1 x0 x1 x2 x3 x4 x5
          obtain ⟨x0, x1, x2, x3, x4, x5⟩ := X.three
          go_wp2_with fail
          with_reducible refine (front_q _ _ _ (HR.out.grew W0).i HS.out.i).mono ?_
          rintro e_w3 w3 ⟨v3, rfl, R3, g1⟩
          have hs2 : sx + 1 < w2.heap.size := S.lt
          obtain ⟨a3, c3, rfl⟩ := R3.len
          obtain ⟨n3, hn3⟩ : ∃ n, (f :: x.i).length = n := ⟨_, rfl⟩
          rw [hn3] at R3 ⊢
          clear hn3
          have HR3 := Lib.hid R3
          clear R3
          replace X := X.grew g1
          replace S := S.grew g1
          replace W0 := W0.trans g1
          clear g1 x0 x1 x2 x3 x4 x5
          obtain ⟨x0, x1, x2, x3, x4, x5⟩ := X.three
          go_upto_region 10 with fail
          replace X := X.set 1 (.slice a3 n3 c3)
          replace S := S.far (p := ⟨sx, 1, none⟩) (show sx + 1 ≠ sx by omega) (.slice a3 n3 c3)
          replace W0 := W0.set (p := ⟨sx, 1, none⟩) (show w.heap.size ≤ sx by have := HSX.out; omega) (.slice a3 n3 c3)
          have R4 := RowE.put1 (i := 1) (u := (.slice a3 n3 c3)) HR3.out (show sx < w2.heap.size by omega)
          clear HR3 x0 x1 x2 x3 x4 x5
          generalize World.setCell w3 _ _ = w4 at *
          have HR4 := Lib.hid R4
          clear R4
          obtain ⟨x0, x1, x2, x3, x4, x5⟩ := (show Own w4 sx 27 #[(.slice aa na ca), (.slice a3 n3 c3), (.slice ar nr cr)] from X).three
          obtain ⟨s0, s1, s2, s3, s4, s5⟩ := S.three
          go_wp2
          generalize hw : World.setCell _ _ _ = wz
          have RR := S.store3 hw
          have gB := W0.far3 hw (by have := HSX.out; omega)
          obtain ⟨u0, u1, u2, u3, u4, u5⟩ := RR.three
          refine bodyPost_ret (v := .tuple #[lruV (.slice aa na ca) (.slice a3 n3 c3) (.slice ar nr cr), .int .i64 0]) (by simp [results, Try.results13, go_sem, u0, u1, u2]) rfl ⟨_, _, _, rfl, by rw [HX.out]; exact ⟨(HR.out.grew gB).a, (HR4.out.far3 hw (show sx + 1 < w2.heap.size by omega)).wider (by have := HB.out; have := HSX.out; omega), (HR.out.grew gB).r⟩, gB⟩
        · have HX := Lib.hid (show addX x f true = ⟨f :: x.a, x.i, x.r⟩ from by unfold addX; rw [if_pos he])
          obtain ⟨x0, x1, x2, x3, x4, x5⟩ := X.three
          go_enter Try.func13, Try.ntmps13
          try rw [hsx]
          go_wp2_with fail
          with_reducible refine (check_v _ _ _ _ _ (HR.out.grew W0) HS.out h0).mono ?_
          rintro e_w1 w1 ⟨rfl, g1⟩
          replace X := X.grew g1
          replace S := S.grew g1
          replace W0 := W0.trans g1
          clear g1 x0 x1 x2 x3 x4 x5
          obtain ⟨x0, x1, x2, x3, x4, x5⟩ := X.three
          go_wp2_with fail
          with_reducible refine (has_v _ _ _ _ _ _ (HR.out.grew W0) HS.out hi).mono ?_
          rintro e_w2 w2 ⟨rfl, g1⟩
          replace X := X.grew g1
          replace S := S.grew g1
          replace W0 := W0.trans g1
          clear g1 x0 x1 x2 x3 x4 x5
          obtain ⟨x0, x1, x2, x3, x4, x5⟩ := X.three
          go_wp2_with fail
          with_reducible refine (front_q _ _ _ (HR.out.grew W0).a HS.out.a).mono ?_
          rintro e_w3 w3 ⟨v3, rfl, R3, g1⟩
          have hs2 : sx + 1 < w2.heap.size := S.lt
          obtain ⟨a3, c3, rfl⟩ := R3.len
          obtain ⟨n3, hn3⟩ : ∃ n, (f :: x.a).length = n := ⟨_, rfl⟩
          rw [hn3] at R3 ⊢
          clear hn3
          have HR3 := Lib.hid R3
          clear R3
          replace X := X.grew g1
          replace S := S.grew g1
          replace W0 := W0.trans g1
          clear g1 x0 x1 x2 x3 x4 x5
          obtain ⟨x0, x1, x2, x3, x4, x5⟩ := X.three
          go_upto_region 10 with fail
          replace X := X.set 0 (.slice a3 n3 c3)
          replace S := S.far (p := ⟨sx, 0, none⟩) (show sx + 1 ≠ sx by omega) (.slice a3 n3 c3)
          replace W0 := W0.set (p := ⟨sx, 0, none⟩) (show w.heap.size ≤ sx by have := HSX.out; omega) (.slice a3 n3 c3)
          have R4 := RowE.put1 (i := 0) (u := (.slice a3 n3 c3)) HR3.out (show sx < w2.heap.size by omega)
          clear HR3 x0 x1 x2 x3 x4 x5
          generalize World.setCell w3 _ _ = w4 at *
          have HR4 := Lib.hid R4
          clear R4
          obtain ⟨x0, x1, x2, x3, x4, x5⟩ := (show Own w4 sx 27 #[(.slice a3 n3 c3), (.slice ai ni ci), (.slice ar nr cr)] from X).three
          obtain ⟨s0, s1, s2, s3, s4, s5⟩ := S.three
          go_wp2
          generalize hw : World.setCell _ _ _ = wz
          have RR := S.store3 hw
          have gB := W0.far3 hw (by have := HSX.out; omega)
          obtain ⟨u0, u1, u2, u3, u4, u5⟩ := RR.three
          refine bodyPost_ret (v := .tuple #[lruV (.slice a3 n3 c3) (.slice ai ni ci) (.slice ar nr cr), .int .i64 0]) (by simp [results, Try.results13, go_sem, u0, u1, u2]) rfl ⟨_, _, _, rfl, by rw [HX.out]; exact ⟨(HR4.out.far3 hw (show sx + 1 < w2.heap.size by omega)).wider (by have := HB.out; have := HSX.out; omega), (HR.out.grew gB).i, (HR.out.grew gB).r⟩, gB⟩
      · have he := addE_5 h0 hf hi
        have HX := Lib.hid (show addX x f act = x from addX_e (by rw [he]; omega))
        rw [he]
        clear hf
        obtain ⟨x0, x1, x2, x3, x4, x5⟩ := X.three
        go_enter Try.func13, Try.ntmps13
        try rw [hsx]
        go_wp2_with fail
        with_reducible refine (check_v _ _ _ _ _ (HR.out.grew W0) HS.out h0).mono ?_
        rintro e_w1 w1 ⟨rfl, g1⟩
        replace X := X.grew g1
        replace S := S.grew g1
        replace W0 := W0.trans g1
        clear g1 x0 x1 x2 x3 x4 x5
        obtain ⟨x0, x1, x2, x3, x4, x5⟩ := X.three
        go_wp2_with fail
        with_reducible refine (has_v _ _ _ _ _ _ (HR.out.grew W0) HS.out hi).mono ?_
        rintro e_w2 w2 ⟨rfl, g1⟩
        replace X := X.grew g1
        replace S := S.grew g1
        replace W0 := W0.trans g1
        clear g1 x0 x1 x2 x3 x4 x5
        obtain ⟨x0, x1, x2, x3, x4, x5⟩ := X.three
        obtain ⟨s0, s1, s2, s3, s4, s5⟩ := S.three
        go_wp2
        generalize hw : World.setCell _ _ _ = wz
        have RR := S.store3 hw
        have gB := W0.far3 hw (by have := HSX.out; omega)
        obtain ⟨u0, u1, u2, u3, u4, u5⟩ := RR.three
        refine bodyPost_ret (v := .tuple #[lruV (.slice aa na ca) (.slice ai ni ci) (.slice ar nr cr), .int .i64 5]) (by simp [results, Try.results13, go_sem, u0, u1, u2]) rfl ⟨_, _, _, rfl, by rw [HX.out]; exact HR.out.grew gB, gB⟩
    · have he := addE_2 h0 hf
      have HX := Lib.hid (show addX x f act = x from addX_e (by rw [he]; omega))
      rw [he]
      by_cases hf1 : f < 1
      · skip
        obtain ⟨x0, x1, x2, x3, x4, x5⟩ := X.three
        go_enter Try.func13, Try.ntmps13
        try rw [hsx]
        go_wp2_with fail
        with_reducible refine (check_v _ _ _ _ _ (HR.out.grew W0) HS.out h0).mono ?_
        rintro e_w1 w1 ⟨rfl, g1⟩
        replace X := X.grew g1
        replace S := S.grew g1
        replace W0 := W0.trans g1
        clear g1 x0 x1 x2 x3 x4 x5
        obtain ⟨x0, x1, x2, x3, x4, x5⟩ := X.three
        obtain ⟨s0, s1, s2, s3, s4, s5⟩ := S.three
        go_wp2
        generalize hw : World.setCell _ _ _ = wz
        have RR := S.store3 hw
        have gB := W0.far3 hw (by have := HSX.out; omega)
        obtain ⟨u0, u1, u2, u3, u4, u5⟩ := RR.three
        refine bodyPost_ret (v := .tuple #[lruV (.slice aa na ca) (.slice ai ni ci) (.slice ar nr cr), .int .i64 2]) (by simp [results, Try.results13, go_sem, u0, u1, u2]) rfl ⟨_, _, _, rfl, by rw [HX.out]; exact HR.out.grew gB, gB⟩
      · have hf2 : 64 < f := by omega
        clear hf
        obtain ⟨x0, x1, x2, x3, x4, x5⟩ := X.three
        go_enter Try.func13, Try.ntmps13
        try rw [hsx]
        go_wp2_with fail
        with_reducible refine (check_v _ _ _ _ _ (HR.out.grew W0) HS.out h0).mono ?_
        rintro e_w1 w1 ⟨rfl, g1⟩
        replace X := X.grew g1
        replace S := S.grew g1
        replace W0 := W0.trans g1
        clear g1 x0 x1 x2 x3 x4 x5
        obtain ⟨x0, x1, x2, x3, x4, x5⟩ := X.three
        obtain ⟨s0, s1, s2, s3, s4, s5⟩ := S.three
        go_wp2
        generalize hw : World.setCell _ _ _ = wz
        have RR := S.store3 hw
        have gB := W0.far3 hw (by have := HSX.out; omega)
        obtain ⟨u0, u1, u2, u3, u4, u5⟩ := RR.three
        refine bodyPost_ret (v := .tuple #[lruV (.slice aa na ca) (.slice ai ni ci) (.slice ar nr cr), .int .i64 2]) (by simp [results, Try.results13, go_sem, u0, u1, u2]) rfl ⟨_, _, _, rfl, by rw [HX.out]; exact HR.out.grew gB, gB⟩
set_option maxRecDepth 100000 in
set_option maxHeartbeats 2000000 in
theorem remove_any {B : Nat} (va vi vr : Value) (x : Lr) (f : Int) (w : World) (R : LrR w B va vi vr x) (hs : SmP x) (hB : B ≤ w.heap.size) : Calls Try.prog 15 #[lruV va vi vr, .int .i64 f] w (RetLE (remX x f) (remE x f) B w) := by
  obtain ⟨aa, ca, rfl⟩ := R.a.len
  obtain ⟨ai, ci, rfl⟩ := R.i.len
  obtain ⟨ar, cr, rfl⟩ := R.r.len
  obtain ⟨na, hna⟩ : ∃ na, x.a.length = na := ⟨_, rfl⟩
  obtain ⟨ni, hni⟩ : ∃ ni, x.i.length = ni := ⟨_, rfl⟩
  obtain ⟨nr, hnr⟩ : ∃ nr, x.r.length = nr := ⟨_, rfl⟩
  rw [hna, hni, hnr] at R ⊢
  clear hna hni hnr
  have W0 : Grew w ((w.alloc (.cells #[(.slice aa na ca), (.slice ai ni ci), (.slice ar nr cr)] 27)).alloc (.cells n3 27)) := ((Grew.refl w).alloc _).alloc _
  obtain ⟨sx, hsx⟩ : ∃ sx, w.heap.size = sx := ⟨_, rfl⟩
  have X : Own ((w.alloc (.cells #[(.slice aa na ca), (.slice ai ni ci), (.slice ar nr cr)] 27)).alloc (.cells n3 27)) sx 27 #[(.slice aa na ca), (.slice ai ni ci), (.slice ar nr cr)] := hsx ▸ (Own.new w 27 #[(.slice aa na ca), (.slice ai ni ci), (.slice ar nr cr)]).alloc _
  have S : Own ((w.alloc (.cells #[(.slice aa na ca), (.slice ai ni ci), (.slice ar nr cr)] 27)).alloc (.cells n3 27)) (sx + 1) 27 n3 := hsx ▸ Own.new2 w (.cells #[(.slice aa na ca), (.slice ai ni ci), (.slice ar nr cr)] 27) 27 n3
  have HR := Lib.hid R
  have HS := Lib.hid hs
  have HB := Lib.hid hB
  have HSX := Lib.hid hsx
  clear R hs
  cases h0 : okB x
  · have he := remE_1 (f := f) h0
    have HX := Lib.hid (show remX x f = x from remX_e (by rw [he]; omega))
    rw [he]
    obtain ⟨x0, x1, x2, x3, x4, x5⟩ := X.three
    go_enter Try.func15, Try.ntmps15
    try rw [hsx]
    go_wp2_with fail
    with_reducible refine (check_v _ _ _ _ _ (HR.out.grew W0) HS.out h0).mono ?_
    rintro e_w1 w1 ⟨rfl, g1⟩
    replace X := X.grew g1
    replace S := S.grew g1
    replace W0 := W0.trans g1
    clear g1 x0 x1 x2 x3 x4 x5
    obtain ⟨x0, x1, x2, x3, x4, x5⟩ := X.three
    obtain ⟨s0, s1, s2, s3, s4, s5⟩ := S.three
    go_wp2
    generalize hw : World.setCell _ _ _ = wz
    have RR := S.store3 hw
    have gB := W0.far3 hw (by have := HSX.out; omega)
    obtain ⟨u0, u1, u2, u3, u4, u5⟩ := RR.three
    refine bodyPost_ret (v := .tuple #[lruV (.slice aa na ca) (.slice ai ni ci) (.slice ar nr cr), .int .i64 1]) (by simp [results, Try.results15, go_sem, u0, u1, u2]) rfl ⟨_, _, _, rfl, by rw [HX.out]; exact HR.out.grew gB, gB⟩
  · by_cases hf : 1 ≤ f ∧ f ≤ 64
    · obtain ⟨f0, f1⟩ := id hf
      cases hi : inB x f
      · have he := remE_4 h0 hf hi
        have HX := Lib.hid (show remX x f = x from remX_e (by rw [he]; omega))
        rw [he]
        clear hf
        obtain ⟨x0, x1, x2, x3, x4, x5⟩ := X.three
        go_enter Try.func15, Try.ntmps15
        try rw [hsx]
        go_wp2_with fail
        with_reducible refine (check_v _ _ _ _ _ (HR.out.grew W0) HS.out h0).mono ?_
        rintro e_w1 w1 ⟨rfl, g1⟩
        replace X := X.grew g1
        replace S := S.grew g1
        replace W0 := W0.trans g1
        clear g1 x0 x1 x2 x3 x4 x5
        obtain ⟨x0, x1, x2, x3, x4, x5⟩ := X.three
        go_wp2_with fail
        with_reducible refine (has_v _ _ _ _ _ _ (HR.out.grew W0) HS.out hi).mono ?_
        rintro e_w2 w2 ⟨rfl, g1⟩
        replace X := X.grew g1
        replace S := S.grew g1
        replace W0 := W0.trans g1
        clear g1 x0 x1 x2 x3 x4 x5
        obtain ⟨x0, x1, x2, x3, x4, x5⟩ := X.three
        obtain ⟨s0, s1, s2, s3, s4, s5⟩ := S.three
        go_wp2
        generalize hw : World.setCell _ _ _ = wz
        have RR := S.store3 hw
        have gB := W0.far3 hw (by have := HSX.out; omega)
        obtain ⟨u0, u1, u2, u3, u4, u5⟩ := RR.three
        refine bodyPost_ret (v := .tuple #[lruV (.slice aa na ca) (.slice ai ni ci) (.slice ar nr cr), .int .i64 4]) (by simp [results, Try.results15, go_sem, u0, u1, u2]) rfl ⟨_, _, _, rfl, by rw [HX.out]; exact HR.out.grew gB, gB⟩
      · have he := remE_0 h0 hf hi
        rw [he]
        clear hf
        have HX := Lib.hid (show remX x f = ⟨wol x.a f, wol x.i f, wol x.r f⟩ from by unfold remX; rw [if_pos he])
        obtain ⟨x0, x1, x2, x3, x4, x5⟩ := X.three
        go_enter Try.func15, Try.ntmps15
        try rw [hsx]
        go_wp2_with fail
        with_reducible refine (check_v _ _ _ _ _ (HR.out.grew W0) HS.out h0).mono ?_
        rintro e_w1 w1 ⟨rfl, g1⟩
        replace X := X.grew g1
        replace S := S.grew g1
        replace W0 := W0.trans g1
        clear g1 x0 x1 x2 x3 x4 x5
        obtain ⟨x0, x1, x2, x3, x4, x5⟩ := X.three
        go_wp2_with fail
        with_reducible refine (has_v _ _ _ _ _ _ (HR.out.grew W0) HS.out hi).mono ?_
        rintro e_w2 w2 ⟨rfl, g1⟩
        replace X := X.grew g1
        replace S := S.grew g1
        replace W0 := W0.trans g1
        clear g1 x0 x1 x2 x3 x4 x5
        obtain ⟨x0, x1, x2, x3, x4, x5⟩ := X.three
        obtain ⟨MA, hMA⟩ : ∃ MA, wol x.a f = MA := ⟨_, rfl⟩
        obtain ⟨MI, hMI⟩ : ∃ MI, wol x.i f = MI := ⟨_, rfl⟩
        obtain ⟨MR, hMR⟩ : ∃ MR, wol x.r f = MR := ⟨_, rfl⟩
        have HMA := Lib.hid hMA
        have HMI := Lib.hid hMI
        have HMR := Lib.hid hMR
        rw [hMA, hMI, hMR] at HX
        clear hMA hMI hMR
        go_upto_region 7 with fail
        have hz2 : sx + 1 < w2.heap.size := S.lt
        replace X := X.drew
        replace S := S.drew
        replace W0 := W0.drew
        clear x0 x1 x2 x3 x4 x5
        obtain ⟨x0, x1, x2, x3, x4, x5⟩ := X.three
        obtain ⟨s0, s1, s2, s3, s4, s5⟩ := S.three
        have ne1 : sx + 1 ≠ sx := by omega
        go_region_held3 (fun w' => w'.cell? ⟨sx, 0, none⟩ = some (.slice aa na ca) ∧ w'.cell? ⟨sx, 1, none⟩ = some (.slice ai ni ci) ∧ w'.cell? ⟨sx, 2, none⟩ = some (.slice ar nr cr))
          (refine ⟨?_, ?_, ?_⟩ <;> (repeat (first | with_reducible assumption | with_reducible refine far_drew ?_ | with_reducible refine far_cell ne1 ?_)))
          (first
            | (go_at_call 39; (with_reducible refine (without_q (M := MA) (.slice aa na ca) f _ (HR.out.grew W0).a HS.out.a HMA.out).mono ?_); rintro e_w3 w3 ⟨v3, rfl, R3, g1⟩
               obtain ⟨a3, c3, rfl⟩ := R3.len
               have HR3 := Lib.hid R3
               have hz3 : sx + 1 < w3.heap.size := by have := S.lt; have := g1.size; omega
               replace X := X.grew g1
               replace S := S.grew g1
               replace W0 := W0.trans g1
               clear g1 R3 x0 x1 x2 x3 x4 x5 s0 s1 s2 s3 s4 s5
               obtain ⟨x0, x1, x2, x3, x4, x5⟩ := X.three
               obtain ⟨s0, s1, s2, s3, s4, s5⟩ := S.three)
            | (go_at_call 39; (with_reducible refine (without_q (M := MI) (.slice ai ni ci) f _ (HR.out.grew W0).i HS.out.i HMI.out).mono ?_); rintro e_w4 w4 ⟨v4, rfl, R4, g1⟩
               obtain ⟨a4, c4, rfl⟩ := R4.len
               have HR4 := Lib.hid R4
               have hz4 : sx + 1 < w4.heap.size := by have := S.lt; have := g1.size; omega
               replace HR3 := Lib.hid (HR3.out.grew g1)
               replace X := X.grew g1
               replace S := S.grew g1
               replace W0 := W0.trans g1
               clear g1 R4 x0 x1 x2 x3 x4 x5 s0 s1 s2 s3 s4 s5
               obtain ⟨x0, x1, x2, x3, x4, x5⟩ := X.three
               obtain ⟨s0, s1, s2, s3, s4, s5⟩ := S.three)
            | (go_at_call 39; (with_reducible refine (without_q (M := MR) (.slice ar nr cr) f _ (HR.out.grew W0).r HS.out.r HMR.out).mono ?_); rintro e_w5 w5 ⟨v5, rfl, R5, g1⟩
               obtain ⟨a5, c5, rfl⟩ := R5.len
               have HR5 := Lib.hid R5
               have hz5 : sx + 1 < w5.heap.size := by have := S.lt; have := g1.size; omega
               replace HR3 := Lib.hid (HR3.out.grew g1)
               replace HR4 := Lib.hid (HR4.out.grew g1)
               replace X := X.grew g1
               replace S := S.grew g1
               replace W0 := W0.trans g1
               clear g1 R5 x0 x1 x2 x3 x4 x5 s0 s1 s2 s3 s4 s5
               obtain ⟨x0, x1, x2, x3, x4, x5⟩ := X.three
               obtain ⟨s0, s1, s2, s3, s4, s5⟩ := S.three))
        have hB2 : B ≤ sx := by have := HB.out; have := HSX.out; omega
        have hzB3 : sx + 1 < w2.drew.heap.size := hz2
        go_wp2
        generalize hw : World.setCell _ _ _ = wz
        have RR := S.store3 hw
        have gB := W0.far3 hw (by have := HSX.out; omega)
        obtain ⟨u0, u1, u2, u3, u4, u5⟩ := RR.three
        refine bodyPost_ret (v := .tuple #[lruV (.slice a3 MA.length c3) (.slice a4 MI.length c4) (.slice a5 MR.length c5), .int .i64 0]) (by simp [results, Try.results15, go_sem, u0, u1, u2]) rfl ⟨_, _, _, rfl, by rw [HX.out]; exact ⟨(HR3.out.far3 hw hzB3).wider (by omega), (HR4.out.far3 hw hz3).wider (by omega), (HR5.out.far3 hw hz4).wider (by omega)⟩, gB⟩
    · have he := remE_2 h0 hf
      have HX := Lib.hid (show remX x f = x from remX_e (by rw [he]; omega))
      rw [he]
      by_cases hf1 : f < 1
      · skip
        obtain ⟨x0, x1, x2, x3, x4, x5⟩ := X.three
        go_enter Try.func15, Try.ntmps15
        try rw [hsx]
        go_wp2_with fail
        with_reducible refine (check_v _ _ _ _ _ (HR.out.grew W0) HS.out h0).mono ?_
        rintro e_w1 w1 ⟨rfl, g1⟩
        replace X := X.grew g1
        replace S := S.grew g1
        replace W0 := W0.trans g1
        clear g1 x0 x1 x2 x3 x4 x5
        obtain ⟨x0, x1, x2, x3, x4, x5⟩ := X.three
        obtain ⟨s0, s1, s2, s3, s4, s5⟩ := S.three
        go_wp2
        generalize hw : World.setCell _ _ _ = wz
        have RR := S.store3 hw
        have gB := W0.far3 hw (by have := HSX.out; omega)
        obtain ⟨u0, u1, u2, u3, u4, u5⟩ := RR.three
        refine bodyPost_ret (v := .tuple #[lruV (.slice aa na ca) (.slice ai ni ci) (.slice ar nr cr), .int .i64 2]) (by simp [results, Try.results15, go_sem, u0, u1, u2]) rfl ⟨_, _, _, rfl, by rw [HX.out]; exact HR.out.grew gB, gB⟩
      · have hf2 : 64 < f := by omega
        clear hf
        obtain ⟨x0, x1, x2, x3, x4, x5⟩ := X.three
        go_enter Try.func15, Try.ntmps15
        try rw [hsx]
        go_wp2_with fail
        with_reducible refine (check_v _ _ _ _ _ (HR.out.grew W0) HS.out h0).mono ?_
        rintro e_w1 w1 ⟨rfl, g1⟩
        replace X := X.grew g1
        replace S := S.grew g1
        replace W0 := W0.trans g1
        clear g1 x0 x1 x2 x3 x4 x5
        obtain ⟨x0, x1, x2, x3, x4, x5⟩ := X.three
        obtain ⟨s0, s1, s2, s3, s4, s5⟩ := S.three
        go_wp2
        generalize hw : World.setCell _ _ _ = wz
        have RR := S.store3 hw
        have gB := W0.far3 hw (by have := HSX.out; omega)
        obtain ⟨u0, u1, u2, u3, u4, u5⟩ := RR.three
        refine bodyPost_ret (v := .tuple #[lruV (.slice aa na ca) (.slice ai ni ci) (.slice ar nr cr), .int .i64 2]) (by simp [results, Try.results15, go_sem, u0, u1, u2]) rfl ⟨_, _, _, rfl, by rw [HX.out]; exact HR.out.grew gB, gB⟩
set_option maxRecDepth 100000 in
set_option maxHeartbeats 16000000 in
theorem touch_any {B : Nat} (va vi vr : Value) (x : Lr) (f : Int) (w : World) (R : LrR w B va vi vr x) (hs : SmP x) (hB : B ≤ w.heap.size) : Calls Try.prog 17 #[lruV va vi vr, .int .i64 f] w (RetLE (touX x f) (remE x f) B w) := by
  obtain ⟨aa, ca, rfl⟩ := R.a.len
  obtain ⟨ai, ci, rfl⟩ := R.i.len
  obtain ⟨ar, cr, rfl⟩ := R.r.len
  obtain ⟨na, hna⟩ : ∃ na, x.a.length = na := ⟨_, rfl⟩
  obtain ⟨ni, hni⟩ : ∃ ni, x.i.length = ni := ⟨_, rfl⟩
  obtain ⟨nr, hnr⟩ : ∃ nr, x.r.length = nr := ⟨_, rfl⟩
  rw [hna, hni, hnr] at R ⊢
  clear hna hni hnr
  have W0 : Grew w ((w.alloc (.cells #[(.slice aa na ca), (.slice ai ni ci), (.slice ar nr cr)] 27)).alloc (.cells n3 27)) := ((Grew.refl w).alloc _).alloc _
  obtain ⟨sx, hsx⟩ : ∃ sx, w.heap.size = sx := ⟨_, rfl⟩
  have X : Own ((w.alloc (.cells #[(.slice aa na ca), (.slice ai ni ci), (.slice ar nr cr)] 27)).alloc (.cells n3 27)) sx 27 #[(.slice aa na ca), (.slice ai ni ci), (.slice ar nr cr)] := hsx ▸ (Own.new w 27 #[(.slice aa na ca), (.slice ai ni ci), (.slice ar nr cr)]).alloc _
  have S : Own ((w.alloc (.cells #[(.slice aa na ca), (.slice ai ni ci), (.slice ar nr cr)] 27)).alloc (.cells n3 27)) (sx + 1) 27 n3 := hsx ▸ Own.new2 w (.cells #[(.slice aa na ca), (.slice ai ni ci), (.slice ar nr cr)] 27) 27 n3
  have HR := Lib.hid R
  have HS := Lib.hid hs
  have HB := Lib.hid hB
  have HSX := Lib.hid hsx
  clear R hs
  cases h0 : okB x
  · have he := remE_1 (f := f) h0
    have HX := Lib.hid (show touX x f = x from touX_e (by rw [he]; omega))
    rw [he]
    obtain ⟨x0, x1, x2, x3, x4, x5⟩ := X.three
    go_enter Try.func17, Try.ntmps17
    try rw [hsx]
    go_wp2_with fail
    with_reducible refine (check_v _ _ _ _ _ (HR.out.grew W0) HS.out h0).mono ?_
    rintro e_w1 w1 ⟨rfl, g1⟩
    replace X := X.grew g1
    replace S := S.grew g1
    replace W0 := W0.trans g1
    clear g1 x0 x1 x2 x3 x4 x5
    obtain ⟨x0, x1, x2, x3, x4, x5⟩ := X.three
    obtain ⟨s0, s1, s2, s3, s4, s5⟩ := S.three
    go_wp2
    generalize hw : World.setCell _ _ _ = wz
    have RR := S.store3 hw
    have gB := W0.far3 hw (by have := HSX.out; omega)
    obtain ⟨u0, u1, u2, u3, u4, u5⟩ := RR.three
    refine bodyPost_ret (v := .tuple #[lruV (.slice aa na ca) (.slice ai ni ci) (.slice ar nr cr), .int .i64 1]) (by simp [results, Try.results17, go_sem, u0, u1, u2]) rfl ⟨_, _, _, rfl, by rw [HX.out]; exact HR.out.grew gB, gB⟩
  · by_cases hf : 1 ≤ f ∧ f ≤ 64
    · obtain ⟨f0, f1⟩ := id hf
      cases hi : inB x f
      · have he := remE_4 h0 hf hi
        have HX := Lib.hid (show touX x f = x from touX_e (by rw [he]; omega))
        rw [he]
        clear hf
        obtain ⟨x0, x1, x2, x3, x4, x5⟩ := X.three
        go_enter Try.func17, Try.ntmps17
        try rw [hsx]
        go_wp2_with fail
        with_reducible refine (check_v _ _ _ _ _ (HR.out.grew W0) HS.out h0).mono ?_
        rintro e_w1 w1 ⟨rfl, g1⟩
        replace X := X.grew g1
        replace S := S.grew g1
        replace W0 := W0.trans g1
        clear g1 x0 x1 x2 x3 x4 x5
        obtain ⟨x0, x1, x2, x3, x4, x5⟩ := X.three
        go_wp2_with fail
        with_reducible refine (has_v _ _ _ _ _ _ (HR.out.grew W0) HS.out hi).mono ?_
        rintro e_w2 w2 ⟨rfl, g1⟩
        replace X := X.grew g1
        replace S := S.grew g1
        replace W0 := W0.trans g1
        clear g1 x0 x1 x2 x3 x4 x5
        obtain ⟨x0, x1, x2, x3, x4, x5⟩ := X.three
        obtain ⟨s0, s1, s2, s3, s4, s5⟩ := S.three
        go_wp2
        generalize hw : World.setCell _ _ _ = wz
        have RR := S.store3 hw
        have gB := W0.far3 hw (by have := HSX.out; omega)
        obtain ⟨u0, u1, u2, u3, u4, u5⟩ := RR.three
        refine bodyPost_ret (v := .tuple #[lruV (.slice aa na ca) (.slice ai ni ci) (.slice ar nr cr), .int .i64 4]) (by simp [results, Try.results17, go_sem, u0, u1, u2]) rfl ⟨_, _, _, rfl, by rw [HX.out]; exact HR.out.grew gB, gB⟩
      · have he := remE_0 h0 hf hi
        rw [he]
        clear hf
        cases hfr : decide (f ∈ x.r)
        · skip
          have HX := Lib.hid (show touX x f = ⟨x.a, x.i, inl x.r f⟩ from by unfold touX; rw [if_pos he, hfr])
          obtain ⟨x0, x1, x2, x3, x4, x5⟩ := X.three
          go_enter Try.func17, Try.ntmps17
          try rw [hsx]
          go_wp2_with fail
          with_reducible refine (check_v _ _ _ _ _ (HR.out.grew W0) HS.out h0).mono ?_
          rintro e_w1 w1 ⟨rfl, g1⟩
          replace X := X.grew g1
          replace S := S.grew g1
          replace W0 := W0.trans g1
          clear g1 x0 x1 x2 x3 x4 x5
          obtain ⟨x0, x1, x2, x3, x4, x5⟩ := X.three
          go_wp2_with fail
          with_reducible refine (has_v _ _ _ _ _ _ (HR.out.grew W0) HS.out hi).mono ?_
          rintro e_w2 w2 ⟨rfl, g1⟩
          replace X := X.grew g1
          replace S := S.grew g1
          replace W0 := W0.trans g1
          clear g1 x0 x1 x2 x3 x4 x5
          obtain ⟨x0, x1, x2, x3, x4, x5⟩ := X.three
          go_wp2_with fail
          with_reducible refine (at_w (.slice ar nr cr) f _ (HR.out.grew W0).r HS.out.r hfr).mono ?_
          rintro e_w3 w3 ⟨zw3, rfl, -, hz, rfl⟩
          have hz1 : zw3 < 0 := Int.not_le.1 fun h => absurd (hz.1 h) (by simp)
          have hz2 : ¬0 ≤ zw3 := by omega
          clear hz
          obtain ⟨MR, hMR⟩ : ∃ MR, inl x.r f = MR := ⟨_, rfl⟩
          have HMR := Lib.hid hMR
          rw [hMR] at HX
          clear hMR
          go_wp2_with fail
          with_reducible refine (insert_q (M := MR) (.slice ar nr cr) f _ (HR.out.grew W0).r HS.out.r HMR.out).mono ?_
          rintro e_w3 w3 ⟨v3, rfl, R3, g1⟩
          have hs2 : sx + 1 < w2.heap.size := S.lt
          obtain ⟨a3, c3, rfl⟩ := R3.len
          have HR3 := Lib.hid R3
          clear R3
          replace X := X.grew g1
          replace S := S.grew g1
          replace W0 := W0.trans g1
          clear g1 x0 x1 x2 x3 x4 x5
          obtain ⟨x0, x1, x2, x3, x4, x5⟩ := X.three
          go_upto_region 11 with fail
          replace X := X.set 2 (.slice a3 MR.length c3)
          replace S := S.far (p := ⟨sx, 2, none⟩) (show sx + 1 ≠ sx by omega) (.slice a3 MR.length c3)
          replace W0 := W0.set (p := ⟨sx, 2, none⟩) (show w.heap.size ≤ sx by have := HSX.out; omega) (.slice a3 MR.length c3)
          have R4 := RowE.put1 (i := 2) (u := .slice a3 MR.length c3) HR3.out (show sx < w2.heap.size by omega)
          clear HR3 x0 x1 x2 x3 x4 x5
          generalize World.setCell w3 _ _ = w4 at *
          have HR4 := Lib.hid R4
          clear R4
          obtain ⟨x0, x1, x2, x3, x4, x5⟩ := (show Own w4 sx 27 #[(.slice aa na ca), (.slice ai ni ci), .slice a3 MR.length c3] from X).three
          obtain ⟨s0, s1, s2, s3, s4, s5⟩ := S.three
          go_wp2
          generalize hw : World.setCell _ _ _ = wz
          have RR := S.store3 hw
          have gB := W0.far3 hw (by have := HSX.out; omega)
          obtain ⟨u0, u1, u2, u3, u4, u5⟩ := RR.three
          refine bodyPost_ret (v := .tuple #[lruV (.slice aa na ca) (.slice ai ni ci) (.slice a3 MR.length c3), .int .i64 0]) (by simp [results, Try.results17, go_sem, u0, u1, u2]) rfl ⟨_, _, _, rfl, by rw [HX.out]; exact ⟨(HR.out.grew gB).a, (HR.out.grew gB).i, (HR4.out.far3 hw (show sx + 1 < w2.heap.size by omega)).wider (by have := HB.out; have := HSX.out; omega)⟩, gB⟩
        · cases hfi : decide (f ∈ x.i)
          · skip
            have HX := Lib.hid (show touX x f = x from by unfold touX; rw [if_pos he, hfr, hfi])
            obtain ⟨x0, x1, x2, x3, x4, x5⟩ := X.three
            go_enter Try.func17, Try.ntmps17
            try rw [hsx]
            go_wp2_with fail
            with_reducible refine (check_v _ _ _ _ _ (HR.out.grew W0) HS.out h0).mono ?_
            rintro e_w1 w1 ⟨rfl, g1⟩
            replace X := X.grew g1
            replace S := S.grew g1
            replace W0 := W0.trans g1
            clear g1 x0 x1 x2 x3 x4 x5
            obtain ⟨x0, x1, x2, x3, x4, x5⟩ := X.three
            go_wp2_with fail
            with_reducible refine (has_v _ _ _ _ _ _ (HR.out.grew W0) HS.out hi).mono ?_
            rintro e_w2 w2 ⟨rfl, g1⟩
            replace X := X.grew g1
            replace S := S.grew g1
            replace W0 := W0.trans g1
            clear g1 x0 x1 x2 x3 x4 x5
            obtain ⟨x0, x1, x2, x3, x4, x5⟩ := X.three
            go_wp2_with fail
            with_reducible refine (at_w (.slice ar nr cr) f _ (HR.out.grew W0).r HS.out.r hfr).mono ?_
            rintro e_w3 w3 ⟨zw3, rfl, -, hz, rfl⟩
            have hz1 : 0 ≤ zw3 := hz.2 rfl
            have hz2 : ¬zw3 < 0 := by omega
            clear hz
            go_wp2_with fail
            with_reducible refine (at_w (.slice ai ni ci) f _ (HR.out.grew W0).i HS.out.i hfi).mono ?_
            rintro e_w4 w4 ⟨zw4, rfl, -, hz, rfl⟩
            have hz1 : zw4 < 0 := Int.not_le.1 fun h => absurd (hz.1 h) (by simp)
            have hz2 : ¬0 ≤ zw4 := by omega
            clear hz
            obtain ⟨s0, s1, s2, s3, s4, s5⟩ := S.three
            go_wp2
            generalize hw : World.setCell _ _ _ = wz
            have RR := S.store3 hw
            have gB := W0.far3 hw (by have := HSX.out; omega)
            obtain ⟨u0, u1, u2, u3, u4, u5⟩ := RR.three
            refine bodyPost_ret (v := .tuple #[lruV (.slice aa na ca) (.slice ai ni ci) (.slice ar nr cr), .int .i64 0]) (by simp [results, Try.results17, go_sem, u0, u1, u2]) rfl ⟨_, _, _, rfl, by rw [HX.out]; exact HR.out.grew gB, gB⟩
          · skip
            have HX := Lib.hid (show touX x f = ⟨f :: x.a, wol x.i f, wol x.r f⟩ from by unfold touX; rw [if_pos he, hfr, hfi])
            obtain ⟨MA, hMA⟩ : ∃ MA, f :: x.a = MA := ⟨_, rfl⟩
            obtain ⟨MI, hMI⟩ : ∃ MI, wol x.i f = MI := ⟨_, rfl⟩
            obtain ⟨MR, hMR⟩ : ∃ MR, wol x.r f = MR := ⟨_, rfl⟩
            have HMA := Lib.hid hMA
            have HMI := Lib.hid hMI
            have HMR := Lib.hid hMR
            rw [hMA, hMI, hMR] at HX
            clear hMI hMR
            obtain ⟨x0, x1, x2, x3, x4, x5⟩ := X.three
            go_enter Try.func17, Try.ntmps17
            try rw [hsx]
            go_upto_block 0 with fail
            go_cut [] from 6 to 54 (TouCut w sx MA MI MR)
            case first =>
              go_wp2_with fail
              with_reducible refine (check_v _ _ _ _ _ (HR.out.grew W0) HS.out h0).mono ?_
              rintro e_w1 w1 ⟨rfl, g1⟩
              replace X := X.grew g1
              replace S := S.grew g1
              replace W0 := W0.trans g1
              clear g1 x0 x1 x2 x3 x4 x5
              obtain ⟨x0, x1, x2, x3, x4, x5⟩ := X.three
              go_wp2_with fail
              with_reducible refine (has_v _ _ _ _ _ _ (HR.out.grew W0) HS.out hi).mono ?_
              rintro e_w2 w2 ⟨rfl, g1⟩
              replace X := X.grew g1
              replace S := S.grew g1
              replace W0 := W0.trans g1
              clear g1 x0 x1 x2 x3 x4 x5
              obtain ⟨x0, x1, x2, x3, x4, x5⟩ := X.three
              go_wp2_with fail
              with_reducible refine (at_w (.slice ar nr cr) f _ (HR.out.grew W0).r HS.out.r hfr).mono ?_
              rintro e_w3 w3 ⟨zw3, rfl, -, hz, rfl⟩
              have hz1 : 0 ≤ zw3 := hz.2 rfl
              have hz2 : ¬zw3 < 0 := by omega
              clear hz
              go_wp2_with fail
              with_reducible refine (at_w (.slice ai ni ci) f _ (HR.out.grew W0).i HS.out.i hfi).mono ?_
              rintro e_w4 w4 ⟨zw4, rfl, -, hz, rfl⟩
              have hz1 : 0 ≤ zw4 := hz.2 rfl
              have hz2 : ¬zw4 < 0 := by omega
              clear hz
              go_upto_region 10 with fail
              have hz2 : sx + 1 < w2.heap.size := S.lt
              replace X := X.drew
              replace S := S.drew
              replace W0 := W0.drew
              clear x0 x1 x2 x3 x4 x5
              obtain ⟨x0, x1, x2, x3, x4, x5⟩ := X.three
              obtain ⟨s0, s1, s2, s3, s4, s5⟩ := S.three
              have ne1 : sx + 1 ≠ sx := by omega
              go_region_with
              (first
                | (go_at_call 36; (with_reducible refine (front_v (M := MA) (.slice aa na ca) f _ (HR.out.grew W0).a HS.out.a HMA.out).mono ?_); rintro e_w3 w3 ⟨v3, rfl, R3, g1⟩
                   obtain ⟨a3, c3, rfl⟩ := R3.len
                   have HR3 := Lib.hid R3
                   have hz3 : sx + 1 < w3.heap.size := by have := S.lt; have := g1.size; omega
                   replace X := X.grew g1
                   replace S := S.grew g1
                   replace W0 := W0.trans g1
                   clear g1 R3 x0 x1 x2 x3 x4 x5 s0 s1 s2 s3 s4 s5
                   obtain ⟨x0, x1, x2, x3, x4, x5⟩ := X.three
                   obtain ⟨s0, s1, s2, s3, s4, s5⟩ := S.three)
                | (go_at_call 39; (with_reducible refine (without_q (M := MI) (.slice ai ni ci) f _ (HR.out.grew W0).i HS.out.i HMI.out).mono ?_); rintro e_w4 w4 ⟨v4, rfl, R4, g1⟩
                   obtain ⟨a4, c4, rfl⟩ := R4.len
                   have HR4 := Lib.hid R4
                   have hz4 : sx + 1 < w4.heap.size := by have := S.lt; have := g1.size; omega
                   replace HR3 := Lib.hid (HR3.out.grew g1)
                   replace X := X.grew g1
                   replace S := S.grew g1
                   replace W0 := W0.trans g1
                   clear g1 R4 x0 x1 x2 x3 x4 x5 s0 s1 s2 s3 s4 s5
                   obtain ⟨x0, x1, x2, x3, x4, x5⟩ := X.three
                   obtain ⟨s0, s1, s2, s3, s4, s5⟩ := S.three)
                | (go_at_call 39; (with_reducible refine (without_q (M := MR) (.slice ar nr cr) f _ (HR.out.grew W0).r HS.out.r HMR.out).mono ?_); rintro e_w5 w5 ⟨v5, rfl, R5, g1⟩
                   obtain ⟨a5, c5, rfl⟩ := R5.len
                   have HR5 := Lib.hid R5
                   have hz5 : sx + 1 < w5.heap.size := by have := S.lt; have := g1.size; omega
                   replace HR3 := Lib.hid (HR3.out.grew g1)
                   replace HR4 := Lib.hid (HR4.out.grew g1)
                   replace X := X.grew g1
                   replace S := S.grew g1
                   replace W0 := W0.trans g1
                   clear g1 R5 x0 x1 x2 x3 x4 x5 s0 s1 s2 s3 s4 s5
                   obtain ⟨x0, x1, x2, x3, x4, x5⟩ := X.three
                   obtain ⟨s0, s1, s2, s3, s4, s5⟩ := S.three))
              all_goals (first | go_wp2 | skip)
              all_goals go_meet
              all_goals
                generalize hw10 : World.setCell (World.setCell (World.setCell _ _ _) _ _) _ _ = wt
                have hzB3 : sx + 2 ≤ w2.drew.heap.size := hz2
                exact ⟨_, _, _, _, _, _, X.store3 hw10, S.far3 hw10 (show sx + 1 ≠ sx by omega), (HR3.out.far3 hw10 (show sx < w2.drew.heap.size by omega)).wider hzB3, (HR4.out.far3 hw10 (show sx < w3.heap.size by omega)).wider hz3, (HR5.out.far3 hw10 (show sx < w4.heap.size by omega)).wider hz4, W0.far3 hw10 (by have := HSX.out; omega)⟩
            case rest =>
            clear X S W0 x0 x1 x2 x3 x4 x5
            obtain ⟨a3, c3, a4, c4, a5, c5, X, S, K3, K4, K5, W0⟩ := hcut
            have HK3 := Lib.hid K3
            have HK4 := Lib.hid K4
            have HK5 := Lib.hid K5
            have hB2 : B ≤ sx := by have := HB.out; have := HSX.out; omega
            clear K3 K4 K5
            obtain ⟨x0, x1, x2, x3, x4, x5⟩ := X.three
            obtain ⟨s0, s1, s2, s3, s4, s5⟩ := S.three
            go_wp2
            generalize hw : World.setCell _ _ _ = wz
            have RR := S.store3 hw
            have gB := W0.far3 hw (by have := HSX.out; omega)
            obtain ⟨u0, u1, u2, u3, u4, u5⟩ := RR.three
            refine bodyPost_ret (v := .tuple #[lruV (.slice a3 MA.length c3) (.slice a4 MI.length c4) (.slice a5 MR.length c5), .int .i64 0]) (by simp [results, Try.results17, go_sem, u0, u1, u2]) rfl ⟨_, _, _, rfl, by rw [HX.out]; exact ⟨(HK3.out.far3 hw (by omega)).wider (by omega), (HK4.out.far3 hw (by omega)).wider (by omega), (HK5.out.far3 hw (by omega)).wider (by omega)⟩, gB⟩
    · have he := remE_2 h0 hf
      have HX := Lib.hid (show touX x f = x from touX_e (by rw [he]; omega))
      rw [he]
      by_cases hf1 : f < 1
      · skip
        obtain ⟨x0, x1, x2, x3, x4, x5⟩ := X.three
        go_enter Try.func17, Try.ntmps17
        try rw [hsx]
        go_wp2_with fail
        with_reducible refine (check_v _ _ _ _ _ (HR.out.grew W0) HS.out h0).mono ?_
        rintro e_w1 w1 ⟨rfl, g1⟩
        replace X := X.grew g1
        replace S := S.grew g1
        replace W0 := W0.trans g1
        clear g1 x0 x1 x2 x3 x4 x5
        obtain ⟨x0, x1, x2, x3, x4, x5⟩ := X.three
        obtain ⟨s0, s1, s2, s3, s4, s5⟩ := S.three
        go_wp2
        generalize hw : World.setCell _ _ _ = wz
        have RR := S.store3 hw
        have gB := W0.far3 hw (by have := HSX.out; omega)
        obtain ⟨u0, u1, u2, u3, u4, u5⟩ := RR.three
        refine bodyPost_ret (v := .tuple #[lruV (.slice aa na ca) (.slice ai ni ci) (.slice ar nr cr), .int .i64 2]) (by simp [results, Try.results17, go_sem, u0, u1, u2]) rfl ⟨_, _, _, rfl, by rw [HX.out]; exact HR.out.grew gB, gB⟩
      · have hf2 : 64 < f := by omega
        clear hf
        obtain ⟨x0, x1, x2, x3, x4, x5⟩ := X.three
        go_enter Try.func17, Try.ntmps17
        try rw [hsx]
        go_wp2_with fail
        with_reducible refine (check_v _ _ _ _ _ (HR.out.grew W0) HS.out h0).mono ?_
        rintro e_w1 w1 ⟨rfl, g1⟩
        replace X := X.grew g1
        replace S := S.grew g1
        replace W0 := W0.trans g1
        clear g1 x0 x1 x2 x3 x4 x5
        obtain ⟨x0, x1, x2, x3, x4, x5⟩ := X.three
        obtain ⟨s0, s1, s2, s3, s4, s5⟩ := S.three
        go_wp2
        generalize hw : World.setCell _ _ _ = wz
        have RR := S.store3 hw
        have gB := W0.far3 hw (by have := HSX.out; omega)
        obtain ⟨u0, u1, u2, u3, u4, u5⟩ := RR.three
        refine bodyPost_ret (v := .tuple #[lruV (.slice aa na ca) (.slice ai ni ci) (.slice ar nr cr), .int .i64 2]) (by simp [results, Try.results17, go_sem, u0, u1, u2]) rfl ⟨_, _, _, rfl, by rw [HX.out]; exact HR.out.grew gB, gB⟩
end Go.Proofs.Yteaofieijginhaa

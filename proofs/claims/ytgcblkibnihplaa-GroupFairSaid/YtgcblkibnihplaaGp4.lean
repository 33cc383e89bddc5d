/- The program's groups (layer 11): withOneMore. -/
import Derived.Test.YtgcblkibnihplaaGp3
namespace Go.Proofs.Ytgcblkibnihplaa
open Go.RowKit Go.Mine

/-- The end of withOneMore: its result is stored and read. -/
theorem pc_out {w w0 : World} {g : Nat} {o q : Nat → Int} (R : Own w g 47 (pcA q)) (G : Grew w0 w) (hg : w0.heap.size ≤ g) :
    Own ((((w.setCell ⟨g, 0, none⟩ (.int .i64 (o 0))).setCell ⟨g, 1, none⟩ (.int .i64 (o 1))).setCell ⟨g, 2, none⟩ (.int .i64 (o 2))).setCell ⟨g, 3, none⟩ (.int .i64 (o 3))) g 47 (pcA o) ∧
    Grew w0 ((((w.setCell ⟨g, 0, none⟩ (.int .i64 (o 0))).setCell ⟨g, 1, none⟩ (.int .i64 (o 1))).setCell ⟨g, 2, none⟩ (.int .i64 (o 2))).setCell ⟨g, 3, none⟩ (.int .i64 (o 3))) :=
  ⟨(((R.set 0 (.int .i64 (o 0))).set 1 (.int .i64 (o 1))).set 2 (.int .i64 (o 2))).set 3 (.int .i64 (o 3)),
    (((G.set (p := ⟨g, 0, none⟩) hg _).set (p := ⟨g, 1, none⟩) hg _).set (p := ⟨g, 2, none⟩) hg _).set (p := ⟨g, 3, none⟩) hg _⟩
set_option maxRecDepth 100000 in
set_option maxHeartbeats 4000000 in
theorem more_p {B : Nat} {v : Value} {L : List Gp} {o : Nat → Int} {w : World} (h : RowE 33 3 encG w B v L) (hok : okG L = true) (ho : ∀ i, i < 4 → 0 ≤ o i ∧ o i ≤ 64) :
    Calls Try.prog 21 #[pcV o, v] w (RetG (pcV (nxD (excF L) (chgF L) L.length o)) w) := by
  have hn4 : L.length ≤ 4 := (okG_iff.1 hok).1.2
  have P0 := (Own.new w 47 (pcA o)).alloc (.cells (pcA fun _ => 0) 47)
  have R0 := Own.new2 w (.cells (pcA o) 47) 47 (pcA fun _ => 0)
  have HG0 := Lib.hid (((Grew.refl w).alloc (.cells (pcA o) 47)).alloc (.cells (pcA fun _ => 0) 47))
  have HH := Lib.hid ((h.alloc (.cells (pcA o) 47)).alloc (.cells (pcA fun _ => 0) 47))
  have HO := Lib.hid ho
  rcases bsD_is (fun i => excF L i - o i) L.length with ⟨h1, -⟩ | ⟨b, hb, h1, h2, -⟩
  · have HE := Lib.hid h1
    rcases bsD_is (fun i => chgF L i - o i) L.length with ⟨h4, -⟩ | ⟨b, hb, h4, h5, -⟩
    · have HC := Lib.hid h4
      have HX := Lib.hid (nxD_N h1 h4)
      clear h h1 h4 ho
      try clear h5
      generalize nxD (excF L) (chgF L) L.length o = o' at *
      go_enter Try.func21, Try.ntmps21
      go_upto_region 1 with fail
      generalize World.alloc (World.alloc w _) _ = w1 at *
      generalize hsz : w.heap.size = sz at *
      have HSZ := Lib.hid hsz
      clear hsz
      obtain ⟨p0, p1, p2, p3, -, -, -, -⟩ := P0.four
      have l_P := P0.lt
      have l_R := R0.lt
      go_wp2_with fail
      with_reducible refine (richE_p HH.out hok HO.out).mono ?_
      intro e w2 hr
      obtain ⟨rfl, g2⟩ := hr.none HE.out
      have HH2 := Lib.hid (HH.out.grew g2)
      have HG2 := Lib.hid (HG0.out.trans g2)
      replace P0 := P0.grew g2
      replace R0 := R0.grew g2
      clear p0 p1 p2 p3 hr g2 HH HG0
      obtain ⟨p0, p1, p2, p3, q0, q1, q2, q3⟩ := P0.four
      obtain ⟨r0, r1, r2, r3, s0, s1, s2, s3⟩ := R0.four
      have l_P := P0.lt
      have l_R := R0.lt
      go_wp2_with fail
      with_reducible refine (richC_p HH2.out hok HO.out).mono ?_
      intro e w3 hr
      obtain ⟨rfl, g3⟩ := hr.none HC.out
      have HG3 := Lib.hid (HG2.out.trans g3)
      replace P0 := P0.grew g3
      replace R0 := R0.grew g3
      clear p0 p1 p2 p3 q0 q1 q2 q3 r0 r1 r2 r3 s0 s1 s2 s3 hr g3 HH2 HG2
      obtain ⟨p0, p1, p2, p3, q0, q1, q2, q3⟩ := P0.four
      obtain ⟨r0, r1, r2, r3, s0, s1, s2, s3⟩ := R0.four
      have l_P := P0.lt
      have l_R := R0.lt
      go_wp2
      obtain ⟨Rz, Gz⟩ := pc_out (o := o) R0 HG3.out (by rw [HSZ.out]; exact Nat.le_succ _)
      clear p0 p1 p2 p3 q0 q1 q2 q3 r0 r1 r2 r3 s0 s1 s2 s3
      rw [HX.out]
      generalize World.setCell (World.setCell (World.setCell (World.setCell _ _ _) _ _) _ _) _ _ = wz at *
      obtain ⟨r0, r1, r2, r3, -, -, -, -⟩ := Rz.four
      refine bodyPost_ret (v := pcV o) (by simp [results, Try.results21, go_sem, r0, r1, r2, r3]) rfl ⟨rfl, Gz⟩
    · have HC := Lib.hid h4
      have HX := Lib.hid (nxD_C h1 h4)
      have H5 := Lib.hid h5
      clear h h1 h4 ho
      try clear h5
      generalize nxD (excF L) (chgF L) L.length o = o' at *
      go_enter Try.func21, Try.ntmps21
      go_upto_region 1 with fail
      generalize World.alloc (World.alloc w _) _ = w1 at *
      generalize hsz : w.heap.size = sz at *
      have HSZ := Lib.hid hsz
      clear hsz
      obtain ⟨p0, p1, p2, p3, -, -, -, -⟩ := P0.four
      have l_P := P0.lt
      have l_R := R0.lt
      go_wp2_with fail
      with_reducible refine (richE_p HH.out hok HO.out).mono ?_
      intro e w2 hr
      obtain ⟨rfl, g2⟩ := hr.none HE.out
      have HH2 := Lib.hid (HH.out.grew g2)
      have HG2 := Lib.hid (HG0.out.trans g2)
      replace P0 := P0.grew g2
      replace R0 := R0.grew g2
      clear p0 p1 p2 p3 hr g2 HH HG0
      obtain ⟨p0, p1, p2, p3, q0, q1, q2, q3⟩ := P0.four
      obtain ⟨r0, r1, r2, r3, s0, s1, s2, s3⟩ := R0.four
      have l_P := P0.lt
      have l_R := R0.lt
      go_wp2_with fail
      with_reducible refine (richC_p HH2.out hok HO.out).mono ?_
      intro e w3 hr
      obtain ⟨rfl, g3⟩ := hr.some HC.out H5.out
      have HG3 := Lib.hid (HG2.out.trans g3)
      replace P0 := P0.grew g3
      replace R0 := R0.grew g3
      clear p0 p1 p2 p3 q0 q1 q2 q3 r0 r1 r2 r3 s0 s1 s2 s3 hr g3 HH2 HG2
      obtain ⟨p0, p1, p2, p3, q0, q1, q2, q3⟩ := P0.four
      obtain ⟨r0, r1, r2, r3, s0, s1, s2, s3⟩ := R0.four
      have l_P := P0.lt
      have l_R := R0.lt
      have hb4 : b < 4 := by omega
      have hb0 : (0 : Int) ≤ (b : Int) := by omega
      have hb3 : (b : Int) < 4 := by omega
      obtain ⟨ob0, ob1⟩ := HO.out b hb4
      have pb := (P0.cell b).trans (pc_at hb4)
      have qb := P0.frozen b
      have HI := Lib.hid (pc_inc (o := o) hb4)
      clear p0 p1 p2 p3
      go_upto_region 6 with fail
      have P1 : Own _ sz 47 ((pcA o).setIfInBounds b (.int .i64 (o b + 1))) := P0.set b _
      rw [HI.out] at P1
      have R1 := R0.far (p := ⟨sz, b, none⟩) (by simp) (.int .i64 (o b + 1))
      have hwz : w.heap.size ≤ sz := Nat.le_of_eq HSZ.out
      have G1 := HG3.out.set (p := ⟨sz, b, none⟩) hwz (.int .i64 (o b + 1))
      clear pb qb q0 q1 q2 q3 r0 r1 r2 r3 s0 s1 s2 s3
      clear hwz
      generalize World.setCell _ ⟨sz, b, none⟩ _ = w9 at *
      have HGZ := Lib.hid G1
      clear G1
      obtain ⟨p0, p1, p2, p3, q0, q1, q2, q3⟩ := P1.four
      obtain ⟨r0, r1, r2, r3, s0, s1, s2, s3⟩ := R1.four
      have l_P9 := P1.lt
      have l_R9 := R1.lt
      go_wp2
      obtain ⟨Rz, Gz⟩ := pc_out (o := (incD o b)) R1 HGZ.out (by rw [HSZ.out]; exact Nat.le_succ _)
      clear p0 p1 p2 p3 q0 q1 q2 q3 r0 r1 r2 r3 s0 s1 s2 s3
      rw [HX.out]
      generalize World.setCell (World.setCell (World.setCell (World.setCell _ _ _) _ _) _ _) _ _ = wz at *
      obtain ⟨r0, r1, r2, r3, -, -, -, -⟩ := Rz.four
      refine bodyPost_ret (v := pcV (incD o b)) (by simp [results, Try.results21, go_sem, r0, r1, r2, r3]) rfl ⟨rfl, Gz⟩
  · have HC := Lib.hid h1
    have HX := Lib.hid (nxD_E (C := chgF L) h1)
    have H5 := Lib.hid h2
    clear h h1 h2 ho
    generalize nxD (excF L) (chgF L) L.length o = o' at *
    go_enter Try.func21, Try.ntmps21
    go_upto_region 1 with fail
    generalize World.alloc (World.alloc w _) _ = w1 at *
    generalize hsz : w.heap.size = sz at *
    have HSZ := Lib.hid hsz
    clear hsz
    obtain ⟨p0, p1, p2, p3, -, -, -, -⟩ := P0.four
    have l_P := P0.lt
    have l_R := R0.lt
    go_wp2_with fail
    with_reducible refine (richE_p HH.out hok HO.out).mono ?_
    intro e w2 hr
    obtain ⟨rfl, g2⟩ := hr.some HC.out H5.out
    have HH2 := Lib.hid (HH.out.grew g2)
    have HG2 := Lib.hid (HG0.out.trans g2)
    replace P0 := P0.grew g2
    replace R0 := R0.grew g2
    clear p0 p1 p2 p3 hr g2 HH HG0
    obtain ⟨p0, p1, p2, p3, q0, q1, q2, q3⟩ := P0.four
    obtain ⟨r0, r1, r2, r3, s0, s1, s2, s3⟩ := R0.four
    have l_P := P0.lt
    have l_R := R0.lt
    have hb4 : b < 4 := by omega
    have hb0 : (0 : Int) ≤ (b : Int) := by omega
    have hb3 : (b : Int) < 4 := by omega
    obtain ⟨ob0, ob1⟩ := HO.out b hb4
    have pb := (P0.cell b).trans (pc_at hb4)
    have qb := P0.frozen b
    have HI := Lib.hid (pc_inc (o := o) hb4)
    clear p0 p1 p2 p3
    go_upto_region 6 with fail
    have P1 : Own _ sz 47 ((pcA o).setIfInBounds b (.int .i64 (o b + 1))) := P0.set b _
    rw [HI.out] at P1
    have R1 := R0.far (p := ⟨sz, b, none⟩) (by simp) (.int .i64 (o b + 1))
    have hwz : w.heap.size ≤ sz := Nat.le_of_eq HSZ.out
    have G1 := HG2.out.set (p := ⟨sz, b, none⟩) hwz (.int .i64 (o b + 1))
    clear pb qb q0 q1 q2 q3 r0 r1 r2 r3 s0 s1 s2 s3
    clear hwz
    generalize World.setCell _ ⟨sz, b, none⟩ _ = w9 at *
    have HGZ := Lib.hid G1
    clear G1
    obtain ⟨p0, p1, p2, p3, q0, q1, q2, q3⟩ := P1.four
    obtain ⟨r0, r1, r2, r3, s0, s1, s2, s3⟩ := R1.four
    have l_P9 := P1.lt
    have l_R9 := R1.lt
    go_wp2
    obtain ⟨Rz, Gz⟩ := pc_out (o := (incD o b)) R1 HGZ.out (by rw [HSZ.out]; exact Nat.le_succ _)
    clear p0 p1 p2 p3 q0 q1 q2 q3 r0 r1 r2 r3 s0 s1 s2 s3
    rw [HX.out]
    generalize World.setCell (World.setCell (World.setCell (World.setCell _ _ _) _ _) _ _) _ _ = wz at *
    obtain ⟨r0, r1, r2, r3, -, -, -, -⟩ := Rz.four
    refine bodyPost_ret (v := pcV (incD o b)) (by simp [results, Try.results21, go_sem, r0, r1, r2, r3]) rfl ⟨rfl, Gz⟩
end Go.Proofs.Ytgcblkibnihplaa

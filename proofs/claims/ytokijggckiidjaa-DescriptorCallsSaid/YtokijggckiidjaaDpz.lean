/- Fork, Update of the program (layer 18). mkdpa.py writes this text. -/
import Derived.Test.YtokijggckiidjaaDp9
namespace Go.Mine
open Go Go.RowKit
/-- A whole row is copied into one of the same length. -/
theorem TbK.copyT {Ts Ti : TypeId} {w : World} {B : Nat} {v : Value} {G C : Nat → Nat} {T : List (List Int)} (h : TbK Ts Ti w B v G C T) {b : Nat} (hb : b < T.length) {L : List Int} (hl : (T.getD b []).length = L.length) : TbK Ts Ti (w.setCells (G b) 0 (L.flatMap enc1)) B v G C (T.set b L) := by
  have g := copy_grown w (G b) (L.flatMap enc1)
  have hrow : ∀ k, k < T.length → ((T.set b L).getD k []).length = (T.getD k []).length := fun k hk => by
    by_cases e : k = b
    · subst e; simp [List.getD, hk] at *; exact hl.symm
    · simp only [List.getD]; rw [List.getElem?_set, if_neg (Ne.symm e)]
  have hll : (T.set b L).length = T.length := List.length_set
  refine ⟨by rw [slL_congr hll hrow]; exact h.row.keptG g (fun x e => by injection e with e; subst e; exact h.far b hb), fun k hk => ?_, fun k hk => h.far k (by rwa [hll] at hk), fun k hk j hj => h.inj k (by rwa [hll] at hk) j (by rwa [hll] at hj)⟩
  rw [hll] at hk
  rw [hrow k hk]
  by_cases e : k = b
  · subst e
    have e2 : (T.set k L).getD k [] = L := by simp [List.getD, hk]
    rw [e2]
    exact copy_row hl (h.inn k hk)
  · have e2 : (T.set b L).getD k [] = T.getD k [] := by simp only [List.getD]; rw [List.getElem?_set, if_neg (Ne.symm e)]
    rw [e2]
    exact (h.inn k hk).keptG g (fun x e3 e4 => by
      injection e3 with e3
      subst e3
      have e5 : some (G k) = some (G b) := e4
      injection e5 with e5
      exact e (h.inj b hb k hk e5))
theorem PrW.copyT {w wr : World} {T To Ts Ti : TypeId} {B go : Nat} {a b a' b' : Value} {G C : Nat → Nat} {d' : Dd} (h : PrW w T To Ts Ti B go a b a' b' G C d' wr) {q : Nat} (hq : q < d'.t.length) {L : List Int} (hl : (d'.t.getD q []).length = L.length) :
    PrW w T To Ts Ti B go a b a' b' G C ⟨d'.t.set q L, d'.o⟩ (wr.setCells (G q) 0 (L.flatMap enc1)) := by
  have g := copy_grown wr (G q) (L.flatMap enc1)
  have h1 := (h.ou.k.t.above hq).1
  have h2 := h.ou.lo
  have n1 : go ≠ G q := fun e => h.ou.no.g q hq e.symm
  refine ⟨h.dbox.keptN g (fun e => by injection e with e; omega), h.ou.res.keptN g (fun e => by injection e with e; omega), h.ou.box.keptN g (fun e => by injection e with e; exact n1 e.symm), ⟨h.ou.k.o.keptG g (fun x e e2 => ?_), h.ou.k.t.copyT hq hl, h.ou.k.s1, fun x e k hk => h.ou.k.s2 x e k (by rwa [List.length_set] at hk)⟩, ⟨h.ou.no.a, h.ou.no.b, fun k hk => h.ou.no.g k (by rwa [List.length_set] at hk)⟩, h.ou.g.past g (by omega), h2, h.ou.bo⟩
  injection e with e
  subst e
  exact h.ou.k.s2 _ e2 q hq rfl
theorem PrW.storeO {w wr : World} {T To Ts Ti : TypeId} {B go : Nat} {a b b' : Value} {G C : Nat → Nat} {d' : Dd} {g n c : Nat} (h : PrW w T To Ts Ti B go a b (.slice (some ⟨g, 0, none⟩) n c) b' G C d' wr) {k j : Nat} (hk : k < d'.o.length) (hj : j < 5) {x : Value} {y : Ds} (hy : encDs y = (encDs (d'.o.getD k zDs)).set j x) :
    PrW w T To Ts Ti B go a b (.slice (some ⟨g, 0, none⟩) n c) b' G C ⟨d'.t, d'.o.set k y⟩ (wr.setCell ⟨g, k * 5 + j, none⟩ x) := by
  have h1 := h.ou.k.o.above g rfl
  have h2 := h.ou.lo
  exact ⟨h.dbox.far (p := ⟨g, k * 5 + j, none⟩) (show w.heap.size ≠ g by omega) _, h.ou.storeO hk hj hy⟩
theorem tkI {L : List Int} {i : Nat} (h : i < L.length) : L.take (i + 1) = L.take i ++ [L.getD i 0] := by rw [getD_get h, List.take_append_getElem h]
theorem frkD_err {d : Dd} {p q : Int} (h : (frkD d p q).2 ≠ 0) : frkD d p q = (d, (frkD d p q).2) := by
  cases h1 : okD d
  · rw [frkD_1 h1]
  by_cases hp : (0 ≤ p ∧ p ≤ (d.t.length : Int) - 1) ∧ (0 ≤ q ∧ q ≤ (d.t.length : Int) - 1) ∧ p ≠ q
  · obtain ⟨an, rfl⟩ : ∃ n : Nat, p = n := ⟨p.toNat, by omega⟩
    obtain ⟨bn, rfl⟩ : ∃ n : Nat, q = n := ⟨q.toNat, by omega⟩
    by_cases hz : ∀ i, i < 16 → (d.t.getD bn []).getD i 0 = 0
    · rw [frkD_0 h1 (by omega) (by omega) (by omega) hz] at h; exact absurd rfl h
    · rw [frkD_5 h1 (by omega) (by omega) (by omega) hz]
  · rw [frkD_2 h1 hp]
theorem updD_err {d : Dd} {n : Int} {x : Ds} (h : (updD d n x).2 ≠ 0) : updD d n x = (d, (updD d n x).2) := by
  cases h1 : okD d
  · rw [updD_1 h1]
  by_cases hn : 0 ≤ n ∧ n ≤ (d.o.length : Int) - 1
  · obtain ⟨k, rfl⟩ : ∃ k : Nat, n = k := ⟨n.toNat, by omega⟩
    by_cases hr : (d.o.getD k zDs).r = 0
    · rw [updD_4r h1 hr]
    · by_cases hx : (0 ≤ x.o ∧ x.o ≤ 128) ∧ 0 ≤ x.c ∧ x.c ≤ 1000000
      · rw [updD_0 h1 (by omega) hr hx] at h; exact absurd rfl h
      · rw [updD_2 h1 (by omega) hr hx]
  · rw [updD_4 h1 hn]
theorem updD_get {d : Dd} {n : Int} {x : Ds} (h : (updD d n x).2 = 0) : OkDd d ∧ ∃ k : Nat, n = k ∧ k < d.o.length ∧ updD d n x = (upO d k x, 0) := by
  cases h1 : okD d
  · rw [updD_1 h1] at h; simp at h
  by_cases hn : 0 ≤ n ∧ n ≤ (d.o.length : Int) - 1
  · obtain ⟨k, rfl⟩ : ∃ k : Nat, n = k := ⟨n.toNat, by omega⟩
    by_cases hr : (d.o.getD k zDs).r = 0
    · rw [updD_4r h1 hr] at h; simp at h
    · by_cases hx : (0 ≤ x.o ∧ x.o ≤ 128) ∧ 0 ≤ x.c ∧ x.c ≤ 1000000
      · exact ⟨okD_iff.1 h1, k, rfl, by omega, updD_0 h1 (by omega) hr hx⟩
      · rw [updD_2 h1 (by omega) hr hx] at h; simp at h
  · rw [updD_4 h1 hn] at h; simp at h
/-- The argument's box, that of a description, a copy under change, the result's box behind them. -/
structure PrU (w : World) (T To Ts Ti : TypeId) (B go : Nat) (a b a' b' : Value) (y : Ds) (G C : Nat → Nat) (d' : Dd) (wr : World) : Prop where
  dbox : Own wr w.heap.size T #[a, b]
  x : Own wr (w.heap.size + 1) To #[.int .i64 y.f, .int .i64 y.g, .int .i64 y.o, .int .i64 y.c, .int .i64 y.r]
  ou : OuW (w.alloc (.cells #[a, b] T)) T To Ts Ti B go a' b' (.slice none 0 0) (.slice none 0 0) G C d' wr
section
variable {w wr w' w0 w4 : World} {T To Ts Ti : TypeId} {B go : Nat} {a b a' b' : Value} {y : Ds} {G C : Nat → Nat} {d' : Dd}
theorem PrU.grew (h : PrU w T To Ts Ti B go a b a' b' y G C d' wr) (g : Grew wr w') : PrU w T To Ts Ti B go a b a' b' y G C d' w' := ⟨h.dbox.grew g, h.x.grew g, h.ou.grew g⟩
theorem PrU.g (h : PrU w T To Ts Ti B go a b a' b' y G C d' wr) : Grew w wr := ((Grew.refl w).alloc _).trans h.ou.g
theorem PrU.res (h : PrU w T To Ts Ti B go a b a' b' y G C d' wr) : Own wr (w.heap.size + 1 + 1) T #[.slice none 0 0, .slice none 0 0] := by
  have := h.ou.res
  rw [World.size_alloc] at this
  exact this
theorem PrU.start {d : Dd} (hd : Own w0 w.heap.size T #[a, b]) (hx : Own w0 (w.heap.size + 1) To #[.int .i64 y.f, .int .i64 y.g, .int .i64 y.o, .int .i64 y.c, .int .i64 y.r]) (hr : Own w0 (w.heap.size + 1 + 1) T #[.slice none 0 0, .slice none 0 0]) (g : Grew (w.alloc (.cells #[a, b] T)) w0) (k : DdK To Ts Ti w4 w0.heap.size a' b' G C d) (g4 : Grew w0 w4) :
    PrU w T To Ts Ti w0.heap.size w4.heap.size a b a' b' y G C d (w4.alloc (.cells #[a', b'] T)) := by
  have e : (w.alloc (.cells #[a, b] T)).heap.size = w.heap.size + 1 := World.size_alloc ..
  exact ⟨(hd.grew g4).alloc _, (hx.grew g4).alloc _, OuW.start (by rw [e]; exact hr) g (by rw [e]; exact hr.lt) k g4⟩
theorem PrU.ret (h : PrU w T To Ts Ti B go a b a' b' y G C d' wr) {s t : Value} (hw : (wr.setCell ⟨w.heap.size + 1 + 1, 0, none⟩ s).setCell ⟨w.heap.size + 1 + 1, 1, none⟩ t = w') : Own w' (w.heap.size + 1 + 1) T #[s, t] ∧ Grew w w' ∧ DdR w' w.heap.size a' b' d' := by
  have e : (w.alloc (.cells #[a, b] T)).heap.size = w.heap.size + 1 := World.size_alloc ..
  rw [← e] at hw
  obtain ⟨r, g, dd⟩ := h.ou.ret hw
  rw [e] at r
  exact ⟨r, ((Grew.refl w).alloc _).trans g, dd.wider (by omega)⟩
end
end Go.Mine
namespace Go.Proofs.Ytokijggckiidjaa
open Go.ChangeShapes Go.WideShapes Go.ChangeAt Go.RowKit Go.Mine
set_option maxRecDepth 100000 in
set_option maxHeartbeats 16000000 in
theorem fork_p {pp : Nat → Prop} {a b : Value} {d : Dd} {p q : Int} {x : Dd × Int} {w : World} (h0 : DdP w pp a b d) (ho : d.o.length ≤ 1000) (ht : d.t.length ≤ 1000) (hr : Hid (∀ p, p < d.t.length → (d.t.getD p []).length ≤ 1000)) (hx : frkD d p q = x) :
    Calls Try.prog 15 #[.agg #[a, b], .int .i64 p, .int .i64 q] w (RetDE pp x w) := by
  have h := h0.rd
  clear h0
  obtain ⟨a1, ca, rfl, -, -⟩ := h.o.slice
  obtain ⟨b1, cb, rfl, -, -⟩ := h.t.slice
  obtain ⟨m, hm⟩ : ∃ m, d.o.length = m := ⟨_, rfl⟩
  obtain ⟨N, hN⟩ : ∃ N, d.t.length = N := ⟨_, rfl⟩
  have HM := Lib.hid hm
  have HN := Lib.hid hN
  have HX := Lib.hid hx
  have hol := ho
  have htl := ht
  rw [hm] at h ho ⊢
  rw [hN] at h ht ⊢
  have HH := Lib.hid h
  have D0 := (Mine.Own.new w 29 #[.slice a1 m ca, .slice b1 N cb]).alloc (.cells #[.slice none 0 0, .slice none 0 0] 29)
  have R0 := Mine.Own.new2 w (.cells #[.slice a1 m ca, .slice b1 N cb] 29) 29 #[.slice none 0 0, .slice none 0 0]
  have G0 := ((Grew.refl w).alloc (.cells #[.slice a1 m ca, .slice b1 N cb] 29)).alloc (.cells #[.slice none 0 0, .slice none 0 0] 29)
  have HOL := Lib.hid hol
  have HTL := Lib.hid htl
  have HCP := Lib.hid (copied_p (HH.out.grew G0) hol htl hr)
  obtain ⟨x0, x1, x2, x3⟩ := D0.two
  have HD0 := Lib.hid D0
  have HR0 := Lib.hid R0
  have HG0 := Lib.hid G0
  clear h hm hN hx D0 R0 G0 hol htl
  go_enter Try.func15, Try.ntmps15
  go_wp2_with fail
  with_reducible refine HCP.out.mono ?_
  rintro e9 w4 ⟨a2, b2, G, C, rfl, K, g4⟩
  obtain ⟨a3, c3, rfl⟩ := K.o.len
  obtain ⟨b3, c4, rfl⟩ := K.t.slice
  have HP := Lib.hid (PrW.start HD0.out HR0.out HG0.out HR0.out.lt K g4)
  rw [HM.out, HN.out] at HP ⊢
  clear K g4 x0 x1 x2 x3 HD0 HR0 HG0 HCP
  go_upto_region 2 with fail
  generalize (World.alloc (World.alloc w _) _).heap.size = B3 at *
  generalize w4.alloc _ = w5 at *
  generalize w4.heap.size = go at *
  obtain ⟨er, her⟩ : ∃ er, (frkD d p q).2 = er := ⟨_, rfl⟩
  have HER := Lib.hid her
  have HCK := Lib.hid (checkFork_p (HH.out.grew HP.out.ou.g) HOL.out HTL.out her)
  obtain ⟨x0, x1, x2, x3⟩ := HP.out.dbox.two
  clear her
  go_wp2_with fail
  with_reducible refine HCK.out.mono ?_
  rintro e9 v1 ⟨rfl, g1⟩
  clear x0 x1 x2 x3
  replace HP := Lib.hid (HP.out.grew g1)
  clear g1 HCK
  by_cases he : er = 0
  rotate_left
  · have HE : Hid (x = (d, er)) := Lib.hid (HX.out.symm.trans ((frkD_err (by rw [HER.out]; exact he)).trans (by rw [HER.out])))
    have he1 : (er == 0) = false := by simpa using he
    have he2 : (er != 0) = true := by simpa using he
    clear he
    obtain ⟨o0, o1, o2, o3⟩ := HP.out.ou.box.two
    obtain ⟨r0, r1, r2, r3⟩ := HP.out.ou.res.two
    go_wp2
    generalize hw : World.setCell (World.setCell _ _ _) _ _ = E
    obtain ⟨RR, GG, DD⟩ := HP.out.ou.ret hw
    obtain ⟨k0, k1, -, -⟩ := RR.two
    refine bodyPost_ret (v := .tuple #[.agg #[.slice a3 m c3, .slice b3 N c4], .int .i64 er]) (by simp [results, Try.results15, go_sem, k0, k1]) rfl ?_
    exact ⟨_, _, by rw [HE.out], by rw [HE.out]; exact DD.own, GG⟩
  subst he
  obtain ⟨hok, pn, qn, rfl, rfl, hp, hq, hpq, hz, e⟩ := frkD_get HER.out
  have HE : Hid (x = (fkD d pn qn, 0)) := Lib.hid (HX.out.symm.trans e)
  have HOK := Lib.hid (okD_iff.1 hok)
  have HPT := Lib.hid hp
  have HQT := Lib.hid hq
  have hpN : pn < N := by rw [← HN.out]; exact hp
  have hqN : qn < N := by rw [← HN.out]; exact hq
  have p4 : (pn : Int) < (N : Int) := by omega
  have p5 : (0 : Int) ≤ (pn : Int) := by omega
  have q4 : (qn : Int) < (N : Int) := by omega
  have q5 : (0 : Int) ≤ (qn : Int) := by omega
  have HA := Lib.hid (HOK.out.t pn hp)
  have HB := Lib.hid (HOK.out.t qn hq)
  obtain ⟨gt, ot, ta, tc, rfl, -, hgt0, hct0, RT0⟩ := HH.out.t.at_ (k := pn) hp
  rw [HA.out] at hct0 RT0
  have HRT := Lib.hid RT0
  have hct := (HP.out.ou.g.cells.1 gt _ hgt0).trans hct0
  have hgt : gt < v1.heap.size := Nat.lt_of_lt_of_le hgt0 HP.out.ou.g.size
  obtain ⟨x0, x1, x2, x3⟩ := HP.out.dbox.two
  obtain ⟨o0, o1, o2, o3⟩ := HP.out.ou.box.two
  obtain ⟨gv, rfl, -, hgv, d0, -⟩ := HP.out.ou.k.t.at_ (k := qn) hq
  rw [HB.out] at d0
  have hin := HP.out.ou.k.t.inn qn hq
  rw [HB.out] at hin
  have hcp := copy_run (P := Try.prog) (dT := 22) (sT := 22) (HRT.out.grew (HP.out.ou.g.trans (Grew.refl v1).drew)) hin.drew Try.underlying22 (by kernel_rfl)
  have HP1 := Lib.hid (HP.out.grew (Grew.refl v1).drew |>.copyT (L := d.t.getD pn []) hq (by rw [HB.out, HA.out]))
  have hd5 : (v1.drew.setCells (G qn) 0 ((d.t.getD pn []).flatMap enc1)).cell? ⟨gv, qn, none⟩ = some (slV (G qn) 16 (C qn)) := (World.cell?_of_block (a := ⟨gv, qn, none⟩) ((copy_grown v1.drew (G qn) ((d.t.getD pn []).flatMap enc1)).block gv hgv (fun e => HP.out.ou.k.t.far qn hq e))).trans d0
  have hct5 := (HP1.out.ou.g.cells.1 gt _ hgt0).trans hct0
  have hS5 := And.intro HP1.out.ou.box.two.2.1 (And.intro hd5 (And.intro HP1.out.dbox.two.2.1 hct5))
  have hgt5 : gt < (v1.drew.setCells (G qn) 0 ((d.t.getD pn []).flatMap enc1)).heap.size := Nat.lt_of_lt_of_le hgt0 HP1.out.ou.g.size
  clear hok hp hq e hz RT0 hct0 hin
  go_upto_region 5 with fail
  refine wp_region_held_drew (S := (fun w' => w'.cell? ⟨go, 1, none⟩ = some (.slice (some ⟨gv, 0, none⟩) N c4) ∧ w'.cell? ⟨gv, qn, none⟩ = some (slV (G qn) 16 (C qn)) ∧ w'.cell? ⟨w.heap.size, 1, none⟩ = some (.slice (some ⟨gt, ot, none⟩) N cb) ∧ w'.cell? ⟨gt, ot + pn, none⟩ = some (.slice ta 16 tc))) (by kernel_rfl) ?_ (fun hHeld => ?_)
  · (try dsimp only); (refine ⟨?_, ?_, ?_, ?_⟩ <;> (repeat (first | (with_reducible assumption) | (with_reducible refine far_drew ?_))))
  first | refine wpAnyH_take (i := 0) (v := undef) rfl (by kernel_rfl) (by kernel_rfl) (by kernel_rfl) (fun _ _ _ h => h) (Or.inr ⟨by rfl, rfl⟩) (by assumption) ?_ | (refine' wpAnyH_take (i := 0) (v := _) rfl (by kernel_rfl) (by kernel_rfl) (by kernel_rfl) (fun _ _ _ h => h) (Or.inl ⟨by rfl, ?hyf1⟩) (by assumption) ?restf1; case hyf1 => (intro w hSw; (try dsimp only at hSw); (first | (go_simp; done) | (go_simp; with_reducible rfl))))
  try simp only [Act.put, List.setIfInBounds_toArray, List.set_cons_zero, List.set_cons_succ, List.getElem_toArray, List.getElem_cons_zero]
  first | refine wpAnyH_take (i := 2) (v := undef) rfl (by kernel_rfl) (by kernel_rfl) (by kernel_rfl) (fun _ _ _ h => h) (Or.inr ⟨by rfl, rfl⟩) (by assumption) ?_ | (refine' wpAnyH_take (i := 2) (v := _) rfl (by kernel_rfl) (by kernel_rfl) (by kernel_rfl) (fun _ _ _ h => h) (Or.inl ⟨by rfl, ?hyf2⟩) (by assumption) ?restf2; case hyf2 => (intro w hSw; (try dsimp only at hSw); (first | (go_simp; done) | (go_simp; with_reducible rfl))))
  try simp only [Act.put, List.setIfInBounds_toArray, List.set_cons_zero, List.set_cons_succ, List.getElem_toArray, List.getElem_cons_zero, List.getElem_cons_succ]
  first | refine wpAnyH_take (i := 5) (v := undef) rfl (by kernel_rfl) (by kernel_rfl) (by kernel_rfl) (fun _ _ _ h => h) (Or.inr ⟨by rfl, rfl⟩) (by assumption) ?_ | (refine' wpAnyH_take (i := 5) (v := _) rfl (by kernel_rfl) (by kernel_rfl) (by kernel_rfl) (fun _ _ _ h => h) (Or.inl ⟨by rfl, ?hyf3⟩) (by assumption) ?restf3; case hyf3 => (intro w hSw; (try dsimp only at hSw); (first | (go_simp; done) | (go_simp; with_reducible rfl))))
  try simp only [Act.put, List.setIfInBounds_toArray, List.set_cons_zero, List.set_cons_succ, List.getElem_toArray, List.getElem_cons_zero, List.getElem_cons_succ]
  first | refine wpAnyH_take (i := 7) (v := undef) rfl (by kernel_rfl) (by kernel_rfl) (by kernel_rfl) (fun _ _ _ h => h) (Or.inr ⟨by rfl, rfl⟩) (by assumption) ?_ | (refine' wpAnyH_take (i := 7) (v := _) rfl (by kernel_rfl) (by kernel_rfl) (by kernel_rfl) (fun _ _ _ h => h) (Or.inl ⟨by rfl, ?hyf4⟩) (by assumption) ?restf4; case hyf4 => (intro w hSw; (try dsimp only at hSw); (first | (go_simp; done) | (go_simp; with_reducible rfl))))
  try simp only [Act.put, List.setIfInBounds_toArray, List.set_cons_zero, List.set_cons_succ, List.getElem_toArray, List.getElem_cons_zero, List.getElem_cons_succ]
  first | refine wpAnyH_take (i := 1) (v := undef) rfl (by kernel_rfl) (by kernel_rfl) (by kernel_rfl) (fun _ _ _ h => h) (Or.inr ⟨by rfl, rfl⟩) (by assumption) ?_ | (refine' wpAnyH_take (i := 1) (v := _) rfl (by kernel_rfl) (by kernel_rfl) (by kernel_rfl) (fun _ _ _ h => h) (Or.inl ⟨by rfl, ?hyf5⟩) (by assumption) ?restf5; case hyf5 => (intro w hSw; (try dsimp only at hSw); (first | (go_simp; done) | (go_simp; with_reducible rfl))))
  try simp only [Act.put, List.setIfInBounds_toArray, List.set_cons_zero, List.set_cons_succ, List.getElem_toArray, List.getElem_cons_zero, List.getElem_cons_succ]
  first | refine wpAnyH_take (i := 6) (v := undef) rfl (by kernel_rfl) (by kernel_rfl) (by kernel_rfl) (fun _ _ _ h => h) (Or.inr ⟨by rfl, rfl⟩) (by assumption) ?_ | (refine' wpAnyH_take (i := 6) (v := _) rfl (by kernel_rfl) (by kernel_rfl) (by kernel_rfl) (fun _ _ _ h => h) (Or.inl ⟨by rfl, ?hyf6⟩) (by assumption) ?restf6; case hyf6 => (intro w hSw; (try dsimp only at hSw); (first | (go_simp; done) | (go_simp; with_reducible rfl))))
  try simp only [Act.put, List.setIfInBounds_toArray, List.set_cons_zero, List.set_cons_succ, List.getElem_toArray, List.getElem_cons_zero, List.getElem_cons_succ]
  first | refine wpAnyH_take (i := 3) (v := undef) rfl (by kernel_rfl) (by kernel_rfl) (by kernel_rfl) (fun _ _ _ h => h) (Or.inr ⟨by rfl, rfl⟩) (by assumption) ?_ | (refine' wpAnyH_take (i := 3) (v := _) rfl (by kernel_rfl) (by kernel_rfl) (by kernel_rfl) (fun _ _ _ h => h) (Or.inl ⟨by rfl, ?hyf7⟩) (by assumption) ?restf7; case hyf7 => (intro w hSw; (try dsimp only at hSw); (first | (go_simp; done) | (go_simp; with_reducible rfl))))
  try simp only [Act.put, List.setIfInBounds_toArray, List.set_cons_zero, List.set_cons_succ, List.getElem_toArray, List.getElem_cons_zero, List.getElem_cons_succ]
  first | refine wpAnyH_take (i := 8) (v := undef) rfl (by kernel_rfl) (by kernel_rfl) (by kernel_rfl) (fun _ _ _ h => h) (Or.inr ⟨by rfl, rfl⟩) (by assumption) ?_ | (refine' wpAnyH_take (i := 8) (v := _) rfl (by kernel_rfl) (by kernel_rfl) (by kernel_rfl) (fun _ _ _ h => h) (Or.inl ⟨by rfl, ?hyf8⟩) (by assumption) ?restf8; case hyf8 => (intro w hSw; (try dsimp only at hSw); (first | (go_simp; done) | (go_simp; with_reducible rfl))))
  try simp only [Act.put, List.setIfInBounds_toArray, List.set_cons_zero, List.set_cons_succ, List.getElem_toArray, List.getElem_cons_zero, List.getElem_cons_succ]
  first | refine wpAnyH_take (i := 4) (v := undef) rfl (by kernel_rfl) (by kernel_rfl) (by kernel_rfl) (fun _ _ _ h => h) (Or.inr ⟨by rfl, rfl⟩) (by assumption) ?_ | (refine' wpAnyH_take (i := 4) (v := _) rfl (by kernel_rfl) (by kernel_rfl) (by kernel_rfl) (fun _ _ _ h => h) (Or.inl ⟨by rfl, ?hyf9⟩) (by assumption) ?restf9; case hyf9 => (intro w hSw; (try dsimp only at hSw); (first | (go_simp; done) | (go_simp; with_reducible rfl))))
  try simp only [Act.put, List.setIfInBounds_toArray, List.set_cons_zero, List.set_cons_succ, List.getElem_toArray, List.getElem_cons_zero, List.getElem_cons_succ]
  first | refine wpAnyH_take (i := 9) (v := undef) rfl (by kernel_rfl) (by kernel_rfl) (by kernel_rfl) (fun _ _ _ h => h) (Or.inr ⟨by rfl, rfl⟩) (by assumption) ?_ | (refine' wpAnyH_take (i := 9) (v := _) rfl (by kernel_rfl) (by kernel_rfl) (by kernel_rfl) (fun _ _ _ h => h) (Or.inl ⟨by rfl, ?hyf10⟩) (by assumption) ?restf10; case hyf10 => (intro w hSw; (try dsimp only at hSw); (first | (go_simp; done) | (go_simp; with_reducible rfl))))
  try simp only [Act.put, List.setIfInBounds_toArray, List.set_cons_zero, List.set_cons_succ, List.getElem_toArray, List.getElem_cons_zero, List.getElem_cons_succ]
  refine wpAnyH_ready (rs := [10]) (by kernel_rfl) (by simp) ?_
  refine AllReadyH.cons rfl (fun K hK => ?_) AllReadyH.nil
  try simp only [Act.put, List.setIfInBounds_toArray, List.set_cons_zero, List.set_cons_succ, List.getElem_toArray, List.getElem_cons_zero, List.getElem_cons_succ]
  refine (if_pos (by rfl)).mpr ?_
  refine wp_copy_runI _ (.tmp 26) (.tmp 31) 22 22 rfl _ _ rfl rfl (hcp _) ?_
  refine hK.out _ _ ?_ (fun hHeld => ?_)
  · (try dsimp only); exact hS5
  clear hK K
  refine wpAnyH_done (by kernel_rfl) ?_ _
  skip
  clear x0 x1 x2 x3 o0 o1 o2 o3 d0 hcp hct hgv HP hgt hS5 hd5
  try simp only [Act.put, List.setIfInBounds_toArray, List.set_cons_zero, List.set_cons_succ]
  generalize World.setCells v1.drew _ _ _ = w5 at *
  obtain ⟨x0, x1, x2, x3⟩ := HP1.out.dbox.two
  have HP2 : Hid (PrW w 29 34 22 3 B3 go (.slice a1 m ca) (.slice (some ⟨gt, ot, none⟩) N cb) (.slice a3 m c3) (.slice (some ⟨gv, 0, none⟩) N c4) G C ⟨d.t.set qn (d.t.getD pn []), addD d.o ((d.t.getD pn []).take 0)⟩ w5) := Lib.hid (by rw [List.take_zero, addD_nil]; exact HP1.out)
  clear HP1
  go_wp2_with fail
  clear x0 x1 x2 x3 hct5 hgt5
  go_loopw [39] (fun iv wr => ∃ i : Nat, iv = .int .i64 i ∧ i ≤ 16 ∧ Hid (PrW w 29 34 22 3 B3 go (.slice a1 m ca) (.slice (some ⟨gt, ot, none⟩) N cb) (.slice a3 m c3) (.slice (some ⟨gv, 0, none⟩) N c4) G C ⟨d.t.set qn (d.t.getD pn []), addD d.o ((d.t.getD pn []).take i)⟩ wr)) (fun iv _ => 16 - (intOf iv).toNat)
  case atStart => exact ⟨0, rfl, Nat.zero_le _, HP2⟩
  case round =>
    clear HP2
    obtain ⟨i, rfl, hi, HP⟩ := hrel
    obtain ⟨wo, rfl⟩ : ∃ wo : World, wo = wr := ⟨_, rfl⟩
    by_cases hlt : i < 16
    · have hi0 : (0 : Int) ≤ (i : Int) := by omega
      have hi1 : (i : Int) < 16 := by omega
      have hiA : i < (d.t.getD pn []).length := by rw [HA.out]; exact hlt
      obtain ⟨g2, o2, rfl, -, hg2, hc2⟩ := (HRT.out.grew HP.out.ou.g).atI (k := i) hiA
      have hnn := HOK.out.n pn HPT.out i hlt
      have HTK := Lib.hid (tkI hiA)
      obtain ⟨n, hn⟩ : ∃ n, (d.t.getD pn []).getD i 0 = n := ⟨_, rfl⟩
      rw [hn] at hc2 hnn HTK
      clear hn hiA
      by_cases hz : n = 0
      · subst hz
        have HP2 := HP
        rw [← addD_0 d.o ((d.t.getD pn []).take i) (Int.le_refl 0), ← HTK.out] at HP2
        clear hnn
        go_wp2_with fail
        go_roundw
        case rel => exact ⟨i + 1, by go_num, by omega, HP2⟩
        case measure => simp [intOf]; omega
      · obtain ⟨k, rfl⟩ : ∃ k : Nat, n = (k : Int) + 1 := ⟨(n - 1).toNat, by omega⟩
        have hko : k < d.o.length := by omega
        have hkm : k < m := by rw [← HM.out]; exact hko
        have hk5 : (0 : Int) ≤ (k : Int) := by omega
        have hk4 : (k : Int) < (m : Int) := by omega
        have hk1 : (0 : Int) < (k : Int) + 1 := by omega
        have wk : IntKind.i64.wrap ((k : Int) + 1 - 1) = (k : Int) := by rw [IntWalk.i64_in _ (by omega)]; omega
        have hko2 : k < (addD d.o ((d.t.getD pn []).take i)).length := by rw [addD_len]; exact hko
        obtain ⟨ga, rfl, -, hga, -, -, -, -, c4', cf⟩ := HP.out.ou.k.atO hko2
        have cf4 := cf (k * 5 + 4)
        try dsimp only at c4'
        have hrr := addD_at (F := (d.t.getD pn []).take i) hko
        have hrb : (d.o.getD k zDs).r ≤ 128 := by
          have h1 := (HOK.out.r k hko).1
          have h2 := cntD_le d.t.flatten k
          have h3 := flat_len HOK.out.t
          have h4 := HOK.out.t8
          omega
        have hrb0 : 0 ≤ (d.o.getD k zDs).r := by have h1 := (HOK.out.r k hko).1; omega
        have hcb : cntD ((d.t.getD pn []).take i) k ≤ 16 := Nat.le_trans (cntD_le _ _) (by rw [List.length_take]; omega)
        have hrr2 : ((addD d.o ((d.t.getD pn []).take i)).getD k zDs).r = (d.o.getD k zDs).r + cntD ((d.t.getD pn []).take i) k := by rw [hrr]
        obtain ⟨r, hr'⟩ : ∃ r, ((addD d.o ((d.t.getD pn []).take i)).getD k zDs).r = r := ⟨_, rfl⟩
        have HRV := Lib.hid hr'
        rw [hr'] at c4' hrr2
        have hr1 : 0 ≤ r := by omega
        have hr2 : r ≤ 1000 := by omega
        have wr1 : IntKind.i64.wrap (r + 1) = r + 1 := IntWalk.i64_in _ (by omega)
        have HK2 := Lib.hid hko2
        have HAS := Lib.hid (addD_s d.o ((d.t.getD pn []).take i) k)
        obtain ⟨o0, o1, o2, o3⟩ := HP.out.ou.box.two
        clear cf hr' hrr hrr2 hrb hrb0 hcb hko2 hko hz hnn
        go_upto_region 11 with fail
        have HP2 := Lib.hid (HP.out.storeO (k := k) (j := 4) HK2.out (by omega) (x := .int .i64 (r + 1)) (y := { (addD d.o ((d.t.getD pn []).take i)).getD k zDs with r := ((addD d.o ((d.t.getD pn []).take i)).getD k zDs).r + 1 }) (by rw [← HRV.out]; rfl))
        dsimp only at HP2
        rw [← HAS.out, ← HTK.out] at HP2
        generalize World.setCell wo _ _ = w7 at *
        clear c4' cf4 o0 o1 o2 o3 hc2 hg2
        go_wp2_with fail
        go_roundw
        case rel => exact ⟨i + 1, by go_num, by omega, HP2⟩
        case measure => simp [intOf]; omega
    · obtain rfl : i = 16 := by omega
      have HF16 : Hid ((⟨d.t.set qn (d.t.getD pn []), addD d.o ((d.t.getD pn []).take 16)⟩ : Dd) = fkD d pn qn) := Lib.hid (by rw [List.take_of_length_le (by rw [HA.out]; exact Nat.le_refl _)]; rfl)
      rw [HF16.out] at HP
      rw [show ((16 : Nat) : Int) = 16 from rfl]
      obtain ⟨o0, o1, o2, o3⟩ := HP.out.ou.box.two
      obtain ⟨r0, r1, r2, r3⟩ := HP.out.ou.res.two
      go_wp2
      generalize hw : World.setCell (World.setCell _ _ _) _ _ = E
      obtain ⟨RR, GG, DD⟩ := HP.out.ou.ret hw
      obtain ⟨k0, k1, -, -⟩ := RR.two
      refine bodyPost_ret (v := .tuple #[.agg #[.slice a3 m c3, .slice (some ⟨gv, 0, none⟩) N c4], .int .i64 0]) (by simp [results, Try.results15, go_sem, k0, k1]) rfl ?_
      exact ⟨_, _, by rw [HE.out], by rw [HE.out]; exact DD.own, GG⟩
set_option maxRecDepth 100000 in
set_option maxHeartbeats 16000000 in
theorem update_p {pp : Nat → Prop} {a b : Value} {d : Dd} {n : Int} {y : Ds} {x : Dd × Int} {w : World} (h0 : DdP w pp a b d) (ho : d.o.length ≤ 1000) (ht : d.t.length ≤ 1000) (hr : Hid (∀ p, p < d.t.length → (d.t.getD p []).length ≤ 1000)) (hx : updD d n y = x) :
    Calls Try.prog 21 #[.agg #[a, b], .int .i64 n, dsV y] w (RetDE pp x w) := by
  have h := h0.rd
  clear h0
  obtain ⟨a1, ca, rfl, -, -⟩ := h.o.slice
  obtain ⟨b1, cb, rfl, -, -⟩ := h.t.slice
  obtain ⟨m, hm⟩ : ∃ m, d.o.length = m := ⟨_, rfl⟩
  obtain ⟨N, hN⟩ : ∃ N, d.t.length = N := ⟨_, rfl⟩
  obtain ⟨yf, yg, yo, yc, yr⟩ := y
  have HM := Lib.hid hm
  have HN := Lib.hid hN
  have HX := Lib.hid hx
  have hol := ho
  have htl := ht
  rw [hm] at h ho ⊢
  rw [hN] at h ht ⊢
  have HH := Lib.hid h
  have D0 := ((Mine.Own.new w 29 #[.slice a1 m ca, .slice b1 N cb]).alloc (.cells #[.int .i64 yf, .int .i64 yg, .int .i64 yo, .int .i64 yc, .int .i64 yr] 34)).alloc (.cells #[.slice none 0 0, .slice none 0 0] 29)
  have X0 := (Mine.Own.new2 w (.cells #[.slice a1 m ca, .slice b1 N cb] 29) 34 #[.int .i64 yf, .int .i64 yg, .int .i64 yo, .int .i64 yc, .int .i64 yr]).alloc (.cells #[.slice none 0 0, .slice none 0 0] 29)
  have R0 := Mine.Own.new2 (w.alloc (.cells #[.slice a1 m ca, .slice b1 N cb] 29)) (.cells #[.int .i64 yf, .int .i64 yg, .int .i64 yo, .int .i64 yc, .int .i64 yr] 34) 29 #[.slice none 0 0, .slice none 0 0]
  rw [World.size_alloc] at R0
  have G1 := ((Grew.refl (w.alloc (.cells #[.slice a1 m ca, .slice b1 N cb] 29))).alloc (.cells #[.int .i64 yf, .int .i64 yg, .int .i64 yo, .int .i64 yc, .int .i64 yr] 34)).alloc (.cells #[.slice none 0 0, .slice none 0 0] 29)
  have G0 := ((Grew.refl w).alloc (.cells #[.slice a1 m ca, .slice b1 N cb] 29)).trans G1
  have HOL := Lib.hid hol
  have HTL := Lib.hid htl
  have HCP := Lib.hid (copied_p (HH.out.grew G0) hol htl hr)
  obtain ⟨x0, x1, x2, x3⟩ := D0.two
  have HD0 := Lib.hid D0
  have HX0 := Lib.hid X0
  have HR0 := Lib.hid R0
  have HG1 := Lib.hid G1
  clear h hm hN hx D0 R0 G0 X0 G1 hol htl
  go_enter Try.func21, Try.ntmps21
  go_wp2_with fail
  with_reducible refine HCP.out.mono ?_
  rintro e9 w4 ⟨a2, b2, G, C, rfl, K, g4⟩
  obtain ⟨a3, c3, rfl⟩ := K.o.len
  obtain ⟨b3, c4, rfl⟩ := K.t.slice
  have HP := Lib.hid (PrU.start (y := ⟨yf, yg, yo, yc, yr⟩) HD0.out HX0.out HR0.out HG1.out K g4)
  rw [HM.out, HN.out] at HP ⊢
  clear K g4 x0 x1 x2 x3 HD0 HR0 HX0 HG1 HCP
  go_upto_region 2 with fail
  generalize (World.alloc (World.alloc (World.alloc w _) _) _).heap.size = B3 at *
  generalize w4.alloc _ = w5 at *
  generalize w4.heap.size = go at *
  obtain ⟨x0, x1, x2, x3⟩ := HP.out.dbox.two
  obtain ⟨z0, z1, z2, z3, z4⟩ := HP.out.x.fiveD
  try dsimp only at z0 z1 z2 z3 z4
  obtain ⟨er, her⟩ : ∃ er, (updD d n ⟨yf, yg, yo, yc, yr⟩).2 = er := ⟨_, rfl⟩
  have HER := Lib.hid her
  have HCK := Lib.hid (checkUpdate_p (x := ⟨yf, yg, yo, yc, yr⟩) (HH.out.grew HP.out.g) HOL.out HTL.out her)
  clear her
  go_wp2_with fail
  with_reducible refine HCK.out.mono ?_
  rintro e9 v1 ⟨rfl, g1⟩
  clear x0 x1 x2 x3 z0 z1 z2 z3 z4
  replace HP := Lib.hid (HP.out.grew g1)
  clear g1 HCK
  by_cases he : er = 0
  rotate_left
  · have HE : Hid (x = (d, er)) := Lib.hid (HX.out.symm.trans ((updD_err (by rw [HER.out]; exact he)).trans (by rw [HER.out])))
    have he1 : (er == 0) = false := by simpa using he
    have he2 : (er != 0) = true := by simpa using he
    clear he
    obtain ⟨o0, o1, o2, o3⟩ := HP.out.ou.box.two
    obtain ⟨r0, r1, r2, r3⟩ := HP.out.res.two
    go_wp2
    generalize hw : World.setCell (World.setCell _ _ _) _ _ = E
    obtain ⟨RR, GG, DD⟩ := HP.out.ret hw
    obtain ⟨k0, k1, -, -⟩ := RR.two
    refine bodyPost_ret (v := .tuple #[.agg #[.slice a3 m c3, .slice b3 N c4], .int .i64 er]) (by simp [results, Try.results21, go_sem, k0, k1]) rfl ?_
    exact ⟨_, _, by rw [HE.out], by rw [HE.out]; exact DD.own, GG⟩
  subst he
  obtain ⟨hok, k, rfl, hko, e⟩ := updD_get HER.out
  have HE : Hid (x = (upO d k ⟨yf, yg, yo, yc, yr⟩, 0)) := Lib.hid (HX.out.symm.trans e)
  have hkm : k < m := by rw [← HM.out]; exact hko
  have k4 : (k : Int) < (m : Int) := by omega
  have k5 : (0 : Int) ≤ (k : Int) := by omega
  have hB : w.heap.size + 3 ≤ B3 := by
    have h1 := HP.out.ou.lo
    rw [World.size_alloc] at h1
    omega
  obtain ⟨x0, x1, x2, x3⟩ := HP.out.ou.box.two
  obtain ⟨ga, rfl, hgB, hga, c0, c1, c2, c3', c4', cf⟩ := HP.out.ou.k.atO (k := k) hko
  have cf2 := cf (k * 5 + 2)
  have cf3 := cf (k * 5 + 3)
  have hn1 : ga ≠ go := fun e => HP.out.ou.no.a (congrArg some e)
  have hn2 : ga ≠ w.heap.size + 1 := by omega
  obtain ⟨z0, z1, z2, z3, z4⟩ := HP.out.x.fiveD
  try dsimp only at z2 z3
  generalize (d.o.getD k zDs).f = y0 at c0
  generalize (d.o.getD k zDs).g = y1 at c1
  generalize (d.o.getD k zDs).o = y2 at c2
  generalize (d.o.getD k zDs).c = y3 at c3'
  have HKO := Lib.hid hko
  clear cf x1 x2 x3 z0 z1 z4 c0 c1 c4' hok e hko
  go_upto_region 5 with fail
  refine wp_region_held_drew (S := (fun w' => w'.cell? ⟨go, 0, none⟩ = some (.slice (some ⟨ga, 0, none⟩) m c3) ∧ w'.cell? ⟨w.heap.size + 1, 2, none⟩ = some (.int .i64 yo) ∧ w'.cell? ⟨w.heap.size + 1, 3, none⟩ = some (.int .i64 yc))) (by kernel_rfl) ?_ (fun hHeld => ?_)
  · (try dsimp only); (refine ⟨?_, ?_, ?_⟩ <;> (repeat (first | (with_reducible assumption) | (with_reducible refine far_drew ?_) | (with_reducible refine far_cell hn1 ?_) | (with_reducible refine far_cell hn2 ?_))))
  first | refine wpAnyH_take (i := 0) (v := undef) rfl (by kernel_rfl) (by kernel_rfl) (by kernel_rfl) (fun _ _ _ h => h) (Or.inr ⟨by rfl, rfl⟩) (by assumption) ?_ | (refine' wpAnyH_take (i := 0) (v := _) rfl (by kernel_rfl) (by kernel_rfl) (by kernel_rfl) (fun _ _ _ h => h) (Or.inl ⟨by rfl, ?hy0⟩) (by assumption) ?rest0; case hy0 => (intro w hSw; (try dsimp only at hSw); (first | (go_simp; done) | (go_simp; with_reducible rfl))))
  try simp only [Act.put, List.setIfInBounds_toArray, List.set_cons_zero, List.set_cons_succ, List.getElem_toArray, List.getElem_cons_zero]
  first | refine wpAnyH_take (i := 1) (v := undef) rfl (by kernel_rfl) (by kernel_rfl) (by kernel_rfl) (fun _ _ _ h => h) (Or.inr ⟨by rfl, rfl⟩) (by assumption) ?_ | (refine' wpAnyH_take (i := 1) (v := _) rfl (by kernel_rfl) (by kernel_rfl) (by kernel_rfl) (fun _ _ _ h => h) (Or.inl ⟨by rfl, ?hy1⟩) (by assumption) ?rest1; case hy1 => (intro w hSw; (try dsimp only at hSw); (first | (go_simp; done) | (go_simp; with_reducible rfl))))
  try simp only [Act.put, List.setIfInBounds_toArray, List.set_cons_zero, List.set_cons_succ, List.getElem_toArray, List.getElem_cons_zero, List.getElem_cons_succ]
  first | refine wpAnyH_take (i := 2) (v := undef) rfl (by kernel_rfl) (by kernel_rfl) (by kernel_rfl) (fun _ _ _ h => h) (Or.inr ⟨by rfl, rfl⟩) (by assumption) ?_ | (refine' wpAnyH_take (i := 2) (v := _) rfl (by kernel_rfl) (by kernel_rfl) (by kernel_rfl) (fun _ _ _ h => h) (Or.inl ⟨by rfl, ?hy2⟩) (by assumption) ?rest2; case hy2 => (intro w hSw; (try dsimp only at hSw); (first | (go_simp; done) | (go_simp; with_reducible rfl))))
  try simp only [Act.put, List.setIfInBounds_toArray, List.set_cons_zero, List.set_cons_succ, List.getElem_toArray, List.getElem_cons_zero, List.getElem_cons_succ]
  first | refine wpAnyH_take (i := 3) (v := undef) rfl (by kernel_rfl) (by kernel_rfl) (by kernel_rfl) (fun _ _ _ h => h) (Or.inr ⟨by rfl, rfl⟩) (by assumption) ?_ | (refine' wpAnyH_take (i := 3) (v := _) rfl (by kernel_rfl) (by kernel_rfl) (by kernel_rfl) (fun _ _ _ h => h) (Or.inl ⟨by rfl, ?hy3⟩) (by assumption) ?rest3; case hy3 => (intro w hSw; (try dsimp only at hSw); (first | (go_simp; done) | (go_simp; with_reducible rfl))))
  try simp only [Act.put, List.setIfInBounds_toArray, List.set_cons_zero, List.set_cons_succ, List.getElem_toArray, List.getElem_cons_zero, List.getElem_cons_succ]
  first | refine wpAnyH_take (i := 4) (v := undef) rfl (by kernel_rfl) (by kernel_rfl) (by kernel_rfl) (fun _ _ _ h => h) (Or.inr ⟨by rfl, rfl⟩) (by assumption) ?_ | (refine' wpAnyH_take (i := 4) (v := _) rfl (by kernel_rfl) (by kernel_rfl) (by kernel_rfl) (fun _ _ _ h => h) (Or.inl ⟨by rfl, ?hy4⟩) (by assumption) ?rest4; case hy4 => (intro w hSw; (try dsimp only at hSw); (first | (go_simp; done) | (go_simp; with_reducible rfl))))
  try simp only [Act.put, List.setIfInBounds_toArray, List.set_cons_zero, List.set_cons_succ, List.getElem_toArray, List.getElem_cons_zero, List.getElem_cons_succ]
  first | refine wpAnyH_take (i := 5) (v := undef) rfl (by kernel_rfl) (by kernel_rfl) (by kernel_rfl) (fun _ _ _ h => h) (Or.inr ⟨by rfl, rfl⟩) (by assumption) ?_ | (refine' wpAnyH_take (i := 5) (v := _) rfl (by kernel_rfl) (by kernel_rfl) (by kernel_rfl) (fun _ _ _ h => h) (Or.inl ⟨by rfl, ?hy5⟩) (by assumption) ?rest5; case hy5 => (intro w hSw; (try dsimp only at hSw); (first | (go_simp; done) | (go_simp; with_reducible rfl))))
  try simp only [Act.put, List.setIfInBounds_toArray, List.set_cons_zero, List.set_cons_succ, List.getElem_toArray, List.getElem_cons_zero, List.getElem_cons_succ]
  first | refine wpAnyH_take (i := 6) (v := undef) rfl (by kernel_rfl) (by kernel_rfl) (by kernel_rfl) (fun _ _ _ h => h) (Or.inr ⟨by rfl, rfl⟩) (by assumption) ?_ | (refine' wpAnyH_take (i := 6) (v := _) rfl (by kernel_rfl) (by kernel_rfl) (by kernel_rfl) (fun _ _ _ h => h) (Or.inl ⟨by rfl, ?hy6⟩) (by assumption) ?rest6; case hy6 => (intro w hSw; (try dsimp only at hSw); (first | (go_simp; done) | (go_simp; with_reducible rfl))))
  try simp only [Act.put, List.setIfInBounds_toArray, List.set_cons_zero, List.set_cons_succ, List.getElem_toArray, List.getElem_cons_zero, List.getElem_cons_succ]
  first | refine wpAnyH_take (i := 7) (v := undef) rfl (by kernel_rfl) (by kernel_rfl) (by kernel_rfl) (fun _ _ _ h => h) (Or.inr ⟨by rfl, rfl⟩) (by assumption) ?_ | (refine' wpAnyH_take (i := 7) (v := _) rfl (by kernel_rfl) (by kernel_rfl) (by kernel_rfl) (fun _ _ _ h => h) (Or.inl ⟨by rfl, ?hy7⟩) (by assumption) ?rest7; case hy7 => (intro w hSw; (try dsimp only at hSw); (first | (go_simp; done) | (go_simp; with_reducible rfl))))
  try simp only [Act.put, List.setIfInBounds_toArray, List.set_cons_zero, List.set_cons_succ, List.getElem_toArray, List.getElem_cons_zero, List.getElem_cons_succ]
  first | refine wpAnyH_take (i := 8) (v := undef) rfl (by kernel_rfl) (by kernel_rfl) (by kernel_rfl) (fun _ _ _ h => h) (Or.inr ⟨by rfl, rfl⟩) (by assumption) ?_ | (refine' wpAnyH_take (i := 8) (v := _) rfl (by kernel_rfl) (by kernel_rfl) (by kernel_rfl) (fun _ _ _ h => h) (Or.inl ⟨by rfl, ?hy8⟩) (by assumption) ?rest8; case hy8 => (intro w hSw; (try dsimp only at hSw); (first | (go_simp; done) | (go_simp; with_reducible rfl))))
  try simp only [Act.put, List.setIfInBounds_toArray, List.set_cons_zero, List.set_cons_succ, List.getElem_toArray, List.getElem_cons_zero, List.getElem_cons_succ]
  first | refine wpAnyH_take (i := 9) (v := undef) rfl (by kernel_rfl) (by kernel_rfl) (by kernel_rfl) (fun _ _ _ h => h) (Or.inr ⟨by rfl, rfl⟩) (by assumption) ?_ | (refine' wpAnyH_take (i := 9) (v := _) rfl (by kernel_rfl) (by kernel_rfl) (by kernel_rfl) (fun _ _ _ h => h) (Or.inl ⟨by rfl, ?hy9⟩) (by assumption) ?rest9; case hy9 => (intro w hSw; (try dsimp only at hSw); (first | (go_simp; done) | (go_simp; with_reducible rfl))))
  try simp only [Act.put, List.setIfInBounds_toArray, List.set_cons_zero, List.set_cons_succ, List.getElem_toArray, List.getElem_cons_zero, List.getElem_cons_succ]
  first | refine wpAnyH_take (i := 10) (v := undef) rfl (by kernel_rfl) (by kernel_rfl) (by kernel_rfl) (fun _ _ _ h => h) (Or.inr ⟨by rfl, rfl⟩) (by assumption) ?_ | (refine' wpAnyH_take (i := 10) (v := _) rfl (by kernel_rfl) (by kernel_rfl) (by kernel_rfl) (fun _ _ _ h => h) (Or.inl ⟨by rfl, ?hy10⟩) (by assumption) ?rest10; case hy10 => (intro w hSw; (try dsimp only at hSw); (first | (go_simp; done) | (go_simp; with_reducible rfl))))
  try simp only [Act.put, List.setIfInBounds_toArray, List.set_cons_zero, List.set_cons_succ, List.getElem_toArray, List.getElem_cons_zero, List.getElem_cons_succ]
  first | refine wpAnyH_take (i := 11) (v := undef) rfl (by kernel_rfl) (by kernel_rfl) (by kernel_rfl) (fun _ _ _ h => h) (Or.inr ⟨by rfl, rfl⟩) (by assumption) ?_ | (refine' wpAnyH_take (i := 11) (v := _) rfl (by kernel_rfl) (by kernel_rfl) (by kernel_rfl) (fun _ _ _ h => h) (Or.inl ⟨by rfl, ?hy11⟩) (by assumption) ?rest11; case hy11 => (intro w hSw; (try dsimp only at hSw); (first | (go_simp; done) | (go_simp; with_reducible rfl))))
  try simp only [Act.put, List.setIfInBounds_toArray, List.set_cons_zero, List.set_cons_succ, List.getElem_toArray, List.getElem_cons_zero, List.getElem_cons_succ]
  refine wpAnyH_ready (rs := [12]) (by kernel_rfl) (by simp) ?_
  refine AllReadyH.cons rfl (fun K hK => ?_) AllReadyH.nil
  try simp only [Act.put, List.getElem_toArray, List.getElem_cons_zero, List.getElem_cons_succ]
  go_simp
  refine hK.out _ _ ?_ (fun hHeld => ?_)
  · (try dsimp only); (refine ⟨?_, ?_, ?_⟩ <;> (repeat (first | (with_reducible assumption) | (with_reducible refine far_drew ?_) | (with_reducible refine far_cell hn1 ?_) | (with_reducible refine far_cell hn2 ?_))))
  clear hK K
  try simp only [Act.put, List.setIfInBounds_toArray, List.set_cons_zero, List.set_cons_succ, List.getElem_toArray, List.getElem_cons_zero, List.getElem_cons_succ]
  first | refine wpAnyH_take (i := 13) (v := undef) rfl (by kernel_rfl) (by kernel_rfl) (by kernel_rfl) (fun _ _ _ h => h) (Or.inr ⟨by rfl, rfl⟩) (by assumption) ?_ | (refine' wpAnyH_take (i := 13) (v := _) rfl (by kernel_rfl) (by kernel_rfl) (by kernel_rfl) (fun _ _ _ h => h) (Or.inl ⟨by rfl, ?hy13⟩) (by assumption) ?rest13; case hy13 => (intro w hSw; (try dsimp only at hSw); (first | (go_simp; done) | (go_simp; with_reducible rfl))))
  try simp only [Act.put, List.setIfInBounds_toArray, List.set_cons_zero, List.set_cons_succ, List.getElem_toArray, List.getElem_cons_zero, List.getElem_cons_succ]
  first | refine wpAnyH_take (i := 14) (v := undef) rfl (by kernel_rfl) (by kernel_rfl) (by kernel_rfl) (fun _ _ _ h => h) (Or.inr ⟨by rfl, rfl⟩) (by assumption) ?_ | (refine' wpAnyH_take (i := 14) (v := _) rfl (by kernel_rfl) (by kernel_rfl) (by kernel_rfl) (fun _ _ _ h => h) (Or.inl ⟨by rfl, ?hy14⟩) (by assumption) ?rest14; case hy14 => (intro w hSw; (try dsimp only at hSw); (first | (go_simp; done) | (go_simp; with_reducible rfl))))
  try simp only [Act.put, List.setIfInBounds_toArray, List.set_cons_zero, List.set_cons_succ, List.getElem_toArray, List.getElem_cons_zero, List.getElem_cons_succ]
  refine wpAnyH_ready (rs := [15]) (by kernel_rfl) (by simp) ?_
  refine AllReadyH.cons rfl (fun K hK => ?_) AllReadyH.nil
  try simp only [Act.put, List.getElem_toArray, List.getElem_cons_zero, List.getElem_cons_succ]
  go_simp
  refine hK.out _ _ ?_ (fun hHeld => ?_)
  · (try dsimp only); (refine ⟨?_, ?_, ?_⟩ <;> (repeat (first | (with_reducible assumption) | (with_reducible refine far_drew ?_) | (with_reducible refine far_cell hn1 ?_) | (with_reducible refine far_cell hn2 ?_))))
  clear hK K
  try simp only [Act.put, List.setIfInBounds_toArray, List.set_cons_zero, List.set_cons_succ, List.getElem_toArray, List.getElem_cons_zero, List.getElem_cons_succ]
  refine wpAnyH_done (by kernel_rfl) ?_ _
  have u1 := HP.out.ou.storeO (k := k) (j := 2) HKO.out (by omega) (x := .int .i64 yo) (y := { d.o.getD k zDs with o := yo }) rfl
  have u2 := u1.storeO (k := k) (j := 3) (by show k < (d.o.set k _).length; rw [List.length_set]; exact HKO.out) (by omega) (x := .int .i64 yc) (y := { d.o.getD k zDs with o := yo, c := yc }) (by show _ = (encDs ((d.o.set k _).getD k zDs)).set 3 _; rw [setO_eq HKO.out]; rfl)
  dsimp only at u2
  rw [List.set_set] at u2
  have HU := Lib.hid (u2.grew ((Grew.refl _).drew))
  clear u1 u2 x0 z2 z3 c2 c3' cf2 cf3
  generalize ((v1.setCell _ _).setCell _ _).drew = w6 at *
  have hs : (w.alloc (.cells #[.slice a1 m ca, .slice b1 N cb] 29)).heap.size = w.heap.size + 1 := World.size_alloc ..
  obtain ⟨x0, x1, x2, x3⟩ := HU.out.box.two
  obtain ⟨r0, r1, r2, r3⟩ := HU.out.res.two
  rw [hs] at r0 r1 r2 r3
  have HS := Lib.hid hs
  clear hs
  go_wp2
  generalize hw : World.setCell (World.setCell _ _ _) _ _ = E
  rw [← HS.out] at hw
  obtain ⟨RR, GG, DD⟩ := HU.out.ret hw
  obtain ⟨k0, k1, -, -⟩ := RR.two
  rw [HS.out] at k0 k1
  refine bodyPost_ret (v := .tuple #[.agg #[.slice (some ⟨ga, 0, none⟩) m c3, .slice b3 N c4], .int .i64 0]) (by simp [results, Try.results21, go_sem, k0, k1]) rfl ?_
  exact ⟨_, _, by rw [HE.out], by rw [HE.out]; exact (DD.wider (by have := HS.out; omega)).own (w0 := w), ((Grew.refl w).alloc _).trans GG⟩
end Go.Proofs.Ytokijggckiidjaa

/- radix.Build. -/
import Derived.Test.YtdlhihllmidfeaaRb2
import Derived.BigQuiet
import Derived.Deep.CutBlock
namespace Go.Proofs.Ytdlhihllmidfeaa
open Go.RowKit Go.Mine

def LeavesC (cs : Array Value) (F : Fen) : Prop := cs.size = 768 ∧ ∀ i, i < 256 → cs[i * 3]? = some (.slice none 0 0) ∧ cs[i * 3 + 1]? = some (.int .i64 (F i).1) ∧ cs[i * 3 + 2]? = some (.int .i64 (F i).2)
theorem LeavesC.leaves {w : World} {K : Nat} {T : TypeId} {cs : Array Value} {F : Fen} (h : LeavesC cs F) (o : Own w K T cs) : LeavesAt w K F := fun i hi => by
  obtain ⟨c0, c1, c2⟩ := h.2 i hi
  exact ⟨(o.cell _).trans c0, (o.cell _).trans c1, (o.cell _).trans c2⟩
theorem LeavesC.put {cs : Array Value} {F : Fen} (h : LeavesC cs F) {k : Nat} (hk : k < 256) (l : Lef) :
    LeavesC (((cs.setIfInBounds (k * 3) (.slice none 0 0)).setIfInBounds (k * 3 + 1) (.int .i64 l.1)).setIfInBounds (k * 3 + 2) (.int .i64 l.2)) (updG F k l) := by
  have hs := h.1
  refine ⟨by simp [hs], fun j hj => ?_⟩
  by_cases e : j = k
  · subst e
    rw [updG, if_pos rfl]
    exact ⟨by simp [Array.getElem?_setIfInBounds, hs]; omega, by simp [Array.getElem?_setIfInBounds, hs]; omega, by simp [Array.getElem?_setIfInBounds, hs]; omega⟩
  · obtain ⟨c0, c1, c2⟩ := h.2 j hj
    rw [updG, if_neg e]
    refine ⟨?_, ?_, ?_⟩
    · rw [Array.getElem?_setIfInBounds_ne (by omega), Array.getElem?_setIfInBounds_ne (by omega), Array.getElem?_setIfInBounds_ne (by omega)]; exact c0
    · rw [Array.getElem?_setIfInBounds_ne (by omega), Array.getElem?_setIfInBounds_ne (by omega), Array.getElem?_setIfInBounds_ne (by omega)]; exact c1
    · rw [Array.getElem?_setIfInBounds_ne (by omega), Array.getElem?_setIfInBounds_ne (by omega), Array.getElem?_setIfInBounds_ne (by omega)]; exact c2
theorem zero77 : Try.zeroCells77 = ((List.replicate 256 [Value.slice none 0 0, Value.int .i64 0, Value.int .i64 0]).flatten).toArray := by kernel_rfl
theorem LeavesC.zero : LeavesC Try.zeroCells77 (fnOf []) := by
  rw [zero77]
  have h3 : ∀ (n : Nat), ((List.replicate n [Value.slice none 0 0, Value.int .i64 0, Value.int .i64 0]).flatten).length = n * 3 := fun n => by simp [List.length_flatten]
  have hat : ∀ (n i j : Nat), i < n → j < 3 → ((List.replicate n [Value.slice none 0 0, Value.int .i64 0, Value.int .i64 0]).flatten)[i * 3 + j]? = [Value.slice none 0 0, Value.int .i64 0, Value.int .i64 0][j]? := by
    intro n
    induction n with
    | zero => intro i j hi; omega
    | succ n ih =>
      intro i j hi hj
      rw [List.replicate_succ, List.flatten_cons]
      cases i with
      | zero => rw [List.getElem?_append_left (by simp; omega), Nat.zero_mul, Nat.zero_add]
      | succ i =>
        rw [List.getElem?_append_right (by simp; omega), ← ih i j (by omega) hj]
        congr 1
        simp
        omega
  refine ⟨by rw [List.size_toArray, h3], fun i hi => ⟨?_, ?_, ?_⟩⟩
  · rw [List.getElem?_toArray]; exact hat 256 i 0 hi (by omega)
  · rw [List.getElem?_toArray]; exact hat 256 i 1 hi (by omega)
  · rw [List.getElem?_toArray]; exact hat 256 i 2 hi (by omega)
def zeroTup (er : Int) : Value := .tuple #[treeV 0 (.slice none 0 0) 0 0, .int .i64 er]
def RetBd (L : List En) (w : World) (e : Ending) (w' : World) : Prop := Grew w w' ∧ ((bldE L = 0 ∧ ∃ s x m, e = .returned (.tuple #[treeV (hF (topOf L)) s x m, .int .i64 0]) ∧ TreeF w' (fun b => w.heap.size ≤ b) (hF (topOf L)) (fnOf L) s x m) ∨ (bldE L ≠ 0 ∧ e = .returned (zeroTup (bldE L))))
theorem ent_cel {T : TypeId} {w : World} {B p n c : Nat} {a : Option Addr} {L : List En} (h : RowE T 3 encE w B (.slice a n c) L) (hp : p < L.length) : ∃ g, a = some ⟨g, 0, none⟩ ∧ g < w.heap.size ∧ w.cell? ⟨g, p * 3, none⟩ = some (.int .i64 (L.getD p (0, (0, 0))).1) ∧
    w.cell? ⟨g, p * 3 + 1, none⟩ = some (.int .i64 (L.getD p (0, (0, 0))).2.1) ∧ w.cell? ⟨g, p * 3 + 2, none⟩ = some (.int .i64 (L.getD p (0, (0, 0))).2.2) := by
  obtain ⟨a', n', c', e, hn, hr⟩ := RowE.ents h
  injection e with e1 e2 e3
  subst e1
  obtain ⟨g, rfl, hg, -, h0, h1, h2⟩ := hr p (by omega)
  exact ⟨g, rfl, hg, h0, h1, h2⟩
/-- All entries ahead of k are right. -/
def OkTo (L : List En) (k : Nat) : Prop := ∀ j, j < k → chkEn (L.getD j (0, (0, 0))) = 0
def NdTo (L : List En) (k : Nat) : Prop := ∀ j, j < k → dupAt L j = false
theorem OkTo.next {L : List En} {k : Nat} (h : OkTo L k) (e : chkEn (L.getD k (0, (0, 0))) = 0) : OkTo L (k + 1) := fun j hj => by
  rcases Nat.lt_or_ge j k with h1 | h1
  · exact h j h1
  · have : j = k := by omega
    subst this; exact e
theorem NdTo.next {L : List En} {k : Nat} (h : NdTo L k) (e : dupAt L k = false) : NdTo L (k + 1) := fun j hj => by
  rcases Nat.lt_or_ge j k with h1 | h1
  · exact h j h1
  · have : j = k := by omega
    subst this; exact e
theorem top_lt {L : List En} (ok : EntOK L) : topOf L < 256 := by
  obtain ⟨-, h2⟩ := topOf_spec L.length L rfl
  rcases h2 with h2 | ⟨e, he, h2⟩
  · omega
  · have := ok e he; omega
/-- What a leaf tells of a double entry, and what becomes of the leaves. -/
theorem leaf_dup {L : List En} (ok : EntOK L) {k ix : Nat} {lv lm : Int} (hk : k < L.length) (he : L.getD k (0, (0, 0)) = ((ix : Int), (lv, lm))) : ((fnOf (L.take k) ix).1 = 0 ↔ dupAt L k = false) ∧
    (dupAt L k = false → fnOf (L.take (k + 1)) = updG (fnOf (L.take k)) ix (lv, lm)) ∧ topOf (L.take (k + 1)) = if topOf (L.take k) < ix then ix else topOf (L.take k) := by
  have htk := take_getD (d := ((0 : Int), ((0 : Int), (0 : Int)))) L k hk
  refine ⟨?_, fun hd => ?_, ?_⟩
  · rw [fnOf_hit (ok.take k)]
    unfold dupAt
    rw [he]
  · rw [htk, he]
    have := fnOf_snoc (L := L.take k) (e := ((ix : Int), (lv, lm))) (by show (0 : Int) ≤ (ix : Int); omega) (by unfold dupAt at hd; rw [he] at hd; exact hd)
    rw [this]
    rfl
  · rw [htk, topOf_snoc, he]
    rfl
theorem row_off3 {T : TypeId} {w w' : World} {B K k : Nat} {v s x m : Value} {L : List En} (hw : ((w.setCell ⟨K, k * 3, none⟩ s).setCell ⟨K, k * 3 + 1, none⟩ x).setCell ⟨K, k * 3 + 2, none⟩ m = w') (R : RowE T 3 encE w B v L) (h : ∀ b, v.ownBlock = some b → b ≠ K) : RowE T 3 encE w' B v L := by
  rw [← hw]
  have hp : v.ownBlock ≠ some K := fun e => h K e rfl
  exact RowE.set (p := ⟨K, k * 3 + 2, none⟩) (RowE.set (p := ⟨K, k * 3 + 1, none⟩) (RowE.set (p := ⟨K, k * 3, none⟩) R hp s) hp x) hp m
theorem shift0 (F : Fen) : shiftF F 0 = F := by funext i; unfold shiftF; rw [Nat.zero_add]
set_option maxRecDepth 100000 in
set_option maxHeartbeats 8000000 in
theorem build_f (B : Nat) (v : Value) (L : List En) (w : World) (R : RowE 51 3 encE w B v L) (hL : L.length ≤ 300) (hw : ∀ e ∈ L, (Lit.int .i64 e.2.1).wf = true) :
    Calls Try.prog 35 #[v] w (RetBd L w) := by
  obtain ⟨a, n, c, rfl, hn, -⟩ := RowE.ents R
  have HR := Lib.hid R
  have HW := Lib.hid hw
  have HN := Lib.hid hn
  have hn3 : n ≤ 300 := by omega
  have HU := Lib.hid R.lt
  clear R hw hn
  have O0 := Lib.hid (Own.new w 28 #[.int .i64 0, .slice none 0 0, .int .i64 0, .int .i64 0])
  have g0 := Lib.hid (show Grew w (w.alloc (.cells #[.int .i64 0, .slice none 0 0, .int .i64 0, .int .i64 0] 28)) from (Grew.refl w).alloc _)
  have HR0 := Lib.hid (HR.out.grew g0.out)
  go_enter Try.func35, Try.ntmps35
  go_wp2_with fail
  go_loopw [13] (fun iv wr => ∃ k : Nat, iv = .int .i64 k ∧ k ≤ n ∧ OkTo L k ∧ RowE 51 3 encE wr B (.slice a n c) L ∧ Own wr w.heap.size 28 #[.int .i64 0, .slice none 0 0, .int .i64 0, .int .i64 0] ∧ Grew w wr) (fun iv _ => n - (intOf iv).toNat)
  case atStart => exact ⟨0, rfl, by omega, fun j hj => by omega, HR0.out, O0.out, g0.out⟩
  case round =>
    clear HR0 O0 g0
    obtain ⟨k, rfl, hk, OK, R, O, G⟩ := hrel
    have HR1 := Lib.hid R
    have HOK := Lib.hid OK
    clear R OK
    by_cases hlt : k < n
    · have hkl : k < L.length := by have := HN.out; omega
      obtain ⟨ge, rfl, hge, c0, c1, c2⟩ := ent_cel HR1.out hkl
      have HAT := Lib.hid (fun (h : chkEn (L.getD k (0, (0, 0))) ≠ 0) => errL_at L k hkl HOK.out h)
      have HNX := Lib.hid (fun (h : chkEn (L.getD k (0, (0, 0))) = 0) => HOK.out.next h)
      generalize L.getD k (0, (0, 0)) = en at *
      obtain ⟨ei, ex, em⟩ := en
      dsimp only at c0 c1 c2
      have k0 : (0 : Int) ≤ (k : Int) := by omega
      have k1 : (k : Int) < (n : Int) := by omega
      have X := Own.new wr 51 #[.int .i64 ei, .int .i64 ex, .int .i64 em]
      have gX : Grew wr (wr.alloc (.cells #[.int .i64 ei, .int .i64 ex, .int .i64 em] 51)) := (Grew.refl wr).alloc _
      have HX := Lib.hid X
      have HgX := Lib.hid gX
      clear X gX
      go_upto_region 4 with fail
      have X := HX.out
      have R2 := Lib.hid (HR1.out.grew HgX.out)
      have O2 := O.grew HgX.out
      have G2 := G.trans HgX.out
      obtain ⟨x0, x1, x2, x3, x4, x5⟩ := X.three
      have lX := X.lt
      clear c0 c1 c2 HR1 O G HX HgX X hge
      generalize World.alloc wr _ = w2 at *
      generalize wr.heap.size = sx at *
      go_wp2_with fail
      with_reducible refine (checkEntry_f ei ex em _).mono ?_
      rintro e w3 ⟨rfl, g3⟩
      have R3 := Lib.hid (R2.out.grew g3)
      have O3 := O2.grew g3
      have G3 := G2.trans g3
      clear x0 x1 x2 x3 x4 x5 lX R2 O2 G2 g3
      by_cases hc : chkEn (ei, (ex, em)) = 0
      · have HC := Lib.hid hc
        rw [hc]
        clear hc
        go_wp2_with fail
        go_roundw
        case rel => exact ⟨k + 1, by go_num, by omega, HNX.out HC.out, R3.out, O3, G3⟩
        case measure => simp [intOf]; omega
      · have he := HAT.out hc
        have hb : bldE L = chkEn (ei, (ex, em)) := by rw [bldE_err (by rw [he]; exact hc), he]
        have HB := Lib.hid hb
        have HC := Lib.hid hc
        generalize chkEn (ei, (ex, em)) = er at *
        have e1 : (er != 0) = true := by simpa using hc
        obtain ⟨t0, t1, t2, t3, t4, t5, t6, t7⟩ := O3.four
        have lT := O3.lt
        clear hb hc he
        go_wp2_with fail
        generalize hw3 : World.setCell (World.setCell (World.setCell (World.setCell _ _ _) _ _) _ _) _ _ = w4
        have OE := own4 hw3 O3
        have GE := grew4 hw3 G3 (Nat.le_refl _)
        clear hw3 t0 t1 t2 t3 t4 t5 t6 t7
        obtain ⟨b0, b1, b2, b3, -⟩ := OE.four
        refine bodyPost_ret (v := zeroTup er) (by simp [results, Try.results35, go_sem, b0, b1, b2, b3, zeroTup]) rfl ⟨GE, .inr ⟨by rw [HB.out]; exact HC.out, by rw [HB.out]⟩⟩
    · have hkn : k = n := by omega
      subst hkn
      have hall : ∀ j, j < L.length → chkEn (L.getD j (0, (0, 0))) = 0 := fun j hj => HOK.out j (by have := HN.out; omega)
      have HE := Lib.hid (errL_ok L hall)
      have ENT := Lib.hid (ok_of_chk hall HW.out)
      clear hall
      have HZ := Lib.hid LeavesC.zero
      have Z := Lib.hid (Own.new wr 77 Try.zeroCells77)
      have gZ := Lib.hid (show Grew wr (wr.alloc (.cells Try.zeroCells77 77)) from (Grew.refl wr).alloc _)
      go_upto_region 9 with fail
      have R2 := Lib.hid (HR1.out.grew gZ.out)
      have O2 := O.grew gZ.out
      have G2 := G.trans gZ.out
      have hwK : w.heap.size < wr.heap.size := O.lt
      clear HR1 O G gZ HOK hlt hk
      generalize World.alloc wr _ = w2 at *
      generalize wr.heap.size = Kb at *
      generalize Try.zeroCells77 = cs0 at *
      go_wp2_with fail
      go_loopw [8, 26] (fun hv iv wr => ∃ (k2 : Nat) (cs : Array Value), iv = .int .i64 k2 ∧ hv = .int .i64 (hF (topOf (L.take k2)) : Nat) ∧ k2 ≤ k ∧ NdTo L k2 ∧ LeavesC cs (fnOf (L.take k2)) ∧ Own wr Kb 77 cs ∧ RowE 51 3 encE wr B (.slice a k c) L ∧
        Own wr w.heap.size 28 #[.int .i64 0, .slice none 0 0, .int .i64 0, .int .i64 0] ∧ Grew w wr) (fun _ iv _ => k - (intOf iv).toNat)
      case atStart => exact ⟨0, cs0, rfl, rfl, by omega, fun j hj => by omega, HZ.out, Z.out, R2.out, O2, G2⟩
      case round =>
        clear HZ Z R2 O2 G2
        obtain ⟨k2, cs, rfl, rfl, hk2, ND, LC, KK, R, O, G⟩ := hrel
        have HR1 := Lib.hid R
        have HND := Lib.hid ND
        have HLC := Lib.hid LC
        clear R ND LC
        by_cases hlt : k2 < k
        · have hkl : k2 < L.length := by have := HN.out; omega
          obtain ⟨ge, rfl, hge, c0, c1, c2⟩ := ent_cel HR1.out hkl
          have hok := ENT.out (L.getD k2 (0, (0, 0))) (by rw [List.getD_eq_getElem?_getD, List.getElem?_eq_getElem hkl, Option.getD_some]; exact List.getElem_mem hkl)
          obtain ⟨en, hen⟩ : ∃ en, L.getD k2 (0, (0, 0)) = en := ⟨_, rfl⟩
          rw [hen] at c0 c1 c2 hok
          obtain ⟨ei, ex, em⟩ := en
          obtain ⟨ix, rfl⟩ := Int.eq_ofNat_of_zero_le hok.1
          have hix : ix < 256 := by have := hok.2.1; dsimp only at this; omega
          obtain ⟨hd1, hd2, hd3⟩ := leaf_dup ENT.out hkl hen
          have HLO := Lib.hid (show LefOK (ex, em) from hok.2.2.1)
          dsimp only at c0 c1 c2
          have D1 := Lib.hid hd1
          have D2 := Lib.hid hd2
          have D3 := Lib.hid (show hF (topOf (L.take (k2 + 1))) = if hF (topOf (L.take k2)) < hF ix then hF ix else hF (topOf (L.take k2)) from by rw [hd3, hF_max])
          have HDT := Lib.hid (fun (h : dupAt L k2 = true) => dupL_at hkl h)
          obtain ⟨l0, l1, l2⟩ := (HLC.out.leaves KK) ix hix
          obtain ⟨fv, hfv⟩ : ∃ fv, (fnOf (L.take k2) ix).1 = fv := ⟨_, rfl⟩
          rw [hfv] at D1 l1
          clear hd1 hd2 hd3 hok hen hfv
          have k0 : (0 : Int) ≤ (k2 : Int) := by omega
          have k1 : (k2 : Int) < (k : Int) := by omega
          have i0 : (0 : Int) ≤ (ix : Int) := by omega
          have i1 : (ix : Int) < 256 := by omega
          have HX := Lib.hid (Own.new wr 51 #[.int .i64 ix, .int .i64 ex, .int .i64 em])
          have HgX := Lib.hid (show Grew wr (wr.alloc (.cells #[.int .i64 ix, .int .i64 ex, .int .i64 em] 51)) from (Grew.refl wr).alloc _)
          have hKl : Kb < wr.heap.size := KK.lt
          go_upto_region 13 with fail
          have X := HX.out
          have R2 := Lib.hid (HR1.out.grew HgX.out)
          have O2 := O.grew HgX.out
          have G2 := G.trans HgX.out
          have KK2 := KK.grew HgX.out
          have m1 := (HgX.out.cells.1 Kb _ hKl).trans l1
          obtain ⟨x0, x1, x2, x3, x4, x5⟩ := X.three
          have lX := X.lt
          clear c0 c1 c2 l0 l1 l2 HR1 O G HX HgX KK hge
          generalize World.alloc wr _ = w2 at *
          generalize wr.heap.size = sx at *
          have lK := KK2.lt
          by_cases hf : fv = 0
          · subst hf
            have hno : dupAt L k2 = false := D1.out.1 rfl
            have HNO := Lib.hid hno
            have FN := D2.out hno
            have LC2 := HLC.out.put hix (ex, em)
            rw [← FN] at LC2
            have HLC2 := Lib.hid LC2
            obtain ⟨q0, q1, q2⟩ := HLC.out.2 ix hix
            have z0 := (KK2.cell _).trans q0
            have z1 := (KK2.cell _).trans q1
            have z2 := (KK2.cell _).trans q2
            have f0' := KK2.frozen (ix * 3)
            have f1' := KK2.frozen (ix * 3 + 1)
            have f2' := KK2.frozen (ix * 3 + 2)
            clear hno FN LC2 D1 D2 q0 q1 q2 z1
            obtain ⟨ov, hov⟩ : ∃ ov, (fnOf (L.take k2) ix).2 = ov := ⟨_, rfl⟩
            rw [hov] at z2
            clear hov
            go_upto_region 16 with fail
            generalize hw3 : World.setCell (World.setCell (World.setCell _ _ _) _ _) _ _ = w3
            have K3 := Own.put3 hw3 KK2
            have R3 := Lib.hid (row_off3 hw3 R2.out (fun b e => by have := HU.out b e; omega))
            have X3 := Own.off3 hw3 X (by omega)
            have O3 := Own.off3 hw3 O2 (by omega)
            have G3 := Grew.off3 hw3 G2 (by omega)
            clear hw3 x0 x1 x2 x3 x4 x5 lX lK m1 X R2 O2 G2 KK2 z0 z2 f0' f1' f2'
            obtain ⟨x0, x1, x2, x3, x4, x5⟩ := X3.three
            have lX := X3.lt
            obtain ⟨ha, hha⟩ : ∃ ha, hF (topOf (L.take k2)) = ha := ⟨_, rfl⟩
            obtain ⟨hb, hhb⟩ : ∃ hb, hF ix = hb := ⟨_, rfl⟩
            rw [hha, hhb] at D3
            rw [hha]
            have HHB := Lib.hid hhb
            clear hha hhb
            go_wp2_with fail
            with_reducible refine (heightFor_p ix _ hix).mono ?_
            rintro e w4 ⟨rfl, g4⟩
            rw [HHB.out]
            have R4 := Lib.hid (R3.out.grew g4)
            have O4 := O3.grew g4
            have K4 := K3.grew g4
            have G4 := G3.trans g4
            clear x0 x1 x2 x3 x4 x5 lX X3 R3 O3 K3 G3 g4
            by_cases hm : ha < hb
            · have hm1 : (ha : Int) < (hb : Int) := by omega
              have D4 := Lib.hid (show hF (topOf (L.take (k2 + 1))) = hb from by rw [D3.out, if_pos hm])
              go_wp2_with fail
              go_roundw
              case rel => exact ⟨k2 + 1, _, by go_num, by rw [D4.out]; try rfl, by omega, HND.out.next HNO.out, HLC2.out, K4, R4.out, O4, G4⟩
              case measure => simp [intOf]; omega
            · have hm1 : ¬((ha : Int) < (hb : Int)) := by omega
              have D4 := Lib.hid (show hF (topOf (L.take (k2 + 1))) = ha from by rw [D3.out, if_neg hm])
              go_wp2_with fail
              go_roundw
              case rel => exact ⟨k2 + 1, _, by go_num, by rw [D4.out]; try rfl, by omega, HND.out.next HNO.out, HLC2.out, K4, R4.out, O4, G4⟩
              case measure => simp [intOf]; omega
          · have hyes : dupAt L k2 = true := by
              cases hq : dupAt L k2
              · exact absurd (D1.out.2 hq) hf
              · rfl
            have hb : bldE L = 5 := bldE_dup HE.out (HDT.out hyes)
            have HB := Lib.hid hb
            have e1 : (fv != 0) = true := by simpa using hf
            obtain ⟨t0, t1, t2, t3, t4, t5, t6, t7⟩ := O2.four
            have lT := O2.lt
            clear hb hyes D1 D2
            go_wp2_with fail
            generalize hw3 : World.setCell (World.setCell (World.setCell (World.setCell _ _ _) _ _) _ _) _ _ = w4
            have OE := own4 hw3 O2
            have GE := grew4 hw3 G2 (Nat.le_refl _)
            clear hw3 t0 t1 t2 t3 t4 t5 t6 t7
            obtain ⟨b0, b1, b2, b3, -⟩ := OE.four
            refine bodyPost_ret (v := zeroTup 5) (by simp [results, Try.results35, go_sem, b0, b1, b2, b3, zeroTup]) rfl ⟨GE, .inr ⟨by rw [HB.out]; decide, by rw [HB.out]⟩⟩
        · have hkk : k2 = k := by omega
          subst hkk
          have hNoD : dupL L = false := dupL_no (fun j hj => HND.out j (by have := HN.out; omega))
          have HB := Lib.hid (bldE_ok HE.out hNoD)
          have htk : L.take k2 = L := List.take_of_length_le (by have := HN.out; omega)
          rw [htk] at HLC ⊢
          have LV := Lib.hid (HLC.out.leaves KK)
          have h4 := hF_le (topOf L)
          have HT := Lib.hid (top_lt ENT.out)
          obtain ⟨hh, hhh⟩ : ∃ hh, hF (topOf L) = hh := ⟨_, rfl⟩
          have HHH := Lib.hid hhh
          rw [hhh] at h4 ⊢
          have hpb := p4_mono h4
          have hpp := p4_pos hh
          have hpb2 : p4 hh ≤ 256 := hpb
          clear hhh htk hNoD HLC HND hpb
          obtain ⟨P, hP⟩ : ∃ P, p4 hh = P := ⟨_, rfl⟩
          have HJ := Lib.hid (show ∀ w', LeavesAt w' Kb (fnOf L) → Calls Try.prog 62 #[.slice (some ⟨Kb, 0, none⟩) P 256] w' (RetNd hh (fnOf L) (fun b => w'.heap.size ≤ b) w') from fun w' lv => by
            have := join_f Kb (fnOf L) (fnOf_good ENT.out) hh 0 256 w' h4 lv (by omega) (by omega)
            rw [shift0, hP] at this
            exact this)
          have HWd := Lib.hid (show ∀ w', Calls Try.prog 42 #[.int .i64 hh] w' (RetS (.int .i64 (P : Nat)) w') from fun w' => by have := width_any hh w' h4; rw [hP] at this; exact this)
          rw [hP] at hpp hpb2
          clear hP
          have p0 : (0 : Int) ≤ (P : Int) := by omega
          have p1 : (P : Int) ≤ 256 := by omega
          go_wp2_with fail
          with_reducible refine (HWd.out _).mono ?_
          rintro e w3 ⟨rfl, rfl⟩
          have lK := KK.lt
          go_wp2_with fail
          with_reducible refine (HJ.out _ LV.out).mono ?_
          rintro e w5 ⟨s', x', m', rfl, n5, g5⟩
          obtain ⟨a', j', c', rfl⟩ := n5.slice
          have HN5 := Lib.hid n5
          have O5 := O.grew g5
          have G5 := G.trans g5
          have hwr : w.heap.size < wr.heap.size := O.lt
          clear n5 g5 O G
          obtain ⟨t0, t1, t2, t3, t4, t5, t6, t7⟩ := O5.four
          have lT := O5.lt
          go_wp2_with fail
          generalize hw3 : World.setCell (World.setCell (World.setCell (World.setCell _ _ _) _ _) _ _) _ _ = w6
          have OE := own4 hw3 O5
          have GE := grew4 hw3 G5 (Nat.le_refl _)
          have nE := node4 hw3 HN5.out (fun b hb => by omega)
          clear hw3 t0 t1 t2 t3 t4 t5 t6 t7
          obtain ⟨b0, b1, b2, b3, -⟩ := OE.four
          have nE2 : NodeF w6 (fun b => w.heap.size ≤ b) (hF (topOf L)) (fnOf L) (.slice a' j' c') x' m' := by rw [HHH.out]; exact nE.mono (fun b hb _ => by omega)
          exact bodyPost_ret (v := .tuple #[treeV hh (.slice a' j' c') x' m', .int .i64 0]) (by simp [results, Try.results35, go_sem, b0, b1, b2, b3]) rfl ⟨GE, .inl ⟨HB.out, _, _, _, by rw [HHH.out], made_tree ENT.out nE2⟩⟩
end Go.Proofs.Ytdlhihllmidfeaa

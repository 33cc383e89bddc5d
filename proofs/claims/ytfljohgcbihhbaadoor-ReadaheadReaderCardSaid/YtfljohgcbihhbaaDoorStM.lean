/- Streams (layer 6): what they are as values, and what is told of them. -/
import Derived.Test.YtfljohgcbihhbaaDoorBase
import Derived.Test.YtfljohgcbihhbaaDoorRows2
namespace Go.Mine
open Go Go.RowKit

/-- A stream: kind, start, end, step, hits, stamp. -/
structure Str where
  k : Int
  a : Int
  b : Int
  d : Int
  h : Int
  t : Int
theorem Str.eq {x y : Str} (h1 : x.k = y.k) (h2 : x.a = y.a) (h3 : x.b = y.b) (h4 : x.d = y.d) (h5 : x.h = y.h) (h6 : x.t = y.t) : x = y := by
  obtain ⟨k, a, b, d, h, t⟩ := x
  obtain ⟨k', a', b', d', h', t'⟩ := y
  simp only at h1 h2 h3 h4 h5 h6
  subst h1 h2 h3 h4 h5 h6
  rfl
def encS (x : Str) : List Value := [.int .i64 x.k, .int .i64 x.a, .int .i64 x.b, .int .i64 x.d, .int .i64 x.h, .int .i64 x.t]
theorem encS_len (x : Str) : (encS x).length = 6 := rfl
theorem encS_one {x : Str} : ∀ u ∈ encS x, u.oneCell' = true := by intro u hu; simp [encS] at hu; rcases hu with rfl | rfl | rfl | rfl | rfl | rfl <;> rfl
abbrev strV (x : Str) : Value := .agg #[.int .i64 x.k, .int .i64 x.a, .int .i64 x.b, .int .i64 x.d, .int .i64 x.h, .int .i64 x.t]
def zS : Str := ⟨0, 0, 0, 0, 0, 0⟩

def AccP (a b : Int) : Prop := 0 ≤ a ∧ a < b ∧ b ≤ 256
def StpP (d l : Int) : Prop := (2 ≤ d ∧ d ≤ 8 ∧ l ≤ d) ∨ (-8 ≤ d ∧ d ≤ -2 ∧ l ≤ -d)
def RgtP (x : Str) : Prop := AccP x.a x.b ∧ 0 ≤ x.h ∧ x.h ≤ 1000000 ∧ 0 ≤ x.t ∧ x.t ≤ 1000000 ∧ (x.h = 0 ↔ x.k = 1) ∧ (((x.k = 1 ∨ x.k = 2 ∨ x.k = 3) ∧ x.d = 0) ∨ (x.k = 4 ∧ StpP x.d (x.b - x.a)))
instance (a b : Int) : Decidable (AccP a b) := by unfold AccP; infer_instance
instance (d l : Int) : Decidable (StpP d l) := by unfold StpP; infer_instance
instance (x : Str) : Decidable (RgtP x) := by unfold RgtP; infer_instance
def accB (a b : Int) : Bool := decide (AccP a b)
def cntB (n : Int) : Bool := decide (0 ≤ n ∧ n ≤ 1000000)
def stpB (d l : Int) : Bool := decide (StpP d l)
def rgtB (x : Str) : Bool := decide (RgtP x)
/-- Its step is a small number. -/
def Mild (x : Str) : Prop := -1000 ≤ x.d ∧ x.d ≤ 1000
def canB (x : Str) (k : Int) : Bool := decide (x.k = 1 ∨ x.k = k)
def fwdB (x : Str) (a b : Int) : Bool := decide ((x.k = 1 ∨ x.k = 2) ∧ (a = x.b ∨ a = x.b - 1) ∧ x.b < b)
def bwdB (x : Str) (a b : Int) : Bool := decide ((x.k = 1 ∨ x.k = 3) ∧ (b = x.a ∨ b = x.a + 1) ∧ a < x.a)
def sdB (x : Str) (a b : Int) : Bool := decide ((x.k = 1 ∨ (x.k = 4 ∧ a - x.a = x.d)) ∧ StpP (a - x.a) (x.b - x.a) ∧ StpP (a - x.a) (b - a))
def agnB (x : Str) (a b : Int) : Bool := decide (x.a ≤ a ∧ b ≤ x.b)
def minH (h : Int) : Int := min (h + 1) 1000000
/-- A stream with one more access. -/
def grwF (x : Str) (k d a b : Int) : Str := ⟨k, a, b, d, minH x.h, x.t⟩
/-- What it becomes by an access; and whether the access matches. -/
def becF (x : Str) (a b : Int) : Str :=
  match rgtB x && accB a b with
  | false => x
  | true => match fwdB x a b with
    | true => grwF x 2 0 a b
    | false => match bwdB x a b with
      | true => grwF x 3 0 a b
      | false => match sdB x a b with
        | true => grwF x 4 (a - x.a) a b
        | false => x
def mtcB (x : Str) (a b : Int) : Bool := rgtB x && accB a b && (fwdB x a b || bwdB x a b || sdB x a b || agnB x a b)

/-! Blocks of six cells; rows of streams. -/
section
variable {w : World} {g : Nat} {t : TypeId}
theorem Own.six {a b c d e f : Value} (o : Own w g t #[a, b, c, d, e, f]) : w.cell? ⟨g, 0, none⟩ = some a ∧ w.cell? ⟨g, 1, none⟩ = some b ∧ w.cell? ⟨g, 2, none⟩ = some c ∧ w.cell? ⟨g, 3, none⟩ = some d ∧
    w.cell? ⟨g, 4, none⟩ = some e ∧ w.cell? ⟨g, 5, none⟩ = some f :=
  ⟨(o.cell 0).trans rfl, (o.cell 1).trans rfl, (o.cell 2).trans rfl, (o.cell 3).trans rfl, (o.cell 4).trans rfl, (o.cell 5).trans rfl⟩
theorem Own.six_free {cs : Array Value} (o : Own w g t cs) : w.frozen? ⟨g, 0, none⟩ = false ∧ w.frozen? ⟨g, 1, none⟩ = false ∧ w.frozen? ⟨g, 2, none⟩ = false ∧ w.frozen? ⟨g, 3, none⟩ = false ∧
    w.frozen? ⟨g, 4, none⟩ = false ∧ w.frozen? ⟨g, 5, none⟩ = false :=
  ⟨o.frozen 0, o.frozen 1, o.frozen 2, o.frozen 3, o.frozen 4, o.frozen 5⟩
theorem Own.sixA {a b c d e f : Value} (o : Own w g t #[a, b, c, d, e, f]) : w.cell? ⟨g, 0, none⟩ = some a ∧ w.cell? ⟨g, 1, none⟩ = some b ∧ w.cell? ⟨g, 2, none⟩ = some c ∧ w.cell? ⟨g, 3, none⟩ = some d ∧
    w.cell? ⟨g, 4, none⟩ = some e ∧ w.cell? ⟨g, 5, none⟩ = some f ∧ w.frozen? ⟨g, 0, none⟩ = false ∧ w.frozen? ⟨g, 1, none⟩ = false ∧ w.frozen? ⟨g, 2, none⟩ = false ∧ w.frozen? ⟨g, 3, none⟩ = false ∧
    w.frozen? ⟨g, 4, none⟩ = false ∧ w.frozen? ⟨g, 5, none⟩ = false :=
  ⟨(o.cell 0).trans rfl, (o.cell 1).trans rfl, (o.cell 2).trans rfl, (o.cell 3).trans rfl, (o.cell 4).trans rfl, (o.cell 5).trans rfl, o.frozen 0, o.frozen 1, o.frozen 2, o.frozen 3, o.frozen 4, o.frozen 5⟩
abbrev csS (x : Str) : Array Value := #[.int .i64 x.k, .int .i64 x.a, .int .i64 x.b, .int .i64 x.d, .int .i64 x.h, .int .i64 x.t]
end
theorem Own.store6 {w w' : World} {g : Nat} {t : TypeId} {cs : Array Value} {a b c d e f : Value} (h : Own w g t cs) (hs : cs.size = 6)
    (hw : (((((w.setCell ⟨g, 0, none⟩ a).setCell ⟨g, 1, none⟩ b).setCell ⟨g, 2, none⟩ c).setCell ⟨g, 3, none⟩ d).setCell ⟨g, 4, none⟩ e).setCell ⟨g, 5, none⟩ f = w') : Own w' g t #[a, b, c, d, e, f] := by
  obtain ⟨l⟩ := cs
  obtain ⟨a0, b0, c0, d0, e0, f0, rfl⟩ : ∃ a0 b0 c0 d0 e0 f0, l = [a0, b0, c0, d0, e0, f0] := by
    match l, hs with
    | [a0, b0, c0, d0, e0, f0], _ => exact ⟨a0, b0, c0, d0, e0, f0, rfl⟩
  rw [← hw]
  exact (((((h.set 0 a).set 1 b).set 2 c).set 3 d).set 4 e).set 5 f
theorem Own.far6 {w w' : World} {g b : Nat} {t : TypeId} {cs : Array Value} {u v x y z s : Value} (h : Own w g t cs)
    (hw : (((((w.setCell ⟨b, 0, none⟩ u).setCell ⟨b, 1, none⟩ v).setCell ⟨b, 2, none⟩ x).setCell ⟨b, 3, none⟩ y).setCell ⟨b, 4, none⟩ z).setCell ⟨b, 5, none⟩ s = w') (hne : g ≠ b) : Own w' g t cs := by
  rw [← hw]
  exact (((((h.far (p := ⟨b, 0, none⟩) hne u).far (p := ⟨b, 1, none⟩) hne v).far (p := ⟨b, 2, none⟩) hne x).far (p := ⟨b, 3, none⟩) hne y).far (p := ⟨b, 4, none⟩) hne z).far (p := ⟨b, 5, none⟩) hne s
theorem Grew.far6 {a w w' : World} {b : Nat} {u v x y z s : Value} (h : Grew a w)
    (hw : (((((w.setCell ⟨b, 0, none⟩ u).setCell ⟨b, 1, none⟩ v).setCell ⟨b, 2, none⟩ x).setCell ⟨b, 3, none⟩ y).setCell ⟨b, 4, none⟩ z).setCell ⟨b, 5, none⟩ s = w') (hb : a.heap.size ≤ b) : Grew a w' := by
  rw [← hw]
  exact (((((h.set (p := ⟨b, 0, none⟩) hb u).set (p := ⟨b, 1, none⟩) hb v).set (p := ⟨b, 2, none⟩) hb x).set (p := ⟨b, 3, none⟩) hb y).set (p := ⟨b, 4, none⟩) hb z).set (p := ⟨b, 5, none⟩) hb s
abbrev z6 : Array Value := #[.int .i64 0, .int .i64 0, .int .i64 0, .int .i64 0, .int .i64 0, .int .i64 0]
/-- The k-th stream of the row is read at g: its six cells. -/
def ElS (w : World) (g k : Nat) (x : Str) : Prop := w.cell? ⟨g, k * 6, none⟩ = some (.int .i64 x.k) ∧ w.cell? ⟨g, k * 6 + 1, none⟩ = some (.int .i64 x.a) ∧ w.cell? ⟨g, k * 6 + 2, none⟩ = some (.int .i64 x.b) ∧
  w.cell? ⟨g, k * 6 + 3, none⟩ = some (.int .i64 x.d) ∧ w.cell? ⟨g, k * 6 + 4, none⟩ = some (.int .i64 x.h) ∧ w.cell? ⟨g, k * 6 + 5, none⟩ = some (.int .i64 x.t)
theorem ElS.grew {w w' : World} {g k : Nat} {x : Str} (h : ElS w g k x) (G : Grew w w') (hg : g < w.heap.size) : ElS w' g k x :=
  ⟨(G.cells.1 g _ hg).trans h.1, (G.cells.1 g _ hg).trans h.2.1, (G.cells.1 g _ hg).trans h.2.2.1, (G.cells.1 g _ hg).trans h.2.2.2.1, (G.cells.1 g _ hg).trans h.2.2.2.2.1, (G.cells.1 g _ hg).trans h.2.2.2.2.2⟩
theorem RowE.strs {T : TypeId} {w : World} {B : Nat} {v : Value} {L : List Str} (h : RowE T 6 encS w B v L) : ∃ a n c, v = .slice a n c ∧ n = L.length ∧
    ∀ k, k < n → ∃ g, a = some ⟨g, 0, none⟩ ∧ g < w.heap.size ∧ v.ownBlock = some g ∧ ElS w g k (L.getD k zS) := by
  rcases h.shape encS_len with ⟨rfl, rfl⟩ | ⟨g, cap, rfl, -, hg, -, -, hcell, -⟩
  · exact ⟨none, 0, 0, rfl, rfl, fun k hk => by omega⟩
  · refine ⟨_, _, cap, rfl, rfl, fun k hk => ⟨g, rfl, hg, rfl, ?_⟩⟩
    have e : L.getD k zS = L[k] := by simp [List.getD, hk]
    rw [e]
    exact ⟨hcell k hk 0 (by omega), hcell k hk 1 (by omega), hcell k hk 2 (by omega), hcell k hk 3 (by omega), hcell k hk 4 (by omega), hcell k hk 5 (by omega)⟩
end Go.Mine

/- Zones (layer 10): which zones are made of sizes: plain mathematics, no program is named here. -/
import Derived.Test.YtphccdfdknihdaaZnF
namespace Go.Mine
open Go Go.RowKit

/-- The frames from a on, n of them. -/
def frmI (a : Int) : Nat → List Int
  | 0 => []
  | n + 1 => a :: frmI (a + 1) n
theorem frmI_len (a : Int) : ∀ n, (frmI a n).length = n
  | 0 => rfl
  | n + 1 => by
    show (frmI (a + 1) n).length + 1 = n + 1
    rw [frmI_len]
theorem frmI_mem : ∀ {n : Nat} {a x : Int}, x ∈ frmI a n → a ≤ x ∧ x < a + n
  | n + 1, a, x, h => by
    rcases List.mem_cons.1 h with rfl | h
    · omega
    · have := frmI_mem h; omega
theorem frmI_asc : ∀ (n : Nat) (a : Int), ascI (frmI a n)
  | 0, _ => List.Pairwise.nil
  | n + 1, a => List.pairwise_cons.2 ⟨fun x h => by have := frmI_mem h; omega, frmI_asc n (a + 1)⟩
theorem frmI_snoc : ∀ (n : Nat) (a : Int), frmI a (n + 1) = frmI a n ++ [a + n]
  | 0, a => by show [a] = [a + ((0 : Nat) : Int)]; simp
  | n + 1, a => by
    show a :: frmI (a + 1) (n + 1) = a :: (frmI (a + 1) n ++ [a + ((n + 1 : Nat) : Int)])
    rw [frmI_snoc n (a + 1)]
    congr 3
    omega
/-- The zone of n frames from nx on. -/
def mkZ (nx n : Int) : Zo := ⟨nx, n, n / 8, n / 4, n / 2, frmI nx n.toNat⟩
theorem mkZ_ok {nx n : Int} (h1 : 1 ≤ n) (h2 : n ≤ 65 - nx) : ZoOK (mkZ nx n) nx :=
  ⟨rfl, h1, h2, by show 0 ≤ n / 8; omega, by show n / 8 ≤ n / 4; omega, by show n / 4 ≤ n / 2; omega, by show n / 2 ≤ n; omega, fun x hx => by have := frmI_mem hx; show nx ≤ x ∧ x < nx + n; omega, frmI_asc _ _⟩
/-- Zones of these sizes, from nx on; none, if they are too large. -/
def newG : Int → List Int → Option (List Zo)
  | _, [] => some []
  | nx, n :: S => if 1 ≤ n ∧ n ≤ 65 - nx then (newG (nx + n) S).map (mkZ nx n :: ·) else none
def newX (S : List Int) : List Zo × Int := match S, newG 1 S with
  | [], _ => ([], 1)
  | _, none => ([], 2)
  | _, some L => (L, 0)
/-- Behind the first k sizes. -/
def NwI (S : List Int) (k : Nat) (L : List Zo) (nx : Int) : Prop := RtZ 1 L ∧ nx = 1 + sizeZ L ∧ nx ≤ 65 ∧ L.length = k ∧ newG 1 S = (newG nx (S.drop k)).map (L ++ ·)
theorem size_app (z : Zo) : ∀ L : List Zo, sizeZ (L ++ [z]) = sizeZ L + z.s
  | [] => by show z.s + 0 = 0 + z.s; omega
  | y :: L => by
    have := size_app z L
    show y.s + sizeZ (L ++ [z]) = y.s + sizeZ L + z.s
    omega
theorem rt_app {z : Zo} : ∀ {L : List Zo} {nx : Int}, RtZ nx L → ZoOK z (nx + sizeZ L) → RtZ nx (L ++ [z])
  | [], nx, _, h => ⟨by simpa [sizeZ] using h, trivial⟩
  | y :: L, nx, h, h2 => ⟨h.1, rt_app h.2 (by
      have e : nx + sizeZ (y :: L) = nx + y.s + sizeZ L := by show nx + (y.s + sizeZ L) = _; omega
      rw [e] at h2
      exact h2)⟩
theorem NwI.zero (S : List Int) : NwI S 0 [] 1 := ⟨trivial, rfl, by omega, rfl, by
  rw [List.drop_zero]
  cases newG 1 S <;> rfl⟩
theorem NwI.nx1 {S : List Int} {k : Nat} {L : List Zo} {nx : Int} (h : NwI S k L nx) : 1 ≤ nx := by
  have := RtZ.size h.1
  have := h.2.1
  omega
theorem drop_at {S : List Int} {k : Nat} (h : k < S.length) : S.drop k = S.getD k 0 :: S.drop (k + 1) := by
  rw [List.drop_eq_getElem_cons h, getD_get h]
theorem NwI.next {S : List Int} {k : Nat} {L : List Zo} {nx n : Int} (h : NwI S k L nx) (hk : k < S.length) (hn : S.getD k 0 = n) (h1 : 1 ≤ n) (h2 : n ≤ 65 - nx) : NwI S (k + 1) (L ++ [mkZ nx n]) (nx + n) := by
  obtain ⟨a, b, c, d, e⟩ := h
  refine ⟨rt_app a (b ▸ mkZ_ok h1 h2), ?_, by omega, by simp [d], ?_⟩
  · rw [size_app]; show nx + n = 1 + (sizeZ L + n); omega
  · rw [e, drop_at hk, hn]
    show ((if 1 ≤ n ∧ n ≤ 65 - nx then (newG (nx + n) (S.drop (k + 1))).map (mkZ nx n :: ·) else none).map (L ++ ·)) = _
    rw [if_pos ⟨h1, h2⟩, Option.map_map]
    congr 1
    funext M
    simp
theorem NwI.bad {S : List Int} {k : Nat} {L : List Zo} {nx n : Int} (h : NwI S k L nx) (hk : k < S.length) (hn : S.getD k 0 = n) (h1 : ¬(1 ≤ n ∧ n ≤ 65 - nx)) : newX S = ([], 2) := by
  obtain ⟨a, b, c, d, e⟩ := h
  have : newG 1 S = none := by
    rw [e, drop_at hk, hn]
    show ((if 1 ≤ n ∧ n ≤ 65 - nx then (newG (nx + n) (S.drop (k + 1))).map (mkZ nx n :: ·) else none).map (L ++ ·)) = _
    rw [if_neg h1]
    rfl
  cases S with
  | nil => exact absurd hk (by simp)
  | cons s S => unfold newX; rw [this]
theorem NwI.last {S : List Int} {L : List Zo} {nx : Int} (h : NwI S S.length L nx) (h0 : 0 < S.length) : newX S = (L, 0) := by
  obtain ⟨a, b, c, d, e⟩ := h
  have : newG 1 S = some L := by
    rw [e, List.drop_length]
    show some (L ++ []) = some L
    rw [List.append_nil]
  cases S with
  | nil => exact absurd h0 (by simp)
  | cons s S => unfold newX; rw [this]
end Go.Mine

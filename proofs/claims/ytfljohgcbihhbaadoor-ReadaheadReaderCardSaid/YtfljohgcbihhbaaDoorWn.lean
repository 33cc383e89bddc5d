/- Windows (layer 7): what they are as values, and what is told of them. -/
import Derived.Test.YtfljohgcbihhbaaDoorStM
namespace Go.Mine
open Go Go.RowKit

/-- A window: start, size, async. -/
structure Wn where
  s : Int
  n : Int
  y : Int
theorem Wn.eq {x z : Wn} (h1 : x.s = z.s) (h2 : x.n = z.n) (h3 : x.y = z.y) : x = z := by
  obtain ⟨a, b, c⟩ := x
  obtain ⟨a', b', c'⟩ := z
  simp only at h1 h2 h3
  subst h1 h2 h3
  rfl
abbrev wnV (x : Wn) : Value := .agg #[.int .i64 x.s, .int .i64 x.n, .int .i64 x.y]
abbrev csW (x : Wn) : Array Value := #[.int .i64 x.s, .int .i64 x.n, .int .i64 x.y]
abbrev z3 : Array Value := #[.int .i64 0, .int .i64 0, .int .i64 0]
def zW : Wn := ⟨0, 0, 0⟩
def ZerP (x : Wn) : Prop := x.s = 0 ∧ x.n = 0 ∧ x.y = 0
def WokP (x : Wn) : Prop := ZerP x ∨ (0 ≤ x.s ∧ x.s ≤ 255 ∧ 1 ≤ x.n ∧ x.n ≤ 8 ∧ 0 ≤ x.y ∧ x.y ≤ x.n)
instance (x : Wn) : Decidable (ZerP x) := by unfold ZerP; infer_instance
instance (x : Wn) : Decidable (WokP x) := by unfold WokP; infer_instance
def zerB (x : Wn) : Bool := decide (ZerP x)
def wokB (x : Wn) : Bool := decide (WokP x)
def firF (n : Int) : Int := if n ≤ 1 then 2 else if n ≤ 2 then 4 else 8
def groF (n : Int) : Int := if n < 1 then 1 else if n ≤ 4 then 2 * n else 8
def mrkB (x : Wn) : Bool := wokB x && !decide (x.y = 0)
def mrkF (x : Wn) : Int := if mrkB x = true then x.s + x.n - x.y else 0
/-- The access from a to b - 1 has its marker or its last page. -/
def AskP (x : Wn) (a b : Int) : Prop := (¬x.y = 0 ∧ a ≤ x.s + x.n - x.y ∧ x.s + x.n - x.y < b) ∨ (a ≤ x.s + x.n - 1 ∧ x.s + x.n - 1 < b)
def NearP (x : Wn) (a b : Int) : Prop := 0 < x.n ∧ x.s - x.n ≤ b - 1 ∧ a ≤ x.s + x.n
instance (x : Wn) (a b : Int) : Decidable (AskP x a b) := by unfold AskP; infer_instance
instance (x : Wn) (a b : Int) : Decidable (NearP x a b) := by unfold NearP; infer_instance
def askB (x : Wn) (a b : Int) : Bool := decide (AskP x a b)
def nearB (x : Wn) (a b : Int) : Bool := decide (NearP x a b)
def frmW (s n : Int) : Wn := ⟨s, n, n⟩
/-- The window behind an access of a forward stream; whether it is a new one. -/
def nxW (x : Wn) (a b : Int) : Wn :=
  match askB x a b with
  | true => frmW (max (x.s + x.n) b) (groF x.n)
  | false => match nearB x a b with
    | true => x
    | false => frmW b (firF (b - a))
def nxB (x : Wn) (a b : Int) : Bool := askB x a b || !nearB x a b
/-- The numbers from s on, n of them. -/
def runL (s : Int) (n : Nat) : List Int := (List.range n).map fun (i : Nat) => s + (i : Int)
theorem runL_len (s : Int) (n : Nat) : (runL s n).length = n := by simp [runL]
theorem runL_succ (s : Int) (n : Nat) : runL s (n + 1) = runL s n ++ [s + (n : Int)] := by simp [runL, List.range_succ]
theorem runL_at {s : Int} {n k : Nat} (h : k < n) : (runL s n).getD k 0 = s + (k : Int) := by simp [runL, List.getD, h]
theorem runL_mem {s p : Int} {n : Nat} (h : p ∈ runL s n) : s ≤ p ∧ p < s + (n : Int) := by
  simp only [runL, List.mem_map, List.mem_range] at h
  obtain ⟨k, hk, rfl⟩ := h
  omega
def pgsL (x : Wn) : List Int := runL x.s x.n.toNat
/-- Those before e. -/
def kpL (e : Int) : List Int → List Int := List.filter fun p => decide (p < e)
theorem kpL_len (e : Int) (L : List Int) : (kpL e L).length ≤ L.length := List.length_filter_le ..
theorem kpL_snoc (e x : Int) (L : List Int) : kpL e (L ++ [x]) = if x < e then kpL e L ++ [x] else kpL e L := by
  unfold kpL
  rw [List.filter_append]
  by_cases h : x < e
  · rw [if_pos h]; simp [h]
  · rw [if_neg h]; simp [h]
theorem kpL_all {e : Int} {L : List Int} (h : ∀ p ∈ L, p < e) : kpL e L = L := List.filter_eq_self.2 fun p hp => decide_eq_true (h p hp)
theorem kpL_none {e : Int} {L : List Int} (h : ∀ p ∈ L, ¬p < e) : kpL e L = [] := List.filter_eq_nil_iff.2 fun p hp => by simpa using h p hp
/-- Of a run those before e are a run. -/
theorem kpL_run (e s : Int) : ∀ n : Nat, kpL e (runL s n) = runL s (min n (e - s).toNat)
  | 0 => by rw [Nat.zero_min]; simp [runL, kpL]
  | n + 1 => by
    rw [runL_succ, kpL_snoc, kpL_run e s n]
    by_cases h : s + (n : Int) < e
    · rw [if_pos h, show min n (e - s).toNat = n from by omega, show min (n + 1) (e - s).toNat = n + 1 from by omega, runL_succ]
    · rw [if_neg h, show min (n + 1) (e - s).toNat = min n (e - s).toNat from by omega]
theorem runL_nil {s : Int} {n : Nat} : runL s n = [] ↔ n = 0 := by
  rw [← List.length_eq_zero_iff, runL_len]
theorem gro_pos (n : Int) : 1 ≤ groF n ∧ groF n ≤ 8 := by unfold groF; split <;> (try split) <;> omega
theorem fir_pos (n : Int) : 2 ≤ firF n ∧ firF n ≤ 8 := by unfold firF; split <;> (try split) <;> omega
theorem nx_new {x : Wn} {a b : Int} (h : nxB x a b = true) : 1 ≤ (nxW x a b).n ∧ (nxW x a b).n ≤ 8 ∧ (nxW x a b).y = (nxW x a b).n := by
  unfold nxB at h
  unfold nxW
  cases h1 : askB x a b
  · rw [h1] at h
    have h2 : nearB x a b = false := by simpa using h
    rw [h2]
    have := fir_pos (b - a)
    exact ⟨by show 1 ≤ firF (b - a); omega, this.2, rfl⟩
  · have := gro_pos x.n
    exact ⟨this.1, this.2, rfl⟩
theorem nx_old {x : Wn} {a b : Int} (h : nxB x a b = false) : nxW x a b = x := by
  unfold nxB at h
  rw [Bool.or_eq_false_iff] at h
  have h2 : nearB x a b = true := by simpa using h.2
  unfold nxW
  rw [h.1, h2]
theorem nx_start {x : Wn} {a b : Int} (hw : WokP x) (ha : AccP a b) (h : nxB x a b = true) : 0 ≤ (nxW x a b).s ∧ (nxW x a b).s ≤ 300 := by
  unfold AccP at ha
  unfold nxB at h
  unfold nxW
  cases h1 : askB x a b
  · rw [h1] at h
    have h2 : nearB x a b = false := by simpa using h
    rw [h2]
    show 0 ≤ b ∧ b ≤ 300
    omega
  · show 0 ≤ max (x.s + x.n) b ∧ max (x.s + x.n) b ≤ 300
    unfold WokP ZerP at hw
    omega
/-- The error of Plan. -/
def plE (x : Wn) (s : Str) (a b e : Int) : Int :=
  match wokB x && rgtB s with
  | false => 1
  | true => match accB a b && decide (0 ≤ e ∧ e ≤ 256) with
    | false => 2
    | true => 0
def surB (s : Str) : Bool := rgtB s && decide (2 ≤ s.h)
/-- Whether there is a new window, and it has a page before the end. -/
def newB (x : Wn) (a b e : Int) : Bool := nxB x a b && decide ((nxW x a b).s < e)
def pl2W (x : Wn) (a b e : Int) : Wn := match newB x a b e with
  | true => nxW x a b
  | false => x
def pl2L (x : Wn) (a b e : Int) : List Int := match newB x a b e with
  | true => kpL e (pgsL (nxW x a b))
  | false => []
theorem pl2_nil {x : Wn} {a b e : Int} (h : nxB x a b = true) : kpL e (pgsL (nxW x a b)) = [] ↔ ¬(nxW x a b).s < e := by
  have := nx_new h
  unfold pgsL
  rw [kpL_run, runL_nil]
  omega
end Go.Mine

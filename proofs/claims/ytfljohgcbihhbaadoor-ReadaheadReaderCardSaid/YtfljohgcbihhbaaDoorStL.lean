/- Lists of streams as functions of the place: what the functions of layer 6 make of them. -/
import Derived.Test.YtfljohgcbihhbaaDoorStM
namespace Go.Mine
open Go Go.RowKit

/-- The first n streams at a are f 0, f 1, ... -/
def Rd (w : World) (a : Option Addr) (n : Nat) (f : Nat → Str) : Prop := ∀ k, k < n → ∃ g, a = some ⟨g, 0, none⟩ ∧ g < w.heap.size ∧ ElS w g k (f k)
theorem Rd.grew {w w' : World} {a : Option Addr} {n : Nat} {f : Nat → Str} (h : Rd w a n f) (G : Grew w w') : Rd w' a n f := fun k hk => by
  obtain ⟨g, e, hg, he⟩ := h k hk
  exact ⟨g, e, Nat.lt_of_lt_of_le hg G.size, he.grew G hg⟩
theorem Rd.less {w : World} {a : Option Addr} {n m : Nat} {f : Nat → Str} (h : Rd w a n f) (hm : m ≤ n) : Rd w a m f := fun k hk => h k (by omega)
theorem RowE.rd {T : TypeId} {w : World} {B : Nat} {v : Value} {L : List Str} (h : RowE T 6 encS w B v L) : ∃ a c, v = .slice a L.length c ∧ Rd w a L.length (fun k => L.getD k zS) := by
  obtain ⟨a, n, c, rfl, rfl, hr⟩ := h.strs
  exact ⟨a, c, rfl, fun k hk => by obtain ⟨g, e, hg, -, he⟩ := hr k hk; exact ⟨g, e, hg, he⟩⟩
def hasN (f : Nat → Str) (t : Int) : Nat → Bool
  | 0 => false
  | k + 1 => hasN f t k || ((f k).t == t)
def ckN (f : Nat → Str) : Nat → Bool
  | 0 => true
  | k + 1 => ckN f k && (rgtB (f k) && !hasN f (f k).t k)
def lastN (f : Nat → Str) : Nat → Int
  | 0 => 0
  | k + 1 => if lastN f k < (f k).t then (f k).t else lastN f k
def mtL (f : Nat → Str) (a b : Int) : Nat → List Str
  | 0 => []
  | k + 1 => match mtcB (f k) a b with
    | true => mtL f a b k ++ [f k]
    | false => mtL f a b k
theorem ckN_mono {f : Nat → Str} {k : Nat} (h : ckN f k = false) : ∀ n, k ≤ n → ckN f n = false
  | 0, hn => by
    have : k = 0 := by omega
    subst this; exact h
  | n + 1, hn => by
    by_cases e : k = n + 1
    · subst e; exact h
    · rw [ckN, ckN_mono h n (by omega)]; rfl
theorem hasN_mono {f : Nat → Str} {t : Int} {k : Nat} (h : hasN f t k = true) : ∀ n, k ≤ n → hasN f t n = true
  | 0, hn => by
    have : k = 0 := by omega
    subst this; exact h
  | n + 1, hn => by
    by_cases e : k = n + 1
    · subst e; exact h
    · rw [hasN, hasN_mono h n (by omega)]; rfl
def chkB (f : Nat → Str) (n : Nat) : Bool := decide (n ≤ 4) && ckN f n
end Go.Mine

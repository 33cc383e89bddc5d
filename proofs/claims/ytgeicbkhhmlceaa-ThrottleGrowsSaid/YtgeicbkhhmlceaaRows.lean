/-
  No cell of these rows narrows 'for every input' (looked for: loops, veiled, ifaces, maps, wideKeys, modest, calm, conditions, laid).
  DERIVED. THE GIVEN ROWS OF THIS SEAT. 3 by the template 'for every input the law returns true; each argument reads behind the call as it read before'; 0 by the template 'total and deterministic' (their statements: YtgeicbkhhmlceaaTotals.lean).
  GIVEN WITH THE SEED: the statements are not yours to turn. If you find one false, say at which input.
  Laid BY PROGRAM, IN A SANDBOX (cutbox-rows.mjs): the forced cells as the released guide's own fill.sh prints them over the translation 82085ec7daa8efcf… (all of the seat's roots in one cut). By AI agents, Wed Nov 11 2026. No macro, syntax, notation, axiom, sorry.
-/
import Derived.Test.YtgeicbkhhmlceaaChecked
import GoSem.Claim
import GoSem.ClaimJoined
import GoSem.ClaimMapViews
import Derived.JoinedTies
import Derived.KernelRfl
namespace Go.Proofs.Ytgeicbkhhmlceaa
/- THE CELL 'sum', in the pinned program and in every row, IS THE sha256 OF THE DUMP (.gsa) THAT YtgeicbkhhmlceaaProg.lean LOADS. Nothing in Lean hashes anything: it is a label: what it is worth is what the hold of that sum in a sandbox is worth. -/
noncomputable def Try.pinned : Pinned := { name := "ytgeicbkhhmlceaa", sum := "82085ec7daa8efcfefab64fd6f0f1a89f1a120ef4e0644dae5b23ffe4c2a04a3", checked := Try.checked }
namespace Rows
def none {H : Type} : Left H := { results := [], args := [] }

/-- 'pagecachelaw14.ThrottleCalls': WHATEVER THE INPUT: true; the input reads as it did. -/
def throttleCallsSpec : ChangeSpec := { name := "throttleCalls", fn := fun _ => fun
  | [d] => { results := [.lit (.bool true)], args := [d] }
  | _ => none }
def throttleCallsRow : OpenClaim := { program := "ytgeicbkhhmlceaa", sum := "82085ec7daa8efcfefab64fd6f0f1a89f1a120ef4e0644dae5b23ffe4c2a04a3", func := "pagecache/pagecachelaw14.ThrottleCalls", spec := "throttleCalls", apart := false }
def ThrottleCallsSaid : Prop := throttleCallsRow.holds Try.pinned (OpenSpec.ofChange throttleCallsSpec)

/-- ITS FALSE NEIGHBOUR: 'it returns false'. Refute it at one input. -/
def throttleCallsWrong : ChangeSpec := { name := "throttleCalls", fn := fun _ => fun
  | [d] => { results := [.lit (.bool false)], args := [d] }
  | _ => none }
def ThrottleCallsWrongFalsely : Prop := throttleCallsRow.holds Try.pinned (OpenSpec.ofChange throttleCallsWrong)

/-- 'pagecachelaw14.ThrottleGrows': WHATEVER THE INPUT: true; the input reads as it did. -/
def throttleGrowsSpec : ChangeSpec := { name := "throttleGrows", fn := fun _ => fun
  | [d1, d2, d3, d4, d5] => { results := [.lit (.bool true)], args := [d1, d2, d3, d4, d5] }
  | _ => none }
def throttleGrowsRow : OpenClaim := { program := "ytgeicbkhhmlceaa", sum := "82085ec7daa8efcfefab64fd6f0f1a89f1a120ef4e0644dae5b23ffe4c2a04a3", func := "pagecache/pagecachelaw14.ThrottleGrows", spec := "throttleGrows", apart := false }
def ThrottleGrowsSaid : Prop := throttleGrowsRow.holds Try.pinned (OpenSpec.ofChange throttleGrowsSpec)

/-- ITS FALSE NEIGHBOUR: 'it returns false'. Refute it at one input. -/
def throttleGrowsWrong : ChangeSpec := { name := "throttleGrows", fn := fun _ => fun
  | [d1, d2, d3, d4, d5] => { results := [.lit (.bool false)], args := [d1, d2, d3, d4, d5] }
  | _ => none }
def ThrottleGrowsWrongFalsely : Prop := throttleGrowsRow.holds Try.pinned (OpenSpec.ofChange throttleGrowsWrong)

/-- 'pagecachelaw14.ThrottlePays': WHATEVER THE INPUT: true; the input reads as it did. -/
def throttlePaysSpec : ChangeSpec := { name := "throttlePays", fn := fun _ => fun
  | [d1, d2, d3, d4] => { results := [.lit (.bool true)], args := [d1, d2, d3, d4] }
  | _ => none }
def throttlePaysRow : OpenClaim := { program := "ytgeicbkhhmlceaa", sum := "82085ec7daa8efcfefab64fd6f0f1a89f1a120ef4e0644dae5b23ffe4c2a04a3", func := "pagecache/pagecachelaw14.ThrottlePays", spec := "throttlePays", apart := false }
def ThrottlePaysSaid : Prop := throttlePaysRow.holds Try.pinned (OpenSpec.ofChange throttlePaysSpec)

/-- ITS FALSE NEIGHBOUR: 'it returns false'. Refute it at one input. -/
def throttlePaysWrong : ChangeSpec := { name := "throttlePays", fn := fun _ => fun
  | [d1, d2, d3, d4] => { results := [.lit (.bool false)], args := [d1, d2, d3, d4] }
  | _ => none }
def ThrottlePaysWrongFalsely : Prop := throttlePaysRow.holds Try.pinned (OpenSpec.ofChange throttlePaysWrong)

/- THE SECOND FORM. 'bulk': how many values and letters a reading holds, each counted each time it is reached (what is shared counts as often as it is met; a slice's spare places count too). A statement '..UptoSaid' is the law's where the arguments, and the package variables that the reading takes, are together of bulk at most 1048576: NARROWER than '..Said'. Prove '..Said' where nothing that the law and all that it calls make is longer than what came in: it says more and counts as full. Else prove '..UptoSaid'. A law counts once. -/
mutual
def uptoBulk {H : Type} : DataW H → Nat
  | .lit (.string bytes) => bytes.length + 1
  | .lit _ => 1
  | .nil => 1
  | .ptr d => uptoBulk d + 1
  | .slice elems spare => uptoBulkAll elems + uptoBulkAll spare + 1
  | .agg parts => uptoBulkAll parts + 1
  | .iface _ d => uptoBulk d + 1
  | .map entries => uptoBulkEntries entries + 1
  | .held _ => 1
def uptoBulkAll {H : Type} : List (DataW H) → Nat
  | [] => 0
  | d :: r => uptoBulk d + uptoBulkAll r
def uptoBulkEntries {H : Type} : List (Lit × DataW H) → Nat
  | [] => 0
  | x :: r => uptoBulkEntry x + uptoBulkEntries r
def uptoBulkEntry {H : Type} : Lit × DataW H → Nat
  | (.string bytes, d) => bytes.length + uptoBulk d + 1
  | (_, d) => uptoBulk d + 1
 end
def uptoSmall : (H : Type) → List (DataW H) → Bool := fun _ ds => decide (uptoBulkAll ds ≤ 1048576)
def OpenSpec.upto (s : _root_.Go.ChangeSpec) : _root_.Go.OpenSpec := { _root_.Go.OpenSpec.ofChange s with cond := some uptoSmall }

/-- 'pagecachelaw14.ThrottleCalls', WHERE WHAT IT READS IS OF BULK AT MOST 1048576: true; the input reads as it did. -/
def throttleCallsUptoRow : OpenClaim := { program := "ytgeicbkhhmlceaa", sum := "82085ec7daa8efcfefab64fd6f0f1a89f1a120ef4e0644dae5b23ffe4c2a04a3", func := "pagecache/pagecachelaw14.ThrottleCalls", spec := "throttleCalls", apart := false, narrowed := true }
def ThrottleCallsUptoSaid : Prop := throttleCallsUptoRow.holds Try.pinned (OpenSpec.upto throttleCallsSpec)

/-- 'pagecachelaw14.ThrottleGrows', WHERE WHAT IT READS IS OF BULK AT MOST 1048576: true; the input reads as it did. -/
def throttleGrowsUptoRow : OpenClaim := { program := "ytgeicbkhhmlceaa", sum := "82085ec7daa8efcfefab64fd6f0f1a89f1a120ef4e0644dae5b23ffe4c2a04a3", func := "pagecache/pagecachelaw14.ThrottleGrows", spec := "throttleGrows", apart := false, narrowed := true }
def ThrottleGrowsUptoSaid : Prop := throttleGrowsUptoRow.holds Try.pinned (OpenSpec.upto throttleGrowsSpec)

/-- 'pagecachelaw14.ThrottlePays', WHERE WHAT IT READS IS OF BULK AT MOST 1048576: true; the input reads as it did. -/
def throttlePaysUptoRow : OpenClaim := { program := "ytgeicbkhhmlceaa", sum := "82085ec7daa8efcfefab64fd6f0f1a89f1a120ef4e0644dae5b23ffe4c2a04a3", func := "pagecache/pagecachelaw14.ThrottlePays", spec := "throttlePays", apart := false, narrowed := true }
def ThrottlePaysUptoSaid : Prop := throttlePaysUptoRow.holds Try.pinned (OpenSpec.upto throttlePaysSpec)

end Rows
end Go.Proofs.Ytgeicbkhhmlceaa

/-
  No cell of these rows narrows 'for every input' (looked for: loops, veiled, ifaces, maps, wideKeys, modest, calm, conditions, laid).
  DERIVED. THE GIVEN ROWS OF THIS SEAT. 3 by the template 'for every input the law returns true; each argument reads behind the call as it read before'; 0 by the template 'total and deterministic' (their statements: YtmdechoajmbhoaaTotals.lean).
  GIVEN WITH THE SEED: the statements are not yours to turn. If you find one false, say at which input.
  Laid BY PROGRAM, IN A SANDBOX (cutbox-rows.mjs): the forced cells as the released guide's own fill.sh prints them over the translation 991625cb03c44458… (all of the seat's roots in one cut). By AI agents, Wed Nov 11 2026. No macro, syntax, notation, axiom, sorry.
-/
import Derived.Test.YtmdechoajmbhoaaChecked
import GoSem.Claim
import GoSem.ClaimJoined
import GoSem.ClaimMapViews
import Derived.JoinedTies
import Derived.KernelRfl
namespace Go.Proofs.Ytmdechoajmbhoaa
/- THE CELL 'sum', in the pinned program and in every row, IS THE sha256 OF THE DUMP (.gsa) THAT YtmdechoajmbhoaaProg.lean LOADS. Nothing in Lean hashes anything: it is a label: what it is worth is what the hold of that sum in a sandbox is worth. -/
noncomputable def Try.pinned : Pinned := { name := "ytmdechoajmbhoaa", sum := "991625cb03c444585efaa8eea55a8d04ca752739afe1c5a1c20622ffb35fb93a", checked := Try.checked }
namespace Rows
def none {H : Type} : Left H := { results := [], args := [] }

/-- 'pagecachelaw15.AgingCalls': WHATEVER THE INPUT: true; the input reads as it did. -/
def agingCallsSpec : ChangeSpec := { name := "agingCalls", fn := fun _ => fun
  | [d] => { results := [.lit (.bool true)], args := [d] }
  | _ => none }
def agingCallsRow : OpenClaim := { program := "ytmdechoajmbhoaa", sum := "991625cb03c444585efaa8eea55a8d04ca752739afe1c5a1c20622ffb35fb93a", func := "pagecache/pagecachelaw15.AgingCalls", spec := "agingCalls", unfollowed := true, recurses := true, apart := false }
def AgingCallsSaid : Prop := agingCallsRow.holds Try.pinned (OpenSpec.ofChange agingCallsSpec)

/-- ITS FALSE NEIGHBOUR: 'it returns false'. Refute it at one input. -/
def agingCallsWrong : ChangeSpec := { name := "agingCalls", fn := fun _ => fun
  | [d] => { results := [.lit (.bool false)], args := [d] }
  | _ => none }
def AgingCallsWrongFalsely : Prop := agingCallsRow.holds Try.pinned (OpenSpec.ofChange agingCallsWrong)

/-- 'pagecachelaw15.AgingFair': WHATEVER THE INPUT: true; the input reads as it did. -/
def agingFairSpec : ChangeSpec := { name := "agingFair", fn := fun _ => fun
  | [d] => { results := [.lit (.bool true)], args := [d] }
  | _ => none }
def agingFairRow : OpenClaim := { program := "ytmdechoajmbhoaa", sum := "991625cb03c444585efaa8eea55a8d04ca752739afe1c5a1c20622ffb35fb93a", func := "pagecache/pagecachelaw15.AgingFair", spec := "agingFair", unfollowed := true, recurses := true, apart := false }
def AgingFairSaid : Prop := agingFairRow.holds Try.pinned (OpenSpec.ofChange agingFairSpec)

/-- ITS FALSE NEIGHBOUR: 'it returns false'. Refute it at one input. -/
def agingFairWrong : ChangeSpec := { name := "agingFair", fn := fun _ => fun
  | [d] => { results := [.lit (.bool false)], args := [d] }
  | _ => none }
def AgingFairWrongFalsely : Prop := agingFairRow.holds Try.pinned (OpenSpec.ofChange agingFairWrong)

/-- 'pagecachelaw15.AgingAgain': WHATEVER THE INPUT: true; the input reads as it did. -/
def agingAgainSpec : ChangeSpec := { name := "agingAgain", fn := fun _ => fun
  | [d] => { results := [.lit (.bool true)], args := [d] }
  | _ => none }
def agingAgainRow : OpenClaim := { program := "ytmdechoajmbhoaa", sum := "991625cb03c444585efaa8eea55a8d04ca752739afe1c5a1c20622ffb35fb93a", func := "pagecache/pagecachelaw15.AgingAgain", spec := "agingAgain", unfollowed := true, recurses := true, apart := false }
def AgingAgainSaid : Prop := agingAgainRow.holds Try.pinned (OpenSpec.ofChange agingAgainSpec)

/-- ITS FALSE NEIGHBOUR: 'it returns false'. Refute it at one input. -/
def agingAgainWrong : ChangeSpec := { name := "agingAgain", fn := fun _ => fun
  | [d] => { results := [.lit (.bool false)], args := [d] }
  | _ => none }
def AgingAgainWrongFalsely : Prop := agingAgainRow.holds Try.pinned (OpenSpec.ofChange agingAgainWrong)

/- THE SECOND FORM. 'bulk': how many values and letters a reading holds, each counted each time it is reached (what is shared counts as often as it is met; a slice's spare places count too). A statement '..UptoSaid' is the law's where the arguments, and the package variables that the reading takes, are together of bulk at most 1048576: NARROWER than '..Said'. Prove '..Said' where nothing that the law and all that it calls make is longer than what came in: it says more and counts as full. Else prove '..UptoSaid'. A law counts once. -/
mutual
def uptoBulk {H : Type} : DataW H → Nat
  | .lit (.string bytes) => bytes.length + 1
  | .lit _ => 1
  | .nil => 1
  | .ptr d => uptoBulk d + 1
  | .slice elems spare => uptoBulkAll elems + uptoBulkAll spare + 1
  | .agg parts => uptoBulkAll parts + 1
  | .iface _ d => uptoBulk d + 1
  | .map entries => uptoBulkEntries entries + 1
  | .held _ => 1
def uptoBulkAll {H : Type} : List (DataW H) → Nat
  | [] => 0
  | d :: r => uptoBulk d + uptoBulkAll r
def uptoBulkEntries {H : Type} : List (Lit × DataW H) → Nat
  | [] => 0
  | x :: r => uptoBulkEntry x + uptoBulkEntries r
def uptoBulkEntry {H : Type} : Lit × DataW H → Nat
  | (.string bytes, d) => bytes.length + uptoBulk d + 1
  | (_, d) => uptoBulk d + 1
 end
def uptoSmall : (H : Type) → List (DataW H) → Bool := fun _ ds => decide (uptoBulkAll ds ≤ 1048576)
def OpenSpec.upto (s : _root_.Go.ChangeSpec) : _root_.Go.OpenSpec := { _root_.Go.OpenSpec.ofChange s with cond := some uptoSmall }

/-- 'pagecachelaw15.AgingCalls', WHERE WHAT IT READS IS OF BULK AT MOST 1048576: true; the input reads as it did. -/
def agingCallsUptoRow : OpenClaim := { program := "ytmdechoajmbhoaa", sum := "991625cb03c444585efaa8eea55a8d04ca752739afe1c5a1c20622ffb35fb93a", func := "pagecache/pagecachelaw15.AgingCalls", spec := "agingCalls", unfollowed := true, recurses := true, apart := false, narrowed := true }
def AgingCallsUptoSaid : Prop := agingCallsUptoRow.holds Try.pinned (OpenSpec.upto agingCallsSpec)

/-- 'pagecachelaw15.AgingFair', WHERE WHAT IT READS IS OF BULK AT MOST 1048576: true; the input reads as it did. -/
def agingFairUptoRow : OpenClaim := { program := "ytmdechoajmbhoaa", sum := "991625cb03c444585efaa8eea55a8d04ca752739afe1c5a1c20622ffb35fb93a", func := "pagecache/pagecachelaw15.AgingFair", spec := "agingFair", unfollowed := true, recurses := true, apart := false, narrowed := true }
def AgingFairUptoSaid : Prop := agingFairUptoRow.holds Try.pinned (OpenSpec.upto agingFairSpec)

/-- 'pagecachelaw15.AgingAgain', WHERE WHAT IT READS IS OF BULK AT MOST 1048576: true; the input reads as it did. -/
def agingAgainUptoRow : OpenClaim := { program := "ytmdechoajmbhoaa", sum := "991625cb03c444585efaa8eea55a8d04ca752739afe1c5a1c20622ffb35fb93a", func := "pagecache/pagecachelaw15.AgingAgain", spec := "agingAgain", unfollowed := true, recurses := true, apart := false, narrowed := true }
def AgingAgainUptoSaid : Prop := agingAgainUptoRow.holds Try.pinned (OpenSpec.upto agingAgainSpec)

end Rows
end Go.Proofs.Ytmdechoajmbhoaa

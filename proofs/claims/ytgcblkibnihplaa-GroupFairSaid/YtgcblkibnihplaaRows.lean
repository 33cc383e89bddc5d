/-
  No cell of these rows narrows 'for every input' (looked for: loops, veiled, ifaces, maps, wideKeys, modest, calm, conditions, laid).
  DERIVED. THE GIVEN ROWS OF THIS SEAT. 4 by the template 'for every input the law returns true; each argument reads behind the call as it read before'; 0 by the template 'total and deterministic' (their statements: YtgcblkibnihplaaTotals.lean).
  GIVEN WITH THE SEED: the statements are not yours to turn. If you find one false, say at which input.
  Laid BY PROGRAM, IN A SANDBOX (cutbox-rows.mjs): the forced cells as the released guide's own fill.sh prints them over the translation e69d5a1ba1478005… (all of the seat's roots in one cut). By AI agents, Wed Nov 11 2026. No macro, syntax, notation, axiom, sorry.
-/
import Derived.Test.YtgcblkibnihplaaChecked
import GoSem.Claim
import GoSem.ClaimJoined
import GoSem.ClaimMapViews
import Derived.JoinedTies
import Derived.KernelRfl
namespace Go.Proofs.Ytgcblkibnihplaa
/- THE CELL 'sum', in the pinned program and in every row, IS THE sha256 OF THE DUMP (.gsa) THAT YtgcblkibnihplaaProg.lean LOADS. Nothing in Lean hashes anything: it is a label: what it is worth is what the hold of that sum in a sandbox is worth. -/
noncomputable def Try.pinned : Pinned := { name := "ytgcblkibnihplaa", sum := "e69d5a1ba14780050579ceefb9cd20510bfa9d08d0db44cef5903efe0c947cc9", checked := Try.checked }
namespace Rows
def none {H : Type} : Left H := { results := [], args := [] }

/-- 'pagecachelaw11.GroupFair': WHATEVER THE INPUT: true; the input reads as it did. -/
def groupFairSpec : ChangeSpec := { name := "groupFair", fn := fun _ => fun
  | [d1, d2] => { results := [.lit (.bool true)], args := [d1, d2] }
  | _ => none }
def groupFairRow : OpenClaim := { program := "ytgcblkibnihplaa", sum := "e69d5a1ba14780050579ceefb9cd20510bfa9d08d0db44cef5903efe0c947cc9", func := "pagecache/pagecachelaw11.GroupFair", spec := "groupFair", unfollowed := true, recurses := true, apart := false }
def GroupFairSaid : Prop := groupFairRow.holds Try.pinned (OpenSpec.ofChange groupFairSpec)

/-- ITS FALSE NEIGHBOUR: 'it returns false'. Refute it at one input. -/
def groupFairWrong : ChangeSpec := { name := "groupFair", fn := fun _ => fun
  | [d1, d2] => { results := [.lit (.bool false)], args := [d1, d2] }
  | _ => none }
def GroupFairWrongFalsely : Prop := groupFairRow.holds Try.pinned (OpenSpec.ofChange groupFairWrong)

/-- 'pagecachelaw11.GroupAccounts': WHATEVER THE INPUT: true; the input reads as it did. -/
def groupAccountsSpec : ChangeSpec := { name := "groupAccounts", fn := fun _ => fun
  | [d] => { results := [.lit (.bool true)], args := [d] }
  | _ => none }
def groupAccountsRow : OpenClaim := { program := "ytgcblkibnihplaa", sum := "e69d5a1ba14780050579ceefb9cd20510bfa9d08d0db44cef5903efe0c947cc9", func := "pagecache/pagecachelaw11.GroupAccounts", spec := "groupAccounts", unfollowed := true, recurses := true, apart := false }
def GroupAccountsSaid : Prop := groupAccountsRow.holds Try.pinned (OpenSpec.ofChange groupAccountsSpec)

/-- ITS FALSE NEIGHBOUR: 'it returns false'. Refute it at one input. -/
def groupAccountsWrong : ChangeSpec := { name := "groupAccounts", fn := fun _ => fun
  | [d] => { results := [.lit (.bool false)], args := [d] }
  | _ => none }
def GroupAccountsWrongFalsely : Prop := groupAccountsRow.holds Try.pinned (OpenSpec.ofChange groupAccountsWrong)

/-- 'pagecachelaw11.GroupSteps': WHATEVER THE INPUT: true; the input reads as it did. -/
def groupStepsSpec : ChangeSpec := { name := "groupSteps", fn := fun _ => fun
  | [d1, d2] => { results := [.lit (.bool true)], args := [d1, d2] }
  | _ => none }
def groupStepsRow : OpenClaim := { program := "ytgcblkibnihplaa", sum := "e69d5a1ba14780050579ceefb9cd20510bfa9d08d0db44cef5903efe0c947cc9", func := "pagecache/pagecachelaw11.GroupSteps", spec := "groupSteps", unfollowed := true, recurses := true, apart := false }
def GroupStepsSaid : Prop := groupStepsRow.holds Try.pinned (OpenSpec.ofChange groupStepsSpec)

/-- ITS FALSE NEIGHBOUR: 'it returns false'. Refute it at one input. -/
def groupStepsWrong : ChangeSpec := { name := "groupSteps", fn := fun _ => fun
  | [d1, d2] => { results := [.lit (.bool false)], args := [d1, d2] }
  | _ => none }
def GroupStepsWrongFalsely : Prop := groupStepsRow.holds Try.pinned (OpenSpec.ofChange groupStepsWrong)

/-- 'pagecachelaw11.GroupLimits': WHATEVER THE INPUT: true; the input reads as it did. -/
def groupLimitsSpec : ChangeSpec := { name := "groupLimits", fn := fun _ => fun
  | [d1, d2] => { results := [.lit (.bool true)], args := [d1, d2] }
  | _ => none }
def groupLimitsRow : OpenClaim := { program := "ytgcblkibnihplaa", sum := "e69d5a1ba14780050579ceefb9cd20510bfa9d08d0db44cef5903efe0c947cc9", func := "pagecache/pagecachelaw11.GroupLimits", spec := "groupLimits", unfollowed := true, recurses := true, apart := false }
def GroupLimitsSaid : Prop := groupLimitsRow.holds Try.pinned (OpenSpec.ofChange groupLimitsSpec)

/-- ITS FALSE NEIGHBOUR: 'it returns false'. Refute it at one input. -/
def groupLimitsWrong : ChangeSpec := { name := "groupLimits", fn := fun _ => fun
  | [d1, d2] => { results := [.lit (.bool false)], args := [d1, d2] }
  | _ => none }
def GroupLimitsWrongFalsely : Prop := groupLimitsRow.holds Try.pinned (OpenSpec.ofChange groupLimitsWrong)

/- THE SECOND FORM. 'bulk': how many values and letters a reading holds, each counted each time it is reached (what is shared counts as often as it is met; a slice's spare places count too). A statement '..UptoSaid' is the law's where the arguments, and the package variables that the reading takes, are together of bulk at most 1048576: NARROWER than '..Said'. Prove '..Said' where nothing that the law and all that it calls make is longer than what came in: it says more and counts as full. Else prove '..UptoSaid'. A law counts once. -/
mutual
def uptoBulk {H : Type} : DataW H → Nat
  | .lit (.string bytes) => bytes.length + 1
  | .lit _ => 1
  | .nil => 1
  | .ptr d => uptoBulk d + 1
  | .slice elems spare => uptoBulkAll elems + uptoBulkAll spare + 1
  | .agg parts => uptoBulkAll parts + 1
  | .iface _ d => uptoBulk d + 1
  | .map entries => uptoBulkEntries entries + 1
  | .held _ => 1
def uptoBulkAll {H : Type} : List (DataW H) → Nat
  | [] => 0
  | d :: r => uptoBulk d + uptoBulkAll r
def uptoBulkEntries {H : Type} : List (Lit × DataW H) → Nat
  | [] => 0
  | x :: r => uptoBulkEntry x + uptoBulkEntries r
def uptoBulkEntry {H : Type} : Lit × DataW H → Nat
  | (.string bytes, d) => bytes.length + uptoBulk d + 1
  | (_, d) => uptoBulk d + 1
 end
def uptoSmall : (H : Type) → List (DataW H) → Bool := fun _ ds => decide (uptoBulkAll ds ≤ 1048576)
def OpenSpec.upto (s : _root_.Go.ChangeSpec) : _root_.Go.OpenSpec := { _root_.Go.OpenSpec.ofChange s with cond := some uptoSmall }

/-- 'pagecachelaw11.GroupFair', WHERE WHAT IT READS IS OF BULK AT MOST 1048576: true; the input reads as it did. -/
def groupFairUptoRow : OpenClaim := { program := "ytgcblkibnihplaa", sum := "e69d5a1ba14780050579ceefb9cd20510bfa9d08d0db44cef5903efe0c947cc9", func := "pagecache/pagecachelaw11.GroupFair", spec := "groupFair", unfollowed := true, recurses := true, apart := false, narrowed := true }
def GroupFairUptoSaid : Prop := groupFairUptoRow.holds Try.pinned (OpenSpec.upto groupFairSpec)

/-- 'pagecachelaw11.GroupAccounts', WHERE WHAT IT READS IS OF BULK AT MOST 1048576: true; the input reads as it did. -/
def groupAccountsUptoRow : OpenClaim := { program := "ytgcblkibnihplaa", sum := "e69d5a1ba14780050579ceefb9cd20510bfa9d08d0db44cef5903efe0c947cc9", func := "pagecache/pagecachelaw11.GroupAccounts", spec := "groupAccounts", unfollowed := true, recurses := true, apart := false, narrowed := true }
def GroupAccountsUptoSaid : Prop := groupAccountsUptoRow.holds Try.pinned (OpenSpec.upto groupAccountsSpec)

/-- 'pagecachelaw11.GroupSteps', WHERE WHAT IT READS IS OF BULK AT MOST 1048576: true; the input reads as it did. -/
def groupStepsUptoRow : OpenClaim := { program := "ytgcblkibnihplaa", sum := "e69d5a1ba14780050579ceefb9cd20510bfa9d08d0db44cef5903efe0c947cc9", func := "pagecache/pagecachelaw11.GroupSteps", spec := "groupSteps", unfollowed := true, recurses := true, apart := false, narrowed := true }
def GroupStepsUptoSaid : Prop := groupStepsUptoRow.holds Try.pinned (OpenSpec.upto groupStepsSpec)

/-- 'pagecachelaw11.GroupLimits', WHERE WHAT IT READS IS OF BULK AT MOST 1048576: true; the input reads as it did. -/
def groupLimitsUptoRow : OpenClaim := { program := "ytgcblkibnihplaa", sum := "e69d5a1ba14780050579ceefb9cd20510bfa9d08d0db44cef5903efe0c947cc9", func := "pagecache/pagecachelaw11.GroupLimits", spec := "groupLimits", unfollowed := true, recurses := true, apart := false, narrowed := true }
def GroupLimitsUptoSaid : Prop := groupLimitsUptoRow.holds Try.pinned (OpenSpec.upto groupLimitsSpec)

end Rows
end Go.Proofs.Ytgcblkibnihplaa

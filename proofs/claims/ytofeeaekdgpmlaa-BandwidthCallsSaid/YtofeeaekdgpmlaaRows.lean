/-
  No cell of these rows narrows 'for every input' (looked for: loops, veiled, ifaces, maps, wideKeys, modest, calm, conditions, laid).
  DERIVED. THE GIVEN ROWS OF THIS SEAT. 3 by the template 'for every input the law returns true; each argument reads behind the call as it read before'; 0 by the template 'total and deterministic' (their statements: YtofeeaekdgpmlaaTotals.lean).
  GIVEN WITH THE SEED: the statements are not yours to turn. If you find one false, say at which input.
  Laid BY PROGRAM, IN A SANDBOX (cutbox-rows.mjs): the forced cells as the released guide's own fill.sh prints them over the translation c46c422fad2b46f9… (all of the seat's roots in one cut). By AI agents, Wed Nov 11 2026. No macro, syntax, notation, axiom, sorry.
-/
import Derived.Test.YtofeeaekdgpmlaaChecked
import GoSem.Claim
import GoSem.ClaimJoined
import GoSem.ClaimMapViews
import Derived.JoinedTies
import Derived.KernelRfl
namespace Go.Proofs.Ytofeeaekdgpmlaa
/- THE CELL 'sum', in the pinned program and in every row, IS THE sha256 OF THE DUMP (.gsa) THAT YtofeeaekdgpmlaaProg.lean LOADS. Nothing in Lean hashes anything: it is a label: what it is worth is what the hold of that sum in a sandbox is worth. -/
noncomputable def Try.pinned : Pinned := { name := "ytofeeaekdgpmlaa", sum := "c46c422fad2b46f9a472d34a281de709ebf837054bd3c42f9470a92a2a421c12", checked := Try.checked }
namespace Rows
def none {H : Type} : Left H := { results := [], args := [] }

/-- 'pagecachelaw12.BandwidthCalls': WHATEVER THE INPUT: true; the input reads as it did. -/
def bandwidthCallsSpec : ChangeSpec := { name := "bandwidthCalls", fn := fun _ => fun
  | [d] => { results := [.lit (.bool true)], args := [d] }
  | _ => none }
def bandwidthCallsRow : OpenClaim := { program := "ytofeeaekdgpmlaa", sum := "c46c422fad2b46f9a472d34a281de709ebf837054bd3c42f9470a92a2a421c12", func := "pagecache/pagecachelaw12.BandwidthCalls", spec := "bandwidthCalls", apart := false }
def BandwidthCallsSaid : Prop := bandwidthCallsRow.holds Try.pinned (OpenSpec.ofChange bandwidthCallsSpec)

/-- ITS FALSE NEIGHBOUR: 'it returns false'. Refute it at one input. -/
def bandwidthCallsWrong : ChangeSpec := { name := "bandwidthCalls", fn := fun _ => fun
  | [d] => { results := [.lit (.bool false)], args := [d] }
  | _ => none }
def BandwidthCallsWrongFalsely : Prop := bandwidthCallsRow.holds Try.pinned (OpenSpec.ofChange bandwidthCallsWrong)

/-- 'pagecachelaw12.BandwidthSettles': WHATEVER THE INPUT: true; the input reads as it did. -/
def bandwidthSettlesSpec : ChangeSpec := { name := "bandwidthSettles", fn := fun _ => fun
  | [d1, d2, d3] => { results := [.lit (.bool true)], args := [d1, d2, d3] }
  | _ => none }
def bandwidthSettlesRow : OpenClaim := { program := "ytofeeaekdgpmlaa", sum := "c46c422fad2b46f9a472d34a281de709ebf837054bd3c42f9470a92a2a421c12", func := "pagecache/pagecachelaw12.BandwidthSettles", spec := "bandwidthSettles", apart := false }
def BandwidthSettlesSaid : Prop := bandwidthSettlesRow.holds Try.pinned (OpenSpec.ofChange bandwidthSettlesSpec)

/-- ITS FALSE NEIGHBOUR: 'it returns false'. Refute it at one input. -/
def bandwidthSettlesWrong : ChangeSpec := { name := "bandwidthSettles", fn := fun _ => fun
  | [d1, d2, d3] => { results := [.lit (.bool false)], args := [d1, d2, d3] }
  | _ => none }
def BandwidthSettlesWrongFalsely : Prop := bandwidthSettlesRow.holds Try.pinned (OpenSpec.ofChange bandwidthSettlesWrong)

/-- 'pagecachelaw12.BandwidthAdds': WHATEVER THE INPUT: true; the input reads as it did. -/
def bandwidthAddsSpec : ChangeSpec := { name := "bandwidthAdds", fn := fun _ => fun
  | [d] => { results := [.lit (.bool true)], args := [d] }
  | _ => none }
def bandwidthAddsRow : OpenClaim := { program := "ytofeeaekdgpmlaa", sum := "c46c422fad2b46f9a472d34a281de709ebf837054bd3c42f9470a92a2a421c12", func := "pagecache/pagecachelaw12.BandwidthAdds", spec := "bandwidthAdds", apart := false }
def BandwidthAddsSaid : Prop := bandwidthAddsRow.holds Try.pinned (OpenSpec.ofChange bandwidthAddsSpec)

/-- ITS FALSE NEIGHBOUR: 'it returns false'. Refute it at one input. -/
def bandwidthAddsWrong : ChangeSpec := { name := "bandwidthAdds", fn := fun _ => fun
  | [d] => { results := [.lit (.bool false)], args := [d] }
  | _ => none }
def BandwidthAddsWrongFalsely : Prop := bandwidthAddsRow.holds Try.pinned (OpenSpec.ofChange bandwidthAddsWrong)

/- THE SECOND FORM. 'bulk': how many values and letters a reading holds, each counted each time it is reached (what is shared counts as often as it is met; a slice's spare places count too). A statement '..UptoSaid' is the law's where the arguments, and the package variables that the reading takes, are together of bulk at most 1048576: NARROWER than '..Said'. Prove '..Said' where nothing that the law and all that it calls make is longer than what came in: it says more and counts as full. Else prove '..UptoSaid'. A law counts once. -/
mutual
def uptoBulk {H : Type} : DataW H → Nat
  | .lit (.string bytes) => bytes.length + 1
  | .lit _ => 1
  | .nil => 1
  | .ptr d => uptoBulk d + 1
  | .slice elems spare => uptoBulkAll elems + uptoBulkAll spare + 1
  | .agg parts => uptoBulkAll parts + 1
  | .iface _ d => uptoBulk d + 1
  | .map entries => uptoBulkEntries entries + 1
  | .held _ => 1
def uptoBulkAll {H : Type} : List (DataW H) → Nat
  | [] => 0
  | d :: r => uptoBulk d + uptoBulkAll r
def uptoBulkEntries {H : Type} : List (Lit × DataW H) → Nat
  | [] => 0
  | x :: r => uptoBulkEntry x + uptoBulkEntries r
def uptoBulkEntry {H : Type} : Lit × DataW H → Nat
  | (.string bytes, d) => bytes.length + uptoBulk d + 1
  | (_, d) => uptoBulk d + 1
 end
def uptoSmall : (H : Type) → List (DataW H) → Bool := fun _ ds => decide (uptoBulkAll ds ≤ 1048576)
def OpenSpec.upto (s : _root_.Go.ChangeSpec) : _root_.Go.OpenSpec := { _root_.Go.OpenSpec.ofChange s with cond := some uptoSmall }

/-- 'pagecachelaw12.BandwidthCalls', WHERE WHAT IT READS IS OF BULK AT MOST 1048576: true; the input reads as it did. -/
def bandwidthCallsUptoRow : OpenClaim := { program := "ytofeeaekdgpmlaa", sum := "c46c422fad2b46f9a472d34a281de709ebf837054bd3c42f9470a92a2a421c12", func := "pagecache/pagecachelaw12.BandwidthCalls", spec := "bandwidthCalls", apart := false, narrowed := true }
def BandwidthCallsUptoSaid : Prop := bandwidthCallsUptoRow.holds Try.pinned (OpenSpec.upto bandwidthCallsSpec)

/-- 'pagecachelaw12.BandwidthSettles', WHERE WHAT IT READS IS OF BULK AT MOST 1048576: true; the input reads as it did. -/
def bandwidthSettlesUptoRow : OpenClaim := { program := "ytofeeaekdgpmlaa", sum := "c46c422fad2b46f9a472d34a281de709ebf837054bd3c42f9470a92a2a421c12", func := "pagecache/pagecachelaw12.BandwidthSettles", spec := "bandwidthSettles", apart := false, narrowed := true }
def BandwidthSettlesUptoSaid : Prop := bandwidthSettlesUptoRow.holds Try.pinned (OpenSpec.upto bandwidthSettlesSpec)

/-- 'pagecachelaw12.BandwidthAdds', WHERE WHAT IT READS IS OF BULK AT MOST 1048576: true; the input reads as it did. -/
def bandwidthAddsUptoRow : OpenClaim := { program := "ytofeeaekdgpmlaa", sum := "c46c422fad2b46f9a472d34a281de709ebf837054bd3c42f9470a92a2a421c12", func := "pagecache/pagecachelaw12.BandwidthAdds", spec := "bandwidthAdds", apart := false, narrowed := true }
def BandwidthAddsUptoSaid : Prop := bandwidthAddsUptoRow.holds Try.pinned (OpenSpec.upto bandwidthAddsSpec)

end Rows
end Go.Proofs.Ytofeeaekdgpmlaa

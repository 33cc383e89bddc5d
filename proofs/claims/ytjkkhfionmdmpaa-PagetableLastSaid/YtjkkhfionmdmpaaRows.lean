/-
  No cell of these rows narrows 'for every input' (looked for: loops, veiled, ifaces, maps, wideKeys, modest, calm, conditions, laid).
  DERIVED. THE GIVEN ROWS OF THIS SEAT. 4 by the template 'for every input the law returns true; each argument reads behind the call as it read before'; 0 by the template 'total and deterministic' (their statements: YtjkkhfionmdmpaaTotals.lean).
  GIVEN WITH THE SEED: the statements are not yours to turn. If you find one false, say at which input.
  Laid BY PROGRAM, IN A SANDBOX (cutbox-rows.mjs): the forced cells as the released guide's own fill.sh prints them over the translation 7298470bb8e54f59… (all of the seat's roots in one cut). By AI agents, Wed Nov 11 2026. No macro, syntax, notation, axiom, sorry.
-/
import Derived.Test.YtjkkhfionmdmpaaChecked
import GoSem.Claim
import GoSem.ClaimJoined
import GoSem.ClaimMapViews
import Derived.JoinedTies
import Derived.KernelRfl
namespace Go.Proofs.Ytjkkhfionmdmpaa
/- THE CELL 'sum', in the pinned program and in every row, IS THE sha256 OF THE DUMP (.gsa) THAT YtjkkhfionmdmpaaProg.lean LOADS. Nothing in Lean hashes anything: it is a label: what it is worth is what the hold of that sum in a sandbox is worth. -/
noncomputable def Try.pinned : Pinned := { name := "ytjkkhfionmdmpaa", sum := "7298470bb8e54f59165679b006b77e8e867969b223a4c679407f5ca2daa600ca", checked := Try.checked }
namespace Rows
def none {H : Type} : Left H := { results := [], args := [] }

/-- 'pagecachelaw17.PagetableCalls': WHATEVER THE INPUT: true; the input reads as it did. -/
def pagetableCallsSpec : ChangeSpec := { name := "pagetableCalls", fn := fun _ => fun
  | [d] => { results := [.lit (.bool true)], args := [d] }
  | _ => none }
def pagetableCallsRow : OpenClaim := { program := "ytjkkhfionmdmpaa", sum := "7298470bb8e54f59165679b006b77e8e867969b223a4c679407f5ca2daa600ca", func := "pagecache/pagecachelaw17.PagetableCalls", spec := "pagetableCalls", inPlace := ["slices.overlaps[pagecache/api.Pte]"], unfollowed := true, recurses := true, plainKeys := false, apart := false }
def PagetableCallsSaid : Prop := pagetableCallsRow.holds Try.pinned (OpenSpec.ofChange pagetableCallsSpec)

/-- ITS FALSE NEIGHBOUR: 'it returns false'. Refute it at one input. -/
def pagetableCallsWrong : ChangeSpec := { name := "pagetableCalls", fn := fun _ => fun
  | [d] => { results := [.lit (.bool false)], args := [d] }
  | _ => none }
def PagetableCallsWrongFalsely : Prop := pagetableCallsRow.holds Try.pinned (OpenSpec.ofChange pagetableCallsWrong)

/-- 'pagecachelaw17.PagetableReverse': WHATEVER THE INPUT: true; the input reads as it did. -/
def pagetableReverseSpec : ChangeSpec := { name := "pagetableReverse", fn := fun _ => fun
  | [d1, d2] => { results := [.lit (.bool true)], args := [d1, d2] }
  | _ => none }
def pagetableReverseRow : OpenClaim := { program := "ytjkkhfionmdmpaa", sum := "7298470bb8e54f59165679b006b77e8e867969b223a4c679407f5ca2daa600ca", func := "pagecache/pagecachelaw17.PagetableReverse", spec := "pagetableReverse", inPlace := ["slices.overlaps[pagecache/api.Pte]"], unfollowed := true, recurses := true, plainKeys := false, apart := false }
def PagetableReverseSaid : Prop := pagetableReverseRow.holds Try.pinned (OpenSpec.ofChange pagetableReverseSpec)

/-- ITS FALSE NEIGHBOUR: 'it returns false'. Refute it at one input. -/
def pagetableReverseWrong : ChangeSpec := { name := "pagetableReverse", fn := fun _ => fun
  | [d1, d2] => { results := [.lit (.bool false)], args := [d1, d2] }
  | _ => none }
def PagetableReverseWrongFalsely : Prop := pagetableReverseRow.holds Try.pinned (OpenSpec.ofChange pagetableReverseWrong)

/-- 'pagecachelaw17.PagetableLast': WHATEVER THE INPUT: true; the input reads as it did. -/
def pagetableLastSpec : ChangeSpec := { name := "pagetableLast", fn := fun _ => fun
  | [d] => { results := [.lit (.bool true)], args := [d] }
  | _ => none }
def pagetableLastRow : OpenClaim := { program := "ytjkkhfionmdmpaa", sum := "7298470bb8e54f59165679b006b77e8e867969b223a4c679407f5ca2daa600ca", func := "pagecache/pagecachelaw17.PagetableLast", spec := "pagetableLast", inPlace := ["slices.overlaps[pagecache/api.Pte]"], unfollowed := true, recurses := true, plainKeys := false, apart := false }
def PagetableLastSaid : Prop := pagetableLastRow.holds Try.pinned (OpenSpec.ofChange pagetableLastSpec)

/-- ITS FALSE NEIGHBOUR: 'it returns false'. Refute it at one input. -/
def pagetableLastWrong : ChangeSpec := { name := "pagetableLast", fn := fun _ => fun
  | [d] => { results := [.lit (.bool false)], args := [d] }
  | _ => none }
def PagetableLastWrongFalsely : Prop := pagetableLastRow.holds Try.pinned (OpenSpec.ofChange pagetableLastWrong)

/-- 'pagecachelaw17.PagetableYoung': WHATEVER THE INPUT: true; the input reads as it did. -/
def pagetableYoungSpec : ChangeSpec := { name := "pagetableYoung", fn := fun _ => fun
  | [d1, d2] => { results := [.lit (.bool true)], args := [d1, d2] }
  | _ => none }
def pagetableYoungRow : OpenClaim := { program := "ytjkkhfionmdmpaa", sum := "7298470bb8e54f59165679b006b77e8e867969b223a4c679407f5ca2daa600ca", func := "pagecache/pagecachelaw17.PagetableYoung", spec := "pagetableYoung", inPlace := ["slices.overlaps[pagecache/api.Pte]"], unfollowed := true, recurses := true, plainKeys := false, apart := false }
def PagetableYoungSaid : Prop := pagetableYoungRow.holds Try.pinned (OpenSpec.ofChange pagetableYoungSpec)

/-- ITS FALSE NEIGHBOUR: 'it returns false'. Refute it at one input. -/
def pagetableYoungWrong : ChangeSpec := { name := "pagetableYoung", fn := fun _ => fun
  | [d1, d2] => { results := [.lit (.bool false)], args := [d1, d2] }
  | _ => none }
def PagetableYoungWrongFalsely : Prop := pagetableYoungRow.holds Try.pinned (OpenSpec.ofChange pagetableYoungWrong)

/- THE SECOND FORM. 'bulk': how many values and letters a reading holds, each counted each time it is reached (what is shared counts as often as it is met; a slice's spare places count too). A statement '..UptoSaid' is the law's where the arguments, and the package variables that the reading takes, are together of bulk at most 1048576: NARROWER than '..Said'. Prove '..Said' where nothing that the law and all that it calls make is longer than what came in: it says more and counts as full. Else prove '..UptoSaid'. A law counts once. -/
mutual
def uptoBulk {H : Type} : DataW H → Nat
  | .lit (.string bytes) => bytes.length + 1
  | .lit _ => 1
  | .nil => 1
  | .ptr d => uptoBulk d + 1
  | .slice elems spare => uptoBulkAll elems + uptoBulkAll spare + 1
  | .agg parts => uptoBulkAll parts + 1
  | .iface _ d => uptoBulk d + 1
  | .map entries => uptoBulkEntries entries + 1
  | .held _ => 1
def uptoBulkAll {H : Type} : List (DataW H) → Nat
  | [] => 0
  | d :: r => uptoBulk d + uptoBulkAll r
def uptoBulkEntries {H : Type} : List (Lit × DataW H) → Nat
  | [] => 0
  | x :: r => uptoBulkEntry x + uptoBulkEntries r
def uptoBulkEntry {H : Type} : Lit × DataW H → Nat
  | (.string bytes, d) => bytes.length + uptoBulk d + 1
  | (_, d) => uptoBulk d + 1
 end
def uptoSmall : (H : Type) → List (DataW H) → Bool := fun _ ds => decide (uptoBulkAll ds ≤ 1048576)
def OpenSpec.upto (s : _root_.Go.ChangeSpec) : _root_.Go.OpenSpec := { _root_.Go.OpenSpec.ofChange s with cond := some uptoSmall }

/-- 'pagecachelaw17.PagetableCalls', WHERE WHAT IT READS IS OF BULK AT MOST 1048576: true; the input reads as it did. -/
def pagetableCallsUptoRow : OpenClaim := { program := "ytjkkhfionmdmpaa", sum := "7298470bb8e54f59165679b006b77e8e867969b223a4c679407f5ca2daa600ca", func := "pagecache/pagecachelaw17.PagetableCalls", spec := "pagetableCalls", inPlace := ["slices.overlaps[pagecache/api.Pte]"], unfollowed := true, recurses := true, plainKeys := false, apart := false, narrowed := true }
def PagetableCallsUptoSaid : Prop := pagetableCallsUptoRow.holds Try.pinned (OpenSpec.upto pagetableCallsSpec)

/-- 'pagecachelaw17.PagetableReverse', WHERE WHAT IT READS IS OF BULK AT MOST 1048576: true; the input reads as it did. -/
def pagetableReverseUptoRow : OpenClaim := { program := "ytjkkhfionmdmpaa", sum := "7298470bb8e54f59165679b006b77e8e867969b223a4c679407f5ca2daa600ca", func := "pagecache/pagecachelaw17.PagetableReverse", spec := "pagetableReverse", inPlace := ["slices.overlaps[pagecache/api.Pte]"], unfollowed := true, recurses := true, plainKeys := false, apart := false, narrowed := true }
def PagetableReverseUptoSaid : Prop := pagetableReverseUptoRow.holds Try.pinned (OpenSpec.upto pagetableReverseSpec)

/-- 'pagecachelaw17.PagetableLast', WHERE WHAT IT READS IS OF BULK AT MOST 1048576: true; the input reads as it did. -/
def pagetableLastUptoRow : OpenClaim := { program := "ytjkkhfionmdmpaa", sum := "7298470bb8e54f59165679b006b77e8e867969b223a4c679407f5ca2daa600ca", func := "pagecache/pagecachelaw17.PagetableLast", spec := "pagetableLast", inPlace := ["slices.overlaps[pagecache/api.Pte]"], unfollowed := true, recurses := true, plainKeys := false, apart := false, narrowed := true }
def PagetableLastUptoSaid : Prop := pagetableLastUptoRow.holds Try.pinned (OpenSpec.upto pagetableLastSpec)

/-- 'pagecachelaw17.PagetableYoung', WHERE WHAT IT READS IS OF BULK AT MOST 1048576: true; the input reads as it did. -/
def pagetableYoungUptoRow : OpenClaim := { program := "ytjkkhfionmdmpaa", sum := "7298470bb8e54f59165679b006b77e8e867969b223a4c679407f5ca2daa600ca", func := "pagecache/pagecachelaw17.PagetableYoung", spec := "pagetableYoung", inPlace := ["slices.overlaps[pagecache/api.Pte]"], unfollowed := true, recurses := true, plainKeys := false, apart := false, narrowed := true }
def PagetableYoungUptoSaid : Prop := pagetableYoungUptoRow.holds Try.pinned (OpenSpec.upto pagetableYoungSpec)

end Rows
end Go.Proofs.Ytjkkhfionmdmpaa

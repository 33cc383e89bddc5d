/-
  No cell of these rows narrows 'for every input' (looked for: loops, veiled, ifaces, maps, wideKeys, modest, calm, conditions, laid).
  DERIVED. THE GIVEN ROWS OF THIS SEAT. 6 by the template 'for every input the law returns true; each argument reads behind the call as it read before'; 0 by the template 'total and deterministic' (their statements: YtphccdfdknihdaaTotals.lean).
  GIVEN WITH THE SEED: the statements are not yours to turn. If you find one false, say at which input.
  Laid BY PROGRAM, IN A SANDBOX (cutbox-rows.mjs): the forced cells as the released guide's own fill.sh prints them over the translation ac3f2ae6614dedcb… (all of the seat's roots in one cut). By AI agents, Wed Nov 11 2026. No macro, syntax, notation, axiom, sorry.
-/
import Derived.Test.YtphccdfdknihdaaChecked
import GoSem.Claim
import GoSem.ClaimJoined
import GoSem.ClaimMapViews
import Derived.JoinedTies
import Derived.KernelRfl
namespace Go.Proofs.Ytphccdfdknihdaa
/- THE CELL 'sum', in the pinned program and in every row, IS THE sha256 OF THE DUMP (.gsa) THAT YtphccdfdknihdaaProg.lean LOADS. Nothing in Lean hashes anything: it is a label: what it is worth is what the hold of that sum in a sandbox is worth. -/
noncomputable def Try.pinned : Pinned := { name := "ytphccdfdknihdaa", sum := "ac3f2ae6614dedcb292d4cb85adfc74edf1b4c8bad666b3087a8185fb3a4e891", checked := Try.checked }
namespace Rows
def none {H : Type} : Left H := { results := [], args := [] }

/-- 'pagecachelaw10.ZoneCalls': WHATEVER THE INPUT: true; the input reads as it did. -/
def zoneCallsSpec : ChangeSpec := { name := "zoneCalls", fn := fun _ => fun
  | [d] => { results := [.lit (.bool true)], args := [d] }
  | _ => none }
def zoneCallsRow : OpenClaim := { program := "ytphccdfdknihdaa", sum := "ac3f2ae6614dedcb292d4cb85adfc74edf1b4c8bad666b3087a8185fb3a4e891", func := "pagecache/pagecachelaw10.ZoneCalls", spec := "zoneCalls", unfollowed := true, recurses := true, apart := false }
def ZoneCallsSaid : Prop := zoneCallsRow.holds Try.pinned (OpenSpec.ofChange zoneCallsSpec)

/-- ITS FALSE NEIGHBOUR: 'it returns false'. Refute it at one input. -/
def zoneCallsWrong : ChangeSpec := { name := "zoneCalls", fn := fun _ => fun
  | [d] => { results := [.lit (.bool false)], args := [d] }
  | _ => none }
def ZoneCallsWrongFalsely : Prop := zoneCallsRow.holds Try.pinned (OpenSpec.ofChange zoneCallsWrong)

/-- 'pagecachelaw10.ZoneNew': WHATEVER THE INPUT: true; the input reads as it did. -/
def zoneNewSpec : ChangeSpec := { name := "zoneNew", fn := fun _ => fun
  | [d] => { results := [.lit (.bool true)], args := [d] }
  | _ => none }
def zoneNewRow : OpenClaim := { program := "ytphccdfdknihdaa", sum := "ac3f2ae6614dedcb292d4cb85adfc74edf1b4c8bad666b3087a8185fb3a4e891", func := "pagecache/pagecachelaw10.ZoneNew", spec := "zoneNew", unfollowed := true, recurses := true, apart := false }
def ZoneNewSaid : Prop := zoneNewRow.holds Try.pinned (OpenSpec.ofChange zoneNewSpec)

/-- ITS FALSE NEIGHBOUR: 'it returns false'. Refute it at one input. -/
def zoneNewWrong : ChangeSpec := { name := "zoneNew", fn := fun _ => fun
  | [d] => { results := [.lit (.bool false)], args := [d] }
  | _ => none }
def ZoneNewWrongFalsely : Prop := zoneNewRow.holds Try.pinned (OpenSpec.ofChange zoneNewWrong)

/-- 'pagecachelaw10.ZoneOnce': WHATEVER THE INPUT: true; the input reads as it did. -/
def zoneOnceSpec : ChangeSpec := { name := "zoneOnce", fn := fun _ => fun
  | [d] => { results := [.lit (.bool true)], args := [d] }
  | _ => none }
def zoneOnceRow : OpenClaim := { program := "ytphccdfdknihdaa", sum := "ac3f2ae6614dedcb292d4cb85adfc74edf1b4c8bad666b3087a8185fb3a4e891", func := "pagecache/pagecachelaw10.ZoneOnce", spec := "zoneOnce", unfollowed := true, recurses := true, apart := false }
def ZoneOnceSaid : Prop := zoneOnceRow.holds Try.pinned (OpenSpec.ofChange zoneOnceSpec)

/-- ITS FALSE NEIGHBOUR: 'it returns false'. Refute it at one input. -/
def zoneOnceWrong : ChangeSpec := { name := "zoneOnce", fn := fun _ => fun
  | [d] => { results := [.lit (.bool false)], args := [d] }
  | _ => none }
def ZoneOnceWrongFalsely : Prop := zoneOnceRow.holds Try.pinned (OpenSpec.ofChange zoneOnceWrong)

/-- 'pagecachelaw10.ZoneReserve': WHATEVER THE INPUT: true; the input reads as it did. -/
def zoneReserveSpec : ChangeSpec := { name := "zoneReserve", fn := fun _ => fun
  | [d] => { results := [.lit (.bool true)], args := [d] }
  | _ => none }
def zoneReserveRow : OpenClaim := { program := "ytphccdfdknihdaa", sum := "ac3f2ae6614dedcb292d4cb85adfc74edf1b4c8bad666b3087a8185fb3a4e891", func := "pagecache/pagecachelaw10.ZoneReserve", spec := "zoneReserve", unfollowed := true, recurses := true, apart := false }
def ZoneReserveSaid : Prop := zoneReserveRow.holds Try.pinned (OpenSpec.ofChange zoneReserveSpec)

/-- ITS FALSE NEIGHBOUR: 'it returns false'. Refute it at one input. -/
def zoneReserveWrong : ChangeSpec := { name := "zoneReserve", fn := fun _ => fun
  | [d] => { results := [.lit (.bool false)], args := [d] }
  | _ => none }
def ZoneReserveWrongFalsely : Prop := zoneReserveRow.holds Try.pinned (OpenSpec.ofChange zoneReserveWrong)

/-- 'pagecachelaw10.ZoneFallback': WHATEVER THE INPUT: true; the input reads as it did. -/
def zoneFallbackSpec : ChangeSpec := { name := "zoneFallback", fn := fun _ => fun
  | [d1, d2] => { results := [.lit (.bool true)], args := [d1, d2] }
  | _ => none }
def zoneFallbackRow : OpenClaim := { program := "ytphccdfdknihdaa", sum := "ac3f2ae6614dedcb292d4cb85adfc74edf1b4c8bad666b3087a8185fb3a4e891", func := "pagecache/pagecachelaw10.ZoneFallback", spec := "zoneFallback", unfollowed := true, recurses := true, apart := false }
def ZoneFallbackSaid : Prop := zoneFallbackRow.holds Try.pinned (OpenSpec.ofChange zoneFallbackSpec)

/-- ITS FALSE NEIGHBOUR: 'it returns false'. Refute it at one input. -/
def zoneFallbackWrong : ChangeSpec := { name := "zoneFallback", fn := fun _ => fun
  | [d1, d2] => { results := [.lit (.bool false)], args := [d1, d2] }
  | _ => none }
def ZoneFallbackWrongFalsely : Prop := zoneFallbackRow.holds Try.pinned (OpenSpec.ofChange zoneFallbackWrong)

/-- 'pagecachelaw10.ZoneMarks': WHATEVER THE INPUT: true; the input reads as it did. -/
def zoneMarksSpec : ChangeSpec := { name := "zoneMarks", fn := fun _ => fun
  | [d] => { results := [.lit (.bool true)], args := [d] }
  | _ => none }
def zoneMarksRow : OpenClaim := { program := "ytphccdfdknihdaa", sum := "ac3f2ae6614dedcb292d4cb85adfc74edf1b4c8bad666b3087a8185fb3a4e891", func := "pagecache/pagecachelaw10.ZoneMarks", spec := "zoneMarks", unfollowed := true, recurses := true, apart := false }
def ZoneMarksSaid : Prop := zoneMarksRow.holds Try.pinned (OpenSpec.ofChange zoneMarksSpec)

/-- ITS FALSE NEIGHBOUR: 'it returns false'. Refute it at one input. -/
def zoneMarksWrong : ChangeSpec := { name := "zoneMarks", fn := fun _ => fun
  | [d] => { results := [.lit (.bool false)], args := [d] }
  | _ => none }
def ZoneMarksWrongFalsely : Prop := zoneMarksRow.holds Try.pinned (OpenSpec.ofChange zoneMarksWrong)

/- THE SECOND FORM. 'bulk': how many values and letters a reading holds, each counted each time it is reached (what is shared counts as often as it is met; a slice's spare places count too). A statement '..UptoSaid' is the law's where the arguments, and the package variables that the reading takes, are together of bulk at most 1048576: NARROWER than '..Said'. Prove '..Said' where nothing that the law and all that it calls make is longer than what came in: it says more and counts as full. Else prove '..UptoSaid'. A law counts once. -/
mutual
def uptoBulk {H : Type} : DataW H → Nat
  | .lit (.string bytes) => bytes.length + 1
  | .lit _ => 1
  | .nil => 1
  | .ptr d => uptoBulk d + 1
  | .slice elems spare => uptoBulkAll elems + uptoBulkAll spare + 1
  | .agg parts => uptoBulkAll parts + 1
  | .iface _ d => uptoBulk d + 1
  | .map entries => uptoBulkEntries entries + 1
  | .held _ => 1
def uptoBulkAll {H : Type} : List (DataW H) → Nat
  | [] => 0
  | d :: r => uptoBulk d + uptoBulkAll r
def uptoBulkEntries {H : Type} : List (Lit × DataW H) → Nat
  | [] => 0
  | x :: r => uptoBulkEntry x + uptoBulkEntries r
def uptoBulkEntry {H : Type} : Lit × DataW H → Nat
  | (.string bytes, d) => bytes.length + uptoBulk d + 1
  | (_, d) => uptoBulk d + 1
 end
def uptoSmall : (H : Type) → List (DataW H) → Bool := fun _ ds => decide (uptoBulkAll ds ≤ 1048576)
def OpenSpec.upto (s : _root_.Go.ChangeSpec) : _root_.Go.OpenSpec := { _root_.Go.OpenSpec.ofChange s with cond := some uptoSmall }

/-- 'pagecachelaw10.ZoneCalls', WHERE WHAT IT READS IS OF BULK AT MOST 1048576: true; the input reads as it did. -/
def zoneCallsUptoRow : OpenClaim := { program := "ytphccdfdknihdaa", sum := "ac3f2ae6614dedcb292d4cb85adfc74edf1b4c8bad666b3087a8185fb3a4e891", func := "pagecache/pagecachelaw10.ZoneCalls", spec := "zoneCalls", unfollowed := true, recurses := true, apart := false, narrowed := true }
def ZoneCallsUptoSaid : Prop := zoneCallsUptoRow.holds Try.pinned (OpenSpec.upto zoneCallsSpec)

/-- 'pagecachelaw10.ZoneNew', WHERE WHAT IT READS IS OF BULK AT MOST 1048576: true; the input reads as it did. -/
def zoneNewUptoRow : OpenClaim := { program := "ytphccdfdknihdaa", sum := "ac3f2ae6614dedcb292d4cb85adfc74edf1b4c8bad666b3087a8185fb3a4e891", func := "pagecache/pagecachelaw10.ZoneNew", spec := "zoneNew", unfollowed := true, recurses := true, apart := false, narrowed := true }
def ZoneNewUptoSaid : Prop := zoneNewUptoRow.holds Try.pinned (OpenSpec.upto zoneNewSpec)

/-- 'pagecachelaw10.ZoneOnce', WHERE WHAT IT READS IS OF BULK AT MOST 1048576: true; the input reads as it did. -/
def zoneOnceUptoRow : OpenClaim := { program := "ytphccdfdknihdaa", sum := "ac3f2ae6614dedcb292d4cb85adfc74edf1b4c8bad666b3087a8185fb3a4e891", func := "pagecache/pagecachelaw10.ZoneOnce", spec := "zoneOnce", unfollowed := true, recurses := true, apart := false, narrowed := true }
def ZoneOnceUptoSaid : Prop := zoneOnceUptoRow.holds Try.pinned (OpenSpec.upto zoneOnceSpec)

/-- 'pagecachelaw10.ZoneReserve', WHERE WHAT IT READS IS OF BULK AT MOST 1048576: true; the input reads as it did. -/
def zoneReserveUptoRow : OpenClaim := { program := "ytphccdfdknihdaa", sum := "ac3f2ae6614dedcb292d4cb85adfc74edf1b4c8bad666b3087a8185fb3a4e891", func := "pagecache/pagecachelaw10.ZoneReserve", spec := "zoneReserve", unfollowed := true, recurses := true, apart := false, narrowed := true }
def ZoneReserveUptoSaid : Prop := zoneReserveUptoRow.holds Try.pinned (OpenSpec.upto zoneReserveSpec)

/-- 'pagecachelaw10.ZoneFallback', WHERE WHAT IT READS IS OF BULK AT MOST 1048576: true; the input reads as it did. -/
def zoneFallbackUptoRow : OpenClaim := { program := "ytphccdfdknihdaa", sum := "ac3f2ae6614dedcb292d4cb85adfc74edf1b4c8bad666b3087a8185fb3a4e891", func := "pagecache/pagecachelaw10.ZoneFallback", spec := "zoneFallback", unfollowed := true, recurses := true, apart := false, narrowed := true }
def ZoneFallbackUptoSaid : Prop := zoneFallbackUptoRow.holds Try.pinned (OpenSpec.upto zoneFallbackSpec)

/-- 'pagecachelaw10.ZoneMarks', WHERE WHAT IT READS IS OF BULK AT MOST 1048576: true; the input reads as it did. -/
def zoneMarksUptoRow : OpenClaim := { program := "ytphccdfdknihdaa", sum := "ac3f2ae6614dedcb292d4cb85adfc74edf1b4c8bad666b3087a8185fb3a4e891", func := "pagecache/pagecachelaw10.ZoneMarks", spec := "zoneMarks", unfollowed := true, recurses := true, apart := false, narrowed := true }
def ZoneMarksUptoSaid : Prop := zoneMarksUptoRow.holds Try.pinned (OpenSpec.upto zoneMarksSpec)

end Rows
end Go.Proofs.Ytphccdfdknihdaa

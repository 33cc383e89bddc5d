/-
  DERIVED. GIVEN WITH THE SEED: THE CARDS: each row of YtfljohgcbihhbaaDoorRows.lean that lists a variable, with what it lists TIED to the program's text (the seventh form; the later family's looks); each row that meets fmt, with fmt's text TOLD by the authors' own Lean function (tested against real Go, not proved from fmt's source: count such statements apart). THE CARD IS WHAT COUNTS. Prove the row's statement (the work); the ties are given (YtfljohgcbihhbaaDoorTie.lean); close each card by the builder's one call (the guide's Derived/Test/ToyasCard.lean, 'card_holds'). Laid BY PROGRAM, IN A SANDBOX (cutbox-door.mjs). By AI agents, Wed Nov 11 2026. No macro, syntax, notation, axiom, sorry.
-/
import Derived.Test.YtfljohgcbihhbaaDoorRows
import GoSem.ClaimSeven
namespace Go.Proofs.YtfljohgcbihhbaaDoor
namespace Rows

/-- THE TIED CARD OF 'pagecachelaw07.ReadaheadPlans'. -/
def readaheadPlansCard : Claim7 := { stood := { row := readaheadPlansRow, standIns := [], harness := (true, "bbe472f733f79f83881be3010bf559a9cc438f3dc1f5b568f2096c7ff7523005"), looks := false }, kinds := [], alts := [], laidByText := true, laidKinds := [.data], laidTests := true, laidLooks := .later }
def ReadaheadPlansCardSaid : Prop := Claim7.holds Tryd.pinned (.plain (OpenSpec.ofChange readaheadPlansSpec)) readaheadPlansCard

/-- THE TIED CARD OF 'pagecachelaw07.ReadaheadReader'. -/
def readaheadReaderCard : Claim7 := { stood := { row := readaheadReaderRow, standIns := [], harness := (true, "bbe472f733f79f83881be3010bf559a9cc438f3dc1f5b568f2096c7ff7523005"), looks := false }, kinds := [], alts := [], laidByText := true, laidKinds := [.data], laidTests := true, laidLooks := .later }
def ReadaheadReaderCardSaid : Prop := Claim7.holds Tryd.pinned (.plain (OpenSpec.ofChange readaheadReaderSpec)) readaheadReaderCard

/-- THE TIED CARD OF 'pagecachelaw07.ReadaheadOthers'. -/
def readaheadOthersCard : Claim7 := { stood := { row := readaheadOthersRow, standIns := [], harness := (true, "bbe472f733f79f83881be3010bf559a9cc438f3dc1f5b568f2096c7ff7523005"), looks := false }, kinds := [], alts := [], laidByText := true, laidKinds := [.data], laidTests := true, laidLooks := .later }
def ReadaheadOthersCardSaid : Prop := Claim7.holds Tryd.pinned (.plain (OpenSpec.ofChange readaheadOthersSpec)) readaheadOthersCard

/-- THE SECOND FORM's CARD OF 'pagecachelaw07.ReadaheadPlans'. -/
def readaheadPlansUptoCard : Claim7 := { stood := { row := readaheadPlansUptoRow, standIns := [], harness := (true, "bbe472f733f79f83881be3010bf559a9cc438f3dc1f5b568f2096c7ff7523005"), looks := false }, kinds := [], alts := [], laidByText := true, laidKinds := [.data], laidTests := true, laidLooks := .later }
def ReadaheadPlansUptoCardSaid : Prop := Claim7.holds Tryd.pinned (.plain (OpenSpec.upto readaheadPlansSpec)) readaheadPlansUptoCard

/-- THE SECOND FORM's CARD OF 'pagecachelaw07.ReadaheadReader'. -/
def readaheadReaderUptoCard : Claim7 := { stood := { row := readaheadReaderUptoRow, standIns := [], harness := (true, "bbe472f733f79f83881be3010bf559a9cc438f3dc1f5b568f2096c7ff7523005"), looks := false }, kinds := [], alts := [], laidByText := true, laidKinds := [.data], laidTests := true, laidLooks := .later }
def ReadaheadReaderUptoCardSaid : Prop := Claim7.holds Tryd.pinned (.plain (OpenSpec.upto readaheadReaderSpec)) readaheadReaderUptoCard

/-- THE SECOND FORM's CARD OF 'pagecachelaw07.ReadaheadOthers'. -/
def readaheadOthersUptoCard : Claim7 := { stood := { row := readaheadOthersUptoRow, standIns := [], harness := (true, "bbe472f733f79f83881be3010bf559a9cc438f3dc1f5b568f2096c7ff7523005"), looks := false }, kinds := [], alts := [], laidByText := true, laidKinds := [.data], laidTests := true, laidLooks := .later }
def ReadaheadOthersUptoCardSaid : Prop := Claim7.holds Tryd.pinned (.plain (OpenSpec.upto readaheadOthersSpec)) readaheadOthersUptoCard
end Rows
end Go.Proofs.YtfljohgcbihhbaaDoor

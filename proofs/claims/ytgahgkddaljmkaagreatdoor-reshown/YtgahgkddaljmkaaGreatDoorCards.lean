/-
  DERIVED. GIVEN WITH THE SEED: THE CARDS: each row of YtgahgkddaljmkaaGreatDoorRows.lean that lists a variable, with what it lists TIED to the program's text (the seventh form; the later family's looks); each row that meets fmt, with fmt's text TOLD by the authors' own Lean function (tested against real Go, not proved from fmt's source: count such statements apart). THE CARD IS WHAT COUNTS. Prove the row's statement (the work); the ties are given (YtgahgkddaljmkaaGreatDoorTie.lean); close each card by the builder's one call (the guide's Derived/Test/ToyasCard.lean, 'card_holds'). Laid BY PROGRAM, IN A SANDBOX (cutbox-door.mjs). By AI agents, Wed Nov 11 2026. No macro, syntax, notation, axiom, sorry.
-/
import Derived.Test.YtgahgkddaljmkaaGreatDoorRows
import GoSem.ClaimSeven
namespace Go.Proofs.YtgahgkddaljmkaaGreatDoor
namespace Rows

/-- THE TIED CARD OF 'thunklaw.Checks'. -/
def checksCard : Claim7 := { stood := { row := checksRow, standIns := [], harness := (true, "c80c17486e10a2f8ad1dc027903d7da6e39bb29129e4942e9c7ad3195cce7816"), looks := true }, kinds := [], alts := [], laidByText := true, laidKinds := [.data, .data, .data, .sentinel, .sentinel], laidTests := true, laidLooks := .later }
def ChecksCardSaid : Prop := Claim7.holds Tryz.pinned (.plain (OpenSpec.ofChange checksSpec)) checksCard

/-- THE TIED CARD OF 'thunklaw.Shows'. -/
def showsCard : Claim7 := { stood := { row := showsRow, standIns := [], harness := (true, "c80c17486e10a2f8ad1dc027903d7da6e39bb29129e4942e9c7ad3195cce7816"), looks := true }, kinds := [], alts := [], laidByText := true, laidKinds := [.data, .data, .data, .sentinel, .sentinel], laidTests := true, laidLooks := .later }
def ShowsCardSaid : Prop := Claim7.holds Tryz.pinned (.plain (OpenSpec.ofChange showsSpec)) showsCard

/-- THE TIED CARD OF 'thunklaw.Runs'. -/
def runsCard : Claim7 := { stood := { row := runsRow, standIns := [], harness := (true, "c80c17486e10a2f8ad1dc027903d7da6e39bb29129e4942e9c7ad3195cce7816"), looks := true }, kinds := [], alts := [], laidByText := true, laidKinds := [.data, .data, .data, .sentinel, .sentinel], laidTests := true, laidLooks := .later }
def RunsCardSaid : Prop := Claim7.holds Tryz.pinned (.plain (OpenSpec.ofChange runsSpec)) runsCard

/-- THE TIED CARD OF 'thunkkeep.Sums'. -/
def sumsCard : Claim7 := { stood := { row := sumsRow, standIns := [], harness := (true, "c80c17486e10a2f8ad1dc027903d7da6e39bb29129e4942e9c7ad3195cce7816"), looks := true }, kinds := [], alts := [], laidByText := true, laidKinds := [.data, .data, .data, .sentinel, .sentinel], laidTests := true, laidLooks := .later }
def SumsCardSaid : Prop := Claim7.holds Tryz.pinned (.plain (OpenSpec.ofChange sumsSpec)) sumsCard

/-- THE TIED CARD OF 'thunkkeep.Lazy'. -/
def lazyCard : Claim7 := { stood := { row := lazyRow, standIns := [], harness := (true, "c80c17486e10a2f8ad1dc027903d7da6e39bb29129e4942e9c7ad3195cce7816"), looks := true }, kinds := [], alts := [], laidByText := true, laidKinds := [.data, .data, .data, .sentinel, .sentinel], laidTests := true, laidLooks := .later }
def LazyCardSaid : Prop := Claim7.holds Tryz.pinned (.plain (OpenSpec.ofChange lazySpec)) lazyCard

/-- THE TIED CARD OF 'thunkkeep.Shared'. -/
def sharedCard : Claim7 := { stood := { row := sharedRow, standIns := [], harness := (true, "c80c17486e10a2f8ad1dc027903d7da6e39bb29129e4942e9c7ad3195cce7816"), looks := true }, kinds := [], alts := [], laidByText := true, laidKinds := [.data, .data, .data, .sentinel, .sentinel], laidTests := true, laidLooks := .later }
def SharedCardSaid : Prop := Claim7.holds Tryz.pinned (.plain (OpenSpec.ofChange sharedSpec)) sharedCard

/-- THE TIED CARD OF 'thunkkeep.Listed'. -/
def listedCard : Claim7 := { stood := { row := listedRow, standIns := [], harness := (true, "c80c17486e10a2f8ad1dc027903d7da6e39bb29129e4942e9c7ad3195cce7816"), looks := true }, kinds := [], alts := [], laidByText := true, laidKinds := [.data, .data, .data, .sentinel, .sentinel], laidTests := true, laidLooks := .later }
def ListedCardSaid : Prop := Claim7.holds Tryz.pinned (.plain (OpenSpec.ofChange listedSpec)) listedCard

/-- THE TIED CARD OF 'thunkkeep.Steady'. -/
def steadyCard : Claim7 := { stood := { row := steadyRow, standIns := [], harness := (true, "c80c17486e10a2f8ad1dc027903d7da6e39bb29129e4942e9c7ad3195cce7816"), looks := true }, kinds := [], alts := [], laidByText := true, laidKinds := [.data, .data, .data, .sentinel, .sentinel], laidTests := true, laidLooks := .later }
def SteadyCardSaid : Prop := Claim7.holds Tryz.pinned (.plain (OpenSpec.ofChange steadySpec)) steadyCard

/-- THE TIED CARD OF 'thunkkeep.Reshown'. -/
def reshownCard : Claim7 := { stood := { row := reshownRow, standIns := [], harness := (true, "c80c17486e10a2f8ad1dc027903d7da6e39bb29129e4942e9c7ad3195cce7816"), looks := true }, kinds := [], alts := [], laidByText := true, laidKinds := [.data, .data, .data, .sentinel, .sentinel], laidTests := true, laidLooks := .later }
def ReshownCardSaid : Prop := Claim7.holds Tryz.pinned (.plain (OpenSpec.ofChange reshownSpec)) reshownCard

/-- THE TIED CARD OF 'thunkkeep.Counted'. -/
def countedCard : Claim7 := { stood := { row := countedRow, standIns := [], harness := (true, "c80c17486e10a2f8ad1dc027903d7da6e39bb29129e4942e9c7ad3195cce7816"), looks := true }, kinds := [], alts := [], laidByText := true, laidKinds := [.data, .data, .data, .sentinel, .sentinel], laidTests := true, laidLooks := .later }
def CountedCardSaid : Prop := Claim7.holds Tryz.pinned (.plain (OpenSpec.ofChange countedSpec)) countedCard

/-- THE TIED CARD OF 'thunkkeep.Held'. -/
def heldCard : Claim7 := { stood := { row := heldRow, standIns := [], harness := (true, "c80c17486e10a2f8ad1dc027903d7da6e39bb29129e4942e9c7ad3195cce7816"), looks := true }, kinds := [], alts := [], laidByText := true, laidKinds := [.data, .data, .data, .sentinel, .sentinel], laidTests := true, laidLooks := .later }
def HeldCardSaid : Prop := Claim7.holds Tryz.pinned (.plain (OpenSpec.ofChange heldSpec)) heldCard

/-- THE TIED CARD OF 'thunklaw.All'. -/
def allCard : Claim7 := { stood := { row := allRow, standIns := [], harness := (true, "c80c17486e10a2f8ad1dc027903d7da6e39bb29129e4942e9c7ad3195cce7816"), looks := true }, kinds := [], alts := [], laidByText := true, laidKinds := [.data, .data, .data, .sentinel, .sentinel], laidTests := true, laidLooks := .later }
def AllCardSaid : Prop := Claim7.holds Tryz.pinned (.plain (OpenSpec.ofChange allSpec)) allCard

/-- THE SECOND FORM's CARD OF 'thunklaw.Checks'. -/
def checksUptoCard : Claim7 := { stood := { row := checksUptoRow, standIns := [], harness := (true, "c80c17486e10a2f8ad1dc027903d7da6e39bb29129e4942e9c7ad3195cce7816"), looks := true }, kinds := [], alts := [], laidByText := true, laidKinds := [.data, .data, .data, .sentinel, .sentinel], laidTests := true, laidLooks := .later }
def ChecksUptoCardSaid : Prop := Claim7.holds Tryz.pinned (.plain (OpenSpec.upto checksSpec)) checksUptoCard

/-- THE SECOND FORM's CARD OF 'thunklaw.Shows'. -/
def showsUptoCard : Claim7 := { stood := { row := showsUptoRow, standIns := [], harness := (true, "c80c17486e10a2f8ad1dc027903d7da6e39bb29129e4942e9c7ad3195cce7816"), looks := true }, kinds := [], alts := [], laidByText := true, laidKinds := [.data, .data, .data, .sentinel, .sentinel], laidTests := true, laidLooks := .later }
def ShowsUptoCardSaid : Prop := Claim7.holds Tryz.pinned (.plain (OpenSpec.upto showsSpec)) showsUptoCard

/-- THE SECOND FORM's CARD OF 'thunklaw.Runs'. -/
def runsUptoCard : Claim7 := { stood := { row := runsUptoRow, standIns := [], harness := (true, "c80c17486e10a2f8ad1dc027903d7da6e39bb29129e4942e9c7ad3195cce7816"), looks := true }, kinds := [], alts := [], laidByText := true, laidKinds := [.data, .data, .data, .sentinel, .sentinel], laidTests := true, laidLooks := .later }
def RunsUptoCardSaid : Prop := Claim7.holds Tryz.pinned (.plain (OpenSpec.upto runsSpec)) runsUptoCard

/-- THE SECOND FORM's CARD OF 'thunkkeep.Sums'. -/
def sumsUptoCard : Claim7 := { stood := { row := sumsUptoRow, standIns := [], harness := (true, "c80c17486e10a2f8ad1dc027903d7da6e39bb29129e4942e9c7ad3195cce7816"), looks := true }, kinds := [], alts := [], laidByText := true, laidKinds := [.data, .data, .data, .sentinel, .sentinel], laidTests := true, laidLooks := .later }
def SumsUptoCardSaid : Prop := Claim7.holds Tryz.pinned (.plain (OpenSpec.upto sumsSpec)) sumsUptoCard

/-- THE SECOND FORM's CARD OF 'thunkkeep.Lazy'. -/
def lazyUptoCard : Claim7 := { stood := { row := lazyUptoRow, standIns := [], harness := (true, "c80c17486e10a2f8ad1dc027903d7da6e39bb29129e4942e9c7ad3195cce7816"), looks := true }, kinds := [], alts := [], laidByText := true, laidKinds := [.data, .data, .data, .sentinel, .sentinel], laidTests := true, laidLooks := .later }
def LazyUptoCardSaid : Prop := Claim7.holds Tryz.pinned (.plain (OpenSpec.upto lazySpec)) lazyUptoCard

/-- THE SECOND FORM's CARD OF 'thunkkeep.Shared'. -/
def sharedUptoCard : Claim7 := { stood := { row := sharedUptoRow, standIns := [], harness := (true, "c80c17486e10a2f8ad1dc027903d7da6e39bb29129e4942e9c7ad3195cce7816"), looks := true }, kinds := [], alts := [], laidByText := true, laidKinds := [.data, .data, .data, .sentinel, .sentinel], laidTests := true, laidLooks := .later }
def SharedUptoCardSaid : Prop := Claim7.holds Tryz.pinned (.plain (OpenSpec.upto sharedSpec)) sharedUptoCard

/-- THE SECOND FORM's CARD OF 'thunkkeep.Listed'. -/
def listedUptoCard : Claim7 := { stood := { row := listedUptoRow, standIns := [], harness := (true, "c80c17486e10a2f8ad1dc027903d7da6e39bb29129e4942e9c7ad3195cce7816"), looks := true }, kinds := [], alts := [], laidByText := true, laidKinds := [.data, .data, .data, .sentinel, .sentinel], laidTests := true, laidLooks := .later }
def ListedUptoCardSaid : Prop := Claim7.holds Tryz.pinned (.plain (OpenSpec.upto listedSpec)) listedUptoCard

/-- THE SECOND FORM's CARD OF 'thunkkeep.Steady'. -/
def steadyUptoCard : Claim7 := { stood := { row := steadyUptoRow, standIns := [], harness := (true, "c80c17486e10a2f8ad1dc027903d7da6e39bb29129e4942e9c7ad3195cce7816"), looks := true }, kinds := [], alts := [], laidByText := true, laidKinds := [.data, .data, .data, .sentinel, .sentinel], laidTests := true, laidLooks := .later }
def SteadyUptoCardSaid : Prop := Claim7.holds Tryz.pinned (.plain (OpenSpec.upto steadySpec)) steadyUptoCard

/-- THE SECOND FORM's CARD OF 'thunkkeep.Reshown'. -/
def reshownUptoCard : Claim7 := { stood := { row := reshownUptoRow, standIns := [], harness := (true, "c80c17486e10a2f8ad1dc027903d7da6e39bb29129e4942e9c7ad3195cce7816"), looks := true }, kinds := [], alts := [], laidByText := true, laidKinds := [.data, .data, .data, .sentinel, .sentinel], laidTests := true, laidLooks := .later }
def ReshownUptoCardSaid : Prop := Claim7.holds Tryz.pinned (.plain (OpenSpec.upto reshownSpec)) reshownUptoCard

/-- THE SECOND FORM's CARD OF 'thunkkeep.Counted'. -/
def countedUptoCard : Claim7 := { stood := { row := countedUptoRow, standIns := [], harness := (true, "c80c17486e10a2f8ad1dc027903d7da6e39bb29129e4942e9c7ad3195cce7816"), looks := true }, kinds := [], alts := [], laidByText := true, laidKinds := [.data, .data, .data, .sentinel, .sentinel], laidTests := true, laidLooks := .later }
def CountedUptoCardSaid : Prop := Claim7.holds Tryz.pinned (.plain (OpenSpec.upto countedSpec)) countedUptoCard

/-- THE SECOND FORM's CARD OF 'thunkkeep.Held'. -/
def heldUptoCard : Claim7 := { stood := { row := heldUptoRow, standIns := [], harness := (true, "c80c17486e10a2f8ad1dc027903d7da6e39bb29129e4942e9c7ad3195cce7816"), looks := true }, kinds := [], alts := [], laidByText := true, laidKinds := [.data, .data, .data, .sentinel, .sentinel], laidTests := true, laidLooks := .later }
def HeldUptoCardSaid : Prop := Claim7.holds Tryz.pinned (.plain (OpenSpec.upto heldSpec)) heldUptoCard

/-- THE SECOND FORM's CARD OF 'thunklaw.All'. -/
def allUptoCard : Claim7 := { stood := { row := allUptoRow, standIns := [], harness := (true, "c80c17486e10a2f8ad1dc027903d7da6e39bb29129e4942e9c7ad3195cce7816"), looks := true }, kinds := [], alts := [], laidByText := true, laidKinds := [.data, .data, .data, .sentinel, .sentinel], laidTests := true, laidLooks := .later }
def AllUptoCardSaid : Prop := Claim7.holds Tryz.pinned (.plain (OpenSpec.upto allSpec)) allUptoCard
end Rows
end Go.Proofs.YtgahgkddaljmkaaGreatDoor

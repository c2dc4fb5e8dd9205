/-
  DERIVED. GIVEN WITH THE SEED: THE CARDS: each row of YtbmocfgkocncpaaDoorRows.lean that lists a variable, with what it lists TIED to the program's text (the seventh form; the later family's looks); each row that meets fmt, with fmt's text TOLD by the authors' own Lean function (tested against real Go, not proved from fmt's source: count such statements apart). THE CARD IS WHAT COUNTS. Prove the row's statement (the work); the ties are given (YtbmocfgkocncpaaDoorTie.lean); close each card by the builder's one call (the guide's Derived/Test/ToyasCard.lean, 'card_holds'). Laid BY PROGRAM, IN A SANDBOX (cutbox-door.mjs). By AI agents, Wed Nov 11 2026. No macro, syntax, notation, axiom, sorry.
-/
import Derived.Test.YtbmocfgkocncpaaDoorRows
import GoSem.ClaimSeven
namespace Go.Proofs.YtbmocfgkocncpaaDoor
namespace Rows

/-- THE TIED CARD OF 'lychgatelaw.CellSteps'. -/
def cellStepsCard : Claim7 := { stood := { row := cellStepsRow, standIns := [], harness := (true, "78239650f47f9823701f7cef68962c527abe6a2362d01b8b17f935f50f0744d4"), looks := false }, kinds := [], alts := [], laidByText := true, laidKinds := [.data], laidTests := true, laidLooks := .later }
def CellStepsCardSaid : Prop := Claim7.holds Tryd.pinned (.plain (OpenSpec.ofChange cellStepsSpec)) cellStepsCard

/-- THE TIED CARD OF 'lychgatelaw.CellReplies'. -/
def cellRepliesCard : Claim7 := { stood := { row := cellRepliesRow, standIns := [], harness := (true, "78239650f47f9823701f7cef68962c527abe6a2362d01b8b17f935f50f0744d4"), looks := false }, kinds := [], alts := [], laidByText := true, laidKinds := [.data], laidTests := true, laidLooks := .later }
def CellRepliesCardSaid : Prop := Claim7.holds Tryd.pinned (.plain (OpenSpec.ofChange cellRepliesSpec)) cellRepliesCard

/-- THE TIED CARD OF 'lychgatelaw.CellTrue'. -/
def cellTrueCard : Claim7 := { stood := { row := cellTrueRow, standIns := [], harness := (true, "78239650f47f9823701f7cef68962c527abe6a2362d01b8b17f935f50f0744d4"), looks := false }, kinds := [], alts := [], laidByText := true, laidKinds := [.data], laidTests := true, laidLooks := .later }
def CellTrueCardSaid : Prop := Claim7.holds Tryd.pinned (.plain (OpenSpec.ofChange cellTrueSpec)) cellTrueCard

/-- THE SECOND FORM's CARD OF 'lychgatelaw.CellSteps'. -/
def cellStepsUptoCard : Claim7 := { stood := { row := cellStepsUptoRow, standIns := [], harness := (true, "78239650f47f9823701f7cef68962c527abe6a2362d01b8b17f935f50f0744d4"), looks := false }, kinds := [], alts := [], laidByText := true, laidKinds := [.data], laidTests := true, laidLooks := .later }
def CellStepsUptoCardSaid : Prop := Claim7.holds Tryd.pinned (.plain (OpenSpec.upto cellStepsSpec)) cellStepsUptoCard

/-- THE SECOND FORM's CARD OF 'lychgatelaw.CellReplies'. -/
def cellRepliesUptoCard : Claim7 := { stood := { row := cellRepliesUptoRow, standIns := [], harness := (true, "78239650f47f9823701f7cef68962c527abe6a2362d01b8b17f935f50f0744d4"), looks := false }, kinds := [], alts := [], laidByText := true, laidKinds := [.data], laidTests := true, laidLooks := .later }
def CellRepliesUptoCardSaid : Prop := Claim7.holds Tryd.pinned (.plain (OpenSpec.upto cellRepliesSpec)) cellRepliesUptoCard

/-- THE SECOND FORM's CARD OF 'lychgatelaw.CellTrue'. -/
def cellTrueUptoCard : Claim7 := { stood := { row := cellTrueUptoRow, standIns := [], harness := (true, "78239650f47f9823701f7cef68962c527abe6a2362d01b8b17f935f50f0744d4"), looks := false }, kinds := [], alts := [], laidByText := true, laidKinds := [.data], laidTests := true, laidLooks := .later }
def CellTrueUptoCardSaid : Prop := Claim7.holds Tryd.pinned (.plain (OpenSpec.upto cellTrueSpec)) cellTrueUptoCard
end Rows
end Go.Proofs.YtbmocfgkocncpaaDoor

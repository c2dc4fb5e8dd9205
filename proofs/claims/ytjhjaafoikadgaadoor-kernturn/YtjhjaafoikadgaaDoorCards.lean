/-
  DERIVED. GIVEN WITH THE SEED: THE CARDS: each row of YtjhjaafoikadgaaDoorRows.lean that lists a variable, with what it lists TIED to the program's text (the seventh form; the later family's looks); each row that meets fmt, with fmt's text TOLD by the authors' own Lean function (tested against real Go, not proved from fmt's source: count such statements apart). THE CARD IS WHAT COUNTS. Prove the row's statement (the work); the ties are given (YtjhjaafoikadgaaDoorTie.lean); close each card by the builder's one call (the guide's Derived/Test/ToyasCard.lean, 'card_holds'). Laid BY PROGRAM, IN A SANDBOX (cutbox-door.mjs). By AI agents, Wed Nov 11 2026. No macro, syntax, notation, axiom, sorry.
-/
import Derived.Test.YtjhjaafoikadgaaDoorRows
import GoSem.ClaimSeven
namespace Go.Proofs.YtjhjaafoikadgaaDoor
namespace Rows

/-- THE TIED CARD OF 'lychgatelaw.KernChecks'. -/
def kernChecksCard : Claim7 := { stood := { row := kernChecksRow, standIns := [], harness := (true, "870a438b75a9b502c7111a3382b140c89533926a4cb374405e81fa36841a100d"), looks := false }, kinds := [], alts := [], laidByText := true, laidKinds := [.data], laidTests := true, laidLooks := .later }
def KernChecksCardSaid : Prop := Claim7.holds Tryd.pinned (.plain (OpenSpec.ofChange kernChecksSpec)) kernChecksCard

/-- THE TIED CARD OF 'lychgatelaw.KernSteps'. -/
def kernStepsCard : Claim7 := { stood := { row := kernStepsRow, standIns := [], harness := (true, "870a438b75a9b502c7111a3382b140c89533926a4cb374405e81fa36841a100d"), looks := false }, kinds := [], alts := [], laidByText := true, laidKinds := [.data], laidTests := true, laidLooks := .later }
def KernStepsCardSaid : Prop := Claim7.holds Tryd.pinned (.plain (OpenSpec.ofChange kernStepsSpec)) kernStepsCard

/-- THE TIED CARD OF 'lychgatelaw.KernRuns'. -/
def kernRunsCard : Claim7 := { stood := { row := kernRunsRow, standIns := [], harness := (true, "870a438b75a9b502c7111a3382b140c89533926a4cb374405e81fa36841a100d"), looks := false }, kinds := [], alts := [], laidByText := true, laidKinds := [.data], laidTests := true, laidLooks := .later }
def KernRunsCardSaid : Prop := Claim7.holds Tryd.pinned (.plain (OpenSpec.ofChange kernRunsSpec)) kernRunsCard

/-- THE TIED CARD OF 'lychgatelaw.KernMore'. -/
def kernMoreCard : Claim7 := { stood := { row := kernMoreRow, standIns := [], harness := (true, "870a438b75a9b502c7111a3382b140c89533926a4cb374405e81fa36841a100d"), looks := false }, kinds := [], alts := [], laidByText := true, laidKinds := [.data], laidTests := true, laidLooks := .later }
def KernMoreCardSaid : Prop := Claim7.holds Tryd.pinned (.plain (OpenSpec.ofChange kernMoreSpec)) kernMoreCard

/-- THE TIED CARD OF 'lychgatelaw.KernTurn'. -/
def kernTurnCard : Claim7 := { stood := { row := kernTurnRow, standIns := [], harness := (true, "870a438b75a9b502c7111a3382b140c89533926a4cb374405e81fa36841a100d"), looks := false }, kinds := [], alts := [], laidByText := true, laidKinds := [.data], laidTests := true, laidLooks := .later }
def KernTurnCardSaid : Prop := Claim7.holds Tryd.pinned (.plain (OpenSpec.ofChange kernTurnSpec)) kernTurnCard

/-- THE TIED CARD OF 'lychgatelaw.KernStill'. -/
def kernStillCard : Claim7 := { stood := { row := kernStillRow, standIns := [], harness := (true, "870a438b75a9b502c7111a3382b140c89533926a4cb374405e81fa36841a100d"), looks := false }, kinds := [], alts := [], laidByText := true, laidKinds := [.data], laidTests := true, laidLooks := .later }
def KernStillCardSaid : Prop := Claim7.holds Tryd.pinned (.plain (OpenSpec.ofChange kernStillSpec)) kernStillCard

/-- THE SECOND FORM's CARD OF 'lychgatelaw.KernChecks'. -/
def kernChecksUptoCard : Claim7 := { stood := { row := kernChecksUptoRow, standIns := [], harness := (true, "870a438b75a9b502c7111a3382b140c89533926a4cb374405e81fa36841a100d"), looks := false }, kinds := [], alts := [], laidByText := true, laidKinds := [.data], laidTests := true, laidLooks := .later }
def KernChecksUptoCardSaid : Prop := Claim7.holds Tryd.pinned (.plain (OpenSpec.upto kernChecksSpec)) kernChecksUptoCard

/-- THE SECOND FORM's CARD OF 'lychgatelaw.KernSteps'. -/
def kernStepsUptoCard : Claim7 := { stood := { row := kernStepsUptoRow, standIns := [], harness := (true, "870a438b75a9b502c7111a3382b140c89533926a4cb374405e81fa36841a100d"), looks := false }, kinds := [], alts := [], laidByText := true, laidKinds := [.data], laidTests := true, laidLooks := .later }
def KernStepsUptoCardSaid : Prop := Claim7.holds Tryd.pinned (.plain (OpenSpec.upto kernStepsSpec)) kernStepsUptoCard

/-- THE SECOND FORM's CARD OF 'lychgatelaw.KernRuns'. -/
def kernRunsUptoCard : Claim7 := { stood := { row := kernRunsUptoRow, standIns := [], harness := (true, "870a438b75a9b502c7111a3382b140c89533926a4cb374405e81fa36841a100d"), looks := false }, kinds := [], alts := [], laidByText := true, laidKinds := [.data], laidTests := true, laidLooks := .later }
def KernRunsUptoCardSaid : Prop := Claim7.holds Tryd.pinned (.plain (OpenSpec.upto kernRunsSpec)) kernRunsUptoCard

/-- THE SECOND FORM's CARD OF 'lychgatelaw.KernMore'. -/
def kernMoreUptoCard : Claim7 := { stood := { row := kernMoreUptoRow, standIns := [], harness := (true, "870a438b75a9b502c7111a3382b140c89533926a4cb374405e81fa36841a100d"), looks := false }, kinds := [], alts := [], laidByText := true, laidKinds := [.data], laidTests := true, laidLooks := .later }
def KernMoreUptoCardSaid : Prop := Claim7.holds Tryd.pinned (.plain (OpenSpec.upto kernMoreSpec)) kernMoreUptoCard

/-- THE SECOND FORM's CARD OF 'lychgatelaw.KernTurn'. -/
def kernTurnUptoCard : Claim7 := { stood := { row := kernTurnUptoRow, standIns := [], harness := (true, "870a438b75a9b502c7111a3382b140c89533926a4cb374405e81fa36841a100d"), looks := false }, kinds := [], alts := [], laidByText := true, laidKinds := [.data], laidTests := true, laidLooks := .later }
def KernTurnUptoCardSaid : Prop := Claim7.holds Tryd.pinned (.plain (OpenSpec.upto kernTurnSpec)) kernTurnUptoCard

/-- THE SECOND FORM's CARD OF 'lychgatelaw.KernStill'. -/
def kernStillUptoCard : Claim7 := { stood := { row := kernStillUptoRow, standIns := [], harness := (true, "870a438b75a9b502c7111a3382b140c89533926a4cb374405e81fa36841a100d"), looks := false }, kinds := [], alts := [], laidByText := true, laidKinds := [.data], laidTests := true, laidLooks := .later }
def KernStillUptoCardSaid : Prop := Claim7.holds Tryd.pinned (.plain (OpenSpec.upto kernStillSpec)) kernStillUptoCard
end Rows
end Go.Proofs.YtjhjaafoikadgaaDoor

/-
  DERIVED. GIVEN WITH THE SEED: THE CARDS: each row of YtdijpjmbicfcdaaDoorRows.lean that lists a variable, with what it lists TIED to the program's text (the seventh form; the later family's looks); each row that meets fmt, with fmt's text TOLD by the authors' own Lean function (tested against real Go, not proved from fmt's source: count such statements apart). THE CARD IS WHAT COUNTS. Prove the row's statement (the work); the ties are given (YtdijpjmbicfcdaaDoorTie.lean); close each card by the builder's one call (the guide's Derived/Test/ToyasCard.lean, 'card_holds'). Laid BY PROGRAM, IN A SANDBOX (cutbox-door.mjs). By AI agents, Wed Nov 11 2026. No macro, syntax, notation, axiom, sorry.
-/
import Derived.Test.YtdijpjmbicfcdaaDoorRows
import GoSem.ClaimSeven
namespace Go.Proofs.YtdijpjmbicfcdaaDoor
namespace Rows

/-- THE TIED CARD OF 'lychgatelaw.ConfChecks'. -/
def confChecksCard : Claim7 := { stood := { row := confChecksRow, standIns := [], harness := (true, "e7eb82ceeba651af22b67febd89cb681bfe5d052565584780002990427dde1eb"), looks := false }, kinds := [], alts := [], laidByText := true, laidKinds := [.data], laidTests := true, laidLooks := .later }
def ConfChecksCardSaid : Prop := Claim7.holds Tryd.pinned (.plain (OpenSpec.ofChange confChecksSpec)) confChecksCard

/-- THE TIED CARD OF 'lychgatelaw.ConfCalm'. -/
def confCalmCard : Claim7 := { stood := { row := confCalmRow, standIns := [], harness := (true, "e7eb82ceeba651af22b67febd89cb681bfe5d052565584780002990427dde1eb"), looks := false }, kinds := [], alts := [], laidByText := true, laidKinds := [.data], laidTests := true, laidLooks := .later }
def ConfCalmCardSaid : Prop := Claim7.holds Tryd.pinned (.plain (OpenSpec.ofChange confCalmSpec)) confCalmCard

/-- THE TIED CARD OF 'lychgatelaw.SchedTells'. -/
def schedTellsCard : Claim7 := { stood := { row := schedTellsRow, standIns := [], harness := (true, "e7eb82ceeba651af22b67febd89cb681bfe5d052565584780002990427dde1eb"), looks := false }, kinds := [], alts := [], laidByText := true, laidKinds := [.data], laidTests := true, laidLooks := .later }
def SchedTellsCardSaid : Prop := Claim7.holds Tryd.pinned (.plain (OpenSpec.ofChange schedTellsSpec)) schedTellsCard

/-- THE TIED CARD OF 'lychgatelaw.SchedTrue'. -/
def schedTrueCard : Claim7 := { stood := { row := schedTrueRow, standIns := [], harness := (true, "e7eb82ceeba651af22b67febd89cb681bfe5d052565584780002990427dde1eb"), looks := false }, kinds := [], alts := [], laidByText := true, laidKinds := [.data], laidTests := true, laidLooks := .later }
def SchedTrueCardSaid : Prop := Claim7.holds Tryd.pinned (.plain (OpenSpec.ofChange schedTrueSpec)) schedTrueCard

/-- THE SECOND FORM's CARD OF 'lychgatelaw.ConfChecks'. -/
def confChecksUptoCard : Claim7 := { stood := { row := confChecksUptoRow, standIns := [], harness := (true, "e7eb82ceeba651af22b67febd89cb681bfe5d052565584780002990427dde1eb"), looks := false }, kinds := [], alts := [], laidByText := true, laidKinds := [.data], laidTests := true, laidLooks := .later }
def ConfChecksUptoCardSaid : Prop := Claim7.holds Tryd.pinned (.plain (OpenSpec.upto confChecksSpec)) confChecksUptoCard

/-- THE SECOND FORM's CARD OF 'lychgatelaw.ConfCalm'. -/
def confCalmUptoCard : Claim7 := { stood := { row := confCalmUptoRow, standIns := [], harness := (true, "e7eb82ceeba651af22b67febd89cb681bfe5d052565584780002990427dde1eb"), looks := false }, kinds := [], alts := [], laidByText := true, laidKinds := [.data], laidTests := true, laidLooks := .later }
def ConfCalmUptoCardSaid : Prop := Claim7.holds Tryd.pinned (.plain (OpenSpec.upto confCalmSpec)) confCalmUptoCard

/-- THE SECOND FORM's CARD OF 'lychgatelaw.SchedTells'. -/
def schedTellsUptoCard : Claim7 := { stood := { row := schedTellsUptoRow, standIns := [], harness := (true, "e7eb82ceeba651af22b67febd89cb681bfe5d052565584780002990427dde1eb"), looks := false }, kinds := [], alts := [], laidByText := true, laidKinds := [.data], laidTests := true, laidLooks := .later }
def SchedTellsUptoCardSaid : Prop := Claim7.holds Tryd.pinned (.plain (OpenSpec.upto schedTellsSpec)) schedTellsUptoCard

/-- THE SECOND FORM's CARD OF 'lychgatelaw.SchedTrue'. -/
def schedTrueUptoCard : Claim7 := { stood := { row := schedTrueUptoRow, standIns := [], harness := (true, "e7eb82ceeba651af22b67febd89cb681bfe5d052565584780002990427dde1eb"), looks := false }, kinds := [], alts := [], laidByText := true, laidKinds := [.data], laidTests := true, laidLooks := .later }
def SchedTrueUptoCardSaid : Prop := Claim7.holds Tryd.pinned (.plain (OpenSpec.upto schedTrueSpec)) schedTrueUptoCard
end Rows
end Go.Proofs.YtdijpjmbicfcdaaDoor

/-
  DERIVED. GIVEN WITH THE SEED: THE CARDS: each row of YtnnnljfdjdehaaaDoorRows.lean that lists a variable, with what it lists TIED to the program's text (the seventh form; the later family's looks); each row that meets fmt, with fmt's text TOLD by the authors' own Lean function (tested against real Go, not proved from fmt's source: count such statements apart). THE CARD IS WHAT COUNTS. Prove the row's statement (the work); the ties are given (YtnnnljfdjdehaaaDoorTie.lean); close each card by the builder's one call (the guide's Derived/Test/ToyasCard.lean, 'card_holds'). Laid BY PROGRAM, IN A SANDBOX (cutbox-door.mjs). By AI agents, Wed Nov 11 2026. No macro, syntax, notation, axiom, sorry.
-/
import Derived.Test.YtnnnljfdjdehaaaDoorRows
import GoSem.ClaimSeven
namespace Go.Proofs.YtnnnljfdjdehaaaDoor
namespace Rows

/-- THE TIED CARD OF 'lychgatelaw.FlatLays'. -/
def flatLaysCard : Claim7 := { stood := { row := flatLaysRow, standIns := [], harness := (true, "14a5f31d7cf164964afbd3d59748123dc3b23d8a3e8e4276749b0d16e86c8b97"), looks := false }, kinds := [], alts := [], laidByText := true, laidKinds := [.data], laidTests := true, laidLooks := .later }
def FlatLaysCardSaid : Prop := Claim7.holds Tryd.pinned (.plain (OpenSpec.ofChange flatLaysSpec)) flatLaysCard

/-- THE TIED CARD OF 'lychgatelaw.FlatOwns'. -/
def flatOwnsCard : Claim7 := { stood := { row := flatOwnsRow, standIns := [], harness := (true, "14a5f31d7cf164964afbd3d59748123dc3b23d8a3e8e4276749b0d16e86c8b97"), looks := false }, kinds := [], alts := [], laidByText := true, laidKinds := [.data], laidTests := true, laidLooks := .later }
def FlatOwnsCardSaid : Prop := Claim7.holds Tryd.pinned (.plain (OpenSpec.ofChange flatOwnsSpec)) flatOwnsCard

/-- THE TIED CARD OF 'lychgatelaw.FlatBack'. -/
def flatBackCard : Claim7 := { stood := { row := flatBackRow, standIns := [], harness := (true, "14a5f31d7cf164964afbd3d59748123dc3b23d8a3e8e4276749b0d16e86c8b97"), looks := false }, kinds := [], alts := [], laidByText := true, laidKinds := [.data], laidTests := true, laidLooks := .later }
def FlatBackCardSaid : Prop := Claim7.holds Tryd.pinned (.plain (OpenSpec.ofChange flatBackSpec)) flatBackCard

/-- THE TIED CARD OF 'lychgatelaw.FlatSafe'. -/
def flatSafeCard : Claim7 := { stood := { row := flatSafeRow, standIns := [], harness := (true, "14a5f31d7cf164964afbd3d59748123dc3b23d8a3e8e4276749b0d16e86c8b97"), looks := false }, kinds := [], alts := [], laidByText := true, laidKinds := [.data], laidTests := true, laidLooks := .later }
def FlatSafeCardSaid : Prop := Claim7.holds Tryd.pinned (.plain (OpenSpec.ofChange flatSafeSpec)) flatSafeCard

/-- THE SECOND FORM's CARD OF 'lychgatelaw.FlatLays'. -/
def flatLaysUptoCard : Claim7 := { stood := { row := flatLaysUptoRow, standIns := [], harness := (true, "14a5f31d7cf164964afbd3d59748123dc3b23d8a3e8e4276749b0d16e86c8b97"), looks := false }, kinds := [], alts := [], laidByText := true, laidKinds := [.data], laidTests := true, laidLooks := .later }
def FlatLaysUptoCardSaid : Prop := Claim7.holds Tryd.pinned (.plain (OpenSpec.upto flatLaysSpec)) flatLaysUptoCard

/-- THE SECOND FORM's CARD OF 'lychgatelaw.FlatOwns'. -/
def flatOwnsUptoCard : Claim7 := { stood := { row := flatOwnsUptoRow, standIns := [], harness := (true, "14a5f31d7cf164964afbd3d59748123dc3b23d8a3e8e4276749b0d16e86c8b97"), looks := false }, kinds := [], alts := [], laidByText := true, laidKinds := [.data], laidTests := true, laidLooks := .later }
def FlatOwnsUptoCardSaid : Prop := Claim7.holds Tryd.pinned (.plain (OpenSpec.upto flatOwnsSpec)) flatOwnsUptoCard

/-- THE SECOND FORM's CARD OF 'lychgatelaw.FlatBack'. -/
def flatBackUptoCard : Claim7 := { stood := { row := flatBackUptoRow, standIns := [], harness := (true, "14a5f31d7cf164964afbd3d59748123dc3b23d8a3e8e4276749b0d16e86c8b97"), looks := false }, kinds := [], alts := [], laidByText := true, laidKinds := [.data], laidTests := true, laidLooks := .later }
def FlatBackUptoCardSaid : Prop := Claim7.holds Tryd.pinned (.plain (OpenSpec.upto flatBackSpec)) flatBackUptoCard

/-- THE SECOND FORM's CARD OF 'lychgatelaw.FlatSafe'. -/
def flatSafeUptoCard : Claim7 := { stood := { row := flatSafeUptoRow, standIns := [], harness := (true, "14a5f31d7cf164964afbd3d59748123dc3b23d8a3e8e4276749b0d16e86c8b97"), looks := false }, kinds := [], alts := [], laidByText := true, laidKinds := [.data], laidTests := true, laidLooks := .later }
def FlatSafeUptoCardSaid : Prop := Claim7.holds Tryd.pinned (.plain (OpenSpec.upto flatSafeSpec)) flatSafeUptoCard
end Rows
end Go.Proofs.YtnnnljfdjdehaaaDoor

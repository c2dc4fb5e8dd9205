/-
  DERIVED. GIVEN WITH THE SEED: THE CARDS: each row of YthpljbbhpbijgaaDoorRows.lean that lists a variable, with what it lists TIED to the program's text (the seventh form; the later family's looks); each row that meets fmt, with fmt's text TOLD by the authors' own Lean function (tested against real Go, not proved from fmt's source: count such statements apart). THE CARD IS WHAT COUNTS. Prove the row's statement (the work); the ties are given (YthpljbbhpbijgaaDoorTie.lean); close each card by the builder's one call (the guide's Derived/Test/ToyasCard.lean, 'card_holds'). Laid BY PROGRAM, IN A SANDBOX (cutbox-door.mjs). By AI agents, Wed Nov 11 2026. No macro, syntax, notation, axiom, sorry.
-/
import Derived.Test.YthpljbbhpbijgaaDoorRows
import GoSem.ClaimSeven
namespace Go.Proofs.YthpljbbhpbijgaaDoor
namespace Rows

/-- THE TIED CARD OF 'lychgatelaw.FlowTells'. -/
def flowTellsCard : Claim7 := { stood := { row := flowTellsRow, standIns := [], harness := (true, "34d1386c372f0368a55d35ec2b847ef80b704cd7590df40f52184c0b7a9c666b"), looks := false }, kinds := [], alts := [], laidByText := true, laidKinds := [.data], laidTests := true, laidLooks := .later }
def FlowTellsCardSaid : Prop := Claim7.holds Tryd.pinned (.plain (OpenSpec.ofChange flowTellsSpec)) flowTellsCard

/-- THE TIED CARD OF 'lychgatelaw.FlowPaths'. -/
def flowPathsCard : Claim7 := { stood := { row := flowPathsRow, standIns := [], harness := (true, "34d1386c372f0368a55d35ec2b847ef80b704cd7590df40f52184c0b7a9c666b"), looks := false }, kinds := [], alts := [], laidByText := true, laidKinds := [.data], laidTests := true, laidLooks := .later }
def FlowPathsCardSaid : Prop := Claim7.holds Tryd.pinned (.plain (OpenSpec.ofChange flowPathsSpec)) flowPathsCard

/-- THE TIED CARD OF 'lychgatelaw.FlowTrue'. -/
def flowTrueCard : Claim7 := { stood := { row := flowTrueRow, standIns := [], harness := (true, "34d1386c372f0368a55d35ec2b847ef80b704cd7590df40f52184c0b7a9c666b"), looks := false }, kinds := [], alts := [], laidByText := true, laidKinds := [.data], laidTests := true, laidLooks := .later }
def FlowTrueCardSaid : Prop := Claim7.holds Tryd.pinned (.plain (OpenSpec.ofChange flowTrueSpec)) flowTrueCard

/-- THE TIED CARD OF 'lychgatelaw.CertMakes'. -/
def certMakesCard : Claim7 := { stood := { row := certMakesRow, standIns := [], harness := (true, "34d1386c372f0368a55d35ec2b847ef80b704cd7590df40f52184c0b7a9c666b"), looks := false }, kinds := [], alts := [], laidByText := true, laidKinds := [.data], laidTests := true, laidLooks := .later }
def CertMakesCardSaid : Prop := Claim7.holds Tryd.pinned (.plain (OpenSpec.ofChange certMakesSpec)) certMakesCard

/-- THE TIED CARD OF 'lychgatelaw.CertVerifies'. -/
def certVerifiesCard : Claim7 := { stood := { row := certVerifiesRow, standIns := [], harness := (true, "34d1386c372f0368a55d35ec2b847ef80b704cd7590df40f52184c0b7a9c666b"), looks := false }, kinds := [], alts := [], laidByText := true, laidKinds := [.data], laidTests := true, laidLooks := .later }
def CertVerifiesCardSaid : Prop := Claim7.holds Tryd.pinned (.plain (OpenSpec.ofChange certVerifiesSpec)) certVerifiesCard

/-- THE TIED CARD OF 'lychgatelaw.CertTrue'. -/
def certTrueCard : Claim7 := { stood := { row := certTrueRow, standIns := [], harness := (true, "34d1386c372f0368a55d35ec2b847ef80b704cd7590df40f52184c0b7a9c666b"), looks := false }, kinds := [], alts := [], laidByText := true, laidKinds := [.data], laidTests := true, laidLooks := .later }
def CertTrueCardSaid : Prop := Claim7.holds Tryd.pinned (.plain (OpenSpec.ofChange certTrueSpec)) certTrueCard

/-- THE SECOND FORM's CARD OF 'lychgatelaw.FlowTells'. -/
def flowTellsUptoCard : Claim7 := { stood := { row := flowTellsUptoRow, standIns := [], harness := (true, "34d1386c372f0368a55d35ec2b847ef80b704cd7590df40f52184c0b7a9c666b"), looks := false }, kinds := [], alts := [], laidByText := true, laidKinds := [.data], laidTests := true, laidLooks := .later }
def FlowTellsUptoCardSaid : Prop := Claim7.holds Tryd.pinned (.plain (OpenSpec.upto flowTellsSpec)) flowTellsUptoCard

/-- THE SECOND FORM's CARD OF 'lychgatelaw.FlowPaths'. -/
def flowPathsUptoCard : Claim7 := { stood := { row := flowPathsUptoRow, standIns := [], harness := (true, "34d1386c372f0368a55d35ec2b847ef80b704cd7590df40f52184c0b7a9c666b"), looks := false }, kinds := [], alts := [], laidByText := true, laidKinds := [.data], laidTests := true, laidLooks := .later }
def FlowPathsUptoCardSaid : Prop := Claim7.holds Tryd.pinned (.plain (OpenSpec.upto flowPathsSpec)) flowPathsUptoCard

/-- THE SECOND FORM's CARD OF 'lychgatelaw.FlowTrue'. -/
def flowTrueUptoCard : Claim7 := { stood := { row := flowTrueUptoRow, standIns := [], harness := (true, "34d1386c372f0368a55d35ec2b847ef80b704cd7590df40f52184c0b7a9c666b"), looks := false }, kinds := [], alts := [], laidByText := true, laidKinds := [.data], laidTests := true, laidLooks := .later }
def FlowTrueUptoCardSaid : Prop := Claim7.holds Tryd.pinned (.plain (OpenSpec.upto flowTrueSpec)) flowTrueUptoCard

/-- THE SECOND FORM's CARD OF 'lychgatelaw.CertMakes'. -/
def certMakesUptoCard : Claim7 := { stood := { row := certMakesUptoRow, standIns := [], harness := (true, "34d1386c372f0368a55d35ec2b847ef80b704cd7590df40f52184c0b7a9c666b"), looks := false }, kinds := [], alts := [], laidByText := true, laidKinds := [.data], laidTests := true, laidLooks := .later }
def CertMakesUptoCardSaid : Prop := Claim7.holds Tryd.pinned (.plain (OpenSpec.upto certMakesSpec)) certMakesUptoCard

/-- THE SECOND FORM's CARD OF 'lychgatelaw.CertVerifies'. -/
def certVerifiesUptoCard : Claim7 := { stood := { row := certVerifiesUptoRow, standIns := [], harness := (true, "34d1386c372f0368a55d35ec2b847ef80b704cd7590df40f52184c0b7a9c666b"), looks := false }, kinds := [], alts := [], laidByText := true, laidKinds := [.data], laidTests := true, laidLooks := .later }
def CertVerifiesUptoCardSaid : Prop := Claim7.holds Tryd.pinned (.plain (OpenSpec.upto certVerifiesSpec)) certVerifiesUptoCard

/-- THE SECOND FORM's CARD OF 'lychgatelaw.CertTrue'. -/
def certTrueUptoCard : Claim7 := { stood := { row := certTrueUptoRow, standIns := [], harness := (true, "34d1386c372f0368a55d35ec2b847ef80b704cd7590df40f52184c0b7a9c666b"), looks := false }, kinds := [], alts := [], laidByText := true, laidKinds := [.data], laidTests := true, laidLooks := .later }
def CertTrueUptoCardSaid : Prop := Claim7.holds Tryd.pinned (.plain (OpenSpec.upto certTrueSpec)) certTrueUptoCard
end Rows
end Go.Proofs.YthpljbbhpbijgaaDoor

/-
  DERIVED. GIVEN WITH THE SEED: THE CARDS: each row of YtehhhiodfcdnmaaGreatDoorRows.lean that lists a variable, with what it lists TIED to the program's text (the seventh form; the later family's looks); each row that meets fmt, with fmt's text TOLD by the authors' own Lean function (tested against real Go, not proved from fmt's source: count such statements apart). THE CARD IS WHAT COUNTS. Prove the row's statement (the work); the ties are given (YtehhhiodfcdnmaaGreatDoorTie.lean); close each card by the builder's one call (the guide's Derived/Test/ToyasCard.lean, 'card_holds'). Laid BY PROGRAM, IN A SANDBOX (cutbox-door.mjs). By AI agents, Wed Nov 11 2026. No macro, syntax, notation, axiom, sorry.
-/
import Derived.Test.YtehhhiodfcdnmaaGreatDoorRows
import GoSem.ClaimSeven
namespace Go.Proofs.YtehhhiodfcdnmaaGreatDoor
namespace Rows

/-- THE TIED CARD OF 'lychgatelaw.ViewTells'. -/
def viewTellsCard : Claim7 := { stood := { row := viewTellsRow, standIns := [], harness := (true, "c9e50553b6c2fabad75b9fab2ec6abdedb1738ea21ee5118467ef3fd005eeb7a"), looks := false }, kinds := [], alts := [], laidByText := true, laidKinds := [.data], laidTests := true, laidLooks := .later }
def ViewTellsCardSaid : Prop := Claim7.holds Tryz.pinned (.plain (OpenSpec.ofChange viewTellsSpec)) viewTellsCard

/-- THE TIED CARD OF 'lychgatelaw.ViewPurges'. -/
def viewPurgesCard : Claim7 := { stood := { row := viewPurgesRow, standIns := [], harness := (true, "c9e50553b6c2fabad75b9fab2ec6abdedb1738ea21ee5118467ef3fd005eeb7a"), looks := false }, kinds := [], alts := [], laidByText := true, laidKinds := [.data], laidTests := true, laidLooks := .later }
def ViewPurgesCardSaid : Prop := Claim7.holds Tryz.pinned (.plain (OpenSpec.ofChange viewPurgesSpec)) viewPurgesCard

/-- THE TIED CARD OF 'lychgatelaw.ViewAlone'. -/
def viewAloneCard : Claim7 := { stood := { row := viewAloneRow, standIns := [], harness := (true, "c9e50553b6c2fabad75b9fab2ec6abdedb1738ea21ee5118467ef3fd005eeb7a"), looks := false }, kinds := [], alts := [], laidByText := true, laidKinds := [.data], laidTests := true, laidLooks := .later }
def ViewAloneCardSaid : Prop := Claim7.holds Tryz.pinned (.plain (OpenSpec.ofChange viewAloneSpec)) viewAloneCard

/-- THE TIED CARD OF 'lychgatelaw.ViewOther'. -/
def viewOtherCard : Claim7 := { stood := { row := viewOtherRow, standIns := [], harness := (true, "c9e50553b6c2fabad75b9fab2ec6abdedb1738ea21ee5118467ef3fd005eeb7a"), looks := false }, kinds := [], alts := [], laidByText := true, laidKinds := [.data], laidTests := true, laidLooks := .later }
def ViewOtherCardSaid : Prop := Claim7.holds Tryz.pinned (.plain (OpenSpec.ofChange viewOtherSpec)) viewOtherCard

/-- THE TIED CARD OF 'lychgatelaw.ViewCert'. -/
def viewCertCard : Claim7 := { stood := { row := viewCertRow, standIns := [], harness := (true, "c9e50553b6c2fabad75b9fab2ec6abdedb1738ea21ee5118467ef3fd005eeb7a"), looks := false }, kinds := [], alts := [], laidByText := true, laidKinds := [.data], laidTests := true, laidLooks := .later }
def ViewCertCardSaid : Prop := Claim7.holds Tryz.pinned (.plain (OpenSpec.ofChange viewCertSpec)) viewCertCard

/-- THE TIED CARD OF 'lychgatelaw.RestSystems'. -/
def restSystemsCard : Claim7 := { stood := { row := restSystemsRow, standIns := [], harness := (true, "c9e50553b6c2fabad75b9fab2ec6abdedb1738ea21ee5118467ef3fd005eeb7a"), looks := false }, kinds := [], alts := [], laidByText := true, laidKinds := [.data], laidTests := true, laidLooks := .later }
def RestSystemsCardSaid : Prop := Claim7.holds Tryz.pinned (.plain (OpenSpec.ofChange restSystemsSpec)) restSystemsCard

/-- THE SECOND FORM's CARD OF 'lychgatelaw.ViewTells'. -/
def viewTellsUptoCard : Claim7 := { stood := { row := viewTellsUptoRow, standIns := [], harness := (true, "c9e50553b6c2fabad75b9fab2ec6abdedb1738ea21ee5118467ef3fd005eeb7a"), looks := false }, kinds := [], alts := [], laidByText := true, laidKinds := [.data], laidTests := true, laidLooks := .later }
def ViewTellsUptoCardSaid : Prop := Claim7.holds Tryz.pinned (.plain (OpenSpec.upto viewTellsSpec)) viewTellsUptoCard

/-- THE SECOND FORM's CARD OF 'lychgatelaw.ViewPurges'. -/
def viewPurgesUptoCard : Claim7 := { stood := { row := viewPurgesUptoRow, standIns := [], harness := (true, "c9e50553b6c2fabad75b9fab2ec6abdedb1738ea21ee5118467ef3fd005eeb7a"), looks := false }, kinds := [], alts := [], laidByText := true, laidKinds := [.data], laidTests := true, laidLooks := .later }
def ViewPurgesUptoCardSaid : Prop := Claim7.holds Tryz.pinned (.plain (OpenSpec.upto viewPurgesSpec)) viewPurgesUptoCard

/-- THE SECOND FORM's CARD OF 'lychgatelaw.ViewAlone'. -/
def viewAloneUptoCard : Claim7 := { stood := { row := viewAloneUptoRow, standIns := [], harness := (true, "c9e50553b6c2fabad75b9fab2ec6abdedb1738ea21ee5118467ef3fd005eeb7a"), looks := false }, kinds := [], alts := [], laidByText := true, laidKinds := [.data], laidTests := true, laidLooks := .later }
def ViewAloneUptoCardSaid : Prop := Claim7.holds Tryz.pinned (.plain (OpenSpec.upto viewAloneSpec)) viewAloneUptoCard

/-- THE SECOND FORM's CARD OF 'lychgatelaw.ViewOther'. -/
def viewOtherUptoCard : Claim7 := { stood := { row := viewOtherUptoRow, standIns := [], harness := (true, "c9e50553b6c2fabad75b9fab2ec6abdedb1738ea21ee5118467ef3fd005eeb7a"), looks := false }, kinds := [], alts := [], laidByText := true, laidKinds := [.data], laidTests := true, laidLooks := .later }
def ViewOtherUptoCardSaid : Prop := Claim7.holds Tryz.pinned (.plain (OpenSpec.upto viewOtherSpec)) viewOtherUptoCard

/-- THE SECOND FORM's CARD OF 'lychgatelaw.ViewCert'. -/
def viewCertUptoCard : Claim7 := { stood := { row := viewCertUptoRow, standIns := [], harness := (true, "c9e50553b6c2fabad75b9fab2ec6abdedb1738ea21ee5118467ef3fd005eeb7a"), looks := false }, kinds := [], alts := [], laidByText := true, laidKinds := [.data], laidTests := true, laidLooks := .later }
def ViewCertUptoCardSaid : Prop := Claim7.holds Tryz.pinned (.plain (OpenSpec.upto viewCertSpec)) viewCertUptoCard

/-- THE SECOND FORM's CARD OF 'lychgatelaw.RestSystems'. -/
def restSystemsUptoCard : Claim7 := { stood := { row := restSystemsUptoRow, standIns := [], harness := (true, "c9e50553b6c2fabad75b9fab2ec6abdedb1738ea21ee5118467ef3fd005eeb7a"), looks := false }, kinds := [], alts := [], laidByText := true, laidKinds := [.data], laidTests := true, laidLooks := .later }
def RestSystemsUptoCardSaid : Prop := Claim7.holds Tryz.pinned (.plain (OpenSpec.upto restSystemsSpec)) restSystemsUptoCard
end Rows
end Go.Proofs.YtehhhiodfcdnmaaGreatDoor

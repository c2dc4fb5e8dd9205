/-
  NARROWER THAN 'FOR EVERY INPUT', by the rows' own cells (each row's printed sentence says how): ViewTells: laid · ViewPurges: laid · ViewAlone: laid · ViewOther: laid · ViewCert: laid · RestSystems: laid.
  DERIVED. THE GIVEN ROWS OF THIS SEAT. 6 by the template 'for every input the law returns true; each argument reads behind the call as it read before'; 0 by the template 'total and deterministic' (their statements: YtehhhiodfcdnmaaGreatDoorTotals.lean).
  GIVEN WITH THE SEED: the statements are not yours to turn. If you find one false, say at which input.
  Laid BY PROGRAM, IN A SANDBOX (cutbox-rows.mjs): the forced cells as the released guide's own fill.sh prints them over the translation e10feae133c1eaa5… (all of the seat's roots in one cut). By AI agents, Wed Nov 11 2026. No macro, syntax, notation, axiom, sorry.
-/
import Derived.Test.YtehhhiodfcdnmaaGreatDoorChecked
import GoSem.Claim
import GoSem.ClaimJoined
import GoSem.ClaimMapViews
import Derived.JoinedTies
import Derived.KernelRfl
namespace Go.Proofs.YtehhhiodfcdnmaaGreatDoor
/- THE CELL 'sum', in the pinned program and in every row, IS THE sha256 OF THE DUMP (.gsa) THAT YtehhhiodfcdnmaaGreatDoorProg.lean LOADS. Nothing in Lean hashes anything: it is a label: what it is worth is what the hold of that sum in a sandbox is worth. -/
noncomputable def Tryz.pinned : Pinned := { name := "ytehhhiodfcdnmaagreatdoor", sum := "e10feae133c1eaa51db433cb431ed731ddcc770d972c24fbd7cc2a00d9e9d14f", checked := Tryz.checked }
namespace Rows
def none {H : Type} : Left H := { results := [], args := [] }

/- WHAT THE LISTED PACKAGE-LEVEL VARIABLES READ AS WHEN THE CALL BEGINS. Each datum BY PROGRAM (the guide's laid-datum.mjs) off the statement by which the dump's own 'gosem.cut.vars' lays the variable. In a bare row this is a premise. The card (YtehhhiodfcdnmaaGreatDoorCards.lean) ties it to the program's text. -/
def laid_lychgate_isa_shapes {H : Type} : DataW H := .agg [.agg [.lit (.string []), .lit (.bool false), .lit (.bool false), .lit (.bool false), .lit (.int .i64 0), .lit (.int .i64 0)], .agg [.lit (.string [115, 101, 116]), .lit (.bool true), .lit (.bool false), .lit (.bool true), .lit (.int .i64 (-9223372036854775808)), .lit (.int .i64 9223372036854775807)], .agg [.lit (.string [99, 111, 112, 121]), .lit (.bool true), .lit (.bool true), .lit (.bool false), .lit (.int .i64 0), .lit (.int .i64 0)], .agg [.lit (.string [97, 100, 100]), .lit (.bool true), .lit (.bool true), .lit (.bool false), .lit (.int .i64 0), .lit (.int .i64 0)], .agg [.lit (.string [115, 117, 98]), .lit (.bool true), .lit (.bool true), .lit (.bool false), .lit (.int .i64 0), .lit (.int .i64 0)], .agg [.lit (.string [108, 101, 115, 115]), .lit (.bool true), .lit (.bool true), .lit (.bool false), .lit (.int .i64 0), .lit (.int .i64 0)], .agg [.lit (.string [108, 111, 97, 100]), .lit (.bool true), .lit (.bool true), .lit (.bool false), .lit (.int .i64 0), .lit (.int .i64 0)], .agg [.lit (.string [115, 97, 118, 101]), .lit (.bool true), .lit (.bool true), .lit (.bool false), .lit (.int .i64 0), .lit (.int .i64 0)], .agg [.lit (.string [106, 117, 109, 112]), .lit (.bool false), .lit (.bool false), .lit (.bool true), .lit (.int .i64 0), .lit (.int .i64 19)], .agg [.lit (.string [122, 101, 114, 111]), .lit (.bool true), .lit (.bool false), .lit (.bool true), .lit (.int .i64 0), .lit (.int .i64 19)], .agg [.lit (.string [105, 110]), .lit (.bool true), .lit (.bool false), .lit (.bool false), .lit (.int .i64 0), .lit (.int .i64 0)], .agg [.lit (.string [111, 117, 116]), .lit (.bool true), .lit (.bool false), .lit (.bool false), .lit (.int .i64 0), .lit (.int .i64 0)], .agg [.lit (.string [112, 117, 116]), .lit (.bool true), .lit (.bool false), .lit (.bool true), .lit (.int .i64 0), .lit (.int .i64 5)], .agg [.lit (.string [103, 101, 116]), .lit (.bool true), .lit (.bool true), .lit (.bool true), .lit (.int .i64 0), .lit (.int .i64 5)], .agg [.lit (.string [114, 101, 115, 116]), .lit (.bool false), .lit (.bool false), .lit (.bool false), .lit (.int .i64 0), .lit (.int .i64 0)], .agg [.lit (.string [115, 116, 111, 112]), .lit (.bool false), .lit (.bool false), .lit (.bool false), .lit (.int .i64 0), .lit (.int .i64 0)]]

/-- 'lychgatelaw.ViewTells': WHATEVER THE INPUT: true; the input reads as it did. -/
def viewTellsSpec : ChangeSpec := { name := "viewTells", fn := fun _ => fun
  | [d1, d2, d3] => { results := [.lit (.bool true)], args := [d1, d2, d3] }
  | _ => none }
def viewTellsRow : OpenClaim := { program := "ytehhhiodfcdnmaagreatdoor", sum := "e10feae133c1eaa51db433cb431ed731ddcc770d972c24fbd7cc2a00d9e9d14f", func := "lychgate/lychgatelaw.ViewTells", spec := "viewTells", unfollowed := true, recurses := true, named := ["lychgate/isa.shapes"], plainKeys := false, apart := false, laid := [("lychgate/isa.shapes", laid_lychgate_isa_shapes)] }
def ViewTellsSaid : Prop := viewTellsRow.holds Tryz.pinned (OpenSpec.ofChange viewTellsSpec)

/-- ITS FALSE NEIGHBOUR: 'it returns false'. Refute it at one input. -/
def viewTellsWrong : ChangeSpec := { name := "viewTells", fn := fun _ => fun
  | [d1, d2, d3] => { results := [.lit (.bool false)], args := [d1, d2, d3] }
  | _ => none }
def ViewTellsWrongFalsely : Prop := viewTellsRow.holds Tryz.pinned (OpenSpec.ofChange viewTellsWrong)

/-- 'lychgatelaw.ViewPurges': WHATEVER THE INPUT: true; the input reads as it did. -/
def viewPurgesSpec : ChangeSpec := { name := "viewPurges", fn := fun _ => fun
  | [d1, d2, d3] => { results := [.lit (.bool true)], args := [d1, d2, d3] }
  | _ => none }
def viewPurgesRow : OpenClaim := { program := "ytehhhiodfcdnmaagreatdoor", sum := "e10feae133c1eaa51db433cb431ed731ddcc770d972c24fbd7cc2a00d9e9d14f", func := "lychgate/lychgatelaw.ViewPurges", spec := "viewPurges", unfollowed := true, recurses := true, named := ["lychgate/isa.shapes"], plainKeys := false, apart := false, laid := [("lychgate/isa.shapes", laid_lychgate_isa_shapes)] }
def ViewPurgesSaid : Prop := viewPurgesRow.holds Tryz.pinned (OpenSpec.ofChange viewPurgesSpec)

/-- ITS FALSE NEIGHBOUR: 'it returns false'. Refute it at one input. -/
def viewPurgesWrong : ChangeSpec := { name := "viewPurges", fn := fun _ => fun
  | [d1, d2, d3] => { results := [.lit (.bool false)], args := [d1, d2, d3] }
  | _ => none }
def ViewPurgesWrongFalsely : Prop := viewPurgesRow.holds Tryz.pinned (OpenSpec.ofChange viewPurgesWrong)

/-- 'lychgatelaw.ViewAlone': WHATEVER THE INPUT: true; the input reads as it did. -/
def viewAloneSpec : ChangeSpec := { name := "viewAlone", fn := fun _ => fun
  | [d1, d2, d3] => { results := [.lit (.bool true)], args := [d1, d2, d3] }
  | _ => none }
def viewAloneRow : OpenClaim := { program := "ytehhhiodfcdnmaagreatdoor", sum := "e10feae133c1eaa51db433cb431ed731ddcc770d972c24fbd7cc2a00d9e9d14f", func := "lychgate/lychgatelaw.ViewAlone", spec := "viewAlone", unfollowed := true, recurses := true, named := ["lychgate/isa.shapes"], plainKeys := false, apart := false, laid := [("lychgate/isa.shapes", laid_lychgate_isa_shapes)] }
def ViewAloneSaid : Prop := viewAloneRow.holds Tryz.pinned (OpenSpec.ofChange viewAloneSpec)

/-- ITS FALSE NEIGHBOUR: 'it returns false'. Refute it at one input. -/
def viewAloneWrong : ChangeSpec := { name := "viewAlone", fn := fun _ => fun
  | [d1, d2, d3] => { results := [.lit (.bool false)], args := [d1, d2, d3] }
  | _ => none }
def ViewAloneWrongFalsely : Prop := viewAloneRow.holds Tryz.pinned (OpenSpec.ofChange viewAloneWrong)

/-- 'lychgatelaw.ViewOther': WHATEVER THE INPUT: true; the input reads as it did. -/
def viewOtherSpec : ChangeSpec := { name := "viewOther", fn := fun _ => fun
  | [d1, d2, d3, d4, d5] => { results := [.lit (.bool true)], args := [d1, d2, d3, d4, d5] }
  | _ => none }
def viewOtherRow : OpenClaim := { program := "ytehhhiodfcdnmaagreatdoor", sum := "e10feae133c1eaa51db433cb431ed731ddcc770d972c24fbd7cc2a00d9e9d14f", func := "lychgate/lychgatelaw.ViewOther", spec := "viewOther", unfollowed := true, recurses := true, named := ["lychgate/isa.shapes"], plainKeys := false, apart := false, laid := [("lychgate/isa.shapes", laid_lychgate_isa_shapes)] }
def ViewOtherSaid : Prop := viewOtherRow.holds Tryz.pinned (OpenSpec.ofChange viewOtherSpec)

/-- ITS FALSE NEIGHBOUR: 'it returns false'. Refute it at one input. -/
def viewOtherWrong : ChangeSpec := { name := "viewOther", fn := fun _ => fun
  | [d1, d2, d3, d4, d5] => { results := [.lit (.bool false)], args := [d1, d2, d3, d4, d5] }
  | _ => none }
def ViewOtherWrongFalsely : Prop := viewOtherRow.holds Tryz.pinned (OpenSpec.ofChange viewOtherWrong)

/-- 'lychgatelaw.ViewCert': WHATEVER THE INPUT: true; the input reads as it did. -/
def viewCertSpec : ChangeSpec := { name := "viewCert", fn := fun _ => fun
  | [d1, d2, d3, d4, d5, d6, d7] => { results := [.lit (.bool true)], args := [d1, d2, d3, d4, d5, d6, d7] }
  | _ => none }
def viewCertRow : OpenClaim := { program := "ytehhhiodfcdnmaagreatdoor", sum := "e10feae133c1eaa51db433cb431ed731ddcc770d972c24fbd7cc2a00d9e9d14f", func := "lychgate/lychgatelaw.ViewCert", spec := "viewCert", unfollowed := true, recurses := true, named := ["lychgate/isa.shapes"], plainKeys := false, apart := false, laid := [("lychgate/isa.shapes", laid_lychgate_isa_shapes)] }
def ViewCertSaid : Prop := viewCertRow.holds Tryz.pinned (OpenSpec.ofChange viewCertSpec)

/-- ITS FALSE NEIGHBOUR: 'it returns false'. Refute it at one input. -/
def viewCertWrong : ChangeSpec := { name := "viewCert", fn := fun _ => fun
  | [d1, d2, d3, d4, d5, d6, d7] => { results := [.lit (.bool false)], args := [d1, d2, d3, d4, d5, d6, d7] }
  | _ => none }
def ViewCertWrongFalsely : Prop := viewCertRow.holds Tryz.pinned (OpenSpec.ofChange viewCertWrong)

/-- 'lychgatelaw.RestSystems': WHATEVER THE INPUT: true; the input reads as it did. -/
def restSystemsSpec : ChangeSpec := { name := "restSystems", fn := fun _ => fun
  | [d1, d2, d3] => { results := [.lit (.bool true)], args := [d1, d2, d3] }
  | _ => none }
def restSystemsRow : OpenClaim := { program := "ytehhhiodfcdnmaagreatdoor", sum := "e10feae133c1eaa51db433cb431ed731ddcc770d972c24fbd7cc2a00d9e9d14f", func := "lychgate/lychgatelaw.RestSystems", spec := "restSystems", unfollowed := true, recurses := true, named := ["lychgate/isa.shapes"], plainKeys := false, apart := false, laid := [("lychgate/isa.shapes", laid_lychgate_isa_shapes)] }
def RestSystemsSaid : Prop := restSystemsRow.holds Tryz.pinned (OpenSpec.ofChange restSystemsSpec)

/-- ITS FALSE NEIGHBOUR: 'it returns false'. Refute it at one input. -/
def restSystemsWrong : ChangeSpec := { name := "restSystems", fn := fun _ => fun
  | [d1, d2, d3] => { results := [.lit (.bool false)], args := [d1, d2, d3] }
  | _ => none }
def RestSystemsWrongFalsely : Prop := restSystemsRow.holds Tryz.pinned (OpenSpec.ofChange restSystemsWrong)

/- THE SECOND FORM. 'bulk': how many values and letters a reading holds, each counted each time it is reached (what is shared counts as often as it is met; a slice's spare places count too). A statement '..UptoSaid' is the law's where the arguments, and the package variables that the reading takes, are together of bulk at most 1048576: NARROWER than '..Said'. Prove '..Said' where nothing that the law and all that it calls make is longer than what came in: it says more and counts as full. Else prove '..UptoSaid'. A law counts once. -/
mutual
def uptoBulk {H : Type} : DataW H → Nat
  | .lit (.string bytes) => bytes.length + 1
  | .lit _ => 1
  | .nil => 1
  | .ptr d => uptoBulk d + 1
  | .slice elems spare => uptoBulkAll elems + uptoBulkAll spare + 1
  | .agg parts => uptoBulkAll parts + 1
  | .iface _ d => uptoBulk d + 1
  | .map entries => uptoBulkEntries entries + 1
  | .held _ => 1
def uptoBulkAll {H : Type} : List (DataW H) → Nat
  | [] => 0
  | d :: r => uptoBulk d + uptoBulkAll r
def uptoBulkEntries {H : Type} : List (Lit × DataW H) → Nat
  | [] => 0
  | x :: r => uptoBulkEntry x + uptoBulkEntries r
def uptoBulkEntry {H : Type} : Lit × DataW H → Nat
  | (.string bytes, d) => bytes.length + uptoBulk d + 1
  | (_, d) => uptoBulk d + 1
 end
def uptoSmall : (H : Type) → List (DataW H) → Bool := fun _ ds => decide (uptoBulkAll ds ≤ 1048576)
def OpenSpec.upto (s : _root_.Go.ChangeSpec) : _root_.Go.OpenSpec := { _root_.Go.OpenSpec.ofChange s with cond := some uptoSmall }

/-- 'lychgatelaw.ViewTells', WHERE WHAT IT READS IS OF BULK AT MOST 1048576: true; the input reads as it did. -/
def viewTellsUptoRow : OpenClaim := { program := "ytehhhiodfcdnmaagreatdoor", sum := "e10feae133c1eaa51db433cb431ed731ddcc770d972c24fbd7cc2a00d9e9d14f", func := "lychgate/lychgatelaw.ViewTells", spec := "viewTells", unfollowed := true, recurses := true, named := ["lychgate/isa.shapes"], plainKeys := false, apart := false, laid := [("lychgate/isa.shapes", laid_lychgate_isa_shapes)], narrowed := true }
def ViewTellsUptoSaid : Prop := viewTellsUptoRow.holds Tryz.pinned (OpenSpec.upto viewTellsSpec)

/-- 'lychgatelaw.ViewPurges', WHERE WHAT IT READS IS OF BULK AT MOST 1048576: true; the input reads as it did. -/
def viewPurgesUptoRow : OpenClaim := { program := "ytehhhiodfcdnmaagreatdoor", sum := "e10feae133c1eaa51db433cb431ed731ddcc770d972c24fbd7cc2a00d9e9d14f", func := "lychgate/lychgatelaw.ViewPurges", spec := "viewPurges", unfollowed := true, recurses := true, named := ["lychgate/isa.shapes"], plainKeys := false, apart := false, laid := [("lychgate/isa.shapes", laid_lychgate_isa_shapes)], narrowed := true }
def ViewPurgesUptoSaid : Prop := viewPurgesUptoRow.holds Tryz.pinned (OpenSpec.upto viewPurgesSpec)

/-- 'lychgatelaw.ViewAlone', WHERE WHAT IT READS IS OF BULK AT MOST 1048576: true; the input reads as it did. -/
def viewAloneUptoRow : OpenClaim := { program := "ytehhhiodfcdnmaagreatdoor", sum := "e10feae133c1eaa51db433cb431ed731ddcc770d972c24fbd7cc2a00d9e9d14f", func := "lychgate/lychgatelaw.ViewAlone", spec := "viewAlone", unfollowed := true, recurses := true, named := ["lychgate/isa.shapes"], plainKeys := false, apart := false, laid := [("lychgate/isa.shapes", laid_lychgate_isa_shapes)], narrowed := true }
def ViewAloneUptoSaid : Prop := viewAloneUptoRow.holds Tryz.pinned (OpenSpec.upto viewAloneSpec)

/-- 'lychgatelaw.ViewOther', WHERE WHAT IT READS IS OF BULK AT MOST 1048576: true; the input reads as it did. -/
def viewOtherUptoRow : OpenClaim := { program := "ytehhhiodfcdnmaagreatdoor", sum := "e10feae133c1eaa51db433cb431ed731ddcc770d972c24fbd7cc2a00d9e9d14f", func := "lychgate/lychgatelaw.ViewOther", spec := "viewOther", unfollowed := true, recurses := true, named := ["lychgate/isa.shapes"], plainKeys := false, apart := false, laid := [("lychgate/isa.shapes", laid_lychgate_isa_shapes)], narrowed := true }
def ViewOtherUptoSaid : Prop := viewOtherUptoRow.holds Tryz.pinned (OpenSpec.upto viewOtherSpec)

/-- 'lychgatelaw.ViewCert', WHERE WHAT IT READS IS OF BULK AT MOST 1048576: true; the input reads as it did. -/
def viewCertUptoRow : OpenClaim := { program := "ytehhhiodfcdnmaagreatdoor", sum := "e10feae133c1eaa51db433cb431ed731ddcc770d972c24fbd7cc2a00d9e9d14f", func := "lychgate/lychgatelaw.ViewCert", spec := "viewCert", unfollowed := true, recurses := true, named := ["lychgate/isa.shapes"], plainKeys := false, apart := false, laid := [("lychgate/isa.shapes", laid_lychgate_isa_shapes)], narrowed := true }
def ViewCertUptoSaid : Prop := viewCertUptoRow.holds Tryz.pinned (OpenSpec.upto viewCertSpec)

/-- 'lychgatelaw.RestSystems', WHERE WHAT IT READS IS OF BULK AT MOST 1048576: true; the input reads as it did. -/
def restSystemsUptoRow : OpenClaim := { program := "ytehhhiodfcdnmaagreatdoor", sum := "e10feae133c1eaa51db433cb431ed731ddcc770d972c24fbd7cc2a00d9e9d14f", func := "lychgate/lychgatelaw.RestSystems", spec := "restSystems", unfollowed := true, recurses := true, named := ["lychgate/isa.shapes"], plainKeys := false, apart := false, laid := [("lychgate/isa.shapes", laid_lychgate_isa_shapes)], narrowed := true }
def RestSystemsUptoSaid : Prop := restSystemsUptoRow.holds Tryz.pinned (OpenSpec.upto restSystemsSpec)

end Rows
end Go.Proofs.YtehhhiodfcdnmaaGreatDoor

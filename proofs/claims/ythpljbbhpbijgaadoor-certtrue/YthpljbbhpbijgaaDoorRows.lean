/-
  NARROWER THAN 'FOR EVERY INPUT', by the rows' own cells (each row's printed sentence says how): FlowTells: laid · FlowPaths: laid · FlowTrue: laid · CertMakes: laid · CertVerifies: laid · CertTrue: laid.
  DERIVED. THE GIVEN ROWS OF THIS SEAT. 6 by the template 'for every input the law returns true; each argument reads behind the call as it read before'; 0 by the template 'total and deterministic' (their statements: YthpljbbhpbijgaaDoorTotals.lean).
  GIVEN WITH THE SEED: the statements are not yours to turn. If you find one false, say at which input.
  Laid BY PROGRAM, IN A SANDBOX (cutbox-rows.mjs): the forced cells as the released guide's own fill.sh prints them over the translation e40bfdf61d89afbf… (all of the seat's roots in one cut). By AI agents, Wed Nov 11 2026. No macro, syntax, notation, axiom, sorry.
-/
import Derived.Test.YthpljbbhpbijgaaDoorChecked
import GoSem.Claim
import GoSem.ClaimJoined
import GoSem.ClaimMapViews
import Derived.JoinedTies
import Derived.KernelRfl
namespace Go.Proofs.YthpljbbhpbijgaaDoor
/- THE CELL 'sum', in the pinned program and in every row, IS THE sha256 OF THE DUMP (.gsa) THAT YthpljbbhpbijgaaDoorProg.lean LOADS. Nothing in Lean hashes anything: it is a label: what it is worth is what the hold of that sum in a sandbox is worth. -/
noncomputable def Tryd.pinned : Pinned := { name := "ythpljbbhpbijgaadoor", sum := "e40bfdf61d89afbf0a850c5dc19587f6a666ad6a9b5cc07177fbf15cb16cdaba", checked := Tryd.checked }
namespace Rows
def none {H : Type} : Left H := { results := [], args := [] }

/- WHAT THE LISTED PACKAGE-LEVEL VARIABLES READ AS WHEN THE CALL BEGINS. Each datum BY PROGRAM (the guide's laid-datum.mjs) off the statement by which the dump's own 'gosem.cut.vars' lays the variable. In a bare row this is a premise. The card (YthpljbbhpbijgaaDoorCards.lean) ties it to the program's text. -/
def laid_lychgate_isa_shapes {H : Type} : DataW H := .agg [.agg [.lit (.string []), .lit (.bool false), .lit (.bool false), .lit (.bool false), .lit (.int .i64 0), .lit (.int .i64 0)], .agg [.lit (.string [115, 101, 116]), .lit (.bool true), .lit (.bool false), .lit (.bool true), .lit (.int .i64 (-9223372036854775808)), .lit (.int .i64 9223372036854775807)], .agg [.lit (.string [99, 111, 112, 121]), .lit (.bool true), .lit (.bool true), .lit (.bool false), .lit (.int .i64 0), .lit (.int .i64 0)], .agg [.lit (.string [97, 100, 100]), .lit (.bool true), .lit (.bool true), .lit (.bool false), .lit (.int .i64 0), .lit (.int .i64 0)], .agg [.lit (.string [115, 117, 98]), .lit (.bool true), .lit (.bool true), .lit (.bool false), .lit (.int .i64 0), .lit (.int .i64 0)], .agg [.lit (.string [108, 101, 115, 115]), .lit (.bool true), .lit (.bool true), .lit (.bool false), .lit (.int .i64 0), .lit (.int .i64 0)], .agg [.lit (.string [108, 111, 97, 100]), .lit (.bool true), .lit (.bool true), .lit (.bool false), .lit (.int .i64 0), .lit (.int .i64 0)], .agg [.lit (.string [115, 97, 118, 101]), .lit (.bool true), .lit (.bool true), .lit (.bool false), .lit (.int .i64 0), .lit (.int .i64 0)], .agg [.lit (.string [106, 117, 109, 112]), .lit (.bool false), .lit (.bool false), .lit (.bool true), .lit (.int .i64 0), .lit (.int .i64 19)], .agg [.lit (.string [122, 101, 114, 111]), .lit (.bool true), .lit (.bool false), .lit (.bool true), .lit (.int .i64 0), .lit (.int .i64 19)], .agg [.lit (.string [105, 110]), .lit (.bool true), .lit (.bool false), .lit (.bool false), .lit (.int .i64 0), .lit (.int .i64 0)], .agg [.lit (.string [111, 117, 116]), .lit (.bool true), .lit (.bool false), .lit (.bool false), .lit (.int .i64 0), .lit (.int .i64 0)], .agg [.lit (.string [112, 117, 116]), .lit (.bool true), .lit (.bool false), .lit (.bool true), .lit (.int .i64 0), .lit (.int .i64 5)], .agg [.lit (.string [103, 101, 116]), .lit (.bool true), .lit (.bool true), .lit (.bool true), .lit (.int .i64 0), .lit (.int .i64 5)], .agg [.lit (.string [114, 101, 115, 116]), .lit (.bool false), .lit (.bool false), .lit (.bool false), .lit (.int .i64 0), .lit (.int .i64 0)], .agg [.lit (.string [115, 116, 111, 112]), .lit (.bool false), .lit (.bool false), .lit (.bool false), .lit (.int .i64 0), .lit (.int .i64 0)]]

/-- 'lychgatelaw.FlowTells': WHATEVER THE INPUT: true; the input reads as it did. -/
def flowTellsSpec : ChangeSpec := { name := "flowTells", fn := fun _ => fun
  | [d] => { results := [.lit (.bool true)], args := [d] }
  | _ => none }
def flowTellsRow : OpenClaim := { program := "ythpljbbhpbijgaadoor", sum := "e40bfdf61d89afbf0a850c5dc19587f6a666ad6a9b5cc07177fbf15cb16cdaba", func := "lychgate/lychgatelaw.FlowTells", spec := "flowTells", unfollowed := true, recurses := true, named := ["lychgate/isa.shapes"], plainKeys := false, apart := false, laid := [("lychgate/isa.shapes", laid_lychgate_isa_shapes)] }
def FlowTellsSaid : Prop := flowTellsRow.holds Tryd.pinned (OpenSpec.ofChange flowTellsSpec)

/-- ITS FALSE NEIGHBOUR: 'it returns false'. Refute it at one input. -/
def flowTellsWrong : ChangeSpec := { name := "flowTells", fn := fun _ => fun
  | [d] => { results := [.lit (.bool false)], args := [d] }
  | _ => none }
def FlowTellsWrongFalsely : Prop := flowTellsRow.holds Tryd.pinned (OpenSpec.ofChange flowTellsWrong)

/-- 'lychgatelaw.FlowPaths': WHATEVER THE INPUT: true; the input reads as it did. -/
def flowPathsSpec : ChangeSpec := { name := "flowPaths", fn := fun _ => fun
  | [d1, d2, d3] => { results := [.lit (.bool true)], args := [d1, d2, d3] }
  | _ => none }
def flowPathsRow : OpenClaim := { program := "ythpljbbhpbijgaadoor", sum := "e40bfdf61d89afbf0a850c5dc19587f6a666ad6a9b5cc07177fbf15cb16cdaba", func := "lychgate/lychgatelaw.FlowPaths", spec := "flowPaths", unfollowed := true, recurses := true, named := ["lychgate/isa.shapes"], plainKeys := false, apart := false, laid := [("lychgate/isa.shapes", laid_lychgate_isa_shapes)] }
def FlowPathsSaid : Prop := flowPathsRow.holds Tryd.pinned (OpenSpec.ofChange flowPathsSpec)

/-- ITS FALSE NEIGHBOUR: 'it returns false'. Refute it at one input. -/
def flowPathsWrong : ChangeSpec := { name := "flowPaths", fn := fun _ => fun
  | [d1, d2, d3] => { results := [.lit (.bool false)], args := [d1, d2, d3] }
  | _ => none }
def FlowPathsWrongFalsely : Prop := flowPathsRow.holds Tryd.pinned (OpenSpec.ofChange flowPathsWrong)

/-- 'lychgatelaw.FlowTrue': WHATEVER THE INPUT: true; the input reads as it did. -/
def flowTrueSpec : ChangeSpec := { name := "flowTrue", fn := fun _ => fun
  | [d1, d2, d3, d4] => { results := [.lit (.bool true)], args := [d1, d2, d3, d4] }
  | _ => none }
def flowTrueRow : OpenClaim := { program := "ythpljbbhpbijgaadoor", sum := "e40bfdf61d89afbf0a850c5dc19587f6a666ad6a9b5cc07177fbf15cb16cdaba", func := "lychgate/lychgatelaw.FlowTrue", spec := "flowTrue", unfollowed := true, recurses := true, named := ["lychgate/isa.shapes"], plainKeys := false, apart := false, laid := [("lychgate/isa.shapes", laid_lychgate_isa_shapes)] }
def FlowTrueSaid : Prop := flowTrueRow.holds Tryd.pinned (OpenSpec.ofChange flowTrueSpec)

/-- ITS FALSE NEIGHBOUR: 'it returns false'. Refute it at one input. -/
def flowTrueWrong : ChangeSpec := { name := "flowTrue", fn := fun _ => fun
  | [d1, d2, d3, d4] => { results := [.lit (.bool false)], args := [d1, d2, d3, d4] }
  | _ => none }
def FlowTrueWrongFalsely : Prop := flowTrueRow.holds Tryd.pinned (OpenSpec.ofChange flowTrueWrong)

/-- 'lychgatelaw.CertMakes': WHATEVER THE INPUT: true; the input reads as it did. -/
def certMakesSpec : ChangeSpec := { name := "certMakes", fn := fun _ => fun
  | [d1, d2] => { results := [.lit (.bool true)], args := [d1, d2] }
  | _ => none }
def certMakesRow : OpenClaim := { program := "ythpljbbhpbijgaadoor", sum := "e40bfdf61d89afbf0a850c5dc19587f6a666ad6a9b5cc07177fbf15cb16cdaba", func := "lychgate/lychgatelaw.CertMakes", spec := "certMakes", unfollowed := true, recurses := true, named := ["lychgate/isa.shapes"], plainKeys := false, apart := false, laid := [("lychgate/isa.shapes", laid_lychgate_isa_shapes)] }
def CertMakesSaid : Prop := certMakesRow.holds Tryd.pinned (OpenSpec.ofChange certMakesSpec)

/-- ITS FALSE NEIGHBOUR: 'it returns false'. Refute it at one input. -/
def certMakesWrong : ChangeSpec := { name := "certMakes", fn := fun _ => fun
  | [d1, d2] => { results := [.lit (.bool false)], args := [d1, d2] }
  | _ => none }
def CertMakesWrongFalsely : Prop := certMakesRow.holds Tryd.pinned (OpenSpec.ofChange certMakesWrong)

/-- 'lychgatelaw.CertVerifies': WHATEVER THE INPUT: true; the input reads as it did. -/
def certVerifiesSpec : ChangeSpec := { name := "certVerifies", fn := fun _ => fun
  | [d1, d2, d3] => { results := [.lit (.bool true)], args := [d1, d2, d3] }
  | _ => none }
def certVerifiesRow : OpenClaim := { program := "ythpljbbhpbijgaadoor", sum := "e40bfdf61d89afbf0a850c5dc19587f6a666ad6a9b5cc07177fbf15cb16cdaba", func := "lychgate/lychgatelaw.CertVerifies", spec := "certVerifies", unfollowed := true, recurses := true, named := ["lychgate/isa.shapes"], plainKeys := false, apart := false, laid := [("lychgate/isa.shapes", laid_lychgate_isa_shapes)] }
def CertVerifiesSaid : Prop := certVerifiesRow.holds Tryd.pinned (OpenSpec.ofChange certVerifiesSpec)

/-- ITS FALSE NEIGHBOUR: 'it returns false'. Refute it at one input. -/
def certVerifiesWrong : ChangeSpec := { name := "certVerifies", fn := fun _ => fun
  | [d1, d2, d3] => { results := [.lit (.bool false)], args := [d1, d2, d3] }
  | _ => none }
def CertVerifiesWrongFalsely : Prop := certVerifiesRow.holds Tryd.pinned (OpenSpec.ofChange certVerifiesWrong)

/-- 'lychgatelaw.CertTrue': WHATEVER THE INPUT: true; the input reads as it did. -/
def certTrueSpec : ChangeSpec := { name := "certTrue", fn := fun _ => fun
  | [d1, d2, d3] => { results := [.lit (.bool true)], args := [d1, d2, d3] }
  | _ => none }
def certTrueRow : OpenClaim := { program := "ythpljbbhpbijgaadoor", sum := "e40bfdf61d89afbf0a850c5dc19587f6a666ad6a9b5cc07177fbf15cb16cdaba", func := "lychgate/lychgatelaw.CertTrue", spec := "certTrue", unfollowed := true, recurses := true, named := ["lychgate/isa.shapes"], plainKeys := false, apart := false, laid := [("lychgate/isa.shapes", laid_lychgate_isa_shapes)] }
def CertTrueSaid : Prop := certTrueRow.holds Tryd.pinned (OpenSpec.ofChange certTrueSpec)

/-- ITS FALSE NEIGHBOUR: 'it returns false'. Refute it at one input. -/
def certTrueWrong : ChangeSpec := { name := "certTrue", fn := fun _ => fun
  | [d1, d2, d3] => { results := [.lit (.bool false)], args := [d1, d2, d3] }
  | _ => none }
def CertTrueWrongFalsely : Prop := certTrueRow.holds Tryd.pinned (OpenSpec.ofChange certTrueWrong)

/- THE SECOND FORM. 'bulk': how many values and letters a reading holds, each counted each time it is reached (what is shared counts as often as it is met; a slice's spare places count too). A statement '..UptoSaid' is the law's where the arguments, and the package variables that the reading takes, are together of bulk at most 1048576: NARROWER than '..Said'. Prove '..Said' where nothing that the law and all that it calls make is longer than what came in: it says more and counts as full. Else prove '..UptoSaid'. A law counts once. -/
mutual
def uptoBulk {H : Type} : DataW H → Nat
  | .lit (.string bytes) => bytes.length + 1
  | .lit _ => 1
  | .nil => 1
  | .ptr d => uptoBulk d + 1
  | .slice elems spare => uptoBulkAll elems + uptoBulkAll spare + 1
  | .agg parts => uptoBulkAll parts + 1
  | .iface _ d => uptoBulk d + 1
  | .map entries => uptoBulkEntries entries + 1
  | .held _ => 1
def uptoBulkAll {H : Type} : List (DataW H) → Nat
  | [] => 0
  | d :: r => uptoBulk d + uptoBulkAll r
def uptoBulkEntries {H : Type} : List (Lit × DataW H) → Nat
  | [] => 0
  | x :: r => uptoBulkEntry x + uptoBulkEntries r
def uptoBulkEntry {H : Type} : Lit × DataW H → Nat
  | (.string bytes, d) => bytes.length + uptoBulk d + 1
  | (_, d) => uptoBulk d + 1
 end
def uptoSmall : (H : Type) → List (DataW H) → Bool := fun _ ds => decide (uptoBulkAll ds ≤ 1048576)
def OpenSpec.upto (s : _root_.Go.ChangeSpec) : _root_.Go.OpenSpec := { _root_.Go.OpenSpec.ofChange s with cond := some uptoSmall }

/-- 'lychgatelaw.FlowTells', WHERE WHAT IT READS IS OF BULK AT MOST 1048576: true; the input reads as it did. -/
def flowTellsUptoRow : OpenClaim := { program := "ythpljbbhpbijgaadoor", sum := "e40bfdf61d89afbf0a850c5dc19587f6a666ad6a9b5cc07177fbf15cb16cdaba", func := "lychgate/lychgatelaw.FlowTells", spec := "flowTells", unfollowed := true, recurses := true, named := ["lychgate/isa.shapes"], plainKeys := false, apart := false, laid := [("lychgate/isa.shapes", laid_lychgate_isa_shapes)], narrowed := true }
def FlowTellsUptoSaid : Prop := flowTellsUptoRow.holds Tryd.pinned (OpenSpec.upto flowTellsSpec)

/-- 'lychgatelaw.FlowPaths', WHERE WHAT IT READS IS OF BULK AT MOST 1048576: true; the input reads as it did. -/
def flowPathsUptoRow : OpenClaim := { program := "ythpljbbhpbijgaadoor", sum := "e40bfdf61d89afbf0a850c5dc19587f6a666ad6a9b5cc07177fbf15cb16cdaba", func := "lychgate/lychgatelaw.FlowPaths", spec := "flowPaths", unfollowed := true, recurses := true, named := ["lychgate/isa.shapes"], plainKeys := false, apart := false, laid := [("lychgate/isa.shapes", laid_lychgate_isa_shapes)], narrowed := true }
def FlowPathsUptoSaid : Prop := flowPathsUptoRow.holds Tryd.pinned (OpenSpec.upto flowPathsSpec)

/-- 'lychgatelaw.FlowTrue', WHERE WHAT IT READS IS OF BULK AT MOST 1048576: true; the input reads as it did. -/
def flowTrueUptoRow : OpenClaim := { program := "ythpljbbhpbijgaadoor", sum := "e40bfdf61d89afbf0a850c5dc19587f6a666ad6a9b5cc07177fbf15cb16cdaba", func := "lychgate/lychgatelaw.FlowTrue", spec := "flowTrue", unfollowed := true, recurses := true, named := ["lychgate/isa.shapes"], plainKeys := false, apart := false, laid := [("lychgate/isa.shapes", laid_lychgate_isa_shapes)], narrowed := true }
def FlowTrueUptoSaid : Prop := flowTrueUptoRow.holds Tryd.pinned (OpenSpec.upto flowTrueSpec)

/-- 'lychgatelaw.CertMakes', WHERE WHAT IT READS IS OF BULK AT MOST 1048576: true; the input reads as it did. -/
def certMakesUptoRow : OpenClaim := { program := "ythpljbbhpbijgaadoor", sum := "e40bfdf61d89afbf0a850c5dc19587f6a666ad6a9b5cc07177fbf15cb16cdaba", func := "lychgate/lychgatelaw.CertMakes", spec := "certMakes", unfollowed := true, recurses := true, named := ["lychgate/isa.shapes"], plainKeys := false, apart := false, laid := [("lychgate/isa.shapes", laid_lychgate_isa_shapes)], narrowed := true }
def CertMakesUptoSaid : Prop := certMakesUptoRow.holds Tryd.pinned (OpenSpec.upto certMakesSpec)

/-- 'lychgatelaw.CertVerifies', WHERE WHAT IT READS IS OF BULK AT MOST 1048576: true; the input reads as it did. -/
def certVerifiesUptoRow : OpenClaim := { program := "ythpljbbhpbijgaadoor", sum := "e40bfdf61d89afbf0a850c5dc19587f6a666ad6a9b5cc07177fbf15cb16cdaba", func := "lychgate/lychgatelaw.CertVerifies", spec := "certVerifies", unfollowed := true, recurses := true, named := ["lychgate/isa.shapes"], plainKeys := false, apart := false, laid := [("lychgate/isa.shapes", laid_lychgate_isa_shapes)], narrowed := true }
def CertVerifiesUptoSaid : Prop := certVerifiesUptoRow.holds Tryd.pinned (OpenSpec.upto certVerifiesSpec)

/-- 'lychgatelaw.CertTrue', WHERE WHAT IT READS IS OF BULK AT MOST 1048576: true; the input reads as it did. -/
def certTrueUptoRow : OpenClaim := { program := "ythpljbbhpbijgaadoor", sum := "e40bfdf61d89afbf0a850c5dc19587f6a666ad6a9b5cc07177fbf15cb16cdaba", func := "lychgate/lychgatelaw.CertTrue", spec := "certTrue", unfollowed := true, recurses := true, named := ["lychgate/isa.shapes"], plainKeys := false, apart := false, laid := [("lychgate/isa.shapes", laid_lychgate_isa_shapes)], narrowed := true }
def CertTrueUptoSaid : Prop := certTrueUptoRow.holds Tryd.pinned (OpenSpec.upto certTrueSpec)

end Rows
end Go.Proofs.YthpljbbhpbijgaaDoor

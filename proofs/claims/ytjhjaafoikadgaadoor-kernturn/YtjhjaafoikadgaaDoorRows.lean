/-
  NARROWER THAN 'FOR EVERY INPUT', by the rows' own cells (each row's printed sentence says how): KernChecks: laid · KernSteps: laid · KernRuns: laid · KernMore: laid · KernTurn: laid · KernStill: laid.
  DERIVED. THE GIVEN ROWS OF THIS SEAT. 6 by the template 'for every input the law returns true; each argument reads behind the call as it read before'; 0 by the template 'total and deterministic' (their statements: YtjhjaafoikadgaaDoorTotals.lean).
  GIVEN WITH THE SEED: the statements are not yours to turn. If you find one false, say at which input.
  Laid BY PROGRAM, IN A SANDBOX (cutbox-rows.mjs): the forced cells as the released guide's own fill.sh prints them over the translation d49a11d558b9bf81… (all of the seat's roots in one cut). By AI agents, Wed Nov 11 2026. No macro, syntax, notation, axiom, sorry.
-/
import Derived.Test.YtjhjaafoikadgaaDoorChecked
import GoSem.Claim
import GoSem.ClaimJoined
import GoSem.ClaimMapViews
import Derived.JoinedTies
import Derived.KernelRfl
namespace Go.Proofs.YtjhjaafoikadgaaDoor
/- THE CELL 'sum', in the pinned program and in every row, IS THE sha256 OF THE DUMP (.gsa) THAT YtjhjaafoikadgaaDoorProg.lean LOADS. Nothing in Lean hashes anything: it is a label: what it is worth is what the hold of that sum in a sandbox is worth. -/
noncomputable def Tryd.pinned : Pinned := { name := "ytjhjaafoikadgaadoor", sum := "d49a11d558b9bf812fc7193305df6ae4de7076c25764be5b62a9a65052482ed5", checked := Tryd.checked }
namespace Rows
def none {H : Type} : Left H := { results := [], args := [] }

/- WHAT THE LISTED PACKAGE-LEVEL VARIABLES READ AS WHEN THE CALL BEGINS. Each datum BY PROGRAM (the guide's laid-datum.mjs) off the statement by which the dump's own 'gosem.cut.vars' lays the variable. In a bare row this is a premise. The card (YtjhjaafoikadgaaDoorCards.lean) ties it to the program's text. -/
def laid_lychgate_isa_shapes {H : Type} : DataW H := .agg [.agg [.lit (.string []), .lit (.bool false), .lit (.bool false), .lit (.bool false), .lit (.int .i64 0), .lit (.int .i64 0)], .agg [.lit (.string [115, 101, 116]), .lit (.bool true), .lit (.bool false), .lit (.bool true), .lit (.int .i64 (-9223372036854775808)), .lit (.int .i64 9223372036854775807)], .agg [.lit (.string [99, 111, 112, 121]), .lit (.bool true), .lit (.bool true), .lit (.bool false), .lit (.int .i64 0), .lit (.int .i64 0)], .agg [.lit (.string [97, 100, 100]), .lit (.bool true), .lit (.bool true), .lit (.bool false), .lit (.int .i64 0), .lit (.int .i64 0)], .agg [.lit (.string [115, 117, 98]), .lit (.bool true), .lit (.bool true), .lit (.bool false), .lit (.int .i64 0), .lit (.int .i64 0)], .agg [.lit (.string [108, 101, 115, 115]), .lit (.bool true), .lit (.bool true), .lit (.bool false), .lit (.int .i64 0), .lit (.int .i64 0)], .agg [.lit (.string [108, 111, 97, 100]), .lit (.bool true), .lit (.bool true), .lit (.bool false), .lit (.int .i64 0), .lit (.int .i64 0)], .agg [.lit (.string [115, 97, 118, 101]), .lit (.bool true), .lit (.bool true), .lit (.bool false), .lit (.int .i64 0), .lit (.int .i64 0)], .agg [.lit (.string [106, 117, 109, 112]), .lit (.bool false), .lit (.bool false), .lit (.bool true), .lit (.int .i64 0), .lit (.int .i64 19)], .agg [.lit (.string [122, 101, 114, 111]), .lit (.bool true), .lit (.bool false), .lit (.bool true), .lit (.int .i64 0), .lit (.int .i64 19)], .agg [.lit (.string [105, 110]), .lit (.bool true), .lit (.bool false), .lit (.bool false), .lit (.int .i64 0), .lit (.int .i64 0)], .agg [.lit (.string [111, 117, 116]), .lit (.bool true), .lit (.bool false), .lit (.bool false), .lit (.int .i64 0), .lit (.int .i64 0)], .agg [.lit (.string [112, 117, 116]), .lit (.bool true), .lit (.bool false), .lit (.bool true), .lit (.int .i64 0), .lit (.int .i64 5)], .agg [.lit (.string [103, 101, 116]), .lit (.bool true), .lit (.bool true), .lit (.bool true), .lit (.int .i64 0), .lit (.int .i64 5)], .agg [.lit (.string [114, 101, 115, 116]), .lit (.bool false), .lit (.bool false), .lit (.bool false), .lit (.int .i64 0), .lit (.int .i64 0)], .agg [.lit (.string [115, 116, 111, 112]), .lit (.bool false), .lit (.bool false), .lit (.bool false), .lit (.int .i64 0), .lit (.int .i64 0)]]

/-- 'lychgatelaw.KernChecks': WHATEVER THE INPUT: true; the input reads as it did. -/
def kernChecksSpec : ChangeSpec := { name := "kernChecks", fn := fun _ => fun
  | [d1, d2] => { results := [.lit (.bool true)], args := [d1, d2] }
  | _ => none }
def kernChecksRow : OpenClaim := { program := "ytjhjaafoikadgaadoor", sum := "d49a11d558b9bf812fc7193305df6ae4de7076c25764be5b62a9a65052482ed5", func := "lychgate/lychgatelaw.KernChecks", spec := "kernChecks", unfollowed := true, recurses := true, named := ["lychgate/isa.shapes"], apart := false, laid := [("lychgate/isa.shapes", laid_lychgate_isa_shapes)] }
def KernChecksSaid : Prop := kernChecksRow.holds Tryd.pinned (OpenSpec.ofChange kernChecksSpec)

/-- ITS FALSE NEIGHBOUR: 'it returns false'. Refute it at one input. -/
def kernChecksWrong : ChangeSpec := { name := "kernChecks", fn := fun _ => fun
  | [d1, d2] => { results := [.lit (.bool false)], args := [d1, d2] }
  | _ => none }
def KernChecksWrongFalsely : Prop := kernChecksRow.holds Tryd.pinned (OpenSpec.ofChange kernChecksWrong)

/-- 'lychgatelaw.KernSteps': WHATEVER THE INPUT: true; the input reads as it did. -/
def kernStepsSpec : ChangeSpec := { name := "kernSteps", fn := fun _ => fun
  | [d1, d2] => { results := [.lit (.bool true)], args := [d1, d2] }
  | _ => none }
def kernStepsRow : OpenClaim := { program := "ytjhjaafoikadgaadoor", sum := "d49a11d558b9bf812fc7193305df6ae4de7076c25764be5b62a9a65052482ed5", func := "lychgate/lychgatelaw.KernSteps", spec := "kernSteps", unfollowed := true, recurses := true, named := ["lychgate/isa.shapes"], apart := false, laid := [("lychgate/isa.shapes", laid_lychgate_isa_shapes)] }
def KernStepsSaid : Prop := kernStepsRow.holds Tryd.pinned (OpenSpec.ofChange kernStepsSpec)

/-- ITS FALSE NEIGHBOUR: 'it returns false'. Refute it at one input. -/
def kernStepsWrong : ChangeSpec := { name := "kernSteps", fn := fun _ => fun
  | [d1, d2] => { results := [.lit (.bool false)], args := [d1, d2] }
  | _ => none }
def KernStepsWrongFalsely : Prop := kernStepsRow.holds Tryd.pinned (OpenSpec.ofChange kernStepsWrong)

/-- 'lychgatelaw.KernRuns': WHATEVER THE INPUT: true; the input reads as it did. -/
def kernRunsSpec : ChangeSpec := { name := "kernRuns", fn := fun _ => fun
  | [d1, d2] => { results := [.lit (.bool true)], args := [d1, d2] }
  | _ => none }
def kernRunsRow : OpenClaim := { program := "ytjhjaafoikadgaadoor", sum := "d49a11d558b9bf812fc7193305df6ae4de7076c25764be5b62a9a65052482ed5", func := "lychgate/lychgatelaw.KernRuns", spec := "kernRuns", unfollowed := true, recurses := true, named := ["lychgate/isa.shapes"], apart := false, laid := [("lychgate/isa.shapes", laid_lychgate_isa_shapes)] }
def KernRunsSaid : Prop := kernRunsRow.holds Tryd.pinned (OpenSpec.ofChange kernRunsSpec)

/-- ITS FALSE NEIGHBOUR: 'it returns false'. Refute it at one input. -/
def kernRunsWrong : ChangeSpec := { name := "kernRuns", fn := fun _ => fun
  | [d1, d2] => { results := [.lit (.bool false)], args := [d1, d2] }
  | _ => none }
def KernRunsWrongFalsely : Prop := kernRunsRow.holds Tryd.pinned (OpenSpec.ofChange kernRunsWrong)

/-- 'lychgatelaw.KernMore': WHATEVER THE INPUT: true; the input reads as it did. -/
def kernMoreSpec : ChangeSpec := { name := "kernMore", fn := fun _ => fun
  | [d1, d2, d3] => { results := [.lit (.bool true)], args := [d1, d2, d3] }
  | _ => none }
def kernMoreRow : OpenClaim := { program := "ytjhjaafoikadgaadoor", sum := "d49a11d558b9bf812fc7193305df6ae4de7076c25764be5b62a9a65052482ed5", func := "lychgate/lychgatelaw.KernMore", spec := "kernMore", unfollowed := true, recurses := true, named := ["lychgate/isa.shapes"], apart := false, laid := [("lychgate/isa.shapes", laid_lychgate_isa_shapes)] }
def KernMoreSaid : Prop := kernMoreRow.holds Tryd.pinned (OpenSpec.ofChange kernMoreSpec)

/-- ITS FALSE NEIGHBOUR: 'it returns false'. Refute it at one input. -/
def kernMoreWrong : ChangeSpec := { name := "kernMore", fn := fun _ => fun
  | [d1, d2, d3] => { results := [.lit (.bool false)], args := [d1, d2, d3] }
  | _ => none }
def KernMoreWrongFalsely : Prop := kernMoreRow.holds Tryd.pinned (OpenSpec.ofChange kernMoreWrong)

/-- 'lychgatelaw.KernTurn': WHATEVER THE INPUT: true; the input reads as it did. -/
def kernTurnSpec : ChangeSpec := { name := "kernTurn", fn := fun _ => fun
  | [d1, d2, d3] => { results := [.lit (.bool true)], args := [d1, d2, d3] }
  | _ => none }
def kernTurnRow : OpenClaim := { program := "ytjhjaafoikadgaadoor", sum := "d49a11d558b9bf812fc7193305df6ae4de7076c25764be5b62a9a65052482ed5", func := "lychgate/lychgatelaw.KernTurn", spec := "kernTurn", unfollowed := true, recurses := true, named := ["lychgate/isa.shapes"], apart := false, laid := [("lychgate/isa.shapes", laid_lychgate_isa_shapes)] }
def KernTurnSaid : Prop := kernTurnRow.holds Tryd.pinned (OpenSpec.ofChange kernTurnSpec)

/-- ITS FALSE NEIGHBOUR: 'it returns false'. Refute it at one input. -/
def kernTurnWrong : ChangeSpec := { name := "kernTurn", fn := fun _ => fun
  | [d1, d2, d3] => { results := [.lit (.bool false)], args := [d1, d2, d3] }
  | _ => none }
def KernTurnWrongFalsely : Prop := kernTurnRow.holds Tryd.pinned (OpenSpec.ofChange kernTurnWrong)

/-- 'lychgatelaw.KernStill': WHATEVER THE INPUT: true; the input reads as it did. -/
def kernStillSpec : ChangeSpec := { name := "kernStill", fn := fun _ => fun
  | [d1, d2, d3, d4] => { results := [.lit (.bool true)], args := [d1, d2, d3, d4] }
  | _ => none }
def kernStillRow : OpenClaim := { program := "ytjhjaafoikadgaadoor", sum := "d49a11d558b9bf812fc7193305df6ae4de7076c25764be5b62a9a65052482ed5", func := "lychgate/lychgatelaw.KernStill", spec := "kernStill", unfollowed := true, recurses := true, named := ["lychgate/isa.shapes"], apart := false, laid := [("lychgate/isa.shapes", laid_lychgate_isa_shapes)] }
def KernStillSaid : Prop := kernStillRow.holds Tryd.pinned (OpenSpec.ofChange kernStillSpec)

/-- ITS FALSE NEIGHBOUR: 'it returns false'. Refute it at one input. -/
def kernStillWrong : ChangeSpec := { name := "kernStill", fn := fun _ => fun
  | [d1, d2, d3, d4] => { results := [.lit (.bool false)], args := [d1, d2, d3, d4] }
  | _ => none }
def KernStillWrongFalsely : Prop := kernStillRow.holds Tryd.pinned (OpenSpec.ofChange kernStillWrong)

/- THE SECOND FORM. 'bulk': how many values and letters a reading holds, each counted each time it is reached (what is shared counts as often as it is met; a slice's spare places count too). A statement '..UptoSaid' is the law's where the arguments, and the package variables that the reading takes, are together of bulk at most 1048576: NARROWER than '..Said'. Prove '..Said' where nothing that the law and all that it calls make is longer than what came in: it says more and counts as full. Else prove '..UptoSaid'. A law counts once. -/
mutual
def uptoBulk {H : Type} : DataW H → Nat
  | .lit (.string bytes) => bytes.length + 1
  | .lit _ => 1
  | .nil => 1
  | .ptr d => uptoBulk d + 1
  | .slice elems spare => uptoBulkAll elems + uptoBulkAll spare + 1
  | .agg parts => uptoBulkAll parts + 1
  | .iface _ d => uptoBulk d + 1
  | .map entries => uptoBulkEntries entries + 1
  | .held _ => 1
def uptoBulkAll {H : Type} : List (DataW H) → Nat
  | [] => 0
  | d :: r => uptoBulk d + uptoBulkAll r
def uptoBulkEntries {H : Type} : List (Lit × DataW H) → Nat
  | [] => 0
  | x :: r => uptoBulkEntry x + uptoBulkEntries r
def uptoBulkEntry {H : Type} : Lit × DataW H → Nat
  | (.string bytes, d) => bytes.length + uptoBulk d + 1
  | (_, d) => uptoBulk d + 1
 end
def uptoSmall : (H : Type) → List (DataW H) → Bool := fun _ ds => decide (uptoBulkAll ds ≤ 1048576)
def OpenSpec.upto (s : _root_.Go.ChangeSpec) : _root_.Go.OpenSpec := { _root_.Go.OpenSpec.ofChange s with cond := some uptoSmall }

/-- 'lychgatelaw.KernChecks', WHERE WHAT IT READS IS OF BULK AT MOST 1048576: true; the input reads as it did. -/
def kernChecksUptoRow : OpenClaim := { program := "ytjhjaafoikadgaadoor", sum := "d49a11d558b9bf812fc7193305df6ae4de7076c25764be5b62a9a65052482ed5", func := "lychgate/lychgatelaw.KernChecks", spec := "kernChecks", unfollowed := true, recurses := true, named := ["lychgate/isa.shapes"], apart := false, laid := [("lychgate/isa.shapes", laid_lychgate_isa_shapes)], narrowed := true }
def KernChecksUptoSaid : Prop := kernChecksUptoRow.holds Tryd.pinned (OpenSpec.upto kernChecksSpec)

/-- 'lychgatelaw.KernSteps', WHERE WHAT IT READS IS OF BULK AT MOST 1048576: true; the input reads as it did. -/
def kernStepsUptoRow : OpenClaim := { program := "ytjhjaafoikadgaadoor", sum := "d49a11d558b9bf812fc7193305df6ae4de7076c25764be5b62a9a65052482ed5", func := "lychgate/lychgatelaw.KernSteps", spec := "kernSteps", unfollowed := true, recurses := true, named := ["lychgate/isa.shapes"], apart := false, laid := [("lychgate/isa.shapes", laid_lychgate_isa_shapes)], narrowed := true }
def KernStepsUptoSaid : Prop := kernStepsUptoRow.holds Tryd.pinned (OpenSpec.upto kernStepsSpec)

/-- 'lychgatelaw.KernRuns', WHERE WHAT IT READS IS OF BULK AT MOST 1048576: true; the input reads as it did. -/
def kernRunsUptoRow : OpenClaim := { program := "ytjhjaafoikadgaadoor", sum := "d49a11d558b9bf812fc7193305df6ae4de7076c25764be5b62a9a65052482ed5", func := "lychgate/lychgatelaw.KernRuns", spec := "kernRuns", unfollowed := true, recurses := true, named := ["lychgate/isa.shapes"], apart := false, laid := [("lychgate/isa.shapes", laid_lychgate_isa_shapes)], narrowed := true }
def KernRunsUptoSaid : Prop := kernRunsUptoRow.holds Tryd.pinned (OpenSpec.upto kernRunsSpec)

/-- 'lychgatelaw.KernMore', WHERE WHAT IT READS IS OF BULK AT MOST 1048576: true; the input reads as it did. -/
def kernMoreUptoRow : OpenClaim := { program := "ytjhjaafoikadgaadoor", sum := "d49a11d558b9bf812fc7193305df6ae4de7076c25764be5b62a9a65052482ed5", func := "lychgate/lychgatelaw.KernMore", spec := "kernMore", unfollowed := true, recurses := true, named := ["lychgate/isa.shapes"], apart := false, laid := [("lychgate/isa.shapes", laid_lychgate_isa_shapes)], narrowed := true }
def KernMoreUptoSaid : Prop := kernMoreUptoRow.holds Tryd.pinned (OpenSpec.upto kernMoreSpec)

/-- 'lychgatelaw.KernTurn', WHERE WHAT IT READS IS OF BULK AT MOST 1048576: true; the input reads as it did. -/
def kernTurnUptoRow : OpenClaim := { program := "ytjhjaafoikadgaadoor", sum := "d49a11d558b9bf812fc7193305df6ae4de7076c25764be5b62a9a65052482ed5", func := "lychgate/lychgatelaw.KernTurn", spec := "kernTurn", unfollowed := true, recurses := true, named := ["lychgate/isa.shapes"], apart := false, laid := [("lychgate/isa.shapes", laid_lychgate_isa_shapes)], narrowed := true }
def KernTurnUptoSaid : Prop := kernTurnUptoRow.holds Tryd.pinned (OpenSpec.upto kernTurnSpec)

/-- 'lychgatelaw.KernStill', WHERE WHAT IT READS IS OF BULK AT MOST 1048576: true; the input reads as it did. -/
def kernStillUptoRow : OpenClaim := { program := "ytjhjaafoikadgaadoor", sum := "d49a11d558b9bf812fc7193305df6ae4de7076c25764be5b62a9a65052482ed5", func := "lychgate/lychgatelaw.KernStill", spec := "kernStill", unfollowed := true, recurses := true, named := ["lychgate/isa.shapes"], apart := false, laid := [("lychgate/isa.shapes", laid_lychgate_isa_shapes)], narrowed := true }
def KernStillUptoSaid : Prop := kernStillUptoRow.holds Tryd.pinned (OpenSpec.upto kernStillSpec)

end Rows
end Go.Proofs.YtjhjaafoikadgaaDoor

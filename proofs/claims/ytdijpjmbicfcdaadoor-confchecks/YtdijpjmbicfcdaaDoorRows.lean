/-
  NARROWER THAN 'FOR EVERY INPUT', by the rows' own cells (each row's printed sentence says how): ConfChecks: laid · ConfCalm: laid · SchedTells: laid · SchedTrue: laid.
  DERIVED. THE GIVEN ROWS OF THIS SEAT. 4 by the template 'for every input the law returns true; each argument reads behind the call as it read before'; 0 by the template 'total and deterministic' (their statements: YtdijpjmbicfcdaaDoorTotals.lean).
  GIVEN WITH THE SEED: the statements are not yours to turn. If you find one false, say at which input.
  Laid BY PROGRAM, IN A SANDBOX (cutbox-rows.mjs): the forced cells as the released guide's own fill.sh prints them over the translation ca86340aa01bbc9f… (all of the seat's roots in one cut). By AI agents, Wed Nov 11 2026. No macro, syntax, notation, axiom, sorry.
-/
import Derived.Test.YtdijpjmbicfcdaaDoorChecked
import GoSem.Claim
import GoSem.ClaimJoined
import GoSem.ClaimMapViews
import Derived.JoinedTies
import Derived.KernelRfl
namespace Go.Proofs.YtdijpjmbicfcdaaDoor
/- THE CELL 'sum', in the pinned program and in every row, IS THE sha256 OF THE DUMP (.gsa) THAT YtdijpjmbicfcdaaDoorProg.lean LOADS. Nothing in Lean hashes anything: it is a label: what it is worth is what the hold of that sum in a sandbox is worth. -/
noncomputable def Tryd.pinned : Pinned := { name := "ytdijpjmbicfcdaadoor", sum := "ca86340aa01bbc9f34b9b60c6da3f96b45028ad1d4e005270966f2e2c594323b", checked := Tryd.checked }
namespace Rows
def none {H : Type} : Left H := { results := [], args := [] }

/- WHAT THE LISTED PACKAGE-LEVEL VARIABLES READ AS WHEN THE CALL BEGINS. Each datum BY PROGRAM (the guide's laid-datum.mjs) off the statement by which the dump's own 'gosem.cut.vars' lays the variable. In a bare row this is a premise. The card (YtdijpjmbicfcdaaDoorCards.lean) ties it to the program's text. -/
def laid_lychgate_isa_shapes {H : Type} : DataW H := .agg [.agg [.lit (.string []), .lit (.bool false), .lit (.bool false), .lit (.bool false), .lit (.int .i64 0), .lit (.int .i64 0)], .agg [.lit (.string [115, 101, 116]), .lit (.bool true), .lit (.bool false), .lit (.bool true), .lit (.int .i64 (-9223372036854775808)), .lit (.int .i64 9223372036854775807)], .agg [.lit (.string [99, 111, 112, 121]), .lit (.bool true), .lit (.bool true), .lit (.bool false), .lit (.int .i64 0), .lit (.int .i64 0)], .agg [.lit (.string [97, 100, 100]), .lit (.bool true), .lit (.bool true), .lit (.bool false), .lit (.int .i64 0), .lit (.int .i64 0)], .agg [.lit (.string [115, 117, 98]), .lit (.bool true), .lit (.bool true), .lit (.bool false), .lit (.int .i64 0), .lit (.int .i64 0)], .agg [.lit (.string [108, 101, 115, 115]), .lit (.bool true), .lit (.bool true), .lit (.bool false), .lit (.int .i64 0), .lit (.int .i64 0)], .agg [.lit (.string [108, 111, 97, 100]), .lit (.bool true), .lit (.bool true), .lit (.bool false), .lit (.int .i64 0), .lit (.int .i64 0)], .agg [.lit (.string [115, 97, 118, 101]), .lit (.bool true), .lit (.bool true), .lit (.bool false), .lit (.int .i64 0), .lit (.int .i64 0)], .agg [.lit (.string [106, 117, 109, 112]), .lit (.bool false), .lit (.bool false), .lit (.bool true), .lit (.int .i64 0), .lit (.int .i64 19)], .agg [.lit (.string [122, 101, 114, 111]), .lit (.bool true), .lit (.bool false), .lit (.bool true), .lit (.int .i64 0), .lit (.int .i64 19)], .agg [.lit (.string [105, 110]), .lit (.bool true), .lit (.bool false), .lit (.bool false), .lit (.int .i64 0), .lit (.int .i64 0)], .agg [.lit (.string [111, 117, 116]), .lit (.bool true), .lit (.bool false), .lit (.bool false), .lit (.int .i64 0), .lit (.int .i64 0)], .agg [.lit (.string [112, 117, 116]), .lit (.bool true), .lit (.bool false), .lit (.bool true), .lit (.int .i64 0), .lit (.int .i64 5)], .agg [.lit (.string [103, 101, 116]), .lit (.bool true), .lit (.bool true), .lit (.bool true), .lit (.int .i64 0), .lit (.int .i64 5)], .agg [.lit (.string [114, 101, 115, 116]), .lit (.bool false), .lit (.bool false), .lit (.bool false), .lit (.int .i64 0), .lit (.int .i64 0)], .agg [.lit (.string [115, 116, 111, 112]), .lit (.bool false), .lit (.bool false), .lit (.bool false), .lit (.int .i64 0), .lit (.int .i64 0)]]

/-- 'lychgatelaw.ConfChecks': WHATEVER THE INPUT: true; the input reads as it did. -/
def confChecksSpec : ChangeSpec := { name := "confChecks", fn := fun _ => fun
  | [d1, d2] => { results := [.lit (.bool true)], args := [d1, d2] }
  | _ => none }
def confChecksRow : OpenClaim := { program := "ytdijpjmbicfcdaadoor", sum := "ca86340aa01bbc9f34b9b60c6da3f96b45028ad1d4e005270966f2e2c594323b", func := "lychgate/lychgatelaw.ConfChecks", spec := "confChecks", unfollowed := true, recurses := true, named := ["lychgate/isa.shapes"], apart := false, laid := [("lychgate/isa.shapes", laid_lychgate_isa_shapes)] }
def ConfChecksSaid : Prop := confChecksRow.holds Tryd.pinned (OpenSpec.ofChange confChecksSpec)

/-- ITS FALSE NEIGHBOUR: 'it returns false'. Refute it at one input. -/
def confChecksWrong : ChangeSpec := { name := "confChecks", fn := fun _ => fun
  | [d1, d2] => { results := [.lit (.bool false)], args := [d1, d2] }
  | _ => none }
def ConfChecksWrongFalsely : Prop := confChecksRow.holds Tryd.pinned (OpenSpec.ofChange confChecksWrong)

/-- 'lychgatelaw.ConfCalm': WHATEVER THE INPUT: true; the input reads as it did. -/
def confCalmSpec : ChangeSpec := { name := "confCalm", fn := fun _ => fun
  | [d1, d2, d3] => { results := [.lit (.bool true)], args := [d1, d2, d3] }
  | _ => none }
def confCalmRow : OpenClaim := { program := "ytdijpjmbicfcdaadoor", sum := "ca86340aa01bbc9f34b9b60c6da3f96b45028ad1d4e005270966f2e2c594323b", func := "lychgate/lychgatelaw.ConfCalm", spec := "confCalm", unfollowed := true, recurses := true, named := ["lychgate/isa.shapes"], apart := false, laid := [("lychgate/isa.shapes", laid_lychgate_isa_shapes)] }
def ConfCalmSaid : Prop := confCalmRow.holds Tryd.pinned (OpenSpec.ofChange confCalmSpec)

/-- ITS FALSE NEIGHBOUR: 'it returns false'. Refute it at one input. -/
def confCalmWrong : ChangeSpec := { name := "confCalm", fn := fun _ => fun
  | [d1, d2, d3] => { results := [.lit (.bool false)], args := [d1, d2, d3] }
  | _ => none }
def ConfCalmWrongFalsely : Prop := confCalmRow.holds Tryd.pinned (OpenSpec.ofChange confCalmWrong)

/-- 'lychgatelaw.SchedTells': WHATEVER THE INPUT: true; the input reads as it did. -/
def schedTellsSpec : ChangeSpec := { name := "schedTells", fn := fun _ => fun
  | [d1, d2] => { results := [.lit (.bool true)], args := [d1, d2] }
  | _ => none }
def schedTellsRow : OpenClaim := { program := "ytdijpjmbicfcdaadoor", sum := "ca86340aa01bbc9f34b9b60c6da3f96b45028ad1d4e005270966f2e2c594323b", func := "lychgate/lychgatelaw.SchedTells", spec := "schedTells", unfollowed := true, recurses := true, named := ["lychgate/isa.shapes"], apart := false, laid := [("lychgate/isa.shapes", laid_lychgate_isa_shapes)] }
def SchedTellsSaid : Prop := schedTellsRow.holds Tryd.pinned (OpenSpec.ofChange schedTellsSpec)

/-- ITS FALSE NEIGHBOUR: 'it returns false'. Refute it at one input. -/
def schedTellsWrong : ChangeSpec := { name := "schedTells", fn := fun _ => fun
  | [d1, d2] => { results := [.lit (.bool false)], args := [d1, d2] }
  | _ => none }
def SchedTellsWrongFalsely : Prop := schedTellsRow.holds Tryd.pinned (OpenSpec.ofChange schedTellsWrong)

/-- 'lychgatelaw.SchedTrue': WHATEVER THE INPUT: true; the input reads as it did. -/
def schedTrueSpec : ChangeSpec := { name := "schedTrue", fn := fun _ => fun
  | [d1, d2, d3] => { results := [.lit (.bool true)], args := [d1, d2, d3] }
  | _ => none }
def schedTrueRow : OpenClaim := { program := "ytdijpjmbicfcdaadoor", sum := "ca86340aa01bbc9f34b9b60c6da3f96b45028ad1d4e005270966f2e2c594323b", func := "lychgate/lychgatelaw.SchedTrue", spec := "schedTrue", unfollowed := true, recurses := true, named := ["lychgate/isa.shapes"], apart := false, laid := [("lychgate/isa.shapes", laid_lychgate_isa_shapes)] }
def SchedTrueSaid : Prop := schedTrueRow.holds Tryd.pinned (OpenSpec.ofChange schedTrueSpec)

/-- ITS FALSE NEIGHBOUR: 'it returns false'. Refute it at one input. -/
def schedTrueWrong : ChangeSpec := { name := "schedTrue", fn := fun _ => fun
  | [d1, d2, d3] => { results := [.lit (.bool false)], args := [d1, d2, d3] }
  | _ => none }
def SchedTrueWrongFalsely : Prop := schedTrueRow.holds Tryd.pinned (OpenSpec.ofChange schedTrueWrong)

/- THE SECOND FORM. 'bulk': how many values and letters a reading holds, each counted each time it is reached (what is shared counts as often as it is met; a slice's spare places count too). A statement '..UptoSaid' is the law's where the arguments, and the package variables that the reading takes, are together of bulk at most 1048576: NARROWER than '..Said'. Prove '..Said' where nothing that the law and all that it calls make is longer than what came in: it says more and counts as full. Else prove '..UptoSaid'. A law counts once. -/
mutual
def uptoBulk {H : Type} : DataW H → Nat
  | .lit (.string bytes) => bytes.length + 1
  | .lit _ => 1
  | .nil => 1
  | .ptr d => uptoBulk d + 1
  | .slice elems spare => uptoBulkAll elems + uptoBulkAll spare + 1
  | .agg parts => uptoBulkAll parts + 1
  | .iface _ d => uptoBulk d + 1
  | .map entries => uptoBulkEntries entries + 1
  | .held _ => 1
def uptoBulkAll {H : Type} : List (DataW H) → Nat
  | [] => 0
  | d :: r => uptoBulk d + uptoBulkAll r
def uptoBulkEntries {H : Type} : List (Lit × DataW H) → Nat
  | [] => 0
  | x :: r => uptoBulkEntry x + uptoBulkEntries r
def uptoBulkEntry {H : Type} : Lit × DataW H → Nat
  | (.string bytes, d) => bytes.length + uptoBulk d + 1
  | (_, d) => uptoBulk d + 1
 end
def uptoSmall : (H : Type) → List (DataW H) → Bool := fun _ ds => decide (uptoBulkAll ds ≤ 1048576)
def OpenSpec.upto (s : _root_.Go.ChangeSpec) : _root_.Go.OpenSpec := { _root_.Go.OpenSpec.ofChange s with cond := some uptoSmall }

/-- 'lychgatelaw.ConfChecks', WHERE WHAT IT READS IS OF BULK AT MOST 1048576: true; the input reads as it did. -/
def confChecksUptoRow : OpenClaim := { program := "ytdijpjmbicfcdaadoor", sum := "ca86340aa01bbc9f34b9b60c6da3f96b45028ad1d4e005270966f2e2c594323b", func := "lychgate/lychgatelaw.ConfChecks", spec := "confChecks", unfollowed := true, recurses := true, named := ["lychgate/isa.shapes"], apart := false, laid := [("lychgate/isa.shapes", laid_lychgate_isa_shapes)], narrowed := true }
def ConfChecksUptoSaid : Prop := confChecksUptoRow.holds Tryd.pinned (OpenSpec.upto confChecksSpec)

/-- 'lychgatelaw.ConfCalm', WHERE WHAT IT READS IS OF BULK AT MOST 1048576: true; the input reads as it did. -/
def confCalmUptoRow : OpenClaim := { program := "ytdijpjmbicfcdaadoor", sum := "ca86340aa01bbc9f34b9b60c6da3f96b45028ad1d4e005270966f2e2c594323b", func := "lychgate/lychgatelaw.ConfCalm", spec := "confCalm", unfollowed := true, recurses := true, named := ["lychgate/isa.shapes"], apart := false, laid := [("lychgate/isa.shapes", laid_lychgate_isa_shapes)], narrowed := true }
def ConfCalmUptoSaid : Prop := confCalmUptoRow.holds Tryd.pinned (OpenSpec.upto confCalmSpec)

/-- 'lychgatelaw.SchedTells', WHERE WHAT IT READS IS OF BULK AT MOST 1048576: true; the input reads as it did. -/
def schedTellsUptoRow : OpenClaim := { program := "ytdijpjmbicfcdaadoor", sum := "ca86340aa01bbc9f34b9b60c6da3f96b45028ad1d4e005270966f2e2c594323b", func := "lychgate/lychgatelaw.SchedTells", spec := "schedTells", unfollowed := true, recurses := true, named := ["lychgate/isa.shapes"], apart := false, laid := [("lychgate/isa.shapes", laid_lychgate_isa_shapes)], narrowed := true }
def SchedTellsUptoSaid : Prop := schedTellsUptoRow.holds Tryd.pinned (OpenSpec.upto schedTellsSpec)

/-- 'lychgatelaw.SchedTrue', WHERE WHAT IT READS IS OF BULK AT MOST 1048576: true; the input reads as it did. -/
def schedTrueUptoRow : OpenClaim := { program := "ytdijpjmbicfcdaadoor", sum := "ca86340aa01bbc9f34b9b60c6da3f96b45028ad1d4e005270966f2e2c594323b", func := "lychgate/lychgatelaw.SchedTrue", spec := "schedTrue", unfollowed := true, recurses := true, named := ["lychgate/isa.shapes"], apart := false, laid := [("lychgate/isa.shapes", laid_lychgate_isa_shapes)], narrowed := true }
def SchedTrueUptoSaid : Prop := schedTrueUptoRow.holds Tryd.pinned (OpenSpec.upto schedTrueSpec)

end Rows
end Go.Proofs.YtdijpjmbicfcdaaDoor

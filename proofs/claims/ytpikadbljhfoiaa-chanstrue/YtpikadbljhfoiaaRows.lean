/-
  No cell of these rows narrows 'for every input' (looked for: loops, veiled, ifaces, maps, wideKeys, modest, calm, conditions, laid).
  DERIVED. THE GIVEN ROWS OF THIS SEAT. 2 by the template 'for every input the law returns true; each argument reads behind the call as it read before'; 0 by the template 'total and deterministic' (their statements: YtpikadbljhfoiaaTotals.lean).
  GIVEN WITH THE SEED: the statements are not yours to turn. If you find one false, say at which input.
  Laid BY PROGRAM, IN A SANDBOX (cutbox-rows.mjs): the forced cells as the released guide's own fill.sh prints them over the translation 978d0613cbd21980… (all of the seat's roots in one cut). By AI agents, Wed Nov 11 2026. No macro, syntax, notation, axiom, sorry.
-/
import Derived.Test.YtpikadbljhfoiaaChecked
import GoSem.Claim
import GoSem.ClaimJoined
import GoSem.ClaimMapViews
import Derived.JoinedTies
import Derived.KernelRfl
namespace Go.Proofs.Ytpikadbljhfoiaa
/- THE CELL 'sum', in the pinned program and in every row, IS THE sha256 OF THE DUMP (.gsa) THAT YtpikadbljhfoiaaProg.lean LOADS. Nothing in Lean hashes anything: it is a label: what it is worth is what the hold of that sum in a sandbox is worth. -/
noncomputable def Try.pinned : Pinned := { name := "ytpikadbljhfoiaa", sum := "978d0613cbd219809d66981c909acd21bbcb2df9ac62117ea35e5797c1f94d27", checked := Try.checked }
namespace Rows
def none {H : Type} : Left H := { results := [], args := [] }

/-- 'lychgatelaw.ChansTells': WHATEVER THE INPUT: true; the input reads as it did. -/
def chansTellsSpec : ChangeSpec := { name := "chansTells", fn := fun _ => fun
  | [d1, d2, d3] => { results := [.lit (.bool true)], args := [d1, d2, d3] }
  | _ => none }
def chansTellsRow : OpenClaim := { program := "ytpikadbljhfoiaa", sum := "978d0613cbd219809d66981c909acd21bbcb2df9ac62117ea35e5797c1f94d27", func := "lychgate/lychgatelaw.ChansTells", spec := "chansTells", apart := false }
def ChansTellsSaid : Prop := chansTellsRow.holds Try.pinned (OpenSpec.ofChange chansTellsSpec)

/-- ITS FALSE NEIGHBOUR: 'it returns false'. Refute it at one input. -/
def chansTellsWrong : ChangeSpec := { name := "chansTells", fn := fun _ => fun
  | [d1, d2, d3] => { results := [.lit (.bool false)], args := [d1, d2, d3] }
  | _ => none }
def ChansTellsWrongFalsely : Prop := chansTellsRow.holds Try.pinned (OpenSpec.ofChange chansTellsWrong)

/-- 'lychgatelaw.ChansTrue': WHATEVER THE INPUT: true; the input reads as it did. -/
def chansTrueSpec : ChangeSpec := { name := "chansTrue", fn := fun _ => fun
  | [d1, d2] => { results := [.lit (.bool true)], args := [d1, d2] }
  | _ => none }
def chansTrueRow : OpenClaim := { program := "ytpikadbljhfoiaa", sum := "978d0613cbd219809d66981c909acd21bbcb2df9ac62117ea35e5797c1f94d27", func := "lychgate/lychgatelaw.ChansTrue", spec := "chansTrue", apart := false }
def ChansTrueSaid : Prop := chansTrueRow.holds Try.pinned (OpenSpec.ofChange chansTrueSpec)

/-- ITS FALSE NEIGHBOUR: 'it returns false'. Refute it at one input. -/
def chansTrueWrong : ChangeSpec := { name := "chansTrue", fn := fun _ => fun
  | [d1, d2] => { results := [.lit (.bool false)], args := [d1, d2] }
  | _ => none }
def ChansTrueWrongFalsely : Prop := chansTrueRow.holds Try.pinned (OpenSpec.ofChange chansTrueWrong)

/- THE SECOND FORM. 'bulk': how many values and letters a reading holds, each counted each time it is reached (what is shared counts as often as it is met; a slice's spare places count too). A statement '..UptoSaid' is the law's where the arguments, and the package variables that the reading takes, are together of bulk at most 1048576: NARROWER than '..Said'. Prove '..Said' where nothing that the law and all that it calls make is longer than what came in: it says more and counts as full. Else prove '..UptoSaid'. A law counts once. -/
mutual
def uptoBulk {H : Type} : DataW H → Nat
  | .lit (.string bytes) => bytes.length + 1
  | .lit _ => 1
  | .nil => 1
  | .ptr d => uptoBulk d + 1
  | .slice elems spare => uptoBulkAll elems + uptoBulkAll spare + 1
  | .agg parts => uptoBulkAll parts + 1
  | .iface _ d => uptoBulk d + 1
  | .map entries => uptoBulkEntries entries + 1
  | .held _ => 1
def uptoBulkAll {H : Type} : List (DataW H) → Nat
  | [] => 0
  | d :: r => uptoBulk d + uptoBulkAll r
def uptoBulkEntries {H : Type} : List (Lit × DataW H) → Nat
  | [] => 0
  | x :: r => uptoBulkEntry x + uptoBulkEntries r
def uptoBulkEntry {H : Type} : Lit × DataW H → Nat
  | (.string bytes, d) => bytes.length + uptoBulk d + 1
  | (_, d) => uptoBulk d + 1
 end
def uptoSmall : (H : Type) → List (DataW H) → Bool := fun _ ds => decide (uptoBulkAll ds ≤ 1048576)
def OpenSpec.upto (s : _root_.Go.ChangeSpec) : _root_.Go.OpenSpec := { _root_.Go.OpenSpec.ofChange s with cond := some uptoSmall }

/-- 'lychgatelaw.ChansTells', WHERE WHAT IT READS IS OF BULK AT MOST 1048576: true; the input reads as it did. -/
def chansTellsUptoRow : OpenClaim := { program := "ytpikadbljhfoiaa", sum := "978d0613cbd219809d66981c909acd21bbcb2df9ac62117ea35e5797c1f94d27", func := "lychgate/lychgatelaw.ChansTells", spec := "chansTells", apart := false, narrowed := true }
def ChansTellsUptoSaid : Prop := chansTellsUptoRow.holds Try.pinned (OpenSpec.upto chansTellsSpec)

/-- 'lychgatelaw.ChansTrue', WHERE WHAT IT READS IS OF BULK AT MOST 1048576: true; the input reads as it did. -/
def chansTrueUptoRow : OpenClaim := { program := "ytpikadbljhfoiaa", sum := "978d0613cbd219809d66981c909acd21bbcb2df9ac62117ea35e5797c1f94d27", func := "lychgate/lychgatelaw.ChansTrue", spec := "chansTrue", apart := false, narrowed := true }
def ChansTrueUptoSaid : Prop := chansTrueUptoRow.holds Try.pinned (OpenSpec.upto chansTrueSpec)

end Rows
end Go.Proofs.Ytpikadbljhfoiaa

/- A world in which the listed package-level variable lies as the program's text lays it: the witness that the rows' conditions are met by some input. -/
import Derived.Test.YtbmocfgkocncpaaDoorRows
import Derived.WideWitness
import Derived.LaidLaws
import Derived.KernelRfl
namespace Go.Proofs.YtbmocfgkocncpaaDoor
set_option linter.unusedSimpArgs false
set_option linter.unusedVariables false

def laidW (P : Program) (os : Os) : World :=
  let w0 := World.holding P os ⟨#[], #[], []⟩
  let put := fun (h : Array Obj) (g : Nat) (cs : Array Value) => h.modify g fun
      | .cells _ t frozen => .cells cs t frozen
      | o => o
  { w0 with heap := put w0.heap 0 #[.string ⟨#[]⟩, .bool false, .bool false, .bool false, .int .i64 0, .int .i64 0, .string ⟨#[115, 101, 116]⟩, .bool true, .bool false, .bool true, .int .i64 (-9223372036854775808), .int .i64 9223372036854775807, .string ⟨#[99, 111, 112, 121]⟩, .bool true, .bool true, .bool false, .int .i64 0, .int .i64 0, .string ⟨#[97, 100, 100]⟩, .bool true, .bool true, .bool false, .int .i64 0, .int .i64 0, .string ⟨#[115, 117, 98]⟩, .bool true, .bool true, .bool false, .int .i64 0, .int .i64 0, .string ⟨#[108, 101, 115, 115]⟩, .bool true, .bool true, .bool false, .int .i64 0, .int .i64 0, .string ⟨#[108, 111, 97, 100]⟩, .bool true, .bool true, .bool false, .int .i64 0, .int .i64 0, .string ⟨#[115, 97, 118, 101]⟩, .bool true, .bool true, .bool false, .int .i64 0, .int .i64 0, .string ⟨#[106, 117, 109, 112]⟩, .bool false, .bool false, .bool true, .int .i64 0, .int .i64 19, .string ⟨#[122, 101, 114, 111]⟩, .bool true, .bool false, .bool true, .int .i64 0, .int .i64 19, .string ⟨#[105, 110]⟩, .bool true, .bool false, .bool false, .int .i64 0, .int .i64 0, .string ⟨#[111, 117, 116]⟩, .bool true, .bool false, .bool false, .int .i64 0, .int .i64 0, .string ⟨#[112, 117, 116]⟩, .bool true, .bool false, .bool true, .int .i64 0, .int .i64 5, .string ⟨#[103, 101, 116]⟩, .bool true, .bool true, .bool true, .int .i64 0, .int .i64 5, .string ⟨#[114, 101, 115, 116]⟩, .bool false, .bool false, .bool false, .int .i64 0, .int .i64 0, .string ⟨#[115, 116, 111, 112]⟩, .bool false, .bool false, .bool false, .int .i64 0, .int .i64 0] }
end Go.Proofs.YtbmocfgkocncpaaDoor

/- What stays of the package-level variables (the table isa.shapes alone), for the seat over cells. -/
import Derived.Test.YtbmocfgkocncpaaDoorCW2
import Derived.Test.YtbmocfgkocncpaaDoorCMem
import Derived.WalkSmall
import Derived.Sort.Grow
namespace Go.Proofs.YtbmocfgkocncpaaDoor
set_option linter.unusedSimpArgs false
set_option linter.unusedVariables false
open Go.RowKit Go.Sort

structure Env (w : World) : Prop where
  shp : Shp w
theorem Env.up {w w' : World} (h : Env w) (hb : Below w.heap.size w w') : Env w' := ⟨h.shp.up hb⟩
def in64 (n : Int) : Prop := -9223372036854775808 ≤ n ∧ n ≤ 9223372036854775807
theorem chk_v (op a b n c : Int) (w : World) (he : Env w) (hc : chkI op a b n = c) : Calls Tryd.prog 35 #[.agg #[.int .i64 op, .int .i64 a, .int .i64 b, .int .i64 n]] w fun e w' => e = .returned (.int .i64 c) ∧ Below w.heap.size w w' := hc ▸ chk_any op a b n w he.shp
end Go.Proofs.YtbmocfgkocncpaaDoor

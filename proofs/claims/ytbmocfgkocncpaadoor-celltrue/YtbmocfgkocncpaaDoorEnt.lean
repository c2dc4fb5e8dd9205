/- A call of a function enters it. -/
import Derived.Test.YtbmocfgkocncpaaDoorProg
import Derived.Test.YtbmocfgkocncpaaDoorCBase
import Derived.Deep.RegionLaw
namespace Go.Proofs.YtbmocfgkocncpaaDoor
set_option linter.unusedSimpArgs false
set_option linter.unusedVariables false
open Go.RowKit Go.Sort

/-- A function value's call enters its function. -/
def Enters (f : Nat) : Prop := ∀ args w, Sem.run Tryd.prog (callFunc f args) w = .ok (.enter f args) w
theorem enters {f : Nat} {fn : Func} (hf : Tryd.prog.funcs[f]? = some fn) (hn : (fn.name == "runtime.NumGoroutine") = false) (hb : fn.body.isNone = false) : Enters f := by
  intro args w
  have hn' : ¬ fn.name = "runtime.NumGoroutine" := by simpa using hn
  have hb' : ¬ fn.body = none := fun e => by rw [e] at hb; cases hb
  simp [callFunc, go_sem, hf, hn', hb']

end Go.Proofs.YtbmocfgkocncpaaDoor

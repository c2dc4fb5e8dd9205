/- A call of a function, as one step of a region that draws its order. -/
import Derived.Test.YtbmocfgkocncpaaDoorEnt
import Derived.Deep.RegionLaw
namespace Go.Proofs.YtbmocfgkocncpaaDoor
set_option linter.unusedSimpArgs false
set_option linter.unusedVariables false
open Go.RowKit Go.Sort

theorem step_call {ops : Array Oper} {o : Oper} {a : Act} {w : World} {K : Act → World → Prop} {Q : Exit → Act → World → Prop} {E : Prop} (hgd : o.guard = none) (f : Nat) (args : Array Operand) (tys : Array TypeId)
    (ho : o.op = .call { callee := .value (.func f), args := args, argTypes := tys }) (hen : Enters f) (vs : Array Value) (hvs : args.map a.eval = vs) (h : Calls Tryd.prog f vs w fun e w' => ∃ v, e = .returned v ∧ K (a.put o.dst v) w') :
    if Region.wanted o (yielded ops a.tmps) = true then Oper.wp Tryd.prog o a w K Q else E := by
  have hw : Region.wanted o (yielded ops a.tmps) = true := by simp [Region.wanted, hgd]
  rw [if_pos hw]
  unfold Oper.wp
  subst hvs
  unfold Enters at hen
  simp [execOp, ho, resolve, invoke, hen, Result.andThen, go_sem]
  refine h.mono ?_
  rintro e w' ⟨v, rfl, hk⟩
  exact hk
theorem wp_call {o : Oper} {a : Act} {w : World} {K : Act → World → Prop} {Q : Exit → Act → World → Prop} (f : Nat) (args : Array Operand) (tys : Array TypeId)
    (ho : o.op = .call { callee := .value (.func f), args := args, argTypes := tys }) (hen : Enters f) (vs : Array Value) (hvs : args.map a.eval = vs) (h : Calls Tryd.prog f vs w fun e w' => ∃ v, e = .returned v ∧ K (a.put o.dst v) w') : Oper.wp Tryd.prog o a w K Q := by
  unfold Oper.wp
  subst hvs
  unfold Enters at hen
  simp [execOp, ho, resolve, invoke, hen, Result.andThen, go_sem]
  refine h.mono ?_
  rintro e w' ⟨v, rfl, hk⟩
  exact hk
theorem wp_call_panic {o : Oper} {a : Act} {w : World} {K : Act → World → Prop} {Q : Exit → Act → World → Prop} (f : Nat) (args : Array Operand) (tys : Array TypeId)
    (ho : o.op = .call { callee := .value (.func f), args := args, argTypes := tys }) (hen : Enters f) (vs : Array Value) (hvs : args.map a.eval = vs) (chain : List PanicEntry) (h : Calls Tryd.prog f vs w fun e w' => e = .panicked chain ∧ Q (.panic chain) a w') : Oper.wp Tryd.prog o a w K Q := by
  unfold Oper.wp
  subst hvs
  unfold Enters at hen
  simp [execOp, ho, resolve, invoke, hen, Result.andThen, go_sem]
  refine h.mono ?_
  rintro e w' ⟨rfl, hk⟩
  exact hk
/-- A call that comes back or panics. -/
theorem wp_call_or {o : Oper} {a : Act} {w : World} {K : Act → World → Prop} {Q : Exit → Act → World → Prop} (f : Nat) (args : Array Operand) (tys : Array TypeId)
    (ho : o.op = .call { callee := .value (.func f), args := args, argTypes := tys }) (hen : Enters f) (vs : Array Value) (hvs : args.map a.eval = vs) (chain : List PanicEntry) (h : Calls Tryd.prog f vs w fun e w' => (∃ v, e = .returned v ∧ K (a.put o.dst v) w') ∨ (e = .panicked chain ∧ Q (.panic chain) a w')) : Oper.wp Tryd.prog o a w K Q := by
  unfold Oper.wp
  subst hvs
  unfold Enters at hen
  simp [execOp, ho, resolve, invoke, hen, Result.andThen, go_sem]
  refine h.mono ?_
  rintro e w' (⟨v, rfl, hk⟩ | ⟨rfl, hk⟩)
  · exact hk
  · exact hk
end Go.Proofs.YtbmocfgkocncpaaDoor

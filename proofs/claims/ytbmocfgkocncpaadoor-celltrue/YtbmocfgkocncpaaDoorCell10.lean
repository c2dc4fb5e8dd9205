/- A runner's step: what panics is recovered. -/
import Derived.Test.YtbmocfgkocncpaaDoorCell9
import Derived.Defers
import Derived.Recover
namespace Go.Proofs.YtbmocfgkocncpaaDoor
set_option linter.unusedSimpArgs false
set_option linter.unusedVariables false
open Go.RowKit Go.Sort

theorem catch_panicking (V : World) (gb g : Nat) (v : Int) (u : TypeId) (pv : Value) (older : List PanicEntry) (hp : V.cell? ⟨gb, 0, none⟩ = some (.pointer (some ⟨g, 0, none⟩))) (hc : V.cell? ⟨g, 15, none⟩ = some (.int .i64 v)) (hz : V.frozen? ⟨g, 15, none⟩ = false) :
    CallsD Tryd.prog 30 #[.pointer (some ⟨gb, 0, none⟩)] (.panicking ({ v := .iface u pv, recovered := false } :: older)) V fun e u' V' =>
      e = .returned (.tuple #[]) ∧ u' = .panicking ({ v := .iface u pv, recovered := true } :: older) ∧ V' = V.setCell ⟨g, 15, none⟩ (.int .i64 2) := by
  refine callsD_of_wpS Tryd.func30 rfl fun c₀ cs hu => ?_
  apply wpS_seq
  apply wpS_region
  simp [wpOpsS, go_sem, recoverD, hu, Tryd.ntmps30, Exit.thenS]
  refine wpS_cond (t := true) (by simp [Act.eval, Array.replicate]) ?_
  simp only [if_true]
  apply wpS_region
  simp [wpOpsS, go_sem, hp, hc, hz, bodyPostS, results, Tryd.results30]

theorem catch_idle (V : World) (gb : Nat) :
    CallsD Tryd.prog 30 #[.pointer (some ⟨gb, 0, none⟩)] .returning V fun e u' V' => e = .returned (.tuple #[]) ∧ u' = .returning ∧ V' = V := by
  refine callsD_of_wpS Tryd.func30 rfl fun c₀ cs hu => ?_
  apply wpS_seq
  apply wpS_region
  simp [wpOpsS, go_sem, recoverD, hu, Tryd.ntmps30, Exit.thenS]
  refine wpS_cond (t := false) (by simp [Act.eval, Array.replicate]) ?_
  simp only [Bool.false_eq_true, if_false]
  refine wpS_of_wp (wp_skip ?_)
  cases c₀
  simp_all [bodyPostS, results, Tryd.results30]
end Go.Proofs.YtbmocfgkocncpaaDoor

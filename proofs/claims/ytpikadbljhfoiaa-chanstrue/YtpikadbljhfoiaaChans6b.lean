/- Channels: the reference's GetOf of a queue of one. -/
import Derived.Test.YtpikadbljhfoiaaChans6
namespace Go.Proofs.Ytpikadbljhfoiaa
set_option linter.unusedSimpArgs false
set_option linter.unusedVariables false
open Go.RowKit Go.Sort

set_option maxHeartbeats 4000000 in
theorem getRef_last (x : Int) (v : Value) (w : World) (hS : Sl w 1 v 1 (ints [x])) :
    Calls Try.prog 9 #[.int .i64 2, .agg #[v]] w fun e w' => ∃ v', e = .returned (.tuple #[.agg #[v'], .int .i64 x, .bool true]) ∧ SlN w w' v' 0 (ints []) ∧ Below w.heap.size w w' := by
  obtain ⟨b, off, cap, rfl, hcap, hbw, hcs⟩ := hS.open (by omega)
  have x0 : w.cell? ⟨b, off, none⟩ = some (.int .i64 x) := hcs 0 _ rfl
  have hb1 : b ≠ w.heap.size + 1 := by omega
  have hb2 : b ≠ w.heap.size := by omega
  clear hS hcs
  have main : ∀ cap, 1 ≤ cap → ((cap = 1) ∨ ¬ cap = 1) → Calls Try.prog 9 #[.int .i64 2, .agg #[.slice (some ⟨b, off, none⟩) 1 cap]] w fun e w' => ∃ v', e = .returned (.tuple #[.agg #[v'], .int .i64 x, .bool true]) ∧ SlN w w' v' 0 (ints []) ∧ Below w.heap.size w w' := by
    intro cap hcap hor
    have xA : ((w.alloc (.cells #[.slice (some ⟨b, off, none⟩) 1 cap] 24)).alloc (.cells #[.slice none 0 0] 24)).cell? ⟨b, off, none⟩ = some (.int .i64 x) := cl_alloc _ (by simp; omega) (cl_alloc _ hbw x0)
    have xB : (((w.alloc (.cells #[.slice (some ⟨b, off, none⟩) 1 cap] 24)).alloc (.cells #[.slice none 0 0] 24)).alloc (.cells #[] 3)).cell? ⟨b, off, none⟩ = some (.int .i64 x) := cl_alloc _ (by simp; omega) xA
    have kB : (((w.alloc (.cells #[.slice (some ⟨b, off, none⟩) 1 cap] 24)).alloc (.cells #[.slice none 0 0] 24)).alloc (.cells #[] 3)).cell? ⟨w.heap.size, 0, none⟩ = some (.slice (some ⟨b, off, none⟩) 1 cap) := cl_alloc _ (by simp; omega) (cl_alloc _ (by simp) (by simp))
    have zB : (((w.alloc (.cells #[.slice (some ⟨b, off, none⟩) 1 cap] 24)).alloc (.cells #[.slice none 0 0] 24)).alloc (.cells #[] 3)).cell? ⟨w.heap.size + 1, 0, none⟩ = some (.slice none 0 0) := cl_alloc _ (by simp) (by simp)
    have yB : (((w.alloc (.cells #[.slice (some ⟨b, off, none⟩) 1 cap] 24)).alloc (.cells #[.slice none 0 0] 24)).alloc (.cells #[] 3)).frozen? ⟨w.heap.size + 1, 0, none⟩ = false := fr_alloc _ (by simp) (by simp)
    have xC : (((w.alloc (.cells #[.slice (some ⟨b, off, none⟩) 1 cap] 24)).alloc (.cells #[.slice (some ⟨w.heap.size + 2, 0, none⟩) 0 0] 24)).alloc (.cells #[] 3)).cell? ⟨b, off, none⟩ = some (.int .i64 x) := cl_alloc _ (by simp; omega) (cl_alloc _ (by simp; omega) (cl_alloc _ hbw x0))
    have kC : (((w.alloc (.cells #[.slice (some ⟨b, off, none⟩) 1 cap] 24)).alloc (.cells #[.slice (some ⟨w.heap.size + 2, 0, none⟩) 0 0] 24)).alloc (.cells #[] 3)).cell? ⟨w.heap.size, 0, none⟩ = some (.slice (some ⟨b, off, none⟩) 1 cap) := cl_alloc _ (by simp; omega) (cl_alloc _ (by simp) (by simp))
    have xD : (((w.alloc (.cells #[.slice (some ⟨b, off, none⟩) 1 cap] 24)).alloc (.cells #[.slice (some ⟨w.heap.size + 1 + 1, 0, none⟩) 0 0] 24)).alloc (.cells #[] 3)).cell? ⟨b, off, none⟩ = some (.int .i64 x) := cl_alloc _ (by simp; omega) (cl_alloc _ (by simp; omega) (cl_alloc _ hbw x0))
    have kD : (((w.alloc (.cells #[.slice (some ⟨b, off, none⟩) 1 cap] 24)).alloc (.cells #[.slice (some ⟨w.heap.size + 1 + 1, 0, none⟩) 0 0] 24)).alloc (.cells #[] 3)).cell? ⟨w.heap.size, 0, none⟩ = some (.slice (some ⟨b, off, none⟩) 1 cap) := cl_alloc _ (by simp; omega) (cl_alloc _ (by simp) (by simp))
    rcases hor with hc1 | hc1
    · subst hc1
      go_enter Try.func9, Try.ntmps9
      go_wp2
      go_region
      all_goals go_wp2
      all_goals
        refine bodyPost_ret (v := .tuple #[.agg #[.slice (some ⟨w.heap.size + 2, 0, none⟩) 0 0], .int .i64 x, .bool true]) ?_ rfl ⟨_, rfl, ⟨⟨rfl, _, _, rfl, Nat.le_refl _, fun h => by omega⟩, fun k hk => by simp [Value.ownBlock] at hk; omega⟩, ?_⟩
        · simp [results, Try.results9, go_sem, *]
        · exact (by repeat (first | exact Below.refl _ _ | assumption | refine Below.drew ?_ | refine Below.alloc ?_ (by first | (simp; done) | (simp; omega)) _ | refine Below.setCell ?_ (by first | (simp; done) | (simp; omega)) _))
    · go_enter Try.func9, Try.ntmps9
      go_wp2
      go_region
      all_goals go_wp2
      all_goals
        refine bodyPost_ret (v := .tuple #[.agg #[.slice (some ⟨w.heap.size + 2, 0, none⟩) 0 0], .int .i64 x, .bool true]) ?_ rfl ⟨_, rfl, ⟨⟨rfl, _, _, rfl, Nat.le_refl _, fun h => by omega⟩, fun k hk => by simp [Value.ownBlock] at hk; omega⟩, ?_⟩
        · simp [results, Try.results9, go_sem, *]
        · exact (by repeat (first | exact Below.refl _ _ | assumption | refine Below.drew ?_ | refine Below.alloc ?_ (by first | (simp; done) | (simp; omega)) _ | refine Below.setCell ?_ (by first | (simp; done) | (simp; omega)) _))
  exact main cap hcap (Decidable.em _)
end Go.Proofs.Ytpikadbljhfoiaa

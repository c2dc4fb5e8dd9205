/- Channels: a line of its own, Put. -/
import Derived.Test.YtpikadbljhfoiaaChans0
namespace Go.Proofs.Ytpikadbljhfoiaa
set_option linter.unusedSimpArgs false
set_option linter.unusedVariables false
open Go.RowKit Go.Sort

theorem info3 : (Try.prog.info? 3).map (fun i => (i.zero, i.size, i.bytes)) = some (some (.int .i64 0), 1, 8) := by kernel_rfl

set_option maxHeartbeats 1000000 in
theorem line_any (xs : List Int) (hx : xs.length ≤ 3) (v : Value) (w : World) (hS : Sl w 1 v xs.length (ints xs)) :
    Calls Try.prog 14 #[v] w fun e w' => ∃ v', e = .returned (.agg #[v']) ∧ w'.ownsRow (w.heap.size + 1) 3 1 v' xs.length (ints xs) ∧ Below w.heap.size w w' := by
  obtain ⟨i0, hi, hz0, hz1, hz2⟩ := info_parts info3
  by_cases h0 : xs.length = 0
  · obtain ⟨ao, cap, rfl⟩ := hS.form
    rw [h0]
    have hxs : xs = [] := List.length_eq_zero_iff.1 h0
    subst hxs
    clear hS h0 hx
    go_enter Try.func14, Try.ntmps14
    cases ao
    all_goals
      go_wp2
      refine bodyPost_ret (v := .agg #[.slice none 0 0]) ?_ rfl ⟨_, rfl, World.ownsRow_nil _ _ _ _, (by repeat (first | exact Below.refl _ _ | assumption | refine Below.drew ?_ | refine Below.alloc ?_ (by first | (simp; done) | (simp; omega)) _ | refine Below.setCell ?_ (by first | (simp; done) | (simp; omega)) _))⟩
      simp [results, Try.results14, go_sem]
  · obtain ⟨b, off, cap, rfl, hcap, hbw, hc⟩ := hS.open (by omega)
    have HCC := Lib.hid hc
    clear hS hc
    go_enter Try.func14, Try.ntmps14
    go_wp2_with (at_builtin; refine wpList_append_lies _ rfl (.const (.slice none 0 0)) (.tmp 3) 22 rfl (w.heap.size + 1) 3 i0 (.int .i64 0) 1 8 Try.underlying22 hi hz0 hz1 hz2 rfl (by decide) (.slice none 0 0) 0 [] rfl (World.ownsRow_nil _ _ _ _) ⟨b, off, none⟩ xs.length cap (ints xs) rfl (by simp [ints]) (fun j u hj => ?_) (ints_cell xs) (by omega) (by unfold maxLen; omega) (by omega) (by simp) _ rfl ?_)
    · have hadd : (⟨b, off, none⟩ : Addr).add j = ⟨b, off + j, none⟩ := by
        unfold Addr.add
        by_cases h0 : j = 0 <;> simp [h0]
      rw [hadd]
      exact cl_alloc _ hbw (HCC.out j u hj)
    intro g cap1 w3 hown hgrow hat hglt
    have hu : Below w.heap.size w w3 := ((by repeat (first | exact Below.refl _ _ | assumption | refine Below.drew ?_ | refine Below.alloc ?_ (by first | (simp; done) | (simp; omega)) _ | refine Below.setCell ?_ (by first | (simp; done) | (simp; omega)) _)) : Below w.heap.size w _).grown hgrow (by simp) (fun k hk => by cases hk)
    have z0 : w3.cell? ⟨w.heap.size, 0, none⟩ = some (.slice none 0 0) := (hgrow.cell_far ⟨w.heap.size, 0, none⟩ (by simp) (by simp [Value.ownBlock])).trans (by simp)
    have y0 : w3.frozen? ⟨w.heap.size, 0, none⟩ = false := (hgrow.frozen_far ⟨w.heap.size, 0, none⟩ (by simp) (by simp [Value.ownBlock])).trans (by simp)
    have hown2 : w3.ownsRow (w.heap.size + 1) 3 1 (.slice (some ⟨g, 0, none⟩) xs.length cap1) xs.length (ints xs) := by simpa using hown
    have HO := Lib.hid hown2
    clear hown hown2 hgrow hat HCC
    go_wp2
    refine bodyPost_ret (v := .agg #[.slice (some ⟨g, 0, none⟩) xs.length cap1]) ?_ rfl ⟨_, rfl, ownsRow_setCell_below HO.out (by simp) _, hu.setCell (by simp) _⟩
    simp [results, Try.results14, go_sem, *]
end Go.Proofs.Ytpikadbljhfoiaa

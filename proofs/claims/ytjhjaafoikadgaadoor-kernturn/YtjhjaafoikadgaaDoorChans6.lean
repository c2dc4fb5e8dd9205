/- Channels: the reference's PutOf into an empty queue, GetOf. -/
import Derived.Test.YtjhjaafoikadgaaDoorChans5
import Derived.Deep.RegionLaw
namespace Go.Proofs.YtjhjaafoikadgaaDoor
set_option linter.unusedSimpArgs false
set_option linter.unusedVariables false
open Go.RowKit Go.Sort

set_option maxHeartbeats 2000000 in
theorem putRef_first (ao : Option Addr) (cap : Nat) (val : Int) (w : World) :
    Calls Tryd.prog 40 #[.int .i64 2, .agg #[.slice ao 0 cap], .int .i64 val] w fun e w' => ∃ v', e = .returned (.tuple #[.agg #[v'], .bool true]) ∧ SlN w w' v' 1 (ints [val]) ∧ Below w.heap.size w w' := by
  obtain ⟨i0, hi, hz0, hz1, hz2⟩ := info_parts infoLn3
  go_enter Tryd.func40, Tryd.ntmps40
  cases ao
  all_goals
    go_wp2_with (at_builtin; refine wpList_append_lies _ rfl (.tmp 25) (.tmp 27) 52 rfl (w.heap.size + 2) 3 i0 (.int .i64 0) 1 8 Tryd.underlying52 hi hz0 hz1 hz2 rfl (by decide) (.slice (some ⟨w.heap.size + 2, 0, none⟩) 0 0) 0 (ints []) rfl ((lit_at _ _ _ (by simp) (by simp)).alloc _) ⟨_, 0, none⟩ 1 1 [.int .i64 val] rfl rfl (one_at _ _ 3 _ (by simp)) (int_cellL _) (by decide) (by unfold maxLen; omega) (by omega) (by simp; try omega) _ rfl ?_)
    intro g' cap2 w4 hown hgrow hat hglt'
    have u4 : Below w.heap.size w w4 := ((by repeat (first | exact Below.refl _ _ | assumption | refine Below.drew ?_ | refine Below.alloc ?_ (by first | (simp; done) | (simp; omega)) _ | refine Below.setCell ?_ (by first | (simp; done) | (simp; omega)) _)) : Below w.heap.size w _).grown hgrow (by simp; omega) (fun k hk => by simp [Value.ownBlock] at hk; omega)
    have z2 : w4.cell? ⟨w.heap.size + 1, 0, none⟩ = some (.slice none 0 0) := (hgrow.cell_far ⟨w.heap.size + 1, 0, none⟩ (by simp; try omega) (by simp [Value.ownBlock])).trans (cl_alloc _ (by simp; try omega) (cl_alloc _ (by simp) (by simp)))
    have y2 : w4.frozen? ⟨w.heap.size + 1, 0, none⟩ = false := (hgrow.frozen_far ⟨w.heap.size + 1, 0, none⟩ (by simp; try omega) (by simp [Value.ownBlock])).trans (fr_alloc _ (by simp; try omega) (fr_alloc _ (by simp) (by simp)))
    have hown2 : w4.ownsRow (w.heap.size + 2) 3 1 (.slice (some ⟨g', 0, none⟩) 1 cap2) 1 (ints [val]) := by simpa [ints] using hown
    have HV := Lib.hid hown2
    clear hown hown2 hgrow hat
    go_wp2
    refine bodyPost_ret (v := .tuple #[.agg #[.slice (some ⟨g', 0, none⟩) 1 cap2], .bool true]) ?_ rfl ⟨_, rfl, own_sln (by omega) (ownsRow_setCell_below HV.out (by simp) _), u4.setCell (by simp) _⟩
    simp [results, Tryd.results40, go_sem, *]

set_option maxHeartbeats 1000000 in
theorem getRef_none (kind : Int) (ao : Option Addr) (cap : Nat) (w : World) :
    Calls Tryd.prog 41 #[.int .i64 kind, .agg #[.slice ao 0 cap]] w fun e w' => e = .returned (.tuple #[.agg #[.slice none 0 0], .int .i64 0, .bool false]) ∧ Below w.heap.size w w' := by
  go_enter Tryd.func41, Tryd.ntmps41
  go_wp2
  refine bodyPost_ret (v := .tuple #[.agg #[.slice none 0 0], .int .i64 0, .bool false]) ?_ rfl ⟨rfl, (by repeat (first | exact Below.refl _ _ | assumption | refine Below.drew ?_ | refine Below.alloc ?_ (by first | (simp; done) | (simp; omega)) _ | refine Below.setCell ?_ (by first | (simp; done) | (simp; omega)) _))⟩
  simp [results, Tryd.results41, go_sem, *]

set_option maxRecDepth 100000 in
set_option maxHeartbeats 4000000 in
theorem getRef_sample (x : Int) (v : Value) (w : World) (hS : Sl w 1 v 1 (ints [x])) :
    Calls Tryd.prog 41 #[.int .i64 1, .agg #[v]] w fun e w' => ∃ v', e = .returned (.tuple #[.agg #[v'], .int .i64 x, .bool true]) ∧ SlN w w' v' 1 (ints [x]) ∧ Below w.heap.size w w' := by
  obtain ⟨i0, hi, hz0, hz1, hz2⟩ := info_parts infoLn3
  obtain ⟨b, off, cap, rfl, hcap, hbw, hcs⟩ := hS.open (by omega)
  have x0 : w.cell? ⟨b, off, none⟩ = some (.int .i64 x) := hcs 0 _ rfl
  have hb1 : b ≠ w.heap.size + 1 := by omega
  have hb2 : b ≠ w.heap.size := by omega
  have xA : ((w.alloc (.cells #[.slice (some ⟨b, off, none⟩) 1 cap] 59)).alloc (.cells #[.slice none 0 0] 59)).cell? ⟨b, off, none⟩ = some (.int .i64 x) := cl_alloc _ (by simp; omega) (cl_alloc _ hbw x0)
  have xB : (((w.alloc (.cells #[.slice (some ⟨b, off, none⟩) 1 cap] 59)).alloc (.cells #[.slice none 0 0] 59)).alloc (.cells #[] 3)).cell? ⟨b, off, none⟩ = some (.int .i64 x) := cl_alloc _ (by simp; omega) xA
  have HC := Lib.hid hcs
  clear hS hcs
  go_enter Tryd.func41, Tryd.ntmps41
  go_wp2
  go_region_law (refine step_append_lies _ rfl (.tmp 15) (.tmp 19) 52 rfl (w.heap.size + 2) 3 i0 (.int .i64 0) 1 8 Tryd.underlying52 hi hz0 hz1 hz2 rfl (by decide) (.slice (some ⟨w.heap.size + 2, 0, none⟩) 0 0) 0 (ints []) (by simp [Act.eval, Act.put]) (lit_at _ _ _ (by simp) (by simp)) ⟨b, off, none⟩ 1 cap (ints [x]) (by simp [Act.eval, Act.put]) (by simp [ints]) (sl_src fun j u hj => cl_alloc _ (by simp; omega) (cl_alloc (w := w.alloc (.cells #[.slice (some ⟨b, off, none⟩) 1 cap] 59)) _ (by simp; omega) (cl_alloc _ hbw (HC.out j u hj)))) (ints_cell _) (by omega) (by unfold maxLen; omega) (by omega) (by simp) _ rfl ?_; intro g cap1 w3 hown hgrow hat hglt; have u3 : Below w.heap.size w w3 := (by repeat (first | exact Below.refl _ _ | refine Below.drew ?_ | refine Below.alloc ?_ (by first | (simp; done) | (simp; omega)) _) : Below w.heap.size w _).grown hgrow (by simp; omega) (fun k hk => by simp [Value.ownBlock] at hk; omega); have k3 : w3.cell? ⟨w.heap.size, 0, none⟩ = some (.slice (some ⟨b, off, none⟩) 1 cap) := (hgrow.cell_far ⟨w.heap.size, 0, none⟩ (by simp; omega) (by simp [Value.ownBlock])).trans (cl_alloc _ (by simp; omega) (cl_alloc (w := w.alloc _) _ (by simp) (by simp))); have x3 : w3.cell? ⟨b, off, none⟩ = some (.int .i64 x) := bcl u3 hbw x0; have z3 : w3.cell? ⟨w.heap.size + 1, 0, none⟩ = some (.slice none 0 0) := (hgrow.cell_far ⟨w.heap.size + 1, 0, none⟩ (by simp) (by simp [Value.ownBlock])).trans (cl_alloc _ (by simp) (by simp)); have y3 : w3.frozen? ⟨w.heap.size + 1, 0, none⟩ = false := (hgrow.frozen_far ⟨w.heap.size + 1, 0, none⟩ (by simp) (by simp [Value.ownBlock])).trans (fr_alloc _ (by simp) (by simp)); have HW0 : w3.ownsRow (w.heap.size + 2) 3 1 (.slice (some ⟨g, 0, none⟩) 1 cap1) 1 (ints [x]) := (by simpa [ints] using hown); have HW := Lib.hid HW0; clear HW0; clear hown hgrow hat)
  all_goals go_wp2
  all_goals
    refine bodyPost_ret (v := .tuple #[.agg #[.slice (some ⟨g, 0, none⟩) 1 cap1], .int .i64 x, .bool true]) ?_ rfl ⟨_, rfl, own_sln (by omega) (ownsRow_setCell_below HW.out (by simp) _), u3.setCell (by simp) _⟩
    simp [results, Tryd.results41, go_sem, *]

set_option maxRecDepth 100000 in
set_option maxHeartbeats 4000000 in
theorem getRef_queue (x : Int) (r : List Int) (hr : r.length ≤ 2) (hr0 : 0 < r.length) (v : Value) (w : World) (hS : Sl w 1 v (r.length + 1) (ints (x :: r))) :
    Calls Tryd.prog 41 #[.int .i64 2, .agg #[v]] w fun e w' => ∃ v', e = .returned (.tuple #[.agg #[v'], .int .i64 x, .bool true]) ∧ SlN w w' v' r.length (ints r) ∧ Below w.heap.size w w' := by
  obtain ⟨i0, hi, hz0, hz1, hz2⟩ := info_parts infoLn3
  obtain ⟨b, off, cap, rfl, hcap, hbw, hcs⟩ := hS.open (by omega)
  have x0 : w.cell? ⟨b, off, none⟩ = some (.int .i64 x) := hcs 0 _ rfl
  have hb1 : b ≠ w.heap.size + 1 := by omega
  have hb2 : b ≠ w.heap.size := by omega
  have xA : ((w.alloc (.cells #[.slice (some ⟨b, off, none⟩) (r.length + 1) cap] 59)).alloc (.cells #[.slice none 0 0] 59)).cell? ⟨b, off, none⟩ = some (.int .i64 x) := cl_alloc _ (by simp; omega) (cl_alloc _ hbw x0)
  have xB : (((w.alloc (.cells #[.slice (some ⟨b, off, none⟩) (r.length + 1) cap] 59)).alloc (.cells #[.slice none 0 0] 59)).alloc (.cells #[] 3)).cell? ⟨b, off, none⟩ = some (.int .i64 x) := cl_alloc _ (by simp; omega) xA
  have HC : Hid (∀ j u, (ints r)[j]? = some u → w.cell? ⟨b, off + 1 + j, none⟩ = some u) := fun j u hj => by
    have := hcs (j + 1) u (by simpa [ints] using hj)
    rw [show off + 1 + j = off + (j + 1) by omega]
    exact this
  have hc1 : (cap == 1) = false := by simp; omega
  have hc2 : ¬ cap = 1 := by omega
  have hq1 : (1 : Int) ≤ r.length + 1 := by omega
  clear hS hcs
  go_enter Tryd.func41, Tryd.ntmps41
  go_wp2
  go_region_law (refine step_append_lies _ rfl (.tmp 15) (.tmp 19) 52 rfl (w.heap.size + 2) 3 i0 (.int .i64 0) 1 8 Tryd.underlying52 hi hz0 hz1 hz2 rfl (by decide) (.slice (some ⟨w.heap.size + 2, 0, none⟩) 0 0) 0 (ints []) (by simp [Act.eval, Act.put]) (lit_at _ _ _ (by simp) (by simp)) ⟨b, off + 1, none⟩ r.length (cap - 1) (ints r) (by simp [Act.eval, Act.put]) (by simp [ints]) (sl_src fun j u hj => cl_alloc _ (by simp; omega) (cl_alloc (w := w.alloc (.cells #[.slice (some ⟨b, off, none⟩) (r.length + 1) cap] 59)) _ (by simp; omega) (cl_alloc _ hbw (HC.out j u hj)))) (ints_cell _) (by omega) (by unfold maxLen; omega) (by omega) (by simp) _ rfl ?_; intro g cap1 w3 hown hgrow hat hglt; have u3 : Below w.heap.size w w3 := (by repeat (first | exact Below.refl _ _ | refine Below.drew ?_ | refine Below.alloc ?_ (by first | (simp; done) | (simp; omega)) _) : Below w.heap.size w _).grown hgrow (by simp; omega) (fun k hk => by simp [Value.ownBlock] at hk; omega); have k3 : w3.cell? ⟨w.heap.size, 0, none⟩ = some (.slice (some ⟨b, off, none⟩) (r.length + 1) cap) := (hgrow.cell_far ⟨w.heap.size, 0, none⟩ (by simp; omega) (by simp [Value.ownBlock])).trans (cl_alloc _ (by simp; omega) (cl_alloc (w := w.alloc _) _ (by simp) (by simp))); have x3 : w3.cell? ⟨b, off, none⟩ = some (.int .i64 x) := bcl u3 hbw x0; have z3 : w3.cell? ⟨w.heap.size + 1, 0, none⟩ = some (.slice none 0 0) := (hgrow.cell_far ⟨w.heap.size + 1, 0, none⟩ (by simp) (by simp [Value.ownBlock])).trans (cl_alloc _ (by simp) (by simp)); have y3 : w3.frozen? ⟨w.heap.size + 1, 0, none⟩ = false := (hgrow.frozen_far ⟨w.heap.size + 1, 0, none⟩ (by simp) (by simp [Value.ownBlock])).trans (fr_alloc _ (by simp) (by simp)); have HW0 : w3.ownsRow (w.heap.size + 2) 3 1 (.slice (some ⟨g, 0, none⟩) r.length cap1) r.length (ints r) := (by simpa [ints] using hown); have HW := Lib.hid HW0; clear HW0; clear hown hgrow hat)
  all_goals go_wp2
  all_goals
    refine bodyPost_ret (v := .tuple #[.agg #[.slice (some ⟨g, 0, none⟩) r.length cap1], .int .i64 x, .bool true]) ?_ rfl ⟨_, rfl, own_sln (by omega) (ownsRow_setCell_below HW.out (by simp) _), u3.setCell (by simp) _⟩
    simp [results, Tryd.results41, go_sem, *]

end Go.Proofs.YtjhjaafoikadgaaDoor

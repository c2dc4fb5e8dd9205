/- Channels: the reference's PutOf into an empty queue, GetOf. -/
import Derived.Test.YtehhhiodfcdnmaaGreatDoorR9
import Derived.Deep.RegionLaw
namespace Go.Proofs.YtehhhiodfcdnmaaGreatDoor
set_option linter.unusedSimpArgs false
set_option linter.unusedVariables false
set_option maxRecDepth 100000
set_option maxHeartbeats 4000000
open Go.RowKit Go.Sort
theorem putRef_first (ao : Option Addr) (cap : Nat) (val : Int) (w : World) :
  Calls Tryz.prog 70 #[.int .i64 2, .agg #[.slice ao 0 cap], .int .i64 val] w fun e w' => ∃ v', e = .returned (.tuple #[.agg #[v'], .bool true]) ∧ SlN w w' v' 1 (ints [val]) ∧ Below w.heap.size w w' := by
 obtain ⟨i0, hi, hz0, hz1, hz2⟩ := info_parts infoLn3
 go_enter Tryz.func70, Tryz.ntmps70
 cases ao
 all_goals
  go_wp2_with (at_builtin; refine wpList_append_lies _ rfl (.tmp 25) (.tmp 27) 33 rfl (w.heap.size + 2) 3 i0 (.int .i64 0) 1 8 Tryz.underlying33 hi hz0 hz1 hz2 rfl (by decide) (.slice (some ⟨w.heap.size + 2, 0, none⟩) 0 0) 0 (ints []) rfl ((lit_at _ _ _ (by simp) (by simp)).alloc _) ⟨_, 0, none⟩ 1 1 [.int .i64 val] rfl rfl (one_at _ _ 3 _ (by simp)) (int_cellL _) (by decide) (by unfold maxLen; omega) om (by simp; try omega) _ rfl ?_)
  intro g' cap2 w4 hown hgrow hat hglt'
  have u4 : Below w.heap.size w w4 := (up0 : Below w.heap.size w _).grown hgrow so (fun k hk => by simp [Value.ownBlock] at hk; omega)
  have z2 : w4.cell? ⟨w.heap.size + 1, 0, none⟩ = some (.slice none 0 0) := (hgrow.cell_far ⟨w.heap.size + 1, 0, none⟩ (by simp; try omega) (by simp [Value.ownBlock])).trans (cl_alloc _ (by simp; try omega) (cl_alloc _ (by simp) (by simp)))
  have y2 : w4.frozen? ⟨w.heap.size + 1, 0, none⟩ = false := (hgrow.frozen_far ⟨w.heap.size + 1, 0, none⟩ (by simp; try omega) (by simp [Value.ownBlock])).trans (fr_alloc _ (by simp; try omega) (fr_alloc _ (by simp) (by simp)))
  have hown2 : w4.ownsRow (w.heap.size + 2) 3 1 (.slice (some ⟨g', 0, none⟩) 1 cap2) 1 (ints [val]) := by simpa [ints] using hown
  have HV := hd hown2
  clear hown hown2 hgrow hat
  go_wp2
  refine bodyPost_ret (v := .tuple #[.agg #[.slice (some ⟨g', 0, none⟩) 1 cap2], .bool true]) ?_ rfl ⟨_, rfl, own_sln om (ownsRow_setCell_below HV.out (by simp) _), u4.setCell (by simp) _⟩
  simp [results, Tryz.results70, go_sem, *]
theorem getRef_none (kind : Int) (ao : Option Addr) (cap : Nat) (w : World) :
  Calls Tryz.prog 71 #[.int .i64 kind, .agg #[.slice ao 0 cap]] w fun e w' => e = .returned (.tuple #[.agg #[.slice none 0 0], .int .i64 0, .bool false]) ∧ Below w.heap.size w w' := by
 go_enter Tryz.func71, Tryz.ntmps71
 go_wp2
 refine bodyPost_ret (v := .tuple #[.agg #[.slice none 0 0], .int .i64 0, .bool false]) ?_ rfl ⟨rfl, up0⟩
 simp [results, Tryz.results71, go_sem, *]
theorem getRef_sample (x : Int) (v : Value) (w : World) (hS : Sl w 1 v 1 (ints [x])) :
  Calls Tryz.prog 71 #[.int .i64 1, .agg #[v]] w fun e w' => ∃ v', e = .returned (.tuple #[.agg #[v'], .int .i64 x, .bool true]) ∧ SlN w w' v' 1 (ints [x]) ∧ Below w.heap.size w w' := by
 obtain ⟨i0, hi, hz0, hz1, hz2⟩ := info_parts infoLn3
 obtain ⟨b, off, cap, rfl, hcap, hbw, hcs⟩ := hS.open om
 have x0 : w.cell? ⟨b, off, none⟩ = some (.int .i64 x) := hcs 0 _ rfl
 have hb1 : b ≠ w.heap.size + 1 := by omega
 have hb2 : b ≠ w.heap.size := by omega
 have xA : ((w.alloc (.cells #[.slice (some ⟨b, off, none⟩) 1 cap] 81)).alloc (.cells #[.slice none 0 0] 81)).cell? ⟨b, off, none⟩ = some (.int .i64 x) := cl_alloc _ so (cl_alloc _ hbw x0)
 have xB : (((w.alloc (.cells #[.slice (some ⟨b, off, none⟩) 1 cap] 81)).alloc (.cells #[.slice none 0 0] 81)).alloc (.cells #[] 3)).cell? ⟨b, off, none⟩ = some (.int .i64 x) := cl_alloc _ so xA
 have HC := hd hcs
 clear hS hcs
 go_enter Tryz.func71, Tryz.ntmps71
 go_wp2
 go_region_law (refine step_append_lies _ rfl (.tmp 15) (.tmp 19) 33 rfl (w.heap.size + 2) 3 i0 (.int .i64 0) 1 8 Tryz.underlying33 hi hz0 hz1 hz2 rfl (by decide) (.slice (some ⟨w.heap.size + 2, 0, none⟩) 0 0) 0 (ints []) (by simp [Act.eval, Act.put]) (lit_at _ _ _ (by simp) (by simp)) ⟨b, off, none⟩ 1 cap (ints [x]) (by simp [Act.eval, Act.put]) (by simp [ints]) (sl_src fun j u hj => cl_alloc _ so (cl_alloc (w := w.alloc (.cells #[.slice (some ⟨b, off, none⟩) 1 cap] 81)) _ so (cl_alloc _ hbw (HC.out j u hj)))) (ints_cell _) om (by unfold maxLen; omega) om (by simp) _ rfl ?_; intro g cap1 w3 hown hgrow hat hglt; have u3 : Below w.heap.size w w3 := (by repeat (first | exact Below.refl _ _ | refine Below.drew ?_ | refine Below.alloc ?_ (by first | (simp; done) | (simp; omega)) _) : Below w.heap.size w _).grown hgrow so (fun k hk => by simp [Value.ownBlock] at hk; omega); have k3 : w3.cell? ⟨w.heap.size, 0, none⟩ = some (.slice (some ⟨b, off, none⟩) 1 cap) := (hgrow.cell_far ⟨w.heap.size, 0, none⟩ so (by simp [Value.ownBlock])).trans (cl_alloc _ so (cl_alloc (w := w.alloc _) _ (by simp) (by simp))); have x3 : w3.cell? ⟨b, off, none⟩ = some (.int .i64 x) := bcl u3 hbw x0; have z3 : w3.cell? ⟨w.heap.size + 1, 0, none⟩ = some (.slice none 0 0) := (hgrow.cell_far ⟨w.heap.size + 1, 0, none⟩ (by simp) (by simp [Value.ownBlock])).trans (cl_alloc _ (by simp) (by simp)); have y3 : w3.frozen? ⟨w.heap.size + 1, 0, none⟩ = false := (hgrow.frozen_far ⟨w.heap.size + 1, 0, none⟩ (by simp) (by simp [Value.ownBlock])).trans (fr_alloc _ (by simp) (by simp)); have HW0 : w3.ownsRow (w.heap.size + 2) 3 1 (.slice (some ⟨g, 0, none⟩) 1 cap1) 1 (ints [x]) := (by simpa [ints] using hown); have HW := hd HW0; clear HW0; clear hown hgrow hat)
 all_goals go_wp2
 all_goals
  refine bodyPost_ret (v := .tuple #[.agg #[.slice (some ⟨g, 0, none⟩) 1 cap1], .int .i64 x, .bool true]) ?_ rfl ⟨_, rfl, own_sln om (ownsRow_setCell_below HW.out (by simp) _), u3.setCell (by simp) _⟩
  simp [results, Tryz.results71, go_sem, *]
theorem getRef_queue (x : Int) (r : List Int) (hr : r.length ≤ 2) (hr0 : 0 < r.length) (v : Value) (w : World) (hS : Sl w 1 v (r.length + 1) (ints (x :: r))) :
  Calls Tryz.prog 71 #[.int .i64 2, .agg #[v]] w fun e w' => ∃ v', e = .returned (.tuple #[.agg #[v'], .int .i64 x, .bool true]) ∧ SlN w w' v' r.length (ints r) ∧ Below w.heap.size w w' := by
 obtain ⟨i0, hi, hz0, hz1, hz2⟩ := info_parts infoLn3
 obtain ⟨b, off, cap, rfl, hcap, hbw, hcs⟩ := hS.open om
 have x0 : w.cell? ⟨b, off, none⟩ = some (.int .i64 x) := hcs 0 _ rfl
 have hb1 : b ≠ w.heap.size + 1 := by omega
 have hb2 : b ≠ w.heap.size := by omega
 have xA : ((w.alloc (.cells #[.slice (some ⟨b, off, none⟩) (r.length + 1) cap] 81)).alloc (.cells #[.slice none 0 0] 81)).cell? ⟨b, off, none⟩ = some (.int .i64 x) := cl_alloc _ so (cl_alloc _ hbw x0)
 have xB : (((w.alloc (.cells #[.slice (some ⟨b, off, none⟩) (r.length + 1) cap] 81)).alloc (.cells #[.slice none 0 0] 81)).alloc (.cells #[] 3)).cell? ⟨b, off, none⟩ = some (.int .i64 x) := cl_alloc _ so xA
 have HC : Hid (∀ j u, (ints r)[j]? = some u → w.cell? ⟨b, off + 1 + j, none⟩ = some u) := fun j u hj => by
  have := hcs (j + 1) u (by simpa [ints] using hj)
  rw [show off + 1 + j = off + (j + 1) by omega]
  exact this
 have hc1 : (cap == 1) = false := by simp; omega
 have hc2 : ¬ cap = 1 := by omega
 have hq1 : (1 : Int) ≤ r.length + 1 := by omega
 clear hS hcs
 go_enter Tryz.func71, Tryz.ntmps71
 go_wp2
 go_region_law (refine step_append_lies _ rfl (.tmp 15) (.tmp 19) 33 rfl (w.heap.size + 2) 3 i0 (.int .i64 0) 1 8 Tryz.underlying33 hi hz0 hz1 hz2 rfl (by decide) (.slice (some ⟨w.heap.size + 2, 0, none⟩) 0 0) 0 (ints []) (by simp [Act.eval, Act.put]) (lit_at _ _ _ (by simp) (by simp)) ⟨b, off + 1, none⟩ r.length (cap - 1) (ints r) (by simp [Act.eval, Act.put]) (by simp [ints]) (sl_src fun j u hj => cl_alloc _ so (cl_alloc (w := w.alloc (.cells #[.slice (some ⟨b, off, none⟩) (r.length + 1) cap] 81)) _ so (cl_alloc _ hbw (HC.out j u hj)))) (ints_cell _) om (by unfold maxLen; omega) om (by simp) _ rfl ?_; intro g cap1 w3 hown hgrow hat hglt; have u3 : Below w.heap.size w w3 := (by repeat (first | exact Below.refl _ _ | refine Below.drew ?_ | refine Below.alloc ?_ (by first | (simp; done) | (simp; omega)) _) : Below w.heap.size w _).grown hgrow so (fun k hk => by simp [Value.ownBlock] at hk; omega); have k3 : w3.cell? ⟨w.heap.size, 0, none⟩ = some (.slice (some ⟨b, off, none⟩) (r.length + 1) cap) := (hgrow.cell_far ⟨w.heap.size, 0, none⟩ so (by simp [Value.ownBlock])).trans (cl_alloc _ so (cl_alloc (w := w.alloc _) _ (by simp) (by simp))); have x3 : w3.cell? ⟨b, off, none⟩ = some (.int .i64 x) := bcl u3 hbw x0; have z3 : w3.cell? ⟨w.heap.size + 1, 0, none⟩ = some (.slice none 0 0) := (hgrow.cell_far ⟨w.heap.size + 1, 0, none⟩ (by simp) (by simp [Value.ownBlock])).trans (cl_alloc _ (by simp) (by simp)); have y3 : w3.frozen? ⟨w.heap.size + 1, 0, none⟩ = false := (hgrow.frozen_far ⟨w.heap.size + 1, 0, none⟩ (by simp) (by simp [Value.ownBlock])).trans (fr_alloc _ (by simp) (by simp)); have HW0 : w3.ownsRow (w.heap.size + 2) 3 1 (.slice (some ⟨g, 0, none⟩) r.length cap1) r.length (ints r) := (by simpa [ints] using hown); have HW := hd HW0; clear HW0; clear hown hgrow hat)
 all_goals go_wp2
 all_goals
  refine bodyPost_ret (v := .tuple #[.agg #[.slice (some ⟨g, 0, none⟩) r.length cap1], .int .i64 x, .bool true]) ?_ rfl ⟨_, rfl, own_sln om (ownsRow_setCell_below HW.out (by simp) _), u3.setCell (by simp) _⟩
  simp [results, Tryz.results71, go_sem, *]
theorem getRef_last (x : Int) (v : Value) (w : World) (hS : Sl w 1 v 1 (ints [x])) :
  Calls Tryz.prog 71 #[.int .i64 2, .agg #[v]] w fun e w' => ∃ v', e = .returned (.tuple #[.agg #[v'], .int .i64 x, .bool true]) ∧ SlN w w' v' 0 (ints []) ∧ Below w.heap.size w w' := by
 obtain ⟨b, off, cap, rfl, hcap, hbw, hcs⟩ := hS.open om
 have x0 : w.cell? ⟨b, off, none⟩ = some (.int .i64 x) := hcs 0 _ rfl
 have hb1 : b ≠ w.heap.size + 1 := by omega
 have hb2 : b ≠ w.heap.size := by omega
 clear hS hcs
 have main : ∀ cap, 1 ≤ cap → ((cap = 1) ∨ ¬ cap = 1) → Calls Tryz.prog 71 #[.int .i64 2, .agg #[.slice (some ⟨b, off, none⟩) 1 cap]] w fun e w' => ∃ v', e = .returned (.tuple #[.agg #[v'], .int .i64 x, .bool true]) ∧ SlN w w' v' 0 (ints []) ∧ Below w.heap.size w w' := by
  intro cap hcap hor
  have xA : ((w.alloc (.cells #[.slice (some ⟨b, off, none⟩) 1 cap] 81)).alloc (.cells #[.slice none 0 0] 81)).cell? ⟨b, off, none⟩ = some (.int .i64 x) := cl_alloc _ so (cl_alloc _ hbw x0)
  have xB : (((w.alloc (.cells #[.slice (some ⟨b, off, none⟩) 1 cap] 81)).alloc (.cells #[.slice none 0 0] 81)).alloc (.cells #[] 3)).cell? ⟨b, off, none⟩ = some (.int .i64 x) := cl_alloc _ so xA
  have kB : (((w.alloc (.cells #[.slice (some ⟨b, off, none⟩) 1 cap] 81)).alloc (.cells #[.slice none 0 0] 81)).alloc (.cells #[] 3)).cell? ⟨w.heap.size, 0, none⟩ = some (.slice (some ⟨b, off, none⟩) 1 cap) := cl_alloc _ so (cl_alloc _ (by simp) (by simp))
  have zB : (((w.alloc (.cells #[.slice (some ⟨b, off, none⟩) 1 cap] 81)).alloc (.cells #[.slice none 0 0] 81)).alloc (.cells #[] 3)).cell? ⟨w.heap.size + 1, 0, none⟩ = some (.slice none 0 0) := cl_alloc _ (by simp) (by simp)
  have yB : (((w.alloc (.cells #[.slice (some ⟨b, off, none⟩) 1 cap] 81)).alloc (.cells #[.slice none 0 0] 81)).alloc (.cells #[] 3)).frozen? ⟨w.heap.size + 1, 0, none⟩ = false := fr_alloc _ (by simp) (by simp)
  have xC : (((w.alloc (.cells #[.slice (some ⟨b, off, none⟩) 1 cap] 81)).alloc (.cells #[.slice (some ⟨w.heap.size + 2, 0, none⟩) 0 0] 81)).alloc (.cells #[] 3)).cell? ⟨b, off, none⟩ = some (.int .i64 x) := cl_alloc _ so (cl_alloc _ so (cl_alloc _ hbw x0))
  have kC : (((w.alloc (.cells #[.slice (some ⟨b, off, none⟩) 1 cap] 81)).alloc (.cells #[.slice (some ⟨w.heap.size + 2, 0, none⟩) 0 0] 81)).alloc (.cells #[] 3)).cell? ⟨w.heap.size, 0, none⟩ = some (.slice (some ⟨b, off, none⟩) 1 cap) := cl_alloc _ so (cl_alloc _ (by simp) (by simp))
  have xD : (((w.alloc (.cells #[.slice (some ⟨b, off, none⟩) 1 cap] 81)).alloc (.cells #[.slice (some ⟨w.heap.size + 1 + 1, 0, none⟩) 0 0] 81)).alloc (.cells #[] 3)).cell? ⟨b, off, none⟩ = some (.int .i64 x) := cl_alloc _ so (cl_alloc _ so (cl_alloc _ hbw x0))
  have kD : (((w.alloc (.cells #[.slice (some ⟨b, off, none⟩) 1 cap] 81)).alloc (.cells #[.slice (some ⟨w.heap.size + 1 + 1, 0, none⟩) 0 0] 81)).alloc (.cells #[] 3)).cell? ⟨w.heap.size, 0, none⟩ = some (.slice (some ⟨b, off, none⟩) 1 cap) := cl_alloc _ so (cl_alloc _ (by simp) (by simp))
  rcases hor with hc1 | hc1
  ·subst hc1
   go_enter Tryz.func71, Tryz.ntmps71
   go_wp2
   go_region
   all_goals go_wp2
   all_goals
    refine bodyPost_ret (v := .tuple #[.agg #[.slice (some ⟨w.heap.size + 2, 0, none⟩) 0 0], .int .i64 x, .bool true]) ?_ rfl ⟨_, rfl, ⟨⟨rfl, _, _, rfl, Nat.le_refl _, fun h => by omega⟩, fun k hk => by simp [Value.ownBlock] at hk; omega⟩, ?_⟩
    ·simp [results, Tryz.results71, go_sem, *]
    ·exact up0
  ·go_enter Tryz.func71, Tryz.ntmps71
   go_wp2
   go_region
   all_goals go_wp2
   all_goals
    refine bodyPost_ret (v := .tuple #[.agg #[.slice (some ⟨w.heap.size + 2, 0, none⟩) 0 0], .int .i64 x, .bool true]) ?_ rfl ⟨_, rfl, ⟨⟨rfl, _, _, rfl, Nat.le_refl _, fun h => by omega⟩, fun k hk => by simp [Value.ownBlock] at hk; omega⟩, ?_⟩
    ·simp [results, Tryz.results71, go_sem, *]
    ·exact up0
 exact main cap hcap (Decidable.em _)
def putR (kind : Int) (xs : List Int) (val : Int) : List Int × Bool := if chkL kind xs.length = 0 then putS kind xs val else ([], false)
def getR (kind : Int) (xs : List Int) : List Int × Int × Bool := if chkL kind xs.length = 0 then (match xs with | [] => ([], 0, false) | x :: r => (if kind = 1 then x :: r else r, x, true)) else ([], 0, false)
theorem put_c (kind : Int) (xs : List Int) (v : Value) (val : Int) (w : World) (hS : Sl w 1 v xs.length (ints xs)) (c : Int) (hc : chkL kind xs.length = c) (zs : List Int) (t : Bool) (hz : putR kind xs val = (zs, t)) :
  Calls Tryz.prog 142 #[.int .i64 kind, .agg #[v], .int .i64 val] w fun e w' => ∃ v', e = .returned (.tuple #[.agg #[v'], .bool t, .int .i64 c]) ∧ SlN w w' v' zs.length (ints zs) ∧ Below w.heap.size w w' := by
 unfold putR at hz
 by_cases h0 : c = 0
 ·rw [hc, if_pos h0] at hz
  subst h0
  rcases chkL_zero hc with ⟨rfl, hn⟩ | ⟨rfl, hn⟩
  ·unfold putS at hz
   rw [if_pos rfl] at hz
   cases hz
   obtain ⟨ao, cap, rfl⟩ := hS.form
   exact put_one xs ao cap val w hn
  ·unfold putS at hz
   rw [if_neg (by decide)] at hz
   by_cases h3 : xs.length = 3
   ·rw [if_pos h3] at hz
    cases hz
    exact put_full xs v val w h3 hS
   ·rw [if_neg h3] at hz
    cases hz
    exact put_room xs v val w om hS
 ·rw [hc, if_neg h0] at hz
  cases hz
  obtain ⟨ao, cap, rfl⟩ := hS.form
  refine (put_no kind ao xs.length cap val w c hc h0).mono ?_
  rintro e w' ⟨rfl, hb⟩
  exact ⟨_, rfl, sln_nil _ _, hb⟩
theorem get_c (kind : Int) (xs : List Int) (v : Value) (w : World) (hS : Sl w 1 v xs.length (ints xs)) (c : Int) (hc : chkL kind xs.length = c) (zs : List Int) (n : Int) (t : Bool) (hz : getR kind xs = (zs, n, t)) :
  Calls Tryz.prog 143 #[.int .i64 kind, .agg #[v]] w fun e w' => ∃ v', e = .returned (.tuple #[.agg #[v'], .int .i64 n, .bool t, .int .i64 c]) ∧ SlN w w' v' zs.length (ints zs) ∧ Below w.heap.size w w' := by
 unfold getR at hz
 by_cases h0 : c = 0
 ·rw [hc, if_pos h0] at hz
  subst h0
  have hk := chkL_zero hc
  cases xs with
  | nil =>
   cases hz
   obtain ⟨ao, cap, rfl⟩ := hS.form
   refine (get_none kind om ao cap w).mono ?_
   rintro e w' ⟨rfl, hb⟩
   exact ⟨_, rfl, sln_nil _ _, hb⟩
  | cons x r =>
   simp only [List.length_cons] at hk
   rcases hk with ⟨rfl, hn⟩ | ⟨rfl, hn⟩
   ·obtain rfl : r = [] := List.length_eq_zero_iff.1 om
    cases hz
    exact get_sample _ v w hS
   ·have hz : (r, x, true) = (zs, n, t) := hz
    cases hz
    exact get_queue _ _ om v w hS
 ·rw [hc, if_neg h0] at hz
  cases hz
  obtain ⟨ao, cap, rfl⟩ := hS.form
  refine (get_no kind ao xs.length cap w c hc h0).mono ?_
  rintro e w' ⟨rfl, hb⟩
  exact ⟨_, rfl, sln_nil _ _, hb⟩
theorem putRef_c (kind : Int) (xs : List Int) (v : Value) (val : Int) (w : World) (hS : Sl w 1 v xs.length (ints xs)) (hc : chkL kind xs.length = 0) (zs : List Int) (t : Bool) (hz : putR kind xs val = (zs, t)) :
  Calls Tryz.prog 70 #[.int .i64 kind, .agg #[v], .int .i64 val] w fun e w' => ∃ v', e = .returned (.tuple #[.agg #[v'], .bool t]) ∧ SlN w w' v' zs.length (ints zs) ∧ Below w.heap.size w w' := by
 unfold putR at hz
 rw [if_pos hc] at hz
 rcases chkL_zero hc with ⟨rfl, hn⟩ | ⟨rfl, hn⟩
 ·unfold putS at hz
  rw [if_pos rfl] at hz
  cases hz
  obtain ⟨ao, cap, rfl⟩ := hS.form
  exact putRef_one ao xs.length cap val w
 ·unfold putS at hz
  rw [if_neg (by decide)] at hz
  by_cases h3 : xs.length = 3
  ·rw [if_pos h3] at hz
   cases hz
   exact putRef_full xs v val w h3 hS
  ·rw [if_neg h3] at hz
   cases hz
   by_cases h1 : 0 < xs.length
   ·exact putRef_more xs v val w h1 om hS
   ·obtain rfl : xs = [] := List.length_eq_zero_iff.1 om
    obtain ⟨ao, cap, rfl⟩ := hS.form
    exact putRef_first ao cap val w
theorem getRef_c (kind : Int) (xs : List Int) (v : Value) (w : World) (hS : Sl w 1 v xs.length (ints xs)) (hc : chkL kind xs.length = 0) (zs : List Int) (n : Int) (t : Bool) (hz : getR kind xs = (zs, n, t)) :
  Calls Tryz.prog 71 #[.int .i64 kind, .agg #[v]] w fun e w' => ∃ v', e = .returned (.tuple #[.agg #[v'], .int .i64 n, .bool t]) ∧ SlN w w' v' zs.length (ints zs) ∧ Below w.heap.size w w' := by
 unfold getR at hz
 rw [if_pos hc] at hz
 have hk := chkL_zero hc
 cases xs with
 | nil =>
  cases hz
  obtain ⟨ao, cap, rfl⟩ := hS.form
  refine (getRef_none kind ao cap w).mono ?_
  rintro e w' ⟨rfl, hb⟩
  exact ⟨_, rfl, sln_nil _ _, hb⟩
 | cons x r =>
  simp only [List.length_cons] at hk
  rcases hk with ⟨rfl, hn⟩ | ⟨rfl, hn⟩
  ·obtain rfl : r = [] := List.length_eq_zero_iff.1 om
   cases hz
   exact getRef_sample _ v w hS
  ·have hz : (r, x, true) = (zs, n, t) := hz
   cases hz
   by_cases h1 : 0 < zs.length
   ·exact getRef_queue _ _ om h1 v w hS
   ·obtain rfl := List.length_eq_zero_iff.1 (show zs.length = 0 by omega)
    exact getRef_last _ v w hS
end Go.Proofs.YtehhhiodfcdnmaaGreatDoor

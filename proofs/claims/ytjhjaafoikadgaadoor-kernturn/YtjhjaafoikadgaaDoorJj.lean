/- Channels: the reference's GetOf of a queue of one. -/
import Derived.Test.YtjhjaafoikadgaaDoorChans6
namespace Go.Proofs.YtjhjaafoikadgaaDoor
set_option linter.unusedSimpArgs false
set_option linter.unusedVariables false
open Go.RowKit Go.Sort

set_option maxHeartbeats 4000000 in
theorem getRef_last (x : Int) (v : Value) (w : World) (hS : Sl w 1 v 1 (ints [x])) :
    Calls Tryd.prog 41 #[.int .i64 2, .agg #[v]] w fun e w' => ∃ v', e = .returned (.tuple #[.agg #[v'], .int .i64 x, .bool true]) ∧ SlN w w' v' 0 (ints []) ∧ Below w.heap.size w w' := by
  obtain ⟨b, off, cap, rfl, hcap, hbw, hcs⟩ := hS.open (by omega)
  have x0 : w.cell? ⟨b, off, none⟩ = some (.int .i64 x) := hcs 0 _ rfl
  have hb1 : b ≠ w.heap.size + 1 := by omega
  have hb2 : b ≠ w.heap.size := by omega
  clear hS hcs
  have main : ∀ cap, 1 ≤ cap → ((cap = 1) ∨ ¬ cap = 1) → Calls Tryd.prog 41 #[.int .i64 2, .agg #[.slice (some ⟨b, off, none⟩) 1 cap]] w fun e w' => ∃ v', e = .returned (.tuple #[.agg #[v'], .int .i64 x, .bool true]) ∧ SlN w w' v' 0 (ints []) ∧ Below w.heap.size w w' := by
    intro cap hcap hor
    have xA : ((w.alloc (.cells #[.slice (some ⟨b, off, none⟩) 1 cap] 59)).alloc (.cells #[.slice none 0 0] 59)).cell? ⟨b, off, none⟩ = some (.int .i64 x) := cl_alloc _ (by simp; omega) (cl_alloc _ hbw x0)
    have xB : (((w.alloc (.cells #[.slice (some ⟨b, off, none⟩) 1 cap] 59)).alloc (.cells #[.slice none 0 0] 59)).alloc (.cells #[] 3)).cell? ⟨b, off, none⟩ = some (.int .i64 x) := cl_alloc _ (by simp; omega) xA
    have kB : (((w.alloc (.cells #[.slice (some ⟨b, off, none⟩) 1 cap] 59)).alloc (.cells #[.slice none 0 0] 59)).alloc (.cells #[] 3)).cell? ⟨w.heap.size, 0, none⟩ = some (.slice (some ⟨b, off, none⟩) 1 cap) := cl_alloc _ (by simp; omega) (cl_alloc _ (by simp) (by simp))
    have zB : (((w.alloc (.cells #[.slice (some ⟨b, off, none⟩) 1 cap] 59)).alloc (.cells #[.slice none 0 0] 59)).alloc (.cells #[] 3)).cell? ⟨w.heap.size + 1, 0, none⟩ = some (.slice none 0 0) := cl_alloc _ (by simp) (by simp)
    have yB : (((w.alloc (.cells #[.slice (some ⟨b, off, none⟩) 1 cap] 59)).alloc (.cells #[.slice none 0 0] 59)).alloc (.cells #[] 3)).frozen? ⟨w.heap.size + 1, 0, none⟩ = false := fr_alloc _ (by simp) (by simp)
    have xC : (((w.alloc (.cells #[.slice (some ⟨b, off, none⟩) 1 cap] 59)).alloc (.cells #[.slice (some ⟨w.heap.size + 2, 0, none⟩) 0 0] 59)).alloc (.cells #[] 3)).cell? ⟨b, off, none⟩ = some (.int .i64 x) := cl_alloc _ (by simp; omega) (cl_alloc _ (by simp; omega) (cl_alloc _ hbw x0))
    have kC : (((w.alloc (.cells #[.slice (some ⟨b, off, none⟩) 1 cap] 59)).alloc (.cells #[.slice (some ⟨w.heap.size + 2, 0, none⟩) 0 0] 59)).alloc (.cells #[] 3)).cell? ⟨w.heap.size, 0, none⟩ = some (.slice (some ⟨b, off, none⟩) 1 cap) := cl_alloc _ (by simp; omega) (cl_alloc _ (by simp) (by simp))
    have xD : (((w.alloc (.cells #[.slice (some ⟨b, off, none⟩) 1 cap] 59)).alloc (.cells #[.slice (some ⟨w.heap.size + 1 + 1, 0, none⟩) 0 0] 59)).alloc (.cells #[] 3)).cell? ⟨b, off, none⟩ = some (.int .i64 x) := cl_alloc _ (by simp; omega) (cl_alloc _ (by simp; omega) (cl_alloc _ hbw x0))
    have kD : (((w.alloc (.cells #[.slice (some ⟨b, off, none⟩) 1 cap] 59)).alloc (.cells #[.slice (some ⟨w.heap.size + 1 + 1, 0, none⟩) 0 0] 59)).alloc (.cells #[] 3)).cell? ⟨w.heap.size, 0, none⟩ = some (.slice (some ⟨b, off, none⟩) 1 cap) := cl_alloc _ (by simp; omega) (cl_alloc _ (by simp) (by simp))
    rcases hor with hc1 | hc1
    · subst hc1
      go_enter Tryd.func41, Tryd.ntmps41
      go_wp2
      go_region
      all_goals go_wp2
      all_goals
        refine bodyPost_ret (v := .tuple #[.agg #[.slice (some ⟨w.heap.size + 2, 0, none⟩) 0 0], .int .i64 x, .bool true]) ?_ rfl ⟨_, rfl, ⟨⟨rfl, _, _, rfl, Nat.le_refl _, fun h => by omega⟩, fun k hk => by simp [Value.ownBlock] at hk; omega⟩, ?_⟩
        · simp [results, Tryd.results41, go_sem, *]
        · exact (by repeat (first | exact Below.refl _ _ | assumption | refine Below.drew ?_ | refine Below.alloc ?_ (by first | (simp; done) | (simp; omega)) _ | refine Below.setCell ?_ (by first | (simp; done) | (simp; omega)) _))
    · go_enter Tryd.func41, Tryd.ntmps41
      go_wp2
      go_region
      all_goals go_wp2
      all_goals
        refine bodyPost_ret (v := .tuple #[.agg #[.slice (some ⟨w.heap.size + 2, 0, none⟩) 0 0], .int .i64 x, .bool true]) ?_ rfl ⟨_, rfl, ⟨⟨rfl, _, _, rfl, Nat.le_refl _, fun h => by omega⟩, fun k hk => by simp [Value.ownBlock] at hk; omega⟩, ?_⟩
        · simp [results, Tryd.results41, go_sem, *]
        · exact (by repeat (first | exact Below.refl _ _ | assumption | refine Below.drew ?_ | refine Below.alloc ?_ (by first | (simp; done) | (simp; omega)) _ | refine Below.setCell ?_ (by first | (simp; done) | (simp; omega)) _))
  exact main cap hcap (Decidable.em _)
end Go.Proofs.YtjhjaafoikadgaaDoor

namespace Go.Proofs.YtjhjaafoikadgaaDoor
set_option linter.unusedSimpArgs false
set_option linter.unusedVariables false
open Go.RowKit Go.Sort

/-- What Put leaves, and whether it was taken. -/
def putR (kind : Int) (xs : List Int) (val : Int) : List Int × Bool := if chkL kind xs.length = 0 then putS kind xs val else ([], false)
/-- What Get leaves, tells, and whether there was one. -/
def getR (kind : Int) (xs : List Int) : List Int × Int × Bool := if chkL kind xs.length = 0 then (match xs with | [] => ([], 0, false) | x :: r => (if kind = 1 then x :: r else r, x, true)) else ([], 0, false)

theorem put_c (kind : Int) (xs : List Int) (v : Value) (val : Int) (w : World) (hS : Sl w 1 v xs.length (ints xs)) (c : Int) (hc : chkL kind xs.length = c) (zs : List Int) (t : Bool) (hz : putR kind xs val = (zs, t)) :
    Calls Tryd.prog 87 #[.int .i64 kind, .agg #[v], .int .i64 val] w fun e w' => ∃ v', e = .returned (.tuple #[.agg #[v'], .bool t, .int .i64 c]) ∧ SlN w w' v' zs.length (ints zs) ∧ Below w.heap.size w w' := by
  unfold putR at hz
  by_cases h0 : c = 0
  · rw [hc, if_pos h0] at hz
    subst h0
    rcases chkL_zero hc with ⟨rfl, hn⟩ | ⟨rfl, hn⟩
    · unfold putS at hz
      rw [if_pos rfl] at hz
      cases hz
      obtain ⟨ao, cap, rfl⟩ := hS.form
      exact put_one xs ao cap val w hn
    · unfold putS at hz
      rw [if_neg (by decide)] at hz
      by_cases h3 : xs.length = 3
      · rw [if_pos h3] at hz
        cases hz
        exact put_full xs v val w h3 hS
      · rw [if_neg h3] at hz
        cases hz
        exact put_room xs v val w (by omega) hS
  · rw [hc, if_neg h0] at hz
    cases hz
    obtain ⟨ao, cap, rfl⟩ := hS.form
    refine (put_no kind ao xs.length cap val w c hc h0).mono ?_
    rintro e w' ⟨rfl, hb⟩
    exact ⟨_, rfl, sln_nil _ _, hb⟩

theorem get_c (kind : Int) (xs : List Int) (v : Value) (w : World) (hS : Sl w 1 v xs.length (ints xs)) (c : Int) (hc : chkL kind xs.length = c) (zs : List Int) (n : Int) (t : Bool) (hz : getR kind xs = (zs, n, t)) :
    Calls Tryd.prog 88 #[.int .i64 kind, .agg #[v]] w fun e w' => ∃ v', e = .returned (.tuple #[.agg #[v'], .int .i64 n, .bool t, .int .i64 c]) ∧ SlN w w' v' zs.length (ints zs) ∧ Below w.heap.size w w' := by
  unfold getR at hz
  by_cases h0 : c = 0
  · rw [hc, if_pos h0] at hz
    subst h0
    have hk := chkL_zero hc
    cases xs with
    | nil =>
      cases hz
      obtain ⟨ao, cap, rfl⟩ := hS.form
      refine (get_none kind (by omega) ao cap w).mono ?_
      rintro e w' ⟨rfl, hb⟩
      exact ⟨_, rfl, sln_nil _ _, hb⟩
    | cons x r =>
      simp only [List.length_cons] at hk
      rcases hk with ⟨rfl, hn⟩ | ⟨rfl, hn⟩
      · obtain rfl : r = [] := List.length_eq_zero_iff.1 (by omega)
        cases hz
        exact get_sample _ v w hS
      · have hz : (r, x, true) = (zs, n, t) := hz
        cases hz
        exact get_queue _ _ (by omega) v w hS
  · rw [hc, if_neg h0] at hz
    cases hz
    obtain ⟨ao, cap, rfl⟩ := hS.form
    refine (get_no kind ao xs.length cap w c hc h0).mono ?_
    rintro e w' ⟨rfl, hb⟩
    exact ⟨_, rfl, sln_nil _ _, hb⟩

theorem putRef_c (kind : Int) (xs : List Int) (v : Value) (val : Int) (w : World) (hS : Sl w 1 v xs.length (ints xs)) (hc : chkL kind xs.length = 0) (zs : List Int) (t : Bool) (hz : putR kind xs val = (zs, t)) :
    Calls Tryd.prog 40 #[.int .i64 kind, .agg #[v], .int .i64 val] w fun e w' => ∃ v', e = .returned (.tuple #[.agg #[v'], .bool t]) ∧ SlN w w' v' zs.length (ints zs) ∧ Below w.heap.size w w' := by
  unfold putR at hz
  rw [if_pos hc] at hz
  rcases chkL_zero hc with ⟨rfl, hn⟩ | ⟨rfl, hn⟩
  · unfold putS at hz
    rw [if_pos rfl] at hz
    cases hz
    obtain ⟨ao, cap, rfl⟩ := hS.form
    exact putRef_one ao xs.length cap val w
  · unfold putS at hz
    rw [if_neg (by decide)] at hz
    by_cases h3 : xs.length = 3
    · rw [if_pos h3] at hz
      cases hz
      exact putRef_full xs v val w h3 hS
    · rw [if_neg h3] at hz
      cases hz
      by_cases h1 : 0 < xs.length
      · exact putRef_more xs v val w h1 (by omega) hS
      · obtain rfl : xs = [] := List.length_eq_zero_iff.1 (by omega)
        obtain ⟨ao, cap, rfl⟩ := hS.form
        exact putRef_first ao cap val w

theorem getRef_c (kind : Int) (xs : List Int) (v : Value) (w : World) (hS : Sl w 1 v xs.length (ints xs)) (hc : chkL kind xs.length = 0) (zs : List Int) (n : Int) (t : Bool) (hz : getR kind xs = (zs, n, t)) :
    Calls Tryd.prog 41 #[.int .i64 kind, .agg #[v]] w fun e w' => ∃ v', e = .returned (.tuple #[.agg #[v'], .int .i64 n, .bool t]) ∧ SlN w w' v' zs.length (ints zs) ∧ Below w.heap.size w w' := by
  unfold getR at hz
  rw [if_pos hc] at hz
  have hk := chkL_zero hc
  cases xs with
  | nil =>
    cases hz
    obtain ⟨ao, cap, rfl⟩ := hS.form
    refine (getRef_none kind ao cap w).mono ?_
    rintro e w' ⟨rfl, hb⟩
    exact ⟨_, rfl, sln_nil _ _, hb⟩
  | cons x r =>
    simp only [List.length_cons] at hk
    rcases hk with ⟨rfl, hn⟩ | ⟨rfl, hn⟩
    · obtain rfl : r = [] := List.length_eq_zero_iff.1 (by omega)
      cases hz
      exact getRef_sample _ v w hS
    · have hz : (r, x, true) = (zs, n, t) := hz
      cases hz
      by_cases h1 : 0 < zs.length
      · exact getRef_queue _ _ (by omega) h1 v w hS
      · obtain rfl := List.length_eq_zero_iff.1 (show zs.length = 0 by omega)
        exact getRef_last _ v w hS

end Go.Proofs.YtjhjaafoikadgaaDoor

/- Channels: Get. -/
import Derived.Test.YtjhjaafoikadgaaDoorJi
import Derived.Deep.RegionWith
import Derived.Deep.DrawnRows
namespace Go.Proofs.YtjhjaafoikadgaaDoor
set_option linter.unusedSimpArgs false
set_option linter.unusedVariables false
open Go.RowKit Go.Sort

set_option maxHeartbeats 1000000 in
theorem get_no (kind : Int) (ao : Option Addr) (n cap : Nat) (w : World) (c : Int) (hc : chkL kind n = c) (h0 : c ≠ 0) :
    Calls Tryd.prog 88 #[.int .i64 kind, .agg #[.slice ao n cap]] w fun e w' => e = .returned (.tuple #[.agg #[.slice none 0 0], .int .i64 0, .bool false, .int .i64 c]) ∧ Below w.heap.size w w' := by
  have h0' : (c != 0) = true := by simpa using h0
  clear h0
  go_enter Tryd.func88, Tryd.ntmps88
  go_wp2_with fail
  refine (chkLine_any kind ao n cap _ c hc).mono ?_
  rintro e w1 ⟨rfl, b1⟩
  have u1 : Below w.heap.size w w1 := Below.trans (by repeat (first | exact Below.refl _ _ | assumption | refine Below.drew ?_ | refine Below.alloc ?_ (by first | (simp; done) | (simp; omega)) _ | refine Below.setCell ?_ (by first | (simp; done) | (simp; omega)) _)) (b1.mono (by simp; omega))
  have z0 : w1.cell? ⟨w.heap.size + 1, 0, none⟩ = some (.slice none 0 0) := bcl b1 (by simp) (by simp)
  have y0 : w1.frozen? ⟨w.heap.size + 1, 0, none⟩ = false := bfr b1 (by simp) (by simp)
  clear b1
  go_wp2
  refine bodyPost_ret (v := .tuple #[.agg #[.slice none 0 0], .int .i64 0, .bool false, .int .i64 c]) ?_ rfl ⟨rfl, (by repeat (first | exact Below.refl _ _ | assumption | refine Below.drew ?_ | refine Below.alloc ?_ (by first | (simp; done) | (simp; omega)) _ | refine Below.setCell ?_ (by first | (simp; done) | (simp; omega)) _))⟩
  simp [results, Tryd.results88, go_sem, *]

set_option maxHeartbeats 1000000 in
theorem get_none (kind : Int) (hk : kind = 1 ∨ kind = 2) (ao : Option Addr) (cap : Nat) (w : World) :
    Calls Tryd.prog 88 #[.int .i64 kind, .agg #[.slice ao 0 cap]] w fun e w' => e = .returned (.tuple #[.agg #[.slice none 0 0], .int .i64 0, .bool false, .int .i64 0]) ∧ Below w.heap.size w w' := by
  have hc : chkL kind 0 = 0 := by rcases hk with rfl | rfl <;> rfl
  go_enter Tryd.func88, Tryd.ntmps88
  go_wp2_with fail
  refine (chkLine_any kind ao 0 cap _ 0 hc).mono ?_
  rintro e w1 ⟨rfl, b1⟩
  have u1 : Below w.heap.size w w1 := Below.trans (by repeat (first | exact Below.refl _ _ | assumption | refine Below.drew ?_ | refine Below.alloc ?_ (by first | (simp; done) | (simp; omega)) _ | refine Below.setCell ?_ (by first | (simp; done) | (simp; omega)) _)) (b1.mono (by simp; omega))
  have k0 : w1.cell? ⟨w.heap.size, 0, none⟩ = some (.slice ao 0 cap) := bcl b1 (by simp; omega) (cl_alloc _ (by simp) (by simp))
  have z0 : w1.cell? ⟨w.heap.size + 1, 0, none⟩ = some (.slice none 0 0) := bcl b1 (by simp) (by simp)
  have y0 : w1.frozen? ⟨w.heap.size + 1, 0, none⟩ = false := bfr b1 (by simp) (by simp)
  clear b1
  go_wp2
  refine bodyPost_ret (v := .tuple #[.agg #[.slice none 0 0], .int .i64 0, .bool false, .int .i64 0]) ?_ rfl ⟨rfl, (by repeat (first | exact Below.refl _ _ | assumption | refine Below.drew ?_ | refine Below.alloc ?_ (by first | (simp; done) | (simp; omega)) _ | refine Below.setCell ?_ (by first | (simp; done) | (simp; omega)) _))⟩
  simp [results, Tryd.results88, go_sem, *]

/-- What stays behind a Get. -/
def stay (kind : Int) (xs : List Int) : List Int := if kind = 2 then xs.tail else xs

set_option maxHeartbeats 4000000 in
theorem get_sample (x : Int) (v : Value) (w : World) (hS : Sl w 1 v 1 (ints [x])) :
    Calls Tryd.prog 88 #[.int .i64 1, .agg #[v]] w fun e w' => ∃ v', e = .returned (.tuple #[.agg #[v'], .int .i64 x, .bool true, .int .i64 0]) ∧ SlN w w' v' 1 (ints [x]) ∧ Below w.heap.size w w' := by
  obtain ⟨b, off, cap, rfl, hcap, hbw, hcs⟩ := hS.open (by omega)
  have HS := Lib.hid hS
  have HX := Lib.hid (hcs 0 (.int .i64 x) rfl)
  clear hS hcs
  go_enter Tryd.func88, Tryd.ntmps88
  go_wp2_with fail
  refine (chkLine_any 1 _ 1 cap _ 0 rfl).mono ?_
  rintro e w1 ⟨rfl, b1⟩
  have u1 : Below w.heap.size w w1 := Below.trans (by repeat (first | exact Below.refl _ _ | assumption | refine Below.drew ?_ | refine Below.alloc ?_ (by first | (simp; done) | (simp; omega)) _ | refine Below.setCell ?_ (by first | (simp; done) | (simp; omega)) _)) (b1.mono (by simp; omega))
  have s1 : w.heap.size + 2 ≤ w1.heap.size := by have := b1.size; simp at this; omega
  have k0 : w1.cell? ⟨w.heap.size, 0, none⟩ = some (.slice (some ⟨b, off, none⟩) 1 cap) := bcl b1 (by simp; omega) (cl_alloc _ (by simp) (by simp))
  have z0 : w1.cell? ⟨w.heap.size + 1, 0, none⟩ = some (.slice none 0 0) := bcl b1 (by simp) (by simp)
  have y0 : w1.frozen? ⟨w.heap.size + 1, 0, none⟩ = false := bfr b1 (by simp) (by simp)
  have x0 : w1.cell? ⟨b, off, none⟩ = some (.int .i64 x) := bcl u1 hbw HX.out
  have hb1 : b ≠ w.heap.size + 1 := by omega
  clear b1
  go_wp2
  go_region_with (go_at_call 97; refine (line_any [x] (by simp) _ _ (Sl.up HS.out (by first | exact u1 | exact u1.drew))).mono ?_; rintro e w2 ⟨v', rfl, o2, b2⟩; have u2 : Below w.heap.size w w2 := Below.trans (by first | exact u1 | exact u1.drew) (b2.mono (by simp; omega)); have k0 : w2.cell? ⟨w.heap.size, 0, none⟩ = some (.slice (some ⟨b, off, none⟩) 1 cap) := bcl b2 (by simp; omega) (by simpa using k0); have z0 : w2.cell? ⟨w.heap.size + 1, 0, none⟩ = some (.slice none 0 0) := bcl b2 (by simp; omega) (by simpa using z0); have y0 : w2.frozen? ⟨w.heap.size + 1, 0, none⟩ = false := bfr b2 (by simp; omega) (by simpa using y0); have x0 : w2.cell? ⟨b, off, none⟩ = some (.int .i64 x) := bcl u2 hbw HX.out; obtain ⟨a2, c2, rfl⟩ := own_form o2; have HO : Hid (w2.ownsRow (w.heap.size + 2) 3 1 (.slice a2 1 c2) 1 (ints [x])) := own_low o2 (by simp; omega); clear b2 o2)
  all_goals go_wp2
  all_goals
    refine bodyPost_ret (v := .tuple #[.agg #[.slice a2 1 c2], .int .i64 x, .bool true, .int .i64 0]) ?_ rfl ⟨_, rfl, own_sln (by omega) (ownsRow_setCell_below HO.out (by simp) _), u2.setCell (by simp) _⟩
    simp [results, Tryd.results88, go_sem, *]

theorem sl_tail {w : World} {b off cap : Nat} {x : Int} {r : List Int} (hbw : b < w.heap.size) (hcap : r.length + 1 ≤ cap) (hcs : ∀ j u, (ints (x :: r))[j]? = some u → w.cell? ⟨b, off + j, none⟩ = some u) :
    Sl w 1 (.slice (some ⟨b, off + 1, none⟩) r.length (cap - 1)) r.length (ints r) := by
  refine ⟨by simp [ints], _, _, rfl, by omega, fun _ => ⟨b, off + 1, rfl, hbw, fun j u hj => ?_⟩⟩
  have := hcs (j + 1) u (by simpa [ints] using hj)
  rw [show off + 1 + j = off + (j + 1) by omega]
  exact this

set_option maxHeartbeats 4000000 in
theorem get_queue (x : Int) (r : List Int) (hr : r.length ≤ 2) (v : Value) (w : World) (hS : Sl w 1 v (r.length + 1) (ints (x :: r))) :
    Calls Tryd.prog 88 #[.int .i64 2, .agg #[v]] w fun e w' => ∃ v', e = .returned (.tuple #[.agg #[v'], .int .i64 x, .bool true, .int .i64 0]) ∧ SlN w w' v' r.length (ints r) ∧ Below w.heap.size w w' := by
  obtain ⟨b, off, cap, rfl, hcap, hbw, hcs⟩ := hS.open (by omega)
  by_cases hc1 : cap = 1
  · subst hc1
    obtain rfl : r = [] := List.length_eq_zero_iff.1 (by omega)
    have HS : Hid (Sl w 1 (.slice (some ⟨b, off, none⟩) 0 0) 0 (ints [])) := ⟨rfl, _, _, rfl, Nat.le_refl _, fun h => by omega⟩
    have HX := Lib.hid (hcs 0 (.int .i64 x) rfl)
    clear hS hcs hcap
    go_enter Tryd.func88, Tryd.ntmps88
    go_wp2_with fail
    refine (chkLine_any 2 _ 1 1 _ 0 rfl).mono ?_
    rintro e w1 ⟨rfl, b1⟩
    have u1 : Below w.heap.size w w1 := Below.trans (by repeat (first | exact Below.refl _ _ | assumption | refine Below.drew ?_ | refine Below.alloc ?_ (by first | (simp; done) | (simp; omega)) _ | refine Below.setCell ?_ (by first | (simp; done) | (simp; omega)) _)) (b1.mono (by simp; omega))
    have s1 : w.heap.size + 2 ≤ w1.heap.size := by have := b1.size; simp at this; omega
    have k0 : w1.cell? ⟨w.heap.size, 0, none⟩ = some (.slice (some ⟨b, off, none⟩) 1 1) := bcl b1 (by simp; omega) (cl_alloc _ (by simp) (by simp))
    have z0 : w1.cell? ⟨w.heap.size + 1, 0, none⟩ = some (.slice none 0 0) := bcl b1 (by simp) (by simp)
    have y0 : w1.frozen? ⟨w.heap.size + 1, 0, none⟩ = false := bfr b1 (by simp) (by simp)
    have x0 : w1.cell? ⟨b, off, none⟩ = some (.int .i64 x) := bcl u1 hbw HX.out
    have hb1 : b ≠ w.heap.size + 1 := by omega
    clear b1
    go_wp2
    go_region_with (go_at_call 97; refine (line_any [] (by simp) _ _ (Sl.up HS.out (by first | exact u1 | exact u1.drew))).mono ?_; rintro e w2 ⟨v', rfl, o2, b2⟩; have u2 : Below w.heap.size w w2 := Below.trans (by first | exact u1 | exact u1.drew) (b2.mono (by simp; omega)); have k0 : w2.cell? ⟨w.heap.size, 0, none⟩ = some (.slice (some ⟨b, off, none⟩) 1 1) := bcl b2 (by simp; omega) (by simpa using k0); have z0 : w2.cell? ⟨w.heap.size + 1, 0, none⟩ = some (.slice none 0 0) := bcl b2 (by simp; omega) (by simpa using z0); have y0 : w2.frozen? ⟨w.heap.size + 1, 0, none⟩ = false := bfr b2 (by simp; omega) (by simpa using y0); have x0 : w2.cell? ⟨b, off, none⟩ = some (.int .i64 x) := bcl u2 hbw HX.out; obtain ⟨a2, c2, rfl⟩ := own_form o2; have HO : Hid (w2.ownsRow (w.heap.size + 2) 3 1 (.slice a2 0 c2) 0 (ints [])) := own_low o2 (by simp; omega); clear b2 o2)
    all_goals go_wp2
    all_goals
      refine bodyPost_ret (v := .tuple #[.agg #[.slice a2 0 c2], .int .i64 x, .bool true, .int .i64 0]) ?_ rfl ⟨_, rfl, own_sln (by omega) (ownsRow_setCell_below HO.out (by simp) _), u2.setCell (by simp) _⟩
      simp [results, Tryd.results88, go_sem, *]
  · have hc1' : (cap == 1) = false := by simpa using hc1
    have HS : Hid (Sl w 1 (.slice (some ⟨b, off + 1, none⟩) r.length (cap - 1)) r.length (ints r)) := sl_tail hbw hcap hcs
    have HX := Lib.hid (hcs 0 (.int .i64 x) rfl)
    clear hS hcs hcap
    go_enter Tryd.func88, Tryd.ntmps88
    go_wp2_with fail
    refine (chkLine_any 2 _ (r.length + 1) cap _ 0 (by unfold chkL; simp; omega)).mono ?_
    rintro e w1 ⟨rfl, b1⟩
    have u1 : Below w.heap.size w w1 := Below.trans (by repeat (first | exact Below.refl _ _ | assumption | refine Below.drew ?_ | refine Below.alloc ?_ (by first | (simp; done) | (simp; omega)) _ | refine Below.setCell ?_ (by first | (simp; done) | (simp; omega)) _)) (b1.mono (by simp; omega))
    have s1 : w.heap.size + 2 ≤ w1.heap.size := by have := b1.size; simp at this; omega
    have k0 : w1.cell? ⟨w.heap.size, 0, none⟩ = some (.slice (some ⟨b, off, none⟩) (r.length + 1) cap) := bcl b1 (by simp; omega) (cl_alloc _ (by simp) (by simp))
    have z0 : w1.cell? ⟨w.heap.size + 1, 0, none⟩ = some (.slice none 0 0) := bcl b1 (by simp) (by simp)
    have y0 : w1.frozen? ⟨w.heap.size + 1, 0, none⟩ = false := bfr b1 (by simp) (by simp)
    have x0 : w1.cell? ⟨b, off, none⟩ = some (.int .i64 x) := bcl u1 hbw HX.out
    have hb1 : b ≠ w.heap.size + 1 := by omega
    clear b1
    go_wp2
    go_region_with (go_at_call 97; refine (line_any r (by omega) _ _ (Sl.up HS.out (by first | exact u1 | exact u1.drew))).mono ?_; rintro e w2 ⟨v', rfl, o2, b2⟩; have u2 : Below w.heap.size w w2 := Below.trans (by first | exact u1 | exact u1.drew) (b2.mono (by simp; omega)); have k0 : w2.cell? ⟨w.heap.size, 0, none⟩ = some (.slice (some ⟨b, off, none⟩) (r.length + 1) cap) := bcl b2 (by simp; omega) (by simpa using k0); have z0 : w2.cell? ⟨w.heap.size + 1, 0, none⟩ = some (.slice none 0 0) := bcl b2 (by simp; omega) (by simpa using z0); have y0 : w2.frozen? ⟨w.heap.size + 1, 0, none⟩ = false := bfr b2 (by simp; omega) (by simpa using y0); have x0 : w2.cell? ⟨b, off, none⟩ = some (.int .i64 x) := bcl u2 hbw HX.out; obtain ⟨a2, c2, rfl⟩ := own_form o2; have HO : Hid (w2.ownsRow (w.heap.size + 2) 3 1 (.slice a2 r.length c2) r.length (ints r)) := own_low o2 (by simp; omega); clear b2 o2)
    all_goals go_wp2
    all_goals
      refine bodyPost_ret (v := .tuple #[.agg #[.slice a2 r.length c2], .int .i64 x, .bool true, .int .i64 0]) ?_ rfl ⟨_, rfl, own_sln (by omega) (ownsRow_setCell_below HO.out (by simp) _), u2.setCell (by simp) _⟩
      simp [results, Tryd.results88, go_sem, *]
end Go.Proofs.YtjhjaafoikadgaaDoor

/- Channels: Put. -/
import Derived.Test.YtpikadbljhfoiaaChans1
namespace Go.Proofs.Ytpikadbljhfoiaa
set_option linter.unusedSimpArgs false
set_option linter.unusedVariables false
open Go.RowKit Go.Sort

/-- What lies there behind a Put, and whether it was taken. -/
def putS (kind : Int) (xs : List Int) (val : Int) : List Int × Bool := if kind = 1 then ([val], true) else if xs.length = 3 then (xs, false) else (xs ++ [val], true)

set_option maxHeartbeats 1000000 in
theorem put_no (kind : Int) (ao : Option Addr) (n cap : Nat) (val : Int) (w : World) (c : Int) (hc : chkL kind n = c) (h0 : c ≠ 0) :
    Calls Try.prog 5 #[.int .i64 kind, .agg #[.slice ao n cap], .int .i64 val] w fun e w' => e = .returned (.tuple #[.agg #[.slice none 0 0], .bool false, .int .i64 c]) ∧ Below w.heap.size w w' := by
  have h0' : (c != 0) = true := by simpa using h0
  clear h0
  go_enter Try.func5, Try.ntmps5
  go_wp2_with fail
  refine (chk_any kind ao n cap _ c hc).mono ?_
  rintro e w1 ⟨rfl, b1⟩
  have u1 : Below w.heap.size w w1 := Below.trans (by repeat (first | exact Below.refl _ _ | assumption | refine Below.drew ?_ | refine Below.alloc ?_ (by first | (simp; done) | (simp; omega)) _ | refine Below.setCell ?_ (by first | (simp; done) | (simp; omega)) _)) (b1.mono (by simp; omega))
  have z0 : w1.cell? ⟨w.heap.size + 1, 0, none⟩ = some (.slice none 0 0) := bcl b1 (by simp) (by simp)
  have y0 : w1.frozen? ⟨w.heap.size + 1, 0, none⟩ = false := bfr b1 (by simp) (by simp)
  clear b1
  go_wp2
  refine bodyPost_ret (v := .tuple #[.agg #[.slice none 0 0], .bool false, .int .i64 c]) ?_ rfl ⟨rfl, (by repeat (first | exact Below.refl _ _ | assumption | refine Below.drew ?_ | refine Below.alloc ?_ (by first | (simp; done) | (simp; omega)) _ | refine Below.setCell ?_ (by first | (simp; done) | (simp; omega)) _))⟩
  simp [results, Try.results5, go_sem, *]

set_option maxHeartbeats 2000000 in
theorem put_one (xs : List Int) (ao : Option Addr) (cap : Nat) (val : Int) (w : World) (hx : xs.length ≤ 1) :
    Calls Try.prog 5 #[.int .i64 1, .agg #[.slice ao xs.length cap], .int .i64 val] w fun e w' => ∃ v', e = .returned (.tuple #[.agg #[v'], .bool true, .int .i64 0]) ∧ SlN w w' v' 1 (ints [val]) ∧ Below w.heap.size w w' := by
  go_enter Try.func5, Try.ntmps5
  go_wp2_with fail
  refine (chk_any 1 ao xs.length cap _ 0 (by unfold chkL; simp; omega)).mono ?_
  rintro e w1 ⟨rfl, b1⟩
  have u1 : Below w.heap.size w w1 := Below.trans (by repeat (first | exact Below.refl _ _ | assumption | refine Below.drew ?_ | refine Below.alloc ?_ (by first | (simp; done) | (simp; omega)) _ | refine Below.setCell ?_ (by first | (simp; done) | (simp; omega)) _)) (b1.mono (by simp; omega))
  have s1 : w.heap.size + 2 ≤ w1.heap.size := by have := b1.size; simp at this; omega
  have z0 : w1.cell? ⟨w.heap.size + 1, 0, none⟩ = some (.slice none 0 0) := bcl b1 (by simp) (by simp)
  have y0 : w1.frozen? ⟨w.heap.size + 1, 0, none⟩ = false := bfr b1 (by simp) (by simp)
  clear b1
  go_wp2_with fail
  refine (line_any [val] (by simp) _ _ (sl_one _ _ _ _ (by simp))).mono ?_
  rintro e w2 ⟨v', rfl, o2, b2⟩
  have u2 : Below w.heap.size w w2 := Below.trans (u1.alloc (by omega) _) (b2.mono (by simp; omega))
  have z0 : w2.cell? ⟨w.heap.size + 1, 0, none⟩ = some (.slice none 0 0) := bcl b2 (by simp; omega) (cl_alloc _ (by omega) z0)
  have y0 : w2.frozen? ⟨w.heap.size + 1, 0, none⟩ = false := bfr b2 (by simp; omega) (fr_alloc _ (by omega) y0)
  have o2' := own_low o2 (show w.heap.size + 2 ≤ _ by simp; omega)
  obtain ⟨a2, c2, rfl⟩ := own_form o2
  have HO := Lib.hid o2'
  clear b2 o2 o2'
  go_wp2
  refine bodyPost_ret (v := .tuple #[.agg #[.slice a2 1 c2], .bool true, .int .i64 0]) ?_ rfl ⟨_, rfl, own_sln (by omega) (ownsRow_setCell_below HO.out (by simp) _), u2.setCell (by simp) _⟩
  simp [results, Try.results5, go_sem, *]

end Go.Proofs.Ytpikadbljhfoiaa

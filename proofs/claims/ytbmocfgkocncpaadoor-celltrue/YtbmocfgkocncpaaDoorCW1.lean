/- A part of the proofs over this seat's laws: what a function of the program, or of the reference, answers and leaves, told by its theorems below. -/
import Derived.Test.YtbmocfgkocncpaaDoorProg
import Derived.Test.YtbmocfgkocncpaaDoorCBase
import Derived.WalkKit
import Derived.Outline
namespace Go.Proofs.YtbmocfgkocncpaaDoor
set_option linter.unusedSimpArgs false
set_option linter.unusedVariables false
open Go.RowKit

def regB (a : Int) : Bool := decide (0 ≤ a) && decide (a < 4)

theorem isReg_any (a : Int) (w : World) : Calls Tryd.prog 40 #[.int .i64 a] w fun e w' => e = .returned (.bool (regB a)) ∧ w' = w := by
  by_cases h : 0 ≤ a
  all_goals
  go_enter Tryd.func40, Tryd.ntmps40
  go_wp2
  all_goals go_ret
  all_goals exact ⟨ret_bool (by simp [regB]; try omega), rfl⟩

/-- What isa.Check answers of a known operation, by its row of the table. -/
def chkRow (ba bb bn : Bool) (lo hi a b n : Int) : Int :=
  if (ba && !regB a) || (bb && !regB b) || (bn && (decide (n < lo) || decide (hi < n))) then 3
  else if (!ba && a != 0) || (!bb && b != 0) || (!bn && n != 0) then 1 else 0

set_option maxHeartbeats 2000000 in
theorem chk_row (k : Nat) (hk1 : 1 ≤ k) (hk : k < 16) (ws : ByteArray) (ba bb bn : Bool) (lo hi a b n : Int) (w : World) (hz : 0 < w.heap.size)
   (c0 : w.cell? ⟨0, k * 6, none⟩ = some (.string ws)) (c1 : w.cell? ⟨0, k * 6 + 1, none⟩ = some (.bool ba))
   (c2 : w.cell? ⟨0, k * 6 + 2, none⟩ = some (.bool bb)) (c3 : w.cell? ⟨0, k * 6 + 3, none⟩ = some (.bool bn))
   (c4 : w.cell? ⟨0, k * 6 + 4, none⟩ = some (.int .i64 lo)) (c5 : w.cell? ⟨0, k * 6 + 5, none⟩ = some (.int .i64 hi)) : Calls Tryd.prog 35 #[.agg #[.int .i64 k, .int .i64 a, .int .i64 b, .int .i64 n]] w fun e w' => e = .returned (.int .i64 (chkRow ba bb bn lo hi a b n)) ∧ Below w.heap.size w w' := by
  have hk1' : ¬ ((k : Int) < 1) := by omega
  have hk2' : ¬ ((15 : Int) < k) := by omega
  go_enter Tryd.func35, Tryd.ntmps35
  go_wp2_with (go_at_call 40; refine (isReg_any _ _).mono ?_; rintro e w' ⟨rfl, rfl⟩)
  all_goals go_ret
  all_goals refine ⟨ret_int ?_, (by repeat (first | exact Below.refl _ _ | assumption | refine Below.drew ?_ | refine Below.alloc ?_ (by first | (simp; done) | (simp; omega)) _ | refine Below.setCell ?_ (by first | (simp; done) | (simp; omega)) _))⟩
  all_goals (simp_all [chkRow]; done)

/- The law ChansTells answers true, whatever it is handed. -/
import Derived.Test.YtmkfhggkgbeilaaChans9
namespace Go.Proofs.Ytmkfhggkgbeilaa
set_option linter.unusedSimpArgs false
set_option linter.unusedVariables false
open Go.RowKit Go.Sort

theorem putS_len (kind : Int) (xs : List Int) (val : Int) (hx : xs.length ≤ 3) : (putS kind xs val).1.length ≤ 4 := by
  unfold putS
  split
  · simp
  · split
    · simp; omega
    · simp; omega
theorem chansTells_any (kind : Int) (xs : List Int) (v : Value) (val : Int) (w : World) (hS : Sl w 1 v xs.length (ints xs)) :
    Calls Try.prog 3 #[.int .i64 kind, .agg #[v], .int .i64 val] w fun e w' => e = .returned (.bool true) ∧ Below w.heap.size w w' := by
  by_cases h0 : chkL kind xs.length = 0
  · have hn : xs.length ≤ 3 := by rcases chkL_zero h0 with ⟨_, h⟩ | ⟨_, h⟩ <;> omega
    refine tells_yes kind xs v val w hS h0 (putR kind xs val).1 (putR kind xs val).2 rfl (getR kind xs).1 (getR kind xs).2.1 (getR kind xs).2.2 rfl ?_ ?_
    · unfold putR
      rw [if_pos h0]
      have := putS_len kind xs val hn
      omega
    · unfold getR
      rw [if_pos h0]
      cases xs with
      | nil => simp
      | cons x r =>
        simp only [List.length_cons] at hn
        show (if kind = 1 then x :: r else r).length < _
        split
        · simp; omega
        · omega
  · refine tells_no kind xs v val w hS _ rfl h0 ?_ ?_
    · unfold putR; rw [if_neg h0]
    · unfold getR; rw [if_neg h0]
end Go.Proofs.Ytmkfhggkgbeilaa

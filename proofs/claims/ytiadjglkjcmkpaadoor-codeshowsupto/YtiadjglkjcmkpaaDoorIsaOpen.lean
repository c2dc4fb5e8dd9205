/- Arguments that came in, opened; what the second form's bound gives. -/
import Derived.Test.YtiadjglkjcmkpaaDoorIsaLaid
import Derived.Test.YtiadjglkjcmkpaaDoorIsaWit
import Derived.Test.YtiadjglkjcmkpaaDoorLift
import Derived.Lib.SmallJoins
import Derived.Deep.DeepHandedRow
namespace Go.Proofs.YtiadjglkjcmkpaaDoor
set_option linter.unusedSimpArgs false
set_option linter.unusedVariables false
open Go.ChangeShapes Go.WideShapes Go.ChangeAt Go.RowKit Go.Joins
open Go.ChangeMaps (open_string)

theorem own : ownKnob Tryd.prog.godebug = none := by kernel_rfl
theorem laidOut : laidOutB Tryd.prog = true := by kernel_rfl
theorem cells23 : Tryd.prog.cellsOf 23 = 4 := by kernel_rfl
theorem in64_of {n : Int} (h : (Lit.int .i64 n).wf = true) : in64 n := by
  have := bounds_i64 h
  exact ⟨this.1, this.2⟩

set_option maxRecDepth 100000 in
/-- An instruction that came in, opened: four ints. -/
theorem open_instr {H : Type} {enc : TypeId × Value → H} {W : World} {r : Reach} {b0 base : Nat} {sp : Nat → Bool} {held : Bool} {v : Value} {d : DataW H} {p : List MemPlace} (hv : Value.okWide Tryd.prog W r b0 23 v) (h : DataW.Trod enc Tryd.prog W base sp held 23 v d p) :
    ∃ op a b n : Int, v = .agg #[.int .i64 op, .int .i64 a, .int .i64 b, .int .i64 n] ∧ in64 op ∧ in64 a ∧ in64 b ∧ in64 n := by
  obtain ⟨c0, c1, c2, c3, y0, y1, y2, y3, m, rfl, rfl, rfl, h0, h1, h2, h3⟩ := open_agg4 Tryd.underlying23 (by kernel_rfl) cells23 hv h
  obtain ⟨op, e0, -, w0⟩ := DataW.trod_int Tryd.underlying3 h0
  obtain ⟨a, e1, -, w1⟩ := DataW.trod_int Tryd.underlying3 h1
  obtain ⟨b, e2, -, w2⟩ := DataW.trod_int Tryd.underlying3 h2
  obtain ⟨n, e3, -, w3⟩ := DataW.trod_int Tryd.underlying3 h3
  simp only [List.cons.injEq, and_true] at e0 e1 e2 e3
  subst e0 e1 e2 e3
  exact ⟨op, a, b, n, rfl, in64_of w0, in64_of w1, in64_of w2, in64_of w3⟩

set_option maxRecDepth 100000 in
/-- A text that came in, by its letters. -/
theorem open_text {H : Type} {enc : TypeId × Value → H} {W : World} {r : Reach} {b0 base : Nat} {sp : Nat → Bool} {held : Bool} {v : Value} {d : DataW H} {p : List MemPlace} (hv : Value.okWide Tryd.prog W r b0 9 v) (h : DataW.Trod enc Tryd.prog W base sp held 9 v d p) :
    ∃ l : List UInt8, v = .string ⟨l.toArray⟩ ∧ d = .lit (.string l) := by
  obtain ⟨s, rfl, rfl, -, -⟩ := open_string Tryd.underlying9 hv h
  exact ⟨s.data.toList, by simp, rfl⟩

/-- A part's bulk is at most the whole's. -/
theorem bulk_part {H : Type} {d : DataW H} : ∀ {l : List (DataW H)}, d ∈ l → Rows.uptoBulk d ≤ Rows.uptoBulkAll l
  | [], h => by cases h
  | x :: r, h => by
    rw [Rows.uptoBulkAll]
    rcases List.mem_cons.1 h with e | e
    · rw [e]; omega
    · have := bulk_part e; omega
theorem bulk_of {H : Type} {l : List (DataW H)} (h : Rows.uptoSmall H l = true) : Rows.uptoBulkAll l ≤ 1048576 := of_decide_eq_true h
theorem bulk_text {H : Type} {l : List UInt8} {ds : List (DataW H)} (h : Rows.uptoBulkAll ds ≤ 1048576) (hm : .lit (.string l) ∈ ds) : l.length < 4294967281 := by
  have h1 := bulk_part hm
  have h2 : Rows.uptoBulk (DataW.lit (H := H) (.string l)) = l.length + 1 := by rw [Rows.uptoBulk]
  omega
end Go.Proofs.YtiadjglkjcmkpaaDoor

/- Arguments that came in, opened: numbers, slices of numbers, lines. -/
import Derived.Test.YtpikadbljhfoiaaRows
import Derived.Test.YtpikadbljhfoiaaCBase
import Derived.Test.YtpikadbljhfoiaaLift
import Derived.WideWitness
import Derived.LaidLaws
import Derived.Lib.SmallJoins
import Derived.Deep.DeepHandedRow
import Derived.Deep.Slices
namespace Go.Proofs.Ytpikadbljhfoiaa
set_option linter.unusedSimpArgs false
set_option linter.unusedVariables false
open Go.ChangeShapes Go.WideShapes Go.ChangeAt Go.RowKit Go.Joins Go.Deep

def laidW (P : Program) (os : Os) : World := World.holding P os ⟨#[], #[], []⟩
theorem own : ownKnob Try.prog.godebug = none := by kernel_rfl
theorem laidOut : laidOutB Try.prog = true := by kernel_rfl
theorem cellsI : Try.prog.cellsOf 3 = 1 := by kernel_rfl
theorem cellsL : Try.prog.cellsOf 24 = 1 := by kernel_rfl

/-- A part's bulk is at most the whole's. -/
theorem bulk_part {H : Type} {d : DataW H} : ∀ {l : List (DataW H)}, d ∈ l → Rows.uptoBulk d ≤ Rows.uptoBulkAll l
  | [], h => by cases h
  | x :: r, h => by
    rw [Rows.uptoBulkAll]
    rcases List.mem_cons.1 h with e | e
    · rw [e]; omega
    · have := bulk_part e; omega

set_option maxRecDepth 100000 in
theorem ints_of {H : Type} {enc : TypeId × Value → H} {W : World} {base : Nat} {sp : Nat → Bool} {held : Bool} {v : Value} {fuel : Nat} {x : DataW H × List MemPlace} (hf : DataW.trod enc Try.prog W base sp held fuel 22 [v] = some x) :
    ∃ l : List Int, Sl W 1 v l.length (ints l) := by
  rcases open_slice Try.underlying22 hf with ⟨h1, _⟩ | ⟨a, len, cap, m, n, D, Pl, e, hb, hl, hm, hmm, _, hx⟩
  · obtain rfl : v = .slice none 0 0 := by simpa using h1
    exact ⟨[], Sl.nil W 1⟩
  · obtain rfl : v = .slice (some a) len cap := by simpa using e
    have hlm : len ≤ m := by rw [hmm]; split <;> omega
    have each : ∀ i, i < len → ∃ q : Int, W.cell? (a.add i) = some (.int .i64 q) := by
      intro i hi
      obtain ⟨cs', h1, h2⟩ := hx i (by omega)
      rw [cellsI] at h1
      obtain ⟨_, hlen, hcell⟩ := World.cells?_some h1
      obtain ⟨q, e0, -, w0⟩ := DataW.trod_int Try.underlying3 h2
      subst e0
      have f0 := hcell 0 (by omega)
      rw [add_add] at f0
      exact ⟨q, by simpa using f0⟩
    obtain ⟨q, hq⟩ := choose_lt each
    refine ⟨(List.range len).map q, ?_⟩
    have hlen : ((List.range len).map q).length = len := by simp
    refine ⟨by simp [ints], some a, cap, by rw [hlen], by omega, fun hpos => ?_⟩
    have hs : a.spot = none := by
      have := World.cell?_spot (hq 0 (by omega))
      simpa [Addr.add] using this
    obtain ⟨b, off, s⟩ := a
    simp only at hs
    subst hs
    refine ⟨b, off, rfl, ?_, fun j u hj => ?_⟩
    · have h0 := hq 0 (by omega)
      simp only [Addr.add, if_true] at h0
      unfold World.cell? at h0
      by_cases hlt : b < W.heap.size
      · exact hlt
      · simp [Array.getElem?_eq_none (Nat.le_of_not_lt hlt)] at h0
    · have hjl : j < len := by
        have := (List.getElem?_eq_some_iff.1 hj).1
        simpa [ints] using this
      have key : (⟨b, off + j, none⟩ : Addr) = (⟨b, off, none⟩ : Addr).add j := by
        unfold Addr.add
        by_cases h0 : j = 0 <;> simp [h0]
      rw [key]
      have := hq j hjl
      simp [ints, hjl] at hj
      rw [← hj]; exact this

set_option maxRecDepth 100000 in
theorem open_ints {H : Type} {enc : TypeId × Value → H} {W : World} {r : Reach} {b0 base : Nat} {sp : Nat → Bool} {held : Bool} {v : Value} {d : DataW H} {p : List MemPlace} (hv : Value.okWide Try.prog W r b0 22 v) (h : DataW.Trod enc Try.prog W base sp held 22 v d p) :
    ∃ l : List Int, Sl W 1 v l.length (ints l) := by
  obtain ⟨a0, len, cap, rfl⟩ := okWide_slice Try.underlying22 hv
  obtain ⟨fuel, hf⟩ := h
  exact ints_of hf

set_option maxRecDepth 100000 in
theorem open_line {H : Type} {enc : TypeId × Value → H} {W : World} {r : Reach} {b0 base : Nat} {sp : Nat → Bool} {held : Bool} {v : Value} {d : DataW H} {p : List MemPlace} (hv : Value.okWide Try.prog W r b0 24 v) (h : DataW.Trod enc Try.prog W base sp held 24 v d p) :
    ∃ (u : Value) (l : List Int), v = .agg #[u] ∧ Sl W 1 u l.length (ints l) := by
  obtain ⟨cs, rfl, hsz⟩ := okWide_struct Try.underlying24 hv
  rw [cellsL] at hsz
  obtain ⟨c0, rfl⟩ : ∃ c0, cs = #[c0] := by
    match cs, hsz with
    | ⟨[c0]⟩, _ => exact ⟨c0, rfl⟩
  obtain ⟨fuel, hf⟩ := h
  obtain ⟨y0, n, hx, _, h0⟩ := trod_struct1 Try.underlying24 hf
  obtain ⟨l, hl⟩ := ints_of h0
  exact ⟨c0, l, rfl, hl⟩
theorem open_int {H : Type} {enc : TypeId × Value → H} {W : World} {r : Reach} {b0 base : Nat} {sp : Nat → Bool} {held : Bool} {v : Value} {d : DataW H} {p : List MemPlace} (hv : Value.okWide Try.prog W r b0 3 v) (h : DataW.Trod enc Try.prog W base sp held 3 v d p) :
    ∃ n : Int, v = .int .i64 n ∧ (-9223372036854775808 ≤ n ∧ n ≤ 9223372036854775807) := by
  obtain ⟨fuel, hf⟩ := h
  obtain ⟨n, e, -, w0⟩ := DataW.trod_int Try.underlying3 hf
  obtain ⟨m, rfl⟩ := okWide_int Try.underlying3 hv
  obtain rfl : m = n := by simpa [Value.cells] using e
  have hb := bounds_i64 w0
  exact ⟨m, rfl, hb.1, hb.2⟩
end Go.Proofs.Ytpikadbljhfoiaa

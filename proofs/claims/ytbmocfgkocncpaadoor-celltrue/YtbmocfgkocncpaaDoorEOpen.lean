/- Arguments that came in, opened: numbers, slices of whatever flat things, programs. -/
import Derived.Test.YtbmocfgkocncpaaDoorRows
import Derived.Test.YtbmocfgkocncpaaDoorRC
import Derived.Test.YtbmocfgkocncpaaDoorCCode1
import Derived.Test.YtbmocfgkocncpaaDoorLift
import Derived.WideWitness
import Derived.LaidLaws
import Derived.Lib.SmallJoins
import Derived.Deep.DeepHandedRow
import Derived.Deep.Slices
import Derived.Deep.Strs
namespace Go.Proofs.YtbmocfgkocncpaaDoor
set_option linter.unusedSimpArgs false
set_option linter.unusedVariables false
open Go.ChangeShapes Go.WideShapes Go.ChangeAt Go.RowKit Go.Joins Go.Deep

theorem own : ownKnob Tryd.prog.godebug = none := by kernel_rfl
theorem laidOut : laidOutB Tryd.prog = true := by kernel_rfl
theorem in64_of {n : Int} (h : (Lit.int .i64 n).wf = true) : in64 n := by
  have := bounds_i64 h
  exact ⟨this.1, this.2⟩

set_option maxRecDepth 100000 in
/-- A slice of flat things. -/
theorem sl_of {H : Type} {enc : TypeId × Value → H} {P : Program} {W : World} {base : Nat} {sp : Nat → Bool} {held : Bool} {t e : TypeId} {size : Nat} {α : Type} [Inhabited α] (f : α → List Value) (Q : α → Prop)
    (ht : P.underlying t = some (.slice e)) (hc : P.cellsOf e = size) (hs0 : 0 < size) (hfl : ∀ x, (f x).length = size)
    (elem : ∀ (n : Nat) (cs : List Value) (y : DataW H × List MemPlace), cs.length = size → DataW.trod enc P W base sp held n e cs = some y → ∃ q, cs = f q ∧ Q q)
    {v : Value} {fuel : Nat} {x : DataW H × List MemPlace} (hf : DataW.trod enc P W base sp held fuel t [v] = some x) : ∃ l : List α, Sl W size v l.length (rowC f l) ∧ ∀ j (hj : j < l.length), Q l[j] := by
  rcases open_slice ht hf with ⟨h1, _⟩ | ⟨a, len, cap, m, n, D, Pl, e1, hb, hl, hm, hmm, _, hx⟩
  · obtain rfl : v = .slice none 0 0 := by simpa using h1
    exact ⟨[], Sl.nil W size, fun j hj => absurd hj (by simp)⟩
  · obtain rfl : v = .slice (some a) len cap := by simpa using e1
    have hlm : len ≤ m := by rw [hmm]; split <;> omega
    have each : ∀ i, i < len → ∃ q : α, (∀ k, k < size → W.cell? (a.add (i * size + k)) = (f q)[k]?) ∧ Q q := by
      intro i hi
      obtain ⟨cs', h1, h2⟩ := hx i (by omega)
      rw [hc] at h1
      obtain ⟨_, hlen, hcell⟩ := World.cells?_some h1
      obtain ⟨q, rfl, hq⟩ := elem _ _ _ hlen h2
      refine ⟨q, fun k hk => ?_, hq⟩
      have := hcell k hk
      rwa [add_add] at this
    obtain ⟨q, hq⟩ := choose_lt each
    refine ⟨(List.range len).map q, ?_, fun j hj => by simpa using (hq j (by simpa using hj)).2⟩
    have hlen : ((List.range len).map q).length = len := by simp
    refine ⟨rowC_len hfl _, some a, cap, by rw [hlen], by omega, fun hpos => ?_⟩
    have h00 := (hq 0 (by omega)).1 0 hs0
    obtain ⟨v0, hv0⟩ : ∃ v0, (f (q 0))[0]? = some v0 := ⟨(f (q 0))[0]'(by rw [hfl]; exact hs0), List.getElem?_eq_getElem _⟩
    rw [hv0, Nat.zero_mul] at h00
    have hs : a.spot = none := by
      have := World.cell?_spot h00
      simpa [Addr.add] using this
    obtain ⟨b, off, s⟩ := a
    simp only at hs
    subst hs
    refine ⟨b, off, rfl, ?_, fun j u hj => ?_⟩
    · simp only [Addr.add, if_true] at h00
      unfold World.cell? at h00
      by_cases hlt : b < W.heap.size
      · exact hlt
      · simp [Array.getElem?_eq_none (Nat.le_of_not_lt hlt)] at h00
    · have hjl : j < len * size := by
        have := (List.getElem?_eq_some_iff.1 hj).1
        rw [rowC_len hfl, hlen] at this
        exact this
      have hdm : j / size * size + j % size = j := by rw [Nat.mul_comm]; exact Nat.div_add_mod j size
      have hdl : j / size < len := Nat.div_lt_of_lt_mul (by rw [Nat.mul_comm]; exact hjl)
      have hml : j % size < size := Nat.mod_lt _ hs0
      rw [← hdm, rowC_at hfl _ _ _ (by rw [hlen]; exact hdl) hml] at hj
      simp only [List.getElem_map, List.getElem_range] at hj
      have key : ∀ x : Nat, (⟨b, off + x, none⟩ : Addr) = (⟨b, off, none⟩ : Addr).add x := fun x => by
        unfold Addr.add
        by_cases h0 : x = 0 <;> simp [h0]
      rw [key, ← hdm, (hq (j / size) hdl).1 _ hml]
      exact hj

theorem codeC_row : ∀ l : List Ins, codeC l = rowC Ins.cells l
  | [] => rfl
  | i :: r => by rw [codeC, codeC_row r]; rfl
theorem ints_row (l : List Int) : ints l = rowC (fun z : Int => [Value.int .i64 z]) l := by
  unfold ints rowC
  induction l with
  | nil => rfl
  | cons z r ih => rw [List.map_cons, List.flatMap_cons, ih]; rfl
instance : Inhabited Ins := ⟨⟨0, 0, 0, 0⟩⟩
theorem cellsInt : Tryd.prog.cellsOf 3 = 1 := by kernel_rfl
theorem cellsCode : Tryd.prog.cellsOf 22 = 1 := by kernel_rfl
theorem cellsInts : Tryd.prog.cellsOf 23 = 1 := by kernel_rfl

set_option maxRecDepth 100000 in
theorem code_of {H : Type} {enc : TypeId × Value → H} {W : World} {base : Nat} {sp : Nat → Bool} {held : Bool} {v : Value} {fuel : Nat} {x : DataW H × List MemPlace} (hf : DataW.trod enc Tryd.prog W base sp held fuel 22 [v] = some x) :
    ∃ l : List Ins, Sl W 4 v l.length (codeC l) ∧ ∀ j (hj : j < l.length), l[j].ok := by
  obtain ⟨l, h1, h2⟩ := sl_of (size := 4) Ins.cells Ins.ok Tryd.underlying22 (by kernel_rfl) (by decide) (fun _ => rfl) (fun n cs y hl h => by
    obtain ⟨y0, y1, y2, y3, k, hxy, _, g0, g1, g2, g3⟩ := trod_struct4 Tryd.underlying56 h
    match cs, hl with
    | [v0, v1, v2, v3], _ =>
      obtain ⟨op, e0, -, w0⟩ := DataW.trod_int Tryd.underlying3 g0
      obtain ⟨a', e1, -, w1⟩ := DataW.trod_int Tryd.underlying3 g1
      obtain ⟨b, e2, -, w2⟩ := DataW.trod_int Tryd.underlying3 g2
      obtain ⟨n', e3, -, w3⟩ := DataW.trod_int Tryd.underlying3 g3
      simp [cellsInt] at e0 e1 e2 e3
      subst e0 e1 e2 e3
      exact ⟨⟨op, a', b, n'⟩, rfl, in64_of w0, in64_of w1, in64_of w2, in64_of w3⟩) hf
  exact ⟨l, by rw [codeC_row]; exact h1, h2⟩
set_option maxRecDepth 100000 in
theorem ints_of {H : Type} {enc : TypeId × Value → H} {W : World} {base : Nat} {sp : Nat → Bool} {held : Bool} {v : Value} {fuel : Nat} {x : DataW H × List MemPlace} (hf : DataW.trod enc Tryd.prog W base sp held fuel 23 [v] = some x) :
    ∃ l : List Int, Sl W 1 v l.length (ints l) ∧ ∀ j (hj : j < l.length), in64 l[j] := by
  obtain ⟨l, h1, h2⟩ := sl_of (fun z : Int => [Value.int .i64 z]) in64 Tryd.underlying23 (by kernel_rfl) (by decide) (fun _ => rfl) (fun n cs y hl h => by
    obtain ⟨q, e0, -, w0⟩ := DataW.trod_int Tryd.underlying3 h
    exact ⟨q, e0, in64_of w0⟩) hf
  exact ⟨l, by rw [ints_row]; exact h1, h2⟩
theorem open_int {H : Type} {enc : TypeId × Value → H} {W : World} {r : Reach} {b0 base : Nat} {sp : Nat → Bool} {held : Bool} {v : Value} {d : DataW H} {p : List MemPlace} (hv : Value.okWide Tryd.prog W r b0 3 v) (h : DataW.Trod enc Tryd.prog W base sp held 3 v d p) :
    ∃ n : Int, v = .int .i64 n ∧ in64 n := by
  obtain ⟨fuel, hf⟩ := h
  obtain ⟨n, e, -, w0⟩ := DataW.trod_int Tryd.underlying3 hf
  obtain ⟨m, rfl⟩ := okWide_int Tryd.underlying3 hv
  obtain rfl : m = n := by simpa [Value.cells] using e
  exact ⟨m, rfl, in64_of w0⟩
end Go.Proofs.YtbmocfgkocncpaaDoor

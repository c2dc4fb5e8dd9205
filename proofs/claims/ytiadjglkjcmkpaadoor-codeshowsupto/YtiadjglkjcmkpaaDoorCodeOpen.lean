/- A program that came in, opened: its instructions. -/
import Derived.Test.YtiadjglkjcmkpaaDoorIsaOpen
import Derived.Test.YtiadjglkjcmkpaaDoorCode0
import Derived.Deep.Slices
namespace Go.Proofs.YtiadjglkjcmkpaaDoor
set_option linter.unusedSimpArgs false
set_option linter.unusedVariables false
open Go.ChangeShapes Go.WideShapes Go.ChangeAt Go.RowKit Go.Joins Go.Deep

instance : Inhabited Ins := ⟨⟨0, 0, 0, 0⟩⟩

set_option maxRecDepth 100000 in
theorem open_code {H : Type} {enc : TypeId × Value → H} {W : World} {r : Reach} {b0 base : Nat} {sp : Nat → Bool} {held : Bool} {v : Value} {d : DataW H} {p : List MemPlace} (hv : Value.okWide Tryd.prog W r b0 37 v) (h : DataW.Trod enc Tryd.prog W base sp held 37 v d p) :
    ∃ l : List Ins, Sl W 4 v l.length (codeC l) ∧ ∀ j (hj : j < l.length), l[j].ok := by
  obtain ⟨a0, len, cap, rfl⟩ := okWide_slice Tryd.underlying37 hv
  obtain ⟨fuel, hf⟩ := h
  rcases open_slice Tryd.underlying37 hf with ⟨h1, _⟩ | ⟨a, len', cap', m, n, D, Pl, e, hb, hl, hm, hmm, _, hx⟩
  · obtain ⟨rfl, rfl, rfl⟩ : a0 = none ∧ len = 0 ∧ cap = 0 := by simpa [Value.cells] using h1
    exact ⟨[], Sl.nil W 4, fun j hj => absurd hj (by simp)⟩
  · obtain ⟨rfl, rfl, rfl⟩ : a0 = some a ∧ len = len' ∧ cap = cap' := by simpa [Value.cells] using e
    have hlm : len ≤ m := by rw [hmm]; split <;> omega
    have each : ∀ i, i < len → ∃ q : Ins, (W.cell? (a.add (i * 4)) = some (.int .i64 q.op) ∧ W.cell? (a.add (i * 4 + 1)) = some (.int .i64 q.a) ∧ W.cell? (a.add (i * 4 + 2)) = some (.int .i64 q.b) ∧ W.cell? (a.add (i * 4 + 3)) = some (.int .i64 q.n)) ∧ q.ok := by
      intro i hi
      obtain ⟨cs', h1, h2⟩ := hx i (by omega)
      rw [cells23] at h1
      obtain ⟨_, hlen, hcell⟩ := World.cells?_some h1
      obtain ⟨y0, y1, y2, y3, k, hxy, _, g0, g1, g2, g3⟩ := trod_struct4 Tryd.underlying23 h2
      match cs', hlen with
      | [v0, v1, v2, v3], _ =>
        obtain ⟨op, e0, -, w0⟩ := DataW.trod_int Tryd.underlying3 g0
        obtain ⟨a', e1, -, w1⟩ := DataW.trod_int Tryd.underlying3 g1
        obtain ⟨b, e2, -, w2⟩ := DataW.trod_int Tryd.underlying3 g2
        obtain ⟨n', e3, -, w3⟩ := DataW.trod_int Tryd.underlying3 g3
        have c3 : Tryd.prog.cellsOf 3 = 1 := by kernel_rfl
        simp [c3] at e0 e1 e2 e3
        subst e0 e1 e2 e3
        have f0 := hcell 0 (by omega)
        have f1 := hcell 1 (by omega)
        have f2 := hcell 2 (by omega)
        have f3 := hcell 3 (by omega)
        rw [add_add] at f0 f1 f2 f3
        exact ⟨⟨op, a', b, n'⟩, ⟨by simpa using f0, by simpa using f1, by simpa using f2, by simpa using f3⟩, in64_of w0, in64_of w1, in64_of w2, in64_of w3⟩
    obtain ⟨q, hq⟩ := choose_lt each
    refine ⟨(List.range len).map q, ?_, fun j hj => by simpa using (hq j (by simpa using hj)).2⟩
    have hlen : ((List.range len).map q).length = len := by simp
    refine ⟨codeC_len _, some a, cap, by rw [hlen], by omega, fun hpos => ?_⟩
    have hs : a.spot = none := by
      have := World.cell?_spot (hq 0 (by omega)).1.1
      simpa [Addr.add] using this
    obtain ⟨b, off, s⟩ := a
    simp only at hs
    subst hs
    refine ⟨b, off, rfl, ?_, fun j u hj => ?_⟩
    · have h0 := (hq 0 (by omega)).1.1
      simp only [Nat.zero_mul, Addr.add, if_true] at h0
      unfold World.cell? at h0
      by_cases hlt : b < W.heap.size
      · exact hlt
      · simp [Array.getElem?_eq_none (Nat.le_of_not_lt hlt)] at h0
    · have hjl : j < len * 4 := by
        rw [← hlen, ← codeC_len]
        exact (List.getElem?_eq_some_iff.1 hj).1
      have hdm : j / 4 * 4 + j % 4 = j := by omega
      have hk : j / 4 < ((List.range len).map q).length := by omega
      rw [← hdm, codeC_at _ _ _ hk (by omega)] at hj
      have hqk := (hq (j / 4) (by omega)).1
      simp only [List.getElem_map, List.getElem_range] at hj
      have key : ∀ x : Nat, (⟨b, off + x, none⟩ : Addr) = (⟨b, off, none⟩ : Addr).add x := fun x => by
        unfold Addr.add
        by_cases h0 : x = 0 <;> simp [h0]
      rw [key, ← hdm]
      have hr : j % 4 = 0 ∨ j % 4 = 1 ∨ j % 4 = 2 ∨ j % 4 = 3 := by omega
      rcases hr with e | e | e | e <;> rw [e] at hj ⊢ <;> simp only [Ins.cells, List.getElem?_cons_zero, List.getElem?_cons_succ, Option.some.injEq] at hj <;> subst hj
      · exact hqk.1
      · exact hqk.2.1
      · exact hqk.2.2.1
      · exact hqk.2.2.2
end Go.Proofs.YtiadjglkjcmkpaaDoor

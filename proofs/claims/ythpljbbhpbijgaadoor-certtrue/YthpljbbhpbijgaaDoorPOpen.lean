/- Policies and certificates that came in, opened. -/
import Derived.Test.YthpljbbhpbijgaaDoorJn
import Derived.Test.YthpljbbhpbijgaaDoorCe9
namespace Go.Proofs.YthpljbbhpbijgaaDoor
set_option linter.unusedSimpArgs false
set_option linter.unusedVariables false
open Go.ChangeShapes Go.WideShapes Go.ChangeAt Go.RowKit Go.Joins Go.Deep

set_option maxRecDepth 100000 in
theorem edges_of {H : Type} {enc : TypeId × Value → H} {W : World} {base : Nat} {sp : Nat → Bool} {held : Bool} {v : Value} {fuel : Nat} {x : DataW H × List MemPlace} (hf : DataW.trod enc Tryd.prog W base sp held fuel 27 [v] = some x) :
    ∃ l : List Edg, Sl W 2 v l.length (rowC Edg.cells l) := by
  haveI : Inhabited Edg := ⟨⟨0, 0⟩⟩
  obtain ⟨l, h1, _⟩ := sl_of (size := 2) (α := Edg) Edg.cells (fun _ => True) Tryd.underlying27 (by kernel_rfl) (by decide) (fun _ => rfl) (fun n cs y hl h => by
    obtain ⟨y0, y1, k, hxy, _, g0, g1⟩ := trod_struct2 Tryd.underlying37 h
    match cs, hl with
    | [v0, v1], _ =>
      obtain ⟨a, e0, -, w0⟩ := DataW.trod_int Tryd.underlying3 g0
      obtain ⟨b, e1, -, w1⟩ := DataW.trod_int Tryd.underlying3 g1
      simp [cellsInt] at e0 e1
      subst e0 e1
      exact ⟨⟨a, b⟩, rfl, trivial⟩) hf
  exact ⟨l, h1⟩
/-- How long a slice may be that came in. -/
theorem len_of {H : Type} {enc : TypeId × Value → H} {P : Program} {W : World} {base : Nat} {sp : Nat → Bool} {held : Bool} {t e : TypeId} {size n : Nat} {xs : List Value} {v : Value} {fuel : Nat} {x : DataW H × List MemPlace} (ht : P.underlying t = some (.slice e)) (hf : DataW.trod enc P W base sp held fuel t [v] = some x) (hS : Sl W size v n xs) : n ≤ 9223372036854775807 := by
  obtain ⟨ao, c, rfl⟩ := hS.form
  rcases open_slice ht hf with ⟨h1, _⟩ | ⟨a, len, cap, m, n', D, Pl, e1, hb, hl, hm, hmm, _, hx⟩
  · simp at h1
    omega
  · simp at e1
    unfold maxLen at hm
    omega
set_option maxRecDepth 100000 in
theorem sets_of {H : Type} {enc : TypeId × Value → H} {W : World} {base : Nat} {sp : Nat → Bool} {held : Bool} {v : Value} {fuel : Nat} {x : DataW H × List MemPlace} (hf : DataW.trod enc Tryd.prog W base sp held fuel 53 [v] = some x) :
    ∃ ss : List (List Int), SetsR W v ss ∧ ∀ l ∈ ss, l.length ≤ 9223372036854775807 := by
  obtain ⟨l, h1, h2⟩ := sl_of (size := 1) (α := Value) (fun v => [v]) (fun q => ∃ xs : List Int, Sl W 1 q xs.length (ints xs) ∧ xs.length ≤ 9223372036854775807) Tryd.underlying53 (by kernel_rfl) (by decide) (fun _ => rfl) (fun n cs y hl h => by
    match cs, hl with
    | [v0], _ =>
      obtain ⟨xs, hS, -⟩ := ints_of h
      exact ⟨v0, rfl, xs, hS, len_of Tryd.underlying42 h hS⟩) hf
  have hrow : ∀ l : List Value, rowC (fun v => [v]) l = l := fun l => by
    induction l with
    | nil => rfl
    | cons a r ih => simp [rowC, ih]
  rw [hrow] at h1
  obtain ⟨g, hg⟩ := choose_lt (n := l.length) (p := fun j (xs : List Int) => ∀ hj : j < l.length, Sl W 1 l[j] xs.length (ints xs) ∧ xs.length ≤ 9223372036854775807) (fun j hj => by
    obtain ⟨p, hp⟩ := h2 j hj
    exact ⟨p, fun _ => hp⟩)
  refine ⟨(List.range l.length).map g, ⟨l, by simp, by simpa using h1, fun k hk hk' => ?_⟩, fun xs hx => ?_⟩
  · have := (hg k hk hk).1
    simpa using this
  · obtain ⟨j, hj, rfl⟩ := List.mem_map.1 hx
    exact (hg j (List.mem_range.1 hj) (List.mem_range.1 hj)).2
theorem arr_one {cs : Array Value} (h : cs.size = 1) : ∃ c, cs = #[c] := by
  obtain ⟨l⟩ := cs
  match l, h with
  | [c], _ => exact ⟨c, rfl⟩
set_option maxRecDepth 100000 in
theorem open_policy {H : Type} {enc : TypeId × Value → H} {W : World} {r : Reach} {b0 base : Nat} {sp : Nat → Bool} {held : Bool} {v : Value} {d : DataW H} {p : List MemPlace} (hv : Value.okWide Tryd.prog W r b0 52 v) (h : DataW.Trod enc Tryd.prog W base sp held 52 v d p) :
    ∃ (vL : Value) (L : List Edg), v = .agg #[vL] ∧ Sl W 2 vL L.length (rowC Edg.cells L) := by
  obtain ⟨cs, rfl, hsz⟩ := okWide_struct Tryd.underlying52 hv
  obtain ⟨c, rfl⟩ := arr_one (hsz.trans (by kernel_rfl))
  obtain ⟨fuel, hf⟩ := h
  obtain ⟨ys, m, _, _, _, hlen, h⟩ := DataW.trod_struct Tryd.underlying52 hf
  have f0 := h 0 _ rfl
  match ys, hlen with
  | [y0], _ =>
    obtain ⟨L, hL⟩ := edges_of f0
    exact ⟨c, L, rfl, hL⟩
set_option maxRecDepth 100000 in
theorem open_cert {H : Type} {enc : TypeId × Value → H} {W : World} {r : Reach} {b0 base : Nat} {sp : Nat → Bool} {held : Bool} {v : Value} {d : DataW H} {p : List MemPlace} (hv : Value.okWide Tryd.prog W r b0 55 v) (h : DataW.Trod enc Tryd.prog W base sp held 55 v d p) :
    ∃ (vC : Value) (ss : List (List Int)), v = .agg #[vC] ∧ SetsR W vC ss ∧ ∀ l ∈ ss, l.length ≤ 9223372036854775807 := by
  obtain ⟨cs, rfl, hsz⟩ := okWide_struct Tryd.underlying55 hv
  obtain ⟨c, rfl⟩ := arr_one (hsz.trans (by kernel_rfl))
  obtain ⟨fuel, hf⟩ := h
  obtain ⟨ys, m, _, _, _, hlen, h⟩ := DataW.trod_struct Tryd.underlying55 hf
  have f0 := h 0 _ rfl
  match ys, hlen with
  | [y0], _ =>
    obtain ⟨ss, hs, hl⟩ := sets_of f0
    exact ⟨c, ss, rfl, hs, hl⟩
end Go.Proofs.YthpljbbhpbijgaaDoor

/- Worlds that came in, opened. -/
import Derived.Test.YtnnnljfdjdehaaaDoorJ15
import Derived.Test.YtnnnljfdjdehaaaDoorJ2
import Derived.Test.YtnnnljfdjdehaaaDoorJ0
import Derived.Test.YtnnnljfdjdehaaaDoorRows
import Derived.ProofKit
import Derived.OpenShut
import Derived.LaidLaws
import Derived.WideWitness
import Derived.KernelRfl
namespace Go.Proofs.YtnnnljfdjdehaaaDoor
set_option linter.unusedSimpArgs false
set_option linter.unusedVariables false
open Go.ChangeShapes Go.WideShapes Go.ChangeAt Go.RowKit Go.Joins Go.Deep

instance : Inhabited Cel := ⟨celZ⟩
set_option maxRecDepth 100000 in
theorem cells_of {H : Type} {enc : TypeId × Value → H} {W : World} {base : Nat} {sp : Nat → Bool} {held : Bool} {v : Value} {fuel : Nat} {x : DataW H × List MemPlace} (hf : DataW.trod enc Tryd.prog W base sp held fuel 27 [v] = some x) :
    ∃ ds : List CelD, CellsR W v ds := by
  obtain ⟨l, h1, h2⟩ := sl_of (size := 16) (α := Cel × Value) celC (fun q => ∃ xs : List Int, Sl W 1 q.2 xs.length (ints xs)) Tryd.underlying27 (by kernel_rfl) (by decide) celC_len (fun n cs y hl h => by
    obtain ⟨c, o, xs, e, hS⟩ := cell_of hl h
    exact ⟨(c, o), e, xs, hS⟩) hf
  obtain ⟨g, hg⟩ := choose_lt (n := l.length) (p := fun j (xs : List Int) => ∀ hj : j < l.length, Sl W 1 l[j].2 xs.length (ints xs)) (fun j hj => by
    obtain ⟨p, hp⟩ := h2 j hj
    exact ⟨p, fun _ => hp⟩)
  have hlen : ((List.range l.length).map fun j => (⟨(l.getD j (celZ, .slice none 0 0)).1, g j⟩ : CelD)).length = l.length := by simp
  refine ⟨(List.range l.length).map fun j => ⟨(l.getD j (celZ, .slice none 0 0)).1, g j⟩, l, hlen.symm, by rw [hlen]; exact h1, fun k hk hk' => ?_⟩
  have := hg k hk' hk'
  simp [List.getD, hk']
  exact this
set_option maxRecDepth 100000 in
theorem lines_of {H : Type} {enc : TypeId × Value → H} {W : World} {base : Nat} {sp : Nat → Bool} {held : Bool} {v : Value} {fuel : Nat} {x : DataW H × List MemPlace} (hf : DataW.trod enc Tryd.prog W base sp held fuel 28 [v] = some x) :
    ∃ ls : List (List Int), LinesR W v ls := by
  obtain ⟨l, h1, h2⟩ := sl_of (size := 1) (α := Value) (fun v => [v]) (fun q => ∃ xs : List Int, Sl W 1 q xs.length (ints xs)) Tryd.underlying28 (by kernel_rfl) (by decide) (fun _ => rfl) (fun n cs y hl h => by
    obtain ⟨ys, m, _, _, _, hlen, h⟩ := DataW.trod_struct Tryd.underlying65 h
    have f0 := h 0 _ rfl
    match cs, hl, ys, hlen with
    | [v0], _, [y0], _ =>
      obtain ⟨xs, hS, -⟩ := ints_of f0
      exact ⟨v0, rfl, xs, hS⟩) hf
  have hrow : ∀ l : List Value, rowC (fun v => [v]) l = l := fun l => by
    induction l with
    | nil => rfl
    | cons a r ih => simp [rowC, ih]
  rw [hrow] at h1
  obtain ⟨g, hg⟩ := choose_lt (n := l.length) (p := fun j (xs : List Int) => ∀ hj : j < l.length, Sl W 1 l[j] xs.length (ints xs)) (fun j hj => by
    obtain ⟨p, hp⟩ := h2 j hj
    exact ⟨p, fun _ => hp⟩)
  refine ⟨(List.range l.length).map g, l, by simp, by simpa using h1, fun k hk hk' => ?_⟩
  have := hg k hk' hk'
  simpa using this
set_option maxRecDepth 100000 in
/-- A world that came in, opened. -/
theorem open_world {H : Type} {enc : TypeId × Value → H} {W : World} {r : Reach} {b0 base : Nat} {sp : Nat → Bool} {held : Bool} {v : Value} {d : DataW H} {p : List MemPlace} (hv : Value.okWide Tryd.prog W r b0 30 v) (h : DataW.Trod enc Tryd.prog W base sp held 30 v d p) :
    ∃ (vc vl : Value) (D : WldD), v = .agg #[.int .i64 D.tick, vc, vl] ∧ Wld W vc vl D ∧ in64 D.tick := by
  obtain ⟨c0, c1, c2, y0, y1, y2, m, rfl, rfl, rfl, h0, h1, h2⟩ := open_agg3 Tryd.underlying30 (by kernel_rfl) (by kernel_rfl) hv h
  obtain ⟨a, e0, -, w0⟩ := DataW.trod_int Tryd.underlying3 h0
  obtain ⟨ds, hd⟩ := cells_of h1
  obtain ⟨ls, hl⟩ := lines_of h2
  simp at e0
  subst e0
  exact ⟨c1, c2, ⟨a, ds, ls⟩, rfl, ⟨hd, hl⟩, in64_of w0⟩
end Go.Proofs.YtnnnljfdjdehaaaDoor

namespace Go.Proofs.YtnnnljfdjdehaaaDoor
set_option linter.unusedSimpArgs false
set_option linter.unusedVariables false
open Go.ChangeShapes Go.WideShapes Go.ChangeAt Go.RowKit Go.Joins Go.Deep

set_option maxRecDepth 100000 in
theorem open_ints {H : Type} {enc : TypeId × Value → H} {W : World} {r : Reach} {b0 base : Nat} {sp : Nat → Bool} {held : Bool} {v : Value} {d : DataW H} {p : List MemPlace} (hv : Value.okWide Tryd.prog W r b0 31 v) (h : DataW.Trod enc Tryd.prog W base sp held 31 v d p) :
    ∃ l : List Int, Sl W 1 v l.length (ints l) := by
  obtain ⟨a0, len, cap, rfl⟩ := okWide_slice Tryd.underlying31 hv
  obtain ⟨fuel, hf⟩ := h
  obtain ⟨l, h1, -⟩ := ints_of (v := .slice a0 len cap) hf
  exact ⟨l, h1⟩
end Go.Proofs.YtnnnljfdjdehaaaDoor

namespace Go.Proofs.YtnnnljfdjdehaaaDoor
set_option linter.unusedSimpArgs false
set_option linter.unusedVariables false
open Go.RowKit Go.Sort

theorem gShp : Tryd.prog.globalNamed "lychgate/isa.shapes" = some 0 := by kernel_rfl
theorem gShpType : (Tryd.prog.globals[0]?).map (·.type) = some 153 := by kernel_rfl
theorem cells9 : Tryd.prog.cellsOf 9 = 1 := by kernel_rfl
theorem cells55 : Tryd.prog.cellsOf 152 = 6 := by kernel_rfl
theorem cells4 : Tryd.prog.cellsOf 4 = 1 := by kernel_rfl
theorem cells3 : Tryd.prog.cellsOf 3 = 1 := by kernel_rfl

def rowD {H : Type} (k : Nat) : DataW H := .agg [.lit (.string (rowW k)), .lit (.bool (rowA k)), .lit (.bool (rowB k)), .lit (.bool (rowN k)), .lit (.int .i64 (rowLo k)), .lit (.int .i64 (rowHi k))]
theorem laid_rows {H : Type} : (Rows.laid_lychgate_isa_shapes : DataW H) = .agg ((List.range 16).map rowD) := rfl

/-- A cell of a list by its place. -/
theorem at_of {cs : List Value} {o : Nat} {v : Value} (h : (cs.drop o).take 1 = [v]) : cs[o]? = some v := by
  have := congrArg (·[0]?) h
  simpa [List.getElem?_take, List.getElem?_drop] using this
theorem at_in {cs : List Value} {a o : Nat} {v : Value} (h : ((cs.drop a).take 6)[o]? = some v) (ho : o < 6) : cs[a + o]? = some v := by
  rw [List.getElem?_take, if_pos ho, List.getElem?_drop] at h; exact h

theorem row_cells {H : Type} {enc : TypeId × Value → H} {W : World} {base : Nat} {sp : Nat → Bool} {held : Bool} {fuel : Nat} {cs : List Value} {k : Nat} {p : List MemPlace}
    (h : DataW.trod enc Tryd.prog W base sp held fuel 152 cs = some (rowD k, p)) :
    cs[0]? = some (.string ⟨(rowW k).toArray⟩) ∧ cs[1]? = some (.bool (rowA k)) ∧ cs[2]? = some (.bool (rowB k)) ∧ cs[3]? = some (.bool (rowN k)) ∧ cs[4]? = some (.int .i64 (rowLo k)) ∧ cs[5]? = some (.int .i64 (rowHi k)) := by
  obtain ⟨xs, n, _, hx, hl, hlen, hf⟩ := DataW.trod_struct Tryd.underlying152 h
  have f0 := hf 0 _ rfl
  have f1 := hf 1 _ rfl
  have f2 := hf 2 _ rfl
  have f3 := hf 3 _ rfl
  have f4 := hf 4 _ rfl
  have f5 := hf 5 _ rfl
  match xs, hlen with
  | [y0, y1, y2, y3, y4, y5], _ =>
    simp only [rowD, Prod.mk.injEq, DataW.agg.injEq, List.map_cons, List.map_nil, List.cons.injEq, and_true] at hx
    obtain ⟨⟨e0, e1, e2, e3, e4, e5⟩, _⟩ := hx
    obtain ⟨s, c0, d0, _⟩ := DataW.trod_string Tryd.underlying9 f0
    obtain ⟨b1, c1, d1⟩ := DataW.trod_bool Tryd.underlying4 f1
    obtain ⟨b2, c2, d2⟩ := DataW.trod_bool Tryd.underlying4 f2
    obtain ⟨b3, c3, d3⟩ := DataW.trod_bool Tryd.underlying4 f3
    obtain ⟨n4, c4, d4, _⟩ := DataW.trod_int Tryd.underlying3 f4
    obtain ⟨n5, c5, d5, _⟩ := DataW.trod_int Tryd.underlying3 f5
    subst d0 d1 d2 d3 d4 d5
    simp only [DataW.lit.injEq, Lit.string.injEq, Lit.bool.injEq, Lit.int.injEq, true_and] at e0 e1 e2 e3 e4 e5
    subst e1 e2 e3 e4 e5
    change (cs.drop 0).take (Tryd.prog.cellsOf 9) = _ at c0
    change (cs.drop 1).take (Tryd.prog.cellsOf 4) = _ at c1
    change (cs.drop 2).take (Tryd.prog.cellsOf 4) = _ at c2
    change (cs.drop 3).take (Tryd.prog.cellsOf 4) = _ at c3
    change (cs.drop 4).take (Tryd.prog.cellsOf 3) = _ at c4
    change (cs.drop 5).take (Tryd.prog.cellsOf 3) = _ at c5
    rw [cells9] at c0
    rw [cells4] at c1 c2 c3
    rw [cells3] at c4 c5
    have es : s = ⟨(rowW k).toArray⟩ := by
      apply ByteArray.ext
      rw [e0]
    exact ⟨es ▸ at_of c0, at_of c1, at_of c2, at_of c3, at_of c4, at_of c5⟩

theorem shp_of {W : World} {r : List (String × DataW Unit)} (h : laidMet Tryd.prog (("lychgate/isa.shapes", Rows.laid_lychgate_isa_shapes) :: r) W) : Shp W := by
  obtain ⟨ps, ⟨g', t', cs, fuel, p, q, hg', ht', hvar, hd, _, _⟩, _⟩ := h
  obtain rfl := Option.some.inj (gShp.symm.trans hg')
  obtain rfl := Option.some.inj (gShpType.symm.trans ht')
  obtain ⟨xs, m, _, hx, hl, hlen, hf⟩ := DataW.trod_array Tryd.underlying153 hd
  have hrow : ∀ k, k < 16 → ∃ p', DataW.trod (fun _ => ()) Tryd.prog W 0 (fun _ => true) false m 152 ((cs.toList.drop (k * 6)).take 6) = some (rowD k, p') := by
    intro k hk
    have h1 := hf k hk
    rw [cells55] at h1
    have h2 : xs.map (·.1) = (List.range 16).map rowD := by
      have := congrArg Prod.fst hx
      simp only [laid_rows, DataW.agg.injEq] at this
      exact this.symm
    have h3 := congrArg (·[k]?) h2
    simp only [List.getElem?_map, List.getElem?_range hk, Option.map_some] at h3
    cases hy : xs[k]? with
    | none => rw [hy] at h3; cases h3
    | some y =>
      rw [hy] at h3
      simp only [Option.map_some, Option.some.injEq] at h3
      refine ⟨y.2, ?_⟩
      rw [h1, hy, ← h3]
  have cell : ∀ i, W.cell? ⟨0, i, none⟩ = cs[i]? := fun i => World.var?_cell gShp hvar i
  have key : ∀ k, k < 16 → ∀ j v, j < 6 → ((cs.toList.drop (k * 6)).take 6)[j]? = some v → W.cell? ⟨0, k * 6 + j, none⟩ = some v := by
    intro k hk j v hj h
    have := at_in h hj
    rw [cell, ← Array.getElem?_toList]
    exact this
  refine ⟨?_, fun k hk => ?_, fun k hk => ?_, fun k hk => ?_, fun k hk => ?_, fun k hk => ?_, fun k hk => ?_⟩
  · have h0 : W.var? Tryd.prog "lychgate/isa.shapes" = some cs := hvar
    unfold World.var? at h0
    rw [gShp] at h0
    simp only [Option.bind_some] at h0
    rcases Nat.lt_or_ge 0 W.heap.size with h' | h'
    · exact h'
    · simp [Array.getElem?_eq_none h'] at h0
  all_goals obtain ⟨p', hp⟩ := hrow k hk
  all_goals obtain ⟨r0, r1, r2, r3, r4, r5⟩ := row_cells hp
  · exact key k hk 0 _ (by decide) r0
  · exact key k hk 1 _ (by decide) r1
  · exact key k hk 2 _ (by decide) r2
  · exact key k hk 3 _ (by decide) r3
  · exact key k hk 4 _ (by decide) r4
  · exact key k hk 5 _ (by decide) r5


theorem env_of {W : World} {r : List (String × DataW Unit)} (h : laidMet Tryd.prog (("lychgate/isa.shapes", Rows.laid_lychgate_isa_shapes) :: r) W) : Env W := ⟨shp_of h⟩
end Go.Proofs.YtnnnljfdjdehaaaDoor

namespace Go.Proofs.YtnnnljfdjdehaaaDoor
set_option linter.unusedSimpArgs false
set_option linter.unusedVariables false

def laidW (P : Program) (os : Os) : World :=
  let w0 := World.holding P os ⟨#[], #[], []⟩
  let put := fun (h : Array Obj) (g : Nat) (cs : Array Value) => h.modify g fun
      | .cells _ t frozen => .cells cs t frozen
      | o => o
  { w0 with heap := put w0.heap 0 #[.string ⟨#[]⟩, .bool false, .bool false, .bool false, .int .i64 0, .int .i64 0, .string ⟨#[115, 101, 116]⟩, .bool true, .bool false, .bool true, .int .i64 (-9223372036854775808), .int .i64 9223372036854775807, .string ⟨#[99, 111, 112, 121]⟩, .bool true, .bool true, .bool false, .int .i64 0, .int .i64 0, .string ⟨#[97, 100, 100]⟩, .bool true, .bool true, .bool false, .int .i64 0, .int .i64 0, .string ⟨#[115, 117, 98]⟩, .bool true, .bool true, .bool false, .int .i64 0, .int .i64 0, .string ⟨#[108, 101, 115, 115]⟩, .bool true, .bool true, .bool false, .int .i64 0, .int .i64 0, .string ⟨#[108, 111, 97, 100]⟩, .bool true, .bool true, .bool false, .int .i64 0, .int .i64 0, .string ⟨#[115, 97, 118, 101]⟩, .bool true, .bool true, .bool false, .int .i64 0, .int .i64 0, .string ⟨#[106, 117, 109, 112]⟩, .bool false, .bool false, .bool true, .int .i64 0, .int .i64 19, .string ⟨#[122, 101, 114, 111]⟩, .bool true, .bool false, .bool true, .int .i64 0, .int .i64 19, .string ⟨#[105, 110]⟩, .bool true, .bool false, .bool false, .int .i64 0, .int .i64 0, .string ⟨#[111, 117, 116]⟩, .bool true, .bool false, .bool false, .int .i64 0, .int .i64 0, .string ⟨#[112, 117, 116]⟩, .bool true, .bool false, .bool true, .int .i64 0, .int .i64 5, .string ⟨#[103, 101, 116]⟩, .bool true, .bool true, .bool true, .int .i64 0, .int .i64 5, .string ⟨#[114, 101, 115, 116]⟩, .bool false, .bool false, .bool false, .int .i64 0, .int .i64 0, .string ⟨#[115, 116, 111, 112]⟩, .bool false, .bool false, .bool false, .int .i64 0, .int .i64 0] }
end Go.Proofs.YtnnnljfdjdehaaaDoor

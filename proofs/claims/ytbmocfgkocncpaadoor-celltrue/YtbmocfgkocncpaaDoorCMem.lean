/- Small laws on what a world's cells hold behind new blocks, stores and calls that keep what was there. -/
import Derived.WalkKit
import Derived.WalkSmall
namespace Go.Proofs.YtbmocfgkocncpaaDoor
set_option linter.unusedSimpArgs false
set_option linter.unusedVariables false
open Go.RowKit

theorem bcl {B : Nat} {w w' : World} {b i : Nat} {v : Value} (h : Below B w w') (hb : b < B) (hc : w.cell? ⟨b, i, none⟩ = some v) : w'.cell? ⟨b, i, none⟩ = some v := (h.cell (p := ⟨b, i, none⟩) hb).trans hc
theorem bfr {B : Nat} {w w' : World} {b i : Nat} (h : Below B w w') (hb : b < B) (hc : w.frozen? ⟨b, i, none⟩ = false) : w'.frozen? ⟨b, i, none⟩ = false := (h.frozen (p := ⟨b, i, none⟩) hb).trans hc
theorem cl_alloc {w : World} {b i : Nat} {v : Value} (o : Obj) (hb : b < w.heap.size) (h : w.cell? ⟨b, i, none⟩ = some v) : (w.alloc o).cell? ⟨b, i, none⟩ = some v := (World.cell?_alloc_lt w o ⟨b, i, none⟩ hb).trans h
theorem fr_alloc {w : World} {b i : Nat} (o : Obj) (hb : b < w.heap.size) (h : w.frozen? ⟨b, i, none⟩ = false) : (w.alloc o).frozen? ⟨b, i, none⟩ = false := (World.frozen?_alloc_old w o ⟨b, i, none⟩ (by simp; omega)).trans h
theorem cl_set {w : World} {b i c j : Nat} {v u : Value} (hne : b ≠ c ∨ i ≠ j) (h : w.cell? ⟨b, i, none⟩ = some v) : (w.setCell ⟨c, j, none⟩ u).cell? ⟨b, i, none⟩ = some v :=
  (World.cell?_setCell_other w _ _ _ (by intro e; simp at e; omega)).trans h
theorem cl_same {w : World} {b i : Nat} {v u : Value} (h : w.cell? ⟨b, i, none⟩ = some v) : (w.setCell ⟨b, i, none⟩ u).cell? ⟨b, i, none⟩ = some u := World.cell?_setCell_same w _ _ h
theorem fr_set {w : World} {b i c j : Nat} {u : Value} (h : w.frozen? ⟨b, i, none⟩ = false) : (w.setCell ⟨c, j, none⟩ u).frozen? ⟨b, i, none⟩ = false := (World.frozen?_setCell w _ _ _).trans h
theorem size_set (w : World) (a : Addr) (u : Value) : (w.setCell a u).heap.size = w.heap.size := by simp [World.setCell]
end Go.Proofs.YtbmocfgkocncpaaDoor

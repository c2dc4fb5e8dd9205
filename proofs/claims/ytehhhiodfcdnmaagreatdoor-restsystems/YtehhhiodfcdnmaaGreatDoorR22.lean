/- ref.OwnSystem: a system of its own. -/
import Derived.Test.YtehhhiodfcdnmaaGreatDoorR21
import Derived.Test.YtehhhiodfcdnmaaGreatDoorR6
namespace Go.Proofs.YtehhhiodfcdnmaaGreatDoor
set_option linter.unusedSimpArgs false
set_option linter.unusedVariables false
open Go.RowKit Go.Sort
attribute [local go_sem ↓] Go.wp_at_zero Go.wp_at_succ
theorem em_new (w : World) (e : TypeId) (b : Nat) (hb : b = w.heap.size) : (w.alloc (.cells #[] e)).heap[b]? = some (.cells #[] e (0, 0)) := by
 subst hb
 show (w.heap.push _)[w.heap.size]? = _
 simp
theorem em_alloc {w : World} {o x : Obj} {b : Nat} (h : w.heap[b]? = some x) : (w.alloc o).heap[b]? = some x := by
 have hb : b < w.heap.size := by
  rcases Nat.lt_or_ge b w.heap.size with h' | h'
  ·exact h'
  ·rw [Array.getElem?_eq_none h'] at h; cases h
 exact (Below.heap_alloc w o b hb).trans h
theorem em_up {w w' : World} {x : Obj} {b : Nat} (hb : Below w.heap.size w w') (h : w.heap[b]? = some x) : w'.heap[b]? = some x := by
 have hl : b < w.heap.size := by
  rcases Nat.lt_or_ge b w.heap.size with h' | h'
  ·exact h'
  ·rw [Array.getElem?_eq_none h'] at h; cases h
 exact (hb.block b hl).trans h
theorem v3_alloc {w : World} {o : Obj} {g : Nat} {a b c : Value} (h : Var3 w g a b c) : Var3 (w.alloc o) g a b c := h.up ((Below.refl _ _).alloc (Nat.le_refl _) _)
theorem v3_drew {w : World} {g : Nat} {a b c : Value} (h : Var3 w g a b c) : Var3 w.drew g a b c := ⟨h.x, h.y, h.z, h.fx, h.fy, h.fz, h.lt⟩
theorem sz_alloc (w : World) (o : Obj) : (w.alloc o).heap.size = w.heap.size + 1 := by simp
theorem sz_drew (w : World) : w.drew.heap.size = w.heap.size := rfl
theorem bldC {n : Nat} {w4 : World} {g : Nat} {v1 v2 : Value} {cs : List Chn} {ss : List Slt} (V : Var3 w4 g (.slice none 0 0) (.slice none 0 0) (.slice none 0 0)) (s1 : Sl w4 3 v1 cs.length (rowC chC cs)) (s2 : Sl w4 2 v2 ss.length (rowC slC ss)) (hn : n ≤ g)
  (h1 : NewB n v1 ∧ ∀ k, v1.ownBlock = some k → k ≠ g ∧ k < w4.heap.size) (h2 : NewB n v2 ∧ ∀ k, v2.ownBlock = some k → k ≠ g ∧ k < w4.heap.size) :
  Bld n (((w4.setCell ⟨g, 0, none⟩ (.slice none 0 0)).setCell ⟨g, 1, none⟩ v1).setCell ⟨g, 2, none⟩ v2).heap.size (((w4.setCell ⟨g, 0, none⟩ (.slice none 0 0)).setCell ⟨g, 1, none⟩ v1).setCell ⟨g, 2, none⟩ v2) g (.slice none 0 0) v1 v2 [] cs ss := by
 have hz : (((w4.setCell ⟨g, 0, none⟩ (.slice none 0 0)).setCell ⟨g, 1, none⟩ v1).setCell ⟨g, 2, none⟩ v2).heap.size = w4.heap.size := by rw [size_set, size_set, size_set]
 have f1 : v1.ownBlock ≠ some g := fun e => (h1.2 g e).1 rfl
 have f2 : v2.ownBlock ≠ some g := fun e => (h2.2 g e).1 rfl
 refine bld_of V.sets (((s1.set _ f1).set _ f1).set _ f1) (((s2.set _ f2).set _ f2).set _ f2) hn ⟨h1.1, fun k e => ?_⟩ ⟨h2.1, fun k e => ?_⟩
 ·rw [hz]; exact h1.2 k e
 ·rw [hz]; exact h2.2 k e
theorem bldD {n : Nat} {w4 : World} {v1 v2 : Value} {cs : List Chn} {ss : List Slt} {t : TypeId} (s1 : Sl w4 3 v1 cs.length (rowC chC cs)) (s2 : Sl w4 2 v2 ss.length (rowC slC ss)) (hn : n ≤ w4.heap.size)
  (h1 : NewB n v1 ∧ ∀ k, v1.ownBlock = some k → k < w4.heap.size) (h2 : NewB n v2 ∧ ∀ k, v2.ownBlock = some k → k < w4.heap.size) :
  Bld n (w4.alloc (.cells #[.slice none 0 0, v1, v2] t)).heap.size (w4.alloc (.cells #[.slice none 0 0, v1, v2] t)) w4.heap.size (.slice none 0 0) v1 v2 [] cs ss := by
 have bb : Below w4.heap.size w4 (w4.alloc (.cells #[.slice none 0 0, v1, v2] t)) := (Below.refl _ _).alloc (Nat.le_refl _) _
 refine bld_of (var3_new w4 _ _ _ t _ rfl) (s1.up bb) (s2.up bb) hn ⟨h1.1, fun k e => ?_⟩ ⟨h2.1, fun k e => ?_⟩
 ·have := h1.2 k e; simp; omega
 ·have := h2.2 k e; simp; omega
theorem keepB {W w' : World} {g : Nat} {vp vc vs : Value} (hB : Box W g vp vc vs) (D : Below W.heap.size W w') : w'.cell? ⟨g, 1, none⟩ = some vc ∧ w'.cell? ⟨g, 2, none⟩ = some vs :=
 ⟨(hB.up D).c, (hB.up D).s⟩
theorem Bld.set {n base : Nat} {wr : World} {g : Nat} {vp vc vs : Value} {ps : List Prt} {cs : List Chn} {ss : List Slt} (h : Bld n base wr g vp vc vs ps cs ss) {c j : Nat} (hc : c < n) (u : Value) : Bld n base (wr.setCell ⟨c, j, none⟩ u) g vp vc vs ps cs ss := by
 obtain ⟨l, h1, h2, h3⟩ := h.row
 have hgn := h.gn
 have hgl := h.gl
 refine ⟨cl_set (Or.inl om) h.cp, fr_set h.fp, cl_set (Or.inl om) h.cc, cl_set (Or.inl om) h.ct, h.gl, h.gn, by rw [size_set]; exact h.bs, ⟨l, h1, ownsRow_setCell_below h2 (show c < base by omega) u, fun k hk hk' => ?_⟩, h.c.far h.nc.1 hc u, h.s.far h.ns.1 hc u, h.nc, h.ns⟩
 obtain ⟨p1, p2, p3, p4, p5⟩ := h3 k hk hk'
 exact ⟨⟨p1.code.far p2.1 om u, p1.inn.far p2.2 om u⟩, p2, p3, fun b e => by rw [size_set]; exact p4 b e, fun b e => by rw [size_set]; exact p5 b e⟩
theorem keep4 {W w' : World} {a b c d : Addr} {x y z u : Value} (D : Below W.heap.size W w') (h : W.cell? a = some x ∧ W.cell? b = some y ∧ W.cell? c = some z ∧ W.cell? d = some u) (ha : a.block < W.heap.size) (hb : b.block < W.heap.size) (hc : c.block < W.heap.size) (hd : d.block < W.heap.size) :
  w'.cell? a = some x ∧ w'.cell? b = some y ∧ w'.cell? c = some z ∧ w'.cell? d = some u :=
 ⟨(D.cell ha).trans h.1, (D.cell hb).trans h.2.1, (D.cell hc).trans h.2.2.1, (D.cell hd).trans h.2.2.2⟩
end Go.Proofs.YtehhhiodfcdnmaaGreatDoor

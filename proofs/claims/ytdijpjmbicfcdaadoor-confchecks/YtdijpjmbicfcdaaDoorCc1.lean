/- A system that is being built, partition by partition. -/
import Derived.Test.YtdijpjmbicfcdaaDoorCc0
namespace Go.Proofs.YtdijpjmbicfcdaaDoor
set_option linter.unusedSimpArgs false
set_option linter.unusedVariables false
open Go.RowKit Go.Sort

theorem own_new {w : World} {base : Nat} {e : TypeId} {size : Nat} {v : Value} {n : Nat} {xs : List Value} (h : w.ownsRow base e size v n xs) : NewB base v := own_block h
theorem own_up {w w' : World} {base : Nat} {e : TypeId} {size : Nat} {v : Value} {n : Nat} {xs : List Value} (h : w.ownsRow base e size v n xs) (hb : Below w.heap.size w w') : w'.ownsRow base e size v n xs := by
  have hlt := h.lt
  refine ⟨h.1, ?_⟩
  rcases h.2 with hn | ⟨g, cap, cur, rfl, hg, hh, r⟩
  · exact .inl hn
  · exact .inr ⟨g, cap, cur, rfl, hg, by rw [hb.block g (hlt g rfl).2]; exact hh, r⟩
theorem sl_grown {w w' : World} {row : Option Nat} {size : Nat} {v : Value} {n : Nat} {xs : List Value} (h : Sl w size v n xs) (hg : w.grownBy w' row) (hne : ∀ k, v.ownBlock = some k → row ≠ some k) : Sl w' size v n xs := by
  obtain ⟨h1, ao, cap, rfl, h3, h4⟩ := h
  refine ⟨h1, ao, cap, rfl, h3, fun hn => ?_⟩
  obtain ⟨b, off, rfl, hlt, hc⟩ := h4 hn
  exact ⟨b, off, rfl, Nat.lt_of_lt_of_le hlt hg.size, fun j u hj => (hg.cell_far ⟨b, off + j, none⟩ hlt (fun e => hne b rfl e.symm)).trans (hc j u hj)⟩
/-- Two slices lie in different blocks. -/
def Apart (v u : Value) : Prop := ∀ k, v.ownBlock = some k → u.ownBlock ≠ some k
theorem apart_lt {v u : Value} {m : Nat} (hv : NewB m v) (hu : ∀ k, u.ownBlock = some k → k < m) : Apart v u := fun k e e2 => by have := hv k e; have := hu k e2; omega

def LtB (w : World) (v : Value) : Prop := ∀ b, v.ownBlock = some b → b < w.heap.size
theorem LtB.up {w w' : World} {v : Value} (h : LtB w v) (hs : w.heap.size ≤ w'.heap.size) : LtB w' v := fun b e => Nat.lt_of_lt_of_le (h b e) hs
theorem own_ltB {w : World} {base : Nat} {e : TypeId} {size : Nat} {v : Value} {n : Nat} {xs : List Value} (h : w.ownsRow base e size v n xs) : LtB w v := fun b e => (h.lt b e).2

structure Bld (n base : Nat) (wr : World) (g : Nat) (vp vc vs : Value) (ps : List Prt) (cs : List Chn) (ss : List Slt) : Prop where
  cp : wr.cell? ⟨g, 0, none⟩ = some vp
  fp : wr.frozen? ⟨g, 0, none⟩ = false
  cc : wr.cell? ⟨g, 1, none⟩ = some vc
  ct : wr.cell? ⟨g, 2, none⟩ = some vs
  gl : g < base
  gn : n ≤ g
  bs : base ≤ wr.heap.size
  row : ∃ l : List (Value × Value), l.length = ps.length ∧ wr.ownsRow base 52 2 vp ps.length (rowC prC l) ∧ ∀ k (hk : k < ps.length) (hk' : k < l.length), PrtR wr l[k].1 l[k].2 ps[k] ∧ (NewB (g + 1) l[k].1 ∧ NewB (g + 1) l[k].2) ∧ (Apart l[k].1 vp ∧ Apart l[k].2 vp) ∧ LtB wr l[k].1 ∧ LtB wr l[k].2
  c : Sl wr 3 vc cs.length (rowC chC cs)
  s : Sl wr 2 vs ss.length (rowC slC ss)
  nc : NewB n vc ∧ ∀ k, vc.ownBlock = some k → k ≠ g ∧ k < base
  ns : NewB n vs ∧ ∀ k, vs.ownBlock = some k → k ≠ g ∧ k < base

theorem Bld.form {n base : Nat} {wr : World} {g : Nat} {vp vc vs : Value} {ps : List Prt} {cs : List Chn} {ss : List Slt} (h : Bld n base wr g vp vc vs ps cs ss) : ∃ a c, vp = .slice a ps.length c := by
  obtain ⟨l, _, h2, _⟩ := h.row
  exact own_form h2
theorem Bld.up {n base : Nat} {wr wr' : World} {g : Nat} {vp vc vs : Value} {ps : List Prt} {cs : List Chn} {ss : List Slt} (h : Bld n base wr g vp vc vs ps cs ss) (hb : Below wr.heap.size wr wr') : Bld n base wr' g vp vc vs ps cs ss := by
  obtain ⟨l, h1, h2, h3⟩ := h.row
  have hg : g < wr.heap.size := Nat.lt_of_lt_of_le h.gl h.bs
  exact ⟨bcl hb hg h.cp, bfr hb hg h.fp, bcl hb hg h.cc, bcl hb hg h.ct, h.gl, h.gn, Nat.le_trans h.bs hb.size, ⟨l, h1, own_up h2 hb, fun k hk hk' => ⟨(h3 k hk hk').1.up hb, (h3 k hk hk').2.1, (h3 k hk hk').2.2.1, (h3 k hk hk').2.2.2.1.up hb.size, (h3 k hk hk').2.2.2.2.up hb.size⟩⟩, h.c.up hb, h.s.up hb, h.nc, h.ns⟩
theorem rowC_snoc {α : Type} (f : α → List Value) (l : List α) (x : α) : rowC f (l ++ [x]) = rowC f l ++ f x := by simp [rowC]
/-- One partition more: appended, and stored. -/
theorem Bld.step {n base : Nat} {w2 w3 : World} {g : Nat} {vp vp' vc vs v1 v2 : Value} {ps : List Prt} {cs : List Chn} {ss : List Slt} {p : Prt} {m : Nat} (h : Bld n base w2 g vp vc vs ps cs ss)
    (hp : PrtR w2 v1 v2 p) (h1 : NewB m v1) (h2 : NewB m v2) (hm : g + 1 ≤ m) (hvp : ∀ k, vp.ownBlock = some k → k < m) (l0 : List (Value × Value))
    (hl0 : l0.length = ps.length ∧ w2.ownsRow base 52 2 vp ps.length (rowC prC l0) ∧ ∀ k (hk : k < ps.length) (hk' : k < l0.length), PrtR w2 l0[k].1 l0[k].2 ps[k] ∧ (NewB (g + 1) l0[k].1 ∧ NewB (g + 1) l0[k].2) ∧ (Apart l0[k].1 vp ∧ Apart l0[k].2 vp) ∧ LtB w2 l0[k].1 ∧ LtB w2 l0[k].2)
    (hlt1 : LtB w2 v1 ∧ LtB w2 v2)
    {o : Obj} (hgrow : (w2.alloc o).grownBy w3 vp.ownBlock) (hown : w3.ownsRow base 52 2 vp' (ps.length + 1) (rowC prC l0 ++ [v1, v2])) (hat : ∀ k, vp'.ownBlock = some k → vp.ownBlock = some k ∨ w2.heap.size + 1 ≤ k) :
    Bld n base (w3.setCell ⟨g, 0, none⟩ vp') g vp' vc vs (ps ++ [p]) cs ss ∧ (∀ b, vp'.ownBlock = some b → base ≤ b) := by
  have hb2 : Below w2.heap.size w2 (w2.alloc o) := (Below.refl _ _).alloc (Nat.le_refl _) _
  have hu := h.up hb2
  have hg : g < w2.heap.size := Nat.lt_of_lt_of_le h.gl h.bs
  have hrow := hl0.2.1
  have hgv : some g ≠ vp.ownBlock := fun e => by have := own_block hrow g e.symm; have := h.gl; omega
  have hgl : g < (w2.alloc o).heap.size := by simp; omega
  have hbs := h.bs
  have hnew' := own_block hown
  have far : ∀ v : Value, (∀ b, v.ownBlock = some b → b < w2.heap.size) → Apart v vp → Apart v vp' := fun v hv ha k e e2 => by
    rcases hat k e2 with h1 | h1
    · exact ha k e h1
    · have := hv k e; omega
  have slg : ∀ {size nn : Nat} {v : Value} {xs : List Value}, Sl w2 size v nn xs → NewB (g + 1) v → Apart v vp → Sl (w3.setCell ⟨g, 0, none⟩ vp') size v nn xs := fun hs hn ha =>
    (sl_grown (hs.up hb2) hgrow (fun k e e2 => ha k e e2)).set _ (fun e => by have := hn g e; omega)
  have slc : ∀ {size nn : Nat} {v : Value} {xs : List Value}, Sl w2 size v nn xs → (∀ k, v.ownBlock = some k → k ≠ g ∧ k < base) → Sl (w3.setCell ⟨g, 0, none⟩ vp') size v nn xs := fun hs hn =>
    (sl_grown (hs.up hb2) hgrow (fun k e e2 => by have := own_block hrow k e2; have := (hn k e).2; omega)).set _ (fun e => (hn g e).1 rfl)
  have hsz : w2.heap.size ≤ (w3.setCell ⟨g, 0, none⟩ vp').heap.size := by rw [size_set]; have := hgrow.size; simp at this; omega
  have c0 : w3.cell? ⟨g, 0, none⟩ = some vp := (hgrow.cell_far ⟨g, 0, none⟩ hgl hgv).trans hu.cp
  refine ⟨⟨cl_same c0, fr_set ((hgrow.frozen_far ⟨g, 0, none⟩ hgl hgv).trans hu.fp), cl_set (Or.inr (by decide)) ((hgrow.cell_far ⟨g, 1, none⟩ hgl hgv).trans hu.cc), cl_set (Or.inr (by decide)) ((hgrow.cell_far ⟨g, 2, none⟩ hgl hgv).trans hu.ct), h.gl, h.gn, ?_, ?_, slc h.c h.nc.2, slc h.s h.ns.2, h.nc, h.ns⟩, hnew'⟩
  · rw [size_set]; have := hgrow.size; simp at this; omega
  · refine ⟨l0 ++ [(v1, v2)], by simp [hl0.1], ?_, fun k hk hk' => ?_⟩
    · rw [rowC_snoc]
      have : (ps ++ [p]).length = ps.length + 1 := by simp
      rw [this]
      exact ownsRow_setCell_below hown (by simpa using h.gl) _
    · by_cases hkl : k < l0.length
      · have hkp : k < ps.length := by have := hl0.1; omega
        obtain ⟨a1, ⟨a2, a3⟩, ⟨a4, a5⟩, a6, a7⟩ := hl0.2.2 k hkp hkl
        rw [List.getElem_append_left hkl, List.getElem_append_left hkp]
        exact ⟨⟨slg a1.code a2 a4, slg a1.inn a3 a5⟩, ⟨a2, a3⟩, ⟨far _ a6 a4, far _ a7 a5⟩, a6.up hsz, a7.up hsz⟩
      · have hke : k = ps.length := by have := hl0.1; simp at hk; omega
        have hke' : k = l0.length := by have := hl0.1; omega
        have e1 : (l0 ++ [(v1, v2)])[k] = (v1, v2) := by rw [List.getElem_append_right (by omega)]; simp
        have e2 : (ps ++ [p])[k] = p := by rw [List.getElem_append_right (by omega)]; simp
        rw [e1, e2]
        have n1 : NewB (g + 1) v1 := h1.mono hm
        have n2 : NewB (g + 1) v2 := h2.mono hm
        exact ⟨⟨slg hp.code n1 (apart_lt h1 hvp), slg hp.inn n2 (apart_lt h2 hvp)⟩, ⟨n1, n2⟩, ⟨far _ hlt1.1 (apart_lt h1 hvp), far _ hlt1.2 (apart_lt h2 hvp)⟩, hlt1.1.up hsz, hlt1.2.up hsz⟩
/-- What was built, as a system in new memory. -/
theorem Bld.done {n base : Nat} {wr : World} {g : Nat} {vp vc vs : Value} {ps : List Prt} {cs : List Chn} {ss : List Slt} (h : Bld n base wr g vp vc vs ps cs ss) : SysN n wr vp vc vs ⟨ps, cs, ss⟩ := by
  obtain ⟨l, h1, h2, h3⟩ := h.row
  have hgn := h.gn
  have hgl := h.gl
  exact ⟨⟨l, h1, own_sl h2, fun k e => by have := own_block h2 k e; omega, fun k hk hk' => ⟨(h3 k hk hk').1, (h3 k hk hk').2.1.1.mono (by omega), (h3 k hk hk').2.1.2.mono (by omega)⟩⟩, h.c, h.s, h.nc.1, h.ns.1⟩
end Go.Proofs.YtdijpjmbicfcdaaDoor

/- One cell of a new world is put in the place of another. -/
import Derived.Test.YtehhhiodfcdnmaaGreatDoorR15
import Derived.Test.YtehhhiodfcdnmaaGreatDoorR14
namespace Go.Proofs.YtehhhiodfcdnmaaGreatDoor
set_option linter.unusedSimpArgs false
set_option linter.unusedVariables false
open Go.RowKit Go.Sort
section
variable {B G : Nat} {w : World} {vc vl : Value} {cs : List CelD} {ls : List (List Int)}
theorem sl_setCells {w : World} {size : Nat} {v : Value} {n : Nat} {xs : List Value} (h : Sl w size v n xs) {g : Nat} (o : Nat) (us : List Value) (hs : (w.setCells g o us).heap.size = w.heap.size) (hne : v.ownBlock ≠ some g) : Sl (w.setCells g o us) size v n xs := by
 obtain ⟨h1, ao, cap, rfl, h3, h4⟩ := h
 refine ⟨h1, ao, cap, rfl, h3, fun hn => ?_⟩
 obtain ⟨b, off, rfl, hlt, hc, hz⟩ := h4 hn
 refine ⟨b, off, rfl, by rw [hs]; exact hlt, fun j u hj => ?_, fun j hj => (World.frozen?_setCells g us o w _).trans (hz j hj)⟩
 rw [World.cell?_setCells_out g us o w ⟨b, off + j, none⟩ (fun e _ => absurd (congrArg some e) hne)]
 exact hc j u hj
theorem size_setCells : ∀ (us : List Value) (w : World) (g o : Nat), (w.setCells g o us).heap.size = w.heap.size
 | [], _, _, _ => rfl
 | u :: r, w, g, o => by
  rw [World.setCells, size_setCells r _ g (o + 1)]
  exact size_set ..
theorem rw_setCells_same : ∀ (us : List Value) {w : World} {g : Nat} (o : Nat) {t : TypeId} {cs : Array Value}, Rw w g t cs → ∃ cs', Rw (w.setCells g o us) g t cs'
 | [], _, _, _, _, cs, h => ⟨cs, h⟩
 | u :: r, w, g, o, t, cs, h => by
  rw [World.setCells]
  exact rw_setCells_same r (o + 1) (h.set o u)
def NB (B G : Nat) (o : Value) : Prop := ∀ b, o.ownBlock = some b → B ≤ b ∧ b ≠ G
def In2 (B G : Nat) (vc o : Value) : Prop := ∀ b, o.ownBlock = some b → (B ≤ b ∧ b ≠ G) ∧ vc.ownBlock ≠ some b
structure WldN (B G : Nat) (w : World) (vc vl : Value) (cs : List CelD) (ls : List (List Int)) : Prop where
 c : ∃ ps : List (Cel × Value), ps.length = cs.length ∧ Sl w 16 vc cs.length (rowC celC ps) ∧ ∀ k (hk : k < cs.length) (hk' : k < ps.length), ps[k].1 = cs[k].c ∧ Sl w 1 ps[k].2 cs[k].out.length (ints cs[k].out) ∧ In2 B G vc ps[k].2
 l : ∃ vs : List Value, vs.length = ls.length ∧ Sl w 1 vl ls.length vs ∧ ∀ k (hk : k < ls.length) (hk' : k < vs.length), Sl w 1 vs[k] ls[k].length (ints ls[k]) ∧ In2 B G vc vs[k]
 bc : NB B G vc
 bl : In2 B G vc vl
 fz : ∀ g, vc.ownBlock = some g → ∃ cur, Rw w g 35 cur
theorem WldN.wld {D : WldD} (h : WldN B G w vc vl D.cells D.lines) : Wld w vc vl D := by
 obtain ⟨⟨ps, p1, p2, p3⟩, ⟨vs, q1, q2, q3⟩, _, _, _⟩ := h
 exact ⟨⟨ps, p1, p2, fun k hk hk' => ⟨(p3 k hk hk').1, (p3 k hk hk').2.1⟩⟩, ⟨vs, q1, q2, fun k hk hk' => (q3 k hk hk').1⟩⟩
theorem NB.ne {o : Value} (h : NB B G o) {x : Nat} (hx : x < B ∨ x = G) : o.ownBlock ≠ some x := fun e => by
 have := h x e
 omega
theorem In2.ne {o : Value} (h : In2 B G vc o) {x : Nat} (hx : x < B ∨ x = G) : o.ownBlock ≠ some x := fun e => by
 have := (h x e).1
 omega
theorem WldN.set (h : WldN B G w vc vl cs ls) {x : Nat} (hx : x < B ∨ x = G) (i : Nat) (u : Value) : WldN B G (w.setCell ⟨x, i, none⟩ u) vc vl cs ls := by
 obtain ⟨⟨ps, p1, p2, p3⟩, ⟨vs, q1, q2, q3⟩, bc, bl, fz⟩ := h
 exact ⟨⟨ps, p1, p2.set u (bc.ne hx), fun k hk hk' => ⟨(p3 k hk hk').1, (p3 k hk hk').2.1.set u ((p3 k hk hk').2.2.ne hx), (p3 k hk hk').2.2⟩⟩, ⟨vs, q1, q2.set u (bl.ne hx), fun k hk hk' => ⟨(q3 k hk hk').1.set u ((q3 k hk hk').2.ne hx), (q3 k hk hk').2⟩⟩, bc, bl, fun g e => let ⟨c, hc⟩ := fz g e; ⟨c, hc.set_other _ (fun e' => bc.ne hx (e.trans (congrArg some e')))⟩⟩
theorem WldN.row (h : WldN B G w vc vl cs ls) {x : Nat} (hx : x < B ∨ x = G) (u : Array Value) : WldN B G (w.setRow x u) vc vl cs ls := by
 obtain ⟨⟨ps, p1, p2, p3⟩, ⟨vs, q1, q2, q3⟩, bc, bl, fz⟩ := h
 exact ⟨⟨ps, p1, p2.row u (bc.ne hx), fun k hk hk' => ⟨(p3 k hk hk').1, (p3 k hk hk').2.1.row u ((p3 k hk hk').2.2.ne hx), (p3 k hk hk').2.2⟩⟩, ⟨vs, q1, q2.row u (bl.ne hx), fun k hk hk' => ⟨(q3 k hk hk').1.row u ((q3 k hk hk').2.ne hx), (q3 k hk hk').2⟩⟩, bc, bl, fun g e => let ⟨c, hc⟩ := fz g e; ⟨c, hc.row_other _ (fun e' => bc.ne hx (e' ▸ e))⟩⟩
structure NewP (B G : Nat) (w : World) (vc vl : Value) (cs : List CelD) (ls : List (List Int)) : Prop where
 c : ∃ ps : List (Cel × Value), ps.length = cs.length ∧ w.ownsRow B 35 16 vc cs.length (rowC celC ps) ∧ ∀ k (hk : k < cs.length) (hk' : k < ps.length), ps[k].1 = cs[k].c ∧ Sl w 1 ps[k].2 cs[k].out.length (ints cs[k].out) ∧ In2 B G vc ps[k].2
 l : ∃ vs : List Value, vs.length = ls.length ∧ Sl w 1 vl ls.length vs ∧ ∀ k (hk : k < ls.length) (hk' : k < vs.length), Sl w 1 vs[k] ls[k].length (ints ls[k]) ∧ In2 B G vc vs[k]
 bl : In2 B G vc vl
theorem In.in2 {o : Value} (h : In B G w vc vl o) : In2 B G vc o := fun b e => ⟨(h b e).1, (h b e).2.2.1⟩
theorem NewV.newP (h : NewV B G w vc vl cs ls) (gl : vl.ownBlock ≠ some G) : NewP B G w vc vl cs ls := by
 obtain ⟨⟨ps, p1, p2, p3⟩, ⟨vs, q1, q2, q3⟩, a⟩ := h
 exact ⟨⟨ps, p1, p2, fun k hk hk' => ⟨(p3 k hk hk').1, (p3 k hk hk').2.1, (p3 k hk hk').2.2.in2⟩⟩, ⟨vs, q1, own_sl q2, fun k hk hk' => ⟨(q3 k hk hk').1, (q3 k hk hk').2.in2⟩⟩, fun b e => ⟨⟨own_block q2 b e, fun e' => gl (e' ▸ e)⟩, fun e' => a b e' e⟩⟩
theorem NewP.putC (h : NewP B G w vc vl cs ls) (gc : vc.ownBlock ≠ some G) {pn : Nat} (hp : pn < cs.length) (d : CelD) (o : Value) (ho : Sl w 1 o d.out.length (ints d.out)) (hi : In2 B G vc o) :
  ∃ g cap, vc = .slice (some ⟨g, 0, none⟩) cs.length cap ∧ B ≤ g ∧ g < w.heap.size ∧ cs.length ≤ cap ∧ w.there g (pn * 16) 16 ∧ WldN B G (w.setCells g (pn * 16) (d.c.cs o).toList) vc vl (cs.set pn d) ls := by
 obtain ⟨⟨ps, p1, p2, p3⟩, ⟨vs, q1, q2, q3⟩, a⟩ := h
 obtain ⟨hlen, hor⟩ := p2
 have p2' : w.ownsRow B 35 16 vc cs.length (rowC celC ps) := ⟨hlen, hor⟩
 rcases hor with ⟨-, h0⟩ | ⟨g, cap, cur, rfl, hg, hh, hcap, hmax, hsz, htk⟩
 ·omega
 have hgl := own_lt p2' g rfl
 have hcs : (d.c.cs o).toList.length = 16 := rfl
 have hcl : celC (d.c, o) = (d.c.cs o).toList := rfl
 generalize (d.c.cs o).toList = L at hcs hcl ⊢
 have hs := size_setCells L w g (pn * 16)
 have hth : w.there g (pn * 16) 16 := fun j hj => by
  refine ⟨?_, frozen_of_row w g _ cur _ hh⟩
  rw [cell_of_row w g _ cur _ _ hh, Array.getElem?_eq_getElem (by rw [hsz]; have : (pn + 1) * 16 ≤ cap * 16 := Nat.mul_le_mul_right 16 om; omega)]
  rfl
 refine ⟨g, cap, rfl, hg, hgl, hcap, hth, ⟨ps.set pn (d.c, o), by simp [p1], ?_, fun k hk hk' => ?_⟩, ⟨vs, q1, sl_setCells q2 _ _ hs (fun e => (a g e).2 rfl), fun k hk hk' => ⟨sl_setCells (q3 k hk hk').1 _ _ hs (fun e => ((q3 k hk hk').2 g e).2 rfl), (q3 k hk hk').2⟩⟩, fun b e => ⟨own_block p2' b e, fun e' => gc (e' ▸ e)⟩, a, fun g' e => by simp [Value.ownBlock] at e; subst e; exact rw_setCells_same L _ hh⟩
 ·have hsl := own_sl p2'
  refine ⟨by rw [rowC_len celC_len]; simp [p1], some ⟨g, 0, none⟩, cap, by simp, by simpa using hcap, fun hn => ⟨g, 0, rfl, by rw [hs]; exact hgl, fun j u hj => ?_, fun j _ => (World.frozen?_setCells g L _ w _).trans (frozen_of_row w g _ cur _ hh)⟩⟩
  have hjl : j < ps.length * 16 := by
   have := (List.getElem?_eq_some_iff.1 hj).1
   rw [rowC_len celC_len] at this
   simpa using this
  have hk : j / 16 < ps.length := by omega
  have hr : j % 16 < 16 := by omega
  have hjk : j = j / 16 * 16 + j % 16 := by omega
  rw [hjk, rowC_at celC_len _ (j / 16) (j % 16) (by simpa using hk) hr] at hj
  rw [Nat.zero_add]
  by_cases he : pn = j / 16
  ·have e1 : (ps.set pn (d.c, o))[j / 16]'(by simpa using hk) = (d.c, o) := by simp [he]
   rw [e1, hcl] at hj
   have := World.cell?_setCells_in g L (pn * 16) w (fun i hi' => (hth i om).1) (j % 16) om
   rw [List.getElem?_eq_getElem om] at hj
   rw [← he] at hjk
   rw [hjk, this]
   exact hj
  ·have e1 : (ps.set pn (d.c, o))[j / 16]'(by simpa using hk) = ps[j / 16] := List.getElem_set_ne om _
   rw [e1, ← rowC_at celC_len ps (j / 16) (j % 16) hk hr, ← hjk] at hj
   rw [World.cell?_setCells_out g L (pn * 16) w ⟨g, j, none⟩ (fun _ _ => by
    rw [hcs]
    rcases Nat.lt_or_ge (j / 16) pn with h1 | h1
    ·left; show j < pn * 16; omega
    ·right; show pn * 16 + 16 ≤ j; omega)]
   obtain ⟨b, off, cp, e, _, _, hc⟩ := hsl.open om
   injection e with e _ _
   injection e with e
   injection e with e e2
   subst e e2
   have := hc j u hj
   simpa using this
 ·have hk2 : k < cs.length := by simpa using hk
  have hk2' : k < ps.length := by omega
  by_cases he : pn = k
  ·subst he
   simp only [List.getElem_set_self]
   exact ⟨trivial, sl_setCells ho _ _ hs (fun e => (hi g e).2 rfl), hi⟩
  ·simp only [List.getElem_set_ne he]
   exact ⟨(p3 k hk2 hk2').1, sl_setCells (p3 k hk2 hk2').2.1 _ _ hs (fun e => ((p3 k hk2 hk2').2.2 g e).2 rfl), (p3 k hk2 hk2').2.2⟩
theorem NewV.putL (h : NewV B G w vc vl cs ls) {kn : Nat} (hk : kn < ls.length) (d : List Int) (o : Value) (ho : Sl w 1 o d.length (ints d)) (hi : In2 B G vc o) (hi2 : ∀ b, o.ownBlock = some b → vl.ownBlock ≠ some b) (gl : vl.ownBlock ≠ some G) :
  ∃ g cap, vl = .slice (some ⟨g, 0, none⟩) ls.length cap ∧ B ≤ g ∧ g < w.heap.size ∧ ls.length ≤ cap ∧ (∃ u, w.cell? ⟨g, kn, none⟩ = some u) ∧ w.frozen? ⟨g, kn, none⟩ = false ∧ NewP B G (w.setCell ⟨g, kn, none⟩ o) vc vl cs (ls.set kn d) := by
 obtain ⟨⟨ps, p1, p2, p3⟩, ⟨vs, q1, q2, q3⟩, a⟩ := h
 obtain ⟨hlen, hor⟩ := q2
 have q2' : w.ownsRow B 81 1 vl ls.length vs := ⟨hlen, hor⟩
 rcases hor with ⟨-, h0⟩ | ⟨g, cap, cur, rfl, hg, hh, hcap, hmax, hsz, htk⟩
 ·omega
 have hgl := own_lt q2' g rfl
 have hs : (w.setCell ⟨g, kn, none⟩ o).heap.size = w.heap.size := size_set ..
 have hne : ∀ x, In B G w vc (.slice (some ⟨g, 0, none⟩) ls.length cap) x → x.ownBlock ≠ some g := fun x hx e => (hx g e).2.2.2 rfl
 refine ⟨g, cap, rfl, hg, hgl, hcap, ?_, frozen_of_row w g _ cur _ hh, ⟨ps, p1, own_set (a := ⟨g, kn, none⟩) p2 o (fun e => a g e rfl), fun k hk hk' => ⟨(p3 k hk hk').1, (p3 k hk hk').2.1.set o (hne _ (p3 k hk hk').2.2), (p3 k hk hk').2.2.in2⟩⟩, ⟨vs.set kn o, by simp [q1], ?_, fun k hk2 hk' => ?_⟩, fun b e => ⟨⟨own_block q2' b e, fun e' => gl (e' ▸ e)⟩, fun e' => a b e' e⟩⟩
 ·rw [cell_of_row w g _ cur _ _ hh]
  exact ⟨_, Array.getElem?_eq_getElem om⟩
 ·refine own_sl (base := B) (e := 81) ⟨by simpa using hlen, .inr ⟨g, cap, cur.setIfInBounds kn o, by simp, hg, heap_setCell_same w g kn cur _ o hh, by simpa using hcap, hmax, by simpa using hsz, ?_⟩⟩
  rw [Array.toList_setIfInBounds, List.length_set, List.take_set, htk]
 ·have hk3 : k < ls.length := by simpa using hk2
  have hk3' : k < vs.length := by omega
  by_cases he : kn = k
  ·subst he
   simp only [List.getElem_set_self]
   exact ⟨ho.set o (fun e => hi2 g e rfl), hi⟩
  ·simp only [List.getElem_set_ne he]
   exact ⟨(q3 k hk3 hk3').1.set o (hne _ (q3 k hk3 hk3').2), (q3 k hk3 hk3').2.in2⟩
end
def NF (B : Nat) (v : Value) : Prop := ∀ b, v.ownBlock = some b → B ≤ b
def NS (B : Nat) (vc o : Value) : Prop := ∀ b, o.ownBlock = some b → B ≤ b ∧ vc.ownBlock ≠ some b
structure WldF (B : Nat) (w : World) (vc vl : Value) (D : WldD) : Prop where
 c : ∃ ps : List (Cel × Value), ps.length = D.cells.length ∧ Sl w 16 vc D.cells.length (rowC celC ps) ∧ ∀ k (hk : k < D.cells.length) (hk' : k < ps.length), ps[k].1 = D.cells[k].c ∧ Sl w 1 ps[k].2 D.cells[k].out.length (ints D.cells[k].out) ∧ NS B vc ps[k].2
 l : ∃ vs : List Value, vs.length = D.lines.length ∧ Sl w 1 vl D.lines.length vs ∧ ∀ k (hk : k < D.lines.length) (hk' : k < vs.length), Sl w 1 vs[k] D.lines[k].length (ints D.lines[k]) ∧ NS B vc vs[k]
 bc : NF B vc
 bl : NS B vc vl
 fz : ∀ g, vc.ownBlock = some g → ∃ cur, Rw w g 35 cur
theorem WldF.wld {B : Nat} {w : World} {vc vl : Value} {D : WldD} (h : WldF B w vc vl D) : Wld w vc vl D := by
 obtain ⟨⟨ps, p1, p2, p3⟩, ⟨vs, q1, q2, q3⟩, _, _, _⟩ := h
 exact ⟨⟨ps, p1, p2, fun k hk hk' => ⟨(p3 k hk hk').1, (p3 k hk hk').2.1⟩⟩, ⟨vs, q1, q2, fun k hk hk' => (q3 k hk hk').1⟩⟩
theorem NF.ne {B : Nat} {o : Value} (h : NF B o) {x : Nat} (hx : x < B) : o.ownBlock ≠ some x := fun e => by
 have := h x e
 omega
theorem NS.ne {B : Nat} {vc o : Value} (h : NS B vc o) {x : Nat} (hx : x < B) : o.ownBlock ≠ some x := fun e => by
 have := (h x e).1
 omega
theorem WldF.row {B : Nat} {w : World} {vc vl : Value} {D : WldD} (h : WldF B w vc vl D) {x : Nat} (hx : x < B) (u : Array Value) : WldF B (w.setRow x u) vc vl D := by
 obtain ⟨⟨ps, p1, p2, p3⟩, ⟨vs, q1, q2, q3⟩, bc, bl, fz⟩ := h
 exact ⟨⟨ps, p1, p2.row u (bc.ne hx), fun k hk hk' => ⟨(p3 k hk hk').1, (p3 k hk hk').2.1.row u ((p3 k hk hk').2.2.ne hx), (p3 k hk hk').2.2⟩⟩, ⟨vs, q1, q2.row u (bl.ne hx), fun k hk hk' => ⟨(q3 k hk hk').1.row u ((q3 k hk hk').2.ne hx), (q3 k hk hk').2⟩⟩, bc, bl, fun g e => let ⟨c, hc⟩ := fz g e; ⟨c, hc.row_other _ (fun e' => bc.ne hx (e' ▸ e))⟩⟩
theorem WldF.up {B : Nat} {w w' : World} {vc vl : Value} {D : WldD} (h : WldF B w vc vl D) (hb : Below w.heap.size w w') : WldF B w' vc vl D := by
 obtain ⟨⟨ps, p1, p2, p3⟩, ⟨vs, q1, q2, q3⟩, bc, bl, fz⟩ := h
 exact ⟨⟨ps, p1, p2.up hb, fun k hk hk' => ⟨(p3 k hk hk').1, (p3 k hk hk').2.1.up hb, (p3 k hk hk').2.2⟩⟩, ⟨vs, q1, q2.up hb, fun k hk hk' => ⟨(q3 k hk hk').1.up hb, (q3 k hk hk').2⟩⟩, bc, bl, fun g e => let ⟨c, hc⟩ := fz g e; ⟨c, hc.up hb hc.lt⟩⟩
theorem WldF.low {B B' : Nat} {w : World} {vc vl : Value} {D : WldD} (h : WldF B w vc vl D) (hb : B' ≤ B) : WldF B' w vc vl D := by
 obtain ⟨⟨ps, p1, p2, p3⟩, ⟨vs, q1, q2, q3⟩, bc, bl, fz⟩ := h
 have low : ∀ o, NS B vc o → NS B' vc o := fun o h b e => ⟨Nat.le_trans hb (h b e).1, (h b e).2⟩
 exact ⟨⟨ps, p1, p2, fun k hk hk' => ⟨(p3 k hk hk').1, (p3 k hk hk').2.1, low _ (p3 k hk hk').2.2⟩⟩, ⟨vs, q1, q2, fun k hk hk' => ⟨(q3 k hk hk').1, low _ (q3 k hk hk').2⟩⟩, fun b e => Nat.le_trans hb (bc b e), low _ bl, fz⟩
theorem WldN.f {B G B' : Nat} {w : World} {vc vl : Value} {D : WldD} (h : WldN B G w vc vl D.cells D.lines) (hb : B' ≤ B) : WldF B' w vc vl D := by
 obtain ⟨⟨ps, p1, p2, p3⟩, ⟨vs, q1, q2, q3⟩, bc, bl, fz⟩ := h
 have low : ∀ o, In2 B G vc o → NS B' vc o := fun o h b e => ⟨Nat.le_trans hb (h b e).1.1, (h b e).2⟩
 exact ⟨⟨ps, p1, p2, fun k hk hk' => ⟨(p3 k hk hk').1, (p3 k hk hk').2.1, low _ (p3 k hk hk').2.2⟩⟩, ⟨vs, q1, q2, fun k hk hk' => ⟨(q3 k hk hk').1, low _ (q3 k hk hk').2⟩⟩, fun b e => Nat.le_trans hb (bc b e).1, low _ bl, fz⟩
theorem setReg_at (c : Cel) (k v : Int) : (c.setReg k v).at_ = c.at_ := by unfold Cel.setReg; split <;> (try split) <;> (try split) <;> rfl
theorem setReg_read (c : Cel) (k v : Int) : (c.setReg k v).read = c.read := by unfold Cel.setReg; split <;> (try split) <;> (try split) <;> rfl
theorem setReg_en (c : Cel) (k v : Int) : (c.setReg k v).en = c.en := by unfold Cel.setReg; split <;> (try split) <;> (try split) <;> rfl
theorem setMem_read (c : Cel) (k v : Int) : (c.setMem k v).read = c.read := by unfold Cel.setMem; repeat' (first | rfl | split)
theorem setMem_en (c : Cel) (k v : Int) : (c.setMem k v).en = c.en := by unfold Cel.setMem; repeat' (first | rfl | split)
theorem tellL_take (xs : List Int) (n : Int) : (tellL xs n).take xs.length = xs ∧ xs.length ≤ (tellL xs n).length ∧ (xs.length ≤ 16 → (tellL xs n).length ≤ 16) := by
 unfold tellL
 split
 ·simp; omega
 ·simp
structure Goes (inn xs : List Int) (c c' : Cel) (ys : List Int) : Prop where
 at0 : 0 ≤ c'.at_
 at1 : c'.at_ ≤ 20
 en0 : 0 ≤ c'.en
 en1 : c'.en ≤ 2
 rd0 : c.read ≤ c'.read
 rd1 : c'.read ≤ c.read + 1
 rd2 : c'.read ≤ inn.length
 out : ys.take xs.length = xs
 len : xs.length ≤ ys.length
 len2 : ys.length ≤ 16
theorem takeC_read (c : Cel) (n : Nat) (h : c.read ≤ n) : c.read ≤ (takeC c n).read ∧ (takeC c n).read ≤ c.read + 1 ∧ (takeC c n).read ≤ n := by
 unfold takeC
 split
 ·simp; omega
 ·omega
theorem takeC_en (c : Cel) (n : Nat) : (takeC c n).en = c.en := by unfold takeC; split <;> rfl
theorem doC_goes {i : Ins} (hi : i.chk = 0) {inn xs ys : List Int} {c c' : Cel} {x x' : Wnt} (h : doC i inn xs c x = some (c', ys, x')) (h0 : 0 ≤ c.at_) (h1 : c.at_ < 20) (h2 : 0 ≤ c.en) (h3 : c.en ≤ 2) (h4 : c.read ≤ inn.length) (h5 : xs.length ≤ 16) : Goes inn xs c c' ys := by
 obtain ⟨hop, ⟨ha0, ha1⟩, ⟨hb0, hb1⟩, hj, hch⟩ := chk0 (op := i.op) (a := i.a) (b := i.b) (n := i.n) hi
 have ht := tellL_take xs (c.reg i.a)
 have hk := takeC_read c inn.length h4
 have hx : xs.take xs.length = xs := List.take_of_length_le (Nat.le_refl _)
 unfold doC at h
 by_cases o1 : i.op = 1
 ·rw [if_pos o1] at h; injection h with h; injection h with ha h; injection h with hb hc; subst ha hb hc
  exact ⟨by simp only []; omega, by simp only []; omega, by simp only [setReg_en, setMem_en, takeC_en]; omega, by simp only [setReg_en, setMem_en, takeC_en]; omega, by simp only [setReg_read, setMem_read]; omega, by simp only [setReg_read, setMem_read]; omega, by simp only [setReg_read, setMem_read]; omega, hx, Nat.le_refl _, h5⟩
 rw [if_neg o1] at h
 by_cases o2 : i.op = 2
 ·rw [if_pos o2] at h; injection h with h; injection h with ha h; injection h with hb hc; subst ha hb hc
  exact ⟨by simp only []; omega, by simp only []; omega, by simp only [setReg_en, setMem_en, takeC_en]; omega, by simp only [setReg_en, setMem_en, takeC_en]; omega, by simp only [setReg_read, setMem_read]; omega, by simp only [setReg_read, setMem_read]; omega, by simp only [setReg_read, setMem_read]; omega, hx, Nat.le_refl _, h5⟩
 rw [if_neg o2] at h
 by_cases o3 : i.op = 3
 ·rw [if_pos o3] at h; injection h with h; injection h with ha h; injection h with hb hc; subst ha hb hc
  exact ⟨by simp only []; omega, by simp only []; omega, by simp only [setReg_en, setMem_en, takeC_en]; omega, by simp only [setReg_en, setMem_en, takeC_en]; omega, by simp only [setReg_read, setMem_read]; omega, by simp only [setReg_read, setMem_read]; omega, by simp only [setReg_read, setMem_read]; omega, hx, Nat.le_refl _, h5⟩
 rw [if_neg o3] at h
 by_cases o4 : i.op = 4
 ·rw [if_pos o4] at h; injection h with h; injection h with ha h; injection h with hb hc; subst ha hb hc
  exact ⟨by simp only []; omega, by simp only []; omega, by simp only [setReg_en, setMem_en, takeC_en]; omega, by simp only [setReg_en, setMem_en, takeC_en]; omega, by simp only [setReg_read, setMem_read]; omega, by simp only [setReg_read, setMem_read]; omega, by simp only [setReg_read, setMem_read]; omega, hx, Nat.le_refl _, h5⟩
 rw [if_neg o4] at h
 by_cases o5 : i.op = 5
 ·rw [if_pos o5] at h; injection h with h; injection h with ha h; injection h with hb hc; subst ha hb hc
  exact ⟨by simp only []; omega, by simp only []; omega, by simp only [setReg_en, setMem_en, takeC_en]; omega, by simp only [setReg_en, setMem_en, takeC_en]; omega, by simp only [setReg_read, setMem_read]; omega, by simp only [setReg_read, setMem_read]; omega, by simp only [setReg_read, setMem_read]; omega, hx, Nat.le_refl _, h5⟩
 rw [if_neg o5] at h
 by_cases o6 : i.op = 6
 ·rw [if_pos o6] at h
  by_cases hm : c.reg i.b < 0 ∨ 8 ≤ c.reg i.b
  ·rw [if_pos hm] at h; cases h
  ·rw [if_neg hm] at h; injection h with h; injection h with ha h; injection h with hb hc; subst ha hb hc
   exact ⟨by simp only []; omega, by simp only []; omega, by simp only [setReg_en, setMem_en, takeC_en]; omega, by simp only [setReg_en, setMem_en, takeC_en]; omega, by simp only [setReg_read, setMem_read]; omega, by simp only [setReg_read, setMem_read]; omega, by simp only [setReg_read, setMem_read]; omega, hx, Nat.le_refl _, h5⟩
 rw [if_neg o6] at h
 by_cases o7 : i.op = 7
 ·rw [if_pos o7] at h
  by_cases hm : c.reg i.b < 0 ∨ 8 ≤ c.reg i.b
  ·rw [if_pos hm] at h; cases h
  ·rw [if_neg hm] at h; injection h with h; injection h with ha h; injection h with hb hc; subst ha hb hc
   exact ⟨by simp only []; omega, by simp only []; omega, by simp only [setReg_en, setMem_en, takeC_en]; omega, by simp only [setReg_en, setMem_en, takeC_en]; omega, by simp only [setReg_read, setMem_read]; omega, by simp only [setReg_read, setMem_read]; omega, by simp only [setReg_read, setMem_read]; omega, hx, Nat.le_refl _, h5⟩
 rw [if_neg o7] at h
 by_cases o8 : i.op = 8
 ·rw [if_pos o8] at h; injection h with h; injection h with ha h; injection h with hb hc; subst ha hb hc
  have := hj (.inl o8)
  exact ⟨by simp only []; omega, by simp only []; omega, by simp only [setReg_en, setMem_en, takeC_en]; omega, by simp only [setReg_en, setMem_en, takeC_en]; omega, by simp only [setReg_read, setMem_read]; omega, by simp only [setReg_read, setMem_read]; omega, by simp only [setReg_read, setMem_read]; omega, hx, Nat.le_refl _, h5⟩
 rw [if_neg o8] at h
 by_cases o9 : i.op = 9
 ·rw [if_pos o9] at h; injection h with h; injection h with ha h; injection h with hb hc; subst ha hb hc
  have := hj (.inr o9)
  by_cases hz : c.reg i.a = 0
  ·exact ⟨by simp only [hz, if_true]; omega, by simp only [hz, if_true]; omega, by simp only []; omega, by simp only []; omega, by simp only []; omega, by simp only []; omega, by simp only []; omega, hx, Nat.le_refl _, h5⟩
  ·exact ⟨by simp only [hz, if_false]; omega, by simp only [hz, if_false]; omega, by simp only []; omega, by simp only []; omega, by simp only []; omega, by simp only []; omega, by simp only []; omega, hx, Nat.le_refl _, h5⟩
 rw [if_neg o9] at h
 by_cases o10 : i.op = 10
 ·rw [if_pos o10] at h; injection h with h; injection h with ha h; injection h with hb hc; subst ha hb hc
  exact ⟨by simp only []; omega, by simp only []; omega, by simp only [setReg_en, setMem_en, takeC_en]; omega, by simp only [setReg_en, setMem_en, takeC_en]; omega, by simp only [setReg_read, setMem_read]; omega, by simp only [setReg_read, setMem_read]; omega, by simp only [setReg_read, setMem_read]; omega, hx, Nat.le_refl _, h5⟩
 rw [if_neg o10] at h
 by_cases o11 : i.op = 11
 ·rw [if_pos o11] at h; injection h with h; injection h with ha h; injection h with hb hc; subst ha hb hc
  exact ⟨by simp only []; omega, by simp only []; omega, by simp only [setReg_en, setMem_en, takeC_en]; omega, by simp only [setReg_en, setMem_en, takeC_en]; omega, by simp only [setReg_read, setMem_read]; omega, by simp only [setReg_read, setMem_read]; omega, by simp only [setReg_read, setMem_read]; omega, ht.1, ht.2.1, ht.2.2 h5⟩
 rw [if_neg o11] at h
 by_cases o12 : i.op = 12
 ·rw [if_pos o12] at h; injection h with h; injection h with ha h; injection h with hb hc; subst ha hb hc
  exact ⟨by simp only []; omega, by simp only []; omega, by simp only [setReg_en, setMem_en, takeC_en]; omega, by simp only [setReg_en, setMem_en, takeC_en]; omega, by simp only [setReg_read, setMem_read]; omega, by simp only [setReg_read, setMem_read]; omega, by simp only [setReg_read, setMem_read]; omega, hx, Nat.le_refl _, h5⟩
 rw [if_neg o12] at h
 by_cases o13 : i.op = 13
 ·rw [if_pos o13] at h; injection h with h; injection h with ha h; injection h with hb hc; subst ha hb hc
  exact ⟨by simp only []; omega, by simp only []; omega, by simp only [setReg_en, setMem_en, takeC_en]; omega, by simp only [setReg_en, setMem_en, takeC_en]; omega, by simp only [setReg_read, setMem_read]; omega, by simp only [setReg_read, setMem_read]; omega, by simp only [setReg_read, setMem_read]; omega, hx, Nat.le_refl _, h5⟩
 rw [if_neg o13] at h
 by_cases o14 : i.op = 14
 ·rw [if_pos o14] at h; injection h with h; injection h with ha h; injection h with hb hc; subst ha hb hc
  exact ⟨by simp only []; omega, by simp only []; omega, by simp only [setReg_en, setMem_en, takeC_en]; omega, by simp only [setReg_en, setMem_en, takeC_en]; omega, by simp only [setReg_read, setMem_read]; omega, by simp only [setReg_read, setMem_read]; omega, by simp only [setReg_read, setMem_read]; omega, hx, Nat.le_refl _, h5⟩
 rw [if_neg o14] at h
 injection h with h; injection h with ha h; injection h with hb hc; subst ha hb hc
 exact ⟨by simp only []; omega, by simp only []; omega, by simp only [setReg_en, setMem_en, takeC_en]; omega, by simp only [setReg_en, setMem_en, takeC_en]; omega, by simp only [setReg_read, setMem_read]; omega, by simp only [setReg_read, setMem_read]; omega, by simp only [setReg_read, setMem_read]; omega, hx, Nat.le_refl _, h5⟩
theorem stepC_goes {l : List Ins} (hl : chkC l = 0) {inn xs : List Int} {c : Cel} (hf : c.fine xs.length = true) (hr : c.read ≤ inn.length) : Goes inn xs c (stepC l inn xs c).1 (stepC l inn xs c).2.1 := by
 obtain ⟨f0, f1, f2, f3, f4, f5, f6⟩ := (fine_iff c _).1 hf
 have hx : xs.take xs.length = xs := List.take_of_length_le (Nat.le_refl _)
 have hn : l.length ≤ 20 ∧ firstE l = 0 := by
  unfold chkC at hl
  split at hl
  ·omega
  ·exact ⟨by omega, hl⟩
 unfold stepC
 split
 ·unfold runC
  split
  ·exact ⟨f0, f1, (show (0 : Int) ≤ 2 by decide), (show (2 : Int) ≤ 2 by decide), Int.le_refl _, by simp only []; omega, hr, hx, Nat.le_refl _, f6⟩
  ·rename_i i hi
   have hlt : c.at_.toNat < l.length := (List.getElem?_eq_some_iff.1 hi).1
   have hck : i.chk = 0 := by
    have := firstE_zero hn.2 _ hlt
    rw [(List.getElem?_eq_some_iff.1 hi).2] at this
    exact this
   cases h : doC i inn xs c wntZ with
   | none => exact ⟨f0, f1, (show (0 : Int) ≤ 2 by decide), (show (2 : Int) ≤ 2 by decide), Int.le_refl _, by simp only [Option.getD_none]; omega, hr, hx, Nat.le_refl _, f6⟩
   | some r =>
    obtain ⟨c', ys, x'⟩ := r
    exact doC_goes hck h f0 om f4 f5 hr f6
 ·exact ⟨f0, f1, f4, f5, Int.le_refl _, by simp only []; omega, hr, hx, Nat.le_refl _, f6⟩
theorem Goes.fine {inn xs : List Int} {c c' : Cel} {ys : List Int} (h : Goes inn xs c c' ys) (h0 : 0 ≤ c.read) (hi : inn.length ≤ 12) : c'.fine ys.length = true :=
 (fine_iff _ _).2 ⟨h.at0, h.at1, by have := h.rd0; omega, by have := h.rd2; omega, h.en0, h.en1, h.len2⟩
end Go.Proofs.YtehhhiodfcdnmaaGreatDoor

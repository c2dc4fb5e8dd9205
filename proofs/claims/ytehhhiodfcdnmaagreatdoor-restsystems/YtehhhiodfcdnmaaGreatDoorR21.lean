/- A system that is being built, partition by partition. -/
import Derived.Test.YtehhhiodfcdnmaaGreatDoorR5
import Derived.Test.YtehhhiodfcdnmaaGreatDoorR15
import Derived.Deep.CutRange
import Derived.Deep.RegionWith
import Derived.Deep.RegionHeld3
import Derived.Deep.DrawnRows
import Derived.Test.YtehhhiodfcdnmaaGreatDoorR0
namespace Go.Proofs.YtehhhiodfcdnmaaGreatDoor
set_option linter.unusedSimpArgs false
set_option linter.unusedVariables false
set_option maxRecDepth 100000
set_option maxHeartbeats 8000000
open Go.RowKit Go.Sort
theorem own_new {w : World} {base : Nat} {e : TypeId} {size : Nat} {v : Value} {n : Nat} {xs : List Value} (h : w.ownsRow base e size v n xs) : NewB base v := own_block h
theorem own_upC {w w' : World} {base : Nat} {e : TypeId} {size : Nat} {v : Value} {n : Nat} {xs : List Value} (h : w.ownsRow base e size v n xs) (hb : Below w.heap.size w w') : w'.ownsRow base e size v n xs := by
 have hlt := h.lt
 refine ⟨h.1, ?_⟩
 rcases h.2 with hn | ⟨g, cap, cur, rfl, hg, hh, r⟩
 ·exact .inl hn
 ·exact .inr ⟨g, cap, cur, rfl, hg, by rw [hb.block g (hlt g rfl).2]; exact hh, r⟩
theorem sl_grown {w w' : World} {row : Option Nat} {size : Nat} {v : Value} {n : Nat} {xs : List Value} (h : Sl w size v n xs) (hg : w.grownBy w' row) (hne : ∀ k, v.ownBlock = some k → row ≠ some k) : Sl w' size v n xs := by
 obtain ⟨h1, ao, cap, rfl, h3, h4⟩ := h
 refine ⟨h1, ao, cap, rfl, h3, fun hn => ?_⟩
 obtain ⟨b, off, rfl, hlt, hc, hz⟩ := h4 hn
 exact ⟨b, off, rfl, Nat.lt_of_lt_of_le hlt hg.size, fun j u hj => (hg.cell_far ⟨b, off + j, none⟩ hlt (fun e => hne b rfl e.symm)).trans (hc j u hj), hz.of (hg.block b hlt (fun e => hne b rfl e.symm))⟩
def Apart (v u : Value) : Prop := ∀ k, v.ownBlock = some k → u.ownBlock ≠ some k
theorem apart_lt {v u : Value} {m : Nat} (hv : NewB m v) (hu : ∀ k, u.ownBlock = some k → k < m) : Apart v u := fun k e e2 => by have := hv k e; have := hu k e2; omega
def LtB (w : World) (v : Value) : Prop := ∀ b, v.ownBlock = some b → b < w.heap.size
theorem LtB.up {w w' : World} {v : Value} (h : LtB w v) (hs : w.heap.size ≤ w'.heap.size) : LtB w' v := fun b e => Nat.lt_of_lt_of_le (h b e) hs
theorem own_ltB {w : World} {base : Nat} {e : TypeId} {size : Nat} {v : Value} {n : Nat} {xs : List Value} (h : w.ownsRow base e size v n xs) : LtB w v := fun b e => (h.lt b e).2
structure Bld (n base : Nat) (wr : World) (g : Nat) (vp vc vs : Value) (ps : List Prt) (cs : List Chn) (ss : List Slt) : Prop where
 cp : wr.cell? ⟨g, 0, none⟩ = some vp
 fp : wr.frozen? ⟨g, 0, none⟩ = false
 cc : wr.cell? ⟨g, 1, none⟩ = some vc
 ct : wr.cell? ⟨g, 2, none⟩ = some vs
 gl : g < base
 gn : n ≤ g
 bs : base ≤ wr.heap.size
 row : ∃ l : List (Value × Value), l.length = ps.length ∧ wr.ownsRow base 49 2 vp ps.length (rowC prC l) ∧ ∀ k (hk : k < ps.length) (hk' : k < l.length), PrtR wr l[k].1 l[k].2 ps[k] ∧ (NewB (g + 1) l[k].1 ∧ NewB (g + 1) l[k].2) ∧ (Apart l[k].1 vp ∧ Apart l[k].2 vp) ∧ LtB wr l[k].1 ∧ LtB wr l[k].2
 c : Sl wr 3 vc cs.length (rowC chC cs)
 s : Sl wr 2 vs ss.length (rowC slC ss)
 nc : NewB n vc ∧ ∀ k, vc.ownBlock = some k → k ≠ g ∧ k < base
 ns : NewB n vs ∧ ∀ k, vs.ownBlock = some k → k ≠ g ∧ k < base
theorem Bld.form {n base : Nat} {wr : World} {g : Nat} {vp vc vs : Value} {ps : List Prt} {cs : List Chn} {ss : List Slt} (h : Bld n base wr g vp vc vs ps cs ss) : ∃ a c, vp = .slice a ps.length c := by
 obtain ⟨l, _, h2, _⟩ := h.row
 exact own_form h2
theorem Bld.up {n base : Nat} {wr wr' : World} {g : Nat} {vp vc vs : Value} {ps : List Prt} {cs : List Chn} {ss : List Slt} (h : Bld n base wr g vp vc vs ps cs ss) (hb : Below wr.heap.size wr wr') : Bld n base wr' g vp vc vs ps cs ss := by
 obtain ⟨l, h1, h2, h3⟩ := h.row
 have hg : g < wr.heap.size := Nat.lt_of_lt_of_le h.gl h.bs
 exact ⟨bcl hb hg h.cp, bfr hb hg h.fp, bcl hb hg h.cc, bcl hb hg h.ct, h.gl, h.gn, Nat.le_trans h.bs hb.size, ⟨l, h1, own_upC h2 hb, fun k hk hk' => ⟨(h3 k hk hk').1.up hb, (h3 k hk hk').2.1, (h3 k hk hk').2.2.1, (h3 k hk hk').2.2.2.1.up hb.size, (h3 k hk hk').2.2.2.2.up hb.size⟩⟩, h.c.up hb, h.s.up hb, h.nc, h.ns⟩
theorem rowC_snoc {α : Type} (f : α → List Value) (l : List α) (x : α) : rowC f (l ++ [x]) = rowC f l ++ f x := by simp [rowC]
theorem Bld.step {n base : Nat} {w2 w3 : World} {g : Nat} {vp vp' vc vs v1 v2 : Value} {ps : List Prt} {cs : List Chn} {ss : List Slt} {p : Prt} {m : Nat} (h : Bld n base w2 g vp vc vs ps cs ss)
  (hp : PrtR w2 v1 v2 p) (h1 : NewB m v1) (h2 : NewB m v2) (hm : g + 1 ≤ m) (hvp : ∀ k, vp.ownBlock = some k → k < m) (l0 : List (Value × Value))
  (hl0 : l0.length = ps.length ∧ w2.ownsRow base 49 2 vp ps.length (rowC prC l0) ∧ ∀ k (hk : k < ps.length) (hk' : k < l0.length), PrtR w2 l0[k].1 l0[k].2 ps[k] ∧ (NewB (g + 1) l0[k].1 ∧ NewB (g + 1) l0[k].2) ∧ (Apart l0[k].1 vp ∧ Apart l0[k].2 vp) ∧ LtB w2 l0[k].1 ∧ LtB w2 l0[k].2)
  (hlt1 : LtB w2 v1 ∧ LtB w2 v2)
  {o : Obj} (hgrow : (w2.alloc o).grownBy w3 vp.ownBlock) (hown : w3.ownsRow base 49 2 vp' (ps.length + 1) (rowC prC l0 ++ [v1, v2])) (hat : ∀ k, vp'.ownBlock = some k → vp.ownBlock = some k ∨ w2.heap.size + 1 ≤ k) :
  Bld n base (w3.setCell ⟨g, 0, none⟩ vp') g vp' vc vs (ps ++ [p]) cs ss ∧ (∀ b, vp'.ownBlock = some b → base ≤ b) := by
 have hb2 : Below w2.heap.size w2 (w2.alloc o) := (Below.refl _ _).alloc (Nat.le_refl _) _
 have hu := h.up hb2
 have hg : g < w2.heap.size := Nat.lt_of_lt_of_le h.gl h.bs
 have hrow := hl0.2.1
 have hgv : some g ≠ vp.ownBlock := fun e => by have := own_block hrow g e.symm; have := h.gl; omega
 have hgl : g < (w2.alloc o).heap.size := by simp; omega
 have hbs := h.bs
 have hnew' := own_block hown
 have far : ∀ v : Value, (∀ b, v.ownBlock = some b → b < w2.heap.size) → Apart v vp → Apart v vp' := fun v hv ha k e e2 => by
  rcases hat k e2 with h1 | h1
  ·exact ha k e h1
  ·have := hv k e; omega
 have slg : ∀ {size nn : Nat} {v : Value} {xs : List Value}, Sl w2 size v nn xs → NewB (g + 1) v → Apart v vp → Sl (w3.setCell ⟨g, 0, none⟩ vp') size v nn xs := fun hs hn ha =>
  (sl_grown (hs.up hb2) hgrow (fun k e e2 => ha k e e2)).set _ (fun e => by have := hn g e; omega)
 have slc : ∀ {size nn : Nat} {v : Value} {xs : List Value}, Sl w2 size v nn xs → (∀ k, v.ownBlock = some k → k ≠ g ∧ k < base) → Sl (w3.setCell ⟨g, 0, none⟩ vp') size v nn xs := fun hs hn =>
  (sl_grown (hs.up hb2) hgrow (fun k e e2 => by have := own_block hrow k e2; have := (hn k e).2; omega)).set _ (fun e => (hn g e).1 rfl)
 have hsz : w2.heap.size ≤ (w3.setCell ⟨g, 0, none⟩ vp').heap.size := by rw [size_set]; have := hgrow.size; simp at this; omega
 have c0 : w3.cell? ⟨g, 0, none⟩ = some vp := (hgrow.cell_far ⟨g, 0, none⟩ hgl hgv).trans hu.cp
 refine ⟨⟨cl_same c0, fr_set ((hgrow.frozen_far ⟨g, 0, none⟩ hgl hgv).trans hu.fp), cl_set (Or.inr (by decide)) ((hgrow.cell_far ⟨g, 1, none⟩ hgl hgv).trans hu.cc), cl_set (Or.inr (by decide)) ((hgrow.cell_far ⟨g, 2, none⟩ hgl hgv).trans hu.ct), h.gl, h.gn, ?_, ?_, slc h.c h.nc.2, slc h.s h.ns.2, h.nc, h.ns⟩, hnew'⟩
 ·rw [size_set]; have := hgrow.size; simp at this; omega
 ·refine ⟨l0 ++ [(v1, v2)], by simp [hl0.1], ?_, fun k hk hk' => ?_⟩
  ·rw [rowC_snoc]
   have : (ps ++ [p]).length = ps.length + 1 := by simp
   rw [this]
   exact ownsRow_setCell_below hown (by simpa using h.gl) _
  ·by_cases hkl : k < l0.length
   ·have hkp : k < ps.length := by have := hl0.1; omega
    obtain ⟨a1, ⟨a2, a3⟩, ⟨a4, a5⟩, a6, a7⟩ := hl0.2.2 k hkp hkl
    rw [List.getElem_append_left hkl, List.getElem_append_left hkp]
    exact ⟨⟨slg a1.code a2 a4, slg a1.inn a3 a5⟩, ⟨a2, a3⟩, ⟨far _ a6 a4, far _ a7 a5⟩, a6.up hsz, a7.up hsz⟩
   ·have hke : k = ps.length := by have := hl0.1; simp at hk; omega
    have hke' : k = l0.length := by have := hl0.1; omega
    have e1 : (l0 ++ [(v1, v2)])[k] = (v1, v2) := by rw [List.getElem_append_right om]; simp
    have e2 : (ps ++ [p])[k] = p := by rw [List.getElem_append_right om]; simp
    rw [e1, e2]
    have n1 : NewB (g + 1) v1 := h1.mono hm
    have n2 : NewB (g + 1) v2 := h2.mono hm
    exact ⟨⟨slg hp.code n1 (apart_lt h1 hvp), slg hp.inn n2 (apart_lt h2 hvp)⟩, ⟨n1, n2⟩, ⟨far _ hlt1.1 (apart_lt h1 hvp), far _ hlt1.2 (apart_lt h2 hvp)⟩, hlt1.1.up hsz, hlt1.2.up hsz⟩
theorem Bld.done {n base : Nat} {wr : World} {g : Nat} {vp vc vs : Value} {ps : List Prt} {cs : List Chn} {ss : List Slt} (h : Bld n base wr g vp vc vs ps cs ss) : SysN n wr vp vc vs ⟨ps, cs, ss⟩ := by
 obtain ⟨l, h1, h2, h3⟩ := h.row
 have hgn := h.gn
 have hgl := h.gl
 exact ⟨⟨l, h1, own_sl h2, fun k e => by have := own_block h2 k e; omega, fun k hk hk' => ⟨(h3 k hk hk').1, (h3 k hk hk').2.1.1.mono om, (h3 k hk hk').2.1.2.mono om⟩⟩, h.c, h.s, h.nc.1, h.ns.1⟩
attribute [local go_sem ↓] Go.wp_at_zero Go.wp_at_succ
structure Var3 (w : World) (g : Nat) (a b c : Value) : Prop where
 x : w.cell? ⟨g, 0, none⟩ = some a
 y : w.cell? ⟨g, 1, none⟩ = some b
 z : w.cell? ⟨g, 2, none⟩ = some c
 fx : w.frozen? ⟨g, 0, none⟩ = false
 fy : w.frozen? ⟨g, 1, none⟩ = false
 fz : w.frozen? ⟨g, 2, none⟩ = false
 lt : g < w.heap.size
theorem Var3.up {w w' : World} {g : Nat} {a b c : Value} (h : Var3 w g a b c) (hb : Below w.heap.size w w') : Var3 w' g a b c :=
 ⟨bcl hb h.lt h.x, bcl hb h.lt h.y, bcl hb h.lt h.z, bfr hb h.lt h.fx, bfr hb h.lt h.fy, bfr hb h.lt h.fz, Nat.lt_of_lt_of_le h.lt hb.size⟩
theorem var3_new (w : World) (a b c : Value) (t : TypeId) (g : Nat) (hg : g = w.heap.size) : Var3 (w.alloc (.cells #[a, b, c] t)) g a b c := by
 subst hg
 exact ⟨by simp, by simp, by simp, by simp, by simp, by simp, by simp⟩
def stopP : Prt := ⟨[⟨15, 0, 0, 0⟩], []⟩
def calmS (S : SysD) (k : Nat) : SysD := ⟨S.parts.set k stopP, S.chans, S.slots⟩
attribute [local go_sem ↓] Go.wp_at_zero Go.wp_at_succ
theorem Var3.sets {w : World} {g : Nat} {a b c a' b' c' : Value} (h : Var3 w g a b c) : Var3 (((w.setCell ⟨g, 0, none⟩ a').setCell ⟨g, 1, none⟩ b').setCell ⟨g, 2, none⟩ c') g a' b' c' :=
 ⟨cl_set (Or.inr (by decide)) (cl_set (Or.inr (by decide)) (cl_same h.x)), cl_set (Or.inr (by decide)) (cl_same (cl_set (Or.inr (by decide)) h.y)), cl_same (cl_set (Or.inr (by decide)) (cl_set (Or.inr (by decide)) h.z)),
  fr_set (fr_set (fr_set h.fx)), fr_set (fr_set (fr_set h.fy)), fr_set (fr_set (fr_set h.fz)), by rw [size_set, size_set, size_set]; exact h.lt⟩
theorem bld_of {n : Nat} {w' : World} {g : Nat} {v1 v2 : Value} {cs : List Chn} {ss : List Slt} (V : Var3 w' g (.slice none 0 0) v1 v2) (s1 : Sl w' 3 v1 cs.length (rowC chC cs)) (s2 : Sl w' 2 v2 ss.length (rowC slC ss)) (hn : n ≤ g)
  (h1 : NewB n v1 ∧ ∀ k, v1.ownBlock = some k → k ≠ g ∧ k < w'.heap.size) (h2 : NewB n v2 ∧ ∀ k, v2.ownBlock = some k → k ≠ g ∧ k < w'.heap.size) : Bld n w'.heap.size w' g (.slice none 0 0) v1 v2 [] cs ss :=
 ⟨V.x, V.fx, V.y, V.z, V.lt, hn, Nat.le_refl _, ⟨[], rfl, World.ownsRow_nil _ _ _ _, fun k hk => absurd hk (by simp)⟩, s1, s2, h1, h2⟩
theorem bldA {n : Nat} {w3 w4 : World} {g B1 B2 : Nat} {v1 v2 : Value} {cs : List Chn} {ss : List Slt} (V : Var3 w4 g (.slice none 0 0) (.slice none 0 0) (.slice none 0 0)) (o1 : w3.ownsRow B1 89 3 v1 cs.length (rowC chC cs)) (b34 : Below w3.heap.size w3 w4) (o2 : w4.ownsRow B2 105 2 v2 ss.length (rowC slC ss))
  (hn : n ≤ g) (hB1 : n ≤ B1) (hB2 : n ≤ B2) (h1 : g < B1 ∨ w3.heap.size ≤ g) (h2 : g < B2) :
  Bld n (((w4.setCell ⟨g, 0, none⟩ (.slice none 0 0)).setCell ⟨g, 1, none⟩ v1).setCell ⟨g, 2, none⟩ v2).heap.size (((w4.setCell ⟨g, 0, none⟩ (.slice none 0 0)).setCell ⟨g, 1, none⟩ v1).setCell ⟨g, 2, none⟩ v2) g (.slice none 0 0) v1 v2 [] cs ss := by
 have hz : (((w4.setCell ⟨g, 0, none⟩ (.slice none 0 0)).setCell ⟨g, 1, none⟩ v1).setCell ⟨g, 2, none⟩ v2).heap.size = w4.heap.size := by rw [size_set, size_set, size_set]
 have l1 := own_ltB o1
 have l2 := own_ltB o2
 have n1 := own_block o1
 have n2 := own_block o2
 have zb := b34.size
 have a1 : ∀ k, v1.ownBlock = some k → k ≠ g ∧ k < w4.heap.size := fun k e => by have := l1 k e; have := n1 k e; omega
 have a2 : ∀ k, v2.ownBlock = some k → k ≠ g ∧ k < w4.heap.size := fun k e => by have := l2 k e; have := n2 k e; omega
 have f1 : v1.ownBlock ≠ some g := fun e => (a1 g e).1 rfl
 have f2 : v2.ownBlock ≠ some g := fun e => (a2 g e).1 rfl
 refine bld_of V.sets ((((own_sl o1).up b34).set _ f1).set _ f1 |>.set _ f1) (((own_sl o2).set _ f2).set _ f2 |>.set _ f2) hn ⟨fun k e => by have := n1 k e; omega, fun k e => ?_⟩ ⟨fun k e => by have := n2 k e; omega, fun k e => ?_⟩
 ·rw [hz]; exact a1 k e
 ·rw [hz]; exact a2 k e
theorem bldB {n : Nat} {w3 w4 : World} {B1 B2 : Nat} {v1 v2 : Value} {cs : List Chn} {ss : List Slt} {t : TypeId} (o1 : w3.ownsRow B1 89 3 v1 cs.length (rowC chC cs)) (b34 : Below w3.heap.size w3 w4) (o2 : w4.ownsRow B2 105 2 v2 ss.length (rowC slC ss))
  (hn : n ≤ w4.heap.size) (hB1 : n ≤ B1) (hB2 : n ≤ B2) :
  Bld n (w4.alloc (.cells #[.slice none 0 0, v1, v2] t)).heap.size (w4.alloc (.cells #[.slice none 0 0, v1, v2] t)) w4.heap.size (.slice none 0 0) v1 v2 [] cs ss := by
 have l1 := own_ltB o1
 have l2 := own_ltB o2
 have n1 := own_block o1
 have n2 := own_block o2
 have zb := b34.size
 have bb : Below w4.heap.size w4 (w4.alloc (.cells #[.slice none 0 0, v1, v2] t)) := (Below.refl _ _).alloc (Nat.le_refl _) _
 refine bld_of (var3_new w4 _ _ _ t _ rfl) (((own_sl o1).up b34).up bb) ((own_sl o2).up bb) hn ⟨fun k e => by have := n1 k e; omega, fun k e => ?_⟩ ⟨fun k e => by have := n2 k e; omega, fun k e => ?_⟩
 ·have := l1 k e; simp; omega
 ·have := l2 k e; simp; omega
theorem Bld.grow {n base : Nat} {W0 W1 w3 w4 w5 : World} {g k : Nat} {va : Option Addr} {vcap g' cap5 B1 B2 : Nat} {vc vs v1 v2 : Value} {ps : List Prt} {cs : List Chn} {ss : List Slt} {q : Prt} {o : Obj} {l0 : List (Value × Value)} {B : Nat}
  (h : Bld n base W1 g (.slice va k vcap) vc vs ps cs ss) (hkl : ps.length = k)
  (hl0 : l0.length = ps.length ∧ W1.ownsRow base 49 2 (.slice va k vcap) ps.length (rowC prC l0) ∧ ∀ k' (hk : k' < ps.length) (hk' : k' < l0.length), PrtR W1 l0[k'].1 l0[k'].2 ps[k'] ∧ (NewB (g + 1) l0[k'].1 ∧ NewB (g + 1) l0[k'].2) ∧ (Apart l0[k'].1 (.slice va k vcap) ∧ Apart l0[k'].2 (.slice va k vcap)) ∧ LtB W1 l0[k'].1 ∧ LtB W1 l0[k'].2)
  (D3 : Below W1.heap.size W1 w3) (D34 : Below w3.heap.size w3 w4) (O1 : w3.ownsRow B1 83 4 v1 q.code.length (codeC q.code)) (O2 : w4.ownsRow B2 3 1 v2 q.inn.length (ints q.inn)) (hB1 : W1.heap.size ≤ B1) (hB2 : W1.heap.size ≤ B2)
  (hgrow : (w4.alloc o).grownBy w5 (Value.ownBlock (.slice va k vcap))) (hown : w5.ownsRow base 49 2 (.slice (some ⟨g', 0, none⟩) (k + 1) cap5) (k + 1) (rowC prC l0 ++ [v1, v2])) (hat : Value.ownBlock (.slice va k vcap) = some g' ∨ g' = w4.heap.size + 1)
  (hT : Below B W0 W1) (hB : B ≤ n) (hBw : B ≤ W1.heap.size) (hnb : n ≤ base) :
  Bld n base (w5.setCell ⟨g, 0, none⟩ (.slice (some ⟨g', 0, none⟩) (k + 1) cap5)) g (.slice (some ⟨g', 0, none⟩) (k + 1) cap5) vc vs (ps ++ [q]) cs ss ∧ Below B W0 (w5.setCell ⟨g, 0, none⟩ (.slice (some ⟨g', 0, none⟩) (k + 1) cap5)) := by
 have D4 := D3.trans (D34.mono D3.size)
 have hgb := h.gl
 have hbs := h.bs
 have hgn := h.gn
 have z4 := D4.size
 have hv := own_block hl0.2.1
 refine ⟨(Bld.step (h.up D4) ⟨(own_sl O1).up D34, own_sl O2⟩ ((own_new O1).mono hB1) ((own_new O2).mono hB2) om (fun b e => own_ltB hl0.2.1 b e) l0 ⟨hl0.1, own_upC hl0.2.1 D4, fun k' hk hk' => ?_⟩ ⟨(own_ltB O1).up D34.size, own_ltB O2⟩ hgrow (by rw [hkl]; exact hown) (fun b e => ?_)).1, ?_⟩
 ·obtain ⟨a1, a2, a3, a4, a5⟩ := hl0.2.2 k' hk hk'
  exact ⟨a1.up D4, a2, a3, a4.up z4, a5.up z4⟩
 ·obtain rfl : g' = b := by simpa [Value.ownBlock] using e
  exact hat.imp id (fun e => by omega)
 ·exact (((hT.trans (D4.mono hBw)).alloc om o).grown hgrow so (fun b e => by have := hv b e; omega)).setCell so _
theorem enCopIns : Enters 82 := enters Tryz.func82 kr kr
theorem enCopInt : Enters 83 := enters Tryz.func83 kr kr
theorem infoPart : (Tryz.prog.info? 49).map (fun i => (i.zero, i.size, i.bytes)) = some (some (.agg #[.slice none 0 0, .slice none 0 0]), 2, 48) := by kernel_rfl
theorem two_at (w : World) (v u : Value) (t : TypeId) (b : Nat) (hb : b = w.heap.size) : ∀ j x, [v, u][j]? = some x → (w.alloc (.cells #[v, u] t)).cell? ((⟨b, 0, none⟩ : Addr).add j) = some x := by
 subst hb
 intro j x hj
 match j, hj with
 | 0, hj => simp at hj; subst hj; simp [Addr.add]
 | 1, hj => simp at hj; subst hj; simp [Addr.add]
 | j + 2, hj => simp at hj
theorem two_cell (a b : Option Addr) (n c m d : Nat) : ∀ x ∈ [Value.slice a n c, Value.slice b m d], x.oneCell' = true := by
 intro x hx
 simp at hx
 rcases hx with rfl | rfl <;> rfl
theorem calm_at (S : SysD) (part k : Nat) (h : k < (calmS S part).parts.length) (h' : k < S.parts.length) : (calmS S part).parts[k] = if part = k then stopP else S.parts[k] := by
 simp only [calmS, List.getElem_set]
theorem calm_yes (S : SysD) (vp vc vs : Value) (part : Nat) (w : World) (he : Env w) (hS : Sys w vp vc vs S) (hz : chkS S = 0) (hp : part < S.parts.length) :
  Calls Tryz.prog 47 #[.agg #[vp, vc, vs], .int .i64 (part : Int)] w fun e w' => ∃ xp xc xs, e = .returned (.tuple #[.agg #[xp, xc, xs], .int .i64 0]) ∧ SysN (w.heap.size + 2) w' xp xc xs (calmS S part) ∧ Below w.heap.size w w' := by
 have hcnt := (countsB_is (chkS_zero hz).1)
 have hn1 : S.parts.length ≤ 4 := hcnt.1.2.1
 have hn2 : S.chans.length ≤ 6 := hcnt.1.2.2.1
 have hn3 : S.slots.length ≤ 6 := hcnt.1.2.2.2.2
 have HI := hd hcnt.2
 have HL : Hid (∀ j (hj : j < S.parts.length), S.parts[j].code.length ≤ 20) := fun j hj => (chkC_zero ((chkS_zero hz).2.1 j hj)).2.1
 obtain ⟨pb, po, pc, rfl, hpc, hpb, hpp⟩ := hS.p.open om
 obtain ⟨ca, cc, rfl⟩ := hS.c.form
 obtain ⟨sa, sc, rfl⟩ := hS.s.form
 have HPP := hd hpp
 have HS := hd hS
 have HZ := hd hz
 have HW : Hid (withinB (part : Int) 0 ((S.parts.length : Int) - 1) = true) := by show withinB _ _ _ = _; unfold withinB; simp; omega
 clear hS hz hcnt hpp
 go_enter Tryz.func47, Tryz.ntmps47
 go_wp2_with fail
 refine (confCheck_any S _ _ _ _ (he.up up0) (HS.out.up up0)).mono ?_
 rw [HZ.out]
 rintro e w1 ⟨rfl, bb⟩
 have hB := (box_new w (.slice (some ⟨pb, po, none⟩) S.parts.length pc) (.slice ca S.chans.length cc) (.slice sa S.slots.length sc) 26 _ rfl)
 have HB := hd ((hB.up (w' := (w.alloc (.cells #[.slice (some ⟨pb, po, none⟩) S.parts.length pc, .slice ca S.chans.length cc, .slice sa S.slots.length sc] 26)).alloc (.cells #[.slice none 0 0, .slice none 0 0, .slice none 0 0] 26)) ((Below.refl _ _).alloc (Nat.le_refl _) _)).up bb)
 have D := hd (Below.trans (show Below w.heap.size w _ from up0) (bb.mono so))
 have HV := hd ((var3_new (w.alloc (.cells #[.slice (some ⟨pb, po, none⟩) S.parts.length pc, .slice ca S.chans.length cc, .slice sa S.slots.length sc] 26)) (.slice none 0 0) (.slice none 0 0) (.slice none 0 0) 26 (w.heap.size + 1) (by simp)).up bb)
 clear bb hB
 have k0 := HB.out.p
 have k1 := HB.out.c
 have k2 := HB.out.s
 go_wp2_with fail
 refine (isPart_any _ _ _ _ _ (part : Int) _ om).mono ?_
 rw [HW.out]
 rintro e w2 ⟨rfl, bb⟩
 have D := hd (D.out.trans (bb.mono D.out.size))
 have HV := hd (HV.out.up bb)
 have HB := hd (HB.out.up bb)
 clear bb k0 k1 k2
 have k0 := HB.out.p
 have k1 := HB.out.c
 have k2 := HB.out.s
 have hv := HV.out.lt
 have k1a := cl_alloc (.cells #[.slice none 0 0, .slice none 0 0, .slice none 0 0] 26) HB.out.lt k1
 have k2a := cl_alloc (.cells #[.slice none 0 0, .slice none 0 0, .slice none 0 0] 26) HB.out.lt k2
 go_wp2
 go_cut [7] from 10 (fun d wc => ∃ g xc xs, d = .pointer (some ⟨g, 0, none⟩) ∧ Hid (Bld (w.heap.size + 2) wc.heap.size wc g (.slice none 0 0) xc xs [] S.chans S.slots) ∧ Hid (Below w2.heap.size w2 wc))
 case first =>
  go_region_with (first
   | (go_at_call 80; refine (copChan_any S.chans om _ _ ((HS.out.c.up D.out).up up0)).mono ?_; rintro e w3 ⟨v1, rfl, o1, b1⟩; obtain ⟨a1, c1, rfl⟩ := own_form o1; have VV : Hid (Var3 w3 w2.heap.size (.slice none 0 0) (.slice none 0 0) (.slice none 0 0)) := ((var3_new w2.drew (.slice none 0 0) (.slice none 0 0) (.slice none 0 0) 26 w2.heap.size rfl).up b1); have D3 := hd (show Below w2.heap.size w2 w3 from Below.trans up0 (b1.mono (by simp))); have O1 := hd o1; have k2' := (HB.out.up D3.out).s; have k2b := cl_alloc (.cells #[.slice none 0 0, .slice none 0 0, .slice none 0 0] 26) (HB.out.up D3.out).lt k2'; clear b1 o1)
   | (go_at_call 80; refine (copChan_any S.chans om _ _ ((HS.out.c.up D.out).up up0)).mono ?_; rintro e w3 ⟨v1, rfl, o1, b1⟩; obtain ⟨a1, c1, rfl⟩ := own_form o1; have D3 := hd (show Below w2.heap.size w2 w3 from Below.trans up0 (b1.mono (by simp))); have O1 := hd o1; have k2' := (HB.out.up D3.out).s; have k2b := cl_alloc (.cells #[.slice none 0 0, .slice none 0 0, .slice none 0 0] 26) (HB.out.up D3.out).lt k2'; clear b1 o1)
   | (go_at_call 81; refine (copSlot_any S.slots om _ _ (((HS.out.s.up D.out).up D3.out).up up0)).mono ?_; rintro e w4 ⟨v2, rfl, o2, b2⟩; obtain ⟨a2, c2, rfl⟩ := own_form o2; have V4 := hd (VV.out.up b2); have vl := VV.out.lt; have x0 := V4.out.x; have x1 := V4.out.y; have x2 := V4.out.z; have y0 := V4.out.fx; have y1 := V4.out.fy; have y2 := V4.out.fz; have D34 := hd (show Below w3.heap.size w3 w4 from Below.trans up0 (b2.mono (by simp))); have O2 := hd o2; clear b2 o2)
   | (go_at_call 81; refine (copSlot_any S.slots om _ _ (((HS.out.s.up D.out).up D3.out).up up0)).mono ?_; rintro e w4 ⟨v2, rfl, o2, b2⟩; obtain ⟨a2, c2, rfl⟩ := own_form o2; have V4 : Hid (Var3 w4 w3.heap.size (.slice none 0 0) (.slice none 0 0) (.slice none 0 0)) := ((var3_new w3 (.slice none 0 0) (.slice none 0 0) (.slice none 0 0) 26 w3.heap.size rfl).up b2); have x0 := V4.out.x; have x1 := V4.out.y; have x2 := V4.out.z; have y0 := V4.out.fx; have y1 := V4.out.fy; have y2 := V4.out.fz; have D34 := hd (show Below w3.heap.size w3 w4 from Below.trans up0 (b2.mono (by simp))); have O2 := hd o2; clear b2 o2)
   | (go_at_call 81; refine (copSlot_any S.slots om _ _ (((HS.out.s.up D.out).up D3.out).up up0)).mono ?_; rintro e w4 ⟨v2, rfl, o2, b2⟩; obtain ⟨a2, c2, rfl⟩ := own_form o2; have D34 := hd (show Below w3.heap.size w3 w4 from Below.trans up0 (b2.mono (by simp))); have O2 := hd o2; clear b2 o2))
  all_goals go_wp2
  all_goals have zz3 := D3.out.size
  all_goals have zz4 := D34.out.size
  all_goals have D4 := hd (D3.out.trans (D34.out.mono zz3))
  all_goals go_meet
  all_goals first
   | exact ⟨_, _, _, rfl, bldA V4.out O1.out D34.out O2.out o3 o3 o3 (by first | (right; omega) | (left; omega) | (left; simp; done) | (left; simp; omega)) o3, ((D4.out.setCell o3 _).setCell o3 _).setCell o3 _⟩
   | exact ⟨_, _, _, rfl, bldB O1.out D34.out O2.out o3 o3 o3, D4.out.alloc o3 _⟩
 case rest =>
  obtain ⟨g, xc, xs, rfl, HBL, D2c⟩ := hcut
  obtain ⟨W0, hW0⟩ : ∃ W0, W0 = wc := ⟨_, rfl⟩
  subst hW0
  clear k0 k1 k2 k1a k2a
  have D0 := hd (D.out.trans (D2c.out.mono D.out.size))
  have HV := hd (HV.out.up D2c.out)
  have HB := hd (HB.out.up D2c.out)
  have k0 := HB.out.p
  obtain ⟨xca, xcc, rfl⟩ := HBL.out.c.form
  obtain ⟨xsa, xsc, rfl⟩ := HBL.out.s.form
  have hgn := HBL.out.gn
  have hgl := HBL.out.gl
  have hW02 : w.heap.size + 2 ≤ W0.heap.size := by omega
  obtain ⟨P, hP⟩ : ∃ P, P = (calmS S part).parts := ⟨_, rfl⟩
  have hPl : P.length = S.parts.length := by rw [hP]; simp [calmS]
  have HPA : Hid (∀ k (h : k < P.length) (h' : k < S.parts.length), P[k] = if part = k then stopP else S.parts[k]) := by subst hP; exact fun k h h' => calm_at S part k h h'
  have HPE := hd hP
  have HPL := hd hPl
  clear hP hPl D2c D
  go_wp2
  go_loopw [31] (fun i wr => ∃ (k : Nat) (vp : Value), i = .int .i64 k ∧ k ≤ S.parts.length ∧ Hid (Bld (w.heap.size + 2) W0.heap.size wr g vp (.slice xca S.chans.length xcc) (.slice xsa S.slots.length xsc) (P.take k) S.chans S.slots) ∧ Hid (Below (w.heap.size + 2) W0 wr)) (fun i _ => S.parts.length - (intOf i).toNat)
  case atStart => exact ⟨0, _, rfl, Nat.zero_le _, HBL, Below.refl _ _⟩
  case round =>
   obtain ⟨k, vp, rfl, hk, HBL, HT⟩ := hrel
   have HD := hd (D0.out.trans (HT.out.mono om))
   obtain ⟨va, vcap, hvp⟩ := HBL.out.form
   have hkl : (P.take k).length = k := by rw [List.length_take, HPL.out]; omega
   rw [hkl] at hvp
   subst hvp
   have hbs := HBL.out.bs
   by_cases hlt : k < S.parts.length
   ·have hli : (k : Int) < S.parts.length := by omega
    obtain ⟨c, i, c0, c1, hpr⟩ := HPP.out k hlt
    obtain ⟨a1, b1, rfl⟩ := hpr.code.form
    obtain ⟨a2, b2, rfl⟩ := hpr.inn.form
    have c0 := bcl HD.out hpb c0
    have c1 := bcl HD.out hpb c1
    have HPR := hd (hpr.up HD.out)
    have hkP : k < P.length := by rw [HPL.out]; exact hlt
    obtain ⟨q, hq⟩ : ∃ q, q = P[k] := ⟨_, rfl⟩
    have hqv : q = if part = k then stopP else S.parts[k] := by rw [hq]; exact HPA.out k hkP hlt
    have hql : q.code.length ≤ 20 ∧ q.inn.length ≤ 12 := by
     rw [hqv]
     split
     ·simp [stopP]
     ·exact ⟨HL.out k hlt, HI.out k hlt⟩
    have HQ := hd hq
    have HQV := hd hqv
    clear hpr hq hqv
    go_upto_if 38 with fail
    go_cut [31] from 31 to 54 (fun i wc => i = .int .i64 k ∧ ∃ C I, wc.cell? ⟨wr.heap.size, 0, none⟩ = some C ∧ wc.cell? ⟨wr.heap.size, 1, none⟩ = some I ∧ Hid (PrtR wc C I q) ∧ Hid (Below wr.heap.size wr wc) ∧ wr.heap.size < wc.heap.size)
    case first =>
     by_cases hkp : part = k
     ·have hke : ((k : Int) == (part : Int)) = true := by simp; omega
      have hqs : q = stopP := by rw [HQV.out, if_pos hkp]
      subst hqs
      go_wp2
      go_meet
      exact ⟨rfl, .slice (some ⟨wr.heap.size + 1, 0, none⟩) 1 1, .slice none 0 0, by simp, by simp, ⟨lit_sl _ _ _ _ 1 4 (by simp) rfl, Sl.nil _ _⟩, up0, by simp; try omega⟩
     ·have hke : ((k : Int) == (part : Int)) = false := by simp; omega
      have hqs : q = S.parts[k] := by rw [HQV.out, if_neg hkp]
      subst hqs
      go_wp2
      go_meet
      exact ⟨rfl, _, _, by simp, by simp, HPR.out.up up0, up0, by simp⟩
    case rest =>
     obtain ⟨rfl, C, I, e0, e1, HQR, DW, hwl⟩ := hcut
     obtain ⟨W1, hW1⟩ : ∃ W1, W1 = wc := ⟨_, rfl⟩
     subst hW1
     obtain ⟨a3, b3, rfl⟩ := HQR.out.code.form
     obtain ⟨a4, b4, rfl⟩ := HQR.out.inn.form
     have HBL1 := hd (HBL.out.up DW.out)
     have HT1 := hd (HT.out.trans (DW.out.mono om))
     have g0 := HBL1.out.cp
     have g1 := HBL1.out.fp
     have hbs1 := HBL1.out.bs
     have hws := DW.out.size
     generalize hpk : wr.heap.size = pk at e0 e1 hwl
     clear c0 c1 HPR HD
     obtain ⟨i0, hi, hz0, hz1, hz2⟩ := info_parts infoPart
     have hgw : g < W1.heap.size := by omega
     obtain ⟨l0, hl0⟩ := HBL1.out.row
     have hrow := hl0.2.1
     rw [hkl] at hrow
     have HROW := hd hrow
     have hvb : Hid (∀ b, Value.ownBlock (.slice va k vcap) = some b → W0.heap.size ≤ b ∧ b < pk) := fun b e => by
      obtain ⟨l1, hl1⟩ := HBL.out.row
      exact ⟨own_block hl1.2.1 b e, by have := own_ltB hl1.2.1 b e; omega⟩
     have hgv : some g ≠ Value.ownBlock (.slice va k vcap) := fun e => by have := (hvb.out g e.symm).1; omega
     have hpv : some pk ≠ Value.ownBlock (.slice va k vcap) := fun e => by have := (hvb.out pk e.symm).2; omega
     have HGV := hd hgv
     have HPV := hd hpv
     have HL0 := hd hl0
     clear hrow hl0 hgv hpv
     go_wp2
     go_region_law (first
       | (refine step_call (by rfl) 82 _ _ (by rfl) enCopIns #[.slice a3 q.code.length b3] ev ?_; refine (copIns_any q.code om _ _ (HQR.out.code.up up0)).mono ?_; rintro e w3 ⟨v1, rfl, o1, bb1⟩; obtain ⟨a5, b5, rfl⟩ := own_form o1; have D3 := hd (show Below W1.heap.size W1 w3 from Below.trans up0 (bb1.mono (by simp))); have O1 := hd o1; have s0 := bcl D3.out hgw g0; have s1 := bcl D3.out hwl e0; have s2 := bcl D3.out hwl e1; clear bb1 o1; refine ⟨_, rfl, ?_⟩)
       | (refine step_call (by rfl) 83 _ _ (by rfl) enCopInt #[.slice a4 q.inn.length b4] ev ?_; refine (copInt_any q.inn om _ _ ((HQR.out.inn.up D3.out).up up0)).mono ?_; rintro e w4 ⟨v2, rfl, o2, bb2⟩; obtain ⟨a6, b6, rfl⟩ := own_form o2; have D34 := hd (show Below w3.heap.size w3 w4 from Below.trans up0 (bb2.mono (by simp))); have D4 := hd (D3.out.trans (D34.out.mono D3.out.size)); have O2 := hd o2; have s0' := bcl D4.out hgw g0; have s1' := bcl D4.out hwl e0; have s2' := bcl D4.out hwl e1; have z4 := D4.out.size; have s0a := cl_alloc (.cells #[.slice a5 q.code.length b5, .slice a6 q.inn.length b6] 49) om s0'; clear bb2 o2; refine ⟨_, rfl, ?_⟩)
       | (refine step_append_lies _ (by rfl) (.tmp 43) (.tmp 51) 22 (by rfl) W0.heap.size 49 i0 (.agg #[.slice none 0 0, .slice none 0 0]) 2 48 Tryz.underlying22 hi hz0 hz1 hz2 rfl (by decide) (.slice va k vcap) k (rowC prC l0) ev ((own_upC HROW.out D4.out).alloc _) ⟨w4.heap.size, 0, none⟩ 1 1 [.slice a5 q.code.length b5, .slice a6 q.inn.length b6] ev rfl (two_at _ _ _ _ _ rfl) (two_cell _ _ _ _ _ _) (by decide) (by unfold maxLen; omega) om so _ rfl ?_; intro g' cap5 w5 hown hgrow hat hglt; have s0x := (hgrow.cell_far ⟨g, 0, none⟩ so HGV.out).trans (cl_alloc _ om s0'); have f0x := (hgrow.frozen_far ⟨g, 0, none⟩ so HGV.out).trans (fr_alloc _ om (bfr D4.out hgw g1)); have s1x := (hgrow.cell_far ⟨pk, 0, none⟩ so HPV.out).trans (cl_alloc _ om s1'); have s2x := (hgrow.cell_far ⟨pk, 1, none⟩ so HPV.out).trans (cl_alloc _ om s2'); have s1y : ∀ v, (w5.setCell ⟨g, 0, none⟩ v).cell? ⟨pk, 0, none⟩ = some (.slice a3 q.code.length b3) := fun v => cl_set (Or.inl om) s1x; have s2y : ∀ v, (w5.setCell ⟨g, 0, none⟩ v).cell? ⟨pk, 1, none⟩ = some (.slice a4 q.inn.length b4) := fun v => cl_set (Or.inl om) s2x; have HST := hd (Bld.grow HBL1.out hkl HL0.out D3.out D34.out O1.out O2.out (Nat.le_refl _) D3.out.size hgrow hown (hat.imp id (fun e => by rw [e]; simp)) HT1.out (Nat.le_refl _) om om); clear hown hgrow hat))
     all_goals have HPS : Hid (P.take (k + 1) = P.take k ++ [q]) := by show _ = _; rw [HQ.out, List.take_succ_eq_append_getElem hkP]
     all_goals go_wp2
     all_goals
      go_roundw
      case rel => exact ⟨k + 1, _, by go_num, by omega, by rw [HPS.out]; exact HST.out.1, HST.out.2⟩
      case measure => simp [intOf]; omega
   ·have hli : ¬ (k : Int) < S.parts.length := by omega
    obtain rfl : k = S.parts.length := by omega
    have HBD : Hid (SysN (w.heap.size + 2) wr (.slice va S.parts.length vcap) (.slice xca S.chans.length xcc) (.slice xsa S.slots.length xsc) (calmS S part)) := by
     have h := HBL.out.done
     rw [List.take_of_length_le (by rw [HPL.out]; omega), HPE.out] at h
     exact h
    have v0 := bcl HT.out om HV.out.x
    have v1 := bcl HT.out om HV.out.y
    have v2 := bcl HT.out om HV.out.z
    have y0 := bfr HT.out om HV.out.fx
    have y1 := bfr HT.out om HV.out.fy
    have y2 := bfr HT.out om HV.out.fz
    have g0 := HBL.out.cp
    have g1 := HBL.out.cc
    have g2 := HBL.out.ct
    have hwr : w.heap.size + 1 < wr.heap.size := by omega
    have V3 := (Var3.mk v0 v1 v2 y0 y1 y2 hwr).sets (a' := .slice va S.parts.length vcap) (b' := .slice xca S.chans.length xcc) (c' := .slice xsa S.slots.length xsc)
    have t0 := V3.x
    have t1 := V3.y
    have t2 := V3.z
    clear V3
    go_wp2
    refine bodyPost_ret (v := .tuple #[.agg #[.slice va S.parts.length vcap, .slice xca S.chans.length xcc, .slice xsa S.slots.length xsc], .int .i64 0]) (by simp [results, Tryz.f47, go_sem, t0, t1, t2]) rfl ⟨_, _, _, rfl, ((HBD.out.set om _).set om _).set om _, ?_⟩
    exact ((HD.out.setCell (by simp) _).setCell (by simp) _).setCell (by simp) _
end Go.Proofs.YtehhhiodfcdnmaaGreatDoor

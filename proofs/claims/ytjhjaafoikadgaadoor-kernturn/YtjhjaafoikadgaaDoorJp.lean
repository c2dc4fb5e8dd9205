/- conf.copied, of whatever it copies. -/
import Derived.Test.YtjhjaafoikadgaaDoorCf6
import Derived.Test.YtjhjaafoikadgaaDoorSc4
import Derived.Test.YtjhjaafoikadgaaDoorJd
import Derived.Test.YtjhjaafoikadgaaDoorJk
import Derived.Deep.CutRange
import Derived.Deep.RegionWith
import Derived.Deep.RegionHeld3
import Derived.Deep.DrawnRows
namespace Go.Proofs.YtjhjaafoikadgaaDoor
set_option linter.unusedSimpArgs false
set_option linter.unusedVariables false
open Go.RowKit Go.Sort

theorem rowC_one {α : Type} {f : α → List Value} (h : ∀ x, ∀ u ∈ f x, u.oneCell' = true) (l : List α) : ∀ u ∈ rowC f l, u.oneCell' = true := by
  intro u hu
  unfold rowC at hu
  obtain ⟨x, _, hx⟩ := List.mem_flatMap.1 hu
  exact h x u hx
theorem chC_one (x : Chn) : ∀ u ∈ chC x, u.oneCell' = true := by
  intro u hu
  simp [chC] at hu
  rcases hu with rfl | rfl | rfl <;> rfl
theorem slC_one (x : Slt) : ∀ u ∈ slC x, u.oneCell' = true := by
  intro u hu
  simp [slC] at hu
  rcases hu with rfl | rfl <;> rfl
theorem ins_one (x : Ins) : ∀ u ∈ x.cells, u.oneCell' = true := by
  intro u hu
  simp [Ins.cells] at hu
  rcases hu with rfl | rfl | rfl | rfl <;> rfl
theorem codeC_one : ∀ l : List Ins, ∀ u ∈ codeC l, u.oneCell' = true
  | [], u, h => by cases h
  | i :: r, u, h => by
    rcases List.mem_append.1 h with h | h
    · exact ins_one i u h
    · exact codeC_one r u h

theorem infoChan : (Tryd.prog.info? 56).map (fun i => (i.zero, i.size, i.bytes)) = some (some (.agg #[.int .i64 0, .int .i64 0, .int .i64 0]), 3, 24) := by kernel_rfl
set_option maxHeartbeats 1000000 in
theorem copChan_any (l : List Chn) (hl : l.length ≤ 1000) (v : Value) (w : World) (hS : Sl w 3 v l.length (rowC chC l)) :
    Calls Tryd.prog 46 #[v] w fun e w' => ∃ v', e = .returned v' ∧ w'.ownsRow w.heap.size 56 3 v' l.length (rowC chC l) ∧ Below w.heap.size w w' := by
  obtain ⟨i0, hi, hz0, hz1, hz2⟩ := info_parts infoChan
  by_cases h0 : l.length = 0
  · obtain ⟨ao, cap, rfl⟩ := hS.form
    have hxs : l = [] := List.length_eq_zero_iff.1 h0
    subst hxs
    clear hS h0 hl
    go_enter Tryd.func46, Tryd.ntmps46
    cases ao
    all_goals
      go_wp2
      go_ret
      exact ⟨_, rfl, World.ownsRow_nil _ _ _ _, Below.refl _ _⟩
  · obtain ⟨b, off, cap, rfl, hcap, hbw, hc⟩ := hS.open (by omega)
    have HCC := Lib.hid hc
    clear hS hc
    go_enter Tryd.func46, Tryd.ntmps46
    go_wp2_with (at_builtin; refine wpList_append_lies _ rfl (.const (.slice none 0 0)) (.tmp 3) 23 rfl w.heap.size 56 i0 (.agg #[.int .i64 0, .int .i64 0, .int .i64 0]) 3 24 Tryd.underlying23 hi hz0 hz1 hz2 rfl (by decide) (.slice none 0 0) 0 [] rfl (World.ownsRow_nil _ _ _ _) ⟨b, off, none⟩ l.length cap (rowC chC l) rfl (rowC_len (f := chC) (s := 3) (fun _ => rfl) l) (sl_src HCC.out) (rowC_one chC_one l) (by omega) (by unfold maxLen; omega) (by omega) (Nat.le_refl _) _ rfl ?_)
    intro g cap1 w3 hown hgrow hat hglt
    have hu := Lib.hid ((Below.refl w.heap.size w).grown hgrow (Nat.le_refl _) (fun k hk => by cases hk))
    have hown2 : w3.ownsRow w.heap.size 56 3 (.slice (some ⟨g, 0, none⟩) l.length cap1) l.length (rowC chC l) := by simpa using hown
    have HO := Lib.hid hown2
    clear hown hown2 hgrow hat HCC
    try simp only [Nat.zero_add]
    go_wp2
    go_ret
    exact ⟨_, rfl, HO.out, hu.out⟩

theorem infoSlot : (Tryd.prog.info? 72).map (fun i => (i.zero, i.size, i.bytes)) = some (some (.agg #[.int .i64 0, .int .i64 0]), 2, 16) := by kernel_rfl
set_option maxHeartbeats 1000000 in
theorem copSlot_any (l : List Slt) (hl : l.length ≤ 1000) (v : Value) (w : World) (hS : Sl w 2 v l.length (rowC slC l)) :
    Calls Tryd.prog 47 #[v] w fun e w' => ∃ v', e = .returned v' ∧ w'.ownsRow w.heap.size 72 2 v' l.length (rowC slC l) ∧ Below w.heap.size w w' := by
  obtain ⟨i0, hi, hz0, hz1, hz2⟩ := info_parts infoSlot
  by_cases h0 : l.length = 0
  · obtain ⟨ao, cap, rfl⟩ := hS.form
    have hxs : l = [] := List.length_eq_zero_iff.1 h0
    subst hxs
    clear hS h0 hl
    go_enter Tryd.func47, Tryd.ntmps47
    cases ao
    all_goals
      go_wp2
      go_ret
      exact ⟨_, rfl, World.ownsRow_nil _ _ _ _, Below.refl _ _⟩
  · obtain ⟨b, off, cap, rfl, hcap, hbw, hc⟩ := hS.open (by omega)
    have HCC := Lib.hid hc
    clear hS hc
    go_enter Tryd.func47, Tryd.ntmps47
    go_wp2_with (at_builtin; refine wpList_append_lies _ rfl (.const (.slice none 0 0)) (.tmp 3) 24 rfl w.heap.size 72 i0 (.agg #[.int .i64 0, .int .i64 0]) 2 16 Tryd.underlying24 hi hz0 hz1 hz2 rfl (by decide) (.slice none 0 0) 0 [] rfl (World.ownsRow_nil _ _ _ _) ⟨b, off, none⟩ l.length cap (rowC slC l) rfl (rowC_len (f := slC) (s := 2) (fun _ => rfl) l) (sl_src HCC.out) (rowC_one slC_one l) (by omega) (by unfold maxLen; omega) (by omega) (Nat.le_refl _) _ rfl ?_)
    intro g cap1 w3 hown hgrow hat hglt
    have hu := Lib.hid ((Below.refl w.heap.size w).grown hgrow (Nat.le_refl _) (fun k hk => by cases hk))
    have hown2 : w3.ownsRow w.heap.size 72 2 (.slice (some ⟨g, 0, none⟩) l.length cap1) l.length (rowC slC l) := by simpa using hown
    have HO := Lib.hid hown2
    clear hown hown2 hgrow hat HCC
    try simp only [Nat.zero_add]
    go_wp2
    go_ret
    exact ⟨_, rfl, HO.out, hu.out⟩

theorem infoIns : (Tryd.prog.info? 74).map (fun i => (i.zero, i.size, i.bytes)) = some (some (.agg #[.int .i64 0, .int .i64 0, .int .i64 0, .int .i64 0]), 4, 32) := by kernel_rfl
set_option maxHeartbeats 1000000 in
theorem copIns_any (l : List Ins) (hl : l.length ≤ 1000) (v : Value) (w : World) (hS : Sl w 4 v l.length (codeC l)) :
    Calls Tryd.prog 48 #[v] w fun e w' => ∃ v', e = .returned v' ∧ w'.ownsRow w.heap.size 74 4 v' l.length (codeC l) ∧ Below w.heap.size w w' := by
  obtain ⟨i0, hi, hz0, hz1, hz2⟩ := info_parts infoIns
  by_cases h0 : l.length = 0
  · obtain ⟨ao, cap, rfl⟩ := hS.form
    have hxs : l = [] := List.length_eq_zero_iff.1 h0
    subst hxs
    clear hS h0 hl
    go_enter Tryd.func48, Tryd.ntmps48
    cases ao
    all_goals
      go_wp2
      go_ret
      exact ⟨_, rfl, World.ownsRow_nil _ _ _ _, Below.refl _ _⟩
  · obtain ⟨b, off, cap, rfl, hcap, hbw, hc⟩ := hS.open (by omega)
    have HCC := Lib.hid hc
    clear hS hc
    go_enter Tryd.func48, Tryd.ntmps48
    go_wp2_with (at_builtin; refine wpList_append_lies _ rfl (.const (.slice none 0 0)) (.tmp 3) 66 rfl w.heap.size 74 i0 (.agg #[.int .i64 0, .int .i64 0, .int .i64 0, .int .i64 0]) 4 32 Tryd.underlying66 hi hz0 hz1 hz2 rfl (by decide) (.slice none 0 0) 0 [] rfl (World.ownsRow_nil _ _ _ _) ⟨b, off, none⟩ l.length cap (codeC l) rfl (codeC_len l) (sl_src HCC.out) (codeC_one l) (by omega) (by unfold maxLen; omega) (by omega) (Nat.le_refl _) _ rfl ?_)
    intro g cap1 w3 hown hgrow hat hglt
    have hu := Lib.hid ((Below.refl w.heap.size w).grown hgrow (Nat.le_refl _) (fun k hk => by cases hk))
    have hown2 : w3.ownsRow w.heap.size 74 4 (.slice (some ⟨g, 0, none⟩) l.length cap1) l.length (codeC l) := by simpa using hown
    have HO := Lib.hid hown2
    clear hown hown2 hgrow hat HCC
    try simp only [Nat.zero_add]
    go_wp2
    go_ret
    exact ⟨_, rfl, HO.out, hu.out⟩

theorem infoIntC : (Tryd.prog.info? 3).map (fun i => (i.zero, i.size, i.bytes)) = some (some (.int .i64 0), 1, 8) := by kernel_rfl
set_option maxHeartbeats 1000000 in
theorem copInt_any (l : List Int) (hl : l.length ≤ 1000) (v : Value) (w : World) (hS : Sl w 1 v l.length (ints l)) :
    Calls Tryd.prog 49 #[v] w fun e w' => ∃ v', e = .returned v' ∧ w'.ownsRow w.heap.size 3 1 v' l.length (ints l) ∧ Below w.heap.size w w' := by
  obtain ⟨i0, hi, hz0, hz1, hz2⟩ := info_parts infoIntC
  by_cases h0 : l.length = 0
  · obtain ⟨ao, cap, rfl⟩ := hS.form
    have hxs : l = [] := List.length_eq_zero_iff.1 h0
    subst hxs
    clear hS h0 hl
    go_enter Tryd.func49, Tryd.ntmps49
    cases ao
    all_goals
      go_wp2
      go_ret
      exact ⟨_, rfl, World.ownsRow_nil _ _ _ _, Below.refl _ _⟩
  · obtain ⟨b, off, cap, rfl, hcap, hbw, hc⟩ := hS.open (by omega)
    have HCC := Lib.hid hc
    clear hS hc
    go_enter Tryd.func49, Tryd.ntmps49
    go_wp2_with (at_builtin; refine wpList_append_lies _ rfl (.const (.slice none 0 0)) (.tmp 3) 52 rfl w.heap.size 3 i0 (.int .i64 0) 1 8 Tryd.underlying52 hi hz0 hz1 hz2 rfl (by decide) (.slice none 0 0) 0 [] rfl (World.ownsRow_nil _ _ _ _) ⟨b, off, none⟩ l.length cap (ints l) rfl (by simp [ints]) (sl_src HCC.out) (ints_cell l) (by omega) (by unfold maxLen; omega) (by omega) (Nat.le_refl _) _ rfl ?_)
    intro g cap1 w3 hown hgrow hat hglt
    have hu := Lib.hid ((Below.refl w.heap.size w).grown hgrow (Nat.le_refl _) (fun k hk => by cases hk))
    have hown2 : w3.ownsRow w.heap.size 3 1 (.slice (some ⟨g, 0, none⟩) l.length cap1) l.length (ints l) := by simpa using hown
    have HO := Lib.hid hown2
    clear hown hown2 hgrow hat HCC
    try simp only [Nat.zero_add]
    go_wp2
    go_ret
    exact ⟨_, rfl, HO.out, hu.out⟩
end Go.Proofs.YtjhjaafoikadgaaDoor

namespace Go.Proofs.YtjhjaafoikadgaaDoor
set_option linter.unusedSimpArgs false
set_option linter.unusedVariables false
open Go.RowKit Go.Sort

theorem own_new {w : World} {base : Nat} {e : TypeId} {size : Nat} {v : Value} {n : Nat} {xs : List Value} (h : w.ownsRow base e size v n xs) : NewB base v := own_block h
theorem own_upC {w w' : World} {base : Nat} {e : TypeId} {size : Nat} {v : Value} {n : Nat} {xs : List Value} (h : w.ownsRow base e size v n xs) (hb : Below w.heap.size w w') : w'.ownsRow base e size v n xs := by
  have hlt := h.lt
  refine ⟨h.1, ?_⟩
  rcases h.2 with hn | ⟨g, cap, cur, rfl, hg, hh, r⟩
  · exact .inl hn
  · exact .inr ⟨g, cap, cur, rfl, hg, by rw [hb.block g (hlt g rfl).2]; exact hh, r⟩
theorem sl_grown {w w' : World} {row : Option Nat} {size : Nat} {v : Value} {n : Nat} {xs : List Value} (h : Sl w size v n xs) (hg : w.grownBy w' row) (hne : ∀ k, v.ownBlock = some k → row ≠ some k) : Sl w' size v n xs := by
  obtain ⟨h1, ao, cap, rfl, h3, h4⟩ := h
  refine ⟨h1, ao, cap, rfl, h3, fun hn => ?_⟩
  obtain ⟨b, off, rfl, hlt, hc⟩ := h4 hn
  exact ⟨b, off, rfl, Nat.lt_of_lt_of_le hlt hg.size, fun j u hj => (hg.cell_far ⟨b, off + j, none⟩ hlt (fun e => hne b rfl e.symm)).trans (hc j u hj)⟩
/-- Two slices lie in different blocks. -/
def Apart (v u : Value) : Prop := ∀ k, v.ownBlock = some k → u.ownBlock ≠ some k
theorem apart_lt {v u : Value} {m : Nat} (hv : NewB m v) (hu : ∀ k, u.ownBlock = some k → k < m) : Apart v u := fun k e e2 => by have := hv k e; have := hu k e2; omega

def LtB (w : World) (v : Value) : Prop := ∀ b, v.ownBlock = some b → b < w.heap.size
theorem LtB.up {w w' : World} {v : Value} (h : LtB w v) (hs : w.heap.size ≤ w'.heap.size) : LtB w' v := fun b e => Nat.lt_of_lt_of_le (h b e) hs
theorem own_ltB {w : World} {base : Nat} {e : TypeId} {size : Nat} {v : Value} {n : Nat} {xs : List Value} (h : w.ownsRow base e size v n xs) : LtB w v := fun b e => (h.lt b e).2

structure Bld (n base : Nat) (wr : World) (g : Nat) (vp vc vs : Value) (ps : List Prt) (cs : List Chn) (ss : List Slt) : Prop where
  cp : wr.cell? ⟨g, 0, none⟩ = some vp
  fp : wr.frozen? ⟨g, 0, none⟩ = false
  cc : wr.cell? ⟨g, 1, none⟩ = some vc
  ct : wr.cell? ⟨g, 2, none⟩ = some vs
  gl : g < base
  gn : n ≤ g
  bs : base ≤ wr.heap.size
  row : ∃ l : List (Value × Value), l.length = ps.length ∧ wr.ownsRow base 68 2 vp ps.length (rowC prC l) ∧ ∀ k (hk : k < ps.length) (hk' : k < l.length), PrtR wr l[k].1 l[k].2 ps[k] ∧ (NewB (g + 1) l[k].1 ∧ NewB (g + 1) l[k].2) ∧ (Apart l[k].1 vp ∧ Apart l[k].2 vp) ∧ LtB wr l[k].1 ∧ LtB wr l[k].2
  c : Sl wr 3 vc cs.length (rowC chC cs)
  s : Sl wr 2 vs ss.length (rowC slC ss)
  nc : NewB n vc ∧ ∀ k, vc.ownBlock = some k → k ≠ g ∧ k < base
  ns : NewB n vs ∧ ∀ k, vs.ownBlock = some k → k ≠ g ∧ k < base

theorem Bld.form {n base : Nat} {wr : World} {g : Nat} {vp vc vs : Value} {ps : List Prt} {cs : List Chn} {ss : List Slt} (h : Bld n base wr g vp vc vs ps cs ss) : ∃ a c, vp = .slice a ps.length c := by
  obtain ⟨l, _, h2, _⟩ := h.row
  exact own_form h2
theorem Bld.up {n base : Nat} {wr wr' : World} {g : Nat} {vp vc vs : Value} {ps : List Prt} {cs : List Chn} {ss : List Slt} (h : Bld n base wr g vp vc vs ps cs ss) (hb : Below wr.heap.size wr wr') : Bld n base wr' g vp vc vs ps cs ss := by
  obtain ⟨l, h1, h2, h3⟩ := h.row
  have hg : g < wr.heap.size := Nat.lt_of_lt_of_le h.gl h.bs
  exact ⟨bcl hb hg h.cp, bfr hb hg h.fp, bcl hb hg h.cc, bcl hb hg h.ct, h.gl, h.gn, Nat.le_trans h.bs hb.size, ⟨l, h1, own_upC h2 hb, fun k hk hk' => ⟨(h3 k hk hk').1.up hb, (h3 k hk hk').2.1, (h3 k hk hk').2.2.1, (h3 k hk hk').2.2.2.1.up hb.size, (h3 k hk hk').2.2.2.2.up hb.size⟩⟩, h.c.up hb, h.s.up hb, h.nc, h.ns⟩
theorem rowC_snoc {α : Type} (f : α → List Value) (l : List α) (x : α) : rowC f (l ++ [x]) = rowC f l ++ f x := by simp [rowC]
/-- One partition more: appended, and stored. -/
theorem Bld.step {n base : Nat} {w2 w3 : World} {g : Nat} {vp vp' vc vs v1 v2 : Value} {ps : List Prt} {cs : List Chn} {ss : List Slt} {p : Prt} {m : Nat} (h : Bld n base w2 g vp vc vs ps cs ss)
    (hp : PrtR w2 v1 v2 p) (h1 : NewB m v1) (h2 : NewB m v2) (hm : g + 1 ≤ m) (hvp : ∀ k, vp.ownBlock = some k → k < m) (l0 : List (Value × Value))
    (hl0 : l0.length = ps.length ∧ w2.ownsRow base 68 2 vp ps.length (rowC prC l0) ∧ ∀ k (hk : k < ps.length) (hk' : k < l0.length), PrtR w2 l0[k].1 l0[k].2 ps[k] ∧ (NewB (g + 1) l0[k].1 ∧ NewB (g + 1) l0[k].2) ∧ (Apart l0[k].1 vp ∧ Apart l0[k].2 vp) ∧ LtB w2 l0[k].1 ∧ LtB w2 l0[k].2)
    (hlt1 : LtB w2 v1 ∧ LtB w2 v2)
    {o : Obj} (hgrow : (w2.alloc o).grownBy w3 vp.ownBlock) (hown : w3.ownsRow base 68 2 vp' (ps.length + 1) (rowC prC l0 ++ [v1, v2])) (hat : ∀ k, vp'.ownBlock = some k → vp.ownBlock = some k ∨ w2.heap.size + 1 ≤ k) :
    Bld n base (w3.setCell ⟨g, 0, none⟩ vp') g vp' vc vs (ps ++ [p]) cs ss ∧ (∀ b, vp'.ownBlock = some b → base ≤ b) := by
  have hb2 : Below w2.heap.size w2 (w2.alloc o) := (Below.refl _ _).alloc (Nat.le_refl _) _
  have hu := h.up hb2
  have hg : g < w2.heap.size := Nat.lt_of_lt_of_le h.gl h.bs
  have hrow := hl0.2.1
  have hgv : some g ≠ vp.ownBlock := fun e => by have := own_block hrow g e.symm; have := h.gl; omega
  have hgl : g < (w2.alloc o).heap.size := by simp; omega
  have hbs := h.bs
  have hnew' := own_block hown
  have far : ∀ v : Value, (∀ b, v.ownBlock = some b → b < w2.heap.size) → Apart v vp → Apart v vp' := fun v hv ha k e e2 => by
    rcases hat k e2 with h1 | h1
    · exact ha k e h1
    · have := hv k e; omega
  have slg : ∀ {size nn : Nat} {v : Value} {xs : List Value}, Sl w2 size v nn xs → NewB (g + 1) v → Apart v vp → Sl (w3.setCell ⟨g, 0, none⟩ vp') size v nn xs := fun hs hn ha =>
    (sl_grown (hs.up hb2) hgrow (fun k e e2 => ha k e e2)).set _ (fun e => by have := hn g e; omega)
  have slc : ∀ {size nn : Nat} {v : Value} {xs : List Value}, Sl w2 size v nn xs → (∀ k, v.ownBlock = some k → k ≠ g ∧ k < base) → Sl (w3.setCell ⟨g, 0, none⟩ vp') size v nn xs := fun hs hn =>
    (sl_grown (hs.up hb2) hgrow (fun k e e2 => by have := own_block hrow k e2; have := (hn k e).2; omega)).set _ (fun e => (hn g e).1 rfl)
  have hsz : w2.heap.size ≤ (w3.setCell ⟨g, 0, none⟩ vp').heap.size := by rw [size_set]; have := hgrow.size; simp at this; omega
  have c0 : w3.cell? ⟨g, 0, none⟩ = some vp := (hgrow.cell_far ⟨g, 0, none⟩ hgl hgv).trans hu.cp
  refine ⟨⟨cl_same c0, fr_set ((hgrow.frozen_far ⟨g, 0, none⟩ hgl hgv).trans hu.fp), cl_set (Or.inr (by decide)) ((hgrow.cell_far ⟨g, 1, none⟩ hgl hgv).trans hu.cc), cl_set (Or.inr (by decide)) ((hgrow.cell_far ⟨g, 2, none⟩ hgl hgv).trans hu.ct), h.gl, h.gn, ?_, ?_, slc h.c h.nc.2, slc h.s h.ns.2, h.nc, h.ns⟩, hnew'⟩
  · rw [size_set]; have := hgrow.size; simp at this; omega
  · refine ⟨l0 ++ [(v1, v2)], by simp [hl0.1], ?_, fun k hk hk' => ?_⟩
    · rw [rowC_snoc]
      have : (ps ++ [p]).length = ps.length + 1 := by simp
      rw [this]
      exact ownsRow_setCell_below hown (by simpa using h.gl) _
    · by_cases hkl : k < l0.length
      · have hkp : k < ps.length := by have := hl0.1; omega
        obtain ⟨a1, ⟨a2, a3⟩, ⟨a4, a5⟩, a6, a7⟩ := hl0.2.2 k hkp hkl
        rw [List.getElem_append_left hkl, List.getElem_append_left hkp]
        exact ⟨⟨slg a1.code a2 a4, slg a1.inn a3 a5⟩, ⟨a2, a3⟩, ⟨far _ a6 a4, far _ a7 a5⟩, a6.up hsz, a7.up hsz⟩
      · have hke : k = ps.length := by have := hl0.1; simp at hk; omega
        have hke' : k = l0.length := by have := hl0.1; omega
        have e1 : (l0 ++ [(v1, v2)])[k] = (v1, v2) := by rw [List.getElem_append_right (by omega)]; simp
        have e2 : (ps ++ [p])[k] = p := by rw [List.getElem_append_right (by omega)]; simp
        rw [e1, e2]
        have n1 : NewB (g + 1) v1 := h1.mono hm
        have n2 : NewB (g + 1) v2 := h2.mono hm
        exact ⟨⟨slg hp.code n1 (apart_lt h1 hvp), slg hp.inn n2 (apart_lt h2 hvp)⟩, ⟨n1, n2⟩, ⟨far _ hlt1.1 (apart_lt h1 hvp), far _ hlt1.2 (apart_lt h2 hvp)⟩, hlt1.1.up hsz, hlt1.2.up hsz⟩
/-- What was built, as a system in new memory. -/
theorem Bld.done {n base : Nat} {wr : World} {g : Nat} {vp vc vs : Value} {ps : List Prt} {cs : List Chn} {ss : List Slt} (h : Bld n base wr g vp vc vs ps cs ss) : SysN n wr vp vc vs ⟨ps, cs, ss⟩ := by
  obtain ⟨l, h1, h2, h3⟩ := h.row
  have hgn := h.gn
  have hgl := h.gl
  exact ⟨⟨l, h1, own_sl h2, fun k e => by have := own_block h2 k e; omega, fun k hk hk' => ⟨(h3 k hk hk').1, (h3 k hk hk').2.1.1.mono (by omega), (h3 k hk hk').2.1.2.mono (by omega)⟩⟩, h.c, h.s, h.nc.1, h.ns.1⟩
end Go.Proofs.YtjhjaafoikadgaaDoor

namespace Go.Proofs.YtjhjaafoikadgaaDoor
set_option linter.unusedSimpArgs false
set_option linter.unusedVariables false
open Go.RowKit Go.Sort
attribute [local go_sem ↓] Go.wp_at_zero Go.wp_at_succ

/-- A variable of three cells that may be written. -/
structure Var3 (w : World) (g : Nat) (a b c : Value) : Prop where
  x : w.cell? ⟨g, 0, none⟩ = some a
  y : w.cell? ⟨g, 1, none⟩ = some b
  z : w.cell? ⟨g, 2, none⟩ = some c
  fx : w.frozen? ⟨g, 0, none⟩ = false
  fy : w.frozen? ⟨g, 1, none⟩ = false
  fz : w.frozen? ⟨g, 2, none⟩ = false
  lt : g < w.heap.size
theorem Var3.up {w w' : World} {g : Nat} {a b c : Value} (h : Var3 w g a b c) (hb : Below w.heap.size w w') : Var3 w' g a b c :=
  ⟨bcl hb h.lt h.x, bcl hb h.lt h.y, bcl hb h.lt h.z, bfr hb h.lt h.fx, bfr hb h.lt h.fy, bfr hb h.lt h.fz, Nat.lt_of_lt_of_le h.lt hb.size⟩
theorem var3_new (w : World) (a b c : Value) (t : TypeId) (g : Nat) (hg : g = w.heap.size) : Var3 (w.alloc (.cells #[a, b, c] t)) g a b c := by
  subst hg
  exact ⟨by simp, by simp, by simp, by simp, by simp, by simp, by simp⟩

def stopP : Prt := ⟨[⟨15, 0, 0, 0⟩], []⟩
def calmS (S : SysD) (k : Nat) : SysD := ⟨S.parts.set k stopP, S.chans, S.slots⟩
/-- Calm's error. -/
def calmE (S : SysD) (part : Int) : Int := if chkS S = 0 then (if withinB part 0 ((S.parts.length : Int) - 1) then 0 else 5) else chkS S

set_option maxRecDepth 100000 in
set_option maxHeartbeats 4000000 in
theorem calm_no (S : SysD) (vp vc vs : Value) (part : Int) (w : World) (he : Env w) (hS : Sys w vp vc vs S) (c : Int) (hc : calmE S part = c) (h0 : c ≠ 0) :
    Calls Tryd.prog 24 #[.agg #[vp, vc, vs], .int .i64 part] w fun e w' => e = .returned (.tuple #[.agg #[.slice none 0 0, .slice none 0 0, .slice none 0 0], .int .i64 c]) ∧ Below w.heap.size w w' := by
  obtain ⟨pa, pc, rfl⟩ := hS.p.form
  obtain ⟨ca, cc, rfl⟩ := hS.c.form
  obtain ⟨sa, sc, rfl⟩ := hS.s.form
  have HS := Lib.hid hS
  have HC := Lib.hid hc
  generalize hz : chkS S = z
  have HZ := Lib.hid hz
  have H0 := Lib.hid h0
  clear hS hc hz h0
  go_enter Tryd.func24, Tryd.ntmps24
  go_wp2_with fail
  refine (confCheck_any S _ _ _ _ (he.up (by repeat (first | exact Below.refl _ _ | assumption | refine Below.drew ?_ | refine Below.alloc ?_ (by first | (simp; done) | (simp; omega)) _ | refine Below.setCell ?_ (by first | (simp; done) | (simp; omega)) _))) (HS.out.up (by repeat (first | exact Below.refl _ _ | assumption | refine Below.drew ?_ | refine Below.alloc ?_ (by first | (simp; done) | (simp; omega)) _ | refine Below.setCell ?_ (by first | (simp; done) | (simp; omega)) _)))).mono ?_
  rw [HZ.out]
  rintro e w1 ⟨rfl, bb⟩
  have hB := (box_new w (.slice pa S.parts.length pc) (.slice ca S.chans.length cc) (.slice sa S.slots.length sc) 26 _ rfl)
  have HB := Lib.hid ((hB.up (w' := (w.alloc (.cells #[.slice pa S.parts.length pc, .slice ca S.chans.length cc, .slice sa S.slots.length sc] 26)).alloc (.cells #[.slice none 0 0, .slice none 0 0, .slice none 0 0] 26)) ((Below.refl _ _).alloc (Nat.le_refl _) _)).up bb)
  have D := Lib.hid (Below.trans (show Below w.heap.size w _ from (by repeat (first | exact Below.refl _ _ | assumption | refine Below.drew ?_ | refine Below.alloc ?_ (by first | (simp; done) | (simp; omega)) _ | refine Below.setCell ?_ (by first | (simp; done) | (simp; omega)) _))) (bb.mono (by simp; omega)))
  have HV := Lib.hid ((var3_new (w.alloc (.cells #[.slice pa S.parts.length pc, .slice ca S.chans.length cc, .slice sa S.slots.length sc] 26)) (.slice none 0 0) (.slice none 0 0) (.slice none 0 0) 26 (w.heap.size + 1) (by simp)).up bb)
  clear bb hB
  by_cases h0 : z = 0
  · subst h0
    have k0 := HB.out.p
    have k1 := HB.out.c
    have k2 := HB.out.s
    have HW : Hid (withinB part 0 ((S.parts.length : Int) - 1) = false ∧ c = 5) := by
      have h := HC.out
      unfold calmE at h
      rw [HZ.out, if_pos rfl] at h
      cases hw : withinB part 0 ((S.parts.length : Int) - 1)
      · rw [hw] at h; exact ⟨rfl, h.symm⟩
      · rw [hw] at h; exact absurd h.symm H0.out
    have hn := (countsB_is (chkS_zero HZ.out).1).1
    obtain rfl := HW.out.2
    go_wp2_with fail
    refine (isPart_any _ _ _ _ _ part _ (by omega)).mono ?_
    rw [HW.out.1]
    rintro e w2 ⟨rfl, bb⟩
    have D := Lib.hid (D.out.trans (bb.mono D.out.size))
    have HV := Lib.hid (HV.out.up bb)
    clear bb k0 k1 k2
    have r0 := HV.out.x
    have r1 := HV.out.y
    have r2 := HV.out.z
    have f0 := HV.out.fx
    have f1 := HV.out.fy
    have f2 := HV.out.fz
    go_wp2
    refine bodyPost_ret (v := .tuple #[.agg #[.slice none 0 0, .slice none 0 0, .slice none 0 0], .int .i64 5]) (by simp [results, Tryd.f24, go_sem, r0, r1, r2]) rfl ⟨rfl, ?_⟩
    exact ((D.out.setCell (by simp) _).setCell (by simp) _).setCell (by simp) _
  · have hz' : (z != 0) = true := by simpa using h0
    obtain rfl : z = c := by have h := HC.out; unfold calmE at h; rw [HZ.out, if_neg h0] at h; exact h
    clear h0
    have r0 := HV.out.x
    have r1 := HV.out.y
    have r2 := HV.out.z
    have f0 := HV.out.fx
    have f1 := HV.out.fy
    have f2 := HV.out.fz
    go_wp2
    refine bodyPost_ret (v := .tuple #[.agg #[.slice none 0 0, .slice none 0 0, .slice none 0 0], .int .i64 z]) (by simp [results, Tryd.f24, go_sem, r0, r1, r2]) rfl ⟨rfl, ?_⟩
    exact ((D.out.setCell (by simp) _).setCell (by simp) _).setCell (by simp) _
end Go.Proofs.YtjhjaafoikadgaaDoor

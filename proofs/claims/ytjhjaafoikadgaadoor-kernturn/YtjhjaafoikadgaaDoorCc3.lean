/- conf.Calm of a right system. -/
import Derived.Test.YtjhjaafoikadgaaDoorJp
import Derived.Test.YtjhjaafoikadgaaDoorJe
namespace Go.Proofs.YtjhjaafoikadgaaDoor
set_option linter.unusedSimpArgs false
set_option linter.unusedVariables false
open Go.RowKit Go.Sort
attribute [local go_sem ↓] Go.wp_at_zero Go.wp_at_succ

theorem Var3.sets {w : World} {g : Nat} {a b c a' b' c' : Value} (h : Var3 w g a b c) : Var3 (((w.setCell ⟨g, 0, none⟩ a').setCell ⟨g, 1, none⟩ b').setCell ⟨g, 2, none⟩ c') g a' b' c' :=
  ⟨cl_set (Or.inr (by decide)) (cl_set (Or.inr (by decide)) (cl_same h.x)), cl_set (Or.inr (by decide)) (cl_same (cl_set (Or.inr (by decide)) h.y)), cl_same (cl_set (Or.inr (by decide)) (cl_set (Or.inr (by decide)) h.z)),
   fr_set (fr_set (fr_set h.fx)), fr_set (fr_set (fr_set h.fy)), fr_set (fr_set (fr_set h.fz)), by rw [size_set, size_set, size_set]; exact h.lt⟩
theorem bld_of {n : Nat} {w' : World} {g : Nat} {v1 v2 : Value} {cs : List Chn} {ss : List Slt} (V : Var3 w' g (.slice none 0 0) v1 v2) (s1 : Sl w' 3 v1 cs.length (rowC chC cs)) (s2 : Sl w' 2 v2 ss.length (rowC slC ss)) (hn : n ≤ g)
    (h1 : NewB n v1 ∧ ∀ k, v1.ownBlock = some k → k ≠ g ∧ k < w'.heap.size) (h2 : NewB n v2 ∧ ∀ k, v2.ownBlock = some k → k ≠ g ∧ k < w'.heap.size) : Bld n w'.heap.size w' g (.slice none 0 0) v1 v2 [] cs ss :=
  ⟨V.x, V.fx, V.y, V.z, V.lt, hn, Nat.le_refl _, ⟨[], rfl, World.ownsRow_nil _ _ _ _, fun k hk => absurd hk (by simp)⟩, s1, s2, h1, h2⟩
theorem bldA {n : Nat} {w3 w4 : World} {g B1 B2 : Nat} {v1 v2 : Value} {cs : List Chn} {ss : List Slt} (V : Var3 w4 g (.slice none 0 0) (.slice none 0 0) (.slice none 0 0)) (o1 : w3.ownsRow B1 56 3 v1 cs.length (rowC chC cs)) (b34 : Below w3.heap.size w3 w4) (o2 : w4.ownsRow B2 72 2 v2 ss.length (rowC slC ss))
    (hn : n ≤ g) (hB1 : n ≤ B1) (hB2 : n ≤ B2) (h1 : g < B1 ∨ w3.heap.size ≤ g) (h2 : g < B2) :
    Bld n (((w4.setCell ⟨g, 0, none⟩ (.slice none 0 0)).setCell ⟨g, 1, none⟩ v1).setCell ⟨g, 2, none⟩ v2).heap.size (((w4.setCell ⟨g, 0, none⟩ (.slice none 0 0)).setCell ⟨g, 1, none⟩ v1).setCell ⟨g, 2, none⟩ v2) g (.slice none 0 0) v1 v2 [] cs ss := by
  have hz : (((w4.setCell ⟨g, 0, none⟩ (.slice none 0 0)).setCell ⟨g, 1, none⟩ v1).setCell ⟨g, 2, none⟩ v2).heap.size = w4.heap.size := by rw [size_set, size_set, size_set]
  have l1 := own_ltB o1
  have l2 := own_ltB o2
  have n1 := own_block o1
  have n2 := own_block o2
  have zb := b34.size
  have a1 : ∀ k, v1.ownBlock = some k → k ≠ g ∧ k < w4.heap.size := fun k e => by have := l1 k e; have := n1 k e; omega
  have a2 : ∀ k, v2.ownBlock = some k → k ≠ g ∧ k < w4.heap.size := fun k e => by have := l2 k e; have := n2 k e; omega
  have f1 : v1.ownBlock ≠ some g := fun e => (a1 g e).1 rfl
  have f2 : v2.ownBlock ≠ some g := fun e => (a2 g e).1 rfl
  refine bld_of V.sets ((((own_sl o1).up b34).set _ f1).set _ f1 |>.set _ f1) (((own_sl o2).set _ f2).set _ f2 |>.set _ f2) hn ⟨fun k e => by have := n1 k e; omega, fun k e => ?_⟩ ⟨fun k e => by have := n2 k e; omega, fun k e => ?_⟩
  · rw [hz]; exact a1 k e
  · rw [hz]; exact a2 k e
theorem bldB {n : Nat} {w3 w4 : World} {B1 B2 : Nat} {v1 v2 : Value} {cs : List Chn} {ss : List Slt} {t : TypeId} (o1 : w3.ownsRow B1 56 3 v1 cs.length (rowC chC cs)) (b34 : Below w3.heap.size w3 w4) (o2 : w4.ownsRow B2 72 2 v2 ss.length (rowC slC ss))
    (hn : n ≤ w4.heap.size) (hB1 : n ≤ B1) (hB2 : n ≤ B2) :
    Bld n (w4.alloc (.cells #[.slice none 0 0, v1, v2] t)).heap.size (w4.alloc (.cells #[.slice none 0 0, v1, v2] t)) w4.heap.size (.slice none 0 0) v1 v2 [] cs ss := by
  have l1 := own_ltB o1
  have l2 := own_ltB o2
  have n1 := own_block o1
  have n2 := own_block o2
  have zb := b34.size
  have bb : Below w4.heap.size w4 (w4.alloc (.cells #[.slice none 0 0, v1, v2] t)) := (Below.refl _ _).alloc (Nat.le_refl _) _
  refine bld_of (var3_new w4 _ _ _ t _ rfl) (((own_sl o1).up b34).up bb) ((own_sl o2).up bb) hn ⟨fun k e => by have := n1 k e; omega, fun k e => ?_⟩ ⟨fun k e => by have := n2 k e; omega, fun k e => ?_⟩
  · have := l1 k e; simp; omega
  · have := l2 k e; simp; omega

theorem Bld.grow {n base : Nat} {W0 W1 w3 w4 w5 : World} {g k : Nat} {va : Option Addr} {vcap g' cap5 B1 B2 : Nat} {vc vs v1 v2 : Value} {ps : List Prt} {cs : List Chn} {ss : List Slt} {q : Prt} {o : Obj} {l0 : List (Value × Value)} {B : Nat}
    (h : Bld n base W1 g (.slice va k vcap) vc vs ps cs ss) (hkl : ps.length = k)
    (hl0 : l0.length = ps.length ∧ W1.ownsRow base 68 2 (.slice va k vcap) ps.length (rowC prC l0) ∧ ∀ k' (hk : k' < ps.length) (hk' : k' < l0.length), PrtR W1 l0[k'].1 l0[k'].2 ps[k'] ∧ (NewB (g + 1) l0[k'].1 ∧ NewB (g + 1) l0[k'].2) ∧ (Apart l0[k'].1 (.slice va k vcap) ∧ Apart l0[k'].2 (.slice va k vcap)) ∧ LtB W1 l0[k'].1 ∧ LtB W1 l0[k'].2)
    (D3 : Below W1.heap.size W1 w3) (D34 : Below w3.heap.size w3 w4) (O1 : w3.ownsRow B1 74 4 v1 q.code.length (codeC q.code)) (O2 : w4.ownsRow B2 3 1 v2 q.inn.length (ints q.inn)) (hB1 : W1.heap.size ≤ B1) (hB2 : W1.heap.size ≤ B2)
    (hgrow : (w4.alloc o).grownBy w5 (Value.ownBlock (.slice va k vcap))) (hown : w5.ownsRow base 68 2 (.slice (some ⟨g', 0, none⟩) (k + 1) cap5) (k + 1) (rowC prC l0 ++ [v1, v2])) (hat : Value.ownBlock (.slice va k vcap) = some g' ∨ g' = w4.heap.size + 1)
    (hT : Below B W0 W1) (hB : B ≤ n) (hBw : B ≤ W1.heap.size) (hnb : n ≤ base) :
    Bld n base (w5.setCell ⟨g, 0, none⟩ (.slice (some ⟨g', 0, none⟩) (k + 1) cap5)) g (.slice (some ⟨g', 0, none⟩) (k + 1) cap5) vc vs (ps ++ [q]) cs ss ∧ Below B W0 (w5.setCell ⟨g, 0, none⟩ (.slice (some ⟨g', 0, none⟩) (k + 1) cap5)) := by
  have D4 := D3.trans (D34.mono D3.size)
  have hgb := h.gl
  have hbs := h.bs
  have hgn := h.gn
  have z4 := D4.size
  have hv := own_block hl0.2.1
  refine ⟨(Bld.step (h.up D4) ⟨(own_sl O1).up D34, own_sl O2⟩ ((own_new O1).mono hB1) ((own_new O2).mono hB2) (by omega) (fun b e => own_ltB hl0.2.1 b e) l0 ⟨hl0.1, own_upC hl0.2.1 D4, fun k' hk hk' => ?_⟩ ⟨(own_ltB O1).up D34.size, own_ltB O2⟩ hgrow (by rw [hkl]; exact hown) (fun b e => ?_)).1, ?_⟩
  · obtain ⟨a1, a2, a3, a4, a5⟩ := hl0.2.2 k' hk hk'
    exact ⟨a1.up D4, a2, a3, a4.up z4, a5.up z4⟩
  · obtain rfl : g' = b := by simpa [Value.ownBlock] using e
    exact hat.imp id (fun e => by omega)
  · exact (((hT.trans (D4.mono hBw)).alloc (by omega) o).grown hgrow (by simp; omega) (fun b e => by have := hv b e; omega)).setCell (by simp; omega) _
theorem enCopIns : Enters 48 := enters Tryd.func48 (by kernel_rfl) (by kernel_rfl)
theorem enCopInt : Enters 49 := enters Tryd.func49 (by kernel_rfl) (by kernel_rfl)
theorem infoPart : (Tryd.prog.info? 68).map (fun i => (i.zero, i.size, i.bytes)) = some (some (.agg #[.slice none 0 0, .slice none 0 0]), 2, 48) := by kernel_rfl
theorem two_at (w : World) (v u : Value) (t : TypeId) (b : Nat) (hb : b = w.heap.size) : ∀ j x, [v, u][j]? = some x → (w.alloc (.cells #[v, u] t)).cell? ((⟨b, 0, none⟩ : Addr).add j) = some x := by
  subst hb
  intro j x hj
  match j, hj with
  | 0, hj => simp at hj; subst hj; simp [Addr.add]
  | 1, hj => simp at hj; subst hj; simp [Addr.add]
  | j + 2, hj => simp at hj
theorem two_cell (a b : Option Addr) (n c m d : Nat) : ∀ x ∈ [Value.slice a n c, Value.slice b m d], x.oneCell' = true := by
  intro x hx
  simp at hx
  rcases hx with rfl | rfl <;> rfl
theorem calm_at (S : SysD) (part k : Nat) (h : k < (calmS S part).parts.length) (h' : k < S.parts.length) : (calmS S part).parts[k] = if part = k then stopP else S.parts[k] := by
  simp only [calmS, List.getElem_set]

set_option maxRecDepth 100000 in
set_option maxHeartbeats 8000000 in
theorem calm_yes (S : SysD) (vp vc vs : Value) (part : Nat) (w : World) (he : Env w) (hS : Sys w vp vc vs S) (hz : chkS S = 0) (hp : part < S.parts.length) :
    Calls Tryd.prog 24 #[.agg #[vp, vc, vs], .int .i64 (part : Int)] w fun e w' => ∃ xp xc xs, e = .returned (.tuple #[.agg #[xp, xc, xs], .int .i64 0]) ∧ SysN (w.heap.size + 2) w' xp xc xs (calmS S part) ∧ Below w.heap.size w w' := by
  have hcnt := (countsB_is (chkS_zero hz).1)
  have hn1 : S.parts.length ≤ 4 := hcnt.1.2.1
  have hn2 : S.chans.length ≤ 6 := hcnt.1.2.2.1
  have hn3 : S.slots.length ≤ 6 := hcnt.1.2.2.2.2
  have HI := Lib.hid hcnt.2
  have HL : Hid (∀ j (hj : j < S.parts.length), S.parts[j].code.length ≤ 20) := fun j hj => (chkC_zero ((chkS_zero hz).2.1 j hj)).2.1
  obtain ⟨pb, po, pc, rfl, hpc, hpb, hpp⟩ := hS.p.open (by omega)
  obtain ⟨ca, cc, rfl⟩ := hS.c.form
  obtain ⟨sa, sc, rfl⟩ := hS.s.form
  have HPP := Lib.hid hpp
  have HS := Lib.hid hS
  have HZ := Lib.hid hz
  have HW : Hid (withinB (part : Int) 0 ((S.parts.length : Int) - 1) = true) := by show withinB _ _ _ = _; unfold withinB; simp; omega
  clear hS hz hcnt hpp
  go_enter Tryd.func24, Tryd.ntmps24
  go_wp2_with fail
  refine (confCheck_any S _ _ _ _ (he.up (by repeat (first | exact Below.refl _ _ | assumption | refine Below.drew ?_ | refine Below.alloc ?_ (by first | (simp; done) | (simp; omega)) _ | refine Below.setCell ?_ (by first | (simp; done) | (simp; omega)) _))) (HS.out.up (by repeat (first | exact Below.refl _ _ | assumption | refine Below.drew ?_ | refine Below.alloc ?_ (by first | (simp; done) | (simp; omega)) _ | refine Below.setCell ?_ (by first | (simp; done) | (simp; omega)) _)))).mono ?_
  rw [HZ.out]
  rintro e w1 ⟨rfl, bb⟩
  have hB := (box_new w (.slice (some ⟨pb, po, none⟩) S.parts.length pc) (.slice ca S.chans.length cc) (.slice sa S.slots.length sc) 26 _ rfl)
  have HB := Lib.hid ((hB.up (w' := (w.alloc (.cells #[.slice (some ⟨pb, po, none⟩) S.parts.length pc, .slice ca S.chans.length cc, .slice sa S.slots.length sc] 26)).alloc (.cells #[.slice none 0 0, .slice none 0 0, .slice none 0 0] 26)) ((Below.refl _ _).alloc (Nat.le_refl _) _)).up bb)
  have D := Lib.hid (Below.trans (show Below w.heap.size w _ from (by repeat (first | exact Below.refl _ _ | assumption | refine Below.drew ?_ | refine Below.alloc ?_ (by first | (simp; done) | (simp; omega)) _ | refine Below.setCell ?_ (by first | (simp; done) | (simp; omega)) _))) (bb.mono (by simp; omega)))
  have HV := Lib.hid ((var3_new (w.alloc (.cells #[.slice (some ⟨pb, po, none⟩) S.parts.length pc, .slice ca S.chans.length cc, .slice sa S.slots.length sc] 26)) (.slice none 0 0) (.slice none 0 0) (.slice none 0 0) 26 (w.heap.size + 1) (by simp)).up bb)
  clear bb hB
  have k0 := HB.out.p
  have k1 := HB.out.c
  have k2 := HB.out.s
  go_wp2_with fail
  refine (isPart_any _ _ _ _ _ (part : Int) _ (by omega)).mono ?_
  rw [HW.out]
  rintro e w2 ⟨rfl, bb⟩
  have D := Lib.hid (D.out.trans (bb.mono D.out.size))
  have HV := Lib.hid (HV.out.up bb)
  have HB := Lib.hid (HB.out.up bb)
  clear bb k0 k1 k2
  have k0 := HB.out.p
  have k1 := HB.out.c
  have k2 := HB.out.s
  have hv := HV.out.lt
  have k1a := cl_alloc (.cells #[.slice none 0 0, .slice none 0 0, .slice none 0 0] 26) HB.out.lt k1
  have k2a := cl_alloc (.cells #[.slice none 0 0, .slice none 0 0, .slice none 0 0] 26) HB.out.lt k2
  go_wp2
  go_cut [7] from 10 (fun d wc => ∃ g xc xs, d = .pointer (some ⟨g, 0, none⟩) ∧ Hid (Bld (w.heap.size + 2) wc.heap.size wc g (.slice none 0 0) xc xs [] S.chans S.slots) ∧ Hid (Below w2.heap.size w2 wc))
  case first =>
    go_region_with (first
      | (go_at_call 46; refine (copChan_any S.chans (by omega) _ _ ((HS.out.c.up D.out).up (by repeat (first | exact Below.refl _ _ | assumption | refine Below.drew ?_ | refine Below.alloc ?_ (by first | (simp; done) | (simp; omega)) _ | refine Below.setCell ?_ (by first | (simp; done) | (simp; omega)) _)))).mono ?_; rintro e w3 ⟨v1, rfl, o1, b1⟩; obtain ⟨a1, c1, rfl⟩ := own_form o1; have VV : Hid (Var3 w3 w2.heap.size (.slice none 0 0) (.slice none 0 0) (.slice none 0 0)) := ((var3_new w2.drew (.slice none 0 0) (.slice none 0 0) (.slice none 0 0) 26 w2.heap.size rfl).up b1); have D3 := Lib.hid (show Below w2.heap.size w2 w3 from Below.trans (by repeat (first | exact Below.refl _ _ | assumption | refine Below.drew ?_ | refine Below.alloc ?_ (by first | (simp; done) | (simp; omega)) _ | refine Below.setCell ?_ (by first | (simp; done) | (simp; omega)) _)) (b1.mono (by simp))); have O1 := Lib.hid o1; have k2' := (HB.out.up D3.out).s; have k2b := cl_alloc (.cells #[.slice none 0 0, .slice none 0 0, .slice none 0 0] 26) (HB.out.up D3.out).lt k2'; clear b1 o1)
      | (go_at_call 46; refine (copChan_any S.chans (by omega) _ _ ((HS.out.c.up D.out).up (by repeat (first | exact Below.refl _ _ | assumption | refine Below.drew ?_ | refine Below.alloc ?_ (by first | (simp; done) | (simp; omega)) _ | refine Below.setCell ?_ (by first | (simp; done) | (simp; omega)) _)))).mono ?_; rintro e w3 ⟨v1, rfl, o1, b1⟩; obtain ⟨a1, c1, rfl⟩ := own_form o1; have D3 := Lib.hid (show Below w2.heap.size w2 w3 from Below.trans (by repeat (first | exact Below.refl _ _ | assumption | refine Below.drew ?_ | refine Below.alloc ?_ (by first | (simp; done) | (simp; omega)) _ | refine Below.setCell ?_ (by first | (simp; done) | (simp; omega)) _)) (b1.mono (by simp))); have O1 := Lib.hid o1; have k2' := (HB.out.up D3.out).s; have k2b := cl_alloc (.cells #[.slice none 0 0, .slice none 0 0, .slice none 0 0] 26) (HB.out.up D3.out).lt k2'; clear b1 o1)
      | (go_at_call 47; refine (copSlot_any S.slots (by omega) _ _ (((HS.out.s.up D.out).up D3.out).up (by repeat (first | exact Below.refl _ _ | assumption | refine Below.drew ?_ | refine Below.alloc ?_ (by first | (simp; done) | (simp; omega)) _ | refine Below.setCell ?_ (by first | (simp; done) | (simp; omega)) _)))).mono ?_; rintro e w4 ⟨v2, rfl, o2, b2⟩; obtain ⟨a2, c2, rfl⟩ := own_form o2; have V4 := Lib.hid (VV.out.up b2); have vl := VV.out.lt; have x0 := V4.out.x; have x1 := V4.out.y; have x2 := V4.out.z; have y0 := V4.out.fx; have y1 := V4.out.fy; have y2 := V4.out.fz; have D34 := Lib.hid (show Below w3.heap.size w3 w4 from Below.trans (by repeat (first | exact Below.refl _ _ | assumption | refine Below.drew ?_ | refine Below.alloc ?_ (by first | (simp; done) | (simp; omega)) _ | refine Below.setCell ?_ (by first | (simp; done) | (simp; omega)) _)) (b2.mono (by simp))); have O2 := Lib.hid o2; clear b2 o2)
      | (go_at_call 47; refine (copSlot_any S.slots (by omega) _ _ (((HS.out.s.up D.out).up D3.out).up (by repeat (first | exact Below.refl _ _ | assumption | refine Below.drew ?_ | refine Below.alloc ?_ (by first | (simp; done) | (simp; omega)) _ | refine Below.setCell ?_ (by first | (simp; done) | (simp; omega)) _)))).mono ?_; rintro e w4 ⟨v2, rfl, o2, b2⟩; obtain ⟨a2, c2, rfl⟩ := own_form o2; have V4 : Hid (Var3 w4 w3.heap.size (.slice none 0 0) (.slice none 0 0) (.slice none 0 0)) := ((var3_new w3 (.slice none 0 0) (.slice none 0 0) (.slice none 0 0) 26 w3.heap.size rfl).up b2); have x0 := V4.out.x; have x1 := V4.out.y; have x2 := V4.out.z; have y0 := V4.out.fx; have y1 := V4.out.fy; have y2 := V4.out.fz; have D34 := Lib.hid (show Below w3.heap.size w3 w4 from Below.trans (by repeat (first | exact Below.refl _ _ | assumption | refine Below.drew ?_ | refine Below.alloc ?_ (by first | (simp; done) | (simp; omega)) _ | refine Below.setCell ?_ (by first | (simp; done) | (simp; omega)) _)) (b2.mono (by simp))); have O2 := Lib.hid o2; clear b2 o2)
      | (go_at_call 47; refine (copSlot_any S.slots (by omega) _ _ (((HS.out.s.up D.out).up D3.out).up (by repeat (first | exact Below.refl _ _ | assumption | refine Below.drew ?_ | refine Below.alloc ?_ (by first | (simp; done) | (simp; omega)) _ | refine Below.setCell ?_ (by first | (simp; done) | (simp; omega)) _)))).mono ?_; rintro e w4 ⟨v2, rfl, o2, b2⟩; obtain ⟨a2, c2, rfl⟩ := own_form o2; have D34 := Lib.hid (show Below w3.heap.size w3 w4 from Below.trans (by repeat (first | exact Below.refl _ _ | assumption | refine Below.drew ?_ | refine Below.alloc ?_ (by first | (simp; done) | (simp; omega)) _ | refine Below.setCell ?_ (by first | (simp; done) | (simp; omega)) _)) (b2.mono (by simp))); have O2 := Lib.hid o2; clear b2 o2))
    all_goals go_wp2
    all_goals have zz3 := D3.out.size
    all_goals have zz4 := D34.out.size
    all_goals have D4 := Lib.hid (D3.out.trans (D34.out.mono zz3))
    all_goals go_meet
    all_goals first
      | exact ⟨_, _, _, rfl, bldA V4.out O1.out D34.out O2.out (by first | omega | (simp; done) | (simp; omega)) (by first | omega | (simp; done) | (simp; omega)) (by first | omega | (simp; done) | (simp; omega)) (by first | (right; omega) | (left; omega) | (left; simp; done) | (left; simp; omega)) (by first | omega | (simp; done) | (simp; omega)), ((D4.out.setCell (by first | omega | (simp; done) | (simp; omega)) _).setCell (by first | omega | (simp; done) | (simp; omega)) _).setCell (by first | omega | (simp; done) | (simp; omega)) _⟩
      | exact ⟨_, _, _, rfl, bldB O1.out D34.out O2.out (by first | omega | (simp; done) | (simp; omega)) (by first | omega | (simp; done) | (simp; omega)) (by first | omega | (simp; done) | (simp; omega)), D4.out.alloc (by first | omega | (simp; done) | (simp; omega)) _⟩
  case rest =>
    obtain ⟨g, xc, xs, rfl, HBL, D2c⟩ := hcut
    obtain ⟨W0, hW0⟩ : ∃ W0, W0 = wc := ⟨_, rfl⟩
    subst hW0
    clear k0 k1 k2 k1a k2a
    have D0 := Lib.hid (D.out.trans (D2c.out.mono D.out.size))
    have HV := Lib.hid (HV.out.up D2c.out)
    have HB := Lib.hid (HB.out.up D2c.out)
    have k0 := HB.out.p
    obtain ⟨xca, xcc, rfl⟩ := HBL.out.c.form
    obtain ⟨xsa, xsc, rfl⟩ := HBL.out.s.form
    have hgn := HBL.out.gn
    have hgl := HBL.out.gl
    have hW02 : w.heap.size + 2 ≤ W0.heap.size := by omega
    obtain ⟨P, hP⟩ : ∃ P, P = (calmS S part).parts := ⟨_, rfl⟩
    have hPl : P.length = S.parts.length := by rw [hP]; simp [calmS]
    have HPA : Hid (∀ k (h : k < P.length) (h' : k < S.parts.length), P[k] = if part = k then stopP else S.parts[k]) := by subst hP; exact fun k h h' => calm_at S part k h h'
    have HPE := Lib.hid hP
    have HPL := Lib.hid hPl
    clear hP hPl D2c D
    go_wp2
    go_loopw [31] (fun i wr => ∃ (k : Nat) (vp : Value), i = .int .i64 k ∧ k ≤ S.parts.length ∧ Hid (Bld (w.heap.size + 2) W0.heap.size wr g vp (.slice xca S.chans.length xcc) (.slice xsa S.slots.length xsc) (P.take k) S.chans S.slots) ∧ Hid (Below (w.heap.size + 2) W0 wr)) (fun i _ => S.parts.length - (intOf i).toNat)
    case atStart => exact ⟨0, _, rfl, Nat.zero_le _, HBL, Below.refl _ _⟩
    case round =>
      obtain ⟨k, vp, rfl, hk, HBL, HT⟩ := hrel
      have HD := Lib.hid (D0.out.trans (HT.out.mono (by omega)))
      obtain ⟨va, vcap, hvp⟩ := HBL.out.form
      have hkl : (P.take k).length = k := by rw [List.length_take, HPL.out]; omega
      rw [hkl] at hvp
      subst hvp
      have hbs := HBL.out.bs
      by_cases hlt : k < S.parts.length
      · have hli : (k : Int) < S.parts.length := by omega
        obtain ⟨c, i, c0, c1, hpr⟩ := HPP.out k hlt
        obtain ⟨a1, b1, rfl⟩ := hpr.code.form
        obtain ⟨a2, b2, rfl⟩ := hpr.inn.form
        have c0 := bcl HD.out hpb c0
        have c1 := bcl HD.out hpb c1
        have HPR := Lib.hid (hpr.up HD.out)
        have hkP : k < P.length := by rw [HPL.out]; exact hlt
        obtain ⟨q, hq⟩ : ∃ q, q = P[k] := ⟨_, rfl⟩
        have hqv : q = if part = k then stopP else S.parts[k] := by rw [hq]; exact HPA.out k hkP hlt
        have hql : q.code.length ≤ 20 ∧ q.inn.length ≤ 12 := by
          rw [hqv]
          split
          · simp [stopP]
          · exact ⟨HL.out k hlt, HI.out k hlt⟩
        have HQ := Lib.hid hq
        have HQV := Lib.hid hqv
        clear hpr hq hqv
        go_upto_if 38 with fail
        go_cut [31] from 31 to 54 (fun i wc => i = .int .i64 k ∧ ∃ C I, wc.cell? ⟨wr.heap.size, 0, none⟩ = some C ∧ wc.cell? ⟨wr.heap.size, 1, none⟩ = some I ∧ Hid (PrtR wc C I q) ∧ Hid (Below wr.heap.size wr wc) ∧ wr.heap.size < wc.heap.size)
        case first =>
          by_cases hkp : part = k
          · have hke : ((k : Int) == (part : Int)) = true := by simp; omega
            have hqs : q = stopP := by rw [HQV.out, if_pos hkp]
            subst hqs
            go_wp2
            go_meet
            exact ⟨rfl, .slice (some ⟨wr.heap.size + 1, 0, none⟩) 1 1, .slice none 0 0, by simp, by simp, ⟨lit_sl _ _ _ _ 1 4 (by simp) rfl, Sl.nil _ _⟩, (by repeat (first | exact Below.refl _ _ | assumption | refine Below.drew ?_ | refine Below.alloc ?_ (by first | (simp; done) | (simp; omega)) _ | refine Below.setCell ?_ (by first | (simp; done) | (simp; omega)) _)), by simp; try omega⟩
          · have hke : ((k : Int) == (part : Int)) = false := by simp; omega
            have hqs : q = S.parts[k] := by rw [HQV.out, if_neg hkp]
            subst hqs
            go_wp2
            go_meet
            exact ⟨rfl, _, _, by simp, by simp, HPR.out.up (by repeat (first | exact Below.refl _ _ | assumption | refine Below.drew ?_ | refine Below.alloc ?_ (by first | (simp; done) | (simp; omega)) _ | refine Below.setCell ?_ (by first | (simp; done) | (simp; omega)) _)), (by repeat (first | exact Below.refl _ _ | assumption | refine Below.drew ?_ | refine Below.alloc ?_ (by first | (simp; done) | (simp; omega)) _ | refine Below.setCell ?_ (by first | (simp; done) | (simp; omega)) _)), by simp⟩
        case rest =>
          obtain ⟨rfl, C, I, e0, e1, HQR, DW, hwl⟩ := hcut
          obtain ⟨W1, hW1⟩ : ∃ W1, W1 = wc := ⟨_, rfl⟩
          subst hW1
          obtain ⟨a3, b3, rfl⟩ := HQR.out.code.form
          obtain ⟨a4, b4, rfl⟩ := HQR.out.inn.form
          have HBL1 := Lib.hid (HBL.out.up DW.out)
          have HT1 := Lib.hid (HT.out.trans (DW.out.mono (by omega)))
          have g0 := HBL1.out.cp
          have g1 := HBL1.out.fp
          have hbs1 := HBL1.out.bs
          have hws := DW.out.size
          generalize hpk : wr.heap.size = pk at e0 e1 hwl
          clear c0 c1 HPR HD
          obtain ⟨i0, hi, hz0, hz1, hz2⟩ := info_parts infoPart
          have hgw : g < W1.heap.size := by omega
          obtain ⟨l0, hl0⟩ := HBL1.out.row
          have hrow := hl0.2.1
          rw [hkl] at hrow
          have HROW := Lib.hid hrow
          have hvb : Hid (∀ b, Value.ownBlock (.slice va k vcap) = some b → W0.heap.size ≤ b ∧ b < pk) := fun b e => by
            obtain ⟨l1, hl1⟩ := HBL.out.row
            exact ⟨own_block hl1.2.1 b e, by have := own_ltB hl1.2.1 b e; omega⟩
          have hgv : some g ≠ Value.ownBlock (.slice va k vcap) := fun e => by have := (hvb.out g e.symm).1; omega
          have hpv : some pk ≠ Value.ownBlock (.slice va k vcap) := fun e => by have := (hvb.out pk e.symm).2; omega
          have HGV := Lib.hid hgv
          have HPV := Lib.hid hpv
          have HL0 := Lib.hid hl0
          clear hrow hl0 hgv hpv
          go_wp2
          go_region_law (first
              | (refine step_call (by rfl) 48 _ _ (by rfl) enCopIns #[.slice a3 q.code.length b3] (by first | rfl | simp [Act.eval, Act.put]) ?_; refine (copIns_any q.code (by omega) _ _ (HQR.out.code.up (by repeat (first | exact Below.refl _ _ | assumption | refine Below.drew ?_ | refine Below.alloc ?_ (by first | (simp; done) | (simp; omega)) _ | refine Below.setCell ?_ (by first | (simp; done) | (simp; omega)) _)))).mono ?_; rintro e w3 ⟨v1, rfl, o1, bb1⟩; obtain ⟨a5, b5, rfl⟩ := own_form o1; have D3 := Lib.hid (show Below W1.heap.size W1 w3 from Below.trans (by repeat (first | exact Below.refl _ _ | assumption | refine Below.drew ?_ | refine Below.alloc ?_ (by first | (simp; done) | (simp; omega)) _ | refine Below.setCell ?_ (by first | (simp; done) | (simp; omega)) _)) (bb1.mono (by simp))); have O1 := Lib.hid o1; have s0 := bcl D3.out hgw g0; have s1 := bcl D3.out hwl e0; have s2 := bcl D3.out hwl e1; clear bb1 o1; refine ⟨_, rfl, ?_⟩)
              | (refine step_call (by rfl) 49 _ _ (by rfl) enCopInt #[.slice a4 q.inn.length b4] (by first | rfl | simp [Act.eval, Act.put]) ?_; refine (copInt_any q.inn (by omega) _ _ ((HQR.out.inn.up D3.out).up (by repeat (first | exact Below.refl _ _ | assumption | refine Below.drew ?_ | refine Below.alloc ?_ (by first | (simp; done) | (simp; omega)) _ | refine Below.setCell ?_ (by first | (simp; done) | (simp; omega)) _)))).mono ?_; rintro e w4 ⟨v2, rfl, o2, bb2⟩; obtain ⟨a6, b6, rfl⟩ := own_form o2; have D34 := Lib.hid (show Below w3.heap.size w3 w4 from Below.trans (by repeat (first | exact Below.refl _ _ | assumption | refine Below.drew ?_ | refine Below.alloc ?_ (by first | (simp; done) | (simp; omega)) _ | refine Below.setCell ?_ (by first | (simp; done) | (simp; omega)) _)) (bb2.mono (by simp))); have D4 := Lib.hid (D3.out.trans (D34.out.mono D3.out.size)); have O2 := Lib.hid o2; have s0' := bcl D4.out hgw g0; have s1' := bcl D4.out hwl e0; have s2' := bcl D4.out hwl e1; have z4 := D4.out.size; have s0a := cl_alloc (.cells #[.slice a5 q.code.length b5, .slice a6 q.inn.length b6] 68) (by omega) s0'; clear bb2 o2; refine ⟨_, rfl, ?_⟩)
              | (refine step_append_lies _ (by rfl) (.tmp 43) (.tmp 51) 22 (by rfl) W0.heap.size 68 i0 (.agg #[.slice none 0 0, .slice none 0 0]) 2 48 Tryd.underlying22 hi hz0 hz1 hz2 rfl (by decide) (.slice va k vcap) k (rowC prC l0) (by first | rfl | simp [Act.eval, Act.put]) ((own_upC HROW.out D4.out).alloc _) ⟨w4.heap.size, 0, none⟩ 1 1 [.slice a5 q.code.length b5, .slice a6 q.inn.length b6] (by first | rfl | simp [Act.eval, Act.put]) rfl (two_at _ _ _ _ _ rfl) (two_cell _ _ _ _ _ _) (by decide) (by unfold maxLen; omega) (by omega) (by simp; omega) _ rfl ?_; intro g' cap5 w5 hown hgrow hat hglt; have s0x := (hgrow.cell_far ⟨g, 0, none⟩ (by simp; omega) HGV.out).trans (cl_alloc _ (by omega) s0'); have f0x := (hgrow.frozen_far ⟨g, 0, none⟩ (by simp; omega) HGV.out).trans (fr_alloc _ (by omega) (bfr D4.out hgw g1)); have s1x := (hgrow.cell_far ⟨pk, 0, none⟩ (by simp; omega) HPV.out).trans (cl_alloc _ (by omega) s1'); have s2x := (hgrow.cell_far ⟨pk, 1, none⟩ (by simp; omega) HPV.out).trans (cl_alloc _ (by omega) s2'); have s1y : ∀ v, (w5.setCell ⟨g, 0, none⟩ v).cell? ⟨pk, 0, none⟩ = some (.slice a3 q.code.length b3) := fun v => cl_set (Or.inl (by omega)) s1x; have s2y : ∀ v, (w5.setCell ⟨g, 0, none⟩ v).cell? ⟨pk, 1, none⟩ = some (.slice a4 q.inn.length b4) := fun v => cl_set (Or.inl (by omega)) s2x; have HST := Lib.hid (Bld.grow HBL1.out hkl HL0.out D3.out D34.out O1.out O2.out (Nat.le_refl _) D3.out.size hgrow hown (hat.imp id (fun e => by rw [e]; simp)) HT1.out (Nat.le_refl _) (by omega) (by omega)); clear hown hgrow hat))
          all_goals have HPS : Hid (P.take (k + 1) = P.take k ++ [q]) := by show _ = _; rw [HQ.out, List.take_succ_eq_append_getElem hkP]
          all_goals go_wp2
          all_goals
            go_roundw
            case rel => exact ⟨k + 1, _, by go_num, by omega, by rw [HPS.out]; exact HST.out.1, HST.out.2⟩
            case measure => simp [intOf]; omega
      · have hli : ¬ (k : Int) < S.parts.length := by omega
        obtain rfl : k = S.parts.length := by omega
        have HBD : Hid (SysN (w.heap.size + 2) wr (.slice va S.parts.length vcap) (.slice xca S.chans.length xcc) (.slice xsa S.slots.length xsc) (calmS S part)) := by
          have h := HBL.out.done
          rw [List.take_of_length_le (by rw [HPL.out]; omega), HPE.out] at h
          exact h
        have v0 := bcl HT.out (by omega) HV.out.x
        have v1 := bcl HT.out (by omega) HV.out.y
        have v2 := bcl HT.out (by omega) HV.out.z
        have y0 := bfr HT.out (by omega) HV.out.fx
        have y1 := bfr HT.out (by omega) HV.out.fy
        have y2 := bfr HT.out (by omega) HV.out.fz
        have g0 := HBL.out.cp
        have g1 := HBL.out.cc
        have g2 := HBL.out.ct
        have hwr : w.heap.size + 1 < wr.heap.size := by omega
        have V3 := (Var3.mk v0 v1 v2 y0 y1 y2 hwr).sets (a' := .slice va S.parts.length vcap) (b' := .slice xca S.chans.length xcc) (c' := .slice xsa S.slots.length xsc)
        have t0 := V3.x
        have t1 := V3.y
        have t2 := V3.z
        clear V3
        go_wp2
        refine bodyPost_ret (v := .tuple #[.agg #[.slice va S.parts.length vcap, .slice xca S.chans.length xcc, .slice xsa S.slots.length xsc], .int .i64 0]) (by simp [results, Tryd.f24, go_sem, t0, t1, t2]) rfl ⟨_, _, _, rfl, ((HBD.out.set (by omega) _).set (by omega) _).set (by omega) _, ?_⟩
        exact ((HD.out.setCell (by simp) _).setCell (by simp) _).setCell (by simp) _
end Go.Proofs.YtjhjaafoikadgaaDoor

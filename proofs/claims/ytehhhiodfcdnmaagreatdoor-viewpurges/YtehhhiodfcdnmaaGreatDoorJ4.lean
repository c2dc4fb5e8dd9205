/- conf.Calm of a right system. -/
import Derived.Test.YtehhhiodfcdnmaaGreatDoorJ3
import Derived.Test.YtehhhiodfcdnmaaGreatDoorJ0
import Derived.Test.YtehhhiodfcdnmaaGreatDoorJ2
import Derived.Deep.AppendLies
import Derived.Deep.MidRow
namespace Go.Proofs.YtehhhiodfcdnmaaGreatDoor
set_option linter.unusedSimpArgs false
set_option linter.unusedVariables false
open Go.RowKit Go.Sort
attribute [local go_sem ↓] Go.wp_at_zero Go.wp_at_succ
theorem Var3.sets {w : World} {g : Nat} {a b c a' b' c' : Value} (h : Var3 w g a b c) : Var3 (((w.setCell ⟨g, 0, none⟩ a').setCell ⟨g, 1, none⟩ b').setCell ⟨g, 2, none⟩ c') g a' b' c' :=
  ⟨cl_set (Or.inr (by decide)) (cl_set (Or.inr (by decide)) (cl_same h.x)), cl_set (Or.inr (by decide)) (cl_same (cl_set (Or.inr (by decide)) h.y)), cl_same (cl_set (Or.inr (by decide)) (cl_set (Or.inr (by decide)) h.z)),
   fr_set (fr_set (fr_set h.fx)), fr_set (fr_set (fr_set h.fy)), fr_set (fr_set (fr_set h.fz)), by rw [size_set, size_set, size_set]; exact h.lt⟩
theorem bld_of {n : Nat} {w' : World} {g : Nat} {v1 v2 : Value} {cs : List Chn} {ss : List Slt} (V : Var3 w' g (.slice none 0 0) v1 v2) (s1 : Sl w' 3 v1 cs.length (rowC chC cs)) (s2 : Sl w' 2 v2 ss.length (rowC slC ss)) (hn : n ≤ g)
    (h1 : NewB n v1 ∧ ∀ k, v1.ownBlock = some k → k ≠ g ∧ k < w'.heap.size) (h2 : NewB n v2 ∧ ∀ k, v2.ownBlock = some k → k ≠ g ∧ k < w'.heap.size) : Bld n w'.heap.size w' g (.slice none 0 0) v1 v2 [] cs ss :=
  ⟨V.x, V.fx, V.y, V.z, V.lt, hn, Nat.le_refl _, ⟨[], rfl, World.ownsRow_nil _ _ _ _, fun k hk => absurd hk (by simp)⟩, s1, s2, h1, h2⟩
theorem bldA {n : Nat} {w3 w4 : World} {g B1 B2 : Nat} {v1 v2 : Value} {cs : List Chn} {ss : List Slt} (V : Var3 w4 g (.slice none 0 0) (.slice none 0 0) (.slice none 0 0)) (o1 : w3.ownsRow B1 89 3 v1 cs.length (rowC chC cs)) (b34 : Below w3.heap.size w3 w4) (o2 : w4.ownsRow B2 105 2 v2 ss.length (rowC slC ss))
    (hn : n ≤ g) (hB1 : n ≤ B1) (hB2 : n ≤ B2) (h1 : g < B1 ∨ w3.heap.size ≤ g) (h2 : g < B2) :
    Bld n (((w4.setCell ⟨g, 0, none⟩ (.slice none 0 0)).setCell ⟨g, 1, none⟩ v1).setCell ⟨g, 2, none⟩ v2).heap.size (((w4.setCell ⟨g, 0, none⟩ (.slice none 0 0)).setCell ⟨g, 1, none⟩ v1).setCell ⟨g, 2, none⟩ v2) g (.slice none 0 0) v1 v2 [] cs ss := by
  have hz : (((w4.setCell ⟨g, 0, none⟩ (.slice none 0 0)).setCell ⟨g, 1, none⟩ v1).setCell ⟨g, 2, none⟩ v2).heap.size = w4.heap.size := by rw [size_set, size_set, size_set]
  have l1 := own_ltB o1
  have l2 := own_ltB o2
  have n1 := own_block o1
  have n2 := own_block o2
  have zb := b34.size
  have a1 : ∀ k, v1.ownBlock = some k → k ≠ g ∧ k < w4.heap.size := fun k e => by have := l1 k e; have := n1 k e; omega
  have a2 : ∀ k, v2.ownBlock = some k → k ≠ g ∧ k < w4.heap.size := fun k e => by have := l2 k e; have := n2 k e; omega
  have f1 : v1.ownBlock ≠ some g := fun e => (a1 g e).1 rfl
  have f2 : v2.ownBlock ≠ some g := fun e => (a2 g e).1 rfl
  refine bld_of V.sets ((((own_sl o1).up b34).set _ f1).set _ f1 |>.set _ f1) (((own_sl o2).set _ f2).set _ f2 |>.set _ f2) hn ⟨fun k e => by have := n1 k e; omega, fun k e => ?_⟩ ⟨fun k e => by have := n2 k e; omega, fun k e => ?_⟩
  · rw [hz]; exact a1 k e
  · rw [hz]; exact a2 k e
theorem bldB {n : Nat} {w3 w4 : World} {B1 B2 : Nat} {v1 v2 : Value} {cs : List Chn} {ss : List Slt} {t : TypeId} (o1 : w3.ownsRow B1 89 3 v1 cs.length (rowC chC cs)) (b34 : Below w3.heap.size w3 w4) (o2 : w4.ownsRow B2 105 2 v2 ss.length (rowC slC ss))
    (hn : n ≤ w4.heap.size) (hB1 : n ≤ B1) (hB2 : n ≤ B2) :
    Bld n (w4.alloc (.cells #[.slice none 0 0, v1, v2] t)).heap.size (w4.alloc (.cells #[.slice none 0 0, v1, v2] t)) w4.heap.size (.slice none 0 0) v1 v2 [] cs ss := by
  have l1 := own_ltB o1
  have l2 := own_ltB o2
  have n1 := own_block o1
  have n2 := own_block o2
  have zb := b34.size
  have bb : Below w4.heap.size w4 (w4.alloc (.cells #[.slice none 0 0, v1, v2] t)) := (Below.refl _ _).alloc (Nat.le_refl _) _
  refine bld_of (var3_new w4 _ _ _ t _ rfl) (((own_sl o1).up b34).up bb) ((own_sl o2).up bb) hn ⟨fun k e => by have := n1 k e; omega, fun k e => ?_⟩ ⟨fun k e => by have := n2 k e; omega, fun k e => ?_⟩
  · have := l1 k e; simp; omega
  · have := l2 k e; simp; omega
theorem Bld.grow {n base : Nat} {W0 W1 w3 w4 w5 : World} {g k : Nat} {va : Option Addr} {vcap g' cap5 B1 B2 : Nat} {vc vs v1 v2 : Value} {ps : List Prt} {cs : List Chn} {ss : List Slt} {q : Prt} {o : Obj} {l0 : List (Value × Value)} {B : Nat}
    (h : Bld n base W1 g (.slice va k vcap) vc vs ps cs ss) (hkl : ps.length = k)
    (hl0 : l0.length = ps.length ∧ W1.ownsRow base 49 2 (.slice va k vcap) ps.length (rowC prC l0) ∧ ∀ k' (hk : k' < ps.length) (hk' : k' < l0.length), PrtR W1 l0[k'].1 l0[k'].2 ps[k'] ∧ (NewB (g + 1) l0[k'].1 ∧ NewB (g + 1) l0[k'].2) ∧ (Apart l0[k'].1 (.slice va k vcap) ∧ Apart l0[k'].2 (.slice va k vcap)) ∧ LtB W1 l0[k'].1 ∧ LtB W1 l0[k'].2)
    (D3 : Below W1.heap.size W1 w3) (D34 : Below w3.heap.size w3 w4) (O1 : w3.ownsRow B1 83 4 v1 q.code.length (codeC q.code)) (O2 : w4.ownsRow B2 3 1 v2 q.inn.length (ints q.inn)) (hB1 : W1.heap.size ≤ B1) (hB2 : W1.heap.size ≤ B2)
    (hgrow : (w4.alloc o).grownBy w5 (Value.ownBlock (.slice va k vcap))) (hown : w5.ownsRow base 49 2 (.slice (some ⟨g', 0, none⟩) (k + 1) cap5) (k + 1) (rowC prC l0 ++ [v1, v2])) (hat : Value.ownBlock (.slice va k vcap) = some g' ∨ g' = w4.heap.size + 1)
    (hT : Below B W0 W1) (hB : B ≤ n) (hBw : B ≤ W1.heap.size) (hnb : n ≤ base) :
    Bld n base (w5.setCell ⟨g, 0, none⟩ (.slice (some ⟨g', 0, none⟩) (k + 1) cap5)) g (.slice (some ⟨g', 0, none⟩) (k + 1) cap5) vc vs (ps ++ [q]) cs ss ∧ Below B W0 (w5.setCell ⟨g, 0, none⟩ (.slice (some ⟨g', 0, none⟩) (k + 1) cap5)) := by
  have D4 := D3.trans (D34.mono D3.size)
  have hgb := h.gl
  have hbs := h.bs
  have hgn := h.gn
  have z4 := D4.size
  have hv := own_block hl0.2.1
  refine ⟨(Bld.step (h.up D4) ⟨(own_sl O1).up D34, own_sl O2⟩ ((own_new O1).mono hB1) ((own_new O2).mono hB2) (by omega) (fun b e => own_ltB hl0.2.1 b e) l0 ⟨hl0.1, own_upC hl0.2.1 D4, fun k' hk hk' => ?_⟩ ⟨(own_ltB O1).up D34.size, own_ltB O2⟩ hgrow (by rw [hkl]; exact hown) (fun b e => ?_)).1, ?_⟩
  · obtain ⟨a1, a2, a3, a4, a5⟩ := hl0.2.2 k' hk hk'
    exact ⟨a1.up D4, a2, a3, a4.up z4, a5.up z4⟩
  · obtain rfl : g' = b := by simpa [Value.ownBlock] using e
    exact hat.imp id (fun e => by omega)
  · exact (((hT.trans (D4.mono hBw)).alloc (by omega) o).grown hgrow (by simp; omega) (fun b e => by have := hv b e; omega)).setCell (by simp; omega) _
theorem enCopIns : Enters 82 := enters Tryz.func82 (by kernel_rfl) (by kernel_rfl)
theorem enCopInt : Enters 83 := enters Tryz.func83 (by kernel_rfl) (by kernel_rfl)
theorem infoPart : (Tryz.prog.info? 49).map (fun i => (i.zero, i.size, i.bytes)) = some (some (.agg #[.slice none 0 0, .slice none 0 0]), 2, 48) := by kernel_rfl
theorem two_at (w : World) (v u : Value) (t : TypeId) (b : Nat) (hb : b = w.heap.size) : ∀ j x, [v, u][j]? = some x → (w.alloc (.cells #[v, u] t)).cell? ((⟨b, 0, none⟩ : Addr).add j) = some x := by
  subst hb
  intro j x hj
  match j, hj with
  | 0, hj => simp at hj; subst hj; simp [Addr.add]
  | 1, hj => simp at hj; subst hj; simp [Addr.add]
  | j + 2, hj => simp at hj
theorem two_cell (a b : Option Addr) (n c m d : Nat) : ∀ x ∈ [Value.slice a n c, Value.slice b m d], x.oneCell' = true := by
  intro x hx
  simp at hx
  rcases hx with rfl | rfl <;> rfl
theorem calm_at (S : SysD) (part k : Nat) (h : k < (calmS S part).parts.length) (h' : k < S.parts.length) : (calmS S part).parts[k] = if part = k then stopP else S.parts[k] := by
  simp only [calmS, List.getElem_set]
set_option maxRecDepth 100000 in
set_option maxHeartbeats 8000000 in
theorem calm_yes (S : SysD) (vp vc vs : Value) (part : Nat) (w : World) (he : Env w) (hS : Sys w vp vc vs S) (hz : chkS S = 0) (hp : part < S.parts.length) :
    Calls Tryz.prog 47 #[.agg #[vp, vc, vs], .int .i64 (part : Int)] w fun e w' => ∃ xp xc xs, e = .returned (.tuple #[.agg #[xp, xc, xs], .int .i64 0]) ∧ SysN (w.heap.size + 2) w' xp xc xs (calmS S part) ∧ Below w.heap.size w w' := by
  have hcnt := (countsB_is (chkS_zero hz).1)
  have hn1 : S.parts.length ≤ 4 := hcnt.1.2.1
  have hn2 : S.chans.length ≤ 6 := hcnt.1.2.2.1
  have hn3 : S.slots.length ≤ 6 := hcnt.1.2.2.2.2
  have HI := Lib.hid hcnt.2
  have HL : Hid (∀ j (hj : j < S.parts.length), S.parts[j].code.length ≤ 20) := fun j hj => (chkC_zero ((chkS_zero hz).2.1 j hj)).2.1
  obtain ⟨pb, po, pc, rfl, hpc, hpb, hpp⟩ := hS.p.open (by omega)
  obtain ⟨ca, cc, rfl⟩ := hS.c.form
  obtain ⟨sa, sc, rfl⟩ := hS.s.form
  have HPP := Lib.hid hpp
  have HS := Lib.hid hS
  have HZ := Lib.hid hz
  have HW : Hid (withinB (part : Int) 0 ((S.parts.length : Int) - 1) = true) := by show withinB _ _ _ = _; unfold withinB; simp; omega
  clear hS hz hcnt hpp
  go_enter Tryz.func47, Tryz.ntmps47
  go_wp2_with fail
  refine (confCheck_any S _ _ _ _ (he.up (by repeat (first | exact Below.refl _ _ | assumption | refine Below.drew ?_ | refine Below.alloc ?_ (by first | (simp; done) | (simp; omega)) _ | refine Below.setCell ?_ (by first | (simp; done) | (simp; omega)) _))) (HS.out.up (by repeat (first | exact Below.refl _ _ | assumption | refine Below.drew ?_ | refine Below.alloc ?_ (by first | (simp; done) | (simp; omega)) _ | refine Below.setCell ?_ (by first | (simp; done) | (simp; omega)) _)))).mono ?_
  rw [HZ.out]
  rintro e w1 ⟨rfl, bb⟩
  have hB := (box_new w (.slice (some ⟨pb, po, none⟩) S.parts.length pc) (.slice ca S.chans.length cc) (.slice sa S.slots.length sc) 26 _ rfl)
  have HB := Lib.hid ((hB.up (w' := (w.alloc (.cells #[.slice (some ⟨pb, po, none⟩) S.parts.length pc, .slice ca S.chans.length cc, .slice sa S.slots.length sc] 26)).alloc (.cells #[.slice none 0 0, .slice none 0 0, .slice none 0 0] 26)) ((Below.refl _ _).alloc (Nat.le_refl _) _)).up bb)
  have D := Lib.hid (Below.trans (show Below w.heap.size w _ from (by repeat (first | exact Below.refl _ _ | assumption | refine Below.drew ?_ | refine Below.alloc ?_ (by first | (simp; done) | (simp; omega)) _ | refine Below.setCell ?_ (by first | (simp; done) | (simp; omega)) _))) (bb.mono (by simp; omega)))
  have HV := Lib.hid ((var3_new (w.alloc (.cells #[.slice (some ⟨pb, po, none⟩) S.parts.length pc, .slice ca S.chans.length cc, .slice sa S.slots.length sc] 26)) (.slice none 0 0) (.slice none 0 0) (.slice none 0 0) 26 (w.heap.size + 1) (by simp)).up bb)
  clear bb hB
  have k0 := HB.out.p
  have k1 := HB.out.c
  have k2 := HB.out.s
  go_wp2_with fail
  refine (isPart_any _ _ _ _ _ (part : Int) _ (by omega)).mono ?_
  rw [HW.out]
  rintro e w2 ⟨rfl, bb⟩
  have D := Lib.hid (D.out.trans (bb.mono D.out.size))
  have HV := Lib.hid (HV.out.up bb)
  have HB := Lib.hid (HB.out.up bb)
  clear bb k0 k1 k2
  have k0 := HB.out.p
  have k1 := HB.out.c
  have k2 := HB.out.s
  have hv := HV.out.lt
  have k1a := cl_alloc (.cells #[.slice none 0 0, .slice none 0 0, .slice none 0 0] 26) HB.out.lt k1
  have k2a := cl_alloc (.cells #[.slice none 0 0, .slice none 0 0, .slice none 0 0] 26) HB.out.lt k2
  go_wp2
  go_cut [7] from 10 (fun d wc => ∃ g xc xs, d = .pointer (some ⟨g, 0, none⟩) ∧ Hid (Bld (w.heap.size + 2) wc.heap.size wc g (.slice none 0 0) xc xs [] S.chans S.slots) ∧ Hid (Below w2.heap.size w2 wc))
  case first =>
    go_region_with (first
      | (go_at_call 80; refine (copChan_any S.chans (by omega) _ _ ((HS.out.c.up D.out).up (by repeat (first | exact Below.refl _ _ | assumption | refine Below.drew ?_ | refine Below.alloc ?_ (by first | (simp; done) | (simp; omega)) _ | refine Below.setCell ?_ (by first | (simp; done) | (simp; omega)) _)))).mono ?_; rintro e w3 ⟨v1, rfl, o1, b1⟩; obtain ⟨a1, c1, rfl⟩ := own_form o1; have VV : Hid (Var3 w3 w2.heap.size (.slice none 0 0) (.slice none 0 0) (.slice none 0 0)) := ((var3_new w2.drew (.slice none 0 0) (.slice none 0 0) (.slice none 0 0) 26 w2.heap.size rfl).up b1); have D3 := Lib.hid (show Below w2.heap.size w2 w3 from Below.trans (by repeat (first | exact Below.refl _ _ | assumption | refine Below.drew ?_ | refine Below.alloc ?_ (by first | (simp; done) | (simp; omega)) _ | refine Below.setCell ?_ (by first | (simp; done) | (simp; omega)) _)) (b1.mono (by simp))); have O1 := Lib.hid o1; have k2' := (HB.out.up D3.out).s; have k2b := cl_alloc (.cells #[.slice none 0 0, .slice none 0 0, .slice none 0 0] 26) (HB.out.up D3.out).lt k2'; clear b1 o1)
      | (go_at_call 80; refine (copChan_any S.chans (by omega) _ _ ((HS.out.c.up D.out).up (by repeat (first | exact Below.refl _ _ | assumption | refine Below.drew ?_ | refine Below.alloc ?_ (by first | (simp; done) | (simp; omega)) _ | refine Below.setCell ?_ (by first | (simp; done) | (simp; omega)) _)))).mono ?_; rintro e w3 ⟨v1, rfl, o1, b1⟩; obtain ⟨a1, c1, rfl⟩ := own_form o1; have D3 := Lib.hid (show Below w2.heap.size w2 w3 from Below.trans (by repeat (first | exact Below.refl _ _ | assumption | refine Below.drew ?_ | refine Below.alloc ?_ (by first | (simp; done) | (simp; omega)) _ | refine Below.setCell ?_ (by first | (simp; done) | (simp; omega)) _)) (b1.mono (by simp))); have O1 := Lib.hid o1; have k2' := (HB.out.up D3.out).s; have k2b := cl_alloc (.cells #[.slice none 0 0, .slice none 0 0, .slice none 0 0] 26) (HB.out.up D3.out).lt k2'; clear b1 o1)
      | (go_at_call 81; refine (copSlot_any S.slots (by omega) _ _ (((HS.out.s.up D.out).up D3.out).up (by repeat (first | exact Below.refl _ _ | assumption | refine Below.drew ?_ | refine Below.alloc ?_ (by first | (simp; done) | (simp; omega)) _ | refine Below.setCell ?_ (by first | (simp; done) | (simp; omega)) _)))).mono ?_; rintro e w4 ⟨v2, rfl, o2, b2⟩; obtain ⟨a2, c2, rfl⟩ := own_form o2; have V4 := Lib.hid (VV.out.up b2); have vl := VV.out.lt; have x0 := V4.out.x; have x1 := V4.out.y; have x2 := V4.out.z; have y0 := V4.out.fx; have y1 := V4.out.fy; have y2 := V4.out.fz; have D34 := Lib.hid (show Below w3.heap.size w3 w4 from Below.trans (by repeat (first | exact Below.refl _ _ | assumption | refine Below.drew ?_ | refine Below.alloc ?_ (by first | (simp; done) | (simp; omega)) _ | refine Below.setCell ?_ (by first | (simp; done) | (simp; omega)) _)) (b2.mono (by simp))); have O2 := Lib.hid o2; clear b2 o2)
      | (go_at_call 81; refine (copSlot_any S.slots (by omega) _ _ (((HS.out.s.up D.out).up D3.out).up (by repeat (first | exact Below.refl _ _ | assumption | refine Below.drew ?_ | refine Below.alloc ?_ (by first | (simp; done) | (simp; omega)) _ | refine Below.setCell ?_ (by first | (simp; done) | (simp; omega)) _)))).mono ?_; rintro e w4 ⟨v2, rfl, o2, b2⟩; obtain ⟨a2, c2, rfl⟩ := own_form o2; have V4 : Hid (Var3 w4 w3.heap.size (.slice none 0 0) (.slice none 0 0) (.slice none 0 0)) := ((var3_new w3 (.slice none 0 0) (.slice none 0 0) (.slice none 0 0) 26 w3.heap.size rfl).up b2); have x0 := V4.out.x; have x1 := V4.out.y; have x2 := V4.out.z; have y0 := V4.out.fx; have y1 := V4.out.fy; have y2 := V4.out.fz; have D34 := Lib.hid (show Below w3.heap.size w3 w4 from Below.trans (by repeat (first | exact Below.refl _ _ | assumption | refine Below.drew ?_ | refine Below.alloc ?_ (by first | (simp; done) | (simp; omega)) _ | refine Below.setCell ?_ (by first | (simp; done) | (simp; omega)) _)) (b2.mono (by simp))); have O2 := Lib.hid o2; clear b2 o2)
      | (go_at_call 81; refine (copSlot_any S.slots (by omega) _ _ (((HS.out.s.up D.out).up D3.out).up (by repeat (first | exact Below.refl _ _ | assumption | refine Below.drew ?_ | refine Below.alloc ?_ (by first | (simp; done) | (simp; omega)) _ | refine Below.setCell ?_ (by first | (simp; done) | (simp; omega)) _)))).mono ?_; rintro e w4 ⟨v2, rfl, o2, b2⟩; obtain ⟨a2, c2, rfl⟩ := own_form o2; have D34 := Lib.hid (show Below w3.heap.size w3 w4 from Below.trans (by repeat (first | exact Below.refl _ _ | assumption | refine Below.drew ?_ | refine Below.alloc ?_ (by first | (simp; done) | (simp; omega)) _ | refine Below.setCell ?_ (by first | (simp; done) | (simp; omega)) _)) (b2.mono (by simp))); have O2 := Lib.hid o2; clear b2 o2))
    all_goals go_wp2
    all_goals have zz3 := D3.out.size
    all_goals have zz4 := D34.out.size
    all_goals have D4 := Lib.hid (D3.out.trans (D34.out.mono zz3))
    all_goals go_meet
    all_goals first
      | exact ⟨_, _, _, rfl, bldA V4.out O1.out D34.out O2.out (by first | omega | (simp; done) | (simp; omega)) (by first | omega | (simp; done) | (simp; omega)) (by first | omega | (simp; done) | (simp; omega)) (by first | (right; omega) | (left; omega) | (left; simp; done) | (left; simp; omega)) (by first | omega | (simp; done) | (simp; omega)), ((D4.out.setCell (by first | omega | (simp; done) | (simp; omega)) _).setCell (by first | omega | (simp; done) | (simp; omega)) _).setCell (by first | omega | (simp; done) | (simp; omega)) _⟩
      | exact ⟨_, _, _, rfl, bldB O1.out D34.out O2.out (by first | omega | (simp; done) | (simp; omega)) (by first | omega | (simp; done) | (simp; omega)) (by first | omega | (simp; done) | (simp; omega)), D4.out.alloc (by first | omega | (simp; done) | (simp; omega)) _⟩
  case rest =>
    obtain ⟨g, xc, xs, rfl, HBL, D2c⟩ := hcut
    obtain ⟨W0, hW0⟩ : ∃ W0, W0 = wc := ⟨_, rfl⟩
    subst hW0
    clear k0 k1 k2 k1a k2a
    have D0 := Lib.hid (D.out.trans (D2c.out.mono D.out.size))
    have HV := Lib.hid (HV.out.up D2c.out)
    have HB := Lib.hid (HB.out.up D2c.out)
    have k0 := HB.out.p
    obtain ⟨xca, xcc, rfl⟩ := HBL.out.c.form
    obtain ⟨xsa, xsc, rfl⟩ := HBL.out.s.form
    have hgn := HBL.out.gn
    have hgl := HBL.out.gl
    have hW02 : w.heap.size + 2 ≤ W0.heap.size := by omega
    obtain ⟨P, hP⟩ : ∃ P, P = (calmS S part).parts := ⟨_, rfl⟩
    have hPl : P.length = S.parts.length := by rw [hP]; simp [calmS]
    have HPA : Hid (∀ k (h : k < P.length) (h' : k < S.parts.length), P[k] = if part = k then stopP else S.parts[k]) := by subst hP; exact fun k h h' => calm_at S part k h h'
    have HPE := Lib.hid hP
    have HPL := Lib.hid hPl
    clear hP hPl D2c D
    go_wp2
    go_loopw [31] (fun i wr => ∃ (k : Nat) (vp : Value), i = .int .i64 k ∧ k ≤ S.parts.length ∧ Hid (Bld (w.heap.size + 2) W0.heap.size wr g vp (.slice xca S.chans.length xcc) (.slice xsa S.slots.length xsc) (P.take k) S.chans S.slots) ∧ Hid (Below (w.heap.size + 2) W0 wr)) (fun i _ => S.parts.length - (intOf i).toNat)
    case atStart => exact ⟨0, _, rfl, Nat.zero_le _, HBL, Below.refl _ _⟩
    case round =>
      obtain ⟨k, vp, rfl, hk, HBL, HT⟩ := hrel
      have HD := Lib.hid (D0.out.trans (HT.out.mono (by omega)))
      obtain ⟨va, vcap, hvp⟩ := HBL.out.form
      have hkl : (P.take k).length = k := by rw [List.length_take, HPL.out]; omega
      rw [hkl] at hvp
      subst hvp
      have hbs := HBL.out.bs
      by_cases hlt : k < S.parts.length
      · have hli : (k : Int) < S.parts.length := by omega
        obtain ⟨c, i, c0, c1, hpr⟩ := HPP.out k hlt
        obtain ⟨a1, b1, rfl⟩ := hpr.code.form
        obtain ⟨a2, b2, rfl⟩ := hpr.inn.form
        have c0 := bcl HD.out hpb c0
        have c1 := bcl HD.out hpb c1
        have HPR := Lib.hid (hpr.up HD.out)
        have hkP : k < P.length := by rw [HPL.out]; exact hlt
        obtain ⟨q, hq⟩ : ∃ q, q = P[k] := ⟨_, rfl⟩
        have hqv : q = if part = k then stopP else S.parts[k] := by rw [hq]; exact HPA.out k hkP hlt
        have hql : q.code.length ≤ 20 ∧ q.inn.length ≤ 12 := by
          rw [hqv]
          split
          · simp [stopP]
          · exact ⟨HL.out k hlt, HI.out k hlt⟩
        have HQ := Lib.hid hq
        have HQV := Lib.hid hqv
        clear hpr hq hqv
        go_upto_if 38 with fail
        go_cut [31] from 31 to 54 (fun i wc => i = .int .i64 k ∧ ∃ C I, wc.cell? ⟨wr.heap.size, 0, none⟩ = some C ∧ wc.cell? ⟨wr.heap.size, 1, none⟩ = some I ∧ Hid (PrtR wc C I q) ∧ Hid (Below wr.heap.size wr wc) ∧ wr.heap.size < wc.heap.size)
        case first =>
          by_cases hkp : part = k
          · have hke : ((k : Int) == (part : Int)) = true := by simp; omega
            have hqs : q = stopP := by rw [HQV.out, if_pos hkp]
            subst hqs
            go_wp2
            go_meet
            exact ⟨rfl, .slice (some ⟨wr.heap.size + 1, 0, none⟩) 1 1, .slice none 0 0, by simp, by simp, ⟨lit_sl _ _ _ _ 1 4 (by simp) rfl, Sl.nil _ _⟩, (by repeat (first | exact Below.refl _ _ | assumption | refine Below.drew ?_ | refine Below.alloc ?_ (by first | (simp; done) | (simp; omega)) _ | refine Below.setCell ?_ (by first | (simp; done) | (simp; omega)) _)), by simp; try omega⟩
          · have hke : ((k : Int) == (part : Int)) = false := by simp; omega
            have hqs : q = S.parts[k] := by rw [HQV.out, if_neg hkp]
            subst hqs
            go_wp2
            go_meet
            exact ⟨rfl, _, _, by simp, by simp, HPR.out.up (by repeat (first | exact Below.refl _ _ | assumption | refine Below.drew ?_ | refine Below.alloc ?_ (by first | (simp; done) | (simp; omega)) _ | refine Below.setCell ?_ (by first | (simp; done) | (simp; omega)) _)), (by repeat (first | exact Below.refl _ _ | assumption | refine Below.drew ?_ | refine Below.alloc ?_ (by first | (simp; done) | (simp; omega)) _ | refine Below.setCell ?_ (by first | (simp; done) | (simp; omega)) _)), by simp⟩
        case rest =>
          obtain ⟨rfl, C, I, e0, e1, HQR, DW, hwl⟩ := hcut
          obtain ⟨W1, hW1⟩ : ∃ W1, W1 = wc := ⟨_, rfl⟩
          subst hW1
          obtain ⟨a3, b3, rfl⟩ := HQR.out.code.form
          obtain ⟨a4, b4, rfl⟩ := HQR.out.inn.form
          have HBL1 := Lib.hid (HBL.out.up DW.out)
          have HT1 := Lib.hid (HT.out.trans (DW.out.mono (by omega)))
          have g0 := HBL1.out.cp
          have g1 := HBL1.out.fp
          have hbs1 := HBL1.out.bs
          have hws := DW.out.size
          generalize hpk : wr.heap.size = pk at e0 e1 hwl
          clear c0 c1 HPR HD
          obtain ⟨i0, hi, hz0, hz1, hz2⟩ := info_parts infoPart
          have hgw : g < W1.heap.size := by omega
          obtain ⟨l0, hl0⟩ := HBL1.out.row
          have hrow := hl0.2.1
          rw [hkl] at hrow
          have HROW := Lib.hid hrow
          have hvb : Hid (∀ b, Value.ownBlock (.slice va k vcap) = some b → W0.heap.size ≤ b ∧ b < pk) := fun b e => by
            obtain ⟨l1, hl1⟩ := HBL.out.row
            exact ⟨own_block hl1.2.1 b e, by have := own_ltB hl1.2.1 b e; omega⟩
          have hgv : some g ≠ Value.ownBlock (.slice va k vcap) := fun e => by have := (hvb.out g e.symm).1; omega
          have hpv : some pk ≠ Value.ownBlock (.slice va k vcap) := fun e => by have := (hvb.out pk e.symm).2; omega
          have HGV := Lib.hid hgv
          have HPV := Lib.hid hpv
          have HL0 := Lib.hid hl0
          clear hrow hl0 hgv hpv
          go_wp2
          go_region_law (first
              | (refine step_call (by rfl) 82 _ _ (by rfl) enCopIns #[.slice a3 q.code.length b3] (by first | rfl | simp [Act.eval, Act.put]) ?_; refine (copIns_any q.code (by omega) _ _ (HQR.out.code.up (by repeat (first | exact Below.refl _ _ | assumption | refine Below.drew ?_ | refine Below.alloc ?_ (by first | (simp; done) | (simp; omega)) _ | refine Below.setCell ?_ (by first | (simp; done) | (simp; omega)) _)))).mono ?_; rintro e w3 ⟨v1, rfl, o1, bb1⟩; obtain ⟨a5, b5, rfl⟩ := own_form o1; have D3 := Lib.hid (show Below W1.heap.size W1 w3 from Below.trans (by repeat (first | exact Below.refl _ _ | assumption | refine Below.drew ?_ | refine Below.alloc ?_ (by first | (simp; done) | (simp; omega)) _ | refine Below.setCell ?_ (by first | (simp; done) | (simp; omega)) _)) (bb1.mono (by simp))); have O1 := Lib.hid o1; have s0 := bcl D3.out hgw g0; have s1 := bcl D3.out hwl e0; have s2 := bcl D3.out hwl e1; clear bb1 o1; refine ⟨_, rfl, ?_⟩)
              | (refine step_call (by rfl) 83 _ _ (by rfl) enCopInt #[.slice a4 q.inn.length b4] (by first | rfl | simp [Act.eval, Act.put]) ?_; refine (copInt_any q.inn (by omega) _ _ ((HQR.out.inn.up D3.out).up (by repeat (first | exact Below.refl _ _ | assumption | refine Below.drew ?_ | refine Below.alloc ?_ (by first | (simp; done) | (simp; omega)) _ | refine Below.setCell ?_ (by first | (simp; done) | (simp; omega)) _)))).mono ?_; rintro e w4 ⟨v2, rfl, o2, bb2⟩; obtain ⟨a6, b6, rfl⟩ := own_form o2; have D34 := Lib.hid (show Below w3.heap.size w3 w4 from Below.trans (by repeat (first | exact Below.refl _ _ | assumption | refine Below.drew ?_ | refine Below.alloc ?_ (by first | (simp; done) | (simp; omega)) _ | refine Below.setCell ?_ (by first | (simp; done) | (simp; omega)) _)) (bb2.mono (by simp))); have D4 := Lib.hid (D3.out.trans (D34.out.mono D3.out.size)); have O2 := Lib.hid o2; have s0' := bcl D4.out hgw g0; have s1' := bcl D4.out hwl e0; have s2' := bcl D4.out hwl e1; have z4 := D4.out.size; have s0a := cl_alloc (.cells #[.slice a5 q.code.length b5, .slice a6 q.inn.length b6] 49) (by omega) s0'; clear bb2 o2; refine ⟨_, rfl, ?_⟩)
              | (refine step_append_lies _ (by rfl) (.tmp 43) (.tmp 51) 22 (by rfl) W0.heap.size 49 i0 (.agg #[.slice none 0 0, .slice none 0 0]) 2 48 Tryz.underlying22 hi hz0 hz1 hz2 rfl (by decide) (.slice va k vcap) k (rowC prC l0) (by first | rfl | simp [Act.eval, Act.put]) ((own_upC HROW.out D4.out).alloc _) ⟨w4.heap.size, 0, none⟩ 1 1 [.slice a5 q.code.length b5, .slice a6 q.inn.length b6] (by first | rfl | simp [Act.eval, Act.put]) rfl (two_at _ _ _ _ _ rfl) (two_cell _ _ _ _ _ _) (by decide) (by unfold maxLen; omega) (by omega) (by simp; omega) _ rfl ?_; intro g' cap5 w5 hown hgrow hat hglt; have s0x := (hgrow.cell_far ⟨g, 0, none⟩ (by simp; omega) HGV.out).trans (cl_alloc _ (by omega) s0'); have f0x := (hgrow.frozen_far ⟨g, 0, none⟩ (by simp; omega) HGV.out).trans (fr_alloc _ (by omega) (bfr D4.out hgw g1)); have s1x := (hgrow.cell_far ⟨pk, 0, none⟩ (by simp; omega) HPV.out).trans (cl_alloc _ (by omega) s1'); have s2x := (hgrow.cell_far ⟨pk, 1, none⟩ (by simp; omega) HPV.out).trans (cl_alloc _ (by omega) s2'); have s1y : ∀ v, (w5.setCell ⟨g, 0, none⟩ v).cell? ⟨pk, 0, none⟩ = some (.slice a3 q.code.length b3) := fun v => cl_set (Or.inl (by omega)) s1x; have s2y : ∀ v, (w5.setCell ⟨g, 0, none⟩ v).cell? ⟨pk, 1, none⟩ = some (.slice a4 q.inn.length b4) := fun v => cl_set (Or.inl (by omega)) s2x; have HST := Lib.hid (Bld.grow HBL1.out hkl HL0.out D3.out D34.out O1.out O2.out (Nat.le_refl _) D3.out.size hgrow hown (hat.imp id (fun e => by rw [e]; simp)) HT1.out (Nat.le_refl _) (by omega) (by omega)); clear hown hgrow hat))
          all_goals have HPS : Hid (P.take (k + 1) = P.take k ++ [q]) := by show _ = _; rw [HQ.out, List.take_succ_eq_append_getElem hkP]
          all_goals go_wp2
          all_goals
            go_roundw
            case rel => exact ⟨k + 1, _, by go_num, by omega, by rw [HPS.out]; exact HST.out.1, HST.out.2⟩
            case measure => simp [intOf]; omega
      · have hli : ¬ (k : Int) < S.parts.length := by omega
        obtain rfl : k = S.parts.length := by omega
        have HBD : Hid (SysN (w.heap.size + 2) wr (.slice va S.parts.length vcap) (.slice xca S.chans.length xcc) (.slice xsa S.slots.length xsc) (calmS S part)) := by
          have h := HBL.out.done
          rw [List.take_of_length_le (by rw [HPL.out]; omega), HPE.out] at h
          exact h
        have v0 := bcl HT.out (by omega) HV.out.x
        have v1 := bcl HT.out (by omega) HV.out.y
        have v2 := bcl HT.out (by omega) HV.out.z
        have y0 := bfr HT.out (by omega) HV.out.fx
        have y1 := bfr HT.out (by omega) HV.out.fy
        have y2 := bfr HT.out (by omega) HV.out.fz
        have g0 := HBL.out.cp
        have g1 := HBL.out.cc
        have g2 := HBL.out.ct
        have hwr : w.heap.size + 1 < wr.heap.size := by omega
        have V3 := (Var3.mk v0 v1 v2 y0 y1 y2 hwr).sets (a' := .slice va S.parts.length vcap) (b' := .slice xca S.chans.length xcc) (c' := .slice xsa S.slots.length xsc)
        have t0 := V3.x
        have t1 := V3.y
        have t2 := V3.z
        clear V3
        go_wp2
        refine bodyPost_ret (v := .tuple #[.agg #[.slice va S.parts.length vcap, .slice xca S.chans.length xcc, .slice xsa S.slots.length xsc], .int .i64 0]) (by simp [results, Tryz.f47, go_sem, t0, t1, t2]) rfl ⟨_, _, _, rfl, ((HBD.out.set (by omega) _).set (by omega) _).set (by omega) _, ?_⟩
        exact ((HD.out.setCell (by simp) _).setCell (by simp) _).setCell (by simp) _
end Go.Proofs.YtehhhiodfcdnmaaGreatDoor

namespace Go.Proofs.YtehhhiodfcdnmaaGreatDoor
set_option linter.unusedSimpArgs false
set_option linter.unusedVariables false
open Go.RowKit Go.Sort
def chkL (kind : Int) (n : Nat) : Int := if kind = 1 then (if 1 < n then 2 else 0) else if kind = 2 then (if 3 < n then 2 else 0) else 4
theorem chkL_zero {kind : Int} {n : Nat} (h : chkL kind n = 0) : (kind = 1 ∧ n ≤ 1) ∨ (kind = 2 ∧ n ≤ 3) := by
  unfold chkL at h
  split at h
  · rename_i h1
    split at h
    · omega
    · omega
  · split at h
    · split at h
      · omega
      · omega
    · omega
def roomI (kind : Int) : Int := if kind = 1 then 1 else if kind = 2 then 3 else 0
theorem room_any (kind : Int) (w : World) : Calls Tryz.prog 146 #[.int .i64 kind] w fun e w' => e = .returned (.int .i64 (roomI kind)) ∧ w' = w := by
  unfold roomI
  by_cases h1 : kind = 1
  · subst h1
    go_enter Tryz.func146, Tryz.ntmps146
    go_wp2
    all_goals go_ret
    all_goals exact ⟨rfl, rfl⟩
  · by_cases h2 : kind = 2
    · subst h2
      go_enter Tryz.func146, Tryz.ntmps146
      go_wp2
      all_goals go_ret
      all_goals exact ⟨rfl, rfl⟩
    · rw [if_neg h1, if_neg h2]
      have h1' : (kind == 1) = false := by simpa using h1
      have h2' : (kind == 2) = false := by simpa using h2
      go_enter Tryz.func146, Tryz.ntmps146
      go_wp2
      all_goals go_ret
      all_goals exact ⟨rfl, rfl⟩
set_option maxHeartbeats 1000000 in
theorem chkLine_any (kind : Int) (ao : Option Addr) (n cap : Nat) (w : World) (c : Int) (hc : chkL kind n = c) : Calls Tryz.prog 116 #[.int .i64 kind, .agg #[.slice ao n cap]] w fun e w' => e = .returned (.int .i64 c) ∧ Below w.heap.size w w' := by
  subst hc
  unfold chkL
  by_cases h1 : kind = 1
  · subst h1
    go_enter Tryz.func116, Tryz.ntmps116
    go_wp2_with (go_at_call 146; refine (room_any _ _).mono ?_; rintro e w' ⟨rfl, rfl⟩; simp only [roomI])
    all_goals go_ret
    all_goals exact ⟨ret_int (by simp; try omega), (by repeat (first | exact Below.refl _ _ | assumption | refine Below.drew ?_ | refine Below.alloc ?_ (by first | (simp; done) | (simp; omega)) _ | refine Below.setCell ?_ (by first | (simp; done) | (simp; omega)) _))⟩
  · by_cases h2 : kind = 2
    · subst h2
      go_enter Tryz.func116, Tryz.ntmps116
      go_wp2_with (go_at_call 146; refine (room_any _ _).mono ?_; rintro e w' ⟨rfl, rfl⟩; simp only [roomI])
      all_goals go_ret
      all_goals exact ⟨ret_int (by simp; try omega), (by repeat (first | exact Below.refl _ _ | assumption | refine Below.drew ?_ | refine Below.alloc ?_ (by first | (simp; done) | (simp; omega)) _ | refine Below.setCell ?_ (by first | (simp; done) | (simp; omega)) _))⟩
    · have hr : roomI kind = 0 := by unfold roomI; rw [if_neg h1, if_neg h2]
      rw [if_neg h1, if_neg h2]
      go_enter Tryz.func116, Tryz.ntmps116
      go_wp2_with (go_at_call 146; refine (room_any _ _).mono ?_; rw [hr]; rintro e w' ⟨rfl, rfl⟩)
      all_goals go_ret
      all_goals exact ⟨rfl, (by repeat (first | exact Below.refl _ _ | assumption | refine Below.drew ?_ | refine Below.alloc ?_ (by first | (simp; done) | (simp; omega)) _ | refine Below.setCell ?_ (by first | (simp; done) | (simp; omega)) _))⟩
end Go.Proofs.YtehhhiodfcdnmaaGreatDoor

namespace Go.Proofs.YtehhhiodfcdnmaaGreatDoor
set_option linter.unusedSimpArgs false
set_option linter.unusedVariables false
open Go.RowKit Go.Sort
structure Cel where
  at_ : Int
  r0 : Int
  r1 : Int
  r2 : Int
  r3 : Int
  m0 : Int
  m1 : Int
  m2 : Int
  m3 : Int
  m4 : Int
  m5 : Int
  m6 : Int
  m7 : Int
  read : Int
  en : Int
def Cel.v (c : Cel) (o : Value) : Value := .agg #[.int .i64 c.at_, .int .i64 c.r0, .int .i64 c.r1, .int .i64 c.r2, .int .i64 c.r3, .int .i64 c.m0, .int .i64 c.m1, .int .i64 c.m2, .int .i64 c.m3, .int .i64 c.m4, .int .i64 c.m5, .int .i64 c.m6, .int .i64 c.m7, .int .i64 c.read, o, .int .i64 c.en]
def Cel.fine (c : Cel) (n : Nat) : Bool := decide (0 ≤ c.at_) && decide (c.at_ ≤ 20) && (decide (0 ≤ c.read) && decide (c.read ≤ 12)) && (decide (0 ≤ c.en) && decide (c.en ≤ 2)) && decide (n ≤ 16)
def Cel.err (c : Cel) (n : Nat) : Int := if c.fine n then 0 else 1
theorem fine_iff (c : Cel) (n : Nat) : c.fine n = true ↔ (0 ≤ c.at_ ∧ c.at_ ≤ 20 ∧ 0 ≤ c.read ∧ c.read ≤ 12 ∧ 0 ≤ c.en ∧ c.en ≤ 2 ∧ n ≤ 16) := by
  unfold Cel.fine; simp only [Bool.and_eq_true, decide_eq_true_eq]; omega
theorem err_yes {c : Cel} {n : Nat} (h : 0 ≤ c.at_ ∧ c.at_ ≤ 20 ∧ 0 ≤ c.read ∧ c.read ≤ 12 ∧ 0 ≤ c.en ∧ c.en ≤ 2 ∧ n ≤ 16) : (0 : Int) = c.err n := by
  unfold Cel.err; rw [(fine_iff c n).2 h]; rfl
theorem err_no {c : Cel} {n : Nat} (h : ¬ (0 ≤ c.at_ ∧ c.at_ ≤ 20 ∧ 0 ≤ c.read ∧ c.read ≤ 12 ∧ 0 ≤ c.en ∧ c.en ≤ 2 ∧ n ≤ 16)) : (1 : Int) = c.err n := by
  unfold Cel.err; rw [if_neg (fun e => h ((fine_iff c n).1 e))]
set_option maxRecDepth 100000 in
set_option maxHeartbeats 2000000 in
theorem cellCheck_any (c : Cel) (ao : Option Addr) (n cap : Nat) (w : World) : Calls Tryz.prog 115 #[c.v (.slice ao n cap)] w fun e w' => e = .returned (.int .i64 (c.err n)) ∧ Below w.heap.size w w' := by
  unfold Cel.v
  go_enter Tryz.func115, Tryz.ntmps115
  go_wp2
  all_goals go_ret
  all_goals refine ⟨ret_int ?_, (by repeat (first | exact Below.refl _ _ | assumption | refine Below.drew ?_ | refine Below.alloc ?_ (by first | (simp; done) | (simp; omega)) _ | refine Below.setCell ?_ (by first | (simp; done) | (simp; omega)) _))⟩
  all_goals first
    | (refine err_no ?_; simp_all; omega)
    | (refine err_no ?_; omega)
    | (refine err_yes ?_; omega)
    | (refine err_no ?_; simp_all; done)
    | (refine err_yes ?_; rename_i h1 h2; simp only [bne_eq_false_iff_eq] at h1; omega)
    | (exfalso; simp_all; done)
end Go.Proofs.YtehhhiodfcdnmaaGreatDoor

namespace Go.Proofs.YtehhhiodfcdnmaaGreatDoor
set_option linter.unusedSimpArgs false
set_option linter.unusedVariables false
open Go.RowKit Go.Sort
theorem bit_any (b : Bool) (w : World) : Calls Tryz.prog 145 #[.bool b] w fun e w' => e = .returned (.int .i64 (if b then 1 else 0)) ∧ w' = w := by
  cases b
  all_goals
    go_enter Tryz.func145, Tryz.ntmps145
    go_wp2
    go_ret
    exact ⟨rfl, rfl⟩
def kindB (k : Int) : Bool := k == 1 || k == 2
theorem cellReg_any (a : Int) (w : World) : Calls Tryz.prog 166 #[.int .i64 a] w fun e w' => e = .returned (.bool (regB a)) ∧ w' = w := by
  by_cases h : 0 ≤ a
  all_goals
  go_enter Tryz.func166, Tryz.ntmps166
  go_wp2
  all_goals go_ret
  all_goals exact ⟨ret_bool (by simp [regB]; try omega), rfl⟩
def replyE (f : Bool) (k reg flag kind : Int) : Int := if !f then 1 else if (k != 12 && k != 13) || !kindB kind then 4 else if !regB reg || !regB flag then 3 else 0
def wantV (k ch reg flag val : Int) : Value := .agg #[.int .i64 k, .int .i64 ch, .int .i64 reg, .int .i64 flag, .int .i64 val]
set_option maxRecDepth 100000 in
set_option maxHeartbeats 4000000 in
theorem checkReply_any (c : Cel) (ao : Option Addr) (n cap : Nat) (k ch reg flag val kind : Int) (f : Bool) (hf : c.fine n = f) (w : World) :
    Calls Tryz.prog 144 #[c.v (.slice ao n cap), wantV k ch reg flag val, .int .i64 kind] w fun e w' => e = .returned (.int .i64 (replyE f k reg flag kind)) ∧ Below w.heap.size w w' := by
  have he : c.err n = if f then 0 else 1 := by rw [← hf]; rfl
  have hcc : ∀ w, Calls Tryz.prog 115 #[c.v (.slice ao n cap)] w fun e w' => e = .returned (.int .i64 (if f then 0 else 1)) ∧ Below w.heap.size w w' := fun w => he ▸ cellCheck_any c ao n cap w
  have HC := Lib.hid hcc
  clear he hf hcc
  unfold Cel.v at HC
  unfold Cel.v wantV
  cases f
  · go_enter Tryz.func144, Tryz.ntmps144
    go_wp2_with fail
    refine (HC.out _).mono ?_
    rintro e w1 ⟨rfl, b1⟩
    go_wp2
    go_ret
    refine ⟨rfl, Below.trans ?_ (b1.mono (by simp; omega))⟩
    exact (by repeat (first | exact Below.refl _ _ | assumption | refine Below.drew ?_ | refine Below.alloc ?_ (by first | (simp; done) | (simp; omega)) _ | refine Below.setCell ?_ (by first | (simp; done) | (simp; omega)) _))
  · go_enter Tryz.func144, Tryz.ntmps144
    go_wp2_with fail
    refine (HC.out _).mono ?_
    rintro e w1 ⟨rfl, b1⟩
    have a0 : w1.cell? ⟨w.heap.size + 1, 0, none⟩ = some (.int .i64 k) := bcl b1 (by simp) (by simp)
    have a2 : w1.cell? ⟨w.heap.size + 1, 2, none⟩ = some (.int .i64 reg) := bcl b1 (by simp) (by simp)
    have a3 : w1.cell? ⟨w.heap.size + 1, 3, none⟩ = some (.int .i64 flag) := bcl b1 (by simp) (by simp)
    have u1 : Below w.heap.size w w1 := by
      refine Below.trans ?_ (b1.mono (by simp; omega))
      exact (by repeat (first | exact Below.refl _ _ | assumption | refine Below.drew ?_ | refine Below.alloc ?_ (by first | (simp; done) | (simp; omega)) _ | refine Below.setCell ?_ (by first | (simp; done) | (simp; omega)) _))
    clear b1 HC
    go_wp2_with (go_at_call 166; refine (cellReg_any _ _).mono ?_; rintro e w' ⟨rfl, rfl⟩)
    all_goals go_ret
    all_goals refine ⟨ret_int ?_, u1⟩
    all_goals (simp_all [replyE, kindB]; done)
end Go.Proofs.YtehhhiodfcdnmaaGreatDoor

namespace Go.Proofs.YtehhhiodfcdnmaaGreatDoor
set_option linter.unusedSimpArgs false
set_option linter.unusedVariables false
open Go.RowKit Go.Sort
def stepE (d : Int) (i : Nat) (f : Bool) (r : Int) : Int := if d != 0 then d else if 12 < i then 2 else if !f then 1 else if (i : Int) < r then 1 else 0
def partV (v u : Value) : Value := .agg #[v, u]
set_option maxRecDepth 100000 in
set_option maxHeartbeats 4000000 in
theorem checkStep_any (l : List Ins) (v : Value) (iao : Option Addr) (i icap : Nat) (c : Cel) (ao : Option Addr) (n cap : Nat) (d : Int) (hd : chkC l = d) (f : Bool) (hf : c.fine n = f) (w : World) (he : Env w) (hS : Sl w 4 v l.length (codeC l)) :
    Calls Tryz.prog 139 #[partV v (.slice iao i icap), c.v (.slice ao n cap)] w fun e w' => e = .returned (.int .i64 (stepE d i f c.read)) ∧ Below w.heap.size w w' := by
  have hE : c.err n = if f then 0 else 1 := by rw [← hf]; rfl
  have hcc : ∀ w, Calls Tryz.prog 115 #[c.v (.slice ao n cap)] w fun e w' => e = .returned (.int .i64 (if f then 0 else 1)) ∧ Below w.heap.size w w' := fun w => hE ▸ cellCheck_any c ao n cap w
  have hkk : ∀ w, Env w → Sl w 4 v l.length (codeC l) → Calls Tryz.prog 89 #[v] w fun e w' => e = .returned (.int .i64 d) ∧ Below w.heap.size w w' := fun w he hS => hd ▸ codeCheck_any l v w he hS
  have HC := Lib.hid hcc
  have HK := Lib.hid hkk
  have HS := Lib.hid hS
  clear hE hf hcc hkk hS hd
  unfold Cel.v at HC
  unfold Cel.v partV
  go_enter Tryz.func139, Tryz.ntmps139
  go_wp2_with fail
  refine (HK.out _ (he.up (by repeat (first | exact Below.refl _ _ | assumption | refine Below.drew ?_ | refine Below.alloc ?_ (by first | (simp; done) | (simp; omega)) _ | refine Below.setCell ?_ (by first | (simp; done) | (simp; omega)) _))) (HS.out.up (by repeat (first | exact Below.refl _ _ | assumption | refine Below.drew ?_ | refine Below.alloc ?_ (by first | (simp; done) | (simp; omega)) _ | refine Below.setCell ?_ (by first | (simp; done) | (simp; omega)) _)))).mono ?_
  rintro e w1 ⟨rfl, b1⟩
  have k0 : w1.cell? ⟨w.heap.size + 1, 0, none⟩ = some (.int .i64 c.at_) := bcl b1 (by simp) (by simp)
  have k1 : w1.cell? ⟨w.heap.size + 1, 1, none⟩ = some (.int .i64 c.r0) := bcl b1 (by simp) (by simp)
  have k2 : w1.cell? ⟨w.heap.size + 1, 2, none⟩ = some (.int .i64 c.r1) := bcl b1 (by simp) (by simp)
  have k3 : w1.cell? ⟨w.heap.size + 1, 3, none⟩ = some (.int .i64 c.r2) := bcl b1 (by simp) (by simp)
  have k4 : w1.cell? ⟨w.heap.size + 1, 4, none⟩ = some (.int .i64 c.r3) := bcl b1 (by simp) (by simp)
  have k5 : w1.cell? ⟨w.heap.size + 1, 5, none⟩ = some (.int .i64 c.m0) := bcl b1 (by simp) (by simp)
  have k6 : w1.cell? ⟨w.heap.size + 1, 6, none⟩ = some (.int .i64 c.m1) := bcl b1 (by simp) (by simp)
  have k7 : w1.cell? ⟨w.heap.size + 1, 7, none⟩ = some (.int .i64 c.m2) := bcl b1 (by simp) (by simp)
  have k8 : w1.cell? ⟨w.heap.size + 1, 8, none⟩ = some (.int .i64 c.m3) := bcl b1 (by simp) (by simp)
  have k9 : w1.cell? ⟨w.heap.size + 1, 9, none⟩ = some (.int .i64 c.m4) := bcl b1 (by simp) (by simp)
  have k10 : w1.cell? ⟨w.heap.size + 1, 10, none⟩ = some (.int .i64 c.m5) := bcl b1 (by simp) (by simp)
  have k11 : w1.cell? ⟨w.heap.size + 1, 11, none⟩ = some (.int .i64 c.m6) := bcl b1 (by simp) (by simp)
  have k12 : w1.cell? ⟨w.heap.size + 1, 12, none⟩ = some (.int .i64 c.m7) := bcl b1 (by simp) (by simp)
  have k13 : w1.cell? ⟨w.heap.size + 1, 13, none⟩ = some (.int .i64 c.read) := bcl b1 (by simp) (by simp)
  have k14 : w1.cell? ⟨w.heap.size + 1, 14, none⟩ = some (.slice ao n cap) := bcl b1 (by simp) (by simp)
  have k15 : w1.cell? ⟨w.heap.size + 1, 15, none⟩ = some (.int .i64 c.en) := bcl b1 (by simp) (by simp)
  have p1 : w1.cell? ⟨w.heap.size, 1, none⟩ = some (.slice iao i icap) := bcl b1 (by simp; omega) (cl_alloc _ (by simp) (by simp))
  have hz1 : w.heap.size + 1 < w1.heap.size := by have := b1.size; simp at this; omega
  have u1 : Below w.heap.size w w1 := by
    refine Below.trans ?_ (b1.mono (by simp; omega))
    exact (by repeat (first | exact Below.refl _ _ | assumption | refine Below.drew ?_ | refine Below.alloc ?_ (by first | (simp; done) | (simp; omega)) _ | refine Below.setCell ?_ (by first | (simp; done) | (simp; omega)) _))
  clear b1 HK
  by_cases h0 : d = 0
  · subst h0
    by_cases h1 : 12 < i
    · have h1' : (12 : Int) < i := by omega
      go_wp2
      go_ret
      exact ⟨ret_int (by simp [stepE, h1]), u1⟩
    · have h1' : ¬ (12 : Int) < i := by omega
      go_wp2_with fail
      refine (HC.out _).mono ?_
      rintro e w2 ⟨rfl, b2⟩
      have k13 := bcl b2 hz1 k13
      have p1 := bcl b2 (Nat.lt_of_succ_lt hz1) p1
      have u2 := u1.trans (b2.mono u1.size)
      clear b2 HC k0 k1 k2 k3 k4 k5 k6 k7 k8 k9 k10 k11 k12 k14 k15
      cases f
      all_goals go_wp2
      all_goals go_ret
      all_goals refine ⟨ret_int ?_, u2⟩
      all_goals first
        | (simp_all [stepE]; done)
        | (unfold stepE; rw [if_neg (by simp), if_neg h1, if_neg (by simp), if_neg (by omega)])
  · have h0' : (d != 0) = true := by simpa using h0
    go_wp2
    go_ret
    exact ⟨ret_int (by simp [stepE, h0]), u1⟩
end Go.Proofs.YtehhhiodfcdnmaaGreatDoor

namespace Go.Proofs.YtehhhiodfcdnmaaGreatDoor
set_option linter.unusedSimpArgs false
set_option linter.unusedVariables false
open Go.RowKit Go.Sort
section
variable {P : Program}
theorem run_append_sl (w : World) (t ty : TypeId) (base : Nat) (e : TypeId) (i : TypeInfo) (z : Value) (size bytes : Nat) (ht : P.underlying t = some (.slice e)) (hi : P.info? e = some i) (hz : i.zero = some z)
    (hsize : i.size = size) (hby : i.bytes = bytes) (hzs : z.cells.size = size) (hsz : 0 < size) (v : Value) (n : Nat) (xs : List Value) (hown : w.ownsRow base e size v n xs)
    (u : Value) (m : Nat) (news : List Value) (hS : Sl w size u m news) (h1 : ∀ u ∈ news, u.oneCell' = true) (h63 : n + m ≤ maxLen) (hbytes : (n + m) * bytes ≤ 140737488355328) (hbase : base ≤ w.heap.size) :
    ∃ v' w', (Builtin.append_ #[t, t] ty #[v, u]).run P w = .ok v' w' ∧ w'.ownsRow base e size v' (n + m) (xs ++ news) ∧ w.grownBy w' v.ownBlock ∧ (v'.ownBlock = v.ownBlock ∨ v'.ownBlock = some w.heap.size) := by
  by_cases hm : m = 0
  · subst hm
    have hnn : news = [] := List.eq_nil_of_length_eq_zero (by simpa using hS.1)
    subst hnn
    obtain ⟨ao, cap, rfl⟩ := hS.form
    cases ao with
    | some ad =>
      obtain ⟨v', w', hr, h2, h3, _, h5⟩ := run_append_own_at (P := P) w base t ty e i z size bytes ht hi hz hsize hby hzs hsz v n xs hown ad 0 cap [] (by simp) (by simp) (by simp) h63 hbytes hbase
      exact ⟨v', w', hr, h2, h3, h5⟩
    | none =>
      refine ⟨v, w, ?_, by simpa using hown, ⟨rfl, rfl, rfl, Nat.le_refl _, fun _ _ _ => rfl⟩, .inl rfl⟩
      rcases hown.2 with ⟨rfl, rfl⟩ | ⟨g, cap', cur, rfl, hbg, hg, hnc, hcm, hcs, htake⟩
      · simp [Builtin.append_, run_underlying ht, sizeOf, typeInfo, hi, Builtin.lenOf, Builtin.firstCells, loadCells, loadCellsFrom]
      · simp [Builtin.append_, run_underlying ht, sizeOf, typeInfo, hi, Builtin.lenOf, Builtin.firstCells, loadCells, loadCellsFrom, hnc, storeCells]
  · obtain ⟨b, off, cap, rfl, _, _, hc⟩ := hS.open (by omega)
    obtain ⟨v', w', hr, h2, h3, _, h5⟩ := run_append_own_at (P := P) w base t ty e i z size bytes ht hi hz hsize hby hzs hsz v n xs hown ⟨b, off, none⟩ m cap news hS.1 (sl_src hc) h1 h63 hbytes hbase
    exact ⟨v', w', hr, h2, h3, h5⟩
theorem wp_append_sl {o : Oper} {a : Act} {w : World} {K : Act → World → Prop} {Q : Exit → Act → World → Prop} (s x : Operand) (t : TypeId)
    (ho : o.op = .call { callee := .builtin .append, args := #[s, x], argTypes := #[t, t] })
    (base : Nat) (e : TypeId) (i : TypeInfo) (z : Value) (size bytes : Nat) (ht : P.underlying t = some (.slice e)) (hi : P.info? e = some i) (hz : i.zero = some z)
    (hsize : i.size = size) (hby : i.bytes = bytes) (hzs : z.cells.size = size) (hsz : 0 < size) (v : Value) (n : Nat) (xs : List Value) (hs : a.eval s = v) (hown : w.ownsRow base e size v n xs)
    (u : Value) (m : Nat) (news : List Value) (hx : a.eval x = u) (hS : Sl w size u m news) (h1 : ∀ u ∈ news, u.oneCell' = true) (h63 : n + m ≤ maxLen) (hbytes : (n + m) * bytes ≤ 140737488355328) (hbase : base ≤ w.heap.size)
    (h : ∀ v' w', w'.ownsRow base e size v' (n + m) (xs ++ news) → w.grownBy w' v.ownBlock → (v'.ownBlock = v.ownBlock ∨ v'.ownBlock = some w.heap.size) → K (a.put o.dst v') w') : o.wp P a w K Q := by
  obtain ⟨v', w', hr, h2, h3, h5⟩ := run_append_sl (P := P) w t o.type base e i z size bytes ht hi hz hsize hby hzs hsz v n xs hown u m news hS h1 h63 hbytes hbase
  unfold Oper.wp execOp
  simp only [ho, resolve, invoke, builtin, Sem.run_bind, Sem.run_pure, Result.andThen_ok, List.map_toArray, List.map_cons, List.map_nil, hs, hx, hr]
  exact h v' w' h2 h3 h5
theorem run_append_lit (w : World) (t ty : TypeId) (base : Nat) (e : TypeId) (i : TypeInfo) (z : Value) (size bytes : Nat) (ht : P.underlying t = some (.slice e)) (hi : P.info? e = some i) (hz : i.zero = some z)
    (hsize : i.size = size) (hby : i.bytes = bytes) (hzs : z.cells.size = size) (hsz : 0 < size) (B : Nat) (hown : w.ownsRow base e size (.slice (some ⟨B, 0, none⟩) 0 0) 0 [])
    (u : Value) (m : Nat) (news : List Value) (hS : Sl w size u m news) (h1 : ∀ u ∈ news, u.oneCell' = true) (h63 : m ≤ maxLen) (hbytes : m * bytes ≤ 140737488355328) (hbase : base ≤ w.heap.size) :
    ∃ v' w', (Builtin.append_ #[t, t] ty #[.slice (some ⟨B, 0, none⟩) 0 0, u]).run P w = .ok v' w' ∧ w'.ownsRow base e size v' m news ∧ Below w.heap.size w w' ∧ (∀ k, v'.ownBlock = some k → k = B ∨ k = w.heap.size) := by
  by_cases hm : m = 0
  · subst hm
    have hnn : news = [] := List.eq_nil_of_length_eq_zero (by simpa using hS.1)
    subst hnn
    obtain ⟨ao, cap, rfl⟩ := hS.form
    refine ⟨_, w, ?_, hown, Below.refl _ _, fun k hk => .inl (by simpa [Value.ownBlock, eq_comm] using hk)⟩
    cases ao with
    | some ad => simp [Builtin.append_, run_underlying ht, sizeOf, typeInfo, hi, Builtin.lenOf, Builtin.firstCells, loadCells, loadCellsFrom, storeCells]
    | none => simp [Builtin.append_, run_underlying ht, sizeOf, typeInfo, hi, Builtin.lenOf, Builtin.firstCells, loadCells, loadCellsFrom, storeCells]
  · obtain ⟨b, off, cap, rfl, _, _, hc⟩ := hS.open (by omega)
    obtain ⟨v', w', hr, h2, _, _, _⟩ := run_append_own_at (P := P) w base t ty e i z size bytes ht hi hz hsize hby hzs hsz _ 0 [] hown ⟨b, off, none⟩ m cap news hS.1 (sl_src hc) h1 (by simpa using h63) (by simpa using hbytes) hbase
    have hr2 := run_append_grow (P := P) w t ty e i z ht hi hz ⟨B, 0, none⟩ 0 0 [] (by simp) (by simp) ⟨b, off, none⟩ m cap news (by rw [hsize]; exact hS.1) (sl_src hc) (by omega) (by unfold maxLen at h63; omega) (growslice_fits (by omega) (by rw [hby]; simpa using hbytes))
    have hw := hr.symm.trans hr2
    injection hw with hv hw
    refine ⟨v', w', hr, by simpa using h2, ?_, fun k hk => .inr ?_⟩
    · rw [hw]
      exact (Below.refl _ _).drew.alloc (Nat.le_refl _) _
    · rw [hv] at hk
      simpa [Value.ownBlock, eq_comm] using hk
theorem wp_append_lit {o : Oper} {a : Act} {w : World} {K : Act → World → Prop} {Q : Exit → Act → World → Prop} (s x : Operand) (t : TypeId)
    (ho : o.op = .call { callee := .builtin .append, args := #[s, x], argTypes := #[t, t] })
    (base : Nat) (e : TypeId) (i : TypeInfo) (z : Value) (size bytes : Nat) (ht : P.underlying t = some (.slice e)) (hi : P.info? e = some i) (hz : i.zero = some z)
    (hsize : i.size = size) (hby : i.bytes = bytes) (hzs : z.cells.size = size) (hsz : 0 < size) (B : Nat) (hs : a.eval s = .slice (some ⟨B, 0, none⟩) 0 0) (hown : w.heap[B]? = some (.cells #[] e (0, 0))) (hB : base ≤ B)
    (u : Value) (m : Nat) (news : List Value) (hx : a.eval x = u) (hS : Sl w size u m news) (h1 : ∀ u ∈ news, u.oneCell' = true) (h63 : m ≤ maxLen) (hbytes : m * bytes ≤ 140737488355328)
    (h : ∀ v' w', w'.ownsRow base e size v' m news → Below w.heap.size w w' → (∀ k, v'.ownBlock = some k → k = B ∨ k = w.heap.size) → K (a.put o.dst v') w') : o.wp P a w K Q := by
  have hBl : B < w.heap.size := by
    rcases Nat.lt_or_ge B w.heap.size with h | h
    · exact h
    · rw [Array.getElem?_eq_none h] at hown; cases hown
  obtain ⟨v', w', hr, h2, h3, h5⟩ := run_append_lit (P := P) w t o.type base e i z size bytes ht hi hz hsize hby hzs hsz B ⟨by simp, .inr ⟨B, 0, #[], rfl, hB, hown, Nat.le_refl _, Nat.zero_le _, by simp, by simp⟩⟩ u m news hS h1 h63 hbytes (by omega)
  unfold Oper.wp execOp
  simp only [ho, resolve, invoke, builtin, Sem.run_bind, Sem.run_pure, Result.andThen_ok, List.map_toArray, List.map_cons, List.map_nil, hs, hx, hr]
  exact h v' w' h2 h3 h5
theorem step_append_lit {ops : Array Oper} {o : Oper} {a : Act} {w : World} {K : Act → World → Prop} {Q : Exit → Act → World → Prop} {E : Prop} (hgd : o.guard = none) (s x : Operand) (t : TypeId)
    (ho : o.op = .call { callee := .builtin .append, args := #[s, x], argTypes := #[t, t] })
    (base : Nat) (e : TypeId) (i : TypeInfo) (z : Value) (size bytes : Nat) (ht : P.underlying t = some (.slice e)) (hi : P.info? e = some i) (hz : i.zero = some z)
    (hsize : i.size = size) (hby : i.bytes = bytes) (hzs : z.cells.size = size) (hsz : 0 < size) (B : Nat) (hs : a.eval s = .slice (some ⟨B, 0, none⟩) 0 0) (hown : w.heap[B]? = some (.cells #[] e (0, 0))) (hB : base ≤ B)
    (u : Value) (m : Nat) (news : List Value) (hx : a.eval x = u) (hS : Sl w size u m news) (h1 : ∀ u ∈ news, u.oneCell' = true) (h63 : m ≤ maxLen) (hbytes : m * bytes ≤ 140737488355328)
    (h : ∀ v' w', w'.ownsRow base e size v' m news → Below w.heap.size w w' → (∀ k, v'.ownBlock = some k → k = B ∨ k = w.heap.size) → K (a.put o.dst v') w') :
    if Region.wanted o (yielded ops a.tmps) = true then Oper.wp P o a w K Q else E := by
  have hw : Region.wanted o (yielded ops a.tmps) = true := by simp [Region.wanted, hgd]
  rw [if_pos hw]
  exact wp_append_lit s x t ho base e i z size bytes ht hi hz hsize hby hzs hsz B hs hown hB u m news hx hS h1 h63 hbytes h
theorem wpList_append_sl {ops : Array Oper} {rest : List Oper} {o : Oper} {a : Act} {w : World} {Q : Exit → Act → World → Prop} (hgd : o.guard = none) (s x : Operand) (t : TypeId)
    (ho : o.op = .call { callee := .builtin .append, args := #[s, x], argTypes := #[t, t] })
    (base : Nat) (e : TypeId) (i : TypeInfo) (z : Value) (size bytes : Nat) (ht : P.underlying t = some (.slice e)) (hi : P.info? e = some i) (hz : i.zero = some z)
    (hsize : i.size = size) (hby : i.bytes = bytes) (hzs : z.cells.size = size) (hsz : 0 < size) (v : Value) (n : Nat) (xs : List Value) (hs : a.eval s = v) (hown : w.ownsRow base e size v n xs)
    (u : Value) (m : Nat) (news : List Value) (hx : a.eval x = u) (hS : Sl w size u m news) (h1 : ∀ u ∈ news, u.oneCell' = true) (h63 : n + m ≤ maxLen) (hbytes : (n + m) * bytes ≤ 140737488355328) (hbase : base ≤ w.heap.size)
    (h : ∀ v' w', w'.ownsRow base e size v' (n + m) (xs ++ news) → w.grownBy w' v.ownBlock → (v'.ownBlock = v.ownBlock ∨ v'.ownBlock = some w.heap.size) → wpList P ops Q rest (a.put o.dst v') w') : wpList P ops Q (o :: rest) a w :=
  wpList_plain hgd fun _ hK => wp_append_sl s x t ho base e i z size bytes ht hi hz hsize hby hzs hsz v n xs hs hown u m news hx hS h1 h63 hbytes hbase fun v' w' h1 h2 h3 => hK _ _ (h v' w' h1 h2 h3)
theorem wpList_append_nil {ops : Array Oper} {rest : List Oper} {o : Oper} {a : Act} {w : World} {Q : Exit → Act → World → Prop} (hgd : o.guard = none) (s x : Operand) (t : TypeId)
    (ho : o.op = .call { callee := .builtin .append, args := #[s, x], argTypes := #[t, t] })
    (e : TypeId) (i : TypeInfo) (z : Value) (size bytes : Nat) (ht : P.underlying t = some (.slice e)) (hi : P.info? e = some i) (hz : i.zero = some z)
    (hsize : i.size = size) (hby : i.bytes = bytes) (hzs : z.cells.size = size) (hsz : 0 < size) (hs : a.eval s = .slice none 0 0)
    (u : Value) (m : Nat) (news : List Value) (hx : a.eval x = u) (hS : Sl w size u m news) (h1 : ∀ u ∈ news, u.oneCell' = true) (h63 : m ≤ maxLen) (hbytes : m * bytes ≤ 140737488355328)
    (h : ∀ v' w', w'.ownsRow w.heap.size e size v' m news → Below w.heap.size w w' → wpList P ops Q rest (a.put o.dst v') w') : wpList P ops Q (o :: rest) a w :=
  wpList_append_sl hgd s x t ho w.heap.size e i z size bytes ht hi hz hsize hby hzs hsz _ 0 [] hs (World.ownsRow_nil _ _ _ _) u m news hx hS h1 (by simpa using h63) (by simpa using hbytes) (Nat.le_refl _)
    fun v' w' g1 g2 _ => h v' w' (by simpa using g1) ((Below.refl _ _).grown g2 (Nat.le_refl _) (fun k hk => by cases hk))
end
end Go.Proofs.YtehhhiodfcdnmaaGreatDoor

namespace Go.Proofs.YtehhhiodfcdnmaaGreatDoor
set_option linter.unusedSimpArgs false
set_option linter.unusedVariables false
open Go.RowKit Go.Sort
def Cel.cs (c : Cel) (o : Value) : Array Value := #[.int .i64 c.at_, .int .i64 c.r0, .int .i64 c.r1, .int .i64 c.r2, .int .i64 c.r3, .int .i64 c.m0, .int .i64 c.m1, .int .i64 c.m2, .int .i64 c.m3, .int .i64 c.m4, .int .i64 c.m5, .int .i64 c.m6, .int .i64 c.m7, .int .i64 c.read, o, .int .i64 c.en]
theorem Cel.v_cs (c : Cel) (o : Value) : c.v o = .agg (c.cs o) := rfl
theorem Cel.cs_one (c : Cel) (o : Value) (h : o.oneCell' = true) : (c.cs o).all (·.oneCell') = true := by
  simp [Cel.cs, h]
  simp [Value.oneCell']
def celZ : Cel := ⟨0, 0, 0, 0, 0, 0, 0, 0, 0, 0, 0, 0, 0, 0, 0⟩
theorem infoInt : (Tryz.prog.info? 3).map (fun i => (i.zero, i.size, i.bytes)) = some (some (.int .i64 0), 1, 8) := by kernel_rfl
theorem sizeCell : (Tryz.prog.info? 35).map (·.size) = some 16 := by kernel_rfl
set_option maxRecDepth 100000 in
set_option maxHeartbeats 4000000 in
theorem copied_any (c : Cel) (xs : List Int) (hx : xs.length ≤ 1000) (v : Value) (w : World) (hS : Sl w 1 v xs.length (ints xs)) :
    Calls Tryz.prog 140 #[c.v v] w fun e w' => ∃ v', e = .returned (c.v v') ∧ w'.ownsRow w.heap.size 3 1 v' xs.length (ints xs) ∧ Below w.heap.size w w' := by
  obtain ⟨i0, hi, hz0, hz1, hz2⟩ := info_parts infoInt
  rw [Cel.v_cs]
  have h14 : (c.cs v)[14]? = some v := rfl
  have HS := Lib.hid hS
  clear hS
  go_enter Tryz.func140, Tryz.ntmps140
  go_wp2_with (at_builtin; refine wpList_append_nil rfl (.const (.slice none 0 0)) (.tmp 4) 33 rfl 3 i0 _ 1 8 Tryz.underlying33 hi hz0 hz1 hz2 rfl (by decide) rfl v xs.length (ints xs) rfl (HS.out.up (by repeat (first | exact Below.refl _ _ | assumption | refine Below.drew ?_ | refine Below.alloc ?_ (by first | (simp; done) | (simp; omega)) _ | refine Below.setCell ?_ (by first | (simp; done) | (simp; omega)) _))) (ints_cell xs) (by unfold maxLen; omega) (by omega) ?_)
  intro v' W ho hb
  have z2 : w.heap.size + 2 ≤ W.heap.size := by have := hb.size; simp at this; omega
  have D : Below w.heap.size w W := by
    refine Below.trans ?_ (hb.mono (by first | omega | (simp; done) | (simp; omega)))
    exact (by repeat (first | exact Below.refl _ _ | assumption | refine Below.drew ?_ | refine Below.alloc ?_ (by first | (simp; done) | (simp; omega)) _ | refine Below.setCell ?_ (by first | (simp; done) | (simp; omega)) _))
  have r1 : Rw W w.heap.size 35 (c.cs v) := Rw.up ((Rw.new w _ _ rfl).alloc _) hb (by first | omega | (simp; done) | (simp; omega))
  have r2 : Rw W (w.heap.size + 1) 35 (celZ.cs (.slice none 0 0)) := (Rw.new _ 35 _ (by simp)).up hb (by first | omega | (simp; done) | (simp; omega))
  have k1 := r1.cell h14
  have k2 := r1.fr 14
  have hv := own_block ho
  obtain ⟨ao, cap, rfl⟩ := own_form ho
  have R1 := Lib.hid (r1.set 14 (.slice ao xs.length cap))
  have R2 := Lib.hid (r2.set_other (a := ⟨w.heap.size, 14, none⟩) (.slice ao xs.length cap) (by simp))
  have DD := Lib.hid (D.setCell (p := ⟨w.heap.size, 14, none⟩) (Nat.le_refl _) (.slice ao xs.length cap))
  have HO := Lib.hid (own_set (a := ⟨w.heap.size, 14, none⟩) ho (.slice ao xs.length cap) (fun e => by have := hv _ e; simp at this; omega))
  clear r1 r2 D hb ho HS h14
  go_wp2_with (first | (refine wpList_load_row rfl 35 (.tmp 1) rfl w.heap.size rfl 35 (c.cs (.slice ao xs.length cap)) (0, 0) _ R1.out Tryz.underlying35 rfl sizeCell ?_) | (refine wpList_store_row rfl 35 (.tmp 2) (.tmp 7) rfl (w.heap.size + 1) (c.cs (.slice ao xs.length cap)) rfl rfl 35 _ R2.out sizeCell rfl (c.cs_one _ rfl) ?_))
  refine bodyPost_ret (results_cell_row Tryz.results140 _ _ (w.heap.size + 1) 35 (c.cs (.slice ao xs.length cap)) (0, 0) _ rfl (R2.out.row _) Tryz.underlying35 rfl sizeCell) rfl ⟨_, rfl, ?_, below_row DD.out (by omega) _⟩
  exact own_low (own_row HO.out _ (fun e => by have := hv _ e; omega)) (by omega)
end Go.Proofs.YtehhhiodfcdnmaaGreatDoor

namespace Go.Proofs.YtehhhiodfcdnmaaGreatDoor
set_option linter.unusedSimpArgs false
set_option linter.unusedVariables false
open Go.RowKit Go.Sort
structure CelD where
  c : Cel
  out : List Int
structure WldD where
  tick : Int
  cells : List CelD
  lines : List (List Int)
def celC (p : Cel × Value) : List Value := (p.1.cs p.2).toList
theorem celC_len (p : Cel × Value) : (celC p).length = 16 := rfl
def CellsR (w : World) (v : Value) (ds : List CelD) : Prop :=
  ∃ ps : List (Cel × Value), ps.length = ds.length ∧ Sl w 16 v ds.length (rowC celC ps) ∧ ∀ k (hk : k < ds.length) (hk' : k < ps.length), ps[k].1 = ds[k].c ∧ Sl w 1 ps[k].2 ds[k].out.length (ints ds[k].out)
theorem CellsR.up {w w' : World} {v : Value} {ds : List CelD} (h : CellsR w v ds) (hb : Below w.heap.size w w') : CellsR w' v ds := by
  obtain ⟨ps, h1, h2, h3⟩ := h
  exact ⟨ps, h1, h2.up hb, fun k hk hk' => ⟨(h3 k hk hk').1, (h3 k hk hk').2.up hb⟩⟩
theorem CellsR.form {w : World} {v : Value} {ds : List CelD} (h : CellsR w v ds) : ∃ ao cap, v = .slice ao ds.length cap := by
  obtain ⟨ps, h1, h2, h3⟩ := h
  exact h2.form
theorem CellsR.open {w : World} {v : Value} {ds : List CelD} (h : CellsR w v ds) (hn : 0 < ds.length) :
    ∃ b off cap, v = .slice (some ⟨b, off, none⟩) ds.length cap ∧ ds.length ≤ cap ∧ b < w.heap.size ∧ ∀ k (hk : k < ds.length), ∃ ao oc, w.rangeAt b (off + k * 16) (ds[k].c.cs (.slice ao ds[k].out.length oc)).toList ∧ Sl w 1 (.slice ao ds[k].out.length oc) ds[k].out.length (ints ds[k].out) := by
  obtain ⟨ps, h1, h2, h3⟩ := h
  obtain ⟨b, off, cap, e, hcap, hb, hc⟩ := h2.open hn
  refine ⟨b, off, cap, e, hcap, hb, fun k hk => ?_⟩
  have hk' : k < ps.length := by omega
  obtain ⟨e1, s1⟩ := h3 k hk hk'
  obtain ⟨ao, oc, e2⟩ := s1.form
  refine ⟨ao, oc, fun j u hj => ?_, e2 ▸ s1⟩
  have hj16 : j < 16 := by have := (List.getElem?_eq_some_iff.1 hj).1; simpa [Cel.cs] using this
  rw [Nat.add_assoc]
  refine hc (k * 16 + j) u ?_
  rw [rowC_at (s := 16) (f := celC) celC_len ps k j hk' hj16, celC, e1, e2]
  exact hj
def LinesR (w : World) (v : Value) (ls : List (List Int)) : Prop :=
  ∃ vs : List Value, vs.length = ls.length ∧ Sl w 1 v ls.length vs ∧ ∀ k (hk : k < ls.length) (hk' : k < vs.length), Sl w 1 vs[k] ls[k].length (ints ls[k])
theorem LinesR.up {w w' : World} {v : Value} {ls : List (List Int)} (h : LinesR w v ls) (hb : Below w.heap.size w w') : LinesR w' v ls := by
  obtain ⟨vs, h1, h2, h3⟩ := h
  exact ⟨vs, h1, h2.up hb, fun k hk hk' => (h3 k hk hk').up hb⟩
theorem LinesR.form {w : World} {v : Value} {ls : List (List Int)} (h : LinesR w v ls) : ∃ ao cap, v = .slice ao ls.length cap := by
  obtain ⟨vs, h1, h2, h3⟩ := h
  exact h2.form
theorem LinesR.open {w : World} {v : Value} {ls : List (List Int)} (h : LinesR w v ls) (hn : 0 < ls.length) :
    ∃ b off cap, v = .slice (some ⟨b, off, none⟩) ls.length cap ∧ ls.length ≤ cap ∧ b < w.heap.size ∧ ∀ k (hk : k < ls.length), ∃ ao oc, w.cell? ⟨b, off + k, none⟩ = some (.slice ao ls[k].length oc) ∧ Sl w 1 (.slice ao ls[k].length oc) ls[k].length (ints ls[k]) := by
  obtain ⟨vs, h1, h2, h3⟩ := h
  obtain ⟨b, off, cap, e, hcap, hb, hc⟩ := h2.open hn
  refine ⟨b, off, cap, e, hcap, hb, fun k hk => ?_⟩
  have hk' : k < vs.length := by omega
  have s1 := h3 k hk hk'
  obtain ⟨ao, oc, e2⟩ := s1.form
  exact ⟨ao, oc, hc k _ (by rw [List.getElem?_eq_getElem hk', e2]), e2 ▸ s1⟩
structure Wld (w : World) (vc vl : Value) (D : WldD) : Prop where
  c : CellsR w vc D.cells
  l : LinesR w vl D.lines
theorem Wld.up {w w' : World} {vc vl : Value} {D : WldD} (h : Wld w vc vl D) (hb : Below w.heap.size w w') : Wld w' vc vl D := ⟨h.c.up hb, h.l.up hb⟩
def celB (p : Prt) (d : CelD) : Bool := d.c.fine d.out.length && decide (d.c.read ≤ p.inn.length)
def cellsB : List Prt → List CelD → Bool
  | [], [] => true
  | p :: ps, d :: ds => celB p d && cellsB ps ds
  | _, _ => false
theorem cellsB_len : ∀ {ps : List Prt} {ds : List CelD}, cellsB ps ds = true → ds.length = ps.length
  | [], [], _ => rfl
  | p :: ps, d :: ds, h => by simp [cellsB] at h; simp [cellsB_len h.2]
  | [], _ :: _, h => by simp [cellsB] at h
  | _ :: _, [], h => by simp [cellsB] at h
theorem cellsB_yes : ∀ {ps : List Prt} {ds : List CelD}, ds.length = ps.length → (∀ k (h : k < ps.length) (h' : k < ds.length), celB ps[k] ds[k] = true) → cellsB ps ds = true
  | [], [], _, _ => rfl
  | p :: ps, d :: ds, h, ha => by
    rw [cellsB, show celB p d = true from ha 0 (by simp) (by simp), cellsB_yes (by simpa using h) (fun k h1 h2 => ha (k + 1) (by simpa using h1) (by simpa using h2))]
    rfl
  | [], _ :: _, h, _ => by simp at h
  | _ :: _, [], h, _ => by simp at h
theorem cellsB_at : ∀ {ps : List Prt} {ds : List CelD}, cellsB ps ds = true → ∀ k (h : k < ps.length) (h' : k < ds.length), celB ps[k] ds[k] = true
  | p :: ps, d :: ds, h, 0, _, _ => by simp [cellsB] at h; exact h.1
  | p :: ps, d :: ds, h, k + 1, h1, h2 => by simp [cellsB] at h; exact cellsB_at h.2 k (by simpa using h1) (by simpa using h2)
theorem cellsB_no {ps : List Prt} {ds : List CelD} (k : Nat) (h : k < ps.length) (h' : k < ds.length) (hb : celB ps[k] ds[k] = false) : cellsB ps ds = false := by
  cases e : cellsB ps ds with
  | false => rfl
  | true => rw [cellsB_at e k h h'] at hb; cases hb
def linesB : List Chn → List (List Int) → Bool
  | [], [] => true
  | c :: cs, l :: ls => decide (chkL c.kd l.length = 0) && linesB cs ls
  | _, _ => false
theorem linesB_len : ∀ {cs : List Chn} {ls : List (List Int)}, linesB cs ls = true → ls.length = cs.length
  | [], [], _ => rfl
  | p :: ps, d :: ds, h => by simp [linesB] at h; simp [linesB_len h.2]
  | [], _ :: _, h => by simp [linesB] at h
  | _ :: _, [], h => by simp [linesB] at h
theorem linesB_yes : ∀ {cs : List Chn} {ls : List (List Int)}, ls.length = cs.length → (∀ k (h : k < cs.length) (h' : k < ls.length), chkL cs[k].kd ls[k].length = 0) → linesB cs ls = true
  | [], [], _, _ => rfl
  | p :: ps, d :: ds, h, ha => by
    rw [linesB, show chkL p.kd d.length = 0 from ha 0 (by simp) (by simp), linesB_yes (by simpa using h) (fun k h1 h2 => ha (k + 1) (by simpa using h1) (by simpa using h2))]
    rfl
  | [], _ :: _, h, _ => by simp at h
  | _ :: _, [], h, _ => by simp at h
theorem linesB_at : ∀ {cs : List Chn} {ls : List (List Int)}, linesB cs ls = true → ∀ k (h : k < cs.length) (h' : k < ls.length), chkL cs[k].kd ls[k].length = 0
  | p :: ps, d :: ds, h, 0, _, _ => by simp [linesB] at h; exact h.1
  | p :: ps, d :: ds, h, k + 1, h1, h2 => by simp [linesB] at h; exact linesB_at h.2 k (by simpa using h1) (by simpa using h2)
theorem linesB_no {cs : List Chn} {ls : List (List Int)} (k : Nat) (h : k < cs.length) (h' : k < ls.length) (hb : chkL cs[k].kd ls[k].length ≠ 0) : linesB cs ls = false := by
  cases e : linesB cs ls with
  | false => rfl
  | true => exact absurd (linesB_at e k h h') hb
def chkW (S : SysD) (D : WldD) : Int := if chkS S ≠ 0 then chkS S else if withinB D.tick 0 300 && cellsB S.parts D.cells && linesB S.chans D.lines then 0 else 1
end Go.Proofs.YtehhhiodfcdnmaaGreatDoor

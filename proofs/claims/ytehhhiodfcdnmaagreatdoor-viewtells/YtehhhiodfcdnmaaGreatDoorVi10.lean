/- law.ViewTells. -/
import Derived.Test.YtehhhiodfcdnmaaGreatDoorJ17
import Derived.Test.YtehhhiodfcdnmaaGreatDoorKn13
import Derived.Test.YtehhhiodfcdnmaaGreatDoorJ2
namespace Go.Proofs.YtehhhiodfcdnmaaGreatDoor
set_option linter.unusedSimpArgs false
set_option linter.unusedVariables false
open Go.RowKit Go.Sort
theorem viewE_bad {S : SysD} {D : WldD} {part : Int} (h : chkW S D ≠ 0) : viewE S D part = chkW S D := by
  unfold viewE
  rw [if_pos h]
theorem viewE_good {S : SysD} {D : WldD} {part : Int} (h : chkW S D = 0) : viewE S D part = thE S part := by
  unfold viewE
  rw [if_neg (by simp [h]), isPB_th (chkW_zero h).1]
theorem viewE_part {S : SysD} {D : WldD} {part : Int} (h : viewE S D part = 0) : chkW S D = 0 ∧ ∃ pn : Nat, part = (pn : Int) ∧ pn < S.parts.length := by
  by_cases hc : chkW S D = 0
  · refine ⟨hc, part.toNat, ?_⟩
    unfold viewE at h
    rw [if_neg (by simp [hc])] at h
    cases hb : isPB S part with
    | false => rw [hb] at h; simp at h
    | true => simp [isPB] at hb; omega
  · rw [viewE_bad hc] at h
    exact absurd h hc
theorem viewR_bad {S : SysD} {D : WldD} {part : Int} (h : viewE S D part ≠ 0) : viewR S D part = viwZ := by
  unfold viewR
  rw [if_neg h]
set_option maxRecDepth 100000 in
set_option maxHeartbeats 8000000 in
theorem viewTells_any (S : SysD) (hok : S.ok) (D : WldD) (part : Int) (vp vc vs xc xl : Value) (w : World) (he : Env w) (hS : Sys w vp vc vs S) (hW : Wld w xc xl D) :
    Calls Tryz.prog 3 #[.agg #[vp, vc, vs], .agg #[.int .i64 D.tick, xc, xl], .int .i64 part] w fun e w' => e = .returned (.bool true) ∧ Below w.heap.size w w' := by
  obtain ⟨pa, pc, rfl⟩ := hS.p.form
  obtain ⟨ka, kc, rfl⟩ := hS.c.form
  obtain ⟨sa, sc, rfl⟩ := hS.s.form
  obtain ⟨ua, uc, rfl⟩ := hW.c.form
  obtain ⟨la, lc, rfl⟩ := hW.l.form
  obtain ⟨c0, hc0⟩ : ∃ c0, chkW S D = c0 := ⟨_, rfl⟩
  obtain ⟨v0, hv0⟩ : ∃ v0, viewE S D part = v0 := ⟨_, rfl⟩
  obtain ⟨V, hV⟩ : ∃ V, viewR S D part = V := ⟨_, rfl⟩
  have HSV : Hid (SmallV V) := Lib.hid (hV ▸ small_view S D part)
  have HOF := Lib.hid fun w he hS hW => viewOf_any S D part (.slice pa S.parts.length pc) (.slice ka S.chans.length kc) (.slice sa S.slots.length sc) (.slice ua D.cells.length uc) (.slice la D.lines.length lc) w he hS hW v0 hv0 V hV
  have HCW := Lib.hid fun w hS hW => checkWorld_any S hok D (.slice pa S.parts.length pc) (.slice ka S.chans.length kc) (.slice sa S.slots.length sc) (.slice ua D.cells.length uc) (.slice la D.lines.length lc) w hS hW c0 hc0
  have HTH := Lib.hid fun h w hS => ThereT_any S hok (.slice pa S.parts.length pc) (.slice ka S.chans.length kc) (.slice sa S.slots.length sc) part w hS v0 h
  have HVB : Hid (c0 ≠ 0 → v0 = c0) := Lib.hid fun h => by rw [← hv0, viewE_bad (by rw [hc0]; exact h), hc0]
  have HVG : Hid (c0 = 0 → thE S part = v0) := Lib.hid fun h => by rw [← hv0, viewE_good (by rw [hc0]; exact h)]
  have HVP : Hid (v0 = 0 → chkW S D = 0 ∧ ∃ pn : Nat, part = (pn : Int) ∧ pn < S.parts.length) := Lib.hid fun h => viewE_part (by rw [hv0]; exact h)
  have HVZ : Hid (v0 ≠ 0 → V = viwZ) := Lib.hid fun h => by rw [← hV]; exact viewR_bad (by rw [hv0]; exact h)
  have HVR := Lib.hid hV
  have HE := Lib.hid he
  have HS := Lib.hid hS
  have HW := Lib.hid hW
  clear he hS hW hc0 hv0 hok hV
  go_enter Tryz.func3, Tryz.ntmps3
  go_upto_region 1 with fail
  generalize hX : World.alloc _ _ = X
  have hXX : X = (w.alloc (.cells #[.slice pa S.parts.length pc, .slice ka S.chans.length kc, .slice sa S.slots.length sc] 26)).alloc (.cells #[.int .i64 D.tick, .slice ua D.cells.length uc, .slice la D.lines.length lc] 30) := by rw [← hX] <;> rfl
  have hzX : X.heap.size = w.heap.size + 2 := by rw [hXX]; simp
  have d0 : Below w.heap.size w X := by rw [hXX]; exact (by repeat (first | exact Below.refl _ _ | assumption | refine Below.drew ?_ | refine Below.alloc ?_ (by first | (simp; done) | (simp; omega)) _ | refine Below.setCell ?_ (by first | (simp; done) | (simp; omega)) _))
  have R0 : Hid (Rw X w.heap.size 26 #[.slice pa S.parts.length pc, .slice ka S.chans.length kc, .slice sa S.slots.length sc]) := Lib.hid (by rw [hXX]; exact (by repeat (first | exact Rw.new _ _ _ (by first | rfl | (simp; done) | omega | (simp; omega)) | refine Rw.alloc ?_ _)))
  have R1 : Hid (Rw X (w.heap.size + 1) 30 #[.int .i64 D.tick, .slice ua D.cells.length uc, .slice la D.lines.length lc]) := Lib.hid (by rw [hXX]; exact (by repeat (first | exact Rw.new _ _ _ (by first | rfl | (simp; done) | omega | (simp; omega)) | refine Rw.alloc ?_ _)))
  have HB := Lib.hid d0
  clear hX hXX d0
  have s0 := R0.out.cell (j := 0) (v := .slice pa S.parts.length pc) rfl
  have s1 := R0.out.cell (j := 1) (v := .slice ka S.chans.length kc) rfl
  have s2 := R0.out.cell (j := 2) (v := .slice sa S.slots.length sc) rfl
  have t0 := R1.out.cell (j := 0) (v := .int .i64 D.tick) rfl
  have t1 := R1.out.cell (j := 1) (v := .slice ua D.cells.length uc) rfl
  have t2 := R1.out.cell (j := 2) (v := .slice la D.lines.length lc) rfl
  go_wp2_with fail
  refine (HOF.out _ (HE.out.up HB.out) (HS.out.up HB.out) (HW.out.up HB.out)).mono ?_
  rintro e w3 ⟨o, vl, rfl, hV3, b3⟩
  obtain ⟨oa, oc, rfl⟩ := hV3.so.form
  obtain ⟨ma, mc, rfl⟩ := hV3.l.form
  have HV3 := Lib.hid hV3
  have z3 := b3.size
  clear hV3 s0 s1 s2 t0 t1 t2
  have R0' := Lib.hid (R0.out.up b3 R0.out.lt)
  have R1' := Lib.hid (R1.out.up b3 R1.out.lt)
  have HB' := Lib.hid (HB.out.trans (b3.mono HB.out.size))
  clear b3 HB R0 R1
  have R0 := R0'
  clear R0'
  have R1 := R1'
  clear R1'
  have HB := HB'
  clear HB'
  go_wp2_with (refine wpList_store_rowW rfl 37 (.tmp 7) (.tmp 16) rfl w3.heap.size (vwC V.d.c (.slice oa V.d.out.length oc) (.slice ma V.ls.length mc)) rfl rfl 37 (vwC celZ (.slice none 0 0) (.slice none 0 0)) (by repeat (first | exact Rw.new _ _ _ (by first | rfl | (simp; done) | omega | (simp; omega)) | refine Rw.alloc ?_ _)) sizeView rfl (vwC_one _ _ _ rfl rfl) ?_)
  intro W4 HW4
  have b4 : Below w3.heap.size w3 W4 := by rw [HW4.out]; exact below_row ((Below.refl _ _).alloc (Nat.le_refl _) _) (Nat.le_refl _) _
  have R7 : Hid (Rw W4 w3.heap.size 37 (vwC V.d.c (.slice oa V.d.out.length oc) (.slice ma V.ls.length mc))) := by
    show Rw _ _ _ _
    rw [HW4.out]
    exact Rw.row (cs := (vwC celZ (.slice none 0 0) (.slice none 0 0))) (by repeat (first | exact Rw.new _ _ _ (by first | rfl | (simp; done) | omega | (simp; omega)) | refine Rw.alloc ?_ _)) _
  have V7 : Hid (VwR (w.heap.size + 2) W4 (.slice oa V.d.out.length oc) (.slice ma V.ls.length mc) V) := by
    show VwR _ _ _ _ _
    rw [HW4.out]
    exact (HV3.out.low (by omega)).fresh _ _
  have z4 := b4.size
  clear HW4
  have R0' := Lib.hid (R0.out.up b4 R0.out.lt)
  have R1' := Lib.hid (R1.out.up b4 R1.out.lt)
  have HB' := Lib.hid (HB.out.trans (b4.mono HB.out.size))
  clear b4 HB R0 R1
  have R0 := R0'
  clear R0'
  have R1 := R1'
  clear R1'
  have HB := HB'
  clear HB'
  clear HV3
  have s0 := R0.out.cell (j := 0) (v := .slice pa S.parts.length pc) rfl
  have s1 := R0.out.cell (j := 1) (v := .slice ka S.chans.length kc) rfl
  have s2 := R0.out.cell (j := 2) (v := .slice sa S.slots.length sc) rfl
  have t0 := R1.out.cell (j := 0) (v := .int .i64 D.tick) rfl
  have t1 := R1.out.cell (j := 1) (v := .slice ua D.cells.length uc) rfl
  have t2 := R1.out.cell (j := 2) (v := .slice la D.lines.length lc) rfl
  go_wp2_with fail
  refine (HCW.out _ (HS.out.up HB.out) (HW.out.up HB.out)).mono ?_
  rintro e w5 ⟨rfl, b5⟩
  have z5 := b5.size
  clear s0 s1 s2 t0 t1 t2
  have V7' := Lib.hid (V7.out.up b5)
  have R0' := Lib.hid (R0.out.up b5 R0.out.lt)
  have R1' := Lib.hid (R1.out.up b5 R1.out.lt)
  have R7' := Lib.hid (R7.out.up b5 R7.out.lt)
  have HB' := Lib.hid (HB.out.trans (b5.mono HB.out.size))
  clear b5 HB V7 R0 R1 R7
  have V7 := V7'
  clear V7'
  have R0 := R0'
  clear R0'
  have R1 := R1'
  clear R1'
  have R7 := R7'
  clear R7'
  have HB := HB'
  clear HB'
  by_cases hc : c0 = 0
  · subst hc
    have HTH' := Lib.hid (HTH.out (HVG.out rfl))
    clear HTH HVG HVB
    have HTH := HTH'
    clear HTH'
    have s0 := R0.out.cell (j := 0) (v := .slice pa S.parts.length pc) rfl
    have s1 := R0.out.cell (j := 1) (v := .slice ka S.chans.length kc) rfl
    have s2 := R0.out.cell (j := 2) (v := .slice sa S.slots.length sc) rfl
    go_wp2_with fail
    refine (HTH.out _ (HS.out.up HB.out)).mono ?_
    rintro e w6 ⟨rfl, b6⟩
    have z6 := b6.size
    clear s0 s1 s2
    have V7' := Lib.hid (V7.out.up b6)
    have R0' := Lib.hid (R0.out.up b6 R0.out.lt)
    have R1' := Lib.hid (R1.out.up b6 R1.out.lt)
    have R7' := Lib.hid (R7.out.up b6 R7.out.lt)
    have HB' := Lib.hid (HB.out.trans (b6.mono HB.out.size))
    clear b6 HB V7 R0 R1 R7
    have V7 := V7'
    clear V7'
    have R0 := R0'
    clear R0'
    have R1 := R1'
    clear R1'
    have R7 := R7'
    clear R7'
    have HB := HB'
    clear HB'
    go_upto_region 6 with fail
    generalize hY : World.alloc _ _ = Y
    have b6 : Below w6.heap.size w6 Y := by rw [← hY]; exact (Below.refl _ _).alloc (Nat.le_refl _) _
    have R10 : Hid (Rw Y w6.heap.size 37 (vwC celZ (.slice none 0 0) (.slice none 0 0))) := by
      show Rw _ _ _ _
      rw [← hY]
      exact Rw.new _ _ _ rfl
    have zY : Y.heap.size = w6.heap.size + 1 := by rw [← hY]; simp
    have VP := V7
    have RP := R7
    have BP := Lib.hid b6
    clear hY
    have V7' := Lib.hid (V7.out.up b6)
    have R0' := Lib.hid (R0.out.up b6 R0.out.lt)
    have R1' := Lib.hid (R1.out.up b6 R1.out.lt)
    have R7' := Lib.hid (R7.out.up b6 R7.out.lt)
    have HB' := Lib.hid (HB.out.trans (b6.mono HB.out.size))
    clear b6 HB V7 R0 R1 R7
    have V7 := V7'
    clear V7'
    have R0 := R0'
    clear R0'
    have R1 := R1'
    clear R1'
    have R7 := R7'
    clear R7'
    have HB := HB'
    clear HB'
    by_cases h0 : v0 = 0
    · subst h0
      obtain ⟨hcc, pn, rfl, hpn⟩ := HVP.out rfl
      have HRF := Lib.hid fun w hS hW => viewOfRef_any S D pn hcc hpn (.slice pa S.parts.length pc) (.slice ka S.chans.length kc) (.slice sa S.slots.length sc) (.slice ua D.cells.length uc) (.slice la D.lines.length lc) w hS hW V HVR.out
      clear hcc hpn HVP HVZ V7 R7
      have s0 := R0.out.cell (j := 0) (v := .slice pa S.parts.length pc) rfl
      have s1 := R0.out.cell (j := 1) (v := .slice ka S.chans.length kc) rfl
      have s2 := R0.out.cell (j := 2) (v := .slice sa S.slots.length sc) rfl
      have t0 := R1.out.cell (j := 0) (v := .int .i64 D.tick) rfl
      have t1 := R1.out.cell (j := 1) (v := .slice ua D.cells.length uc) rfl
      have t2 := R1.out.cell (j := 2) (v := .slice la D.lines.length lc) rfl
      go_wp2_with fail
      refine (HRF.out _ (HS.out.up HB.out) (HW.out.up HB.out)).mono ?_
      rintro e w7 ⟨o2, l2, rfl, hV7, b7⟩
      obtain ⟨ra, rc, rfl⟩ := hV7.so.form
      obtain ⟨na, nc, rfl⟩ := hV7.l.form
      have HV7 := Lib.hid hV7
      have BP' := Lib.hid (BP.out.trans (b7.mono BP.out.size))
      clear hV7 s0 s1 s2 t0 t1 t2 BP R0 R1
      have BP := BP'
      clear BP'
      have R10' := Lib.hid (R10.out.up b7 R10.out.lt)
      have HB' := Lib.hid (HB.out.trans (b7.mono HB.out.size))
      clear b7 HB R10
      have R10 := R10'
      clear R10'
      have HB := HB'
      clear HB'
      go_wp2_with (refine wpList_store_rowW rfl 37 (.tmp 10) (.tmp 31) rfl w6.heap.size (vwC V.d.c (.slice ra V.d.out.length rc) (.slice na V.ls.length nc)) rfl rfl 37 _ R10.out sizeView rfl (vwC_one _ _ _ rfl rfl) ?_)
      intro W8 HW8
      have q10 : Hid (Rw W8 w6.heap.size 37 (vwC V.d.c (.slice ra V.d.out.length rc) (.slice na V.ls.length nc))) := Lib.hid (by rw [HW8.out]; exact R10.out.row _)
      have V10 : Hid (VwR Y.heap.size W8 (.slice ra V.d.out.length rc) (.slice na V.ls.length nc) V) := Lib.hid (by rw [HW8.out]; exact HV7.out.row (by omega) _)
      have BP' : Hid (Below w6.heap.size w6 W8) := Lib.hid (by rw [HW8.out]; exact below_row BP.out (Nat.le_refl _) _)
      have HB' : Hid (Below w.heap.size w W8) := Lib.hid (by rw [HW8.out]; exact below_row HB.out (by have := RP.out.lt; omega) _)
      have V7 := Lib.hid (VP.out.up BP'.out)
      have R7 := Lib.hid (RP.out.up BP'.out RP.out.lt)
      clear R10 HW8 HV7 BP HB VP RP
      have R10 := q10
      have HB := HB'
      clear q10 HB' BP'
      go_wp2_with fail
      refine (viewBegun_any _ (HE.out.up HB.out)).mono ?_
      rintro e f1 ⟨rfl, bb⟩
      have V7' := Lib.hid (V7.out.up bb)
      have V10' := Lib.hid (V10.out.up bb)
      have R7' := Lib.hid (R7.out.up bb R7.out.lt)
      have R10' := Lib.hid (R10.out.up bb R10.out.lt)
      have HB' := Lib.hid (HB.out.trans (bb.mono HB.out.size))
      clear bb HB V7 V10 R7 R10
      have V7 := V7'
      clear V7'
      have V10 := V10'
      clear V10'
      have R7 := R7'
      clear R7'
      have R10 := R10'
      clear R10'
      have HB := HB'
      clear HB'
      go_wp2_with (first | (refine loadRowG rfl 37 (.tmp 7) rfl w3.heap.size rfl 37 _ (0, 0) _ R7.out Tryz.underlying37 rfl sizeView ?_) | (refine loadRowG rfl 37 (.tmp 10) rfl w6.heap.size rfl 37 _ (0, 0) _ R10.out Tryz.underlying37 rfl sizeView ?_))
      refine (sameViews_yes V HSV.out.o HSV.out.l HSV.out.n _ _ _ _ _ _ _ V7.out V10.out).mono ?_
      rintro e f2 ⟨rfl, bb⟩
      have HB' := Lib.hid (HB.out.trans (bb.mono HB.out.size))
      clear bb HB 
      have HB := HB'
      clear HB'
      go_wp2
      go_ret
      exact ⟨rfl, HB.out⟩
    · have e1 := HVZ.out h0
      subst e1
      have V10 := Lib.hid (VwR.nil 0 Y)
      clear R0 R1 VP RP BP HVP HVZ
      go_wp2_with fail
      refine (viewBegun_any _ (HE.out.up HB.out)).mono ?_
      rintro e f1 ⟨rfl, bb⟩
      have V7' := Lib.hid (V7.out.up bb)
      have V10' := Lib.hid (V10.out.up bb)
      have R7' := Lib.hid (R7.out.up bb R7.out.lt)
      have R10' := Lib.hid (R10.out.up bb R10.out.lt)
      have HB' := Lib.hid (HB.out.trans (bb.mono HB.out.size))
      clear bb HB V7 V10 R7 R10
      have V7 := V7'
      clear V7'
      have V10 := V10'
      clear V10'
      have R7 := R7'
      clear R7'
      have R10 := R10'
      clear R10'
      have HB := HB'
      clear HB'
      go_wp2_with (first | (refine loadRowG rfl 37 (.tmp 7) rfl w3.heap.size rfl 37 _ (0, 0) _ R7.out Tryz.underlying37 rfl sizeView ?_) | (refine loadRowG rfl 37 (.tmp 10) rfl w6.heap.size rfl 37 _ (0, 0) _ R10.out Tryz.underlying37 rfl sizeView ?_))
      refine (sameViews_yes viwZ HSV.out.o HSV.out.l HSV.out.n _ _ _ _ _ _ _ V7.out V10.out).mono ?_
      rintro e f2 ⟨rfl, bb⟩
      have HB' := Lib.hid (HB.out.trans (bb.mono HB.out.size))
      clear bb HB 
      have HB := HB'
      clear HB'
      go_wp2
      go_ret
      exact ⟨rfl, HB.out⟩
  · have e1 := HVB.out hc
    subst e1
    clear HTH HVG HVB
    go_upto_region 6 with fail
    generalize hY : World.alloc _ _ = Y
    have b6 : Below w5.heap.size w5 Y := by rw [← hY]; exact (Below.refl _ _).alloc (Nat.le_refl _) _
    have R10 : Hid (Rw Y w5.heap.size 37 (vwC celZ (.slice none 0 0) (.slice none 0 0))) := by
      show Rw _ _ _ _
      rw [← hY]
      exact Rw.new _ _ _ rfl
    have zY : Y.heap.size = w5.heap.size + 1 := by rw [← hY]; simp
    have VP := V7
    have RP := R7
    have BP := Lib.hid b6
    clear hY
    have V7' := Lib.hid (V7.out.up b6)
    have R0' := Lib.hid (R0.out.up b6 R0.out.lt)
    have R1' := Lib.hid (R1.out.up b6 R1.out.lt)
    have R7' := Lib.hid (R7.out.up b6 R7.out.lt)
    have HB' := Lib.hid (HB.out.trans (b6.mono HB.out.size))
    clear b6 HB V7 R0 R1 R7
    have V7 := V7'
    clear V7'
    have R0 := R0'
    clear R0'
    have R1 := R1'
    clear R1'
    have R7 := R7'
    clear R7'
    have HB := HB'
    clear HB'
    have h0 := hc
    · have e1 := HVZ.out h0
      subst e1
      have V10 := Lib.hid (VwR.nil 0 Y)
      clear R0 R1 VP RP BP HVP HVZ
      go_wp2_with fail
      refine (viewBegun_any _ (HE.out.up HB.out)).mono ?_
      rintro e f1 ⟨rfl, bb⟩
      have V7' := Lib.hid (V7.out.up bb)
      have V10' := Lib.hid (V10.out.up bb)
      have R7' := Lib.hid (R7.out.up bb R7.out.lt)
      have R10' := Lib.hid (R10.out.up bb R10.out.lt)
      have HB' := Lib.hid (HB.out.trans (bb.mono HB.out.size))
      clear bb HB V7 V10 R7 R10
      have V7 := V7'
      clear V7'
      have V10 := V10'
      clear V10'
      have R7 := R7'
      clear R7'
      have R10 := R10'
      clear R10'
      have HB := HB'
      clear HB'
      go_wp2_with (first | (refine loadRowG rfl 37 (.tmp 7) rfl w3.heap.size rfl 37 _ (0, 0) _ R7.out Tryz.underlying37 rfl sizeView ?_) | (refine loadRowG rfl 37 (.tmp 10) rfl w5.heap.size rfl 37 _ (0, 0) _ R10.out Tryz.underlying37 rfl sizeView ?_))
      refine (sameViews_yes viwZ HSV.out.o HSV.out.l HSV.out.n _ _ _ _ _ _ _ V7.out V10.out).mono ?_
      rintro e f2 ⟨rfl, bb⟩
      have HB' := Lib.hid (HB.out.trans (bb.mono HB.out.size))
      clear bb HB 
      have HB := HB'
      clear HB'
      go_wp2
      go_ret
      exact ⟨rfl, HB.out⟩
end Go.Proofs.YtehhhiodfcdnmaaGreatDoor

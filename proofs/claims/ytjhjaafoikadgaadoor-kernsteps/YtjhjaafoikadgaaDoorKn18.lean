/- KernSteps, KernRuns. -/
import Derived.Test.YtjhjaafoikadgaaDoorKn13
import Derived.Test.YtjhjaafoikadgaaDoorKn16
import Derived.Test.YtjhjaafoikadgaaDoorKn17
namespace Go.Proofs.YtjhjaafoikadgaaDoor
set_option linter.unusedSimpArgs false
set_option linter.unusedVariables false
open Go.RowKit Go.Sort

theorem small_right {S : SysD} {D : WldD} (hk : chkS S = 0) (hR : Right S D) : WSmall D := by
  obtain ⟨h1, h2⟩ := countsS hk
  have hlc := cellsB_len hR.c
  have hll := linesB_len hR.l
  refine ⟨by omega, by omega, fun k h => ?_, fun k h => ?_⟩
  · have := ((fine_iff _ _).1 (celB_is (cellsB_at hR.c k (by omega) h)).1).2.2.2.2.2.2
    omega
  · have := chkL_zero (linesB_at hR.l k (by omega) h)
    omega
theorem small_nil : WSmall wldZ := ⟨by decide, by decide, fun k h => by simp [wldZ] at h, fun k h => by simp [wldZ] at h⟩
theorem small_step (S : SysD) (D : WldD) : WSmall (stepR S D) := by
  unfold stepR
  split
  · rename_i h
    obtain ⟨h1, h2, h3⟩ := stepW_zero h
    exact small_right h1 (next_right h1 h2 h3).1
  · exact small_nil
theorem small_run (S : SysD) (n : Int) : WSmall (runR S n) := by
  unfold runR
  split
  · rename_i h
    obtain ⟨h1, h2, h3⟩ := runE_zero h
    exact small_right h1 (runN_right h1 n.toNat (begin_right h1) (by show (0 : Int) + (n.toNat : Int) ≤ 300; omega)).1
  · exact small_nil
theorem stepW_of {S : SysD} {D : WldD} (c : Int) (h : chkW S D = c) : stepW S D = if c ≠ 0 then c else if D.tick = 300 then 3 else 0 := by
  unfold stepW
  rw [h]
set_option maxRecDepth 100000 in
set_option maxHeartbeats 8000000 in
theorem kernSteps_any (S : SysD) (hok : S.ok) (D : WldD) (vp vc vs uc ul : Value) (w : World) (he : Env w) (hS : Sys w vp vc vs S) (hW : Wld w uc ul D) :
    Calls Tryd.prog 4 #[.agg #[vp, vc, vs], .agg #[.int .i64 D.tick, uc, ul]] w fun e w' => e = .returned (.bool true) ∧ Below w.heap.size w w' := by
  obtain ⟨pa, pc, rfl⟩ := hS.p.form
  obtain ⟨ka, kc, rfl⟩ := hS.c.form
  obtain ⟨sa, sc, rfl⟩ := hS.s.form
  obtain ⟨ua, uc, rfl⟩ := hW.c.form
  obtain ⟨la, lc, rfl⟩ := hW.l.form
  obtain ⟨v0, hv0⟩ : ∃ v0, stepW S D = v0 := ⟨_, rfl⟩
  obtain ⟨D', hD'⟩ : ∃ D', stepR S D = D' := ⟨_, rfl⟩
  obtain ⟨c0, hc0⟩ : ∃ c0, chkW S D = c0 := ⟨_, rfl⟩
  have HST := Lib.hid fun w he hS hW => kernStep_any S D (.slice pa S.parts.length pc) (.slice ka S.chans.length kc) (.slice sa S.slots.length sc) (.slice ua D.cells.length uc) (.slice la D.lines.length lc) w he hS hW v0 hv0 D' hD'
  have HCW := Lib.hid fun w hS hW => checkWorld_any S hok D (.slice pa S.parts.length pc) (.slice ka S.chans.length kc) (.slice sa S.slots.length sc) (.slice ua D.cells.length uc) (.slice la D.lines.length lc) w hS hW c0 hc0
  have hsm := small_step S D
  rw [hD'] at hsm
  have hw := stepW_of c0 hc0
  rw [hv0] at hw
  have HHW := Lib.hid hw
  have HSM := Lib.hid hsm
  clear hw hsm
  have HV := Lib.hid hv0
  have HDD := Lib.hid hD'
  have HCC := Lib.hid hc0
  have HE := Lib.hid he
  have HS := Lib.hid hS
  have HW := Lib.hid hW
  clear he hS hW hok hv0 hD' hc0
  go_enter Tryd.func4, Tryd.ntmps4
  go_wp2_with fail
  refine (HST.out _ (HE.out.up (by repeat (first | exact Below.refl _ _ | assumption | refine Below.drew ?_ | refine Below.alloc ?_ (by first | (simp; done) | (simp; omega)) _ | refine Below.setCell ?_ (by first | (simp; done) | (simp; omega)) _))) (HS.out.up (by repeat (first | exact Below.refl _ _ | assumption | refine Below.drew ?_ | refine Below.alloc ?_ (by first | (simp; done) | (simp; omega)) _ | refine Below.setCell ?_ (by first | (simp; done) | (simp; omega)) _))) (HW.out.up (by repeat (first | exact Below.refl _ _ | assumption | refine Below.drew ?_ | refine Below.alloc ?_ (by first | (simp; done) | (simp; omega)) _ | refine Below.setCell ?_ (by first | (simp; done) | (simp; omega)) _)))).mono ?_
  rintro e w1 ⟨xc, xl, rfl, hN, b1⟩
  obtain ⟨a5, c5, rfl⟩ := hN.wld.c.form
  obtain ⟨a6, c6, rfl⟩ := hN.wld.l.form
  have z1 := b1.size
  simp at z1
  have R0 : Hid (Rw w1 w.heap.size 26 #[.slice pa S.parts.length pc, .slice ka S.chans.length kc, .slice sa S.slots.length sc]) := Rw.up (by repeat (first | exact Rw.new _ _ _ (by first | rfl | (simp; done) | omega | (simp; omega)) | refine Rw.alloc ?_ _)) b1 (by first | omega | (simp; done) | (simp; omega))
  have R1 : Hid (Rw w1 (w.heap.size + 1) 30 #[.int .i64 D.tick, .slice ua D.cells.length uc, .slice la D.lines.length lc]) := Rw.up (by repeat (first | exact Rw.new _ _ _ (by first | rfl | (simp; done) | omega | (simp; omega)) | refine Rw.alloc ?_ _)) b1 (by first | omega | (simp; done) | (simp; omega))
  have HB : Hid (Below w.heap.size w w1) := by
    refine Below.trans ?_ (b1.mono (by first | omega | (simp; done) | (simp; omega)))
    exact (by repeat (first | exact Below.refl _ _ | assumption | refine Below.drew ?_ | refine Below.alloc ?_ (by first | (simp; done) | (simp; omega)) _ | refine Below.setCell ?_ (by first | (simp; done) | (simp; omega)) _))
  have HN := Lib.hid hN
  clear b1 HST hN
  go_wp2_with (refine wpList_store_rowW rfl 30 (.tmp 5) (.tmp 13) rfl w1.heap.size #[.int .i64 D'.tick, .slice a5 D'.cells.length c5, .slice a6 D'.lines.length c6] rfl rfl 30 #[.int .i64 0, .slice none 0 0, .slice none 0 0] (by repeat (first | exact Rw.new _ _ _ (by first | rfl | (simp; done) | omega | (simp; omega)) | refine Rw.alloc ?_ _)) sizeWld rfl (world_one _ _ _ _ _ _ _) ?_)
  intro W2 HW2
  have b2 : Below w1.heap.size w1 W2 := by rw [HW2.out]; exact below_row ((Below.refl _ _).alloc (Nat.le_refl _) _) (Nat.le_refl _) _
  have R5 : Hid (Rw W2 w1.heap.size 30 #[.int .i64 D'.tick, .slice a5 D'.cells.length c5, .slice a6 D'.lines.length c6]) := by
    show Rw _ _ _ _
    rw [HW2.out]
    exact Rw.row (cs := #[.int .i64 0, .slice none 0 0, .slice none 0 0]) (by repeat (first | exact Rw.new _ _ _ (by first | rfl | (simp; done) | omega | (simp; omega)) | refine Rw.alloc ?_ _)) _
  have N5 : Hid (Wld W2 (.slice a5 D'.cells.length c5) (.slice a6 D'.lines.length c6) D') := by
    show Wld _ _ _ _
    rw [HW2.out]
    exact (HN.out.fresh _ _).wld
  have z2 := b2.size
  have HE2 := Lib.hid (HE.out.up (HB.out.trans (b2.mono (by omega))))
  have HD2 := Lib.hid (HB.out.trans (b2.mono (by omega)))
  have r0 := R0.out.up b2 (by omega)
  have r1 := R1.out.up b2 (by omega)
  have s0 := r0.cell (j := 0) (v := .slice pa S.parts.length pc) rfl
  have s1 := r0.cell (j := 1) (v := .slice ka S.chans.length kc) rfl
  have s2 := r0.cell (j := 2) (v := .slice sa S.slots.length sc) rfl
  have q0 := r1.cell (j := 0) (v := .int .i64 D.tick) rfl
  have q1 := r1.cell (j := 1) (v := .slice ua D.cells.length uc) rfl
  have q2 := r1.cell (j := 2) (v := .slice la D.lines.length lc) rfl
  have R0 := Lib.hid r0
  have R1 := Lib.hid r1
  clear HW2 b2 HN r0 r1 HB
  go_wp2_with fail
  refine (HCW.out _ (HS.out.up HD2.out) (HW.out.up HD2.out)).mono ?_
  rintro e w3 ⟨rfl, b3⟩
  have z3 := b3.size
  have R5 := Lib.hid (R5.out.up b3 R5.out.lt)
  have N5 := Lib.hid (N5.out.up b3)
  have HEx := Lib.hid (HE2.out.up b3)
  have HDx := Lib.hid (HD2.out.trans (b3.mono (by omega)))
  have r0 := R0.out.up b3 R0.out.lt
  have r1 := R1.out.up b3 R1.out.lt
  have R0 := Lib.hid r0
  have R1 := Lib.hid r1
  have q0' := r1.cell (j := 0) (v := .int .i64 D.tick) rfl
  have HS3 := Lib.hid (HS.out.up HDx.out)
  have HW3 := Lib.hid (HW.out.up HDx.out)
  clear b3 HCW s0 s1 s2 q0 q1 q2 r0 r1 HE2 HD2 HE
  have hw := HHW.out
  have hsm := HSM.out
  clear HHW HSM
  by_cases h0 : c0 = 0
  · subst h0
    rw [if_neg (by simp)] at hw
    by_cases ht : D.tick = 300
    · rw [if_pos ht] at hw
      subst hw
      have hz : wldZ = D' := by rw [← HDD.out, stepR, if_neg (by rw [HV.out]; decide)]
      subst hz
      have ht' : (D.tick == 300) = true := by simpa using ht
      have hvv3 : ((3 : Int) == 3) = true := rfl
      clear ht hsm HV HDD HCC
      have SM := Lib.hid small_nil
      have HE := HEx
      have HD := HDx
      go_upto_region 6 with fail
      generalize hWe : World.alloc _ _ = W4
      have b4 : Below w3.heap.size w3 W4 := by rw [← hWe]; exact (Below.refl _ _).alloc (Nat.le_refl _) _
      have R8 : Hid (Rw W4 w3.heap.size 30 #[.int .i64 0, .slice none 0 0, .slice none 0 0]) := by
        show Rw _ _ _ _
        rw [← hWe]
        exact (by repeat (first | exact Rw.new _ _ _ (by first | rfl | (simp; done) | omega | (simp; omega)) | refine Rw.alloc ?_ _))
      have z3 := HD.out.size
      have R5 := Lib.hid (R5.out.up b4 R5.out.lt)
      have N5 := Lib.hid (N5.out.up b4)
      have N8 := Lib.hid (WldF.nil 0 W4).wld
      have HE := Lib.hid (HE.out.up b4)
      have HD := Lib.hid (HD.out.trans (b4.mono z3))
      clear hWe b4 HEx HDx
      have hvv : ((3 : Int) == (3 : Int)) = true := by simp
      go_wp2_with fail
      refine (kernBegun_any _ HE.out).mono ?_
      rintro e wk ⟨rfl, bk⟩
      have r5 := R5.out.up bk R5.out.lt
      have r8 := R8.out.up bk R8.out.lt
      have n5 := Lib.hid (N5.out.up bk)
      have n8 := Lib.hid (N8.out.up bk)
      have zk := HD.out.size
      have hd := Lib.hid (HD.out.trans (bk.mono zk))
      have zk2 := hd.out.size
      have p0 := r5.cell (j := 0) (v := .int .i64 0) rfl
      have p1 := r5.cell (j := 1) (v := .slice a5 0 c5) rfl
      have p2 := r5.cell (j := 2) (v := .slice a6 0 c6) rfl
      have q0 := r8.cell (j := 0) (v := .int .i64 0) rfl
      have q1 := r8.cell (j := 1) (v := .slice none 0 0) rfl
      have q2 := r8.cell (j := 2) (v := .slice none 0 0) rfl
      clear bk R5 R8 N5 N8 HE HD r5 r8
      go_wp2_with fail
      refine (sameWorlds_yes wldZ SM.out _ _ _ _ _ n5.out n8.out).mono ?_
      rintro e wz ⟨rfl, bz⟩
      have HZ := Lib.hid (hd.out.trans (bz.mono zk2))
      clear bz n5 n8 hd
      go_wp2
      go_ret
      exact ⟨rfl, HZ.out⟩
    · rw [if_neg ht] at hw
      subst hw
      have hz : nextC S D = D' := by rw [← HDD.out, stepR, if_pos HV.out]
      have ht' : (D.tick == 300) = false := by simpa using ht
      obtain ⟨hk, hR, hlt⟩ := stepW_zero HV.out
      have HT := Lib.hid (next_right hk hR hlt).2
      have HKS := Lib.hid fun w hS hW => kernStepRef_any S D (.slice pa S.parts.length pc) (.slice ka S.chans.length kc) (.slice sa S.slots.length sc) (.slice ua D.cells.length uc) (.slice la D.lines.length lc) w hS hW hk hR.t0 hlt hR.c hR.l
      rw [hz] at HT
      rw [hz] at HKS
      have SM := Lib.hid hsm
      have s0 := R0.out.cell (j := 0) (v := .slice pa S.parts.length pc) rfl
      have s1 := R0.out.cell (j := 1) (v := .slice ka S.chans.length kc) rfl
      have s2 := R0.out.cell (j := 2) (v := .slice sa S.slots.length sc) rfl
      have q1 := R1.out.cell (j := 1) (v := .slice ua D.cells.length uc) rfl
      have q2 := R1.out.cell (j := 2) (v := .slice la D.lines.length lc) rfl
      clear ht hsm HV HDD HCC hz hk hR hlt
      go_upto_region 6 with fail
      generalize hWe : World.alloc _ _ = W4
      have b4 : Below w3.heap.size w3 W4 := by rw [← hWe]; exact (Below.refl _ _).alloc (Nat.le_refl _) _
      have R8 : Hid (Rw W4 w3.heap.size 30 #[.int .i64 0, .slice none 0 0, .slice none 0 0]) := by
        show Rw _ _ _ _
        rw [← hWe]
        exact (by repeat (first | exact Rw.new _ _ _ (by first | rfl | (simp; done) | omega | (simp; omega)) | refine Rw.alloc ?_ _))
      have s0 := bcl b4 R0.out.lt s0
      have s1 := bcl b4 R0.out.lt s1
      have s2 := bcl b4 R0.out.lt s2
      have q0 := bcl b4 R1.out.lt q0'
      have q1 := bcl b4 R1.out.lt q1
      have q2 := bcl b4 R1.out.lt q2
      have zd := HDx.out.size
      have B4 := Lib.hid b4
      have HS4 := Lib.hid (HS3.out.up b4)
      have HW4 := Lib.hid (HW3.out.up b4)
      have z4 := R8.out.lt
      clear hWe b4 HS3 HW3 q0'
      go_wp2_with fail
      refine (HKS.out _ HS4.out HW4.out).mono ?_
      rintro e w5 ⟨yc, yl, rfl, hN, b5⟩
      obtain ⟨a7, c7, rfl⟩ := hN.wld.c.form
      obtain ⟨a8, c8, rfl⟩ := hN.wld.l.form
      have z5 := b5.size
      have R8' := Lib.hid (R8.out.up b5 R8.out.lt)
      have HN := Lib.hid hN
      have B5 := Lib.hid b5
      clear b5 hN R8 s0 s1 s2 q0 q1 q2
      go_wp2_with (refine wpList_store_rowW rfl 30 (.tmp 8) (.tmp 29) rfl w3.heap.size #[.int .i64 (D.tick + 1), .slice a7 D'.cells.length c7, .slice a8 D'.lines.length c8] rfl rfl 30 #[.int .i64 0, .slice none 0 0, .slice none 0 0] R8'.out sizeWld rfl (world_one _ _ _ _ _ _ _) ?_)
      intro W6 HW6
      have R8 : Hid (Rw W6 w3.heap.size 30 #[.int .i64 D'.tick, .slice a7 D'.cells.length c7, .slice a8 D'.lines.length c8]) := by
        show Rw _ _ _ _
        rw [HW6.out, HT.out]
        exact R8'.out.row _
      have N8 : Hid (Wld W6 (.slice a7 D'.cells.length c7) (.slice a8 D'.lines.length c8) D') := by
        show Wld _ _ _ _
        rw [HW6.out]
        exact (HN.out.row (by omega) _).wld
      have bb : Below w3.heap.size w3 W6 := by
        rw [HW6.out]
        exact below_row (B4.out.trans (B5.out.mono (by omega))) (Nat.le_refl _) _
      have R5 := Lib.hid (R5.out.up bb R5.out.lt)
      have N5 := Lib.hid (N5.out.up bb)
      have HE := Lib.hid (HEx.out.up bb)
      have HD := Lib.hid (HDx.out.trans (bb.mono zd))
      clear HW6 HN R8' bb B4 B5 HEx HDx
      have hvv : ((0 : Int) == (0 : Int)) = true := by simp
      go_wp2_with fail
      refine (kernBegun_any _ HE.out).mono ?_
      rintro e wk ⟨rfl, bk⟩
      have r5 := R5.out.up bk R5.out.lt
      have r8 := R8.out.up bk R8.out.lt
      have n5 := Lib.hid (N5.out.up bk)
      have n8 := Lib.hid (N8.out.up bk)
      have zk := HD.out.size
      have hd := Lib.hid (HD.out.trans (bk.mono zk))
      have zk2 := hd.out.size
      have p0 := r5.cell (j := 0) (v := .int .i64 D'.tick) rfl
      have p1 := r5.cell (j := 1) (v := .slice a5 D'.cells.length c5) rfl
      have p2 := r5.cell (j := 2) (v := .slice a6 D'.lines.length c6) rfl
      have q0 := r8.cell (j := 0) (v := .int .i64 D'.tick) rfl
      have q1 := r8.cell (j := 1) (v := .slice a7 D'.cells.length c7) rfl
      have q2 := r8.cell (j := 2) (v := .slice a8 D'.lines.length c8) rfl
      clear bk R5 R8 N5 N8 HE HD r5 r8
      go_wp2_with fail
      refine (sameWorlds_yes D' SM.out _ _ _ _ _ n5.out n8.out).mono ?_
      rintro e wz ⟨rfl, bz⟩
      have HZ := Lib.hid (hd.out.trans (bz.mono zk2))
      clear bz n5 n8 hd
      go_wp2
      go_ret
      exact ⟨rfl, HZ.out⟩
  · rw [if_pos h0] at hw
    subst hw
    have hz : wldZ = D' := by rw [← HDD.out, stepR, if_neg (by rw [HV.out]; exact h0)]
    subst hz
    have h0' : (v0 == 0) = false := by simpa using h0
    clear h0 hsm HV HDD HCC q0'
    have SM := Lib.hid small_nil
    have HE := HEx
    have HD := HDx
    go_upto_region 6 with fail
    generalize hWe : World.alloc _ _ = W4
    have b4 : Below w3.heap.size w3 W4 := by rw [← hWe]; exact (Below.refl _ _).alloc (Nat.le_refl _) _
    have R8 : Hid (Rw W4 w3.heap.size 30 #[.int .i64 0, .slice none 0 0, .slice none 0 0]) := by
      show Rw _ _ _ _
      rw [← hWe]
      exact (by repeat (first | exact Rw.new _ _ _ (by first | rfl | (simp; done) | omega | (simp; omega)) | refine Rw.alloc ?_ _))
    have z3 := HD.out.size
    have R5 := Lib.hid (R5.out.up b4 R5.out.lt)
    have N5 := Lib.hid (N5.out.up b4)
    have N8 := Lib.hid (WldF.nil 0 W4).wld
    have HE := Lib.hid (HE.out.up b4)
    have HD := Lib.hid (HD.out.trans (b4.mono z3))
    clear hWe b4 HEx HDx
    have hvv : (v0 == v0) = true := by simp
    go_wp2_with fail
    refine (kernBegun_any _ HE.out).mono ?_
    rintro e wk ⟨rfl, bk⟩
    have r5 := R5.out.up bk R5.out.lt
    have r8 := R8.out.up bk R8.out.lt
    have n5 := Lib.hid (N5.out.up bk)
    have n8 := Lib.hid (N8.out.up bk)
    have zk := HD.out.size
    have hd := Lib.hid (HD.out.trans (bk.mono zk))
    have zk2 := hd.out.size
    have p0 := r5.cell (j := 0) (v := .int .i64 0) rfl
    have p1 := r5.cell (j := 1) (v := .slice a5 0 c5) rfl
    have p2 := r5.cell (j := 2) (v := .slice a6 0 c6) rfl
    have q0 := r8.cell (j := 0) (v := .int .i64 0) rfl
    have q1 := r8.cell (j := 1) (v := .slice none 0 0) rfl
    have q2 := r8.cell (j := 2) (v := .slice none 0 0) rfl
    clear bk R5 R8 N5 N8 HE HD r5 r8
    go_wp2_with fail
    refine (sameWorlds_yes wldZ SM.out _ _ _ _ _ n5.out n8.out).mono ?_
    rintro e wz ⟨rfl, bz⟩
    have HZ := Lib.hid (hd.out.trans (bz.mono zk2))
    clear bz n5 n8 hd
    go_wp2
    go_ret
    exact ⟨rfl, HZ.out⟩
set_option maxRecDepth 100000 in
set_option maxHeartbeats 8000000 in
theorem kernRuns_any (S : SysD) (hok : S.ok) (n : Int) (vp vc vs : Value) (w : World) (he : Env w) (hS : Sys w vp vc vs S) :
    Calls Tryd.prog 5 #[.agg #[vp, vc, vs], .int .i64 n] w fun e w' => e = .returned (.bool true) ∧ Below w.heap.size w w' := by
  obtain ⟨pa, pc, rfl⟩ := hS.p.form
  obtain ⟨ka, kc, rfl⟩ := hS.c.form
  obtain ⟨sa, sc, rfl⟩ := hS.s.form
  obtain ⟨v0, hv0⟩ : ∃ v0, runE S n = v0 := ⟨_, rfl⟩
  obtain ⟨D', hD'⟩ : ∃ D', runR S n = D' := ⟨_, rfl⟩
  obtain ⟨c0, hc0⟩ : ∃ c0, chkS S = c0 := ⟨_, rfl⟩
  have HST := Lib.hid fun w he hS => kernRun_any S n (.slice pa S.parts.length pc) (.slice ka S.chans.length kc) (.slice sa S.slots.length sc) w he hS v0 hv0 D' hD'
  have HCW := Lib.hid fun w hS => sysRef_any S hok (.slice pa S.parts.length pc) (.slice ka S.chans.length kc) (.slice sa S.slots.length sc) w hS
  rw [hc0] at HCW
  have hsm := small_run S n
  rw [hD'] at hsm
  have hw : runE S n = if c0 ≠ 0 then c0 else if withinB n 0 300 then 0 else 3 := by unfold runE; rw [hc0]
  rw [hv0] at hw
  have HHW := Lib.hid hw
  have HSM := Lib.hid hsm
  clear hw hsm
  have HV := Lib.hid hv0
  have HDD := Lib.hid hD'
  have HE := Lib.hid he
  have HS := Lib.hid hS
  clear he hS hok hv0 hD' hc0
  go_enter Tryd.func5, Tryd.ntmps5
  go_wp2_with fail
  refine (HST.out _ (HE.out.up (by repeat (first | exact Below.refl _ _ | assumption | refine Below.drew ?_ | refine Below.alloc ?_ (by first | (simp; done) | (simp; omega)) _ | refine Below.setCell ?_ (by first | (simp; done) | (simp; omega)) _))) (HS.out.up (by repeat (first | exact Below.refl _ _ | assumption | refine Below.drew ?_ | refine Below.alloc ?_ (by first | (simp; done) | (simp; omega)) _ | refine Below.setCell ?_ (by first | (simp; done) | (simp; omega)) _)))).mono ?_
  rintro e w1 ⟨xc, xl, rfl, hN, b1⟩
  obtain ⟨a5, c5, rfl⟩ := hN.wld.c.form
  obtain ⟨a6, c6, rfl⟩ := hN.wld.l.form
  have z1 := b1.size
  simp at z1
  have R0 : Hid (Rw w1 w.heap.size 26 #[.slice pa S.parts.length pc, .slice ka S.chans.length kc, .slice sa S.slots.length sc]) := Rw.up (by repeat (first | exact Rw.new _ _ _ (by first | rfl | (simp; done) | omega | (simp; omega)) | refine Rw.alloc ?_ _)) b1 (by first | omega | (simp; done) | (simp; omega))
  have HB : Hid (Below w.heap.size w w1) := by
    refine Below.trans ?_ (b1.mono (by first | omega | (simp; done) | (simp; omega)))
    exact (by repeat (first | exact Below.refl _ _ | assumption | refine Below.drew ?_ | refine Below.alloc ?_ (by first | (simp; done) | (simp; omega)) _ | refine Below.setCell ?_ (by first | (simp; done) | (simp; omega)) _))
  have HN := Lib.hid hN
  clear b1 HST hN
  go_wp2_with (refine wpList_store_rowW rfl 30 (.tmp 5) (.tmp 13) rfl w1.heap.size #[.int .i64 D'.tick, .slice a5 D'.cells.length c5, .slice a6 D'.lines.length c6] rfl rfl 30 #[.int .i64 0, .slice none 0 0, .slice none 0 0] (by repeat (first | exact Rw.new _ _ _ (by first | rfl | (simp; done) | omega | (simp; omega)) | refine Rw.alloc ?_ _)) sizeWld rfl (world_one _ _ _ _ _ _ _) ?_)
  intro W2 HW2
  have b2 : Below w1.heap.size w1 W2 := by rw [HW2.out]; exact below_row ((Below.refl _ _).alloc (Nat.le_refl _) _) (Nat.le_refl _) _
  have R5 : Hid (Rw W2 w1.heap.size 30 #[.int .i64 D'.tick, .slice a5 D'.cells.length c5, .slice a6 D'.lines.length c6]) := by
    show Rw _ _ _ _
    rw [HW2.out]
    exact Rw.row (cs := #[.int .i64 0, .slice none 0 0, .slice none 0 0]) (by repeat (first | exact Rw.new _ _ _ (by first | rfl | (simp; done) | omega | (simp; omega)) | refine Rw.alloc ?_ _)) _
  have N5 : Hid (Wld W2 (.slice a5 D'.cells.length c5) (.slice a6 D'.lines.length c6) D') := by
    show Wld _ _ _ _
    rw [HW2.out]
    exact (HN.out.fresh _ _).wld
  have z2 := b2.size
  have HE2 := Lib.hid (HE.out.up (HB.out.trans (b2.mono (by omega))))
  have HD2 := Lib.hid (HB.out.trans (b2.mono (by omega)))
  have r0 := R0.out.up b2 (by omega)
  have s0 := r0.cell (j := 0) (v := .slice pa S.parts.length pc) rfl
  have s1 := r0.cell (j := 1) (v := .slice ka S.chans.length kc) rfl
  have s2 := r0.cell (j := 2) (v := .slice sa S.slots.length sc) rfl
  have R0 := Lib.hid r0
  clear HW2 b2 HN r0 HB
  go_wp2_with fail
  refine (HCW.out _ (HS.out.up HD2.out)).mono ?_
  rintro e w3 ⟨rfl, b3⟩
  have z3 := b3.size
  have R5 := Lib.hid (R5.out.up b3 R5.out.lt)
  have N5 := Lib.hid (N5.out.up b3)
  have HEx := Lib.hid (HE2.out.up b3)
  have HDx := Lib.hid (HD2.out.trans (b3.mono (by omega)))
  have r0 := R0.out.up b3 R0.out.lt
  have R0 := Lib.hid r0
  have HS3 := Lib.hid (HS.out.up HDx.out)
  clear b3 HCW s0 s1 s2 r0 HE2 HD2 HE
  have hw := HHW.out
  have hsm := HSM.out
  clear HHW HSM
  by_cases h0 : c0 = 0
  · subst h0
    rw [if_neg (by simp)] at hw
    by_cases hn : withinB n 0 300 = true
    · rw [if_pos hn] at hw
      subst hw
      obtain ⟨hk, hn0, hn1⟩ := runE_zero HV.out
      obtain ⟨m, rfl⟩ := Int.eq_ofNat_of_zero_le hn0
      have hz : runN S m (beginC S) = D' := by rw [← HDD.out, runR, if_pos HV.out, Int.toNat_natCast]
      have g1 : decide ((m : Int) < 0) = false := by simp
      have g2 : decide ((300 : Int) < m) = false := by simp; omega
      have g1' : ¬ ((m : Int) < 0) := by omega
      have g2' : ¬ ((300 : Int) < m) := by omega
      have HKS := Lib.hid fun w hS => runOf_any S m (by omega) (.slice pa S.parts.length pc) (.slice ka S.chans.length kc) (.slice sa S.slots.length sc) w hS hk D' hz
      have SM := Lib.hid hsm
      have s0 := R0.out.cell (j := 0) (v := .slice pa S.parts.length pc) rfl
      have s1 := R0.out.cell (j := 1) (v := .slice ka S.chans.length kc) rfl
      have s2 := R0.out.cell (j := 2) (v := .slice sa S.slots.length sc) rfl
      clear hn hsm HV HDD hz hk hn0 hn1
      go_upto_region 6 with fail
      generalize hWe : World.alloc _ _ = W4
      have b4 : Below w3.heap.size w3 W4 := by rw [← hWe]; exact (Below.refl _ _).alloc (Nat.le_refl _) _
      have R8 : Hid (Rw W4 w3.heap.size 30 #[.int .i64 0, .slice none 0 0, .slice none 0 0]) := by
        show Rw _ _ _ _
        rw [← hWe]
        exact (by repeat (first | exact Rw.new _ _ _ (by first | rfl | (simp; done) | omega | (simp; omega)) | refine Rw.alloc ?_ _))
      have s0 := bcl b4 R0.out.lt s0
      have s1 := bcl b4 R0.out.lt s1
      have s2 := bcl b4 R0.out.lt s2
      have zd := HDx.out.size
      have B4 := Lib.hid b4
      have HS4 := Lib.hid (HS3.out.up b4)
      have z4 := R8.out.lt
      clear hWe b4 HS3
      go_wp2_with fail
      refine (HKS.out _ HS4.out).mono ?_
      rintro e w5 ⟨yc, yl, rfl, hN, b5⟩
      obtain ⟨a7, c7, rfl⟩ := hN.wld.c.form
      obtain ⟨a8, c8, rfl⟩ := hN.wld.l.form
      have z5 := b5.size
      have R8' := Lib.hid (R8.out.up b5 R8.out.lt)
      have HN := Lib.hid hN
      have B5 := Lib.hid b5
      clear b5 hN R8 s0 s1 s2
      go_wp2_with (refine wpList_store_rowW rfl 30 (.tmp 8) (.tmp 31) rfl w3.heap.size #[.int .i64 D'.tick, .slice a7 D'.cells.length c7, .slice a8 D'.lines.length c8] rfl rfl 30 #[.int .i64 0, .slice none 0 0, .slice none 0 0] R8'.out sizeWld rfl (world_one _ _ _ _ _ _ _) ?_)
      intro W6 HW6
      have R8 : Hid (Rw W6 w3.heap.size 30 #[.int .i64 D'.tick, .slice a7 D'.cells.length c7, .slice a8 D'.lines.length c8]) := by
        show Rw _ _ _ _
        rw [HW6.out]
        exact R8'.out.row _
      have N8 : Hid (Wld W6 (.slice a7 D'.cells.length c7) (.slice a8 D'.lines.length c8) D') := by
        show Wld _ _ _ _
        rw [HW6.out]
        exact (HN.out.row (by omega) _).wld
      have bb : Below w3.heap.size w3 W6 := by
        rw [HW6.out]
        exact below_row (B4.out.trans (B5.out.mono (by omega))) (Nat.le_refl _) _
      have R5 := Lib.hid (R5.out.up bb R5.out.lt)
      have N5 := Lib.hid (N5.out.up bb)
      have HE := Lib.hid (HEx.out.up bb)
      have HD := Lib.hid (HDx.out.trans (bb.mono zd))
      clear HW6 HN R8' bb B4 B5 HEx HDx
      have hvv : ((0 : Int) == (0 : Int)) = true := by simp
      go_wp2_with fail
      refine (kernBegun_any _ HE.out).mono ?_
      rintro e wk ⟨rfl, bk⟩
      have r5 := R5.out.up bk R5.out.lt
      have r8 := R8.out.up bk R8.out.lt
      have n5 := Lib.hid (N5.out.up bk)
      have n8 := Lib.hid (N8.out.up bk)
      have zk := HD.out.size
      have hd := Lib.hid (HD.out.trans (bk.mono zk))
      have zk2 := hd.out.size
      have p0 := r5.cell (j := 0) (v := .int .i64 D'.tick) rfl
      have p1 := r5.cell (j := 1) (v := .slice a5 D'.cells.length c5) rfl
      have p2 := r5.cell (j := 2) (v := .slice a6 D'.lines.length c6) rfl
      have q0 := r8.cell (j := 0) (v := .int .i64 D'.tick) rfl
      have q1 := r8.cell (j := 1) (v := .slice a7 D'.cells.length c7) rfl
      have q2 := r8.cell (j := 2) (v := .slice a8 D'.lines.length c8) rfl
      clear bk R5 R8 N5 N8 HE HD r5 r8
      go_wp2_with fail
      refine (sameWorlds_yes D' SM.out _ _ _ _ _ n5.out n8.out).mono ?_
      rintro e wz ⟨rfl, bz⟩
      have HZ := Lib.hid (hd.out.trans (bz.mono zk2))
      clear bz n5 n8 hd
      go_wp2
      go_ret
      exact ⟨rfl, HZ.out⟩
    · rw [if_neg hn] at hw
      subst hw
      have hz : wldZ = D' := by rw [← HDD.out, runR, if_neg (by rw [HV.out]; decide)]
      subst hz
      by_cases hn0 : n < 0
      · have g1 : decide ((n : Int) < 0) = true := by simpa using hn0
        clear hn hsm HV HDD
        have SM := Lib.hid small_nil
        have HE := HEx
        have HD := HDx
        go_upto_region 6 with fail
        generalize hWe : World.alloc _ _ = W4
        have b4 : Below w3.heap.size w3 W4 := by rw [← hWe]; exact (Below.refl _ _).alloc (Nat.le_refl _) _
        have R8 : Hid (Rw W4 w3.heap.size 30 #[.int .i64 0, .slice none 0 0, .slice none 0 0]) := by
          show Rw _ _ _ _
          rw [← hWe]
          exact (by repeat (first | exact Rw.new _ _ _ (by first | rfl | (simp; done) | omega | (simp; omega)) | refine Rw.alloc ?_ _))
        have z3 := HD.out.size
        have R5 := Lib.hid (R5.out.up b4 R5.out.lt)
        have N5 := Lib.hid (N5.out.up b4)
        have N8 := Lib.hid (WldF.nil 0 W4).wld
        have HE := Lib.hid (HE.out.up b4)
        have HD := Lib.hid (HD.out.trans (b4.mono z3))
        clear hWe b4 HEx HDx
        have hvv : ((3 : Int) == (3 : Int)) = true := by simp
        go_wp2_with fail
        refine (kernBegun_any _ HE.out).mono ?_
        rintro e wk ⟨rfl, bk⟩
        have r5 := R5.out.up bk R5.out.lt
        have r8 := R8.out.up bk R8.out.lt
        have n5 := Lib.hid (N5.out.up bk)
        have n8 := Lib.hid (N8.out.up bk)
        have zk := HD.out.size
        have hd := Lib.hid (HD.out.trans (bk.mono zk))
        have zk2 := hd.out.size
        have p0 := r5.cell (j := 0) (v := .int .i64 0) rfl
        have p1 := r5.cell (j := 1) (v := .slice a5 0 c5) rfl
        have p2 := r5.cell (j := 2) (v := .slice a6 0 c6) rfl
        have q0 := r8.cell (j := 0) (v := .int .i64 0) rfl
        have q1 := r8.cell (j := 1) (v := .slice none 0 0) rfl
        have q2 := r8.cell (j := 2) (v := .slice none 0 0) rfl
        clear bk R5 R8 N5 N8 HE HD r5 r8
        go_wp2_with fail
        refine (sameWorlds_yes wldZ SM.out _ _ _ _ _ n5.out n8.out).mono ?_
        rintro e wz ⟨rfl, bz⟩
        have HZ := Lib.hid (hd.out.trans (bz.mono zk2))
        clear bz n5 n8 hd
        go_wp2
        go_ret
        exact ⟨rfl, HZ.out⟩
      · have g1 : decide ((n : Int) < 0) = false := by simpa using hn0
        have g2' : (300 : Int) < n := by
          unfold withinB at hn
          simp at hn
          omega
        have g2 : decide ((300 : Int) < n) = true := by simpa using g2'
        clear hn hsm HV HDD
        have SM := Lib.hid small_nil
        have HE := HEx
        have HD := HDx
        go_upto_region 6 with fail
        generalize hWe : World.alloc _ _ = W4
        have b4 : Below w3.heap.size w3 W4 := by rw [← hWe]; exact (Below.refl _ _).alloc (Nat.le_refl _) _
        have R8 : Hid (Rw W4 w3.heap.size 30 #[.int .i64 0, .slice none 0 0, .slice none 0 0]) := by
          show Rw _ _ _ _
          rw [← hWe]
          exact (by repeat (first | exact Rw.new _ _ _ (by first | rfl | (simp; done) | omega | (simp; omega)) | refine Rw.alloc ?_ _))
        have z3 := HD.out.size
        have R5 := Lib.hid (R5.out.up b4 R5.out.lt)
        have N5 := Lib.hid (N5.out.up b4)
        have N8 := Lib.hid (WldF.nil 0 W4).wld
        have HE := Lib.hid (HE.out.up b4)
        have HD := Lib.hid (HD.out.trans (b4.mono z3))
        clear hWe b4 HEx HDx
        have hvv : ((3 : Int) == (3 : Int)) = true := by simp
        go_wp2_with fail
        refine (kernBegun_any _ HE.out).mono ?_
        rintro e wk ⟨rfl, bk⟩
        have r5 := R5.out.up bk R5.out.lt
        have r8 := R8.out.up bk R8.out.lt
        have n5 := Lib.hid (N5.out.up bk)
        have n8 := Lib.hid (N8.out.up bk)
        have zk := HD.out.size
        have hd := Lib.hid (HD.out.trans (bk.mono zk))
        have zk2 := hd.out.size
        have p0 := r5.cell (j := 0) (v := .int .i64 0) rfl
        have p1 := r5.cell (j := 1) (v := .slice a5 0 c5) rfl
        have p2 := r5.cell (j := 2) (v := .slice a6 0 c6) rfl
        have q0 := r8.cell (j := 0) (v := .int .i64 0) rfl
        have q1 := r8.cell (j := 1) (v := .slice none 0 0) rfl
        have q2 := r8.cell (j := 2) (v := .slice none 0 0) rfl
        clear bk R5 R8 N5 N8 HE HD r5 r8
        go_wp2_with fail
        refine (sameWorlds_yes wldZ SM.out _ _ _ _ _ n5.out n8.out).mono ?_
        rintro e wz ⟨rfl, bz⟩
        have HZ := Lib.hid (hd.out.trans (bz.mono zk2))
        clear bz n5 n8 hd
        go_wp2
        go_ret
        exact ⟨rfl, HZ.out⟩
  · rw [if_pos h0] at hw
    subst hw
    have hz : wldZ = D' := by rw [← HDD.out, runR, if_neg (by rw [HV.out]; exact h0)]
    subst hz
    have h0' : (v0 == 0) = false := by simpa using h0
    clear h0 hsm HV HDD
    have SM := Lib.hid small_nil
    have HE := HEx
    have HD := HDx
    go_upto_region 6 with fail
    generalize hWe : World.alloc _ _ = W4
    have b4 : Below w3.heap.size w3 W4 := by rw [← hWe]; exact (Below.refl _ _).alloc (Nat.le_refl _) _
    have R8 : Hid (Rw W4 w3.heap.size 30 #[.int .i64 0, .slice none 0 0, .slice none 0 0]) := by
      show Rw _ _ _ _
      rw [← hWe]
      exact (by repeat (first | exact Rw.new _ _ _ (by first | rfl | (simp; done) | omega | (simp; omega)) | refine Rw.alloc ?_ _))
    have z3 := HD.out.size
    have R5 := Lib.hid (R5.out.up b4 R5.out.lt)
    have N5 := Lib.hid (N5.out.up b4)
    have N8 := Lib.hid (WldF.nil 0 W4).wld
    have HE := Lib.hid (HE.out.up b4)
    have HD := Lib.hid (HD.out.trans (b4.mono z3))
    clear hWe b4 HEx HDx
    have hvv : (v0 == v0) = true := by simp
    go_wp2_with fail
    refine (kernBegun_any _ HE.out).mono ?_
    rintro e wk ⟨rfl, bk⟩
    have r5 := R5.out.up bk R5.out.lt
    have r8 := R8.out.up bk R8.out.lt
    have n5 := Lib.hid (N5.out.up bk)
    have n8 := Lib.hid (N8.out.up bk)
    have zk := HD.out.size
    have hd := Lib.hid (HD.out.trans (bk.mono zk))
    have zk2 := hd.out.size
    have p0 := r5.cell (j := 0) (v := .int .i64 0) rfl
    have p1 := r5.cell (j := 1) (v := .slice a5 0 c5) rfl
    have p2 := r5.cell (j := 2) (v := .slice a6 0 c6) rfl
    have q0 := r8.cell (j := 0) (v := .int .i64 0) rfl
    have q1 := r8.cell (j := 1) (v := .slice none 0 0) rfl
    have q2 := r8.cell (j := 2) (v := .slice none 0 0) rfl
    clear bk R5 R8 N5 N8 HE HD r5 r8
    go_wp2_with fail
    refine (sameWorlds_yes wldZ SM.out _ _ _ _ _ n5.out n8.out).mono ?_
    rintro e wz ⟨rfl, bz⟩
    have HZ := Lib.hid (hd.out.trans (bz.mono zk2))
    clear bz n5 n8 hd
    go_wp2
    go_ret
    exact ⟨rfl, HZ.out⟩
end Go.Proofs.YtjhjaafoikadgaaDoor

/- KernChecks. -/
import Derived.Test.YtjhjaafoikadgaaDoorKn18
namespace Go.Proofs.YtjhjaafoikadgaaDoor
set_option linter.unusedSimpArgs false
set_option linter.unusedVariables false
open Go.RowKit Go.Sort

theorem ent_kernBegun : Enters 12 := enters Tryd.func12 (by kernel_rfl) (by kernel_rfl)
theorem ent_checkWorld : Enters 14 := enters Tryd.func14 (by kernel_rfl) (by kernel_rfl)
theorem ent_sameWorlds : Enters 15 := enters Tryd.func15 (by kernel_rfl) (by kernel_rfl)
theorem sizeSys : (Tryd.prog.info? 26).map (·.size) = some 3 := by kernel_rfl
theorem small_begin (S : SysD) : WSmall (beginR S) := by
  unfold beginR
  split
  · rename_i h
    exact small_right h (begin_right h)
  · exact small_nil
set_option maxRecDepth 100000 in
set_option maxHeartbeats 8000000 in
theorem kernChecks_any (S : SysD) (hok : S.ok) (D : WldD) (vp vc vs uc ul : Value) (w : World) (he : Env w) (hS : Sys w vp vc vs S) (hW : Wld w uc ul D) :
    Calls Tryd.prog 3 #[.agg #[vp, vc, vs], .agg #[.int .i64 D.tick, uc, ul]] w fun e w' => e = .returned (.bool true) ∧ Below w.heap.size w w' := by
  obtain ⟨pa, pc, rfl⟩ := hS.p.form
  obtain ⟨ka, kc, rfl⟩ := hS.c.form
  obtain ⟨sa, sc, rfl⟩ := hS.s.form
  obtain ⟨ua, uc, rfl⟩ := hW.c.form
  obtain ⟨la, lc, rfl⟩ := hW.l.form
  obtain ⟨v0, hv0⟩ : ∃ v0, chkS S = v0 := ⟨_, rfl⟩
  obtain ⟨D', hD'⟩ : ∃ D', beginR S = D' := ⟨_, rfl⟩
  obtain ⟨c0, hc0⟩ : ∃ c0, chkW S D = c0 := ⟨_, rfl⟩
  have HST := Lib.hid fun w he hS => kernBegin_any S (.slice pa S.parts.length pc) (.slice ka S.chans.length kc) (.slice sa S.slots.length sc) w he hS v0 hv0 D' hD'
  have HCS := Lib.hid fun w hS => sysRef_any S hok (.slice pa S.parts.length pc) (.slice ka S.chans.length kc) (.slice sa S.slots.length sc) w hS
  have HCW := Lib.hid fun w hS hW => checkWorld_any S hok D (.slice pa S.parts.length pc) (.slice ka S.chans.length kc) (.slice sa S.slots.length sc) (.slice ua D.cells.length uc) (.slice la D.lines.length lc) w hS hW c0 hc0
  have HCK := Lib.hid fun w he hS hW => kernCheck_any S D (.slice pa S.parts.length pc) (.slice ka S.chans.length kc) (.slice sa S.slots.length sc) (.slice ua D.cells.length uc) (.slice la D.lines.length lc) w he hS hW
  rw [hc0] at HCK
  rw [hv0] at HCS
  have hsm := small_begin S
  rw [hD'] at hsm
  have SM := Lib.hid hsm
  have HV := Lib.hid hv0
  have HDD := Lib.hid hD'
  have HE := Lib.hid he
  have HS := Lib.hid hS
  have HW := Lib.hid hW
  clear he hS hW hok hv0 hD' hc0 hsm
  go_enter Tryd.func3, Tryd.ntmps3
  go_wp2_with fail
  refine (HST.out _ (HE.out.up (by repeat (first | exact Below.refl _ _ | assumption | refine Below.drew ?_ | refine Below.alloc ?_ (by first | (simp; done) | (simp; omega)) _ | refine Below.setCell ?_ (by first | (simp; done) | (simp; omega)) _))) (HS.out.up (by repeat (first | exact Below.refl _ _ | assumption | refine Below.drew ?_ | refine Below.alloc ?_ (by first | (simp; done) | (simp; omega)) _ | refine Below.setCell ?_ (by first | (simp; done) | (simp; omega)) _)))).mono ?_
  rintro e w1 ⟨xc, xl, rfl, hN, b1⟩
  obtain ⟨a5, c5, rfl⟩ := hN.wld.c.form
  obtain ⟨a6, c6, rfl⟩ := hN.wld.l.form
  have z1 := b1.size
  simp at z1
  have R0 : Hid (Rw w1 w.heap.size 26 #[.slice pa S.parts.length pc, .slice ka S.chans.length kc, .slice sa S.slots.length sc]) := Rw.up (by repeat (first | exact Rw.new _ _ _ (by first | rfl | (simp; done) | omega | (simp; omega)) | refine Rw.alloc ?_ _)) b1 (by first | omega | (simp; done) | (simp; omega))
  have R1 : Hid (Rw w1 (w.heap.size + 1) 30 #[.int .i64 D.tick, .slice ua D.cells.length uc, .slice la D.lines.length lc]) := Rw.up (by repeat (first | exact Rw.new _ _ _ (by first | rfl | (simp; done) | omega | (simp; omega)) | refine Rw.alloc ?_ _)) b1 (by first | omega | (simp; done) | (simp; omega))
  have HB : Hid (Below w.heap.size w w1) := by
    refine Below.trans ?_ (b1.mono (by first | omega | (simp; done) | (simp; omega)))
    exact (by repeat (first | exact Below.refl _ _ | assumption | refine Below.drew ?_ | refine Below.alloc ?_ (by first | (simp; done) | (simp; omega)) _ | refine Below.setCell ?_ (by first | (simp; done) | (simp; omega)) _))
  have HN := Lib.hid hN
  clear b1 HST hN
  go_wp2_with (refine wpList_store_rowW rfl 30 (.tmp 5) (.tmp 12) rfl w1.heap.size #[.int .i64 D'.tick, .slice a5 D'.cells.length c5, .slice a6 D'.lines.length c6] rfl rfl 30 #[.int .i64 0, .slice none 0 0, .slice none 0 0] (by repeat (first | exact Rw.new _ _ _ (by first | rfl | (simp; done) | omega | (simp; omega)) | refine Rw.alloc ?_ _)) sizeWld rfl (world_one _ _ _ _ _ _ _) ?_)
  intro W2 HW2
  have b2 : Below w1.heap.size w1 W2 := by rw [HW2.out]; exact below_row ((Below.refl _ _).alloc (Nat.le_refl _) _) (Nat.le_refl _) _
  have R5 : Hid (Rw W2 w1.heap.size 30 #[.int .i64 D'.tick, .slice a5 D'.cells.length c5, .slice a6 D'.lines.length c6]) := by
    show Rw _ _ _ _
    rw [HW2.out]
    exact Rw.row (cs := #[.int .i64 0, .slice none 0 0, .slice none 0 0]) (by repeat (first | exact Rw.new _ _ _ (by first | rfl | (simp; done) | omega | (simp; omega)) | refine Rw.alloc ?_ _)) _
  have N5 : Hid (Wld W2 (.slice a5 D'.cells.length c5) (.slice a6 D'.lines.length c6) D') := by
    show Wld _ _ _ _
    rw [HW2.out]
    exact (HN.out.fresh _ _).wld
  have z2 := b2.size
  have HE2 := Lib.hid (HE.out.up (HB.out.trans (b2.mono (by omega))))
  have HD2 := Lib.hid (HB.out.trans (b2.mono (by omega)))
  have r0 := R0.out.up b2 (by omega)
  have s0 := r0.cell (j := 0) (v := .slice pa S.parts.length pc) rfl
  have s1 := r0.cell (j := 1) (v := .slice ka S.chans.length kc) rfl
  have s2 := r0.cell (j := 2) (v := .slice sa S.slots.length sc) rfl
  have R0 := Lib.hid r0
  have R1 := Lib.hid (R1.out.up b2 (by omega))
  clear HW2 b2 HN r0 HB
  go_wp2_with fail
  refine (HCS.out _ (HS.out.up HD2.out)).mono ?_
  rintro e w3 ⟨rfl, b3⟩
  have z3 := b3.size
  have R5 := Lib.hid (R5.out.up b3 R5.out.lt)
  have N5 := Lib.hid (N5.out.up b3)
  have HEx := Lib.hid (HE2.out.up b3)
  have HDx := Lib.hid (HD2.out.trans (b3.mono (by omega)))
  have r0 := R0.out.up b3 R0.out.lt
  have R0 := Lib.hid r0
  have R1 := Lib.hid (R1.out.up b3 R1.out.lt)
  have zd := HDx.out.size
  clear b3 HCS s0 s1 s2 HE2 HD2 HE r0
  by_cases h0 : v0 = 0
  · subst h0
    obtain rfl : beginC S = D' := by rw [← HDD.out, beginR, if_pos HV.out]
    have HKS := Lib.hid fun w hS => beginOf_any S (.slice pa S.parts.length pc) (.slice ka S.chans.length kc) (.slice sa S.slots.length sc) w hS HV.out
    have s0 := R0.out.cell (j := 0) (v := .slice pa S.parts.length pc) rfl
    have s1 := R0.out.cell (j := 1) (v := .slice ka S.chans.length kc) rfl
    have s2 := R0.out.cell (j := 2) (v := .slice sa S.slots.length sc) rfl
    clear HDD
    go_upto_region 4 with fail
    generalize hWe : World.alloc _ _ = W4
    have b4 : Below w3.heap.size w3 W4 := by rw [← hWe]; exact (Below.refl _ _).alloc (Nat.le_refl _) _
    have R8 : Hid (Rw W4 w3.heap.size 30 #[.int .i64 0, .slice none 0 0, .slice none 0 0]) := by
      show Rw _ _ _ _
      rw [← hWe]
      exact (by repeat (first | exact Rw.new _ _ _ (by first | rfl | (simp; done) | omega | (simp; omega)) | refine Rw.alloc ?_ _))
    have s0 := bcl b4 R0.out.lt s0
    have s1 := bcl b4 R0.out.lt s1
    have s2 := bcl b4 R0.out.lt s2
    have B4 := Lib.hid b4
    have z4 := R8.out.lt
    clear hWe b4
    go_wp2_with fail
    refine (HKS.out _ (HS.out.up (HDx.out.trans (B4.out.mono zd)))).mono ?_
    rintro e w5 ⟨yc, yl, rfl, hN, b5⟩
    obtain ⟨a7, c7, rfl⟩ := hN.wld.c.form
    obtain ⟨a8, c8, rfl⟩ := hN.wld.l.form
    have z5 := b5.size
    have R8' := Lib.hid (R8.out.up b5 R8.out.lt)
    have HN := Lib.hid hN
    have B5 := Lib.hid b5
    clear b5 hN R8 s0 s1 s2
    go_wp2_with (refine wpList_store_rowW rfl 30 (.tmp 8) (.tmp 19) rfl w3.heap.size #[.int .i64 0, .slice a7 (beginC S).cells.length c7, .slice a8 (beginC S).lines.length c8] rfl rfl 30 #[.int .i64 0, .slice none 0 0, .slice none 0 0] R8'.out sizeWld rfl (world_one _ _ _ _ _ _ _) ?_)
    intro W6 HW6
    have R8 : Hid (Rw W6 w3.heap.size 30 #[.int .i64 (beginC S).tick, .slice a7 (beginC S).cells.length c7, .slice a8 (beginC S).lines.length c8]) := by
      show Rw _ _ _ _
      rw [HW6.out]
      exact R8'.out.row _
    have N8 : Hid (Wld W6 (.slice a7 (beginC S).cells.length c7) (.slice a8 (beginC S).lines.length c8) (beginC S)) := by
      show Wld _ _ _ _
      rw [HW6.out]
      exact (HN.out.row (by omega) _).wld
    have bb : Below w3.heap.size w3 W6 := by
      rw [HW6.out]
      exact below_row (B4.out.trans (B5.out.mono (by omega))) (Nat.le_refl _) _
    have R5 := Lib.hid (R5.out.up bb R5.out.lt)
    have R0 := Lib.hid (R0.out.up bb R0.out.lt)
    have R1 := Lib.hid (R1.out.up bb R1.out.lt)
    have N5 := Lib.hid (N5.out.up bb)
    have HE := Lib.hid (HEx.out.up bb)
    have HD := Lib.hid (HDx.out.trans (bb.mono zd))
    have HS6 := Lib.hid (HS.out.up HD.out)
    have HW6 := Lib.hid (HW.out.up HD.out)
    clear HN R8' bb B4 B5 HEx HDx
    have hvv : ((0 : Int) == 0) = true := rfl
    have hcc : (c0 == c0) = true := by simp
    go_upto_region 6 with fail
    refine region_still (S := fun w' => Below W6.heap.size W6 w') 20 (by kernel_rfl) (Below.refl _ _).drew (fun hHeld => ?_)
    refine Still.all (rs := [0]) (by kernel_rfl) (by simp) (Still.one (i := 0) rfl rfl (fun K hK => ?_) (by simp))
    refine wp_call 12 _ _ rfl ent_kernBegun #[] (by first | rfl | simp [Act.eval, Act.put]) ((kernBegun_any _ (HE.out.up hHeld)).mono ?_)
    rintro e V ⟨rfl, bc⟩
    refine ⟨_, rfl, hK _ _ (fun _ => hHeld.trans (bc.mono hHeld.size)) (fun hh => ?_)⟩
    have hHeld := hh (by decide)
    clear hK K hh
    try simp only [Act.put, List.getElem_toArray, List.getElem_cons_zero, List.getElem_cons_succ, List.setIfInBounds_toArray, List.set_cons_zero, List.set_cons_succ]
    clear bc
    refine Still.takeBy (i := 1) [] (v := ?v1001) (by kernel_rfl) (by kernel_rfl) rfl (by kernel_rfl) (by kernel_rfl) (by kernel_rfl) (fun _ _ _ h => h) (Or.inl ⟨by rfl, ?y1001⟩) hHeld ?r1001
    case y1001 => (intro w' hSw; (try dsimp only at hSw); go_simp; try with_reducible rfl)
    simp only [Act.put, List.getElem_toArray, List.getElem_cons_zero, List.getElem_cons_succ, List.setIfInBounds_toArray, List.set_cons_zero, List.set_cons_succ]
    refine Still.takeBy (i := 2) [] (by kernel_rfl) (by kernel_rfl) rfl (by kernel_rfl) (by kernel_rfl) (by kernel_rfl) (fun _ _ _ h => h) (yields_loadG (by rfl) _ _ rfl _ (by first | rfl | simp [Act.eval, Act.put]) _ (fun w' hSw => Rw.loadAt (R0.out.up hSw R0.out.lt) Tryd.underlying26 rfl sizeSys)) hHeld ?r1002
    simp only [Act.put, List.getElem_toArray, List.getElem_cons_zero, List.getElem_cons_succ, List.setIfInBounds_toArray, List.set_cons_zero, List.set_cons_succ]
    refine Still.takeBy (i := 3) [] (by kernel_rfl) (by kernel_rfl) rfl (by kernel_rfl) (by kernel_rfl) (by kernel_rfl) (fun _ _ _ h => h) (yields_loadG (by rfl) _ _ rfl _ (by first | rfl | simp [Act.eval, Act.put]) _ (fun w' hSw => Rw.loadAt (R1.out.up hSw R1.out.lt) Tryd.underlying30 rfl sizeWld)) hHeld ?r1003
    simp only [Act.put, List.getElem_toArray, List.getElem_cons_zero, List.getElem_cons_succ, List.setIfInBounds_toArray, List.set_cons_zero, List.set_cons_succ]
    refine Still.takeBy (i := 5) [] (by kernel_rfl) (by kernel_rfl) rfl (by kernel_rfl) (by kernel_rfl) (by kernel_rfl) (fun _ _ _ h => h) (yields_loadG (by rfl) _ _ rfl _ (by first | rfl | simp [Act.eval, Act.put]) _ (fun w' hSw => Rw.loadAt (R0.out.up hSw R0.out.lt) Tryd.underlying26 rfl sizeSys)) hHeld ?r1004
    simp only [Act.put, List.getElem_toArray, List.getElem_cons_zero, List.getElem_cons_succ, List.setIfInBounds_toArray, List.set_cons_zero, List.set_cons_succ]
    refine Still.takeBy (i := 6) [] (by kernel_rfl) (by kernel_rfl) rfl (by kernel_rfl) (by kernel_rfl) (by kernel_rfl) (fun _ _ _ h => h) (yields_loadG (by rfl) _ _ rfl _ (by first | rfl | simp [Act.eval, Act.put]) _ (fun w' hSw => Rw.loadAt (R1.out.up hSw R1.out.lt) Tryd.underlying30 rfl sizeWld)) hHeld ?r1005
    simp only [Act.put, List.getElem_toArray, List.getElem_cons_zero, List.getElem_cons_succ, List.setIfInBounds_toArray, List.set_cons_zero, List.set_cons_succ]
    refine Still.all (rs := [4]) (by kernel_rfl) (by simp) (Still.oneG (i := 4) rfl (by rfl) (fun K hK => ?_) (by simp))
    refine wp_call 13 _ _ rfl ent_kCheck #[.agg #[.slice pa S.parts.length pc, .slice ka S.chans.length kc, .slice sa S.slots.length sc], .agg #[.int .i64 D.tick, .slice ua D.cells.length uc, .slice la D.lines.length lc]] (by first | rfl | simp [Act.eval, Act.put]) ((HCK.out _ (HE.out.up hHeld) (HS6.out.up hHeld) (HW6.out.up hHeld)).mono ?_)
    rintro e V ⟨rfl, bc⟩
    refine ⟨_, rfl, hK _ _ (fun _ => hHeld.trans (bc.mono hHeld.size)) (fun hh => ?_)⟩
    have hHeld := hh (by decide)
    clear hK K hh
    try simp only [Act.put, List.getElem_toArray, List.getElem_cons_zero, List.getElem_cons_succ, List.setIfInBounds_toArray, List.set_cons_zero, List.set_cons_succ]
    clear bc
    refine Still.all (rs := [7]) (by kernel_rfl) (by simp) (Still.oneG (i := 7) rfl (by rfl) (fun K hK => ?_) (by simp))
    refine wp_call 14 _ _ rfl ent_checkWorld #[.agg #[.slice pa S.parts.length pc, .slice ka S.chans.length kc, .slice sa S.slots.length sc], .agg #[.int .i64 D.tick, .slice ua D.cells.length uc, .slice la D.lines.length lc]] (by first | rfl | simp [Act.eval, Act.put]) ((HCW.out _ (HS6.out.up hHeld) (HW6.out.up hHeld)).mono ?_)
    rintro e V ⟨rfl, bc⟩
    refine ⟨_, rfl, hK _ _ (fun _ => hHeld.trans (bc.mono hHeld.size)) (fun hh => ?_)⟩
    have hHeld := hh (by decide)
    clear hK K hh
    try simp only [Act.put, List.getElem_toArray, List.getElem_cons_zero, List.getElem_cons_succ, List.setIfInBounds_toArray, List.set_cons_zero, List.set_cons_succ]
    clear bc
    refine Still.takeBy (i := 8) [] (v := ?v1101) (by kernel_rfl) (by kernel_rfl) rfl (by kernel_rfl) (by kernel_rfl) (by kernel_rfl) (fun _ _ _ h => h) (Or.inl ⟨by rfl, ?y1101⟩) hHeld ?r1101
    case y1101 => (intro w' hSw; (try dsimp only at hSw); go_simp; try with_reducible rfl)
    simp only [Act.put, List.getElem_toArray, List.getElem_cons_zero, List.getElem_cons_succ, List.setIfInBounds_toArray, List.set_cons_zero, List.set_cons_succ]
    refine Still.takeBy (i := 9) [] (v := ?v1102) (by kernel_rfl) (by kernel_rfl) rfl (by kernel_rfl) (by kernel_rfl) (by kernel_rfl) (fun _ _ _ h => h) (Or.inl ⟨by rfl, ?y1102⟩) hHeld ?r1102
    case y1102 => (intro w' hSw; (try dsimp only at hSw); go_simp; try with_reducible rfl)
    simp only [Act.put, List.getElem_toArray, List.getElem_cons_zero, List.getElem_cons_succ, List.setIfInBounds_toArray, List.set_cons_zero, List.set_cons_succ]
    refine Still.takeBy (i := 10) [] (v := ?v1103) (by kernel_rfl) (by kernel_rfl) rfl (by kernel_rfl) (by kernel_rfl) (by kernel_rfl) (fun _ _ _ h => h) (Or.inl ⟨by rfl, ?y1103⟩) hHeld ?r1103
    case y1103 => (intro w' hSw; (try dsimp only at hSw); go_simp; try with_reducible rfl)
    simp only [Act.put, List.getElem_toArray, List.getElem_cons_zero, List.getElem_cons_succ, List.setIfInBounds_toArray, List.set_cons_zero, List.set_cons_succ]
    refine Still.takeBy (i := 11) [] (v := ?v1104) (by kernel_rfl) (by kernel_rfl) rfl (by kernel_rfl) (by kernel_rfl) (by kernel_rfl) (fun _ _ _ h => h) (Or.inl ⟨by rfl, ?y1104⟩) hHeld ?r1104
    case y1104 => (intro w' hSw; (try dsimp only at hSw); go_simp; try with_reducible rfl)
    simp only [Act.put, List.getElem_toArray, List.getElem_cons_zero, List.getElem_cons_succ, List.setIfInBounds_toArray, List.set_cons_zero, List.set_cons_succ]
    refine Still.takeBy (i := 12) [] (v := ?v1105) (by kernel_rfl) (by kernel_rfl) rfl (by kernel_rfl) (by kernel_rfl) (by kernel_rfl) (fun _ _ _ h => h) (Or.inl ⟨by rfl, ?y1105⟩) hHeld ?r1105
    case y1105 => (intro w' hSw; (try dsimp only at hSw); go_simp; try with_reducible rfl)
    simp only [Act.put, List.getElem_toArray, List.getElem_cons_zero, List.getElem_cons_succ, List.setIfInBounds_toArray, List.set_cons_zero, List.set_cons_succ]
    refine Still.takeBy (i := 13) [] (v := ?v1106) (by kernel_rfl) (by kernel_rfl) rfl (by kernel_rfl) (by kernel_rfl) (by kernel_rfl) (fun _ _ _ h => h) (Or.inl ⟨by rfl, ?y1106⟩) hHeld ?r1106
    case y1106 => (intro w' hSw; (try dsimp only at hSw); go_simp; try with_reducible rfl)
    simp only [Act.put, List.getElem_toArray, List.getElem_cons_zero, List.getElem_cons_succ, List.setIfInBounds_toArray, List.set_cons_zero, List.set_cons_succ]
    refine Still.takeBy (i := 14) [] (v := ?v1107) (by kernel_rfl) (by kernel_rfl) rfl (by kernel_rfl) (by kernel_rfl) (by kernel_rfl) (fun _ _ _ h => h) (Or.inl ⟨by rfl, ?y1107⟩) hHeld ?r1107
    case y1107 => (intro w' hSw; (try dsimp only at hSw); go_simp; try with_reducible rfl)
    simp only [Act.put, List.getElem_toArray, List.getElem_cons_zero, List.getElem_cons_succ, List.setIfInBounds_toArray, List.set_cons_zero, List.set_cons_succ]
    refine Still.takeBy (i := 15) [] (v := ?v1108) (by kernel_rfl) (by kernel_rfl) rfl (by kernel_rfl) (by kernel_rfl) (by kernel_rfl) (fun _ _ _ h => h) (Or.inl ⟨by rfl, ?y1108⟩) hHeld ?r1108
    case y1108 => (intro w' hSw; (try dsimp only at hSw); go_simp; try with_reducible rfl)
    simp only [Act.put, List.getElem_toArray, List.getElem_cons_zero, List.getElem_cons_succ, List.setIfInBounds_toArray, List.set_cons_zero, List.set_cons_succ]
    refine Still.takeBy (i := 16) [] (by kernel_rfl) (by kernel_rfl) rfl (by kernel_rfl) (by kernel_rfl) (by kernel_rfl) (fun _ _ _ h => h) (yields_loadG (by rfl) _ _ rfl _ (by first | rfl | simp [Act.eval, Act.put]) _ (fun w' hSw => Rw.loadAt (R5.out.up hSw R5.out.lt) Tryd.underlying30 rfl sizeWld)) hHeld ?r1109
    simp only [Act.put, List.getElem_toArray, List.getElem_cons_zero, List.getElem_cons_succ, List.setIfInBounds_toArray, List.set_cons_zero, List.set_cons_succ]
    refine Still.takeBy (i := 17) [] (by kernel_rfl) (by kernel_rfl) rfl (by kernel_rfl) (by kernel_rfl) (by kernel_rfl) (fun _ _ _ h => h) (yields_loadG (by rfl) _ _ rfl _ (by first | rfl | simp [Act.eval, Act.put]) _ (fun w' hSw => Rw.loadAt (R8.out.up hSw R8.out.lt) Tryd.underlying30 rfl sizeWld)) hHeld ?r1110
    simp only [Act.put, List.getElem_toArray, List.getElem_cons_zero, List.getElem_cons_succ, List.setIfInBounds_toArray, List.set_cons_zero, List.set_cons_succ]
    refine Still.all (rs := [18]) (by kernel_rfl) (by simp) (Still.oneG (i := 18) rfl (by rfl) (fun K hK => ?_) (by simp))
    refine wp_call 15 _ _ rfl ent_sameWorlds #[.agg #[.int .i64 (beginC S).tick, .slice a5 (beginC S).cells.length c5, .slice a6 (beginC S).lines.length c6], .agg #[.int .i64 (beginC S).tick, .slice a7 (beginC S).cells.length c7, .slice a8 (beginC S).lines.length c8]] (by first | rfl | simp [Act.eval, Act.put]) ((sameWorlds_yes (beginC S) SM.out _ _ _ _ _ (N5.out.up hHeld) (N8.out.up hHeld)).mono ?_)
    rintro e V ⟨rfl, bc⟩
    refine ⟨_, rfl, hK _ _ (fun _ => hHeld.trans (bc.mono hHeld.size)) (fun hh => ?_)⟩
    have hHeld := hh (by decide)
    clear hK K hh
    try simp only [Act.put, List.getElem_toArray, List.getElem_cons_zero, List.getElem_cons_succ, List.setIfInBounds_toArray, List.set_cons_zero, List.set_cons_succ]
    clear bc
    refine Still.takeBy (i := 19) [] (v := ?v1111) (by kernel_rfl) (by kernel_rfl) rfl (by kernel_rfl) (by kernel_rfl) (by kernel_rfl) (fun _ _ _ h => h) (Or.inl ⟨by rfl, ?y1111⟩) hHeld ?r1111
    case y1111 => (intro w' hSw; (try dsimp only at hSw); go_simp; try with_reducible rfl)
    simp only [Act.put, List.getElem_toArray, List.getElem_cons_zero, List.getElem_cons_succ, List.setIfInBounds_toArray, List.set_cons_zero, List.set_cons_succ]
    refine Still.all (rs := [20]) (by kernel_rfl) (by simp) (Still.one (i := 20) rfl rfl (fun K hK => ?_) (by simp))
    go_simp
    refine hK _ _ (fun h => absurd rfl h) (fun _ => ?_)
    clear hK K
    refine Still.over (by kernel_rfl) ?_ _
    go_wp2
    go_ret
    exact ⟨rfl, HD.out.trans (hHeld.mono HD.out.size)⟩
  · have h0' : (v0 == 0) = false := by simpa using h0
    obtain rfl : wldZ = D' := by rw [← HDD.out, beginR, if_neg (by rw [HV.out]; exact h0)]
    clear h0 HDD HV
    go_upto_region 6 with fail
    generalize hWe : World.alloc _ _ = W6
    have bb : Below w3.heap.size w3 W6 := by rw [← hWe]; exact (Below.refl _ _).alloc (Nat.le_refl _) _
    have R8 : Hid (Rw W6 w3.heap.size 30 #[.int .i64 0, .slice none 0 0, .slice none 0 0]) := by
      show Rw _ _ _ _
      rw [← hWe]
      exact (by repeat (first | exact Rw.new _ _ _ (by first | rfl | (simp; done) | omega | (simp; omega)) | refine Rw.alloc ?_ _))
    have N8 := Lib.hid (WldF.nil 0 W6).wld
    have R5 := Lib.hid (R5.out.up bb R5.out.lt)
    have R0 := Lib.hid (R0.out.up bb R0.out.lt)
    have R1 := Lib.hid (R1.out.up bb R1.out.lt)
    have N5 := Lib.hid (N5.out.up bb)
    have HE := Lib.hid (HEx.out.up bb)
    have HD := Lib.hid (HDx.out.trans (bb.mono zd))
    have HS6 := Lib.hid (HS.out.up HD.out)
    have HW6 := Lib.hid (HW.out.up HD.out)
    clear hWe bb HEx HDx
    have hvv : (v0 == v0) = true := by simp
    have hcc : (c0 == c0) = true := by simp
    refine region_still (S := fun w' => Below W6.heap.size W6 w') 20 (by kernel_rfl) (Below.refl _ _).drew (fun hHeld => ?_)
    refine Still.all (rs := [0]) (by kernel_rfl) (by simp) (Still.one (i := 0) rfl rfl (fun K hK => ?_) (by simp))
    refine wp_call 12 _ _ rfl ent_kernBegun #[] (by first | rfl | simp [Act.eval, Act.put]) ((kernBegun_any _ (HE.out.up hHeld)).mono ?_)
    rintro e V ⟨rfl, bc⟩
    refine ⟨_, rfl, hK _ _ (fun _ => hHeld.trans (bc.mono hHeld.size)) (fun hh => ?_)⟩
    have hHeld := hh (by decide)
    clear hK K hh
    try simp only [Act.put, List.getElem_toArray, List.getElem_cons_zero, List.getElem_cons_succ, List.setIfInBounds_toArray, List.set_cons_zero, List.set_cons_succ]
    clear bc
    refine Still.takeBy (i := 1) [] (v := ?v2001) (by kernel_rfl) (by kernel_rfl) rfl (by kernel_rfl) (by kernel_rfl) (by kernel_rfl) (fun _ _ _ h => h) (Or.inl ⟨by rfl, ?y2001⟩) hHeld ?r2001
    case y2001 => (intro w' hSw; (try dsimp only at hSw); go_simp; try with_reducible rfl)
    simp only [Act.put, List.getElem_toArray, List.getElem_cons_zero, List.getElem_cons_succ, List.setIfInBounds_toArray, List.set_cons_zero, List.set_cons_succ]
    refine Still.takeBy (i := 2) [] (by kernel_rfl) (by kernel_rfl) rfl (by kernel_rfl) (by kernel_rfl) (by kernel_rfl) (fun _ _ _ h => h) (yields_loadG (by rfl) _ _ rfl _ (by first | rfl | simp [Act.eval, Act.put]) _ (fun w' hSw => Rw.loadAt (R0.out.up hSw R0.out.lt) Tryd.underlying26 rfl sizeSys)) hHeld ?r2002
    simp only [Act.put, List.getElem_toArray, List.getElem_cons_zero, List.getElem_cons_succ, List.setIfInBounds_toArray, List.set_cons_zero, List.set_cons_succ]
    refine Still.takeBy (i := 3) [] (by kernel_rfl) (by kernel_rfl) rfl (by kernel_rfl) (by kernel_rfl) (by kernel_rfl) (fun _ _ _ h => h) (yields_loadG (by rfl) _ _ rfl _ (by first | rfl | simp [Act.eval, Act.put]) _ (fun w' hSw => Rw.loadAt (R1.out.up hSw R1.out.lt) Tryd.underlying30 rfl sizeWld)) hHeld ?r2003
    simp only [Act.put, List.getElem_toArray, List.getElem_cons_zero, List.getElem_cons_succ, List.setIfInBounds_toArray, List.set_cons_zero, List.set_cons_succ]
    refine Still.takeBy (i := 5) [] (by kernel_rfl) (by kernel_rfl) rfl (by kernel_rfl) (by kernel_rfl) (by kernel_rfl) (fun _ _ _ h => h) (yields_loadG (by rfl) _ _ rfl _ (by first | rfl | simp [Act.eval, Act.put]) _ (fun w' hSw => Rw.loadAt (R0.out.up hSw R0.out.lt) Tryd.underlying26 rfl sizeSys)) hHeld ?r2004
    simp only [Act.put, List.getElem_toArray, List.getElem_cons_zero, List.getElem_cons_succ, List.setIfInBounds_toArray, List.set_cons_zero, List.set_cons_succ]
    refine Still.takeBy (i := 6) [] (by kernel_rfl) (by kernel_rfl) rfl (by kernel_rfl) (by kernel_rfl) (by kernel_rfl) (fun _ _ _ h => h) (yields_loadG (by rfl) _ _ rfl _ (by first | rfl | simp [Act.eval, Act.put]) _ (fun w' hSw => Rw.loadAt (R1.out.up hSw R1.out.lt) Tryd.underlying30 rfl sizeWld)) hHeld ?r2005
    simp only [Act.put, List.getElem_toArray, List.getElem_cons_zero, List.getElem_cons_succ, List.setIfInBounds_toArray, List.set_cons_zero, List.set_cons_succ]
    refine Still.all (rs := [4]) (by kernel_rfl) (by simp) (Still.oneG (i := 4) rfl (by rfl) (fun K hK => ?_) (by simp))
    refine wp_call 13 _ _ rfl ent_kCheck #[.agg #[.slice pa S.parts.length pc, .slice ka S.chans.length kc, .slice sa S.slots.length sc], .agg #[.int .i64 D.tick, .slice ua D.cells.length uc, .slice la D.lines.length lc]] (by first | rfl | simp [Act.eval, Act.put]) ((HCK.out _ (HE.out.up hHeld) (HS6.out.up hHeld) (HW6.out.up hHeld)).mono ?_)
    rintro e V ⟨rfl, bc⟩
    refine ⟨_, rfl, hK _ _ (fun _ => hHeld.trans (bc.mono hHeld.size)) (fun hh => ?_)⟩
    have hHeld := hh (by decide)
    clear hK K hh
    try simp only [Act.put, List.getElem_toArray, List.getElem_cons_zero, List.getElem_cons_succ, List.setIfInBounds_toArray, List.set_cons_zero, List.set_cons_succ]
    clear bc
    refine Still.all (rs := [7]) (by kernel_rfl) (by simp) (Still.oneG (i := 7) rfl (by rfl) (fun K hK => ?_) (by simp))
    refine wp_call 14 _ _ rfl ent_checkWorld #[.agg #[.slice pa S.parts.length pc, .slice ka S.chans.length kc, .slice sa S.slots.length sc], .agg #[.int .i64 D.tick, .slice ua D.cells.length uc, .slice la D.lines.length lc]] (by first | rfl | simp [Act.eval, Act.put]) ((HCW.out _ (HS6.out.up hHeld) (HW6.out.up hHeld)).mono ?_)
    rintro e V ⟨rfl, bc⟩
    refine ⟨_, rfl, hK _ _ (fun _ => hHeld.trans (bc.mono hHeld.size)) (fun hh => ?_)⟩
    have hHeld := hh (by decide)
    clear hK K hh
    try simp only [Act.put, List.getElem_toArray, List.getElem_cons_zero, List.getElem_cons_succ, List.setIfInBounds_toArray, List.set_cons_zero, List.set_cons_succ]
    clear bc
    refine Still.takeBy (i := 8) [] (v := ?v2101) (by kernel_rfl) (by kernel_rfl) rfl (by kernel_rfl) (by kernel_rfl) (by kernel_rfl) (fun _ _ _ h => h) (Or.inl ⟨by rfl, ?y2101⟩) hHeld ?r2101
    case y2101 => (intro w' hSw; (try dsimp only at hSw); go_simp; try with_reducible rfl)
    simp only [Act.put, List.getElem_toArray, List.getElem_cons_zero, List.getElem_cons_succ, List.setIfInBounds_toArray, List.set_cons_zero, List.set_cons_succ]
    refine Still.takeBy (i := 9) [] (v := ?v2102) (by kernel_rfl) (by kernel_rfl) rfl (by kernel_rfl) (by kernel_rfl) (by kernel_rfl) (fun _ _ _ h => h) (Or.inl ⟨by rfl, ?y2102⟩) hHeld ?r2102
    case y2102 => (intro w' hSw; (try dsimp only at hSw); go_simp; try with_reducible rfl)
    simp only [Act.put, List.getElem_toArray, List.getElem_cons_zero, List.getElem_cons_succ, List.setIfInBounds_toArray, List.set_cons_zero, List.set_cons_succ]
    refine Still.takeBy (i := 10) [] (v := ?v2103) (by kernel_rfl) (by kernel_rfl) rfl (by kernel_rfl) (by kernel_rfl) (by kernel_rfl) (fun _ _ _ h => h) (Or.inl ⟨by rfl, ?y2103⟩) hHeld ?r2103
    case y2103 => (intro w' hSw; (try dsimp only at hSw); go_simp; try with_reducible rfl)
    simp only [Act.put, List.getElem_toArray, List.getElem_cons_zero, List.getElem_cons_succ, List.setIfInBounds_toArray, List.set_cons_zero, List.set_cons_succ]
    refine Still.takeBy (i := 11) [] (v := ?v2104) (by kernel_rfl) (by kernel_rfl) rfl (by kernel_rfl) (by kernel_rfl) (by kernel_rfl) (fun _ _ _ h => h) (Or.inl ⟨by rfl, ?y2104⟩) hHeld ?r2104
    case y2104 => (intro w' hSw; (try dsimp only at hSw); go_simp; try with_reducible rfl)
    simp only [Act.put, List.getElem_toArray, List.getElem_cons_zero, List.getElem_cons_succ, List.setIfInBounds_toArray, List.set_cons_zero, List.set_cons_succ]
    refine Still.takeBy (i := 12) [] (v := ?v2105) (by kernel_rfl) (by kernel_rfl) rfl (by kernel_rfl) (by kernel_rfl) (by kernel_rfl) (fun _ _ _ h => h) (Or.inl ⟨by rfl, ?y2105⟩) hHeld ?r2105
    case y2105 => (intro w' hSw; (try dsimp only at hSw); go_simp; try with_reducible rfl)
    simp only [Act.put, List.getElem_toArray, List.getElem_cons_zero, List.getElem_cons_succ, List.setIfInBounds_toArray, List.set_cons_zero, List.set_cons_succ]
    refine Still.takeBy (i := 13) [] (v := ?v2106) (by kernel_rfl) (by kernel_rfl) rfl (by kernel_rfl) (by kernel_rfl) (by kernel_rfl) (fun _ _ _ h => h) (Or.inl ⟨by rfl, ?y2106⟩) hHeld ?r2106
    case y2106 => (intro w' hSw; (try dsimp only at hSw); go_simp; try with_reducible rfl)
    simp only [Act.put, List.getElem_toArray, List.getElem_cons_zero, List.getElem_cons_succ, List.setIfInBounds_toArray, List.set_cons_zero, List.set_cons_succ]
    refine Still.takeBy (i := 14) [] (v := ?v2107) (by kernel_rfl) (by kernel_rfl) rfl (by kernel_rfl) (by kernel_rfl) (by kernel_rfl) (fun _ _ _ h => h) (Or.inl ⟨by rfl, ?y2107⟩) hHeld ?r2107
    case y2107 => (intro w' hSw; (try dsimp only at hSw); go_simp; try with_reducible rfl)
    simp only [Act.put, List.getElem_toArray, List.getElem_cons_zero, List.getElem_cons_succ, List.setIfInBounds_toArray, List.set_cons_zero, List.set_cons_succ]
    refine Still.takeBy (i := 15) [] (v := ?v2108) (by kernel_rfl) (by kernel_rfl) rfl (by kernel_rfl) (by kernel_rfl) (by kernel_rfl) (fun _ _ _ h => h) (Or.inl ⟨by rfl, ?y2108⟩) hHeld ?r2108
    case y2108 => (intro w' hSw; (try dsimp only at hSw); go_simp; try with_reducible rfl)
    simp only [Act.put, List.getElem_toArray, List.getElem_cons_zero, List.getElem_cons_succ, List.setIfInBounds_toArray, List.set_cons_zero, List.set_cons_succ]
    refine Still.takeBy (i := 16) [] (by kernel_rfl) (by kernel_rfl) rfl (by kernel_rfl) (by kernel_rfl) (by kernel_rfl) (fun _ _ _ h => h) (yields_loadG (by rfl) _ _ rfl _ (by first | rfl | simp [Act.eval, Act.put]) _ (fun w' hSw => Rw.loadAt (R5.out.up hSw R5.out.lt) Tryd.underlying30 rfl sizeWld)) hHeld ?r2109
    simp only [Act.put, List.getElem_toArray, List.getElem_cons_zero, List.getElem_cons_succ, List.setIfInBounds_toArray, List.set_cons_zero, List.set_cons_succ]
    refine Still.takeBy (i := 17) [] (by kernel_rfl) (by kernel_rfl) rfl (by kernel_rfl) (by kernel_rfl) (by kernel_rfl) (fun _ _ _ h => h) (yields_loadG (by rfl) _ _ rfl _ (by first | rfl | simp [Act.eval, Act.put]) _ (fun w' hSw => Rw.loadAt (R8.out.up hSw R8.out.lt) Tryd.underlying30 rfl sizeWld)) hHeld ?r2110
    simp only [Act.put, List.getElem_toArray, List.getElem_cons_zero, List.getElem_cons_succ, List.setIfInBounds_toArray, List.set_cons_zero, List.set_cons_succ]
    refine Still.all (rs := [18]) (by kernel_rfl) (by simp) (Still.oneG (i := 18) rfl (by rfl) (fun K hK => ?_) (by simp))
    refine wp_call 15 _ _ rfl ent_sameWorlds #[.agg #[.int .i64 wldZ.tick, .slice a5 wldZ.cells.length c5, .slice a6 wldZ.lines.length c6], .agg #[.int .i64 0, .slice none 0 0, .slice none 0 0]] (by first | rfl | simp [Act.eval, Act.put]) ((sameWorlds_yes wldZ SM.out _ _ _ _ _ (N5.out.up hHeld) (N8.out.up hHeld)).mono ?_)
    rintro e V ⟨rfl, bc⟩
    refine ⟨_, rfl, hK _ _ (fun _ => hHeld.trans (bc.mono hHeld.size)) (fun hh => ?_)⟩
    have hHeld := hh (by decide)
    clear hK K hh
    try simp only [Act.put, List.getElem_toArray, List.getElem_cons_zero, List.getElem_cons_succ, List.setIfInBounds_toArray, List.set_cons_zero, List.set_cons_succ]
    clear bc
    refine Still.takeBy (i := 19) [] (v := ?v2111) (by kernel_rfl) (by kernel_rfl) rfl (by kernel_rfl) (by kernel_rfl) (by kernel_rfl) (fun _ _ _ h => h) (Or.inl ⟨by rfl, ?y2111⟩) hHeld ?r2111
    case y2111 => (intro w' hSw; (try dsimp only at hSw); go_simp; try with_reducible rfl)
    simp only [Act.put, List.getElem_toArray, List.getElem_cons_zero, List.getElem_cons_succ, List.setIfInBounds_toArray, List.set_cons_zero, List.set_cons_succ]
    refine Still.all (rs := [20]) (by kernel_rfl) (by simp) (Still.one (i := 20) rfl rfl (fun K hK => ?_) (by simp))
    go_simp
    refine hK _ _ (fun h => absurd rfl h) (fun _ => ?_)
    clear hK K
    refine Still.over (by kernel_rfl) ?_ _
    go_wp2
    go_ret
    exact ⟨rfl, HD.out.trans (hHeld.mono HD.out.size)⟩
end Go.Proofs.YtjhjaafoikadgaaDoor

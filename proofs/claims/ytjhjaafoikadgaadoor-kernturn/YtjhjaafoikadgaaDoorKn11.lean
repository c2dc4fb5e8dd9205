/- kern.Step and kern.Run. -/
import Derived.Test.YtjhjaafoikadgaaDoorKn10
namespace Go.Proofs.YtjhjaafoikadgaaDoor
set_option linter.unusedSimpArgs false
set_option linter.unusedVariables false
open Go.RowKit Go.Sort

/-- What Step tells, and makes. -/
def stepW (S : SysD) (D : WldD) : Int := if chkW S D ≠ 0 then chkW S D else if D.tick = 300 then 3 else 0
def stepR (S : SysD) (D : WldD) : WldD := if stepW S D = 0 then nextC S D else wldZ
theorem stepW_zero {S : SysD} {D : WldD} (h : stepW S D = 0) : chkS S = 0 ∧ Right S D ∧ D.tick < 300 := by
  unfold stepW at h
  split at h
  · exact absurd h (by assumption)
  · rename_i h1
    split at h
    · omega
    · rename_i h2
      obtain ⟨h3, h4⟩ := chkW_zero (S := S) (D := D) (by simpa using h1)
      have := h4.t1
      exact ⟨h3, h4, by omega⟩
theorem stepW_right {S : SysD} {D : WldD} (hk : chkS S = 0) (h : Right S D) (ht : D.tick < 300) : stepW S D = 0 := by
  unfold stepW
  rw [chkW_right hk h, if_neg (by simp), if_neg (by omega)]
set_option maxRecDepth 100000 in
set_option maxHeartbeats 8000000 in
theorem kernStep_any (S : SysD) (D : WldD) (vp vc vs uc ul : Value) (w : World) (he : Env w) (hS : Sys w vp vc vs S) (hW : Wld w uc ul D) (e0 : Int) (hk : stepW S D = e0) (D' : WldD) (hD : stepR S D = D') :
    Calls Tryd.prog 16 #[.agg #[vp, vc, vs], .agg #[.int .i64 D.tick, uc, ul]] w fun e w' => ∃ xc xl, e = .returned (.tuple #[.agg #[.int .i64 D'.tick, xc, xl], .int .i64 e0]) ∧ WldF w.heap.size w' xc xl D' ∧ Below w.heap.size w w' := by
  obtain ⟨pa, pc, rfl⟩ := hS.p.form
  obtain ⟨ka, kc, rfl⟩ := hS.c.form
  obtain ⟨sa, sc, rfl⟩ := hS.s.form
  obtain ⟨ua, uc, rfl⟩ := hW.c.form
  obtain ⟨la, lc, rfl⟩ := hW.l.form
  have HC := Lib.hid fun w he hS hW => kernCheck_any S D (.slice pa S.parts.length pc) (.slice ka S.chans.length kc) (.slice sa S.slots.length sc) (.slice ua D.cells.length uc) (.slice la D.lines.length lc) w he hS hW
  have HE := Lib.hid he
  have HS := Lib.hid hS
  have HW := Lib.hid hW
  obtain ⟨c0, hc0⟩ : ∃ c0, chkW S D = c0 := ⟨_, rfl⟩
  rw [hc0] at HC
  have HX : Hid (e0 = 0 → next_any = next_any) := Lib.hid (fun _ => rfl)
  clear he hS hW
  by_cases h0 : c0 = 0
  · subst h0
    obtain ⟨hkS, hR⟩ := chkW_zero hc0
    by_cases ht : D.tick = 300
    · have ht' : (D.tick == 300) = true := by simpa using ht
      have hw3 : stepW S D = 3 := by unfold stepW; rw [hc0, if_neg (by simp), if_pos ht]
      obtain rfl : e0 = 3 := by rw [← hk, hw3]
      have HD : Hid (wldZ = D') := by
        show _ = _
        rw [← hD, stepR, if_neg (by rw [hw3]; decide)]
      clear hk hD hw3 hc0 hkS hR ht HX
      go_enter Tryd.func16, Tryd.ntmps16
      go_wp2_with fail
      refine (HC.out _ (HE.out.up (by repeat (first | exact Below.refl _ _ | assumption | refine Below.drew ?_ | refine Below.alloc ?_ (by first | (simp; done) | (simp; omega)) _ | refine Below.setCell ?_ (by first | (simp; done) | (simp; omega)) _))) (HS.out.up (by repeat (first | exact Below.refl _ _ | assumption | refine Below.drew ?_ | refine Below.alloc ?_ (by first | (simp; done) | (simp; omega)) _ | refine Below.setCell ?_ (by first | (simp; done) | (simp; omega)) _))) (HW.out.up (by repeat (first | exact Below.refl _ _ | assumption | refine Below.drew ?_ | refine Below.alloc ?_ (by first | (simp; done) | (simp; omega)) _ | refine Below.setCell ?_ (by first | (simp; done) | (simp; omega)) _)))).mono ?_
      rintro e w1 ⟨rfl, b1⟩
      have z1 := b1.size
      simp at z1
      have R1 : Hid (Rw w1 (w.heap.size + 1) 30 #[.int .i64 D.tick, .slice ua D.cells.length uc, .slice la D.lines.length lc]) := Rw.up (by repeat (first | exact Rw.new _ _ _ (by first | rfl | (simp; done) | omega | (simp; omega)) | refine Rw.alloc ?_ _)) b1 (by first | omega | (simp; done) | (simp; omega))
      have RB : Hid (Rw w1 (w.heap.size + 1 + 1) 30 #[.int .i64 0, .slice none 0 0, .slice none 0 0]) := Rw.up (by repeat (first | exact Rw.new _ _ _ (by first | rfl | (simp; done) | omega | (simp; omega)) | refine Rw.alloc ?_ _)) b1 (by first | omega | (simp; done) | (simp; omega))
      have HB : Hid (Below w.heap.size w w1) := by
        refine Below.trans ?_ (b1.mono (by first | omega | (simp; done) | (simp; omega)))
        exact (by repeat (first | exact Below.refl _ _ | assumption | refine Below.drew ?_ | refine Below.alloc ?_ (by first | (simp; done) | (simp; omega)) _ | refine Below.setCell ?_ (by first | (simp; done) | (simp; omega)) _))
      have q0 := R1.out.cell (j := 0) (v := .int .i64 D.tick) rfl
      clear b1 HC
      go_wp2_with (refine wpList_store_row rfl 30 (.tmp 4) (.tmp 17) rfl (w.heap.size + 1 + 1) #[.int .i64 0, .slice none 0 0, .slice none 0 0] rfl rfl 30 #[.int .i64 0, .slice none 0 0, .slice none 0 0] RB.out sizeWld rfl (world_one _ _ _ _ _ _ _) ?_)
      refine bodyPost_ret (results_row_tmp Tryd.results16 _ _ (w.heap.size + 1 + 1) _ _ rfl rfl (run_loadVar_row _ _ 30 _ #[.int .i64 0, .slice none 0 0, .slice none 0 0] (0, 0) _ (RB.out.row _) Tryd.underlying30 rfl sizeWld)) rfl ⟨.slice none 0 0, .slice none 0 0, by rw [← HD.out]; rfl, by rw [← HD.out]; exact WldF.nil _ _, below_row HB.out (by omega) _⟩
    · have ht' : (D.tick == 300) = false := by simpa using ht
      have hw3 : stepW S D = 0 := by unfold stepW; rw [hc0, if_neg (by simp), if_neg ht]
      obtain rfl : e0 = 0 := by rw [← hk, hw3]
      have HD : Hid (nextC S D = D') := by
        show _ = _
        rw [← hD, stepR, if_pos hw3]
      obtain ⟨hnr, hnt⟩ := next_right hkS hR (by have := hR.t1; omega)
      have HT := Lib.hid hnt
      have HNX := Lib.hid fun w he hS hW => next_any S D (.slice pa S.parts.length pc) (.slice ka S.chans.length kc) (.slice sa S.slots.length sc) (.slice ua D.cells.length uc) (.slice la D.lines.length lc) w he hS hW hkS hR.t0 (by have := hR.t1; omega) hR.c hR.l
      clear hk hD hw3 hc0 hkS hR ht HX hnr hnt
      go_enter Tryd.func16, Tryd.ntmps16
      go_wp2_with fail
      refine (HC.out _ (HE.out.up (by repeat (first | exact Below.refl _ _ | assumption | refine Below.drew ?_ | refine Below.alloc ?_ (by first | (simp; done) | (simp; omega)) _ | refine Below.setCell ?_ (by first | (simp; done) | (simp; omega)) _))) (HS.out.up (by repeat (first | exact Below.refl _ _ | assumption | refine Below.drew ?_ | refine Below.alloc ?_ (by first | (simp; done) | (simp; omega)) _ | refine Below.setCell ?_ (by first | (simp; done) | (simp; omega)) _))) (HW.out.up (by repeat (first | exact Below.refl _ _ | assumption | refine Below.drew ?_ | refine Below.alloc ?_ (by first | (simp; done) | (simp; omega)) _ | refine Below.setCell ?_ (by first | (simp; done) | (simp; omega)) _)))).mono ?_
      rintro e w1 ⟨rfl, b1⟩
      have z1 := b1.size
      simp at z1
      have R0 : Hid (Rw w1 w.heap.size 26 #[.slice pa S.parts.length pc, .slice ka S.chans.length kc, .slice sa S.slots.length sc]) := Rw.up (by repeat (first | exact Rw.new _ _ _ (by first | rfl | (simp; done) | omega | (simp; omega)) | refine Rw.alloc ?_ _)) b1 (by first | omega | (simp; done) | (simp; omega))
      have R1 : Hid (Rw w1 (w.heap.size + 1) 30 #[.int .i64 D.tick, .slice ua D.cells.length uc, .slice la D.lines.length lc]) := Rw.up (by repeat (first | exact Rw.new _ _ _ (by first | rfl | (simp; done) | omega | (simp; omega)) | refine Rw.alloc ?_ _)) b1 (by first | omega | (simp; done) | (simp; omega))
      have RB : Hid (Rw w1 (w.heap.size + 1 + 1) 30 #[.int .i64 0, .slice none 0 0, .slice none 0 0]) := Rw.up (by repeat (first | exact Rw.new _ _ _ (by first | rfl | (simp; done) | omega | (simp; omega)) | refine Rw.alloc ?_ _)) b1 (by first | omega | (simp; done) | (simp; omega))
      have HB : Hid (Below w.heap.size w w1) := by
        refine Below.trans ?_ (b1.mono (by first | omega | (simp; done) | (simp; omega)))
        exact (by repeat (first | exact Below.refl _ _ | assumption | refine Below.drew ?_ | refine Below.alloc ?_ (by first | (simp; done) | (simp; omega)) _ | refine Below.setCell ?_ (by first | (simp; done) | (simp; omega)) _))
      have q0 := R1.out.cell (j := 0) (v := .int .i64 D.tick) rfl
      have q1 := R1.out.cell (j := 1) (v := .slice ua D.cells.length uc) rfl
      have q2 := R1.out.cell (j := 2) (v := .slice la D.lines.length lc) rfl
      have s0 := R0.out.cell (j := 0) (v := .slice pa S.parts.length pc) rfl
      have s1 := R0.out.cell (j := 1) (v := .slice ka S.chans.length kc) rfl
      have s2 := R0.out.cell (j := 2) (v := .slice sa S.slots.length sc) rfl
      clear b1 HC
      go_wp2_with fail
      refine (HNX.out _ (HE.out.up HB.out) (HS.out.up HB.out) (HW.out.up HB.out)).mono ?_
      rintro e w2 ⟨xc, xl, rfl, hN, b2⟩
      obtain ⟨a5, c5, rfl⟩ := hN.wld.c.form
      obtain ⟨a6, c6, rfl⟩ := hN.wld.l.form
      have HN := Lib.hid hN
      have RB2 := Lib.hid (RB.out.up b2 (by omega))
      have HB2 := Lib.hid (HB.out.trans (b2.mono (by omega)))
      clear b2 hN q0 q1 q2 s0 s1 s2 R0 R1 RB HNX
      go_wp2_with (refine wpList_store_row rfl 30 (.tmp 4) (.tmp 20) rfl (w.heap.size + 1 + 1) #[.int .i64 (D.tick + 1), .slice a5 (nextC S D).cells.length c5, .slice a6 (nextC S D).lines.length c6] rfl rfl 30 #[.int .i64 0, .slice none 0 0, .slice none 0 0] RB2.out sizeWld rfl (world_one _ _ _ _ _ _ _) ?_)
      refine bodyPost_ret (results_row_tmp Tryd.results16 _ _ (w.heap.size + 1 + 1) _ _ rfl rfl (run_loadVar_row _ _ 30 _ #[.int .i64 (D.tick + 1), .slice a5 (nextC S D).cells.length c5, .slice a6 (nextC S D).lines.length c6] (0, 0) _ (RB2.out.row _) Tryd.underlying30 rfl sizeWld)) rfl ⟨.slice a5 (nextC S D).cells.length c5, .slice a6 (nextC S D).lines.length c6, by rw [← HD.out, HT.out]; rfl, by rw [← HD.out]; exact (HN.out.row (by omega) _).low (by omega), below_row HB2.out (by omega) _⟩
  · have h0' : (c0 != 0) = true := by simpa using h0
    have hw3 : stepW S D = c0 := by unfold stepW; rw [hc0, if_pos h0]
    obtain rfl : e0 = c0 := by rw [← hk, hw3]
    have HD : Hid (wldZ = D') := by
      show _ = _
      rw [← hD, stepR, if_neg (by rw [hw3]; exact h0)]
    clear hk hD hw3 hc0 h0 HX
    go_enter Tryd.func16, Tryd.ntmps16
    go_wp2_with fail
    refine (HC.out _ (HE.out.up (by repeat (first | exact Below.refl _ _ | assumption | refine Below.drew ?_ | refine Below.alloc ?_ (by first | (simp; done) | (simp; omega)) _ | refine Below.setCell ?_ (by first | (simp; done) | (simp; omega)) _))) (HS.out.up (by repeat (first | exact Below.refl _ _ | assumption | refine Below.drew ?_ | refine Below.alloc ?_ (by first | (simp; done) | (simp; omega)) _ | refine Below.setCell ?_ (by first | (simp; done) | (simp; omega)) _))) (HW.out.up (by repeat (first | exact Below.refl _ _ | assumption | refine Below.drew ?_ | refine Below.alloc ?_ (by first | (simp; done) | (simp; omega)) _ | refine Below.setCell ?_ (by first | (simp; done) | (simp; omega)) _)))).mono ?_
    rintro e w1 ⟨rfl, b1⟩
    have z1 := b1.size
    simp at z1
    have RB : Hid (Rw w1 (w.heap.size + 1 + 1) 30 #[.int .i64 0, .slice none 0 0, .slice none 0 0]) := Rw.up (by repeat (first | exact Rw.new _ _ _ (by first | rfl | (simp; done) | omega | (simp; omega)) | refine Rw.alloc ?_ _)) b1 (by first | omega | (simp; done) | (simp; omega))
    have HB : Hid (Below w.heap.size w w1) := by
      refine Below.trans ?_ (b1.mono (by first | omega | (simp; done) | (simp; omega)))
      exact (by repeat (first | exact Below.refl _ _ | assumption | refine Below.drew ?_ | refine Below.alloc ?_ (by first | (simp; done) | (simp; omega)) _ | refine Below.setCell ?_ (by first | (simp; done) | (simp; omega)) _))
    clear b1 HC
    go_wp2_with (refine wpList_store_row rfl 30 (.tmp 4) (.tmp 12) rfl (w.heap.size + 1 + 1) #[.int .i64 0, .slice none 0 0, .slice none 0 0] rfl rfl 30 #[.int .i64 0, .slice none 0 0, .slice none 0 0] RB.out sizeWld rfl (world_one _ _ _ _ _ _ _) ?_)
    refine bodyPost_ret (results_row_tmp Tryd.results16 _ _ (w.heap.size + 1 + 1) _ _ rfl rfl (run_loadVar_row _ _ 30 _ #[.int .i64 0, .slice none 0 0, .slice none 0 0] (0, 0) _ (RB.out.row _) Tryd.underlying30 rfl sizeWld)) rfl ⟨.slice none 0 0, .slice none 0 0, by rw [← HD.out]; rfl, by rw [← HD.out]; exact WldF.nil _ _, below_row HB.out (by omega) _⟩

/-- What Run tells, and makes. -/
def runE (S : SysD) (n : Int) : Int := if chkS S ≠ 0 then chkS S else if withinB n 0 300 then 0 else 3
def runR (S : SysD) (n : Int) : WldD := if runE S n = 0 then runN S n.toNat (beginC S) else wldZ
theorem runE_zero {S : SysD} {n : Int} (h : runE S n = 0) : chkS S = 0 ∧ 0 ≤ n ∧ n ≤ 300 := by
  unfold runE at h
  split at h
  · exact absurd h (by assumption)
  · rename_i h1
    split at h
    · rename_i h2
      unfold withinB at h2
      rw [Bool.and_eq_true, decide_eq_true_eq, decide_eq_true_eq] at h2
      exact ⟨by simpa using h1, h2⟩
    · omega
theorem runE_right {S : SysD} {n : Int} (hk : chkS S = 0) (h0 : 0 ≤ n) (h1 : n ≤ 300) : runE S n = 0 := by
  unfold runE
  rw [if_neg (by simpa using hk), if_pos]
  unfold withinB
  rw [Bool.and_eq_true, decide_eq_true_eq, decide_eq_true_eq]
  exact ⟨h0, h1⟩
/-- Where Run stands: g the world. -/
structure RnS (w W : World) (g : Nat) (vp vc vs : Value) (D : WldD) : Prop where
  d : Below w.heap.size w W
  r0 : Rw W w.heap.size 26 #[vp, vc, vs]
  rb : Rw W (w.heap.size + 1) 30 #[.int .i64 0, .slice none 0 0, .slice none 0 0]
  r1 : ∃ ua uc la lc, Rw W g 30 #[.int .i64 D.tick, .slice ua D.cells.length uc, .slice la D.lines.length lc] ∧ WldF (w.heap.size + 2) W (.slice ua D.cells.length uc) (.slice la D.lines.length lc) D
  g0 : w.heap.size + 2 ≤ g
set_option maxRecDepth 100000 in
set_option maxHeartbeats 8000000 in
theorem kernRun_any (S : SysD) (n : Int) (vp vc vs : Value) (w : World) (he : Env w) (hS : Sys w vp vc vs S) (e0 : Int) (hk : runE S n = e0) (D' : WldD) (hD : runR S n = D') :
    Calls Tryd.prog 18 #[.agg #[vp, vc, vs], .int .i64 n] w fun e w' => ∃ xc xl, e = .returned (.tuple #[.agg #[.int .i64 D'.tick, xc, xl], .int .i64 e0]) ∧ WldF w.heap.size w' xc xl D' ∧ Below w.heap.size w w' := by
  obtain ⟨pa, pc, rfl⟩ := hS.p.form
  obtain ⟨ka, kc, rfl⟩ := hS.c.form
  obtain ⟨sa, sc, rfl⟩ := hS.s.form
  obtain ⟨c0, hc0⟩ : ∃ c0, chkS S = c0 := ⟨_, rfl⟩
  obtain ⟨B, hB⟩ : ∃ B, beginR S = B := ⟨_, rfl⟩
  have HC := Lib.hid fun w he hS => kernBegin_any S (.slice pa S.parts.length pc) (.slice ka S.chans.length kc) (.slice sa S.slots.length sc) w he hS c0 hc0 B hB
  have HE := Lib.hid he
  have HS := Lib.hid hS
  clear he hS
  by_cases h0 : c0 = 0
  · subst h0
    obtain rfl : beginC S = B := by rw [← hB, beginR, if_pos hc0]
    have HI := Lib.hid fun V => isRun_any n V
    have HRT := Lib.hid (begin_right hc0)
    cases hn : withinB n 0 300
    · have hw3 : runE S n = 3 := by unfold runE; rw [hc0, if_neg (by simp), hn]; rfl
      obtain rfl : e0 = 3 := by rw [← hk, hw3]
      have HD : Hid (wldZ = D') := by
        show _ = _
        rw [← hD, runR, if_neg (by rw [hw3]; decide)]
      rw [hn] at HI
      clear hk hD hw3 hc0 hn hB HRT
      go_enter Tryd.func18, Tryd.ntmps18
      go_wp2_with fail
      refine (HC.out _ (HE.out.up (by repeat (first | exact Below.refl _ _ | assumption | refine Below.drew ?_ | refine Below.alloc ?_ (by first | (simp; done) | (simp; omega)) _ | refine Below.setCell ?_ (by first | (simp; done) | (simp; omega)) _))) (HS.out.up (by repeat (first | exact Below.refl _ _ | assumption | refine Below.drew ?_ | refine Below.alloc ?_ (by first | (simp; done) | (simp; omega)) _ | refine Below.setCell ?_ (by first | (simp; done) | (simp; omega)) _)))).mono ?_
      rintro e w1 ⟨xc, xl, rfl, hN, b1⟩
      obtain ⟨a5, c5, rfl⟩ := hN.wld.c.form
      obtain ⟨a6, c6, rfl⟩ := hN.wld.l.form
      have z1 := b1.size
      simp at z1
      have RB : Hid (Rw w1 (w.heap.size + 1) 30 #[.int .i64 0, .slice none 0 0, .slice none 0 0]) := Rw.up (by repeat (first | exact Rw.new _ _ _ (by first | rfl | (simp; done) | omega | (simp; omega)) | refine Rw.alloc ?_ _)) b1 (by first | omega | (simp; done) | (simp; omega))
      have HB : Hid (Below w.heap.size w w1) := by
        refine Below.trans ?_ (b1.mono (by first | omega | (simp; done) | (simp; omega)))
        exact (by repeat (first | exact Below.refl _ _ | assumption | refine Below.drew ?_ | refine Below.alloc ?_ (by first | (simp; done) | (simp; omega)) _ | refine Below.setCell ?_ (by first | (simp; done) | (simp; omega)) _))
      clear b1 HC hN
      go_wp2_with (refine wpList_store_rowW rfl 30 (.tmp 6) (.tmp 11) rfl w1.heap.size #[.int .i64 (beginC S).tick, .slice a5 (beginC S).cells.length c5, .slice a6 (beginC S).lines.length c6] rfl rfl 30 #[.int .i64 0, .slice none 0 0, .slice none 0 0] (by repeat (first | exact Rw.new _ _ _ (by first | rfl | (simp; done) | omega | (simp; omega)) | refine Rw.alloc ?_ _)) sizeWld rfl (world_one _ _ _ _ _ _ _) ?_)
      intro W HW1
      have RB2 : Hid (Rw W (w.heap.size + 1) 30 #[.int .i64 0, .slice none 0 0, .slice none 0 0]) := by
        show Rw _ _ _ _
        rw [HW1.out]
        exact (RB.out.up ((Below.refl _ _).alloc (Nat.le_refl _) _) (by omega)).row_other _ (by omega)
      have HB2 : Hid (Below w.heap.size w W) := by
        show Below _ _ _
        rw [HW1.out]
        exact below_row (HB.out.alloc (by omega) _) (by omega) _
      clear HW1 RB HB
      go_wp2_with (first | (go_at_call 31; refine (HI.out _).mono ?_; rintro e w2 ⟨rfl, rfl⟩) | (refine wpList_store_row rfl 30 (.tmp 4) (.tmp 20) rfl (w.heap.size + 1) #[.int .i64 0, .slice none 0 0, .slice none 0 0] rfl rfl 30 #[.int .i64 0, .slice none 0 0, .slice none 0 0] RB2.out sizeWld rfl (world_one _ _ _ _ _ _ _) ?_))
      refine bodyPost_ret (results_row_tmp Tryd.results18 _ _ (w.heap.size + 1) _ _ rfl rfl (run_loadVar_row _ _ 30 _ #[.int .i64 0, .slice none 0 0, .slice none 0 0] (0, 0) _ (RB2.out.row _) Tryd.underlying30 rfl sizeWld)) rfl ⟨.slice none 0 0, .slice none 0 0, by rw [← HD.out]; rfl, by rw [← HD.out]; exact WldF.nil _ _, below_row HB2.out (by omega) _⟩
    · have hw3 : runE S n = 0 := by unfold runE; rw [hc0, if_neg (by simp), hn]; rfl
      obtain rfl : e0 = 0 := by rw [← hk, hw3]
      have HD : Hid (runN S n.toNat (beginC S) = D') := by
        show _ = _
        rw [← hD, runR, if_pos hw3]
      obtain ⟨-, hn0, hn1⟩ := runE_zero hw3
      obtain ⟨m, rfl⟩ := Int.eq_ofNat_of_zero_le hn0
      rw [hn] at HI
      have HNX := Lib.hid fun D uc ul w he hS hW hR ht => next_any S D (.slice pa S.parts.length pc) (.slice ka S.chans.length kc) (.slice sa S.slots.length sc) uc ul w he hS hW hc0 (Right.t0 (S := S) hR) ht (Right.c hR) (Right.l hR)
      have HKS := Lib.hid hc0
      clear hk hD hw3 hc0 hn hB
      go_enter Tryd.func18, Tryd.ntmps18
      go_wp2_with fail
      refine (HC.out _ (HE.out.up (by repeat (first | exact Below.refl _ _ | assumption | refine Below.drew ?_ | refine Below.alloc ?_ (by first | (simp; done) | (simp; omega)) _ | refine Below.setCell ?_ (by first | (simp; done) | (simp; omega)) _))) (HS.out.up (by repeat (first | exact Below.refl _ _ | assumption | refine Below.drew ?_ | refine Below.alloc ?_ (by first | (simp; done) | (simp; omega)) _ | refine Below.setCell ?_ (by first | (simp; done) | (simp; omega)) _)))).mono ?_
      rintro e w1 ⟨xc, xl, rfl, hN, b1⟩
      obtain ⟨a5, c5, rfl⟩ := hN.wld.c.form
      obtain ⟨a6, c6, rfl⟩ := hN.wld.l.form
      have z1 := b1.size
      simp at z1
      have R0 : Hid (Rw w1 w.heap.size 26 #[.slice pa S.parts.length pc, .slice ka S.chans.length kc, .slice sa S.slots.length sc]) := Rw.up (by repeat (first | exact Rw.new _ _ _ (by first | rfl | (simp; done) | omega | (simp; omega)) | refine Rw.alloc ?_ _)) b1 (by first | omega | (simp; done) | (simp; omega))
      have RB : Hid (Rw w1 (w.heap.size + 1) 30 #[.int .i64 0, .slice none 0 0, .slice none 0 0]) := Rw.up (by repeat (first | exact Rw.new _ _ _ (by first | rfl | (simp; done) | omega | (simp; omega)) | refine Rw.alloc ?_ _)) b1 (by first | omega | (simp; done) | (simp; omega))
      have HB : Hid (Below w.heap.size w w1) := by
        refine Below.trans ?_ (b1.mono (by first | omega | (simp; done) | (simp; omega)))
        exact (by repeat (first | exact Below.refl _ _ | assumption | refine Below.drew ?_ | refine Below.alloc ?_ (by first | (simp; done) | (simp; omega)) _ | refine Below.setCell ?_ (by first | (simp; done) | (simp; omega)) _))
      have HN := Lib.hid (hN.low (B' := w.heap.size + 2) (by simp))
      clear b1 HC hN
      go_wp2_with (refine wpList_store_rowW rfl 30 (.tmp 6) (.tmp 11) rfl w1.heap.size #[.int .i64 (beginC S).tick, .slice a5 (beginC S).cells.length c5, .slice a6 (beginC S).lines.length c6] rfl rfl 30 #[.int .i64 0, .slice none 0 0, .slice none 0 0] (by repeat (first | exact Rw.new _ _ _ (by first | rfl | (simp; done) | omega | (simp; omega)) | refine Rw.alloc ?_ _)) sizeWld rfl (world_one _ _ _ _ _ _ _) ?_)
      intro W HW1
      have hRn : RnS w W w1.heap.size (.slice pa S.parts.length pc) (.slice ka S.chans.length kc) (.slice sa S.slots.length sc) (beginC S) := by
        rw [HW1.out]
        have hb0 : Below w1.heap.size w1 (w1.alloc (.cells #[.int .i64 0, .slice none 0 0, .slice none 0 0] 30)) := (Below.refl _ _).alloc (Nat.le_refl _) _
        refine ⟨below_row (HB.out.alloc (by omega) _) (by omega) _, (R0.out.up hb0 (by omega)).row_other _ (by omega), (RB.out.up hb0 (by omega)).row_other _ (by omega), ⟨a5, c5, a6, c6, Rw.row (cs := #[.int .i64 0, .slice none 0 0, .slice none 0 0]) (by repeat (first | exact Rw.new _ _ _ (by first | rfl | (simp; done) | omega | (simp; omega)) | refine Rw.alloc ?_ _)) _, HN.out.fresh _ _⟩, by omega⟩
      have RN := Lib.hid hRn
      clear HW1 RB HB R0 hRn HN
      go_wp2_with (go_at_call 31; refine (HI.out _).mono ?_; rintro e w2 ⟨rfl, rfl⟩)
      go_loopw [22] (fun i wr => ∃ k : Nat, i = .int .i64 k ∧ k ≤ m ∧ Hid (RnS w wr w1.heap.size (.slice pa S.parts.length pc) (.slice ka S.chans.length kc) (.slice sa S.slots.length sc) (runN S k (beginC S)))) (fun i _ => m - (intOf i).toNat)
      case atStart => exact ⟨0, rfl, Nat.zero_le _, RN⟩
      case round =>
        obtain ⟨k, rfl, hk, HR⟩ := hrel
        have hR := HR.out
        clear HR RN
        by_cases hlt : k < m
        · have hli : (k : Int) < m := by omega
          obtain ⟨hrt, htk⟩ := runN_right HKS.out k HRT.out (by show (0 : Int) + k ≤ 300; omega)
          have hnr := (next_right HKS.out hrt (by rw [htk]; show (0 : Int) + k < 300; omega)).2
          have hrn := runN_last S k (beginC S)
          have ht : (runN S k (beginC S)).tick < 300 := by rw [htk]; show (0 : Int) + k < 300; omega
          generalize runN S k (beginC S) = D at hR hrt hnr hrn ht
          obtain ⟨ua, uc, la, lc, r1, hwf⟩ := hR.r1
          have q0 := r1.cell (j := 0) (v := .int .i64 D.tick) rfl
          have q1 := r1.cell (j := 1) (v := .slice ua D.cells.length uc) rfl
          have q2 := r1.cell (j := 2) (v := .slice la D.lines.length lc) rfl
          have s0 := hR.r0.cell (j := 0) (v := .slice pa S.parts.length pc) rfl
          have s1 := hR.r0.cell (j := 1) (v := .slice ka S.chans.length kc) rfl
          have s2 := hR.r0.cell (j := 2) (v := .slice sa S.slots.length sc) rfl
          have HR := Lib.hid hR
          have HWF := Lib.hid hwf
          have R1 := Lib.hid r1
          have HRT2 := Lib.hid hrt
          have HNR := Lib.hid hnr
          have HRN := Lib.hid hrn
          clear hR hwf r1 hrt hnr hrn htk
          go_wp2_with fail
          refine (HNX.out D _ _ _ (HE.out.up HR.out.d) (HS.out.up HR.out.d) HWF.out.wld HRT2.out ht).mono ?_
          rintro e w3 ⟨xc, xl, rfl, hN, b3⟩
          obtain ⟨a7, c7, rfl⟩ := hN.wld.c.form
          obtain ⟨a8, c8, rfl⟩ := hN.wld.l.form
          have HN := Lib.hid hN
          have B3 := Lib.hid b3
          clear b3 hN q0 q1 q2 s0 s1 s2
          go_wp2_with (refine wpList_store_rowW rfl 30 (.tmp 6) (.tmp 26) rfl w1.heap.size #[.int .i64 (D.tick + 1), .slice a7 (nextC S D).cells.length c7, .slice a8 (nextC S D).lines.length c8] rfl rfl 30 _ (R1.out.up B3.out R1.out.lt) sizeWld rfl (world_one _ _ _ _ _ _ _) ?_)
          intro W4 HW4
          have RN4 : Hid (RnS w W4 w1.heap.size (.slice pa S.parts.length pc) (.slice ka S.chans.length kc) (.slice sa S.slots.length sc) (nextC S D)) := by
            show RnS _ _ _ _ _ _ _
            rw [HW4.out]
            have hg := HR.out.g0
            have hl1 := R1.out.lt
            have hsz := HR.out.d.size
            refine ⟨below_row (HR.out.d.trans (B3.out.mono hsz)) (by omega) _, (HR.out.r0.up B3.out HR.out.r0.lt).row_other _ (by omega), (HR.out.rb.up B3.out HR.out.rb.lt).row_other _ (by omega), ⟨a7, c7, a8, c8, ?_, (HN.out.row (by omega) _).low (by omega)⟩, hg⟩
            rw [HNR.out]
            exact (R1.out.up B3.out R1.out.lt).row _
          clear HW4 HN B3 HR HWF R1 HRT2 HNR
          go_wp2
          go_roundw
          case rel => exact ⟨k + 1, by go_num, by omega, by rw [HRN.out]; exact RN4⟩
          case measure => simp [intOf]; omega
        · obtain rfl : k = m := by omega
          have hli : ¬ (k : Int) < k := by omega
          obtain ⟨hrt, htk⟩ := runN_right HKS.out k HRT.out (by show (0 : Int) + k ≤ 300; omega)
          have HDD := Lib.hid (show runN S k (beginC S) = D' by rw [← HD.out, Int.toNat_natCast])
          rw [HDD.out] at hR
          obtain ⟨ua, uc, la, lc, r1, hwf⟩ := hR.r1
          have HR := Lib.hid hR
          have HWF := Lib.hid hwf
          have R1 := Lib.hid r1
          have hsz := hR.d.size
          have hlb := hR.rb.lt
          clear hR hwf r1 hrt htk HDD HD
          go_wp2_with (first | (refine wpList_load_row rfl 30 (.tmp 6) rfl w1.heap.size rfl 30 _ (0, 0) _ R1.out Tryd.underlying30 rfl sizeWld ?_) | (refine wpList_store_row rfl 30 (.tmp 4) (.tmp 28) rfl (w.heap.size + 1) #[.int .i64 D'.tick, .slice ua D'.cells.length uc, .slice la D'.lines.length lc] rfl rfl 30 _ HR.out.rb sizeWld rfl (world_one _ _ _ _ _ _ _) ?_))
          refine bodyPost_ret (results_row_tmp Tryd.results18 _ _ (w.heap.size + 1) _ _ rfl rfl (run_loadVar_row _ _ 30 _ #[.int .i64 D'.tick, .slice ua D'.cells.length uc, .slice la D'.lines.length lc] (0, 0) _ (HR.out.rb.row _) Tryd.underlying30 rfl sizeWld)) rfl ⟨_, _, rfl, (HWF.out.row (by omega) _).low (by omega), below_row HR.out.d (by omega) _⟩
  · have h0' : (c0 != 0) = true := by simpa using h0
    have hw3 : runE S n = c0 := by unfold runE; rw [hc0, if_pos h0]
    obtain rfl : e0 = c0 := by rw [← hk, hw3]
    have HD : Hid (wldZ = D') := by
      show _ = _
      rw [← hD, runR, if_neg (by rw [hw3]; exact h0)]
    clear hk hD hw3 hc0 h0 hB
    go_enter Tryd.func18, Tryd.ntmps18
    go_wp2_with fail
    refine (HC.out _ (HE.out.up (by repeat (first | exact Below.refl _ _ | assumption | refine Below.drew ?_ | refine Below.alloc ?_ (by first | (simp; done) | (simp; omega)) _ | refine Below.setCell ?_ (by first | (simp; done) | (simp; omega)) _))) (HS.out.up (by repeat (first | exact Below.refl _ _ | assumption | refine Below.drew ?_ | refine Below.alloc ?_ (by first | (simp; done) | (simp; omega)) _ | refine Below.setCell ?_ (by first | (simp; done) | (simp; omega)) _)))).mono ?_
    rintro e w1 ⟨xc, xl, rfl, hN, b1⟩
    obtain ⟨a5, c5, rfl⟩ := hN.wld.c.form
    obtain ⟨a6, c6, rfl⟩ := hN.wld.l.form
    have z1 := b1.size
    simp at z1
    have RB : Hid (Rw w1 (w.heap.size + 1) 30 #[.int .i64 0, .slice none 0 0, .slice none 0 0]) := Rw.up (by repeat (first | exact Rw.new _ _ _ (by first | rfl | (simp; done) | omega | (simp; omega)) | refine Rw.alloc ?_ _)) b1 (by first | omega | (simp; done) | (simp; omega))
    have HB : Hid (Below w.heap.size w w1) := by
      refine Below.trans ?_ (b1.mono (by first | omega | (simp; done) | (simp; omega)))
      exact (by repeat (first | exact Below.refl _ _ | assumption | refine Below.drew ?_ | refine Below.alloc ?_ (by first | (simp; done) | (simp; omega)) _ | refine Below.setCell ?_ (by first | (simp; done) | (simp; omega)) _))
    clear b1 HC hN
    go_wp2_with (refine wpList_store_rowW rfl 30 (.tmp 6) (.tmp 11) rfl w1.heap.size #[.int .i64 B.tick, .slice a5 B.cells.length c5, .slice a6 B.lines.length c6] rfl rfl 30 #[.int .i64 0, .slice none 0 0, .slice none 0 0] (by repeat (first | exact Rw.new _ _ _ (by first | rfl | (simp; done) | omega | (simp; omega)) | refine Rw.alloc ?_ _)) sizeWld rfl (world_one _ _ _ _ _ _ _) ?_)
    intro W HW1
    have RB2 : Hid (Rw W (w.heap.size + 1) 30 #[.int .i64 0, .slice none 0 0, .slice none 0 0]) := by
      show Rw _ _ _ _
      rw [HW1.out]
      exact (RB.out.up ((Below.refl _ _).alloc (Nat.le_refl _) _) (by omega)).row_other _ (by omega)
    have HB2 : Hid (Below w.heap.size w W) := by
      show Below _ _ _
      rw [HW1.out]
      exact below_row (HB.out.alloc (by omega) _) (by omega) _
    clear HW1 RB HB
    go_wp2_with (refine wpList_store_row rfl 30 (.tmp 4) (.tmp 15) rfl (w.heap.size + 1) #[.int .i64 0, .slice none 0 0, .slice none 0 0] rfl rfl 30 #[.int .i64 0, .slice none 0 0, .slice none 0 0] RB2.out sizeWld rfl (world_one _ _ _ _ _ _ _) ?_)
    refine bodyPost_ret (results_row_tmp Tryd.results18 _ _ (w.heap.size + 1) _ _ rfl rfl (run_loadVar_row _ _ 30 _ #[.int .i64 0, .slice none 0 0, .slice none 0 0] (0, 0) _ (RB2.out.row _) Tryd.underlying30 rfl sizeWld)) rfl ⟨.slice none 0 0, .slice none 0 0, by rw [← HD.out]; rfl, by rw [← HD.out]; exact WldF.nil _ _, below_row HB2.out (by omega) _⟩
end Go.Proofs.YtjhjaafoikadgaaDoor

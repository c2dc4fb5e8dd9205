/- KernMore. -/
import Derived.Test.YtjhjaafoikadgaaDoorKn16
import Derived.Test.YtjhjaafoikadgaaDoorKn18a
namespace Go.Proofs.YtjhjaafoikadgaaDoor
set_option linter.unusedSimpArgs false
set_option linter.unusedVariables false
open Go.RowKit Go.Sort

set_option maxHeartbeats 1000000 in
theorem chooseN_any (c : Int) (hc : in64 c) (n : Nat) (h1 : 1 ≤ n) (h2 : n ≤ 1048576) (w : World) : Calls Tryd.prog 20 #[.int .i64 c, .int .i64 (n : Int)] w fun e w' => ∃ m : Nat, e = .returned (.int .i64 (m : Int)) ∧ m < n ∧ w' = w := by
  have hn0 : ((n : Int) == 0) = false := by simp; omega
  obtain ⟨ha, hb⟩ := hc
  by_cases h : c < 0
  · have hr := Int.emod_nonneg (-(c + 1)) (show (n : Int) ≠ 0 by omega)
    have hs := Int.emod_lt_of_pos (-(c + 1)) (show (0 : Int) < n by omega)
    obtain ⟨m, hm⟩ := Int.eq_ofNat_of_zero_le hr
    have HM := Lib.hid hm
    clear hm hr
    go_enter Tryd.func20, Tryd.ntmps20
    go_wp2
    go_ret
    exact ⟨m, ret_int (show -((c + 1).tmod (n : Int)) = (m : Int) by rw [← Int.neg_tmod, Int.tmod_eq_emod_of_nonneg (by omega)]; exact HM.out), by have := HM.out; omega, rfl⟩
  · have hr := Int.emod_nonneg c (show (n : Int) ≠ 0 by omega)
    have hs := Int.emod_lt_of_pos c (show (0 : Int) < n by omega)
    obtain ⟨m, hm⟩ := Int.eq_ofNat_of_zero_le hr
    have HM := Lib.hid hm
    have h0 : 0 ≤ c := by omega
    clear hm hr
    go_enter Tryd.func20, Tryd.ntmps20
    go_wp2
    go_ret
    exact ⟨m, ret_int (by first | exact HM.out | (rw [← HM.out]; rfl) | (rw [← HM.out]; exact Int.tmod_eq_emod_of_nonneg (by omega))), by have := HM.out; omega, rfl⟩
/-- Where KernMore stands. -/
structure Mo (w W : World) (g7 g10 B : Nat) (vp vc vs xc xl : Value) (D E : WldD) : Prop where
  d : Below w.heap.size w W
  r0 : Rw W w.heap.size 26 #[vp, vc, vs]
  r7 : ∃ ua uc la lc, Rw W g7 30 #[.int .i64 D.tick, .slice ua D.cells.length uc, .slice la D.lines.length lc] ∧ Wld W (.slice ua D.cells.length uc) (.slice la D.lines.length lc) D
  r10 : Rw W g10 30 #[.int .i64 E.tick, xc, xl]
  n10 : WldF B W xc xl E
  h7 : w.heap.size < g7
  h8 : g7 < B
  h9 : B ≤ g10
theorem run_more {S : SysD} {m : Nat} (hk : chkS S = 0) (hm : m ≤ 300) : Right S (runN S m (beginC S)) ∧ (runN S m (beginC S)).tick = m := by
  obtain ⟨h1, h2⟩ := runN_right hk m (begin_right hk) (by show (0 : Int) + (m : Int) ≤ 300; omega)
  exact ⟨h1, by rw [h2]; show (0 : Int) + (m : Int) = m; omega⟩
set_option maxRecDepth 100000 in
set_option maxHeartbeats 8000000 in
theorem kernMore_any (S : SysD) (n more : Int) (hmo : in64 more) (vp vc vs : Value) (w : World) (he : Env w) (hS : Sys w vp vc vs S) :
    Calls Tryd.prog 6 #[.agg #[vp, vc, vs], .int .i64 n, .int .i64 more] w fun e w' => e = .returned (.bool true) ∧ Below w.heap.size w w' := by
  obtain ⟨pa, pc, rfl⟩ := hS.p.form
  obtain ⟨ka, kc, rfl⟩ := hS.c.form
  obtain ⟨sa, sc, rfl⟩ := hS.s.form
  obtain ⟨v0, hv0⟩ : ∃ v0, runE S n = v0 := ⟨_, rfl⟩
  obtain ⟨D0, hD0⟩ : ∃ D', runR S n = D' := ⟨_, rfl⟩
  have HST := Lib.hid fun w he hS => kernRun_any S n (.slice pa S.parts.length pc) (.slice ka S.chans.length kc) (.slice sa S.slots.length sc) w he hS v0 hv0 D0 hD0
  have HV := Lib.hid hv0
  have HDD := Lib.hid hD0
  have HE := Lib.hid he
  have HS := Lib.hid hS
  have HMO := Lib.hid hmo
  clear he hS hv0 hD0 hmo
  go_enter Tryd.func6, Tryd.ntmps6
  go_wp2_with fail
  refine (HST.out _ (HE.out.up (by repeat (first | exact Below.refl _ _ | assumption | refine Below.drew ?_ | refine Below.alloc ?_ (by first | (simp; done) | (simp; omega)) _ | refine Below.setCell ?_ (by first | (simp; done) | (simp; omega)) _))) (HS.out.up (by repeat (first | exact Below.refl _ _ | assumption | refine Below.drew ?_ | refine Below.alloc ?_ (by first | (simp; done) | (simp; omega)) _ | refine Below.setCell ?_ (by first | (simp; done) | (simp; omega)) _)))).mono ?_
  rintro e w1 ⟨xc, xl, rfl, hN, b1⟩
  obtain ⟨a5, c5, rfl⟩ := hN.wld.c.form
  obtain ⟨a6, c6, rfl⟩ := hN.wld.l.form
  have z1 := b1.size
  simp at z1
  have R0 : Hid (Rw w1 w.heap.size 26 #[.slice pa S.parts.length pc, .slice ka S.chans.length kc, .slice sa S.slots.length sc]) := Rw.up (by repeat (first | exact Rw.new _ _ _ (by first | rfl | (simp; done) | omega | (simp; omega)) | refine Rw.alloc ?_ _)) b1 (by first | omega | (simp; done) | (simp; omega))
  have HB : Hid (Below w.heap.size w w1) := by
    refine Below.trans ?_ (b1.mono (by first | omega | (simp; done) | (simp; omega)))
    exact (by repeat (first | exact Below.refl _ _ | assumption | refine Below.drew ?_ | refine Below.alloc ?_ (by first | (simp; done) | (simp; omega)) _ | refine Below.setCell ?_ (by first | (simp; done) | (simp; omega)) _))
  have HN := Lib.hid hN
  clear b1 HST hN
  go_wp2_with (refine wpList_store_rowW rfl 30 (.tmp 7) (.tmp 19) rfl w1.heap.size #[.int .i64 D0.tick, .slice a5 D0.cells.length c5, .slice a6 D0.lines.length c6] rfl rfl 30 #[.int .i64 0, .slice none 0 0, .slice none 0 0] (by repeat (first | exact Rw.new _ _ _ (by first | rfl | (simp; done) | omega | (simp; omega)) | refine Rw.alloc ?_ _)) sizeWld rfl (world_one _ _ _ _ _ _ _) ?_)
  intro W2 HW2
  have b2 : Below w1.heap.size w1 W2 := by rw [HW2.out]; exact below_row ((Below.refl _ _).alloc (Nat.le_refl _) _) (Nat.le_refl _) _
  have R7 : Hid (Rw W2 w1.heap.size 30 #[.int .i64 D0.tick, .slice a5 D0.cells.length c5, .slice a6 D0.lines.length c6]) := by
    show Rw _ _ _ _
    rw [HW2.out]
    exact Rw.row (cs := #[.int .i64 0, .slice none 0 0, .slice none 0 0]) (by repeat (first | exact Rw.new _ _ _ (by first | rfl | (simp; done) | omega | (simp; omega)) | refine Rw.alloc ?_ _)) _
  have N7 : Hid (Wld W2 (.slice a5 D0.cells.length c5) (.slice a6 D0.lines.length c6) D0) := by
    show Wld _ _ _ _
    rw [HW2.out]
    exact (HN.out.fresh _ _).wld
  have z2 := b2.size
  have HD2 := Lib.hid (HB.out.trans (b2.mono (by omega)))
  have R0 := Lib.hid (R0.out.up b2 (by omega))
  clear HW2 b2 HN HB
  by_cases h0 : v0 = 0
  · subst h0
    obtain ⟨hk, hn0, hn1⟩ := runE_zero HV.out
    obtain ⟨m, rfl⟩ := Int.eq_ofNat_of_zero_le hn0
    have hz : runN S m (beginC S) = D0 := by rw [← HDD.out, runR, if_pos HV.out, Int.toNat_natCast]
    have HZ := Lib.hid hz
    have HKS := Lib.hid hk
    clear hz hk HV HDD
    have CH1 : Hid (∀ V, Calls Tryd.prog 20 #[.int .i64 more, .int .i64 (300 - (m : Int) + 1)] V fun e w' => ∃ k : Nat, e = .returned (.int .i64 (k : Int)) ∧ (m : Int) + k ≤ 300 ∧ w' = V) := fun V => by
      have h := chooseN_any more HMO.out (301 - m) (by omega) (by omega) V
      rw [show ((301 - m : Nat) : Int) = 300 - (m : Int) + 1 by omega] at h
      refine h.mono ?_
      rintro e w' ⟨k, h1, h2, h3⟩
      exact ⟨k, h1, by omega, h3⟩
    have CH2 : Hid (∀ V, Calls Tryd.prog 20 #[.int .i64 more, .int .i64 24] V fun e w' => ∃ k : Nat, e = .returned (.int .i64 (k : Int)) ∧ k < 24 ∧ w' = V) := fun V => chooseN_any more HMO.out 24 (by omega) (by omega) V
    clear HMO
    go_upto_region 4 with fail
    go_cut [9] from 24 to 29 (fun p9 wd => ∃ k : Nat, p9 = .int .i64 k ∧ (m : Int) + k ≤ 300 ∧ wd = W2)
    case first =>
      by_cases h24 : 300 - (m : Int) + 1 < 24
      · go_wp2_with fail
        refine (CH1.out _).mono ?_
        rintro e w3 ⟨k, rfl, hmk, rfl⟩
        go_wp2
        go_meet
        exact ⟨k, rfl, hmk, rfl⟩
      · go_wp2_with fail
        refine (CH2.out _).mono ?_
        rintro e w3 ⟨k, rfl, hmk, rfl⟩
        go_wp2
        go_meet
        exact ⟨k, rfl, by omega, rfl⟩
    case rest =>
    obtain ⟨k, rfl, hmk, rfl⟩ := hcut
    have hmk' : m + k ≤ 300 := by omega
    obtain ⟨E, hE⟩ : ∃ E, runN S (m + k) (beginC S) = E := ⟨_, rfl⟩
    have HRN := Lib.hid fun w he hS => kernRun_any S ((m : Int) + k) (.slice pa S.parts.length pc) (.slice ka S.chans.length kc) (.slice sa S.slots.length sc) w he hS 0 (runE_right HKS.out (by omega) hmk) E (by rw [runR, if_pos (runE_right HKS.out (by omega) hmk), show ((m : Int) + k).toNat = m + k by omega]; exact hE)
    have HEE := Lib.hid hE
    have s0 := R0.out.cell (j := 0) (v := .slice pa S.parts.length pc) rfl
    have s1 := R0.out.cell (j := 1) (v := .slice ka S.chans.length kc) rfl
    have s2 := R0.out.cell (j := 2) (v := .slice sa S.slots.length sc) rfl
    clear CH1 CH2 hE
    go_wp2_with fail
    refine (HRN.out _ (HE.out.up HD2.out) (HS.out.up HD2.out)).mono ?_
    rintro e w4 ⟨xc, xl, rfl, hN, b4⟩
    obtain ⟨a7, c7, rfl⟩ := hN.wld.c.form
    obtain ⟨a8, c8, rfl⟩ := hN.wld.l.form
    have z4 := b4.size
    have l7 := R7.out.lt
    have R7 := Lib.hid (R7.out.up b4 l7)
    have N7 := Lib.hid (N7.out.up b4)
    have R0 := Lib.hid (R0.out.up b4 R0.out.lt)
    have zd := HD2.out.size
    have HD4 := Lib.hid (HD2.out.trans (b4.mono zd))
    have HN := Lib.hid hN
    clear b4 hN HRN s0 s1 s2 HD2
    go_wp2_with (refine wpList_store_rowW rfl 30 (.tmp 10) (.tmp 36) rfl w4.heap.size #[.int .i64 E.tick, .slice a7 E.cells.length c7, .slice a8 E.lines.length c8] rfl rfl 30 #[.int .i64 0, .slice none 0 0, .slice none 0 0] (by repeat (first | exact Rw.new _ _ _ (by first | rfl | (simp; done) | omega | (simp; omega)) | refine Rw.alloc ?_ _)) sizeWld rfl (world_one _ _ _ _ _ _ _) ?_)
    intro W5 HW5
    have b5 : Below w4.heap.size w4 W5 := by rw [HW5.out]; exact below_row ((Below.refl _ _).alloc (Nat.le_refl _) _) (Nat.le_refl _) _
    have z5 := b5.size
    have zd := HD4.out.size
    have MO : Hid (Mo w W5 w1.heap.size w4.heap.size wc.heap.size (.slice pa S.parts.length pc) (.slice ka S.chans.length kc) (.slice sa S.slots.length sc) (.slice a7 E.cells.length c7) (.slice a8 E.lines.length c8) (runN S (m + 0) (beginC S)) E) := by
      rw [Nat.add_zero, HZ.out]
      refine ⟨HD4.out.trans (b5.mono zd), R0.out.up b5 R0.out.lt, ⟨a5, c5, a6, c6, R7.out.up b5 R7.out.lt, N7.out.up b5⟩, ?_, ?_, by omega, by omega, by omega⟩
      · rw [HW5.out]
        exact Rw.row (cs := #[.int .i64 0, .slice none 0 0, .slice none 0 0]) (by repeat (first | exact Rw.new _ _ _ (by first | rfl | (simp; done) | omega | (simp; omega)) | refine Rw.alloc ?_ _)) _
      · rw [HW5.out]
        exact HN.out.fresh _ _
    clear HW5 b5 HN R7 N7 R0 HD4 HZ
    go_wp2
    go_loopw [12] (fun i wr => ∃ j : Nat, i = .int .i64 j ∧ j ≤ k ∧ Hid (Mo w wr w1.heap.size w4.heap.size wc.heap.size (.slice pa S.parts.length pc) (.slice ka S.chans.length kc) (.slice sa S.slots.length sc) (.slice a7 E.cells.length c7) (.slice a8 E.lines.length c8) (runN S (m + j) (beginC S)) E)) (fun i _ => k - (intOf i).toNat)
    case atStart => exact ⟨0, rfl, Nat.zero_le _, MO⟩
    case round =>
      obtain ⟨j, rfl, hj, HM⟩ := hrel
      clear MO
      by_cases hlt : j < k
      · have hli : (j : Int) < k := by omega
        obtain ⟨hrt, htk⟩ := run_more (m := m + j) HKS.out (by omega)
        have hrn := runN_last S (m + j) (beginC S)
        have ht : (runN S (m + j) (beginC S)).tick < 300 := by rw [htk]; omega
        generalize runN S (m + j) (beginC S) = D at HM hrt hrn ht htk
        obtain ⟨hnr, hnt⟩ := next_right HKS.out hrt ht
        have ht0 := hrt.t0
        obtain ⟨F, hF⟩ : ∃ F, nextC S D = F := ⟨_, rfl⟩
        rw [hF] at hnr hnt hrn
        have HST := Lib.hid fun uc ul w he hS hW => kernStep_any S D (.slice pa S.parts.length pc) (.slice ka S.chans.length kc) (.slice sa S.slots.length sc) uc ul w he hS hW 0 (stepW_right HKS.out hrt ht) F (by rw [stepR, if_pos (stepW_right HKS.out hrt ht), hF])
        have HCK := Lib.hid fun uc ul w he hS hW => kernCheck_any S F (.slice pa S.parts.length pc) (.slice ka S.chans.length kc) (.slice sa S.slots.length sc) uc ul w he hS hW
        rw [chkW_right HKS.out hnr] at HCK
        obtain ⟨ua, uc, la, lc, r7, n7⟩ := HM.out.r7
        have q0 := r7.cell (j := 0) (v := .int .i64 D.tick) rfl
        have q1 := r7.cell (j := 1) (v := .slice ua D.cells.length uc) rfl
        have q2 := r7.cell (j := 2) (v := .slice la D.lines.length lc) rfl
        have s0 := HM.out.r0.cell (j := 0) (v := .slice pa S.parts.length pc) rfl
        have s1 := HM.out.r0.cell (j := 1) (v := .slice ka S.chans.length kc) rfl
        have s2 := HM.out.r0.cell (j := 2) (v := .slice sa S.slots.length sc) rfl
        have N7 := Lib.hid n7
        have R7 := Lib.hid r7
        have HRN := Lib.hid hrn
        have hne : (F.tick != D.tick + 1) = false := by rw [hnt]; simp
        have l7 := r7.lt
        have g7 := HM.out.h7
        have g8 := HM.out.h8
        have g9 := HM.out.h9
        have l10 := HM.out.r10.lt
        clear n7 r7 hrt hnr hnt hrn htk hF
        go_wp2_with fail
        refine (HST.out _ _ _ (HE.out.up HM.out.d) (HS.out.up HM.out.d) N7.out).mono ?_
        rintro e w6 ⟨yc, yl, rfl, hN, b6⟩
        obtain ⟨a9, c9, rfl⟩ := hN.wld.c.form
        obtain ⟨b9, d9, rfl⟩ := hN.wld.l.form
        have z6 := b6.size
        have HN := Lib.hid hN
        have B6 := Lib.hid b6
        clear b6 hN q0 q1 q2 s0 s1 s2 HST
        go_wp2_with (refine wpList_store_rowW rfl 30 (.tmp 13) (.tmp 47) rfl w6.heap.size #[.int .i64 F.tick, .slice a9 F.cells.length c9, .slice b9 F.lines.length d9] rfl rfl 30 #[.int .i64 0, .slice none 0 0, .slice none 0 0] (by repeat (first | exact Rw.new _ _ _ (by first | rfl | (simp; done) | omega | (simp; omega)) | refine Rw.alloc ?_ _)) sizeWld rfl (world_one _ _ _ _ _ _ _) ?_)
        intro W7 HW7
        have b7 : Below w6.heap.size w6 W7 := by rw [HW7.out]; exact below_row ((Below.refl _ _).alloc (Nat.le_refl _) _) (Nat.le_refl _) _
        have z7 := b7.size
        have r13 : Rw W7 w6.heap.size 30 #[.int .i64 F.tick, .slice a9 F.cells.length c9, .slice b9 F.lines.length d9] := by
          rw [HW7.out]
          exact Rw.row (cs := #[.int .i64 0, .slice none 0 0, .slice none 0 0]) (by repeat (first | exact Rw.new _ _ _ (by first | rfl | (simp; done) | omega | (simp; omega)) | refine Rw.alloc ?_ _)) _
        have N13 : Hid (WldF wr.heap.size W7 (.slice a9 F.cells.length c9) (.slice b9 F.lines.length d9) F) := by
          show WldF _ _ _ _ _
          rw [HW7.out]
          exact HN.out.fresh _ _
        have B7 := Lib.hid (B6.out.trans (b7.mono z6))
        have r0 := HM.out.r0.up B7.out HM.out.r0.lt
        have r7 := R7.out.up B7.out l7
        have q0 := r7.cell (j := 0) (v := .int .i64 D.tick) rfl
        have p0 := r13.cell (j := 0) (v := .int .i64 F.tick) rfl
        have p1 := r13.cell (j := 1) (v := .slice a9 F.cells.length c9) rfl
        have p2 := r13.cell (j := 2) (v := .slice b9 F.lines.length d9) rfl
        have s0 := r0.cell (j := 0) (v := .slice pa S.parts.length pc) rfl
        have s1 := r0.cell (j := 1) (v := .slice ka S.chans.length kc) rfl
        have s2 := r0.cell (j := 2) (v := .slice sa S.slots.length sc) rfl
        have R13 := Lib.hid r13
        have R7 := Lib.hid r7
        have R0 := Lib.hid r0
        have zw := HM.out.d.size
        have HD7 := Lib.hid (HM.out.d.trans (B7.out.mono zw))
        have n10 := HM.out.n10.up B7.out
        have r10 := HM.out.r10.up B7.out l10
        have N10 := Lib.hid n10
        have R10 := Lib.hid r10
        clear HW7 b7 HN B6 r13 r0 r7 B7 HM n10 r10 N7
        go_wp2_with fail
        refine (HCK.out _ _ _ (HE.out.up HD7.out) (HS.out.up HD7.out) N13.out.wld).mono ?_
        rintro e w8 ⟨rfl, b8⟩
        have z8 := b8.size
        have N13 := Lib.hid (N13.out.up b8)
        have N10 := Lib.hid (N10.out.up b8)
        have R13 := Lib.hid (R13.out.up b8 R13.out.lt)
        have R7 := Lib.hid (R7.out.up b8 R7.out.lt)
        have R0 := Lib.hid (R0.out.up b8 R0.out.lt)
        have R10 := Lib.hid (R10.out.up b8 R10.out.lt)
        have zd7 := HD7.out.size
        have HD8 := Lib.hid (HD7.out.trans (b8.mono zd7))
        clear b8 HD7 HCK q0 p0 p1 p2 s0 s1 s2
        go_wp2_with (first | (refine wpList_load_row rfl 30 (.tmp 13) rfl w6.heap.size rfl 30 _ (0, 0) _ R13.out Tryd.underlying30 rfl sizeWld ?_) | (refine wpList_store_rowW rfl 30 (.tmp 7) (.tmp 65) rfl w1.heap.size #[.int .i64 F.tick, .slice a9 F.cells.length c9, .slice b9 F.lines.length d9] rfl rfl 30 _ R7.out sizeWld rfl (world_one _ _ _ _ _ _ _) ?_))
        intro W9 HW9
        have MO : Hid (Mo w W9 w1.heap.size w4.heap.size wc.heap.size (.slice pa S.parts.length pc) (.slice ka S.chans.length kc) (.slice sa S.slots.length sc) (.slice a7 E.cells.length c7) (.slice a8 E.lines.length c8) F E) := by
          show Mo _ _ _ _ _ _ _ _ _ _ _ _
          rw [HW9.out]
          exact ⟨below_row HD8.out (by omega) _, R0.out.row_other _ (by omega), ⟨a9, c9, b9, d9, R7.out.row _, (N13.out.row (by omega) _).wld⟩, R10.out.row_other _ (by omega), N10.out.row (by omega) _, by omega, by omega, by omega⟩
        clear HW9 HD8 R0 R7 R10 R13 N10 N13
        go_wp2
        go_roundw
        case rel => exact ⟨j + 1, by go_num, by omega, by rw [show m + (j + 1) = m + j + 1 by omega, HRN.out]; exact MO⟩
        case measure => simp [intOf]; omega
      · obtain rfl : j = k := by omega
        have hli : ¬ (j : Int) < j := by omega
        obtain ⟨hrt, htk⟩ := run_more (m := m + j) HKS.out hmk'
        rw [HEE.out] at hrt htk HM
        have SM := Lib.hid (small_right HKS.out hrt)
        obtain ⟨ua, uc, la, lc, r7, n7⟩ := HM.out.r7
        have R7 := Lib.hid r7
        have N7 := Lib.hid n7
        have zd := HM.out.d.size
        have htk' : (E.tick == (m : Int) + j) = true := by rw [htk]; simp
        clear r7 n7 hrt htk HEE
        go_wp2_with fail
        refine (kernBegun_any _ (HE.out.up HM.out.d)).mono ?_
        rintro e wk ⟨rfl, bk⟩
        have r7 := R7.out.up bk R7.out.lt
        have r10 := HM.out.r10.up bk HM.out.r10.lt
        have n7 := Lib.hid (N7.out.up bk)
        have n10 := Lib.hid (HM.out.n10.up bk)
        have hd := Lib.hid (HM.out.d.trans (bk.mono zd))
        have zk2 := hd.out.size
        have p0 := r7.cell (j := 0) (v := .int .i64 E.tick) rfl
        have p1 := r7.cell (j := 1) (v := .slice ua E.cells.length uc) rfl
        have p2 := r7.cell (j := 2) (v := .slice la E.lines.length lc) rfl
        have q0 := r10.cell (j := 0) (v := .int .i64 E.tick) rfl
        have q1 := r10.cell (j := 1) (v := .slice a7 E.cells.length c7) rfl
        have q2 := r10.cell (j := 2) (v := .slice a8 E.lines.length c8) rfl
        clear bk R7 N7 HM r7 r10
        go_wp2_with fail
        refine (sameWorlds_yes E SM.out _ _ _ _ _ n7.out n10.out.wld).mono ?_
        rintro e wz ⟨rfl, bz⟩
        have HZ := Lib.hid (hd.out.trans (bz.mono zk2))
        clear bz n7 n10 hd
        go_wp2
        go_ret
        exact ⟨rfl, HZ.out⟩
  · have h0' : (v0 != 0) = true := by simpa using h0
    clear h0 HV HDD R7 N7 R0
    go_wp2_with fail
    refine (kernBegun_any _ (HE.out.up HD2.out)).mono ?_
    rintro e wk ⟨rfl, bk⟩
    have zk := HD2.out.size
    have HZ := Lib.hid (HD2.out.trans (bk.mono zk))
    clear bk
    go_wp2
    go_ret
    exact ⟨rfl, HZ.out⟩
end Go.Proofs.YtjhjaafoikadgaaDoor

/- kern.Step and kern.Run. -/
import Derived.Test.YtbkdoohhdkahiaaGreatDoorK15
import Derived.Test.YtbkdoohhdkahiaaGreatDoorK5
import Derived.Test.YtbkdoohhdkahiaaGreatDoorK0
import Derived.Test.YtbkdoohhdkahiaaGreatDoorK14
namespace Go.Proofs.YtbkdoohhdkahiaaGreatDoor
set_option linter.unusedSimpArgs false
set_option linter.unusedVariables false
open Go.RowKit Go.Sort
def runE (S : SysD) (n : Int) : Int := if chkS S ≠ 0 then chkS S else if withinB n 0 300 then 0 else 3
def runR (S : SysD) (n : Int) : WldD := if runE S n = 0 then runN S n.toNat (beginC S) else wldZ
theorem runE_zero {S : SysD} {n : Int} (h : runE S n = 0) : chkS S = 0 ∧ 0 ≤ n ∧ n ≤ 300 := by
  unfold runE at h
  split at h
  · exact absurd h (by assumption)
  · rename_i h1
    split at h
    · rename_i h2
      unfold withinB at h2
      rw [Bool.and_eq_true, decide_eq_true_eq, decide_eq_true_eq] at h2
      exact ⟨by simpa using h1, h2⟩
    · omega
theorem runE_right {S : SysD} {n : Int} (hk : chkS S = 0) (h0 : 0 ≤ n) (h1 : n ≤ 300) : runE S n = 0 := by
  unfold runE
  rw [if_neg (by simpa using hk), if_pos]
  unfold withinB
  rw [Bool.and_eq_true, decide_eq_true_eq, decide_eq_true_eq]
  exact ⟨h0, h1⟩
structure RnS (w W : World) (g : Nat) (vp vc vs : Value) (D : WldD) : Prop where
  d : Below w.heap.size w W
  r0 : Rw W w.heap.size 39 #[vp, vc, vs]
  rb : Rw W (w.heap.size + 1) 61 #[.int .i64 0, .slice none 0 0, .slice none 0 0]
  r1 : ∃ ua uc la lc, Rw W g 61 #[.int .i64 D.tick, .slice ua D.cells.length uc, .slice la D.lines.length lc] ∧ WldF (w.heap.size + 2) W (.slice ua D.cells.length uc) (.slice la D.lines.length lc) D
  g0 : w.heap.size + 2 ≤ g
set_option maxRecDepth 100000 in
set_option maxHeartbeats 8000000 in
theorem kernRun_any (S : SysD) (n : Int) (vp vc vs : Value) (w : World) (he : Env w) (hS : Sys w vp vc vs S) (e0 : Int) (hk : runE S n = e0) (D' : WldD) (hD : runR S n = D') :
    Calls Tryz.prog 17 #[.agg #[vp, vc, vs], .int .i64 n] w fun e w' => ∃ xc xl, e = .returned (.tuple #[.agg #[.int .i64 D'.tick, xc, xl], .int .i64 e0]) ∧ WldF w.heap.size w' xc xl D' ∧ Below w.heap.size w w' := by
  obtain ⟨pa, pc, rfl⟩ := hS.p.form
  obtain ⟨ka, kc, rfl⟩ := hS.c.form
  obtain ⟨sa, sc, rfl⟩ := hS.s.form
  obtain ⟨c0, hc0⟩ : ∃ c0, chkS S = c0 := ⟨_, rfl⟩
  obtain ⟨B, hB⟩ : ∃ B, beginR S = B := ⟨_, rfl⟩
  have HC := Lib.hid fun w he hS => kernBegin_any S (.slice pa S.parts.length pc) (.slice ka S.chans.length kc) (.slice sa S.slots.length sc) w he hS c0 hc0 B hB
  have HE := Lib.hid he
  have HS := Lib.hid hS
  clear he hS
  by_cases h0 : c0 = 0
  · subst h0
    obtain rfl : beginC S = B := by rw [← hB, beginR, if_pos hc0]
    have HI := Lib.hid fun V => isRun_any n V
    have HRT := Lib.hid (begin_right hc0)
    cases hn : withinB n 0 300
    · have hw3 : runE S n = 3 := by unfold runE; rw [hc0, if_neg (by simp), hn]; rfl
      obtain rfl : e0 = 3 := by rw [← hk, hw3]
      have HD : Hid (wldZ = D') := by
        show _ = _
        rw [← hD, runR, if_neg (by rw [hw3]; decide)]
      rw [hn] at HI
      clear hk hD hw3 hc0 hn hB HRT
      go_enter Tryz.func17, Tryz.ntmps17
      go_wp2_with fail
      refine (HC.out _ (HE.out.up up0) (HS.out.up up0)).mono ?_
      rintro e w1 ⟨xc, xl, rfl, hN, b1⟩
      obtain ⟨a5, c5, rfl⟩ := hN.wld.c.form
      obtain ⟨a6, c6, rfl⟩ := hN.wld.l.form
      have z1 := b1.size
      simp at z1
      have RB : Hid (Rw w1 (w.heap.size + 1) 61 #[.int .i64 0, .slice none 0 0, .slice none 0 0]) := Rw.up (by repeat (first | exact Rw.new _ _ _ (by first | rfl | (simp; done) | omega | (simp; omega)) | refine Rw.alloc ?_ _)) b1 (by first | omega | (simp; done) | (simp; omega))
      have HB : Hid (Below w.heap.size w w1) := by
        refine Below.trans ?_ (b1.mono (by first | omega | (simp; done) | (simp; omega)))
        exact up0
      clear b1 HC hN
      go_wp2_with (refine wpList_store_rowW rfl 61 (.tmp 6) (.tmp 11) rfl w1.heap.size #[.int .i64 (beginC S).tick, .slice a5 (beginC S).cells.length c5, .slice a6 (beginC S).lines.length c6] rfl rfl 61 #[.int .i64 0, .slice none 0 0, .slice none 0 0] (by repeat (first | exact Rw.new _ _ _ (by first | rfl | (simp; done) | omega | (simp; omega)) | refine Rw.alloc ?_ _)) sizeWld rfl (world_one _ _ _ _ _ _ _) ?_)
      intro W HW1
      have RB2 : Hid (Rw W (w.heap.size + 1) 61 #[.int .i64 0, .slice none 0 0, .slice none 0 0]) := by
        show Rw _ _ _ _
        rw [HW1.out]
        exact (RB.out.up ((Below.refl _ _).alloc (Nat.le_refl _) _) (by omega)).row_other _ (by omega)
      have HB2 : Hid (Below w.heap.size w W) := by
        show Below _ _ _
        rw [HW1.out]
        exact below_row (HB.out.alloc (by omega) _) (by omega) _
      clear HW1 RB HB
      go_wp2_with (first | (go_at_call 51; refine (HI.out _).mono ?_; rintro e w2 ⟨rfl, rfl⟩) | (refine wpList_store_row rfl 61 (.tmp 4) (.tmp 20) rfl (w.heap.size + 1) #[.int .i64 0, .slice none 0 0, .slice none 0 0] rfl rfl 61 #[.int .i64 0, .slice none 0 0, .slice none 0 0] RB2.out sizeWld rfl (world_one _ _ _ _ _ _ _) ?_))
      refine bodyPost_ret (results_row_tmp Tryz.results17 _ _ (w.heap.size + 1) _ _ rfl rfl (run_loadVar_row _ _ 61 _ #[.int .i64 0, .slice none 0 0, .slice none 0 0] (0, 0) _ (RB2.out.row _) Tryz.underlying61 rfl sizeWld)) rfl ⟨.slice none 0 0, .slice none 0 0, by rw [← HD.out]; rfl, by rw [← HD.out]; exact WldF.nil _ _, below_row HB2.out (by omega) _⟩
    · have hw3 : runE S n = 0 := by unfold runE; rw [hc0, if_neg (by simp), hn]; rfl
      obtain rfl : e0 = 0 := by rw [← hk, hw3]
      have HD : Hid (runN S n.toNat (beginC S) = D') := by
        show _ = _
        rw [← hD, runR, if_pos hw3]
      obtain ⟨-, hn0, hn1⟩ := runE_zero hw3
      obtain ⟨m, rfl⟩ := Int.eq_ofNat_of_zero_le hn0
      rw [hn] at HI
      have HNX := Lib.hid fun D uc ul w he hS hW hR ht => next_any S D (.slice pa S.parts.length pc) (.slice ka S.chans.length kc) (.slice sa S.slots.length sc) uc ul w he hS hW hc0 (Right.t0 (S := S) hR) ht (Right.c hR) (Right.l hR)
      have HKS := Lib.hid hc0
      clear hk hD hw3 hc0 hn hB
      go_enter Tryz.func17, Tryz.ntmps17
      go_wp2_with fail
      refine (HC.out _ (HE.out.up up0) (HS.out.up up0)).mono ?_
      rintro e w1 ⟨xc, xl, rfl, hN, b1⟩
      obtain ⟨a5, c5, rfl⟩ := hN.wld.c.form
      obtain ⟨a6, c6, rfl⟩ := hN.wld.l.form
      have z1 := b1.size
      simp at z1
      have R0 : Hid (Rw w1 w.heap.size 39 #[.slice pa S.parts.length pc, .slice ka S.chans.length kc, .slice sa S.slots.length sc]) := Rw.up (by repeat (first | exact Rw.new _ _ _ (by first | rfl | (simp; done) | omega | (simp; omega)) | refine Rw.alloc ?_ _)) b1 (by first | omega | (simp; done) | (simp; omega))
      have RB : Hid (Rw w1 (w.heap.size + 1) 61 #[.int .i64 0, .slice none 0 0, .slice none 0 0]) := Rw.up (by repeat (first | exact Rw.new _ _ _ (by first | rfl | (simp; done) | omega | (simp; omega)) | refine Rw.alloc ?_ _)) b1 (by first | omega | (simp; done) | (simp; omega))
      have HB : Hid (Below w.heap.size w w1) := by
        refine Below.trans ?_ (b1.mono (by first | omega | (simp; done) | (simp; omega)))
        exact up0
      have HN := Lib.hid (hN.low (B' := w.heap.size + 2) (by simp))
      clear b1 HC hN
      go_wp2_with (refine wpList_store_rowW rfl 61 (.tmp 6) (.tmp 11) rfl w1.heap.size #[.int .i64 (beginC S).tick, .slice a5 (beginC S).cells.length c5, .slice a6 (beginC S).lines.length c6] rfl rfl 61 #[.int .i64 0, .slice none 0 0, .slice none 0 0] (by repeat (first | exact Rw.new _ _ _ (by first | rfl | (simp; done) | omega | (simp; omega)) | refine Rw.alloc ?_ _)) sizeWld rfl (world_one _ _ _ _ _ _ _) ?_)
      intro W HW1
      have hRn : RnS w W w1.heap.size (.slice pa S.parts.length pc) (.slice ka S.chans.length kc) (.slice sa S.slots.length sc) (beginC S) := by
        rw [HW1.out]
        have hb0 : Below w1.heap.size w1 (w1.alloc (.cells #[.int .i64 0, .slice none 0 0, .slice none 0 0] 61)) := (Below.refl _ _).alloc (Nat.le_refl _) _
        refine ⟨below_row (HB.out.alloc (by omega) _) (by omega) _, (R0.out.up hb0 (by omega)).row_other _ (by omega), (RB.out.up hb0 (by omega)).row_other _ (by omega), ⟨a5, c5, a6, c6, Rw.row (cs := #[.int .i64 0, .slice none 0 0, .slice none 0 0]) (by repeat (first | exact Rw.new _ _ _ (by first | rfl | (simp; done) | omega | (simp; omega)) | refine Rw.alloc ?_ _)) _, HN.out.fresh _ _⟩, by omega⟩
      have RN := Lib.hid hRn
      clear HW1 RB HB R0 hRn HN
      go_wp2_with (go_at_call 51; refine (HI.out _).mono ?_; rintro e w2 ⟨rfl, rfl⟩)
      go_loopw [22] (fun i wr => ∃ k : Nat, i = .int .i64 k ∧ k ≤ m ∧ Hid (RnS w wr w1.heap.size (.slice pa S.parts.length pc) (.slice ka S.chans.length kc) (.slice sa S.slots.length sc) (runN S k (beginC S)))) (fun i _ => m - (intOf i).toNat)
      case atStart => exact ⟨0, rfl, Nat.zero_le _, RN⟩
      case round =>
        obtain ⟨k, rfl, hk, HR⟩ := hrel
        have hR := HR.out
        clear HR RN
        by_cases hlt : k < m
        · have hli : (k : Int) < m := by omega
          obtain ⟨hrt, htk⟩ := runN_right HKS.out k HRT.out (by show (0 : Int) + k ≤ 300; omega)
          have hnr := (next_right HKS.out hrt (by rw [htk]; show (0 : Int) + k < 300; omega)).2
          have hrn := runN_last S k (beginC S)
          have ht : (runN S k (beginC S)).tick < 300 := by rw [htk]; show (0 : Int) + k < 300; omega
          generalize runN S k (beginC S) = D at hR hrt hnr hrn ht
          obtain ⟨ua, uc, la, lc, r1, hwf⟩ := hR.r1
          have q0 := r1.cell (j := 0) (v := .int .i64 D.tick) rfl
          have q1 := r1.cell (j := 1) (v := .slice ua D.cells.length uc) rfl
          have q2 := r1.cell (j := 2) (v := .slice la D.lines.length lc) rfl
          have s0 := hR.r0.cell (j := 0) (v := .slice pa S.parts.length pc) rfl
          have s1 := hR.r0.cell (j := 1) (v := .slice ka S.chans.length kc) rfl
          have s2 := hR.r0.cell (j := 2) (v := .slice sa S.slots.length sc) rfl
          have HR := Lib.hid hR
          have HWF := Lib.hid hwf
          have R1 := Lib.hid r1
          have HRT2 := Lib.hid hrt
          have HNR := Lib.hid hnr
          have HRN := Lib.hid hrn
          clear hR hwf r1 hrt hnr hrn htk
          go_wp2_with fail
          refine (HNX.out D _ _ _ (HE.out.up HR.out.d) (HS.out.up HR.out.d) HWF.out.wld HRT2.out ht).mono ?_
          rintro e w3 ⟨xc, xl, rfl, hN, b3⟩
          obtain ⟨a7, c7, rfl⟩ := hN.wld.c.form
          obtain ⟨a8, c8, rfl⟩ := hN.wld.l.form
          have HN := Lib.hid hN
          have B3 := Lib.hid b3
          clear b3 hN q0 q1 q2 s0 s1 s2
          go_wp2_with (refine wpList_store_rowW rfl 61 (.tmp 6) (.tmp 26) rfl w1.heap.size #[.int .i64 (D.tick + 1), .slice a7 (nextC S D).cells.length c7, .slice a8 (nextC S D).lines.length c8] rfl rfl 61 _ (R1.out.up B3.out R1.out.lt) sizeWld rfl (world_one _ _ _ _ _ _ _) ?_)
          intro W4 HW4
          have RN4 : Hid (RnS w W4 w1.heap.size (.slice pa S.parts.length pc) (.slice ka S.chans.length kc) (.slice sa S.slots.length sc) (nextC S D)) := by
            show RnS _ _ _ _ _ _ _
            rw [HW4.out]
            have hg := HR.out.g0
            have hl1 := R1.out.lt
            have hsz := HR.out.d.size
            refine ⟨below_row (HR.out.d.trans (B3.out.mono hsz)) (by omega) _, (HR.out.r0.up B3.out HR.out.r0.lt).row_other _ (by omega), (HR.out.rb.up B3.out HR.out.rb.lt).row_other _ (by omega), ⟨a7, c7, a8, c8, ?_, (HN.out.row (by omega) _).low (by omega)⟩, hg⟩
            rw [HNR.out]
            exact (R1.out.up B3.out R1.out.lt).row _
          clear HW4 HN B3 HR HWF R1 HRT2 HNR
          go_wp2
          go_roundw
          case rel => exact ⟨k + 1, by go_num, by omega, by rw [HRN.out]; exact RN4⟩
          case measure => simp [intOf]; omega
        · obtain rfl : k = m := by omega
          have hli : ¬ (k : Int) < k := by omega
          obtain ⟨hrt, htk⟩ := runN_right HKS.out k HRT.out (by show (0 : Int) + k ≤ 300; omega)
          have HDD := Lib.hid (show runN S k (beginC S) = D' by rw [← HD.out, Int.toNat_natCast])
          rw [HDD.out] at hR
          obtain ⟨ua, uc, la, lc, r1, hwf⟩ := hR.r1
          have HR := Lib.hid hR
          have HWF := Lib.hid hwf
          have R1 := Lib.hid r1
          have hsz := hR.d.size
          have hlb := hR.rb.lt
          clear hR hwf r1 hrt htk HDD HD
          go_wp2_with (first | (refine wpList_load_row rfl 61 (.tmp 6) rfl w1.heap.size rfl 61 _ (0, 0) _ R1.out Tryz.underlying61 rfl sizeWld ?_) | (refine wpList_store_row rfl 61 (.tmp 4) (.tmp 28) rfl (w.heap.size + 1) #[.int .i64 D'.tick, .slice ua D'.cells.length uc, .slice la D'.lines.length lc] rfl rfl 61 _ HR.out.rb sizeWld rfl (world_one _ _ _ _ _ _ _) ?_))
          refine bodyPost_ret (results_row_tmp Tryz.results17 _ _ (w.heap.size + 1) _ _ rfl rfl (run_loadVar_row _ _ 61 _ #[.int .i64 D'.tick, .slice ua D'.cells.length uc, .slice la D'.lines.length lc] (0, 0) _ (HR.out.rb.row _) Tryz.underlying61 rfl sizeWld)) rfl ⟨_, _, rfl, (HWF.out.row (by omega) _).low (by omega), below_row HR.out.d (by omega) _⟩
  · have h0' : (c0 != 0) = true := by simpa using h0
    have hw3 : runE S n = c0 := by unfold runE; rw [hc0, if_pos h0]
    obtain rfl : e0 = c0 := by rw [← hk, hw3]
    have HD : Hid (wldZ = D') := by
      show _ = _
      rw [← hD, runR, if_neg (by rw [hw3]; exact h0)]
    clear hk hD hw3 hc0 h0 hB
    go_enter Tryz.func17, Tryz.ntmps17
    go_wp2_with fail
    refine (HC.out _ (HE.out.up up0) (HS.out.up up0)).mono ?_
    rintro e w1 ⟨xc, xl, rfl, hN, b1⟩
    obtain ⟨a5, c5, rfl⟩ := hN.wld.c.form
    obtain ⟨a6, c6, rfl⟩ := hN.wld.l.form
    have z1 := b1.size
    simp at z1
    have RB : Hid (Rw w1 (w.heap.size + 1) 61 #[.int .i64 0, .slice none 0 0, .slice none 0 0]) := Rw.up (by repeat (first | exact Rw.new _ _ _ (by first | rfl | (simp; done) | omega | (simp; omega)) | refine Rw.alloc ?_ _)) b1 (by first | omega | (simp; done) | (simp; omega))
    have HB : Hid (Below w.heap.size w w1) := by
      refine Below.trans ?_ (b1.mono (by first | omega | (simp; done) | (simp; omega)))
      exact up0
    clear b1 HC hN
    go_wp2_with (refine wpList_store_rowW rfl 61 (.tmp 6) (.tmp 11) rfl w1.heap.size #[.int .i64 B.tick, .slice a5 B.cells.length c5, .slice a6 B.lines.length c6] rfl rfl 61 #[.int .i64 0, .slice none 0 0, .slice none 0 0] (by repeat (first | exact Rw.new _ _ _ (by first | rfl | (simp; done) | omega | (simp; omega)) | refine Rw.alloc ?_ _)) sizeWld rfl (world_one _ _ _ _ _ _ _) ?_)
    intro W HW1
    have RB2 : Hid (Rw W (w.heap.size + 1) 61 #[.int .i64 0, .slice none 0 0, .slice none 0 0]) := by
      show Rw _ _ _ _
      rw [HW1.out]
      exact (RB.out.up ((Below.refl _ _).alloc (Nat.le_refl _) _) (by omega)).row_other _ (by omega)
    have HB2 : Hid (Below w.heap.size w W) := by
      show Below _ _ _
      rw [HW1.out]
      exact below_row (HB.out.alloc (by omega) _) (by omega) _
    clear HW1 RB HB
    go_wp2_with (refine wpList_store_row rfl 61 (.tmp 4) (.tmp 15) rfl (w.heap.size + 1) #[.int .i64 0, .slice none 0 0, .slice none 0 0] rfl rfl 61 #[.int .i64 0, .slice none 0 0, .slice none 0 0] RB2.out sizeWld rfl (world_one _ _ _ _ _ _ _) ?_)
    refine bodyPost_ret (results_row_tmp Tryz.results17 _ _ (w.heap.size + 1) _ _ rfl rfl (run_loadVar_row _ _ 61 _ #[.int .i64 0, .slice none 0 0, .slice none 0 0] (0, 0) _ (RB2.out.row _) Tryz.underlying61 rfl sizeWld)) rfl ⟨.slice none 0 0, .slice none 0 0, by rw [← HD.out]; rfl, by rw [← HD.out]; exact WldF.nil _ _, below_row HB2.out (by omega) _⟩
end Go.Proofs.YtbkdoohhdkahiaaGreatDoor
namespace Go.Proofs.YtbkdoohhdkahiaaGreatDoor
set_option linter.unusedSimpArgs false
set_option linter.unusedVariables false
open Go.RowKit Go.Sort
theorem rowC_one {α : Type} {f : α → List Value} (h : ∀ x, ∀ u ∈ f x, u.oneCell' = true) (l : List α) : ∀ u ∈ rowC f l, u.oneCell' = true := by
  intro u hu
  unfold rowC at hu
  obtain ⟨x, _, hx⟩ := List.mem_flatMap.1 hu
  exact h x u hx
theorem chC_one (x : Chn) : ∀ u ∈ chC x, u.oneCell' = true := by
  intro u hu
  simp [chC] at hu
  rcases hu with rfl | rfl | rfl <;> rfl
theorem slC_one (x : Slt) : ∀ u ∈ slC x, u.oneCell' = true := by
  intro u hu
  simp [slC] at hu
  rcases hu with rfl | rfl <;> rfl
theorem ins_one (x : Ins) : ∀ u ∈ x.cells, u.oneCell' = true := by
  intro u hu
  simp [Ins.cells] at hu
  rcases hu with rfl | rfl | rfl | rfl <;> rfl
theorem codeC_one : ∀ l : List Ins, ∀ u ∈ codeC l, u.oneCell' = true
  | [], u, h => by cases h
  | i :: r, u, h => by
    rcases List.mem_append.1 h with h | h
    · exact ins_one i u h
    · exact codeC_one r u h
theorem infoChan : (Tryz.prog.info? 126).map (fun i => (i.zero, i.size, i.bytes)) = some (some (.agg #[.int .i64 0, .int .i64 0, .int .i64 0]), 3, 24) := by kernel_rfl
theorem infoSlot : (Tryz.prog.info? 128).map (fun i => (i.zero, i.size, i.bytes)) = some (some (.agg #[.int .i64 0, .int .i64 0]), 2, 16) := by kernel_rfl
theorem infoIns : (Tryz.prog.info? 124).map (fun i => (i.zero, i.size, i.bytes)) = some (some (.agg #[.int .i64 0, .int .i64 0, .int .i64 0, .int .i64 0]), 4, 32) := by kernel_rfl
theorem infoIntC : (Tryz.prog.info? 3).map (fun i => (i.zero, i.size, i.bytes)) = some (some (.int .i64 0), 1, 8) := by kernel_rfl
end Go.Proofs.YtbkdoohhdkahiaaGreatDoor
namespace Go.Proofs.YtbkdoohhdkahiaaGreatDoor
set_option linter.unusedSimpArgs false
set_option linter.unusedVariables false
open Go.RowKit Go.Sort
def thE (S : SysD) (part : Int) : Int := if chkS S = 0 then (if withinB part 0 ((S.parts.length : Int) - 1) then 0 else 5) else chkS S
end Go.Proofs.YtbkdoohhdkahiaaGreatDoor
namespace Go.Proofs.YtbkdoohhdkahiaaGreatDoor
set_option linter.unusedSimpArgs false
set_option linter.unusedVariables false
open Go.RowKit Go.Sort
set_option maxHeartbeats 1000000 in
theorem vcopChan_any (l : List Chn) (hl : l.length ≤ 1000) (v : Value) (w : World) (hS : Sl w 3 v l.length (rowC chC l)) :
    Calls Tryz.prog 85 #[v] w fun e w' => ∃ v', e = .returned v' ∧ w'.ownsRow w.heap.size 126 3 v' l.length (rowC chC l) ∧ Below w.heap.size w w' := by
  obtain ⟨i0, hi, hz0, hz1, hz2⟩ := info_parts infoChan
  by_cases h0 : l.length = 0
  · obtain ⟨ao, cap, rfl⟩ := hS.form
    have hxs : l = [] := List.length_eq_zero_iff.1 h0
    subst hxs
    clear hS h0 hl
    go_enter Tryz.func85, Tryz.ntmps85
    cases ao
    all_goals
      go_wp2
      go_ret
      exact ⟨_, rfl, World.ownsRow_nil _ _ _ _, Below.refl _ _⟩
  · obtain ⟨b, off, cap, rfl, hcap, hbw, hc⟩ := hS.open (by omega)
    have HCC := Lib.hid hc
    clear hS hc
    go_enter Tryz.func85, Tryz.ntmps85
    go_wp2_with (at_builtin; refine wpList_append_lies _ rfl (.const (.slice none 0 0)) (.tmp 3) 36 rfl w.heap.size 126 i0 (.agg #[.int .i64 0, .int .i64 0, .int .i64 0]) 3 24 Tryz.underlying36 hi hz0 hz1 hz2 rfl (by decide) (.slice none 0 0) 0 [] rfl (World.ownsRow_nil _ _ _ _) ⟨b, off, none⟩ l.length cap (rowC chC l) rfl (rowC_len (f := chC) (s := 3) (fun _ => rfl) l) (sl_src HCC.out) (rowC_one chC_one l) (by omega) (by unfold maxLen; omega) (by omega) (Nat.le_refl _) _ rfl ?_)
    intro g cap1 w3 hown hgrow hat hglt
    have hu := Lib.hid ((Below.refl w.heap.size w).grown hgrow (Nat.le_refl _) (fun k hk => by cases hk))
    have hown2 : w3.ownsRow w.heap.size 126 3 (.slice (some ⟨g, 0, none⟩) l.length cap1) l.length (rowC chC l) := by simpa using hown
    have HO := Lib.hid hown2
    clear hown hown2 hgrow hat HCC
    try simp only [Nat.zero_add]
    go_wp2
    go_ret
    exact ⟨_, rfl, HO.out, hu.out⟩
set_option maxHeartbeats 1000000 in
theorem vcopSlot_any (l : List Slt) (hl : l.length ≤ 1000) (v : Value) (w : World) (hS : Sl w 2 v l.length (rowC slC l)) :
    Calls Tryz.prog 86 #[v] w fun e w' => ∃ v', e = .returned v' ∧ w'.ownsRow w.heap.size 128 2 v' l.length (rowC slC l) ∧ Below w.heap.size w w' := by
  obtain ⟨i0, hi, hz0, hz1, hz2⟩ := info_parts infoSlot
  by_cases h0 : l.length = 0
  · obtain ⟨ao, cap, rfl⟩ := hS.form
    have hxs : l = [] := List.length_eq_zero_iff.1 h0
    subst hxs
    clear hS h0 hl
    go_enter Tryz.func86, Tryz.ntmps86
    cases ao
    all_goals
      go_wp2
      go_ret
      exact ⟨_, rfl, World.ownsRow_nil _ _ _ _, Below.refl _ _⟩
  · obtain ⟨b, off, cap, rfl, hcap, hbw, hc⟩ := hS.open (by omega)
    have HCC := Lib.hid hc
    clear hS hc
    go_enter Tryz.func86, Tryz.ntmps86
    go_wp2_with (at_builtin; refine wpList_append_lies _ rfl (.const (.slice none 0 0)) (.tmp 3) 37 rfl w.heap.size 128 i0 (.agg #[.int .i64 0, .int .i64 0]) 2 16 Tryz.underlying37 hi hz0 hz1 hz2 rfl (by decide) (.slice none 0 0) 0 [] rfl (World.ownsRow_nil _ _ _ _) ⟨b, off, none⟩ l.length cap (rowC slC l) rfl (rowC_len (f := slC) (s := 2) (fun _ => rfl) l) (sl_src HCC.out) (rowC_one slC_one l) (by omega) (by unfold maxLen; omega) (by omega) (Nat.le_refl _) _ rfl ?_)
    intro g cap1 w3 hown hgrow hat hglt
    have hu := Lib.hid ((Below.refl w.heap.size w).grown hgrow (Nat.le_refl _) (fun k hk => by cases hk))
    have hown2 : w3.ownsRow w.heap.size 128 2 (.slice (some ⟨g, 0, none⟩) l.length cap1) l.length (rowC slC l) := by simpa using hown
    have HO := Lib.hid hown2
    clear hown hown2 hgrow hat HCC
    try simp only [Nat.zero_add]
    go_wp2
    go_ret
    exact ⟨_, rfl, HO.out, hu.out⟩
set_option maxHeartbeats 1000000 in
theorem vcopIns_any (l : List Ins) (hl : l.length ≤ 1000) (v : Value) (w : World) (hS : Sl w 4 v l.length (codeC l)) :
    Calls Tryz.prog 83 #[v] w fun e w' => ∃ v', e = .returned v' ∧ w'.ownsRow w.heap.size 124 4 v' l.length (codeC l) ∧ Below w.heap.size w w' := by
  obtain ⟨i0, hi, hz0, hz1, hz2⟩ := info_parts infoIns
  by_cases h0 : l.length = 0
  · obtain ⟨ao, cap, rfl⟩ := hS.form
    have hxs : l = [] := List.length_eq_zero_iff.1 h0
    subst hxs
    clear hS h0 hl
    go_enter Tryz.func83, Tryz.ntmps83
    cases ao
    all_goals
      go_wp2
      go_ret
      exact ⟨_, rfl, World.ownsRow_nil _ _ _ _, Below.refl _ _⟩
  · obtain ⟨b, off, cap, rfl, hcap, hbw, hc⟩ := hS.open (by omega)
    have HCC := Lib.hid hc
    clear hS hc
    go_enter Tryz.func83, Tryz.ntmps83
    go_wp2_with (at_builtin; refine wpList_append_lies _ rfl (.const (.slice none 0 0)) (.tmp 3) 40 rfl w.heap.size 124 i0 (.agg #[.int .i64 0, .int .i64 0, .int .i64 0, .int .i64 0]) 4 32 Tryz.underlying40 hi hz0 hz1 hz2 rfl (by decide) (.slice none 0 0) 0 [] rfl (World.ownsRow_nil _ _ _ _) ⟨b, off, none⟩ l.length cap (codeC l) rfl (codeC_len l) (sl_src HCC.out) (codeC_one l) (by omega) (by unfold maxLen; omega) (by omega) (Nat.le_refl _) _ rfl ?_)
    intro g cap1 w3 hown hgrow hat hglt
    have hu := Lib.hid ((Below.refl w.heap.size w).grown hgrow (Nat.le_refl _) (fun k hk => by cases hk))
    have hown2 : w3.ownsRow w.heap.size 124 4 (.slice (some ⟨g, 0, none⟩) l.length cap1) l.length (codeC l) := by simpa using hown
    have HO := Lib.hid hown2
    clear hown hown2 hgrow hat HCC
    try simp only [Nat.zero_add]
    go_wp2
    go_ret
    exact ⟨_, rfl, HO.out, hu.out⟩
set_option maxHeartbeats 1000000 in
theorem vcopInt_any (l : List Int) (hl : l.length ≤ 1000) (v : Value) (w : World) (hS : Sl w 1 v l.length (ints l)) :
    Calls Tryz.prog 84 #[v] w fun e w' => ∃ v', e = .returned v' ∧ w'.ownsRow w.heap.size 3 1 v' l.length (ints l) ∧ Below w.heap.size w w' := by
  obtain ⟨i0, hi, hz0, hz1, hz2⟩ := info_parts infoIntC
  by_cases h0 : l.length = 0
  · obtain ⟨ao, cap, rfl⟩ := hS.form
    have hxs : l = [] := List.length_eq_zero_iff.1 h0
    subst hxs
    clear hS h0 hl
    go_enter Tryz.func84, Tryz.ntmps84
    cases ao
    all_goals
      go_wp2
      go_ret
      exact ⟨_, rfl, World.ownsRow_nil _ _ _ _, Below.refl _ _⟩
  · obtain ⟨b, off, cap, rfl, hcap, hbw, hc⟩ := hS.open (by omega)
    have HCC := Lib.hid hc
    clear hS hc
    go_enter Tryz.func84, Tryz.ntmps84
    go_wp2_with (at_builtin; refine wpList_append_lies _ rfl (.const (.slice none 0 0)) (.tmp 3) 41 rfl w.heap.size 3 i0 (.int .i64 0) 1 8 Tryz.underlying41 hi hz0 hz1 hz2 rfl (by decide) (.slice none 0 0) 0 [] rfl (World.ownsRow_nil _ _ _ _) ⟨b, off, none⟩ l.length cap (ints l) rfl (by simp [ints]) (sl_src HCC.out) (ints_cell l) (by omega) (by unfold maxLen; omega) (by omega) (Nat.le_refl _) _ rfl ?_)
    intro g cap1 w3 hown hgrow hat hglt
    have hu := Lib.hid ((Below.refl w.heap.size w).grown hgrow (Nat.le_refl _) (fun k hk => by cases hk))
    have hown2 : w3.ownsRow w.heap.size 3 1 (.slice (some ⟨g, 0, none⟩) l.length cap1) l.length (ints l) := by simpa using hown
    have HO := Lib.hid hown2
    clear hown hown2 hgrow hat HCC
    try simp only [Nat.zero_add]
    go_wp2
    go_ret
    exact ⟨_, rfl, HO.out, hu.out⟩
theorem enVcopIns : Enters 83 := enters Tryz.func83 (by kernel_rfl) (by kernel_rfl)
theorem enVcopInt : Enters 84 := enters Tryz.func84 (by kernel_rfl) (by kernel_rfl)
theorem enVcopChan : Enters 85 := enters Tryz.func85 (by kernel_rfl) (by kernel_rfl)
theorem enVcopSlot : Enters 86 := enters Tryz.func86 (by kernel_rfl) (by kernel_rfl)
def isPB (S : SysD) (n : Int) : Bool := decide (0 ≤ n) && decide (n < S.parts.length)
set_option maxHeartbeats 1000000 in
theorem visPart_any (S : SysD) (vp vc vs : Value) (n : Int) (w : World) (hS : Sys w vp vc vs S) (r : Bool) (hr : isPB S n = r) :
    Calls Tryz.prog 75 #[.agg #[vp, vc, vs], .int .i64 n] w fun e w' => e = .returned (.bool r) ∧ Below w.heap.size w w' := by
  obtain ⟨pa, pc, rfl⟩ := hS.p.form
  obtain ⟨ca, cc, rfl⟩ := hS.c.form
  obtain ⟨sa, sc, rfl⟩ := hS.s.form
  have HD : Hid (Below w.heap.size w (w.alloc (.cells #[.slice pa S.parts.length pc, .slice ca S.chans.length cc, .slice sa S.slots.length sc] 39))) := Lib.hid ((Below.refl _ _).alloc (Nat.le_refl _) _)
  have HR := Lib.hid hr
  clear hS hr
  by_cases h0 : 0 ≤ n
  · have e1 : Hid (decide (n < (S.parts.length : Int)) = r) := Lib.hid (by rw [← HR.out]; simp [isPB, h0])
    go_enter Tryz.func75, Tryz.ntmps75
    go_wp2
    go_ret
    exact ⟨ret_bool e1.out, HD.out⟩
  · have e1 : Hid (false = r) := Lib.hid (by rw [← HR.out]; simp [isPB, h0])
    have h0' : decide (0 ≤ n) = false := by simpa using h0
    go_enter Tryz.func75, Tryz.ntmps75
    go_wp2
    go_ret
    exact ⟨ret_bool e1.out, HD.out⟩
theorem isPB_th {S : SysD} (h : chkS S = 0) (n : Int) : thE S n = if isPB S n = true then 0 else 5 := by
  unfold thE isPB withinB
  rw [if_pos h]
  by_cases h1 : 0 ≤ n ∧ n < S.parts.length
  · rw [if_pos (by simp; omega), if_pos (by simp; omega)]
  · rw [if_neg (by simp; omega), if_neg (by simp; omega)]
set_option maxHeartbeats 2000000 in
theorem vcheckPart_any (S : SysD) (vp vc vs : Value) (n : Int) (w : World) (he : Env w) (hS : Sys w vp vc vs S) (r : Int) (hr : thE S n = r) :
    Calls Tryz.prog 42 #[.agg #[vp, vc, vs], .int .i64 n] w fun e w' => e = .returned (.int .i64 r) ∧ Below w.heap.size w w' := by
  obtain ⟨pa, pc, rfl⟩ := hS.p.form
  obtain ⟨ca, cc, rfl⟩ := hS.c.form
  obtain ⟨sa, sc, rfl⟩ := hS.s.form
  have HE := Lib.hid he
  have HS := Lib.hid hS
  have HR := Lib.hid hr
  clear he hS hr
  go_enter Tryz.func42, Tryz.ntmps42
  go_wp2_with fail
  refine (confCheck_any S _ _ _ _ (HE.out.up up0) (HS.out.up up0)).mono ?_
  rintro e w1 ⟨rfl, b1⟩
  have z1 := b1.size
  simp at z1
  have R0 : Hid (Rw w1 w.heap.size 39 #[.slice pa S.parts.length pc, .slice ca S.chans.length cc, .slice sa S.slots.length sc]) := Rw.up (by repeat (first | exact Rw.new _ _ _ (by first | rfl | (simp; done) | omega | (simp; omega)) | refine Rw.alloc ?_ _)) b1 (by first | omega | (simp; done) | (simp; omega))
  have HB : Hid (Below w.heap.size w w1) := by
    refine Below.trans ?_ (b1.mono (by first | omega | (simp; done) | (simp; omega)))
    exact up0
  clear b1
  by_cases hk : chkS S = 0
  · have e1 := isPB_th hk n
    rw [HR.out] at e1
    have E1 := Lib.hid e1
    obtain ⟨q, hq⟩ : ∃ q, isPB S n = q := ⟨_, rfl⟩
    rw [hq] at E1
    have s0 := R0.out.cell (j := 0) (v := .slice pa S.parts.length pc) rfl
    have s1 := R0.out.cell (j := 1) (v := .slice ca S.chans.length cc) rfl
    have s2 := R0.out.cell (j := 2) (v := .slice sa S.slots.length sc) rfl
    rw [hk]
    clear hk e1
    go_wp2_with fail
    refine (visPart_any S _ _ _ n _ (HS.out.up HB.out) q hq).mono ?_
    rintro e w2 ⟨rfl, b2⟩
    have HB2 := Lib.hid (HB.out.trans (b2.mono HB.out.size))
    clear b2 s0 s1 s2 hq
    cases q with
    | true =>
      have e2 : r = 0 := E1.out
      subst e2
      go_wp2
      go_ret
      exact ⟨rfl, HB2.out⟩
    | false =>
      have e2 : r = 5 := E1.out
      subst e2
      go_wp2
      go_ret
      exact ⟨rfl, HB2.out⟩
  · have hkb : (chkS S == 0) = false := by simpa using hk
    have e2 : r = chkS S := by rw [← HR.out]; unfold thE; rw [if_neg hk]
    subst e2
    clear hk
    go_wp2
    go_ret
    exact ⟨rfl, HB.out⟩
end Go.Proofs.YtbkdoohhdkahiaaGreatDoor
namespace Go.Proofs.YtbkdoohhdkahiaaGreatDoor
set_option linter.unusedSimpArgs false
set_option linter.unusedVariables false
open Go.RowKit Go.Sort
theorem wp_buildOne {P : Program} {o : Oper} {a : Act} {w : World} {K : Act → World → Prop} {Q : Exit → Act → World → Prop} (t e : TypeId) (x : Operand) (ho : o.op = .buildSlice t 1 #[(0, x)])
    (cs : Array Value) (hx : a.eval x = .agg cs) (hu : P.underlying t = some (.slice e)) (hsz : (P.info? e).map (·.size) = some cs.size) (hz : ((P.info? e).bind (·.zero)).isSome = true) (hpos : 0 < cs.size) (hsmall : cs.size ≤ 2 ^ 24)
    (h : K (a.put o.dst (.slice (some ⟨w.heap.size, 0, none⟩) 1 1)) (w.alloc (.cells cs e))) : o.wp P a w K Q := by
  cases hie : P.info? e with
  | none => simp [hie] at hsz
  | some ie =>
    simp only [hie, Option.map_some, Option.some.injEq, Option.bind_some] at hsz hz
    obtain ⟨z, hzz⟩ := Option.isSome_iff_exists.1 hz
    refine wp_buildSlice t e 1 _ ho cs ie z hu hie hzz (by omega) (by omega) ?_ h
    have hf := Great.fill_whole (s := ie.size) (by omega) [.agg cs] ((Array.range (1 * ie.size)).map (z.cells[· % z.cells.size]!)) (fun v hv => by simp at hv; subst hv; simpa [Value.cells] using hsz.symm) (by simp)
    simpa [hx, Value.cells] using hf
end Go.Proofs.YtbkdoohhdkahiaaGreatDoor
namespace Go.Proofs.YtbkdoohhdkahiaaGreatDoor
set_option linter.unusedSimpArgs false
set_option linter.unusedVariables false
open Go.RowKit Go.Sort
section
variable {w wr wr' : World} {b : Nat} {sr w4 : Array Value} {c : Cel} {o : Value} {out : List Int} {vl vl' : Value} {ls ls' : List (List Int)}
end
structure ViwD where
  d : CelD
  ls : List (List Int)
def viwZ : ViwD := ⟨⟨celZ, []⟩, []⟩
structure VwR (n : Nat) (w : World) (o vl : Value) (V : ViwD) : Prop where
  so : Sl w 1 o V.d.out.length (ints V.d.out)
  l : LinesR w vl V.ls
  no : NewB n o
  nl : ∃ vs : List Value, vs.length = V.ls.length ∧ Sl w 1 vl V.ls.length vs ∧ ∀ k (hk : k < V.ls.length) (hk' : k < vs.length), Sl w 1 vs[k] V.ls[k].length (ints V.ls[k]) ∧ NewB n vs[k]
  nv : NewB n vl
theorem VwR.up {n : Nat} {w w' : World} {o vl : Value} {V : ViwD} (h : VwR n w o vl V) (hb : Below w.heap.size w w') : VwR n w' o vl V := by
  obtain ⟨vs, h1, h2, h3⟩ := h.nl
  exact ⟨h.so.up hb, h.l.up hb, h.no, ⟨vs, h1, h2.up hb, fun k hk hk' => ⟨(h3 k hk hk').1.up hb, (h3 k hk hk').2⟩⟩, h.nv⟩
theorem VwR.of {n : Nat} {w : World} {o vl : Value} {V : ViwD} (so : Sl w 1 o V.d.out.length (ints V.d.out)) (no : NewB n o) (nl : ∃ vs : List Value, vs.length = V.ls.length ∧ Sl w 1 vl V.ls.length vs ∧ ∀ k (hk : k < V.ls.length) (hk' : k < vs.length), Sl w 1 vs[k] V.ls[k].length (ints V.ls[k]) ∧ NewB n vs[k]) (nv : NewB n vl) : VwR n w o vl V := by
  obtain ⟨vs, h1, h2, h3⟩ := nl
  exact ⟨so, ⟨vs, h1, h2, fun k hk hk' => (h3 k hk hk').1⟩, no, ⟨vs, h1, h2, h3⟩, nv⟩
theorem VwR.row {n : Nat} {w : World} {o vl : Value} {V : ViwD} (h : VwR n w o vl V) {x : Nat} (hx : x < n) (cs : Array Value) : VwR n (w.setRow x cs) o vl V := by
  obtain ⟨vs, h1, h2, h3⟩ := h.nl
  exact VwR.of (h.so.row cs (fun e => by have := h.no _ e; omega)) h.no ⟨vs, h1, h2.row cs (fun e => by have := h.nv _ e; omega), fun k hk hk' => ⟨(h3 k hk hk').1.row cs (fun e => by have := (h3 k hk hk').2 _ e; omega), (h3 k hk hk').2⟩⟩ h.nv
theorem VwR.low {n m : Nat} {w : World} {o vl : Value} {V : ViwD} (h : VwR n w o vl V) (hm : m ≤ n) : VwR m w o vl V := by
  obtain ⟨vs, h1, h2, h3⟩ := h.nl
  exact VwR.of h.so (h.no.mono hm) ⟨vs, h1, h2, fun k hk hk' => ⟨(h3 k hk hk').1, (h3 k hk hk').2.mono hm⟩⟩ (h.nv.mono hm)
theorem VwR.nil (n : Nat) (w : World) : VwR n w (.slice none 0 0) (.slice none 0 0) viwZ := VwR.of (Sl.nil _ _) (newB_nil _ _) ⟨[], rfl, Sl.nil _ _, fun k hk => by simp [viwZ] at hk⟩ (newB_nil _ _)
theorem VwR.fresh {n : Nat} {w : World} {o vl : Value} {V : ViwD} (h : VwR n w o vl V) (ob : Obj) (u : Array Value) : VwR n ((w.alloc ob).setRow w.heap.size u) o vl V := by
  obtain ⟨vs, h1, h2, h3⟩ := h.nl
  exact VwR.of (sl_fresh h.so ob u) h.no ⟨vs, h1, sl_fresh h2 ob u, fun k hk hk' => ⟨sl_fresh (h3 k hk hk').1 ob u, (h3 k hk hk').2⟩⟩ h.nv
end Go.Proofs.YtbkdoohhdkahiaaGreatDoor

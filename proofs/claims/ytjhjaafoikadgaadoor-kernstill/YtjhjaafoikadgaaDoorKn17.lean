/- ref.RunOf. -/
import Derived.Test.YtjhjaafoikadgaaDoorKn15
import Derived.Test.YtjhjaafoikadgaaDoorKn11
namespace Go.Proofs.YtjhjaafoikadgaaDoor
set_option linter.unusedSimpArgs false
set_option linter.unusedVariables false
open Go.RowKit Go.Sort

set_option maxRecDepth 100000 in
set_option maxHeartbeats 8000000 in
theorem runOf_any (S : SysD) (m : Nat) (hm : m ≤ 300) (vp vc vs : Value) (w : World) (hS : Sys w vp vc vs S) (hk : chkS S = 0) (D' : WldD) (hD : runN S m (beginC S) = D') :
    Calls Tryd.prog 19 #[.agg #[vp, vc, vs], .int .i64 m] w fun e w' => ∃ xc xl, e = .returned (.agg #[.int .i64 D'.tick, xc, xl]) ∧ WldF w.heap.size w' xc xl D' ∧ Below w.heap.size w w' := by
  obtain ⟨pa, pc, rfl⟩ := hS.p.form
  obtain ⟨ka, kc, rfl⟩ := hS.c.form
  obtain ⟨sa, sc, rfl⟩ := hS.s.form
  have HC := Lib.hid fun w hS => beginOf_any S (.slice pa S.parts.length pc) (.slice ka S.chans.length kc) (.slice sa S.slots.length sc) w hS hk
  have HS := Lib.hid hS
  have HRT := Lib.hid (begin_right hk)
  have HNX := Lib.hid fun D uc ul w hS hW hR ht => kernStepRef_any S D (.slice pa S.parts.length pc) (.slice ka S.chans.length kc) (.slice sa S.slots.length sc) uc ul w hS hW hk (Right.t0 (S := S) hR) ht (Right.c hR) (Right.l hR)
  have HKS := Lib.hid hk
  have HD := Lib.hid hD
  clear hS hk hD
  go_enter Tryd.func19, Tryd.ntmps19
  go_wp2_with fail
  refine (HC.out _ (HS.out.up (by repeat (first | exact Below.refl _ _ | assumption | refine Below.drew ?_ | refine Below.alloc ?_ (by first | (simp; done) | (simp; omega)) _ | refine Below.setCell ?_ (by first | (simp; done) | (simp; omega)) _)))).mono ?_
  rintro e w1 ⟨xc, xl, rfl, hN, b1⟩
  obtain ⟨a5, c5, rfl⟩ := hN.wld.c.form
  obtain ⟨a6, c6, rfl⟩ := hN.wld.l.form
  have z1 := b1.size
  simp at z1
  have R0 : Hid (Rw w1 w.heap.size 26 #[.slice pa S.parts.length pc, .slice ka S.chans.length kc, .slice sa S.slots.length sc]) := Rw.up (by repeat (first | exact Rw.new _ _ _ (by first | rfl | (simp; done) | omega | (simp; omega)) | refine Rw.alloc ?_ _)) b1 (by first | omega | (simp; done) | (simp; omega))
  have RB : Hid (Rw w1 (w.heap.size + 1) 30 #[.int .i64 0, .slice none 0 0, .slice none 0 0]) := Rw.up (by repeat (first | exact Rw.new _ _ _ (by first | rfl | (simp; done) | omega | (simp; omega)) | refine Rw.alloc ?_ _)) b1 (by first | omega | (simp; done) | (simp; omega))
  have HB : Hid (Below w.heap.size w w1) := by
    refine Below.trans ?_ (b1.mono (by first | omega | (simp; done) | (simp; omega)))
    exact (by repeat (first | exact Below.refl _ _ | assumption | refine Below.drew ?_ | refine Below.alloc ?_ (by first | (simp; done) | (simp; omega)) _ | refine Below.setCell ?_ (by first | (simp; done) | (simp; omega)) _))
  have HN := Lib.hid (hN.low (B' := w.heap.size + 2) (by simp))
  clear b1 HC hN
  go_wp2_with (refine wpList_store_rowW rfl 30 (.tmp 5) (.tmp 8) rfl w1.heap.size #[.int .i64 0, .slice a5 (beginC S).cells.length c5, .slice a6 (beginC S).lines.length c6] rfl rfl 30 #[.int .i64 0, .slice none 0 0, .slice none 0 0] (by repeat (first | exact Rw.new _ _ _ (by first | rfl | (simp; done) | omega | (simp; omega)) | refine Rw.alloc ?_ _)) sizeWld rfl (world_one _ _ _ _ _ _ _) ?_)
  intro W HW1
  have hRn : RnS w W w1.heap.size (.slice pa S.parts.length pc) (.slice ka S.chans.length kc) (.slice sa S.slots.length sc) (beginC S) := by
    rw [HW1.out]
    have hb0 : Below w1.heap.size w1 (w1.alloc (.cells #[.int .i64 0, .slice none 0 0, .slice none 0 0] 30)) := (Below.refl _ _).alloc (Nat.le_refl _) _
    refine ⟨below_row (HB.out.alloc (by omega) _) (by omega) _, (R0.out.up hb0 (by omega)).row_other _ (by omega), (RB.out.up hb0 (by omega)).row_other _ (by omega), ⟨a5, c5, a6, c6, Rw.row (cs := #[.int .i64 0, .slice none 0 0, .slice none 0 0]) (by repeat (first | exact Rw.new _ _ _ (by first | rfl | (simp; done) | omega | (simp; omega)) | refine Rw.alloc ?_ _)) _, HN.out.fresh _ _⟩, by omega⟩
  have RN := Lib.hid hRn
  clear HW1 RB HB R0 hRn HN
  go_wp2
  go_loopw [6] (fun i wr => ∃ k : Nat, i = .int .i64 k ∧ k ≤ m ∧ Hid (RnS w wr w1.heap.size (.slice pa S.parts.length pc) (.slice ka S.chans.length kc) (.slice sa S.slots.length sc) (runN S k (beginC S)))) (fun i _ => m - (intOf i).toNat)
  case atStart => exact ⟨0, rfl, Nat.zero_le _, RN⟩
  case round =>
    obtain ⟨k, rfl, hk, HR⟩ := hrel
    have hR := HR.out
    clear HR RN
    by_cases hlt : k < m
    · have hli : (k : Int) < m := by omega
      obtain ⟨hrt, htk⟩ := runN_right HKS.out k HRT.out (by show (0 : Int) + k ≤ 300; omega)
      have hnr := (next_right HKS.out hrt (by rw [htk]; show (0 : Int) + k < 300; omega)).2
      have hrn := runN_last S k (beginC S)
      have ht : (runN S k (beginC S)).tick < 300 := by rw [htk]; show (0 : Int) + k < 300; omega
      generalize runN S k (beginC S) = D at hR hrt hnr hrn ht
      obtain ⟨ua, uc, la, lc, r1, hwf⟩ := hR.r1
      have q0 := r1.cell (j := 0) (v := .int .i64 D.tick) rfl
      have q1 := r1.cell (j := 1) (v := .slice ua D.cells.length uc) rfl
      have q2 := r1.cell (j := 2) (v := .slice la D.lines.length lc) rfl
      have s0 := hR.r0.cell (j := 0) (v := .slice pa S.parts.length pc) rfl
      have s1 := hR.r0.cell (j := 1) (v := .slice ka S.chans.length kc) rfl
      have s2 := hR.r0.cell (j := 2) (v := .slice sa S.slots.length sc) rfl
      have HR := Lib.hid hR
      have HWF := Lib.hid hwf
      have R1 := Lib.hid r1
      have HRT2 := Lib.hid hrt
      have HNR := Lib.hid hnr
      have HRN := Lib.hid hrn
      clear hR hwf r1 hrt hnr hrn htk
      go_wp2_with fail
      refine (HNX.out D _ _ _ (HS.out.up HR.out.d) HWF.out.wld HRT2.out ht).mono ?_
      rintro e w3 ⟨xc, xl, rfl, hN, b3⟩
      obtain ⟨a7, c7, rfl⟩ := hN.wld.c.form
      obtain ⟨a8, c8, rfl⟩ := hN.wld.l.form
      have HN := Lib.hid hN
      have B3 := Lib.hid b3
      clear b3 hN q0 q1 q2 s0 s1 s2
      go_wp2_with (refine wpList_store_rowW rfl 30 (.tmp 5) (.tmp 16) rfl w1.heap.size #[.int .i64 (D.tick + 1), .slice a7 (nextC S D).cells.length c7, .slice a8 (nextC S D).lines.length c8] rfl rfl 30 _ (R1.out.up B3.out R1.out.lt) sizeWld rfl (world_one _ _ _ _ _ _ _) ?_)
      intro W4 HW4
      have RN4 : Hid (RnS w W4 w1.heap.size (.slice pa S.parts.length pc) (.slice ka S.chans.length kc) (.slice sa S.slots.length sc) (nextC S D)) := by
        show RnS _ _ _ _ _ _ _
        rw [HW4.out]
        have hg := HR.out.g0
        have hl1 := R1.out.lt
        have hsz := HR.out.d.size
        refine ⟨below_row (HR.out.d.trans (B3.out.mono hsz)) (by omega) _, (HR.out.r0.up B3.out HR.out.r0.lt).row_other _ (by omega), (HR.out.rb.up B3.out HR.out.rb.lt).row_other _ (by omega), ⟨a7, c7, a8, c8, ?_, (HN.out.row (by omega) _).low (by omega)⟩, hg⟩
        rw [HNR.out]
        exact (R1.out.up B3.out R1.out.lt).row _
      clear HW4 HN B3 HR HWF R1 HRT2 HNR
      go_wp2
      go_roundw
      case rel => exact ⟨k + 1, by go_num, by omega, by rw [HRN.out]; exact RN4⟩
      case measure => simp [intOf]; omega
    · obtain rfl : k = m := by omega
      have hli : ¬ (k : Int) < k := by omega
      rw [HD.out] at hR
      obtain ⟨ua, uc, la, lc, r1, hwf⟩ := hR.r1
      have HR := Lib.hid hR
      have HWF := Lib.hid hwf
      have R1 := Lib.hid r1
      have hsz := hR.d.size
      have hlb := hR.rb.lt
      clear hR hwf r1
      go_wp2_with (first | (refine wpList_load_row rfl 30 (.tmp 5) rfl w1.heap.size rfl 30 _ (0, 0) _ R1.out Tryd.underlying30 rfl sizeWld ?_) | (refine wpList_store_row rfl 30 (.tmp 4) (.tmp 17) rfl (w.heap.size + 1) #[.int .i64 D'.tick, .slice ua D'.cells.length uc, .slice la D'.lines.length lc] rfl rfl 30 _ HR.out.rb sizeWld rfl (world_one _ _ _ _ _ _ _) ?_))
      refine bodyPost_ret (results_cell_row Tryd.results19 _ _ (w.heap.size + 1) 30 #[.int .i64 D'.tick, .slice ua D'.cells.length uc, .slice la D'.lines.length lc] (0, 0) _ rfl (HR.out.rb.row _) Tryd.underlying30 rfl sizeWld) rfl ⟨.slice ua D'.cells.length uc, .slice la D'.lines.length lc, rfl, (HWF.out.row (x := w.heap.size + 1) (by omega) _).low (B' := w.heap.size) (by omega), below_row (g := w.heap.size + 1) HR.out.d (by omega) _⟩
end Go.Proofs.YtjhjaafoikadgaaDoor

/- Worlds that are right, or come of a step or a run, are small. -/
import Derived.Test.YtjhjaafoikadgaaDoorKn11
import Derived.Test.YtjhjaafoikadgaaDoorKn12
namespace Go.Proofs.YtjhjaafoikadgaaDoor
set_option linter.unusedSimpArgs false
set_option linter.unusedVariables false
open Go.RowKit Go.Sort

theorem small_right {S : SysD} {D : WldD} (hk : chkS S = 0) (hR : Right S D) : WSmall D := by
  obtain ⟨h1, h2⟩ := countsS hk
  have hlc := cellsB_len hR.c
  have hll := linesB_len hR.l
  refine ⟨by omega, by omega, fun k h => ?_, fun k h => ?_⟩
  · have := ((fine_iff _ _).1 (celB_is (cellsB_at hR.c k (by omega) h)).1).2.2.2.2.2.2
    omega
  · have := chkL_zero (linesB_at hR.l k (by omega) h)
    omega
theorem small_nil : WSmall wldZ := ⟨by decide, by decide, fun k h => by simp [wldZ] at h, fun k h => by simp [wldZ] at h⟩
theorem small_step (S : SysD) (D : WldD) : WSmall (stepR S D) := by
  unfold stepR
  split
  · rename_i h
    obtain ⟨h1, h2, h3⟩ := stepW_zero h
    exact small_right h1 (next_right h1 h2 h3).1
  · exact small_nil
theorem small_run (S : SysD) (n : Int) : WSmall (runR S n) := by
  unfold runR
  split
  · rename_i h
    obtain ⟨h1, h2, h3⟩ := runE_zero h
    exact small_right h1 (runN_right h1 n.toNat (begin_right h1) (by show (0 : Int) + (n.toNat : Int) ≤ 300; omega)).1
  · exact small_nil
theorem stepW_of {S : SysD} {D : WldD} (c : Int) (h : chkW S D = c) : stepW S D = if c ≠ 0 then c else if D.tick = 300 then 3 else 0 := by
  unfold stepW
  rw [h]
end Go.Proofs.YtjhjaafoikadgaaDoor

/- kernBegun: what must be in any case. -/
import Derived.Test.YtehhhiodfcdnmaaGreatDoorR32
import Derived.Test.YtehhhiodfcdnmaaGreatDoorR33
namespace Go.Proofs.YtehhhiodfcdnmaaGreatDoor
set_option linter.unusedSimpArgs false
set_option linter.unusedVariables false
open Go.RowKit Go.Sort
def wB : WldD := ⟨0, [⟨⟨0, 0, 0, 0, 0, 0, 0, 0, 0, 0, 0, 0, 0, 0, 0⟩, []⟩, ⟨⟨0, 0, 0, 0, 0, 0, 0, 0, 0, 0, 0, 0, 0, 0, 0⟩, []⟩, ⟨⟨0, 0, 0, 0, 0, 0, 0, 0, 0, 0, 0, 0, 0, 0, 0⟩, []⟩, ⟨⟨0, 0, 0, 0, 0, 0, 0, 0, 0, 0, 0, 0, 0, 0, 0⟩, []⟩], [[], []]⟩
def w12 : WldD := ⟨12, [⟨⟨2, 1, 0, 0, 0, 0, 0, 0, 0, 0, 0, 0, 0, 1, 1⟩, []⟩, ⟨⟨4, 6, 1, 0, 0, 0, 0, 0, 0, 0, 0, 0, 0, 0, 0⟩, [6]⟩, ⟨⟨3, 6, 1, 0, 0, 0, 0, 0, 0, 0, 0, 0, 0, 0, 1⟩, [6]⟩, ⟨⟨1, 0, 0, 0, 0, 0, 0, 0, 0, 0, 0, 0, 0, 0, 0⟩, [0]⟩], [[], [6]]⟩
def wX : WldD := ⟨1, [⟨⟨1, 6, 0, 0, 0, 0, 0, 0, 0, 0, 0, 0, 0, 1, 0⟩, []⟩, ⟨⟨0, 0, 0, 0, 0, 0, 0, 0, 0, 0, 0, 0, 0, 0, 0⟩, []⟩, ⟨⟨0, 0, 0, 0, 0, 0, 0, 0, 0, 0, 0, 0, 0, 0, 0⟩, []⟩, ⟨⟨0, 0, 0, 0, 0, 0, 0, 0, 0, 0, 0, 0, 0, 0, 0⟩, []⟩], [[], []]⟩
theorem relayB : beginR relayS = wB := by kernel_rfl
theorem relay12 : runR relayS 12 = w12 := by kernel_rfl
theorem relayX : stepR relayS wB = wX := by kernel_rfl
theorem relayE12 : runE relayS 12 = 0 := by kernel_rfl
theorem relayEX : stepW relayS wB = 0 := by kernel_rfl
theorem relayC : chkW relayS wB = 0 := by kernel_rfl
theorem relayC1 : chkW relayS wldZ = 1 := by kernel_rfl
theorem ent_relay : Enters 40 := enters Tryz.func40 kr kr
theorem ent_kStep : Enters 27 := enters Tryz.func27 kr kr
theorem ent_kCheck : Enters 30 := enters Tryz.func30 kr kr
theorem relay_s (w : World) : Calls Tryz.prog 40 #[] w fun e w' => ∃ vp vc vs, e = .returned (.agg #[vp, vc, vs]) ∧ Sys w' vp vc vs relayS ∧ Below w.heap.size w w' := by
 refine (relay_any w).mono ?_
 rintro e w' ⟨vp, vc, vs, h1, h2, h3⟩
 exact ⟨vp, vc, vs, h1, h2.sys, h3⟩
theorem kBegin_r (vp vc vs : Value) (w : World) (he : Env w) (hS : Sys w vp vc vs relayS) :
  Calls Tryz.prog 66 #[.agg #[vp, vc, vs]] w fun e w' => ∃ ca cc la lc, e = .returned (.tuple #[.agg #[.int .i64 0, .slice ca 4 cc, .slice la 2 lc], .int .i64 0]) ∧ WldF w.heap.size w' (.slice ca 4 cc) (.slice la 2 lc) wB ∧ Below w.heap.size w w' := by
 refine (kernBegin_any relayS vp vc vs w he hS 0 relay_chk wB relayB).mono ?_
 rintro e w' ⟨xc, xl, rfl, h2, h3⟩
 obtain ⟨ca, cc, rfl⟩ := h2.wld.c.form
 obtain ⟨la, lc, rfl⟩ := h2.wld.l.form
 exact ⟨ca, cc, la, lc, rfl, h2, h3⟩
theorem kRun_r (vp vc vs : Value) (w : World) (he : Env w) (hS : Sys w vp vc vs relayS) :
  Calls Tryz.prog 39 #[.agg #[vp, vc, vs], .int .i64 12] w fun e w' => ∃ ca cc la lc, e = .returned (.tuple #[.agg #[.int .i64 12, .slice ca 4 cc, .slice la 2 lc], .int .i64 0]) ∧ WldF w.heap.size w' (.slice ca 4 cc) (.slice la 2 lc) w12 ∧ Below w.heap.size w w' := by
 refine (kernRun_any relayS 12 vp vc vs w he hS 0 relayE12 w12 relay12).mono ?_
 rintro e w' ⟨xc, xl, rfl, h2, h3⟩
 obtain ⟨ca, cc, rfl⟩ := h2.wld.c.form
 obtain ⟨la, lc, rfl⟩ := h2.wld.l.form
 exact ⟨ca, cc, la, lc, rfl, h2, h3⟩
theorem kStep_r (vp vc vs uc ul : Value) (w : World) (he : Env w) (hS : Sys w vp vc vs relayS) (hW : Wld w uc ul wB) :
  Calls Tryz.prog 27 #[.agg #[vp, vc, vs], .agg #[.int .i64 0, uc, ul]] w fun e w' => ∃ ca cc la lc, e = .returned (.tuple #[.agg #[.int .i64 1, .slice ca 4 cc, .slice la 2 lc], .int .i64 0]) ∧ WldF w.heap.size w' (.slice ca 4 cc) (.slice la 2 lc) wX ∧ Below w.heap.size w w' := by
 refine (kernStep_any relayS wB vp vc vs uc ul w he hS hW 0 relayEX wX relayX).mono ?_
 rintro e w' ⟨xc, xl, rfl, h2, h3⟩
 obtain ⟨ca, cc, rfl⟩ := h2.wld.c.form
 obtain ⟨la, lc, rfl⟩ := h2.wld.l.form
 exact ⟨ca, cc, la, lc, rfl, h2, h3⟩
theorem kCheck_r (vp vc vs uc ul : Value) (w : World) (he : Env w) (hS : Sys w vp vc vs relayS) (hW : Wld w uc ul wB) :
  Calls Tryz.prog 30 #[.agg #[vp, vc, vs], .agg #[.int .i64 0, uc, ul]] w fun e w' => e = .returned (.int .i64 0) ∧ Below w.heap.size w w' := by
 have h := kernCheck_any relayS wB vp vc vs uc ul w he hS hW
 rw [relayC] at h
 exact h
theorem kCheck_z (vp vc vs : Value) (w : World) (he : Env w) (hS : Sys w vp vc vs relayS) :
  Calls Tryz.prog 30 #[.agg #[vp, vc, vs], .agg #[.int .i64 0, .slice none 0 0, .slice none 0 0]] w fun e w' => e = .returned (.int .i64 1) ∧ Below w.heap.size w w' := by
 have h := kernCheck_any relayS wldZ vp vc vs (.slice none 0 0) (.slice none 0 0) w he hS (WldF.nil 0 w).wld
 rw [relayC1] at h
 exact h
theorem cells12 {w : World} {ca : Option Addr} {cc : Nat} (h : CellsR w (.slice ca 4 cc) w12.cells) : ∃ b off a1 d1 a2 d2 a3 d3, ca = some ⟨b, off, none⟩ ∧ b < w.heap.size ∧ w.cell? ⟨b, off + 15, none⟩ = some (.int .i64 1) ∧ w.cell? ⟨b, off + 16 + 14, none⟩ = some (.slice a1 1 d1) ∧ w.cell? ⟨b, off + 32 + 14, none⟩ = some (.slice a2 1 d2) ∧ w.cell? ⟨b, off + 32 + 15, none⟩ = some (.int .i64 1) ∧ w.cell? ⟨b, off + 48 + 14, none⟩ = some (.slice a3 1 d3) ∧ Sl w 1 (.slice a1 1 d1) 1 (ints [6]) ∧ Sl w 1 (.slice a2 1 d2) 1 (ints [6]) ∧ Sl w 1 (.slice a3 1 d3) 1 (ints [0]) := by
 obtain ⟨b, off, cap, e, _, hb, hc⟩ := h.open (by decide)
 injection e with e _ _
 obtain ⟨a0, d0, r0, _⟩ := hc 0 (by decide)
 obtain ⟨a1, d1, r1, s1⟩ := hc 1 (by decide)
 obtain ⟨a2, d2, r2, s2⟩ := hc 2 (by decide)
 obtain ⟨a3, d3, r3, s3⟩ := hc 3 (by decide)
 exact ⟨b, off, a1, d1, a2, d2, a3, d3, e, hb, r0 15 _ rfl, r1 14 _ rfl, r2 14 _ rfl, r2 15 _ rfl, r3 14 _ rfl, s1, s2, s3⟩
theorem cellsX {w : World} {ca : Option Addr} {cc : Nat} (h : CellsR w (.slice ca 4 cc) wX.cells) : ∃ b off, ca = some ⟨b, off, none⟩ ∧ b < w.heap.size ∧ w.cell? ⟨b, off + 13, none⟩ = some (.int .i64 1) := by
 obtain ⟨b, off, cap, e, _, hb, hc⟩ := h.open (by decide)
 injection e with e _ _
 obtain ⟨a0, d0, r0, _⟩ := hc 0 (by decide)
 exact ⟨b, off, e, hb, r0 13 _ rfl⟩
end Go.Proofs.YtehhhiodfcdnmaaGreatDoor

/- Worlds that are right, or come of a step or a run, are small. -/
import Derived.Test.YtnnnljfdjdehaaaDoorJ14
import Derived.Test.YtnnnljfdjdehaaaDoorJ13
import Derived.Test.YtnnnljfdjdehaaaDoorJ12
import Derived.Test.YtnnnljfdjdehaaaDoorJ10
import Derived.WalkKit
import Derived.ProofKit
import Derived.OpenShut
import Derived.Carry
import Derived.Test.YtnnnljfdjdehaaaDoorRows
import Derived.Test.YtnnnljfdjdehaaaDoorJ1
import Derived.Test.YtnnnljfdjdehaaaDoorJ0
import Derived.WideWitness
import Derived.LaidLaws
import Derived.Lib.SmallJoins
import Derived.Deep.DeepHandedRow
import Derived.Deep.Slices
import Derived.Deep.Strs
import Derived.Laws.IdiomArrays
namespace Go.Proofs.YtnnnljfdjdehaaaDoor
set_option linter.unusedSimpArgs false
set_option linter.unusedVariables false
open Go.RowKit Go.Sort

theorem small_right {S : SysD} {D : WldD} (hk : chkS S = 0) (hR : Right S D) : WSmall D := by
  obtain ⟨h1, h2⟩ := countsS hk
  have hlc := cellsB_len hR.c
  have hll := linesB_len hR.l
  refine ⟨by omega, by omega, fun k h => ?_, fun k h => ?_⟩
  · have := ((fine_iff _ _).1 (celB_is (cellsB_at hR.c k (by omega) h)).1).2.2.2.2.2.2
    omega
  · have := chkL_zero (linesB_at hR.l k (by omega) h)
    omega
theorem small_nil : WSmall wldZ := ⟨by decide, by decide, fun k h => by simp [wldZ] at h, fun k h => by simp [wldZ] at h⟩
theorem small_step (S : SysD) (D : WldD) : WSmall (stepR S D) := by
  unfold stepR
  split
  · rename_i h
    obtain ⟨h1, h2, h3⟩ := stepW_zero h
    exact small_right h1 (next_right h1 h2 h3).1
  · exact small_nil
theorem small_run (S : SysD) (n : Int) : WSmall (runR S n) := by
  unfold runR
  split
  · rename_i h
    obtain ⟨h1, h2, h3⟩ := runE_zero h
    exact small_right h1 (runN_right h1 n.toNat (begin_right h1) (by show (0 : Int) + (n.toNat : Int) ≤ 300; omega)).1
  · exact small_nil
theorem stepW_of {S : SysD} {D : WldD} (c : Int) (h : chkW S D = c) : stepW S D = if c ≠ 0 then c else if D.tick = 300 then 3 else 0 := by
  unfold stepW
  rw [h]
end Go.Proofs.YtnnnljfdjdehaaaDoor

namespace Go.Proofs.YtnnnljfdjdehaaaDoor
set_option linter.unusedSimpArgs false
set_option linter.unusedVariables false
open Go.RowKit Go.Sort

theorem entRelayF : Enters 37 := enters Tryd.func37 (by kernel_rfl) (by kernel_rfl)
theorem entLay : Enters 7 := enters Tryd.func7 (by kernel_rfl) (by kernel_rfl)
theorem relayF (w : World) : Calls Tryd.prog 37 #[] w fun e w' => ∃ vp vc vs, e = .returned (.agg #[vp, vc, vs]) ∧ Sys w' vp vc vs relayS ∧ Below w.heap.size w w' := by
  refine (relay_any w).mono ?_
  rintro e w' ⟨vp, vc, vs, h1, h2, h3⟩
  exact ⟨vp, vc, vs, h1, h2.sys, h3⟩
theorem relayE7 : runE relayS 7 = 0 := by kernel_rfl
theorem relayT7 : (runR relayS 7).tick = 7 := by kernel_rfl
theorem relayC7 : chkW relayS (runR relayS 7) = 0 := by kernel_rfl
theorem relayO1 : ownE relayS 1 = 0 := by kernel_rfl
theorem relayO1l : (ownsF relayS 1).length = 137 := by kernel_rfl
theorem relayS0 : chkS relayS = 0 := by kernel_rfl
theorem relayL7 : (rowF (runR relayS 7)).length = 137 := by kernel_rfl
theorem lay7 (D : WldD) (hC : chkW relayS D = 0) (hl : (rowF D).length = 137) (vp vc vs uc ul : Value) (w : World) (he : Env w) (hS : Sys w vp vc vs relayS) (hW : Wld w uc ul D) :
    Calls Tryd.prog 7 #[.agg #[vp, vc, vs], .agg #[.int .i64 D.tick, uc, ul]] w fun e w' => ∃ a c, e = .returned (.tuple #[.slice a 137 c, .int .i64 0]) ∧ Sl w' 1 (.slice a 137 c) (rowF D).length (ints (rowF D)) ∧ Below w.heap.size w w' := by
  refine (flatLay_any relayS D vp vc vs uc ul w he hS hW).mono ?_
  rintro e w' ⟨v, rfl, h1, h2⟩
  have e1 : laidF relayS D = rowF D := if_pos hC
  rw [e1] at h1
  obtain ⟨a, c, rfl⟩ := own_form h1
  rw [hC]
  have h3 := own_sl h1
  rw [hl] at h3 ⊢
  exact ⟨a, c, rfl, h3, h2⟩
theorem lift7 (D : WldD) (hC : chkW relayS D = 0) (u : Value) (vp vc vs : Value) (w : World) (he : Env w) (hS : Sys w vp vc vs relayS) (hl : Sl w 1 u (rowF D).length (ints (rowF D))) :
    Calls Tryd.prog 10 #[.agg #[vp, vc, vs], u] w fun e w' => ∃ uc ul, e = .returned (.tuple #[.agg #[.int .i64 D.tick, uc, ul], .int .i64 0]) ∧ WldF w.heap.size w' uc ul D ∧ Below w.heap.size w w' := by
  refine flatLift_any relayS (rowF D) vp vc vs u w he hS hl 0 ?_ D ?_
  · unfold liftW
    rw [if_neg (by rw [relayS0]; simp), liftD_row hC, if_neg (by simp)]
  · unfold liftR
    rw [if_pos relayS0, liftD_row hC]
    rfl
theorem own7 (vp vc vs : Value) (w : World) (he : Env w) (hS : Sys w vp vc vs relayS) :
    Calls Tryd.prog 16 #[.agg #[vp, vc, vs], .int .i64 1] w fun e w' => ∃ b off c, e = .returned (.tuple #[.slice (some ⟨b, off, none⟩) 137 c, .int .i64 0]) ∧ b < w'.heap.size ∧ w'.cell? ⟨b, off, none⟩ = some (.bool true) ∧ w'.cell? ⟨b, off + 1, none⟩ = some (.bool false) ∧ w'.cell? ⟨b, off + 33, none⟩ = some (.bool true) ∧ w'.cell? ⟨b, off + 65, none⟩ = some (.bool false) ∧ w'.cell? ⟨b, off + 129, none⟩ = some (.bool true) ∧ Below w.heap.size w w' := by
  refine (flatOwn_any relayS 1 vp vc vs w he hS).mono ?_
  rintro e w' ⟨v, rfl, h1, h2⟩
  rw [relayO1]
  rw [relayO1l] at h1
  obtain ⟨b, off, c, rfl, _, hb, hc⟩ := (own_sl h1).open (by omega)
  refine ⟨b, off, c, rfl, hb, ?_, hc 1 _ (by kernel_rfl), hc 33 _ (by kernel_rfl), hc 65 _ (by kernel_rfl), hc 129 _ (by kernel_rfl), h2⟩
  have := hc 0 (.bool true) (by kernel_rfl)
  rwa [Nat.add_zero] at this
theorem row0 {D : WldD} {t : Int} (ht : D.tick = t) : (ints (rowF D))[0]? = some (.int .i64 t) := by
  subst ht
  simp [rowF, ints]
set_option maxRecDepth 100000 in
set_option maxHeartbeats 16000000 in
theorem flatBegun_any (w : World) (he : Env w) : Calls Tryd.prog 13 #[] w fun e w' => e = .returned (.bool true) ∧ Below w.heap.size w w' := by
  obtain ⟨D, hD⟩ : ∃ D, runR relayS 7 = D := ⟨_, rfl⟩
  have ht := relayT7
  have hC := relayC7
  have hL := relayL7
  have hsm := small_run relayS 7
  rw [hD] at ht hC hL hsm
  have HRUN := Lib.hid fun vp vc vs w he hS => kernRun_any relayS 7 vp vc vs w he hS 0 relayE7 D hD
  have HT := Lib.hid ht
  have HC := Lib.hid hC
  have HL := Lib.hid hL
  have HSM := Lib.hid hsm
  have HE := Lib.hid he
  clear ht hC hL hsm he hD
  go_enter Tryd.func13, Tryd.ntmps13
  go_wp2_with fail
  refine (relayF _).mono ?_
  rintro e w1 ⟨vp, vc, vs, rfl, hS, b1⟩
  have HE1 := Lib.hid (HE.out.up b1)
  have HD1 := Lib.hid b1
  have HS := Lib.hid hS
  clear hS b1
  go_wp2_with fail
  refine (HRUN.out _ _ _ _ HE1.out HS.out).mono ?_
  rintro e w2 ⟨xc, xl, rfl, hN, b2⟩
  obtain ⟨ca, cc, rfl⟩ := hN.wld.c.form
  obtain ⟨la, lc, rfl⟩ := hN.wld.l.form
  have z1 := HD1.out.size
  have HE2 := Lib.hid (HE1.out.up b2)
  have HD2 := Lib.hid (HD1.out.trans (b2.mono z1))
  have HN := Lib.hid hN
  have z2 := b2.size
  clear b2 hN HS HE1 HD1 HRUN
  go_wp2_with (refine wpList_store_rowW rfl 30 (.tmp 1) (.tmp 12) rfl w2.heap.size #[.int .i64 D.tick, .slice ca D.cells.length cc, .slice la D.lines.length lc] rfl rfl 30 #[.int .i64 0, .slice none 0 0, .slice none 0 0] (by repeat (first | exact Rw.new _ _ _ (by first | rfl | (simp; done) | omega | (simp; omega)) | refine Rw.alloc ?_ _)) sizeWld rfl (by simp [Value.oneCell']) ?_)
  intro W3 HW3
  have b3 : Below w2.heap.size w2 W3 := by rw [HW3.out]; exact below_row ((Below.refl _ _).alloc (Nat.le_refl _) _) (Nat.le_refl _) _
  have RB : Hid (Rw W3 w2.heap.size 30 #[.int .i64 D.tick, .slice ca D.cells.length cc, .slice la D.lines.length lc]) := by
    show Rw _ _ _ _
    rw [HW3.out]
    exact Rw.row (cs := #[.int .i64 0, .slice none 0 0, .slice none 0 0]) (by repeat (first | exact Rw.new _ _ _ (by first | rfl | (simp; done) | omega | (simp; omega)) | refine Rw.alloc ?_ _)) _
  have N3 : Hid (Wld W3 (.slice ca D.cells.length cc) (.slice la D.lines.length lc) D) := by
    show Wld _ _ _ _
    rw [HW3.out]
    exact (HN.out.fresh _ _).wld
  have HE3 := Lib.hid (HE2.out.up b3)
  have HD3 := Lib.hid (HD2.out.trans (b3.mono (by omega)))
  have z3 := RB.out.lt
  have z3' := b3.size
  clear HW3 b3 HN HE2 HD2
  go_wp2
  refine region_still (S := fun w' => Below W3.heap.size W3 w') 7 (by kernel_rfl) (Below.refl _ _).drew (fun hHeld => ?_)
  refine Still.takeBy (i := 1) [] (v := ?v1) (by kernel_rfl) (by kernel_rfl) rfl (by kernel_rfl) (by kernel_rfl) (by kernel_rfl) (fun _ _ _ h => h) (Or.inl ⟨by rfl, ?y1⟩) hHeld ?r1
  case y1 => (intro w' hSw; (try dsimp only at hSw); have y0 := (RB.out.up hSw (by omega)).cell (j := 0) (v := .int .i64 D.tick) rfl; have y1 := (RB.out.up hSw (by omega)).cell (j := 1) (v := .slice ca D.cells.length cc) rfl; have y2 := (RB.out.up hSw (by omega)).cell (j := 2) (v := .slice la D.lines.length lc) rfl; clear hSw; go_simp; try with_reducible rfl)
  simp only [Act.put, List.getElem_toArray, List.getElem_cons_zero, List.getElem_cons_succ, List.setIfInBounds_toArray, List.set_cons_zero, List.set_cons_succ]
  refine Still.all (rs := [0]) (by kernel_rfl) (by simp) (Still.one (i := 0) rfl rfl (fun K hK => ?_) (by simp))
  refine wp_call 37 _ _ rfl entRelayF #[] (by first | rfl | simp [Act.eval, Act.put]) ((relayF _).mono ?_)
  rintro e w4 ⟨vp4, vc4, vs4, rfl, hS4, b4⟩
  have B4 : Below W3.heap.size W3 w4 := (Below.refl _ _).drew.trans b4
  refine ⟨_, rfl, hK _ _ (fun _ => B4) (fun hh => ?_)⟩
  have hHeld := hh (by decide)
  clear hK K hh
  try simp only [Act.put, List.getElem_toArray, List.getElem_cons_zero, List.getElem_cons_succ, List.setIfInBounds_toArray, List.set_cons_zero, List.set_cons_succ]
  clear b4
  refine Still.all (rs := [2]) (by kernel_rfl) (by simp) (Still.one (i := 2) rfl rfl (fun K hK => ?_) (by simp))
  refine wp_call 7 _ _ rfl entLay #[.agg #[vp4, vc4, vs4], .agg #[.int .i64 D.tick, .slice ca D.cells.length cc, .slice la D.lines.length lc]] (by first | rfl | simp [Act.eval, Act.put]) ((lay7 D HC.out HL.out _ _ _ _ _ _ (HE3.out.up B4) hS4 (N3.out.up B4)).mono ?_)
  rintro e w5 ⟨ra, rc, rfl, hR, b5⟩
  have z4 := B4.size
  have B5 : Below W3.heap.size W3 w5 := B4.trans (b5.mono (by omega))
  refine ⟨_, rfl, hK _ _ (fun _ => B5) (fun hh => ?_)⟩
  have hHeld := hh (by decide)
  clear hK K hh
  try simp only [Act.put, List.getElem_toArray, List.getElem_cons_zero, List.getElem_cons_succ, List.setIfInBounds_toArray, List.set_cons_zero, List.set_cons_succ]
  clear hS4 B4 b5
  refine Still.takeBy (i := 3) [] (v := ?v2) (by kernel_rfl) (by kernel_rfl) rfl (by kernel_rfl) (by kernel_rfl) (by kernel_rfl) (fun _ _ _ h => h) (Or.inl ⟨by rfl, ?y2⟩) hHeld ?r2
  case y2 => (intro w' hSw; (try dsimp only at hSw); clear hSw; go_simp; try with_reducible rfl)
  simp only [Act.put, List.getElem_toArray, List.getElem_cons_zero, List.getElem_cons_succ, List.setIfInBounds_toArray, List.set_cons_zero, List.set_cons_succ]
  refine Still.takeBy (i := 4) [] (v := ?v3) (by kernel_rfl) (by kernel_rfl) rfl (by kernel_rfl) (by kernel_rfl) (by kernel_rfl) (fun _ _ _ h => h) (Or.inl ⟨by rfl, ?y3⟩) hHeld ?r3
  case y3 => (intro w' hSw; (try dsimp only at hSw); clear hSw; go_simp; try with_reducible rfl)
  simp only [Act.put, List.getElem_toArray, List.getElem_cons_zero, List.getElem_cons_succ, List.setIfInBounds_toArray, List.set_cons_zero, List.set_cons_succ]
  refine Still.takeBy (i := 5) [] (v := ?v4) (by kernel_rfl) (by kernel_rfl) rfl (by kernel_rfl) (by kernel_rfl) (by kernel_rfl) (fun _ _ _ h => h) (Or.inl ⟨by rfl, ?y4⟩) hHeld ?r4
  case y4 => (intro w' hSw; (try dsimp only at hSw); clear hSw; go_simp; try with_reducible rfl)
  simp only [Act.put, List.getElem_toArray, List.getElem_cons_zero, List.getElem_cons_succ, List.setIfInBounds_toArray, List.set_cons_zero, List.set_cons_succ]
  refine Still.takeBy (i := 6) [] (v := ?v5) (by kernel_rfl) (by kernel_rfl) rfl (by kernel_rfl) (by kernel_rfl) (by kernel_rfl) (fun _ _ _ h => h) (Or.inl ⟨by rfl, ?y5⟩) hHeld ?r5
  case y5 => (intro w' hSw; (try dsimp only at hSw); clear hSw; go_simp; try with_reducible rfl)
  simp only [Act.put, List.getElem_toArray, List.getElem_cons_zero, List.getElem_cons_succ, List.setIfInBounds_toArray, List.set_cons_zero, List.set_cons_succ]
  refine Still.all (rs := [7]) (by kernel_rfl) (by simp) (Still.one (i := 7) rfl rfl (fun K hK => ?_) (by simp))
  clear hHeld
  go_simp
  refine hK _ _ (fun h => absurd rfl h) (fun _ => ?_)
  clear hK K
  refine Still.over (by kernel_rfl) ?_ _
  have z5 := B5.size
  have RB5 := Lib.hid (RB.out.up B5 RB.out.lt)
  have N5 := Lib.hid (N3.out.up B5)
  have HE5 := Lib.hid (HE3.out.up B5)
  have HD5 := Lib.hid (HD3.out.trans (B5.mono (by omega)))
  have HR5 := Lib.hid hR
  clear hR B5 RB N3 HE3 HD3
  go_wp2_with fail
  refine (relayF _).mono ?_
  rintro e w6 ⟨vp6, vc6, vs6, rfl, hS6, b6⟩
  have z6 := b6.size
  have RB6 := Lib.hid (RB5.out.up b6 RB5.out.lt)
  have N6 := Lib.hid (N5.out.up b6)
  have HE6 := Lib.hid (HE5.out.up b6)
  have HD6 := Lib.hid (HD5.out.trans (b6.mono (by omega)))
  have HR6 := Lib.hid (HR5.out.up b6)
  have HS6 := Lib.hid hS6
  clear hS6 b6 RB5 N5 HE5 HD5 HR5
  go_wp2_with fail
  refine (lift7 D HC.out _ _ _ _ _ HE6.out HS6.out HR6.out).mono ?_
  rintro e w7 ⟨yc, yl, rfl, hN7, b7⟩
  obtain ⟨ya, yb, rfl⟩ := hN7.wld.c.form
  obtain ⟨ea, ec, rfl⟩ := hN7.wld.l.form
  have z7 := b7.size
  have RB7 := Lib.hid (RB6.out.up b7 RB6.out.lt)
  have N7 := Lib.hid (N6.out.up b7)
  have HE7 := Lib.hid (HE6.out.up b7)
  have HD7 := Lib.hid (HD6.out.trans (b7.mono (by omega)))
  have HR7 := Lib.hid (HR6.out.up b7)
  have HN7 := Lib.hid hN7
  clear hN7 b7 RB6 N6 HE6 HD6 HR6 HS6
  go_wp2_with (refine wpList_store_rowW rfl 30 (.tmp 5) (.tmp 24) rfl w7.heap.size #[.int .i64 D.tick, .slice ya D.cells.length yb, .slice ea D.lines.length ec] rfl rfl 30 #[.int .i64 0, .slice none 0 0, .slice none 0 0] (by repeat (first | exact Rw.new _ _ _ (by first | rfl | (simp; done) | omega | (simp; omega)) | refine Rw.alloc ?_ _)) sizeWld rfl (by simp [Value.oneCell']) ?_)
  intro W8 HW8
  have b8 : Below w7.heap.size w7 W8 := by rw [HW8.out]; exact below_row ((Below.refl _ _).alloc (Nat.le_refl _) _) (Nat.le_refl _) _
  have RC8 : Hid (Rw W8 w7.heap.size 30 #[.int .i64 D.tick, .slice ya D.cells.length yb, .slice ea D.lines.length ec]) := by
    show Rw _ _ _ _
    rw [HW8.out]
    exact Rw.row (cs := #[.int .i64 0, .slice none 0 0, .slice none 0 0]) (by repeat (first | exact Rw.new _ _ _ (by first | rfl | (simp; done) | omega | (simp; omega)) | refine Rw.alloc ?_ _)) _
  have NC8 : Hid (Wld W8 (.slice ya D.cells.length yb) (.slice ea D.lines.length ec) D) := by
    show Wld _ _ _ _
    rw [HW8.out]
    exact (HN7.out.fresh _ _).wld
  have RB8 := Lib.hid (RB7.out.up b8 RB7.out.lt)
  have N8 := Lib.hid (N7.out.up b8)
  have HE8 := Lib.hid (HE7.out.up b8)
  have HD8 := Lib.hid (HD7.out.trans (b8.mono (by omega)))
  have HR8 := Lib.hid (HR7.out.up b8)
  have z8 := b8.size
  clear HW8 b8 HN7 RB7 N7 HE7 HD7 HR7
  go_wp2_with fail
  refine (relayF _).mono ?_
  rintro e w9 ⟨vp9, vc9, vs9, rfl, hS9, b9⟩
  have HS9 := Lib.hid hS9
  have HE9 := Lib.hid (HE8.out.up b9)
  have B9 := Lib.hid b9
  clear hS9 b9
  go_wp2_with fail
  refine (own7 _ _ _ _ HE9.out HS9.out).mono ?_
  rintro e wA ⟨ob, oo, oc, rfl, hob, o0, o1, o33, o65, o129, bA⟩
  have z9 := B9.out.size
  have BA : Below W8.heap.size W8 wA := B9.out.trans (bA.mono (by omega))
  have zA := BA.size
  have RBA := Lib.hid (RB8.out.up BA RB8.out.lt)
  have RCA := Lib.hid (RC8.out.up BA RC8.out.lt)
  have NA := Lib.hid (N8.out.up BA)
  have NCA := Lib.hid (NC8.out.up BA)
  have HDA := Lib.hid (HD8.out.trans (BA.mono (by omega)))
  have HRA := HR8.out.up BA
  obtain ⟨rb, ro, rcap, e1, _, _, hrc⟩ := HRA.open (by rw [HL.out]; omega)
  rw [HL.out] at e1
  cases e1
  have l0 := hrc 0 _ (row0 HT.out)
  rw [Nat.add_zero] at l0
  have O0 := Lib.hid o0
  have O1 := Lib.hid o1
  have O33 := Lib.hid o33
  have O65 := Lib.hid o65
  have O129 := Lib.hid o129
  have y0 := RBA.out.cell (j := 0) (v := .int .i64 D.tick) rfl
  have y1 := RBA.out.cell (j := 1) (v := .slice ca D.cells.length cc) rfl
  have y2 := RBA.out.cell (j := 2) (v := .slice la D.lines.length lc) rfl
  have x0 := RCA.out.cell (j := 0) (v := .int .i64 D.tick) rfl
  have x1 := RCA.out.cell (j := 1) (v := .slice ya D.cells.length yb) rfl
  have x2 := RCA.out.cell (j := 2) (v := .slice ea D.lines.length ec) rfl
  clear o0 o1 o33 o65 o129 bA BA HRA hrc HR8 RB8 RC8 N8 NC8 HE8 HE9 HS9 HD8 B9
  go_wp2_with fail
  refine (sameWorlds_yes D HSM.out _ _ _ _ _ NCA.out NA.out).mono ?_
  rintro e wB ⟨rfl, bB⟩
  have o0 := bcl bB hob O0.out
  have o1 := bcl bB hob O1.out
  have o33 := bcl bB hob O33.out
  have o65 := bcl bB hob O65.out
  have o129 := bcl bB hob O129.out
  have HDB := Lib.hid (HDA.out.trans (bB.mono (by omega)))
  clear bB y0 y1 y2 x0 x1 x2 l0
  go_wp2
  go_ret
  exact ⟨rfl, HDB.out⟩
end Go.Proofs.YtnnnljfdjdehaaaDoor

namespace Go.Proofs.YtnnnljfdjdehaaaDoor
set_option linter.unusedSimpArgs false
set_option linter.unusedVariables false
open Go.RowKit Go.Sort

theorem rep_step (ys : List Bool) (j : Nat) (x : Bool) : ys ++ List.replicate (j + 1) x = ys ++ List.replicate j x ++ [x] := by rw [List.replicate_succ', List.append_assoc]
set_option maxRecDepth 100000 in
set_option maxHeartbeats 8000000 in
theorem ownOf_any (S : SysD) (part : Int) (hp : S.parts.length ≤ 4) (hc : S.chans.length ≤ 6) (vp vc vs : Value) (w : World) (hS : Sys w vp vc vs S) :
    Calls Tryd.prog 18 #[.agg #[vp, vc, vs], .int .i64 part] w fun e w' => ∃ v, e = .returned v ∧ w'.ownsRow w.heap.size 4 1 v (ownF S part).length (bolL (ownF S part)) ∧ Below w.heap.size w w' := by
  obtain ⟨i1, hi1, hy0, hy1, hy2⟩ := info_parts infoBoolF
  obtain ⟨pa, pc, rfl⟩ := hS.p.form
  obtain ⟨ka, kc, rfl⟩ := hS.c.form
  obtain ⟨sa, sc, rfl⟩ := hS.s.form
  go_enter Tryd.func18, Tryd.ntmps18
  go_upto_region 1 with fail
  have HRS : Hid (Rw (w.alloc (.cells #[.slice pa S.parts.length pc, .slice ka S.chans.length kc, .slice sa S.slots.length sc] 26)) w.heap.size 26 #[.slice pa S.parts.length pc, .slice ka S.chans.length kc, .slice sa S.slots.length sc]) := Lib.hid (Rw.new _ _ _ rfl)
  have D0 : Hid (Below w.heap.size w (w.alloc (.cells #[.slice pa S.parts.length pc, .slice ka S.chans.length kc, .slice sa S.slots.length sc] 26))) := Lib.hid ((Below.refl _ _).alloc (Nat.le_refl _) _)
  have hX : (w.alloc (.cells #[.slice pa S.parts.length pc, .slice ka S.chans.length kc, .slice sa S.slots.length sc] 26)).heap.size = w.heap.size + 1 := by simp
  generalize w.alloc (.cells #[.slice pa S.parts.length pc, .slice ka S.chans.length kc, .slice sa S.slots.length sc] 26) = X at HRS D0 hX ⊢
  have HSY := Lib.hid (hS.up D0.out)
  have HXS := Lib.hid hX
  have hl1 : w.heap.size < X.heap.size := by omega
  clear hS hX
  have HO := Lib.hid (own_oneB X true)
  have HB : Hid (Below X.heap.size X (X.alloc (.cells #[.bool true] 4))) := Lib.hid ((Below.refl _ _).alloc (Nat.le_refl _) _)
  go_wp2
  go_loopw [6, 5] (fun i l wr => ∃ k : Nat, i = .int .i64 k ∧ k ≤ S.parts.length ∧ Hid (wr.ownsRow X.heap.size 4 1 l ([true] ++ partO k part).length (bolL ([true] ++ partO k part))) ∧ Hid (Below X.heap.size X wr)) (fun i _ _ => S.parts.length - (intOf i).toNat)
  case atStart => exact ⟨0, rfl, Nat.zero_le _, HO, HB⟩
  case round =>
    clear HO HB
    obtain ⟨k, rfl, hk, HO, HB⟩ := hrel
    obtain ⟨a3, c3, hform⟩ := own_form HO.out
    subst hform
    have hw := HB.out.size
    have k0 : wr.cell? ⟨w.heap.size, 0, none⟩ = some (.slice pa S.parts.length pc) := (HRS.out.up HB.out hl1).cell (j := 0) rfl
    by_cases hlt : k < S.parts.length
    · have hli : (k : Int) < S.parts.length := by omega
      have HST : Hid ([true] ++ partO (k + 1) part = [true] ++ partO k part ++ List.replicate 32 ((k : Int) == part)) := Lib.hid (by rw [partO_step, List.append_assoc])
      have HLO : Hid (([true] ++ partO k part).length ≤ 200) := Lib.hid (by rw [List.length_append, partO_len]; simp; omega)
      obtain ⟨x, hx⟩ : ∃ x, ((k : Int) == part) = x := ⟨_, rfl⟩
      rw [hx] at HST
      generalize [true] ++ partO k part = ys at HO HST HLO
      go_wp2
      clear k0
      go_loopw [7, 5] (fun i l wr => ∃ j : Nat, i = .int .i64 j ∧ j ≤ 32 ∧ Hid (wr.ownsRow X.heap.size 4 1 l (ys ++ List.replicate j x).length (bolL (ys ++ List.replicate j x))) ∧ Hid (Below X.heap.size X wr)) (fun i _ _ => 32 - (intOf i).toNat)
      case atStart => exact ⟨0, rfl, Nat.zero_le _, by rw [List.replicate_zero, List.append_nil]; exact HO, HB⟩
      case round =>
        clear HO HB hw
        obtain ⟨j, rfl, hj, HO, HB⟩ := hrel
        obtain ⟨a4, c4, hform⟩ := own_form HO.out
        subst hform
        have hw := HB.out.size
        have HTK := Lib.hid (rep_step ys j x)
        have HLL : Hid ((ys ++ List.replicate j x).length ≤ 240) := Lib.hid (by have := HLO.out; rw [List.length_append, List.length_replicate]; omega)
        have HFU : Hid (j = 32 → [true] ++ partO (k + 1) part = ys ++ List.replicate j x) := Lib.hid (fun e => by rw [e]; exact HST.out)
        generalize ys ++ List.replicate j x = zs at HO HTK HLL HFU
        go_wp2_with fail
        refine (cellSize_any wr).mono ?_
        rintro e w1 ⟨rfl, b1⟩
        have HO3 := Lib.hid (own_upG HO.out b1)
        have HB3 := Lib.hid (HB.out.trans (b1.mono hw))
        have hw3 := HB3.out.size
        clear b1 HO HB
        by_cases hjl : j < 32
        · have hji : (j : Int) < 32 := by omega
          go_wp2_with (at_builtin; refine wpList_append_lies _ rfl (.tmp 23) (.tmp 27) 46 rfl X.heap.size 4 i1 (.bool false) 1 1 Tryd.underlying46 hi1 hy0 hy1 hy2 rfl (by decide) _ zs.length (bolL zs) rfl (HO3.out.alloc _) ⟨w1.heap.size, 0, none⟩ 1 1 [.bool x] rfl rfl (new_rangeF _ _ _ _ rfl) (rep_cell 1 x) (by decide) (by have := HLL.out; unfold maxLen; omega) (by have := HLL.out; omega) (by simp; omega) _ rfl ?_)
          intro g5 cap5 W5 hown hgrow hat hg5
          have HO5 : Hid (W5.ownsRow X.heap.size 4 1 (.slice (some ⟨g5, 0, none⟩) (zs.length + 1) cap5) (zs ++ [x]).length (bolL (zs ++ [x]))) := Lib.hid (by simpa [bolL] using hown)
          have HB5 := Lib.hid ((HB3.out.alloc (by omega) _).grown hgrow (by simp; omega) (fun q e => by have := own_block HO3.out q e; omega))
          clear hown hgrow hat HO3 HB3
          go_wp2
          go_roundw
          case rel => exact ⟨j + 1, by go_num, by omega, by rw [HTK.out]; exact HO5, HB5⟩
          case measure => simp [intOf]; omega
        · have hji : ¬ (j : Int) < 32 := by omega
          have HF := Lib.hid (HFU.out (by omega))
          clear HFU
          go_wp2
          go_roundw
          case rel => exact ⟨k + 1, by go_num, by omega, by rw [HF.out]; exact HO3, HB3⟩
          case measure => simp [intOf]; omega
    · have hli : ¬ (k : Int) < S.parts.length := by omega
      obtain rfl : k = S.parts.length := by omega
      have HL1 : Hid (([true] ++ partO S.parts.length part).length ≤ 200) := Lib.hid (by rw [List.length_append, partO_len]; simp; omega)
      have HRF : Hid (ownF S part = [true] ++ partO S.parts.length part ++ chanO S.chans part) := Lib.hid rfl
      generalize [true] ++ partO S.parts.length part = qs at HO HL1 HRF ⊢
      go_wp2
      clear k0
      go_loopw [8, 5] (fun i l wr => ∃ k : Nat, i = .int .i64 k ∧ k ≤ S.chans.length ∧ Hid (wr.ownsRow X.heap.size 4 1 l (qs ++ chanO (S.chans.take k) part).length (bolL (qs ++ chanO (S.chans.take k) part))) ∧ Hid (Below X.heap.size X wr)) (fun i _ _ => S.chans.length - (intOf i).toNat)
      case atStart => exact ⟨0, rfl, Nat.zero_le _, by rw [List.take_zero, show chanO [] part = [] from rfl, List.append_nil]; exact HO, HB⟩
      case round =>
        clear HO HB hw
        obtain ⟨k, rfl, hk2, HO, HB⟩ := hrel
        obtain ⟨a4, c4, hform⟩ := own_form HO.out
        subst hform
        have hw := HB.out.size
        have k1 : wr.cell? ⟨w.heap.size, 1, none⟩ = some (.slice ka S.chans.length kc) := (HRS.out.up HB.out hl1).cell (j := 1) rfl
        by_cases hkl : k < S.chans.length
        · have hki : (k : Int) < S.chans.length := by omega
          have hk0 : (0 : Int) ≤ k := by omega
          obtain ⟨b', off, cap, e1, hcap, hbw, hcc⟩ := HSY.out.c.open (by omega)
          cases e1
          obtain ⟨hkd, hfr, htt⟩ := chan_cells hcc k hkl
          have HST : Hid (qs ++ chanO (S.chans.take (k + 1)) part = qs ++ chanO (S.chans.take k) part ++ List.replicate 4 (S.chans[k].fr == part || S.chans[k].tt == part)) := Lib.hid (by rw [chanO_step hkl, List.append_assoc])
          have HLO : Hid ((qs ++ chanO (S.chans.take k) part).length ≤ 300) := Lib.hid (by
            have h2 := HL1.out
            rw [List.length_append, chanO_len, List.length_take]
            omega)
          generalize S.chans[k] = ch at hkd hfr htt HST
          obtain ⟨kd, fr, tt⟩ := ch
          simp only at hkd hfr htt HST
          have HFR := Lib.hid hfr
          have HTT := Lib.hid htt
          clear hcc hkd hfr htt
          generalize qs ++ chanO (S.chans.take k) part = ys at HO HST HLO
          obtain ⟨x, hx⟩ : ∃ x, (fr == part || tt == part) = x := ⟨_, rfl⟩
          rw [hx] at HST
          have HX := Lib.hid hx
          clear hx
          go_wp2
          clear k1
          go_loopw [9, 5] (fun i l wr => ∃ j : Nat, i = .int .i64 j ∧ j ≤ 4 ∧ Hid (wr.ownsRow X.heap.size 4 1 l (ys ++ List.replicate j x).length (bolL (ys ++ List.replicate j x))) ∧ Hid (Below X.heap.size X wr)) (fun i _ _ => 4 - (intOf i).toNat)
          case atStart => exact ⟨0, rfl, Nat.zero_le _, by rw [List.replicate_zero, List.append_nil]; exact HO, HB⟩
          case round =>
            clear HO HB hw
            obtain ⟨j, rfl, hj, HO, HB⟩ := hrel
            obtain ⟨a5, c5, hform⟩ := own_form HO.out
            subst hform
            have hw := HB.out.size
            have HTK := Lib.hid (rep_step ys j x)
            have HLL : Hid ((ys ++ List.replicate j x).length ≤ 340) := Lib.hid (by have := HLO.out; rw [List.length_append, List.length_replicate]; omega)
            have HFU : Hid (j = 4 → qs ++ chanO (S.chans.take (k + 1)) part = ys ++ List.replicate j x) := Lib.hid (fun e => by rw [e]; exact HST.out)
            generalize ys ++ List.replicate j x = zs at HO HTK HLL HFU
            go_wp2_with fail
            refine (lineSize_any wr).mono ?_
            rintro e w1 ⟨rfl, hww⟩
            have hww' : w1 = wr := hww
            clear hww
            subst hww'
            have HO3 := HO
            have HB3 := HB
            have hw3 := hw
            clear HO HB
            by_cases hjl : j < 4
            · have hji : (j : Int) < 4 := by omega
              have k1 : w1.cell? ⟨w.heap.size, 1, none⟩ = some (.slice (some ⟨b', off, none⟩) S.chans.length kc) := (HRS.out.up HB3.out hl1).cell (j := 1) rfl
              have c1 := bcl HB3.out hbw HFR.out
              have c2 := bcl HB3.out hbw HTT.out
              have HC1 := Lib.hid c1
              cases h1b : (fr == part) with
              | true =>
                obtain rfl : true = x := by rw [← HX.out, h1b]; rfl
                go_wp2_with (at_builtin; refine wpList_append_lies _ rfl (.tmp 41) (.tmp 60) 46 rfl X.heap.size 4 i1 (.bool false) 1 1 Tryd.underlying46 hi1 hy0 hy1 hy2 rfl (by decide) _ zs.length (bolL zs) rfl (HO3.out.alloc _) ⟨w1.heap.size, 0, none⟩ 1 1 [.bool true] rfl rfl (new_rangeF _ _ _ _ rfl) (rep_cell 1 true) (by decide) (by have := HLL.out; unfold maxLen; omega) (by have := HLL.out; omega) (by simp; omega) _ rfl ?_)
                intro g5 cap5 W5 hown hgrow hat hg5
                have HO5 : Hid (W5.ownsRow X.heap.size 4 1 (.slice (some ⟨g5, 0, none⟩) (zs.length + 1) cap5) (zs ++ [true]).length (bolL (zs ++ [true]))) := Lib.hid (by simpa [bolL] using hown)
                have HB5 := Lib.hid ((HB3.out.alloc (by omega) _).grown hgrow (by simp; omega) (fun q e => by have := own_block HO3.out q e; omega))
                clear hown hgrow hat HO3 HB3
                go_wp2
                go_roundw
                case rel => exact ⟨j + 1, by go_num, by omega, by rw [HTK.out]; exact HO5, HB5⟩
                case measure => simp [intOf]; omega
              | false =>
                cases h2b : (tt == part) with
                | true =>
                  obtain rfl : true = x := by rw [← HX.out, h1b, h2b]; rfl
                  go_wp2_with (at_builtin; refine wpList_append_lies _ rfl (.tmp 41) (.tmp 60) 46 rfl X.heap.size 4 i1 (.bool false) 1 1 Tryd.underlying46 hi1 hy0 hy1 hy2 rfl (by decide) _ zs.length (bolL zs) rfl (HO3.out.alloc _) ⟨w1.heap.size, 0, none⟩ 1 1 [.bool true] rfl rfl (new_rangeF _ _ _ _ rfl) (rep_cell 1 true) (by decide) (by have := HLL.out; unfold maxLen; omega) (by have := HLL.out; omega) (by simp; omega) _ rfl ?_)
                  intro g5 cap5 W5 hown hgrow hat hg5
                  have HO5 : Hid (W5.ownsRow X.heap.size 4 1 (.slice (some ⟨g5, 0, none⟩) (zs.length + 1) cap5) (zs ++ [true]).length (bolL (zs ++ [true]))) := Lib.hid (by simpa [bolL] using hown)
                  have HB5 := Lib.hid ((HB3.out.alloc (by omega) _).grown hgrow (by simp; omega) (fun q e => by have := own_block HO3.out q e; omega))
                  clear hown hgrow hat HO3 HB3
                  go_wp2
                  go_roundw
                  case rel => exact ⟨j + 1, by go_num, by omega, by rw [HTK.out]; exact HO5, HB5⟩
                  case measure => simp [intOf]; omega
                | false =>
                  obtain rfl : false = x := by rw [← HX.out, h1b, h2b]; rfl
                  go_wp2_with (at_builtin; refine wpList_append_lies _ rfl (.tmp 41) (.tmp 60) 46 rfl X.heap.size 4 i1 (.bool false) 1 1 Tryd.underlying46 hi1 hy0 hy1 hy2 rfl (by decide) _ zs.length (bolL zs) rfl (HO3.out.alloc _) ⟨w1.heap.size, 0, none⟩ 1 1 [.bool false] rfl rfl (new_rangeF _ _ _ _ rfl) (rep_cell 1 false) (by decide) (by have := HLL.out; unfold maxLen; omega) (by have := HLL.out; omega) (by simp; omega) _ rfl ?_)
                  intro g5 cap5 W5 hown hgrow hat hg5
                  have HO5 : Hid (W5.ownsRow X.heap.size 4 1 (.slice (some ⟨g5, 0, none⟩) (zs.length + 1) cap5) (zs ++ [false]).length (bolL (zs ++ [false]))) := Lib.hid (by simpa [bolL] using hown)
                  have HB5 := Lib.hid ((HB3.out.alloc (by omega) _).grown hgrow (by simp; omega) (fun q e => by have := own_block HO3.out q e; omega))
                  clear hown hgrow hat HO3 HB3
                  go_wp2
                  go_roundw
                  case rel => exact ⟨j + 1, by go_num, by omega, by rw [HTK.out]; exact HO5, HB5⟩
                  case measure => simp [intOf]; omega
            · have hji : ¬ (j : Int) < 4 := by omega
              have HF := Lib.hid (HFU.out (by omega))
              clear HFU
              go_wp2
              go_roundw
              case rel => exact ⟨k + 1, by go_num, by omega, by rw [HF.out]; exact HO3, HB3⟩
              case measure => simp [intOf]; omega
        · have hki : ¬ (k : Int) < S.chans.length := by omega
          have HE2 : Hid (ownF S part = qs ++ chanO (S.chans.take k) part) := Lib.hid (by rw [List.take_of_length_le (by omega), HRF.out])
          generalize qs ++ chanO (S.chans.take k) part = zs at HO HE2 ⊢
          go_wp2
          go_ret
          have hF : wr.ownsRow w.heap.size 4 1 (.slice a4 zs.length c4) zs.length (bolL zs) := own_low HO.out (by omega)
          exact ⟨_, rfl, by rw [HE2.out]; exact hF, D0.out.trans (HB.out.mono (by omega))⟩
end Go.Proofs.YtnnnljfdjdehaaaDoor

namespace Go.Proofs.YtnnnljfdjdehaaaDoor
set_option linter.unusedSimpArgs false
set_option linter.unusedVariables false
open Go.RowKit Go.Sort

def thE (S : SysD) (part : Int) : Int := if chkS S = 0 then (if withinB part 0 ((S.parts.length : Int) - 1) then 0 else 5) else chkS S
theorem smallT {S : SysD} (h : chkS S = 0) : S.parts.length ≤ 4 ∧ S.chans.length ≤ 6 := by
  unfold chkS at h
  cases hb : countsB S with
  | false => rw [if_pos hb] at h; omega
  | true => simp [countsB] at hb; omega
set_option maxHeartbeats 2000000 in
theorem thereT_any (S : SysD) (hok : S.ok) (vp vc vs : Value) (part : Int) (w : World) (hS : Sys w vp vc vs S) (c : Int) (hc : thE S part = c) :
    Calls Tryd.prog 41 #[.agg #[vp, vc, vs], .int .i64 part] w fun e w' => e = .returned (.int .i64 c) ∧ Below w.heap.size w w' := by
  obtain ⟨pa, pc, rfl⟩ := hS.p.form
  obtain ⟨ca, cc, rfl⟩ := hS.c.form
  obtain ⟨sa, sc, rfl⟩ := hS.s.form
  unfold thE at hc
  generalize hr : chkS S = r at hc
  have HS := Lib.hid hS
  have HR := Lib.hid hr
  clear hS hr
  go_enter Tryd.func41, Tryd.ntmps41
  go_wp2_with fail
  refine (sysRef_any S hok _ _ _ _ (HS.out.up (by repeat (first | exact Below.refl _ _ | assumption | refine Below.drew ?_ | refine Below.alloc ?_ (by first | (simp; done) | (simp; omega)) _ | refine Below.setCell ?_ (by first | (simp; done) | (simp; omega)) _)))).mono ?_
  rw [HR.out]
  rintro e w1 ⟨rfl, bb⟩
  have k0 := ((box_new w (.slice pa S.parts.length pc) (.slice ca S.chans.length cc) (.slice sa S.slots.length sc) 26 _ rfl).up bb).p
  have D := Lib.hid (Below.trans (show Below w.heap.size w _ from (by repeat (first | exact Below.refl _ _ | assumption | refine Below.drew ?_ | refine Below.alloc ?_ (by first | (simp; done) | (simp; omega)) _ | refine Below.setCell ?_ (by first | (simp; done) | (simp; omega)) _))) (bb.mono (by simp)))
  clear bb
  by_cases h0 : r = 0
  · subst h0
    rw [if_pos rfl] at hc
    have sm := (smallT HR.out).1
    go_wp2_with fail
    refine (within_any part 0 ((S.parts.length : Int) - 1) _).mono ?_
    rintro e w2 ⟨rfl, rfl⟩
    cases hw : withinB part 0 ((S.parts.length : Int) - 1)
    all_goals
      rw [hw] at hc
      simp at hc
      subst hc
      go_wp2
      go_ret
      exact ⟨rfl, D.out⟩
  · have h0' : (r != 0) = true := by simpa using h0
    rw [if_neg h0] at hc
    subst hc
    clear h0
    go_wp2
    go_ret
    exact ⟨rfl, D.out⟩
set_option maxHeartbeats 1000000 in
theorem ThereT_any (S : SysD) (hok : S.ok) (vp vc vs : Value) (part : Int) (w : World) (hS : Sys w vp vc vs S) (c : Int) (hc : thE S part = c) :
    Calls Tryd.prog 17 #[.agg #[vp, vc, vs], .int .i64 part] w fun e w' => e = .returned (.int .i64 c) ∧ Below w.heap.size w w' := by
  obtain ⟨pa, pc, rfl⟩ := hS.p.form
  obtain ⟨ca, cc, rfl⟩ := hS.c.form
  obtain ⟨sa, sc, rfl⟩ := hS.s.form
  have HS := Lib.hid hS
  have HC := Lib.hid hc
  clear hS hc
  go_enter Tryd.func17, Tryd.ntmps17
  go_wp2_with fail
  refine (thereT_any S hok _ _ _ part _ (HS.out.up (by repeat (first | exact Below.refl _ _ | assumption | refine Below.drew ?_ | refine Below.alloc ?_ (by first | (simp; done) | (simp; omega)) _ | refine Below.setCell ?_ (by first | (simp; done) | (simp; omega)) _))) c HC.out).mono ?_
  rintro e w1 ⟨rfl, bb⟩
  have D := Lib.hid (Below.trans (show Below w.heap.size w _ from (by repeat (first | exact Below.refl _ _ | assumption | refine Below.drew ?_ | refine Below.alloc ?_ (by first | (simp; done) | (simp; omega)) _ | refine Below.setCell ?_ (by first | (simp; done) | (simp; omega)) _))) (bb.mono (by simp)))
  clear bb
  go_wp2
  go_ret
  exact ⟨rfl, D.out⟩
end Go.Proofs.YtnnnljfdjdehaaaDoor

namespace Go.Proofs.YtnnnljfdjdehaaaDoor
set_option linter.unusedSimpArgs false
set_option linter.unusedVariables false
open Go.RowKit Go.Sort

theorem Below.drewN {B : Nat} {w w' : World} (h : Below B w w') : ∀ q, Below B w (w'.drewN q)
  | 0 => h
  | q + 1 => (Below.drewN h q).drew
theorem ownE_th (S : SysD) (part : Int) : ownE S part = thE S part := by
  unfold ownE thE withinB
  by_cases h : chkS S = 0
  · rw [if_neg (by simpa using h), if_pos h]
    by_cases h2 : part < 0 ∨ (S.parts.length : Int) ≤ part
    · rw [if_pos h2, if_neg (by simp; omega)]
    · rw [if_neg h2, if_pos (by simp; omega)]
  · rw [if_pos h, if_neg h]
set_option maxRecDepth 100000 in
set_option maxHeartbeats 8000000 in
theorem flatOwns_any (S : SysD) (hok : S.ok) (part : Int) (vp vc vs : Value) (w : World) (he : Env w) (hS : Sys w vp vc vs S) :
    Calls Tryd.prog 4 #[.agg #[vp, vc, vs], .int .i64 part] w fun e w' => e = .returned (.bool true) ∧ Below w.heap.size w w' := by
  obtain ⟨pa, pc, rfl⟩ := hS.p.form
  obtain ⟨ka, kc, rfl⟩ := hS.c.form
  obtain ⟨sa, sc, rfl⟩ := hS.s.form
  obtain ⟨c0, hc0⟩ : ∃ c0, thE S part = c0 := ⟨_, rfl⟩
  have HTH := Lib.hid fun w hS => ThereT_any S hok (.slice pa S.parts.length pc) (.slice ka S.chans.length kc) (.slice sa S.slots.length sc) part w hS c0 hc0
  have HC0 := Lib.hid ((ownE_th S part).trans hc0)
  have HCK : Hid (c0 = 0 → chkS S = 0) := Lib.hid fun h => by
    have h1 := hc0
    unfold thE at h1
    by_cases h2 : chkS S = 0
    · exact h2
    · rw [if_neg h2] at h1
      omega
  have HE := Lib.hid he
  have HS := Lib.hid hS
  clear he hS hok hc0
  go_enter Tryd.func4, Tryd.ntmps4
  go_wp2_with fail
  refine (flatOwn_any S part _ _ _ _ (HE.out.up (by repeat (first | exact Below.refl _ _ | assumption | refine Below.drew ?_ | refine Below.alloc ?_ (by first | (simp; done) | (simp; omega)) _ | refine Below.setCell ?_ (by first | (simp; done) | (simp; omega)) _))) (HS.out.up (by repeat (first | exact Below.refl _ _ | assumption | refine Below.drew ?_ | refine Below.alloc ?_ (by first | (simp; done) | (simp; omega)) _ | refine Below.setCell ?_ (by first | (simp; done) | (simp; omega)) _)))).mono ?_
  rw [HC0.out]
  rintro e w1 ⟨v1, rfl, ho, b1⟩
  have z1 := b1.size
  simp at z1
  have R0 : Hid (Rw w1 w.heap.size 26 #[.slice pa S.parts.length pc, .slice ka S.chans.length kc, .slice sa S.slots.length sc]) := Rw.up (by repeat (first | exact Rw.new _ _ _ (by first | rfl | (simp; done) | omega | (simp; omega)) | refine Rw.alloc ?_ _)) b1 (by first | omega | (simp; done) | (simp; omega))
  have HB : Hid (Below w.heap.size w w1) := by
    refine Below.trans ?_ (b1.mono (by first | omega | (simp; done) | (simp; omega)))
    exact (by repeat (first | exact Below.refl _ _ | assumption | refine Below.drew ?_ | refine Below.alloc ?_ (by first | (simp; done) | (simp; omega)) _ | refine Below.setCell ?_ (by first | (simp; done) | (simp; omega)) _))
  obtain ⟨zs, hzs⟩ : ∃ zs, ownsF S part = zs := ⟨_, rfl⟩
  rw [hzs] at ho
  obtain ⟨a1, c1, rfl⟩ := own_form ho
  have SA1 := Lib.hid (own_sl ho)
  have HZS := Lib.hid hzs
  have s0 := R0.out.cell (j := 0) (v := .slice pa S.parts.length pc) rfl
  have s1 := R0.out.cell (j := 1) (v := .slice ka S.chans.length kc) rfl
  have s2 := R0.out.cell (j := 2) (v := .slice sa S.slots.length sc) rfl
  clear b1 ho hzs
  go_wp2_with fail
  refine (HTH.out _ (HS.out.up HB.out)).mono ?_
  rintro e w2 ⟨rfl, b2⟩
  have z2 := b2.size
  have SA2 := Lib.hid (SA1.out.up b2)
  have R02 := Lib.hid (R0.out.up b2 R0.out.lt)
  have HB2 := Lib.hid (HB.out.trans (b2.mono (by omega)))
  have s0 := R02.out.cell (j := 0) (v := .slice pa S.parts.length pc) rfl
  have s1 := R02.out.cell (j := 1) (v := .slice ka S.chans.length kc) rfl
  have s2 := R02.out.cell (j := 2) (v := .slice sa S.slots.length sc) rfl
  clear b2 R0 SA1 HB HTH
  have hcc : (c0 == c0) = true := by simp
  by_cases h0 : c0 = 0
  · subst h0
    obtain ⟨hp, hc⟩ := smallT (HCK.out rfl)
    have HZE : Hid (ownF S part = zs) := Lib.hid (by rw [← HZS.out]; exact (if_pos HC0.out).symm)
    have HOF := Lib.hid fun w hS => ownOf_any S part hp hc (.slice pa S.parts.length pc) (.slice ka S.chans.length kc) (.slice sa S.slots.length sc) w hS
    rw [HZE.out] at HOF
    have hzl : zs.length ≤ 1000 := by
      rw [← HZE.out, ownF, List.length_append, List.length_append, partO_len, chanO_len]
      simp
      omega
    clear hp hc hcc
    go_wp2_with fail
    refine (HOF.out _ (HS.out.up HB2.out)).mono ?_
    rintro e w3 ⟨v3, rfl, ho3, b3⟩
    have z3 := b3.size
    obtain ⟨a3, c3, rfl⟩ := own_form ho3
    have SA := Lib.hid (SA2.out.up b3)
    have SB := Lib.hid (own_sl ho3)
    have HB3 := Lib.hid (HB2.out.trans (b3.mono (by omega)))
    clear b3 ho3 SA2 HB2 s0 s1 s2 R02 HOF
    have HDL := Lib.hid HB3.out
    go_wp2
    go_loopw [9] (fun i wr => ∃ k : Nat, i = .int .i64 k ∧ k ≤ zs.length ∧ Hid (Below w3.heap.size w3 wr)) (fun i _ => zs.length - (intOf i).toNat)
    case atStart => exact ⟨0, rfl, Nat.zero_le _, Lib.hid (Below.refl _ _)⟩
    case round =>
      obtain ⟨k, rfl, hk, HB⟩ := hrel
      by_cases hlt : k < zs.length
      · have hli : (k : Int) < zs.length := by omega
        obtain ⟨b1, o1, p1, e1, _, _, hc1⟩ := (SA.out.up HB.out).open (by omega)
        obtain ⟨b2, o2, p2, e2, _, _, hc2⟩ := (SB.out.up HB.out).open (by omega)
        cases e1
        cases e2
        have c1 := hc1 k (.bool zs[k]) (by simp [bolL, hlt])
        have c2 := hc2 k (.bool zs[k]) (by simp [bolL, hlt])
        clear hc1 hc2
        generalize zs[k] = x at c1 c2
        go_wp2
        go_quiet (fail)
        go_wp2
        go_roundw
        case rel => exact ⟨k + 1, by go_num, by omega, Lib.hid (HB.out.trans (Below.drewN (Below.refl _ _) _))⟩
        case measure => simp [intOf]; omega
      · have hli : ¬ (k : Int) < zs.length := by omega
        have z := HDL.out.size
        have HDB := Lib.hid (HDL.out.trans (HB.out.mono z))
        go_wp2_with fail
        refine (flatBegun_any _ (HE.out.up HDB.out)).mono ?_
        rintro e wz ⟨rfl, bz⟩
        have HZ := Lib.hid (HDB.out.trans (bz.mono HDB.out.size))
        clear bz
        go_wp2
        go_ret
        exact ⟨rfl, HZ.out⟩
  · have h0b : (c0 == 0) = false := by simpa using h0
    have hze : zs = [] := by rw [← HZS.out]; exact if_neg (by rw [HC0.out]; exact h0)
    have SA := SA2
    have SB : Hid (Sl w2 1 (.slice none 0 0) zs.length (bolL zs)) := Lib.hid (by rw [hze]; exact Sl.nil _ _)
    have hz0 : zs.length = 0 := by rw [hze]; rfl
    have hzl : zs.length ≤ 1000 := by omega
    clear h0 hze SA2 s0 s1 s2 R02
    have HDL := Lib.hid HB2.out
    go_wp2
    go_loopw [9] (fun i wr => ∃ k : Nat, i = .int .i64 k ∧ k ≤ zs.length ∧ Hid (Below w2.heap.size w2 wr)) (fun i _ => zs.length - (intOf i).toNat)
    case atStart => exact ⟨0, rfl, Nat.zero_le _, Lib.hid (Below.refl _ _)⟩
    case round =>
      obtain ⟨k, rfl, hk, HB⟩ := hrel
      by_cases hlt : k < zs.length
      · omega
      · have hli : ¬ (k : Int) < zs.length := by omega
        have z := HDL.out.size
        have HDB := Lib.hid (HDL.out.trans (HB.out.mono z))
        go_wp2_with fail
        refine (flatBegun_any _ (HE.out.up HDB.out)).mono ?_
        rintro e wz ⟨rfl, bz⟩
        have HZ := Lib.hid (HDB.out.trans (bz.mono HDB.out.size))
        clear bz
        go_wp2
        go_ret
        exact ⟨rfl, HZ.out⟩
end Go.Proofs.YtnnnljfdjdehaaaDoor

namespace Go.Proofs.YtnnnljfdjdehaaaDoor
set_option linter.unusedSimpArgs false
set_option linter.unusedVariables false
open Go.ChangeShapes Go.WideShapes Go.ChangeAt Go.RowKit

theorem trodAll_below {H : Type} {enc : TypeId × Value → H} {P : Program} (hl : laidOutB P = true) {W W' : World} (hb : Below W.heap.size W W') :
    ∀ (ts : List TypeId) (vs : List Value) (ds : List (DataW H)) (ps : List MemPlace), (∀ t ∈ ts, P.readableRec t = true ∧ t < P.types.size) → DataW.TrodAll enc P W 0 (fun _ => true) true ts vs ds ps → (∀ x ∈ ps, x.block < W.heap.size) →
      DataW.TrodAll enc P W' 0 (fun b => decide (b < W.heap.size)) true ts vs ds ps
  | [], [], [], _, _, h, _ => h
  | t :: ts, v :: vs, d :: ds, ps, hr, h, hlt => by
    obtain ⟨p, q, h1, h2, rfl⟩ := h
    exact ⟨p, q, Below.trod hl (hr t (by simp)).1 (hr t (by simp)).2 h1 hb (fun x hx => hlt x (by simp [hx])), trodAll_below hl hb ts vs ds q (fun t ht => hr t (by simp [ht])) h2 (fun x hx => hlt x (by simp [hx])), rfl⟩
  | [], _ :: _, _, _, _, h, _ => by cases h
  | [], [], _ :: _, _, _, h, _ => by cases h
  | _ :: _, [], _, _, _, h, _ => by cases h
  | _ :: _, _ :: _, [], _, _, h, _ => by cases h

theorem law_post {H : Type} {enc : TypeId × Value → H} {P : Program} {fn : Func} {s : ChangeSpec} {W W' : World} {args : Array Value} {ds gs : List (DataW H)} {before : List MemPlace} {tb : TypeId}
    (hl : laidOutB P = true) (hp : ∀ t ∈ fn.params.toList, P.readableRec t = true ∧ t < P.types.size) (hvars : s.vars = []) (hres : fn.resultTypes = #[tb]) (hbool : P.underlying tb = some .bool)
    (hW : DataW.Whole enc P fn.params.toList s.vars false W args.toList ds gs before)
    (hfn : gs = [] → (s.fn H (ds ++ gs)).results = [.lit (.bool true)] ∧ (s.fn H (ds ++ gs)).args = ds ∧ (s.fn H (ds ++ gs)).vars = [])
    (hb : Below W.heap.size W W') : s.post enc P fn false true false false W args (.bool true) W' := by
  have hW' := hW
  have hlt := hW.lt
  obtain ⟨p, q, hA, hV, rfl, hfz, hnd⟩ := hW
  rw [hvars] at hV
  obtain ⟨rfl, rfl⟩ := trodVars_none hV
  obtain ⟨e1, e2, e3⟩ := hfn rfl
  refine ⟨ds, [], p ++ [], [], p, [], hW', ?_, ?_, ?_, hb.frame _, fun h => by cases h⟩
  · rw [e1, hres]
    exact trodAll_cons_mk (shut_bool hbool _) trodAll_mk0
  · rw [e2]
    exact trodAll_below hl hb _ _ _ _ hp hA (fun x hx => hlt x (by simp [hx]))
  · rw [e3, hvars]
    rfl
end Go.Proofs.YtnnnljfdjdehaaaDoor

namespace Go.Proofs.YtnnnljfdjdehaaaDoor
set_option linter.unusedSimpArgs false
set_option linter.unusedVariables false
open Go.ChangeShapes Go.WideShapes Go.ChangeAt Go.RowKit Go.Joins Go.Deep

theorem own : ownKnob Tryd.prog.godebug = none := by kernel_rfl
theorem laidOut : laidOutB Tryd.prog = true := by kernel_rfl
theorem in64_of {n : Int} (h : (Lit.int .i64 n).wf = true) : in64 n := by
  have := bounds_i64 h
  exact ⟨this.1, this.2⟩

set_option maxRecDepth 100000 in
/-- A slice of flat things. -/
theorem sl_of {H : Type} {enc : TypeId × Value → H} {P : Program} {W : World} {base : Nat} {sp : Nat → Bool} {held : Bool} {t e : TypeId} {size : Nat} {α : Type} [Inhabited α] (f : α → List Value) (Q : α → Prop)
    (ht : P.underlying t = some (.slice e)) (hc : P.cellsOf e = size) (hs0 : 0 < size) (hfl : ∀ x, (f x).length = size)
    (elem : ∀ (n : Nat) (cs : List Value) (y : DataW H × List MemPlace), cs.length = size → DataW.trod enc P W base sp held n e cs = some y → ∃ q, cs = f q ∧ Q q)
    {v : Value} {fuel : Nat} {x : DataW H × List MemPlace} (hf : DataW.trod enc P W base sp held fuel t [v] = some x) : ∃ l : List α, Sl W size v l.length (rowC f l) ∧ ∀ j (hj : j < l.length), Q l[j] := by
  rcases open_slice ht hf with ⟨h1, _⟩ | ⟨a, len, cap, m, n, D, Pl, e1, hb, hl, hm, hmm, _, hx⟩
  · obtain rfl : v = .slice none 0 0 := by simpa using h1
    exact ⟨[], Sl.nil W size, fun j hj => absurd hj (by simp)⟩
  · obtain rfl : v = .slice (some a) len cap := by simpa using e1
    have hlm : len ≤ m := by rw [hmm]; split <;> omega
    have each : ∀ i, i < len → ∃ q : α, (∀ k, k < size → W.cell? (a.add (i * size + k)) = (f q)[k]?) ∧ Q q := by
      intro i hi
      obtain ⟨cs', h1, h2⟩ := hx i (by omega)
      rw [hc] at h1
      obtain ⟨_, hlen, hcell⟩ := World.cells?_some h1
      obtain ⟨q, rfl, hq⟩ := elem _ _ _ hlen h2
      refine ⟨q, fun k hk => ?_, hq⟩
      have := hcell k hk
      rwa [add_add] at this
    obtain ⟨q, hq⟩ := choose_lt each
    refine ⟨(List.range len).map q, ?_, fun j hj => by simpa using (hq j (by simpa using hj)).2⟩
    have hlen : ((List.range len).map q).length = len := by simp
    refine ⟨rowC_len hfl _, some a, cap, by rw [hlen], by omega, fun hpos => ?_⟩
    have h00 := (hq 0 (by omega)).1 0 hs0
    obtain ⟨v0, hv0⟩ : ∃ v0, (f (q 0))[0]? = some v0 := ⟨(f (q 0))[0]'(by rw [hfl]; exact hs0), List.getElem?_eq_getElem _⟩
    rw [hv0, Nat.zero_mul] at h00
    have hs : a.spot = none := by
      have := World.cell?_spot h00
      simpa [Addr.add] using this
    obtain ⟨b, off, s⟩ := a
    simp only at hs
    subst hs
    refine ⟨b, off, rfl, ?_, fun j u hj => ?_⟩
    · simp only [Addr.add, if_true] at h00
      unfold World.cell? at h00
      by_cases hlt : b < W.heap.size
      · exact hlt
      · simp [Array.getElem?_eq_none (Nat.le_of_not_lt hlt)] at h00
    · have hjl : j < len * size := by
        have := (List.getElem?_eq_some_iff.1 hj).1
        rw [rowC_len hfl, hlen] at this
        exact this
      have hdm : j / size * size + j % size = j := by rw [Nat.mul_comm]; exact Nat.div_add_mod j size
      have hdl : j / size < len := Nat.div_lt_of_lt_mul (by rw [Nat.mul_comm]; exact hjl)
      have hml : j % size < size := Nat.mod_lt _ hs0
      rw [← hdm, rowC_at hfl _ _ _ (by rw [hlen]; exact hdl) hml] at hj
      simp only [List.getElem_map, List.getElem_range] at hj
      have key : ∀ x : Nat, (⟨b, off + x, none⟩ : Addr) = (⟨b, off, none⟩ : Addr).add x := fun x => by
        unfold Addr.add
        by_cases h0 : x = 0 <;> simp [h0]
      rw [key, ← hdm, (hq (j / size) hdl).1 _ hml]
      exact hj

theorem codeC_row : ∀ l : List Ins, codeC l = rowC Ins.cells l
  | [] => rfl
  | i :: r => by rw [codeC, codeC_row r]; rfl
theorem ints_row (l : List Int) : ints l = rowC (fun z : Int => [Value.int .i64 z]) l := by
  unfold ints rowC
  induction l with
  | nil => rfl
  | cons z r ih => rw [List.map_cons, List.flatMap_cons, ih]; rfl
instance : Inhabited Ins := ⟨⟨0, 0, 0, 0⟩⟩
theorem cellsInt : Tryd.prog.cellsOf 3 = 1 := by kernel_rfl
theorem cellsCode : Tryd.prog.cellsOf 68 = 1 := by kernel_rfl
theorem cellsInts : Tryd.prog.cellsOf 31 = 1 := by kernel_rfl

set_option maxRecDepth 100000 in
theorem code_of {H : Type} {enc : TypeId × Value → H} {W : World} {base : Nat} {sp : Nat → Bool} {held : Bool} {v : Value} {fuel : Nat} {x : DataW H × List MemPlace} (hf : DataW.trod enc Tryd.prog W base sp held fuel 68 [v] = some x) :
    ∃ l : List Ins, Sl W 4 v l.length (codeC l) ∧ ∀ j (hj : j < l.length), l[j].ok := by
  obtain ⟨l, h1, h2⟩ := sl_of (size := 4) Ins.cells Ins.ok Tryd.underlying68 (by kernel_rfl) (by decide) (fun _ => rfl) (fun n cs y hl h => by
    obtain ⟨y0, y1, y2, y3, k, hxy, _, g0, g1, g2, g3⟩ := trod_struct4 Tryd.underlying81 h
    match cs, hl with
    | [v0, v1, v2, v3], _ =>
      obtain ⟨op, e0, -, w0⟩ := DataW.trod_int Tryd.underlying3 g0
      obtain ⟨a', e1, -, w1⟩ := DataW.trod_int Tryd.underlying3 g1
      obtain ⟨b, e2, -, w2⟩ := DataW.trod_int Tryd.underlying3 g2
      obtain ⟨n', e3, -, w3⟩ := DataW.trod_int Tryd.underlying3 g3
      simp [cellsInt] at e0 e1 e2 e3
      subst e0 e1 e2 e3
      exact ⟨⟨op, a', b, n'⟩, rfl, in64_of w0, in64_of w1, in64_of w2, in64_of w3⟩) hf
  exact ⟨l, by rw [codeC_row]; exact h1, h2⟩
set_option maxRecDepth 100000 in
theorem ints_of {H : Type} {enc : TypeId × Value → H} {W : World} {base : Nat} {sp : Nat → Bool} {held : Bool} {v : Value} {fuel : Nat} {x : DataW H × List MemPlace} (hf : DataW.trod enc Tryd.prog W base sp held fuel 31 [v] = some x) :
    ∃ l : List Int, Sl W 1 v l.length (ints l) ∧ ∀ j (hj : j < l.length), in64 l[j] := by
  obtain ⟨l, h1, h2⟩ := sl_of (fun z : Int => [Value.int .i64 z]) in64 Tryd.underlying31 (by kernel_rfl) (by decide) (fun _ => rfl) (fun n cs y hl h => by
    obtain ⟨q, e0, -, w0⟩ := DataW.trod_int Tryd.underlying3 h
    exact ⟨q, e0, in64_of w0⟩) hf
  exact ⟨l, by rw [ints_row]; exact h1, h2⟩
set_option maxRecDepth 100000 in
theorem open_int {H : Type} {enc : TypeId × Value → H} {W : World} {r : Reach} {b0 base : Nat} {sp : Nat → Bool} {held : Bool} {v : Value} {d : DataW H} {p : List MemPlace} (hv : Value.okWide Tryd.prog W r b0 3 v) (h : DataW.Trod enc Tryd.prog W base sp held 3 v d p) :
    ∃ n : Int, v = .int .i64 n ∧ in64 n := by
  obtain ⟨fuel, hf⟩ := h
  obtain ⟨n, e, -, w0⟩ := DataW.trod_int Tryd.underlying3 hf
  obtain ⟨m, rfl⟩ := okWide_int Tryd.underlying3 hv
  obtain rfl : m = n := by simpa [Value.cells] using e
  exact ⟨m, rfl, in64_of w0⟩
end Go.Proofs.YtnnnljfdjdehaaaDoor

namespace Go.Proofs.YtnnnljfdjdehaaaDoor
set_option linter.unusedSimpArgs false
set_option linter.unusedVariables false
open Go.ChangeShapes Go.WideShapes Go.ChangeAt Go.RowKit Go.Joins Go.Deep

instance : Inhabited Chn := ⟨⟨0, 0, 0⟩⟩
instance : Inhabited Slt := ⟨⟨0, 0⟩⟩
instance : Inhabited Prt := ⟨⟨[], []⟩⟩
set_option maxRecDepth 100000 in
theorem chans_of {H : Type} {enc : TypeId × Value → H} {W : World} {base : Nat} {sp : Nat → Bool} {held : Bool} {v : Value} {fuel : Nat} {x : DataW H × List MemPlace} (hf : DataW.trod enc Tryd.prog W base sp held fuel 23 [v] = some x) :
    ∃ l : List Chn, Sl W 3 v l.length (rowC chC l) ∧ ∀ j (hj : j < l.length), in64 l[j].kd ∧ in64 l[j].fr ∧ in64 l[j].tt :=
  sl_of chC (fun c => in64 c.kd ∧ in64 c.fr ∧ in64 c.tt) Tryd.underlying23 (by kernel_rfl) (by decide) (fun _ => rfl) (fun n cs y hl h => by
    obtain ⟨y0, y1, y2, k, hxy, _, g0, g1, g2⟩ := trod_struct3 Tryd.underlying73 h
    match cs, hl with
    | [v0, v1, v2], _ =>
      obtain ⟨a, e0, -, w0⟩ := DataW.trod_int Tryd.underlying3 g0
      obtain ⟨b, e1, -, w1⟩ := DataW.trod_int Tryd.underlying3 g1
      obtain ⟨c, e2, -, w2⟩ := DataW.trod_int Tryd.underlying3 g2
      simp [cellsInt] at e0 e1 e2
      subst e0 e1 e2
      exact ⟨⟨a, b, c⟩, rfl, in64_of w0, in64_of w1, in64_of w2⟩) hf
set_option maxRecDepth 100000 in
theorem slots_of {H : Type} {enc : TypeId × Value → H} {W : World} {base : Nat} {sp : Nat → Bool} {held : Bool} {v : Value} {fuel : Nat} {x : DataW H × List MemPlace} (hf : DataW.trod enc Tryd.prog W base sp held fuel 24 [v] = some x) :
    ∃ l : List Slt, Sl W 2 v l.length (rowC slC l) ∧ ∀ j (hj : j < l.length), in64 l[j].pt ∧ in64 l[j].tk :=
  sl_of slC (fun c => in64 c.pt ∧ in64 c.tk) Tryd.underlying24 (by kernel_rfl) (by decide) (fun _ => rfl) (fun n cs y hl h => by
    obtain ⟨y0, y1, k, hxy, _, g0, g1⟩ := trod_struct2 Tryd.underlying79 h
    match cs, hl with
    | [v0, v1], _ =>
      obtain ⟨a, e0, -, w0⟩ := DataW.trod_int Tryd.underlying3 g0
      obtain ⟨b, e1, -, w1⟩ := DataW.trod_int Tryd.underlying3 g1
      simp [cellsInt] at e0 e1
      subst e0 e1
      exact ⟨⟨a, b⟩, rfl, in64_of w0, in64_of w1⟩) hf
def Prt.ok (p : Prt) : Prop := (∀ j (hj : j < p.code.length), p.code[j].ok) ∧ ∀ j (hj : j < p.inn.length), in64 p.inn[j]
set_option maxRecDepth 100000 in
theorem parts_of {H : Type} {enc : TypeId × Value → H} {W : World} {base : Nat} {sp : Nat → Bool} {held : Bool} {v : Value} {fuel : Nat} {x : DataW H × List MemPlace} (hf : DataW.trod enc Tryd.prog W base sp held fuel 22 [v] = some x) :
    ∃ ps : List Prt, PartsR W v ps ∧ ∀ p ∈ ps, p.ok := by
  obtain ⟨l, h1, h2⟩ := sl_of (size := 2) prC (fun q => ∃ p : Prt, PrtR W q.1 q.2 p ∧ p.ok) Tryd.underlying22 (by kernel_rfl) (by decide) (fun _ => rfl) (fun n cs y hl h => by
    obtain ⟨y0, y1, k, hxy, _, g0, g1⟩ := trod_struct2 Tryd.underlying70 h
    match cs, hl with
    | [v0, v1], _ =>
      simp only [List.drop, cellsCode, List.take] at g0
      simp only [List.drop, cellsInts, List.take] at g1
      obtain ⟨c, hc, hc2⟩ := code_of g0
      obtain ⟨i, hi, hi2⟩ := ints_of g1
      exact ⟨(v0, v1), rfl, ⟨c, i⟩, ⟨hc, hi⟩, hc2, hi2⟩) hf
  obtain ⟨g, hg⟩ := choose_lt (n := l.length) (p := fun j p => ∀ hj : j < l.length, PrtR W l[j].1 l[j].2 p ∧ p.ok) (fun j hj => by
    obtain ⟨p, hp⟩ := h2 j hj
    exact ⟨p, fun _ => hp⟩)
  refine ⟨(List.range l.length).map g, ⟨l, by simp, by simpa using h1, fun k hk hk' => ?_⟩, fun p hp => ?_⟩
  · have := (hg k hk' hk').1
    simpa using this
  · obtain ⟨j, hj, rfl⟩ := List.mem_map.1 hp
    have hj : j < l.length := by simpa using hj
    exact (hg j hj hj).2

set_option maxRecDepth 100000 in
/-- A system that came in, opened. -/
theorem open_system {H : Type} {enc : TypeId × Value → H} {W : World} {r : Reach} {b0 base : Nat} {sp : Nat → Bool} {held : Bool} {v : Value} {d : DataW H} {p : List MemPlace} (hv : Value.okWide Tryd.prog W r b0 26 v) (h : DataW.Trod enc Tryd.prog W base sp held 26 v d p) :
    ∃ (vp vc vs : Value) (S : SysD), v = .agg #[vp, vc, vs] ∧ Sys W vp vc vs S ∧ S.ok := by
  obtain ⟨c0, c1, c2, y0, y1, y2, m, rfl, rfl, rfl, h0, h1, h2⟩ := open_agg3 Tryd.underlying26 (by kernel_rfl) (by kernel_rfl) hv h
  obtain ⟨ps, hp, hpo⟩ := parts_of h0
  obtain ⟨cs, hc, hco⟩ := chans_of h1
  obtain ⟨ss, hs, hso⟩ := slots_of h2
  exact ⟨c0, c1, c2, ⟨ps, cs, ss⟩, rfl, ⟨hp, hc, hs⟩, fun p hp' => (hpo p hp').1⟩
end Go.Proofs.YtnnnljfdjdehaaaDoor

namespace Go.Proofs.YtnnnljfdjdehaaaDoor
set_option linter.unusedSimpArgs false
set_option linter.unusedVariables false
open Go.ChangeShapes Go.WideShapes Go.ChangeAt Go.RowKit Go.Joins Go.Deep

theorem at_one {cs : List Value} {o : Nat} {v : Value} (h : (cs.drop o).take 1 = [v]) : cs[o]? = some v := by
  have := congrArg (·[0]?) h
  simpa [List.getElem?_take, List.getElem?_drop] using this
theorem at_arr {cs : List Value} {a m i : Nat} {v : Value} (h : (((cs.drop a).take m).drop i).take 1 = [v]) (hi : i < m) : cs[a + i]? = some v := by
  have := at_one h
  rw [List.getElem?_take, if_pos hi, List.getElem?_drop] at this
  exact this
theorem cellsRegs : Tryd.prog.cellsOf 59 = 4 := by kernel_rfl
theorem cellsMem : Tryd.prog.cellsOf 60 = 8 := by kernel_rfl
theorem arr_of {H : Type} {enc : TypeId × Value → H} {W : World} {base : Nat} {sp : Nat → Bool} {held : Bool} {fuel : Nat} {cs : List Value} {a m : Nat} {t : TypeId} {x : DataW H × List MemPlace} (ht : Tryd.prog.underlying t = some (.array m 3))
    (hf : DataW.trod enc Tryd.prog W base sp held fuel t ((cs.drop a).take m) = some x) : ∀ i, i < m → ∃ n : Int, cs[a + i]? = some (.int .i64 n) ∧ in64 n := by
  obtain ⟨xs, k, _, _, _, hlen, h⟩ := DataW.trod_array ht hf
  intro i hi
  have h1 := h i hi
  rw [cellsInt, Nat.mul_one] at h1
  cases hy : xs[i]? with
  | none => rw [List.getElem?_eq_none_iff] at hy; omega
  | some y =>
    rw [hy] at h1
    obtain ⟨n, e, -, w0⟩ := DataW.trod_int Tryd.underlying3 h1
    exact ⟨n, at_arr e hi, in64_of w0⟩
theorem list16 {cs : List Value} {a0 a1 a2 a3 a4 a5 a6 a7 a8 a9 a10 a11 a12 a13 a14 a15 : Value} (hl : cs.length = 16) (h0 : cs[0]? = some a0) (h1 : cs[1]? = some a1) (h2 : cs[2]? = some a2) (h3 : cs[3]? = some a3) (h4 : cs[4]? = some a4) (h5 : cs[5]? = some a5) (h6 : cs[6]? = some a6) (h7 : cs[7]? = some a7)
    (h8 : cs[8]? = some a8) (h9 : cs[9]? = some a9) (h10 : cs[10]? = some a10) (h11 : cs[11]? = some a11) (h12 : cs[12]? = some a12) (h13 : cs[13]? = some a13) (h14 : cs[14]? = some a14) (h15 : cs[15]? = some a15) : cs = [a0, a1, a2, a3, a4, a5, a6, a7, a8, a9, a10, a11, a12, a13, a14, a15] := by
  match cs, hl with
  | [b0, b1, b2, b3, b4, b5, b6, b7, b8, b9, b10, b11, b12, b13, b14, b15], _ =>
    simp at h0 h1 h2 h3 h4 h5 h6 h7 h8 h9 h10 h11 h12 h13 h14 h15
    simp [h0, h1, h2, h3, h4, h5, h6, h7, h8, h9, h10, h11, h12, h13, h14, h15]
set_option maxRecDepth 100000 in
/-- A cell's sixteen places. -/
theorem cell_of {H : Type} {enc : TypeId × Value → H} {W : World} {base : Nat} {sp : Nat → Bool} {held : Bool} {fuel : Nat} {cs : List Value} {x : DataW H × List MemPlace} (hl : cs.length = 16) (hf : DataW.trod enc Tryd.prog W base sp held fuel 62 cs = some x) :
    ∃ (c : Cel) (o : Value) (xs : List Int), cs = (c.cs o).toList ∧ Sl W 1 o xs.length (ints xs) := by
  obtain ⟨ys, n, _, _, _, hlen, h⟩ := DataW.trod_struct Tryd.underlying62 hf
  have f0 := h 0 _ rfl
  have f1 := h 1 _ rfl
  have f2 := h 2 _ rfl
  have f3 := h 3 _ rfl
  have f4 := h 4 _ rfl
  have f5 := h 5 _ rfl
  match ys, hlen with
  | [y0, y1, y2, y3, y4, y5], _ =>
    obtain ⟨at_, e0, -, -⟩ := DataW.trod_int Tryd.underlying3 f0
    obtain ⟨rd, e3, -, -⟩ := DataW.trod_int Tryd.underlying3 f3
    obtain ⟨en, e5, -, -⟩ := DataW.trod_int Tryd.underlying3 f5
    change (cs.drop 0).take (Tryd.prog.cellsOf 3) = _ at e0
    change (cs.drop 13).take (Tryd.prog.cellsOf 3) = _ at e3
    change (cs.drop 15).take (Tryd.prog.cellsOf 3) = _ at e5
    change DataW.trod enc Tryd.prog W base sp held n 59 ((cs.drop 1).take (Tryd.prog.cellsOf 59)) = some y1 at f1
    change DataW.trod enc Tryd.prog W base sp held n 60 ((cs.drop 5).take (Tryd.prog.cellsOf 60)) = some y2 at f2
    change DataW.trod enc Tryd.prog W base sp held n 31 ((cs.drop 14).take (Tryd.prog.cellsOf 31)) = some y4 at f4
    rw [cellsInt] at e0 e3 e5
    rw [cellsRegs] at f1
    rw [cellsMem] at f2
    rw [cellsInts] at f4
    obtain ⟨o, ho⟩ : ∃ o, cs[14]? = some o := ⟨cs[14], List.getElem?_eq_getElem (by omega)⟩
    have ho4 : (cs.drop 14).take 1 = [o] := by
      rw [List.take_one, List.head?_drop, ho]
      rfl
    rw [ho4] at f4
    obtain ⟨xs, hS, -⟩ := ints_of f4
    have R := arr_of Tryd.underlying59 f1
    have M := arr_of Tryd.underlying60 f2
    obtain ⟨r0, hr0, -⟩ := R 0 (by decide)
    obtain ⟨r1, hr1, -⟩ := R 1 (by decide)
    obtain ⟨r2, hr2, -⟩ := R 2 (by decide)
    obtain ⟨r3, hr3, -⟩ := R 3 (by decide)
    obtain ⟨m0, hm0, -⟩ := M 0 (by decide)
    obtain ⟨m1, hm1, -⟩ := M 1 (by decide)
    obtain ⟨m2, hm2, -⟩ := M 2 (by decide)
    obtain ⟨m3, hm3, -⟩ := M 3 (by decide)
    obtain ⟨m4, hm4, -⟩ := M 4 (by decide)
    obtain ⟨m5, hm5, -⟩ := M 5 (by decide)
    obtain ⟨m6, hm6, -⟩ := M 6 (by decide)
    obtain ⟨m7, hm7, -⟩ := M 7 (by decide)
    exact ⟨⟨at_, r0, r1, r2, r3, m0, m1, m2, m3, m4, m5, m6, m7, rd, en⟩, o, xs, list16 hl (at_one e0) hr0 hr1 hr2 hr3 hm0 hm1 hm2 hm3 hm4 hm5 hm6 hm7 (at_one e3) ho (at_one e5), hS⟩
set_option maxRecDepth 100000 in
theorem open_cell {H : Type} {enc : TypeId × Value → H} {W : World} {r : Reach} {b0 base : Nat} {sp : Nat → Bool} {held : Bool} {v : Value} {d : DataW H} {p : List MemPlace} (hv : Value.okWide Tryd.prog W r b0 62 v) (h : DataW.Trod enc Tryd.prog W base sp held 62 v d p) :
    ∃ (c : Cel) (o : Value) (xs : List Int), v = c.v o ∧ Sl W 1 o xs.length (ints xs) := by
  obtain ⟨cs, rfl, hsz⟩ := okWide_struct Tryd.underlying62 hv
  obtain ⟨fuel, hf⟩ := h
  have h16 : Tryd.prog.cellsOf 62 = 16 := by kernel_rfl
  obtain ⟨c, o, xs, e, hS⟩ := cell_of (by simpa [Value.cells] using hsz.trans h16) hf
  refine ⟨c, o, xs, ?_, hS⟩
  rw [Cel.v_cs]
  congr 1
  exact Array.toList_inj.1 e
set_option maxRecDepth 100000 in
theorem open_want {H : Type} {enc : TypeId × Value → H} {W : World} {r : Reach} {b0 base : Nat} {sp : Nat → Bool} {held : Bool} {v : Value} {d : DataW H} {p : List MemPlace} (hv : Value.okWide Tryd.prog W r b0 110 v) (h : DataW.Trod enc Tryd.prog W base sp held 110 v d p) :
    ∃ k ch reg flag val : Int, v = wantV k ch reg flag val := by
  obtain ⟨cs, rfl, hsz⟩ := okWide_struct Tryd.underlying110 hv
  obtain ⟨fuel, hf⟩ := h
  have h5 : Tryd.prog.cellsOf 110 = 5 := by kernel_rfl
  have hl : cs.toList.length = 5 := by simpa using hsz.trans h5
  obtain ⟨ys, n, _, _, _, hlen, h⟩ := DataW.trod_struct Tryd.underlying110 hf
  have f0 := h 0 _ rfl
  have f1 := h 1 _ rfl
  have f2 := h 2 _ rfl
  have f3 := h 3 _ rfl
  have f4 := h 4 _ rfl
  match ys, hlen with
  | [y0, y1, y2, y3, y4], _ =>
    obtain ⟨a0, e0, -, -⟩ := DataW.trod_int Tryd.underlying3 f0
    obtain ⟨a1, e1, -, -⟩ := DataW.trod_int Tryd.underlying3 f1
    obtain ⟨a2, e2, -, -⟩ := DataW.trod_int Tryd.underlying3 f2
    obtain ⟨a3, e3, -, -⟩ := DataW.trod_int Tryd.underlying3 f3
    obtain ⟨a4, e4, -, -⟩ := DataW.trod_int Tryd.underlying3 f4
    change (cs.toList.drop 0).take (Tryd.prog.cellsOf 3) = _ at e0
    change (cs.toList.drop 1).take (Tryd.prog.cellsOf 3) = _ at e1
    change (cs.toList.drop 2).take (Tryd.prog.cellsOf 3) = _ at e2
    change (cs.toList.drop 3).take (Tryd.prog.cellsOf 3) = _ at e3
    change (cs.toList.drop 4).take (Tryd.prog.cellsOf 3) = _ at e4
    rw [cellsInt] at e0 e1 e2 e3 e4
    have g0 := at_one e0
    have g1 := at_one e1
    have g2 := at_one e2
    have g3 := at_one e3
    have g4 := at_one e4
    refine ⟨a0, a1, a2, a3, a4, ?_⟩
    unfold wantV
    congr 1
    refine Array.toList_inj.1 ?_
    generalize cs.toList = l at hl g0 g1 g2 g3 g4
    match l, hl with
    | [b0, b1, b2, b3, b4], _ =>
      simp at g0 g1 g2 g3 g4
      simp [g0, g1, g2, g3, g4]
set_option maxRecDepth 100000 in
theorem open_truth {H : Type} {enc : TypeId × Value → H} {W : World} {r : Reach} {b0 base : Nat} {sp : Nat → Bool} {held : Bool} {v : Value} {d : DataW H} {p : List MemPlace} (hv : Value.okWide Tryd.prog W r b0 4 v) (h : DataW.Trod enc Tryd.prog W base sp held 4 v d p) : ∃ b : Bool, v = .bool b := by
  obtain ⟨b, e, _⟩ := Go.RowKit.open_bool Tryd.underlying4 hv h
  exact ⟨b, e⟩
set_option maxRecDepth 100000 in
theorem open_part {H : Type} {enc : TypeId × Value → H} {W : World} {r : Reach} {b0 base : Nat} {sp : Nat → Bool} {held : Bool} {v : Value} {d : DataW H} {p : List MemPlace} (hv : Value.okWide Tryd.prog W r b0 70 v) (h : DataW.Trod enc Tryd.prog W base sp held 70 v d p) :
    ∃ (cv iv : Value) (l : List Ins) (inn : List Int), v = partV cv iv ∧ Sl W 4 cv l.length (codeC l) ∧ Sl W 1 iv inn.length (ints inn) ∧ ∀ j (hj : j < l.length), l[j].ok := by
  obtain ⟨c0, c1, y0, y1, m, rfl, rfl, rfl, h0, h1⟩ := open_agg2 Tryd.underlying70 (by kernel_rfl) (by kernel_rfl) hv h
  obtain ⟨l, hl, hlo⟩ := code_of h0
  obtain ⟨inn, hi, -⟩ := ints_of h1
  exact ⟨c0, c1, l, inn, rfl, hl, hi, hlo⟩
end Go.Proofs.YtnnnljfdjdehaaaDoor

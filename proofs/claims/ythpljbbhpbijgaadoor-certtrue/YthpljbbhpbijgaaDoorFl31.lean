/- What the laws on flows begin with. -/
import Derived.Test.YthpljbbhpbijgaaDoorJv
import Derived.Test.YthpljbbhpbijgaaDoorSc4
namespace Go.Proofs.YthpljbbhpbijgaaDoor
set_option linter.unusedSimpArgs false
set_option linter.unusedVariables false
open Go.RowKit Go.Sort Go.Shelf Go.Lib Go.Maps

theorem rel_edges : edgesQ relayS = [⟨0, 1⟩, ⟨1, 0⟩, ⟨1, 2⟩] := by decide +kernel
theorem rel_path : pathQ relayS 0 2 = [0, 1, 2] := by decide +kernel
theorem rel_y1 : pathY relayS 0 2 = true := by decide +kernel
theorem rel_y2 : pathY relayS 2 0 = false := by decide +kernel
theorem rel_e1 : pathE relayS 0 2 = 0 := by decide +kernel
theorem rel_e2 : pathE relayS 2 0 = 0 := by decide +kernel
theorem rel_n : reachQ relayS = 4 := by decide +kernel
theorem rel_02 : reachB relayS ((0 : Nat) : Int) ((2 : Nat) : Int) = true := by decide +kernel
theorem rel_10 : reachB relayS ((1 : Nat) : Int) ((0 : Nat) : Int) = true := by decide +kernel
theorem rel_21 : reachB relayS ((2 : Nat) : Int) ((1 : Nat) : Int) = false := by decide +kernel
theorem rel_30 : reachB relayS ((3 : Nat) : Int) ((0 : Nat) : Int) = false := by decide +kernel
theorem rel_33 : reachB relayS ((3 : Nat) : Int) ((3 : Nat) : Int) = true := by decide +kernel
/-- A row of a table, opened. -/
theorem TabR.row {w : World} {v : Value} {f : Nat → Nat → Bool} {k n : Nat} (h : TabR w v f k n) (hk : 0 < k) (hn : 0 < n) : ∃ b off cap, v = .slice (some ⟨b, off, none⟩) k cap ∧ k ≤ cap ∧ b < w.heap.size ∧ ∀ a, a < k → ∃ rb ro rc, w.cell? ⟨b, off + a, none⟩ = some (.slice (some ⟨rb, ro, none⟩) n rc) ∧ n ≤ rc ∧ rb < w.heap.size ∧ ∀ c, c < n → w.cell? ⟨rb, ro + c, none⟩ = some (.bool (f a c)) := by
  obtain ⟨vs, h1, h2, h3⟩ := h
  obtain ⟨b, off, cap, rfl, hcap, hb, hc⟩ := h2.open hk
  refine ⟨b, off, cap, rfl, hcap, hb, fun a ha => ?_⟩
  obtain ⟨rb, ro, rc, e, hrc, hrb, hcc⟩ := (h3 a (by omega)).open hn
  refine ⟨rb, ro, rc, ?_, hrc, hrb, fun c hcn => hcc c _ (bools_at _ hcn)⟩
  exact hc a _ (by rw [List.getElem?_eq_getElem (by omega), e])
set_option maxRecDepth 100000 in
set_option maxHeartbeats 8000000 in
theorem flowBegun_any (w : World) (he : Env w) : Calls Tryd.prog 14 #[] w fun e w' => e = .returned (.bool true) ∧ RowKit.Below w.heap.size w w' := by
  go_enter Tryd.func14, Tryd.ntmps14
  go_wp2_with fail
  refine (relay_any _).mono ?_
  rintro e w1 ⟨vp, vc, vs, rfl, s1, b1⟩
  have S1 := Lib.hid s1.sys
  have D := Lib.hid b1
  clear s1 b1
  go_wp2_with fail
  refine (flEdges_any relayS _ _ _ _ (he.up D.out) S1.out).mono ?_
  rw [relay_chk, rel_edges]
  rintro e w2 ⟨vl, rfl, hl, bb⟩
  have HL := Lib.hid hl
  have D := Lib.hid (D.out.trans (bb.mono D.out.size))
  obtain ⟨la, lc, rfl⟩ := hl.form
  clear bb S1 hl
  go_wp2_with fail
  refine (relay_any _).mono ?_
  rintro e w3 ⟨vp, vc, vs, rfl, s1, b1⟩
  have HL := Lib.hid (HL.out.up b1)
  have D := Lib.hid (D.out.trans (b1.mono D.out.size))
  have S1 := Lib.hid s1.sys
  clear s1 b1
  go_wp2_with fail
  refine (flReach_any relayS _ _ _ _ (he.up D.out) S1.out).mono ?_
  rw [relay_chk, rel_n]
  rintro e w4 ⟨vm, rfl, hm, bb, _⟩
  obtain ⟨ma, mc, rfl⟩ := hm.form
  have HM := Lib.hid hm
  have HL := Lib.hid (HL.out.up bb)
  have D := Lib.hid (D.out.trans (bb.mono D.out.size))
  clear bb S1 hm
  go_wp2_with fail
  refine (relay_any _).mono ?_
  rintro e w5 ⟨vp, vc, vs, rfl, s1, b1⟩
  have HM := Lib.hid (HM.out.up b1)
  have HL := Lib.hid (HL.out.up b1)
  have D := Lib.hid (D.out.trans (b1.mono D.out.size))
  have S1 := Lib.hid s1.sys
  clear s1 b1
  go_wp2_with fail
  refine (flPath_any relayS 0 2 _ _ _ _ (he.up D.out) S1.out).mono ?_
  rw [rel_e1, rel_y1, rel_path]
  rintro e w6 ⟨vq, rfl, hq, bb, _⟩
  obtain ⟨qa, qc, rfl⟩ := hq.form
  have HQ := Lib.hid hq
  have HM := Lib.hid (HM.out.up bb)
  have HL := Lib.hid (HL.out.up bb)
  have D := Lib.hid (D.out.trans (bb.mono D.out.size))
  clear bb S1 hq
  go_wp2_with fail
  refine (relay_any _).mono ?_
  rintro e w7 ⟨vp, vc, vs, rfl, s1, b1⟩
  have HQ := Lib.hid (HQ.out.up b1)
  have HM := Lib.hid (HM.out.up b1)
  have HL := Lib.hid (HL.out.up b1)
  have D := Lib.hid (D.out.trans (b1.mono D.out.size))
  have S1 := Lib.hid s1.sys
  clear s1 b1
  go_wp2_with fail
  refine (flPath_any relayS 2 0 _ _ _ _ (he.up D.out) S1.out).mono ?_
  rw [rel_e2, rel_y2]
  rintro e w8 ⟨vz, rfl, _, bb, _⟩
  have HQ := Lib.hid (HQ.out.up bb)
  have HM := Lib.hid (HM.out.up bb)
  have HL := Lib.hid (HL.out.up bb)
  have D := Lib.hid (D.out.trans (bb.mono D.out.size))
  clear bb S1
  obtain ⟨lb, lo, lc', e1, hlc, hlb, hlcells⟩ := HL.out.open (by decide)
  cases e1
  have l0 := hlcells 0 _ rfl
  have l1 := hlcells 1 _ rfl
  have l2 := hlcells 2 _ rfl
  have l3 := hlcells 3 _ rfl
  simp only [Nat.add_zero] at l0
  obtain ⟨mb, mo, mc', e2, hmc, hmb, hrows⟩ := HM.out.row (by decide) (by decide)
  cases e2
  obtain ⟨b0, o0, c0, m0, g0, _, r0⟩ := hrows 0 (by decide)
  obtain ⟨b1, o1, c1, m1, g1, _, r1⟩ := hrows 1 (by decide)
  obtain ⟨b2, o2, c2, m2, g2, _, r2⟩ := hrows 2 (by decide)
  obtain ⟨b3, o3, c3, m3, g3, _, r3⟩ := hrows 3 (by decide)
  have r02 : w8.cell? ⟨b0, o0 + 2, none⟩ = some (.bool true) := (r0 2 (by decide)).trans (congrArg (fun x => some (Value.bool x)) rel_02)
  have r10 : w8.cell? ⟨b1, o1 + 0, none⟩ = some (.bool true) := (r1 0 (by decide)).trans (congrArg (fun x => some (Value.bool x)) rel_10)
  have r21 : w8.cell? ⟨b2, o2 + 1, none⟩ = some (.bool false) := (r2 1 (by decide)).trans (congrArg (fun x => some (Value.bool x)) rel_21)
  have r30 : w8.cell? ⟨b3, o3 + 0, none⟩ = some (.bool false) := (r3 0 (by decide)).trans (congrArg (fun x => some (Value.bool x)) rel_30)
  have r33 : w8.cell? ⟨b3, o3 + 3, none⟩ = some (.bool true) := (r3 3 (by decide)).trans (congrArg (fun x => some (Value.bool x)) rel_33)
  simp only [Nat.add_zero] at m0 r10 r30
  clear hlcells hrows r0 r1 r2 r3 HM HL
  go_wp2_with (go_at_call 18; refine (sameInts_any [0, 1, 2] [0, 1, 2] _ _ _ (HQ.out.up ((RowKit.Below.refl _ _).alloc (Nat.le_refl _) _)) (lit_sl _ (ints [0, 1, 2]) _ _ 3 1 rfl rfl) (by decide) true rfl).mono ?_; rintro e w9 ⟨rfl, bb⟩)
  go_ret
  exact ⟨rfl, (D.out.alloc D.out.size _).trans (bb.mono (by have := D.out.size; simp; omega))⟩
end Go.Proofs.YthpljbbhpbijgaaDoor

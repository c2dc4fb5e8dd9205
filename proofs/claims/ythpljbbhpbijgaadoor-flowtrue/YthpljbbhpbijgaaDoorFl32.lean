/- The law FlowPaths, walked. -/
import Derived.Test.YthpljbbhpbijgaaDoorFl31
namespace Go.Proofs.YthpljbbhpbijgaaDoor
set_option linter.unusedSimpArgs false
set_option linter.unusedVariables false
open Go.RowKit Go.Sort Go.Shelf Go.Lib Go.Maps

theorem thereE_zero {S : SysD} {p : Int} (h : thereE S p = 0) : chkS S = 0 ∧ 0 ≤ p ∧ p < S.parts.length := by
  unfold thereE at h
  split at h
  · rename_i h0
    split at h
    · rename_i h1
      unfold withinB at h1
      simp at h1
      exact ⟨h0, by omega, by omega⟩
    · omega
  · rename_i h0
    exact absurd h h0
theorem path_len {S : SysD} {a b : Int} : (pathQ S a b).length ≤ S.parts.length + 1 := by
  have hf : ∀ n x, (fwd S b n x).length ≤ n + 1 := by
    intro n
    induction n with
    | zero => intro x; simp [fwd]
    | succ n ih =>
      intro x
      rw [fwd]
      split
      · rename_i c _
        have := ih c
        simp
        omega
      · simp
  unfold pathQ
  split
  · unfold pathL
    split
    · rename_i n hn
      have := hf n a
      unfold pathN at hn
      have := List.mem_range.1 (List.mem_of_find?_eq_some hn)
      omega
    · simp
  · simp
set_option maxRecDepth 100000 in
set_option maxHeartbeats 4000000 in
theorem flowPaths_any (S : SysD) (hok : S.ok) (a b : Int) (vp vc vs : Value) (w : World) (he : Env w) (hS : Sys w vp vc vs S) :
    Calls Tryd.prog 4 #[.agg #[vp, vc, vs], .int .i64 a, .int .i64 b] w fun e w' => e = .returned (.bool true) ∧ RowKit.Below w.heap.size w w' := by
  obtain ⟨pa, pc, rfl⟩ := hS.p.form
  obtain ⟨ca, cc, rfl⟩ := hS.c.form
  obtain ⟨sa, sc, rfl⟩ := hS.s.form
  have HS := Lib.hid hS
  clear hS
  go_enter Tryd.func4, Tryd.ntmps4
  go_wp2_with fail
  refine (flPath_any S a b _ _ _ _ (he.up (by repeat (first | exact Below.refl _ _ | assumption | refine Below.drew ?_ | refine Below.alloc ?_ (by first | (simp; done) | (simp; omega)) _ | refine Below.setCell ?_ (by first | (simp; done) | (simp; omega)) _))) (HS.out.up (by repeat (first | exact Below.refl _ _ | assumption | refine Below.drew ?_ | refine Below.alloc ?_ (by first | (simp; done) | (simp; omega)) _ | refine Below.setCell ?_ (by first | (simp; done) | (simp; omega)) _)))).mono ?_
  rintro e w1 ⟨vq, rfl, hq, bb, _⟩
  obtain ⟨qa, qc, rfl⟩ := hq.form
  have HQ := Lib.hid hq
  have HB := Lib.hid ((box_new w (.slice pa S.parts.length pc) (.slice ca S.chans.length cc) (.slice sa S.slots.length sc) 26 _ rfl).up bb)
  have D := Lib.hid (RowKit.Below.trans (show RowKit.Below w.heap.size w _ from (by repeat (first | exact Below.refl _ _ | assumption | refine Below.drew ?_ | refine Below.alloc ?_ (by first | (simp; done) | (simp; omega)) _ | refine Below.setCell ?_ (by first | (simp; done) | (simp; omega)) _))) (bb.mono (by simp)))
  clear bb hq
  have k0 := HB.out.p
  have k1 := HB.out.c
  have k2 := HB.out.s
  go_wp2_with fail
  refine (flThereX_any S hok _ _ _ a _ (HS.out.up D.out)).mono ?_
  rintro e w2 ⟨rfl, bb⟩
  have HQ2 := Lib.hid (HQ.out.up bb)
  have HB2 := Lib.hid (HB.out.up bb)
  have D2 := Lib.hid (D.out.trans (bb.mono D.out.size))
  clear bb HQ HB D k0 k1 k2
  have k0 := HB2.out.p
  have k1 := HB2.out.c
  have k2 := HB2.out.s
  by_cases ha : thereE S a = 0
  · rw [ha]
    have HA := Lib.hid (thereE_zero ha)
    go_wp2_with fail
    refine (flThereX_any S hok _ _ _ b _ (HS.out.up D2.out)).mono ?_
    rintro e w3 ⟨rfl, bb⟩
    have HQ3 := Lib.hid (HQ2.out.up bb)
    have HB3 := Lib.hid (HB2.out.up bb)
    have D3 := Lib.hid (D2.out.trans (bb.mono D2.out.size))
    clear bb HQ2 HB2 D2 k0 k1 k2
    have k0 := HB3.out.p
    have k1 := HB3.out.c
    have k2 := HB3.out.s
    have hpe : pathE S a b = thereE S b := by unfold pathE; rw [if_pos ha]
    by_cases hb : thereE S b = 0
    · have hq : pathQ S a b = pathL S a b := by unfold pathQ; rw [if_pos (hpe.trans hb)]
      have hy : pathY S a b = pathB S a b := by unfold pathY; rw [if_pos (hpe.trans hb)]
      have HLN := Lib.hid (path_len (S := S) (a := a) (b := b))
      rw [hpe, hb, hy]
      rw [hq] at HQ3 HLN ⊢
      obtain ⟨h4, _, hl, _⟩ := chk_flow HA.out.1
      clear hpe hq hy ha hb
      go_wp2_with fail
      refine (pathOf_any S h4 hl a b HA.out.2 _ _ _ _ (HS.out.up D3.out)).mono ?_
      rintro e w4 ⟨v4, rfl, hs4, bb⟩
      obtain ⟨ra, rc, rfl⟩ := hs4.form
      have HW4 := Lib.hid hs4
      have HQ4 := Lib.hid (HQ3.out.up bb)
      have D4 := Lib.hid (D3.out.trans (bb.mono D3.out.size))
      clear bb HQ3 HB3 D3 hs4 k0 k1 k2
      go_wp2_with fail
      refine (flowBegun_any _ (he.up D4.out)).mono ?_
      rintro e w5 ⟨rfl, bb⟩
      have HW5 := Lib.hid (HW4.out.up bb)
      have HQ5 := Lib.hid (HQ4.out.up bb)
      have D5 := Lib.hid (D4.out.trans (bb.mono D4.out.size))
      clear bb HQ4 HW4 D4
      go_wp2_with (go_at_call 18; refine (sameInts_any (pathL S a b) (pathL S a b) _ _ _ HQ5.out HW5.out (by have := HLN.out; omega) true (by simp)).mono ?_; rintro e w6 ⟨rfl, bb⟩)
      go_ret
      exact ⟨rfl, D5.out.trans (bb.mono D5.out.size)⟩
    · have hne : pathE S a b ≠ 0 := by rw [hpe]; exact hb
      have hq : pathQ S a b = [] := by unfold pathQ; rw [if_neg hne]
      have hy : pathY S a b = false := by unfold pathY; rw [if_neg hne]
      rw [hpe, hy]
      rw [hq] at HQ3 ⊢
      generalize thereE S b = r at hb ⊢
      clear hpe hq hy hne ha
      go_wp2_with fail
      refine (flowBegun_any _ (he.up D3.out)).mono ?_
      rintro e w5 ⟨rfl, bb⟩
      have HQ5 := Lib.hid (HQ3.out.up bb)
      have D5 := Lib.hid (D3.out.trans (bb.mono D3.out.size))
      clear bb HQ3 D3 k0 k1 k2 HB3
      go_wp2_with (go_at_call 18; refine (sameInts_any [] [] _ _ _ HQ5.out (Sl.nil _ _) (by decide) true (by simp)).mono ?_; rintro e w6 ⟨rfl, bb⟩)
      go_ret
      exact ⟨rfl, D5.out.trans (bb.mono D5.out.size)⟩
  · have hpe : pathE S a b = thereE S a := by unfold pathE; rw [if_neg ha]
    have hne : pathE S a b ≠ 0 := by rw [hpe]; exact ha
    have hq : pathQ S a b = [] := by unfold pathQ; rw [if_neg hne]
    have hy : pathY S a b = false := by unfold pathY; rw [if_neg hne]
    rw [hpe, hy]
    rw [hq] at HQ2 ⊢
    generalize thereE S a = r at ha ⊢
    clear hpe hq hy hne
    go_wp2_with fail
    refine (flowBegun_any _ (he.up D2.out)).mono ?_
    rintro e w5 ⟨rfl, bb⟩
    have HQ5 := Lib.hid (HQ2.out.up bb)
    have D5 := Lib.hid (D2.out.trans (bb.mono D2.out.size))
    clear bb HQ2 D2 k0 k1 k2 HB2
    go_wp2_with (go_at_call 18; refine (sameInts_any [] [] _ _ _ HQ5.out (Sl.nil _ _) (by decide) true (by simp)).mono ?_; rintro e w6 ⟨rfl, bb⟩)
    go_ret
    exact ⟨rfl, D5.out.trans (bb.mono D5.out.size)⟩
end Go.Proofs.YthpljbbhpbijgaaDoor

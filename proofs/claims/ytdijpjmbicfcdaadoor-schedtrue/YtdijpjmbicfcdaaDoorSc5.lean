/- What the laws on the schedule begin with; the law SchedTells, walked. -/
import Derived.Test.YtdijpjmbicfcdaaDoorSc3
import Derived.Test.YtdijpjmbicfcdaaDoorSc4
namespace Go.Proofs.YtdijpjmbicfcdaaDoor
set_option linter.unusedSimpArgs false
set_option linter.unusedVariables false
open Go.RowKit Go.Sort

set_option maxHeartbeats 2000000 in
theorem schedBegun_any (w : World) (he : Env w) : Calls Tryd.prog 18 #[] w fun e w' => e = .returned (.bool true) ∧ Below w.heap.size w w' := by
  go_enter Tryd.func18, Tryd.ntmps18
  go_wp2_with fail
  refine (relay_any _).mono ?_
  rintro e w1 ⟨vp, vc, vs, rfl, s1, b1⟩
  have S1 := Lib.hid s1.sys
  clear s1
  go_wp2_with fail
  refine (frameC_any relayS _ _ _ _ (he.up b1) S1.out 0 relay_chk 12 (by decide +kernel)).mono ?_
  rintro e w2 ⟨rfl, bb⟩
  have D := Lib.hid (b1.trans (bb.mono b1.size))
  clear bb b1 S1
  go_wp2_with fail
  refine (relay_any _).mono ?_
  rintro e w3 ⟨vp, vc, vs, rfl, s1, b1⟩
  have D := Lib.hid (D.out.trans (b1.mono D.out.size))
  have S1 := Lib.hid s1.sys
  clear s1 b1
  go_wp2_with fail
  refine (who_any relayS _ _ _ 7 _ (he.up D.out) S1.out 0 (by decide +kernel) 3 (by decide +kernel)).mono ?_
  rintro e w4 ⟨rfl, bb⟩
  have D := Lib.hid (D.out.trans (bb.mono D.out.size))
  clear bb S1
  go_wp2_with fail
  refine (relay_any _).mono ?_
  rintro e w5 ⟨vp, vc, vs, rfl, s1, b1⟩
  have D := Lib.hid (D.out.trans (b1.mono D.out.size))
  have S1 := Lib.hid s1.sys
  clear s1 b1
  go_wp2_with fail
  refine (who_any relayS _ _ _ 12 _ (he.up D.out) S1.out 0 (by decide +kernel) 0 (by decide +kernel)).mono ?_
  rintro e w6 ⟨rfl, bb⟩
  have D := Lib.hid (D.out.trans (bb.mono D.out.size))
  clear bb S1
  go_wp2_with fail
  refine (relay_any _).mono ?_
  rintro e w7 ⟨vp, vc, vs, rfl, s1, b1⟩
  have D := Lib.hid (D.out.trans (b1.mono D.out.size))
  have S1 := Lib.hid s1.sys
  clear s1 b1
  go_wp2_with fail
  refine (who_any relayS _ _ _ (-1) _ (he.up D.out) S1.out 3 (by decide +kernel) 0 (by decide +kernel)).mono ?_
  rintro e w8 ⟨rfl, bb⟩
  have D := Lib.hid (D.out.trans (bb.mono D.out.size))
  clear bb S1
  go_wp2
  go_ret
  exact ⟨rfl, D.out⟩

set_option maxRecDepth 100000 in
set_option maxHeartbeats 4000000 in
theorem schedTells_any (S : SysD) (hok : S.ok) (vp vc vs : Value) (tick : Int) (w : World) (he : Env w) (hS : Sys w vp vc vs S) :
    Calls Tryd.prog 5 #[.agg #[vp, vc, vs], .int .i64 tick] w fun e w' => e = .returned (.bool true) ∧ Below w.heap.size w w' := by
  obtain ⟨pa, pc, rfl⟩ := hS.p.form
  obtain ⟨ca, cc, rfl⟩ := hS.c.form
  obtain ⟨sa, sc, rfl⟩ := hS.s.form
  have HS := Lib.hid hS
  have HOK := Lib.hid hok
  generalize hz : chkS S = z
  have HZ := Lib.hid hz
  generalize hfr : (if z = 0 then sumT 0 S.slots else 0) = fr
  have HFR := Lib.hid hfr
  generalize hc : (if chkS S = 0 then (if tick < 0 then 3 else 0) else chkS S : Int) = c
  have HC := Lib.hid hc
  generalize hp : (if c = 0 then whoS S tick else 0) = p
  have HP := Lib.hid hp
  clear hS hok hz hfr hc hp
  go_enter Tryd.func5, Tryd.ntmps5
  go_wp2_with fail
  refine (frameC_any S _ _ _ _ (he.up (by repeat (first | exact Below.refl _ _ | assumption | refine Below.drew ?_ | refine Below.alloc ?_ (by first | (simp; done) | (simp; omega)) _ | refine Below.setCell ?_ (by first | (simp; done) | (simp; omega)) _))) (HS.out.up (by repeat (first | exact Below.refl _ _ | assumption | refine Below.drew ?_ | refine Below.alloc ?_ (by first | (simp; done) | (simp; omega)) _ | refine Below.setCell ?_ (by first | (simp; done) | (simp; omega)) _))) z HZ.out fr HFR.out).mono ?_
  rintro e w1 ⟨rfl, bb⟩
  have HB := Lib.hid ((box_new w (.slice pa S.parts.length pc) (.slice ca S.chans.length cc) (.slice sa S.slots.length sc) 26 _ rfl).up bb)
  have D := Lib.hid (Below.trans (show Below w.heap.size w _ from (by repeat (first | exact Below.refl _ _ | assumption | refine Below.drew ?_ | refine Below.alloc ?_ (by first | (simp; done) | (simp; omega)) _ | refine Below.setCell ?_ (by first | (simp; done) | (simp; omega)) _))) (bb.mono (by simp)))
  clear bb
  have k0 := HB.out.p
  have k1 := HB.out.c
  have k2 := HB.out.s
  go_wp2_with fail
  refine (who_any S _ _ _ tick _ (he.up D.out) (HS.out.up D.out) c HC.out p HP.out).mono ?_
  rintro e w2 ⟨rfl, bb⟩
  have HB := Lib.hid (HB.out.up bb)
  have D := Lib.hid (D.out.trans (bb.mono D.out.size))
  clear bb k0 k1 k2
  have k0 := HB.out.p
  have k1 := HB.out.c
  have k2 := HB.out.s
  go_wp2_with fail
  refine (sysRef_any S HOK.out _ _ _ _ (HS.out.up D.out)).mono ?_
  rw [HZ.out]
  rintro e w3 ⟨rfl, bb⟩
  have HB := Lib.hid (HB.out.up bb)
  have D := Lib.hid (D.out.trans (bb.mono D.out.size))
  clear bb k0 k1 k2
  have k0 := HB.out.p
  have k1 := HB.out.c
  have k2 := HB.out.s
  by_cases h0 : z = 0
  · subst h0
    have hsl := slots_ok HZ.out
    have HSL := Lib.hid hsl
    have HFR1 : Hid (sumT 0 S.slots = fr) := HFR.out
    clear hsl
    by_cases ht : tick < 0
    · obtain rfl : 3 = c := by have := HC.out; rw [HZ.out, if_pos rfl, if_pos ht] at this; exact this
      obtain rfl : 0 = p := HP.out
      have hff : (fr == fr) = true := by simp
      go_wp2_with fail
      refine (frameOf_any S HSL.out.1 HSL.out.2 _ _ _ _ (HS.out.up D.out) fr HFR1.out).mono ?_
      rintro e w4 ⟨rfl, bb⟩
      have D := Lib.hid (D.out.trans (bb.mono D.out.size))
      clear bb k0 k1 k2 HB
      go_wp2_with fail
      refine (schedBegun_any _ (he.up D.out)).mono ?_
      rintro e w5 ⟨rfl, bb⟩
      have D := Lib.hid (D.out.trans (bb.mono D.out.size))
      clear bb
      go_wp2
      go_ret
      exact ⟨rfl, D.out⟩
    · obtain rfl : 0 = c := by have := HC.out; rw [HZ.out, if_pos rfl, if_neg ht] at this; exact this
      have HPP : Hid (whoS S tick = p) := HP.out
      have hff : (fr == fr) = true := by simp
      have hpp : (p == p) = true := by simp
      have ht0 : 0 ≤ tick := by omega
      go_wp2_with fail
      refine (frameOf_any S HSL.out.1 HSL.out.2 _ _ _ _ (HS.out.up D.out) fr HFR1.out).mono ?_
      rintro e w4 ⟨rfl, bb⟩
      have HB := Lib.hid (HB.out.up bb)
      have D := Lib.hid (D.out.trans (bb.mono D.out.size))
      clear bb k0 k1 k2
      have k0 := HB.out.p
      have k1 := HB.out.c
      have k2 := HB.out.s
      go_wp2_with fail
      refine (whoOf_any S HSL.out.1 HSL.out.2 _ _ _ tick ht0 _ (HS.out.up D.out) p HPP.out).mono ?_
      rintro e w5 ⟨rfl, bb⟩
      have D := Lib.hid (D.out.trans (bb.mono D.out.size))
      clear bb k0 k1 k2 HB
      go_wp2_with fail
      refine (schedBegun_any _ (he.up D.out)).mono ?_
      rintro e w6 ⟨rfl, bb⟩
      have D := Lib.hid (D.out.trans (bb.mono D.out.size))
      clear bb
      go_wp2
      go_ret
      exact ⟨rfl, D.out⟩
  · have hz0 : (z == 0) = false := by simpa using h0
    have hzz : (z == z) = true := by simp
    obtain rfl : z = c := by have := HC.out; rw [HZ.out, if_neg h0] at this; exact this
    obtain rfl : 0 = p := by have := HP.out; rw [if_neg h0] at this; exact this
    obtain rfl : 0 = fr := by have := HFR.out; rw [if_neg h0] at this; exact this
    clear h0
    go_wp2_with fail
    refine (schedBegun_any _ (he.up D.out)).mono ?_
    rintro e w4 ⟨rfl, bb⟩
    have D := Lib.hid (D.out.trans (bb.mono D.out.size))
    clear bb
    go_wp2
    go_ret
    exact ⟨rfl, D.out⟩
end Go.Proofs.YtdijpjmbicfcdaaDoor

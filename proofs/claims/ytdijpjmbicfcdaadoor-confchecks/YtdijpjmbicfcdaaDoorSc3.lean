/- sched.Who; the reference's WhoOf. -/
import Derived.Test.YtdijpjmbicfcdaaDoorSc2
import Derived.Deep.CutRange
import Derived.Deep.RegionWith
import Derived.Deep.RegionHeld3
namespace Go.Proofs.YtdijpjmbicfcdaaDoor
set_option linter.unusedSimpArgs false
set_option linter.unusedVariables false
open Go.RowKit Go.Sort

theorem ret2i {a b c d : Int} (h1 : a = b) (h2 : c = d) : Ending.returned (.tuple #[.int .i64 a, .int .i64 c]) = .returned (.tuple #[.int .i64 b, .int .i64 d]) := by rw [h1, h2]

set_option maxHeartbeats 2000000 in
theorem who_any (S : SysD) (vp vc vs : Value) (tick : Int) (w : World) (he : Env w) (hS : Sys w vp vc vs S) (c : Int) (hc : (if chkS S = 0 then (if tick < 0 then 3 else 0) else chkS S) = c) (p : Int) (hp : (if c = 0 then whoS S tick else 0) = p) :
    Calls Tryd.prog 15 #[.agg #[vp, vc, vs], .int .i64 tick] w fun e w' => e = .returned (.tuple #[.int .i64 p, .int .i64 c]) ∧ Below w.heap.size w w' := by
  obtain ⟨pa, pc, rfl⟩ := hS.p.form
  obtain ⟨ca, cc, rfl⟩ := hS.c.form
  obtain ⟨sa, sc, rfl⟩ := hS.s.form
  have HS := Lib.hid hS
  have HC := Lib.hid hc
  have HP := Lib.hid hp
  generalize hz : chkS S = z
  have HZ := Lib.hid hz
  clear hS hc hp hz
  go_enter Tryd.func15, Tryd.ntmps15
  go_wp2_with fail
  refine (confCheck_any S _ _ _ _ (he.up (by repeat (first | exact Below.refl _ _ | assumption | refine Below.drew ?_ | refine Below.alloc ?_ (by first | (simp; done) | (simp; omega)) _ | refine Below.setCell ?_ (by first | (simp; done) | (simp; omega)) _))) (HS.out.up (by repeat (first | exact Below.refl _ _ | assumption | refine Below.drew ?_ | refine Below.alloc ?_ (by first | (simp; done) | (simp; omega)) _ | refine Below.setCell ?_ (by first | (simp; done) | (simp; omega)) _)))).mono ?_
  rw [HZ.out]
  rintro e w1 ⟨rfl, bb⟩
  have hB := (box_new w (.slice pa S.parts.length pc) (.slice ca S.chans.length cc) (.slice sa S.slots.length sc) 26 _ rfl).up bb
  have D := Lib.hid (Below.trans (show Below w.heap.size w _ from (by repeat (first | exact Below.refl _ _ | assumption | refine Below.drew ?_ | refine Below.alloc ?_ (by first | (simp; done) | (simp; omega)) _ | refine Below.setCell ?_ (by first | (simp; done) | (simp; omega)) _))) (bb.mono (by simp)))
  have HB := Lib.hid hB
  have k2 := HB.out.s
  clear bb hB
  by_cases h0 : z = 0
  · subst h0
    by_cases ht : tick < 0
    · obtain rfl : 3 = c := by have := HC.out; rw [HZ.out, if_pos rfl, if_pos ht] at this; exact this
      obtain rfl : 0 = p := HP.out
      go_wp2
      go_ret2
      exact ⟨rfl, D.out⟩
    · obtain rfl : 0 = c := by have := HC.out; rw [HZ.out, if_pos rfl, if_neg ht] at this; exact this
      have HPP : Hid (ownL (tick % sumT 0 S.slots) 0 (turnsL 0 S.slots) = p) := HP.out
      have hok := slots_ok HZ.out
      have hfp := frame_pos hok.1 hok.2
      generalize hfr : sumT 0 S.slots = fr
      have HFR := Lib.hid hfr
      rw [hfr] at hfp
      have hf1 : 1 ≤ fr := hfp.1
      have hf2 : fr ≤ 48 := hfp.2
      have ht0 : 0 ≤ tick := by omega
      have hne : (fr == 0) = false := by simp; omega
      have HO := Lib.hid hok
      clear hfr hfp hok HP HC ht
      go_wp2
      go_region_with (first | (go_at_call 40; refine (frame_any S.slots _ _ HO.out.1 HO.out.2 ((HS.out.s.up D.out).up (by repeat (first | exact Below.refl _ _ | assumption | refine Below.drew ?_ | refine Below.alloc ?_ (by first | (simp; done) | (simp; omega)) _ | refine Below.setCell ?_ (by first | (simp; done) | (simp; omega)) _)))).mono ?_; rw [HFR.out]; rintro e w2 ⟨rfl, bb0⟩; have bb : Below w1.heap.size w1 w2 := Below.trans (by repeat (first | exact Below.refl _ _ | assumption | refine Below.drew ?_ | refine Below.alloc ?_ (by first | (simp; done) | (simp; omega)) _ | refine Below.setCell ?_ (by first | (simp; done) | (simp; omega)) _)) (bb0.mono (by simp)); clear bb0; have k2' := (HB.out.up bb).s; have D2 := Lib.hid (D.out.trans (bb.mono D.out.size)); clear bb) | (go_at_call 41; refine (owner_any S.slots _ _ _ HO.out.1 HO.out.2 ((HS.out.s.up D2.out).up (by repeat (first | exact Below.refl _ _ | assumption | refine Below.drew ?_ | refine Below.alloc ?_ (by first | (simp; done) | (simp; omega)) _ | refine Below.setCell ?_ (by first | (simp; done) | (simp; omega)) _)))).mono ?_; rintro e w3 ⟨rfl, bb0⟩; have bb : Below w2.heap.size w2 w3 := Below.trans (by repeat (first | exact Below.refl _ _ | assumption | refine Below.drew ?_ | refine Below.alloc ?_ (by first | (simp; done) | (simp; omega)) _ | refine Below.setCell ?_ (by first | (simp; done) | (simp; omega)) _)) (bb0.mono (by simp)); clear bb0; have D3 := Lib.hid (D2.out.trans (bb.mono D2.out.size)); clear bb))
      all_goals go_wp2
      all_goals go_ret2
      all_goals exact ⟨ret2i (show ownL (tick % fr) 0 (turnsL 0 S.slots) = p by rw [← HPP.out, HFR.out]) rfl, D3.out⟩
  · have hz' : (z != 0) = true := by simpa using h0
    obtain rfl : z = c := by have := HC.out; rw [HZ.out, if_neg h0] at this; exact this
    obtain rfl : 0 = p := by have := HP.out; rw [if_neg h0] at this; exact this
    clear h0
    go_wp2
    go_ret2
    exact ⟨rfl, D.out⟩

theorem whoS_rep {S : SysD} (hok : SlotsOk S.slots) (h1 : 1 ≤ S.slots.length) {tick : Int} (ht : 0 ≤ tick) : ∃ x : Nat, (x : Int) = tick % sumT 0 S.slots ∧ ∃ hx : x < (repL S.slots).length, (repL S.slots)[x] = whoS S tick := by
  have hp := frame_pos hok h1
  have hl := repL_len S.slots 0 hok.nonneg
  have ha := Int.emod_nonneg tick (show sumT 0 S.slots ≠ 0 by omega)
  have hb := Int.emod_lt_of_pos tick (show 0 < sumT 0 S.slots by omega)
  refine ⟨(tick % sumT 0 S.slots).toNat, by omega, by omega, ?_⟩
  have := ownL_rep S.slots 0 0 (tick % sumT 0 S.slots).toNat hok.nonneg (by omega)
  rw [← this]
  unfold whoS
  congr 1
  omega

set_option maxRecDepth 100000 in
set_option maxHeartbeats 4000000 in
theorem whoOf_any (S : SysD) (hok : SlotsOk S.slots) (h1 : 1 ≤ S.slots.length) (vp vc vs : Value) (tick : Int) (ht : 0 ≤ tick) (w : World) (hS : Sys w vp vc vs S) (p : Int) (hp : whoS S tick = p) :
    Calls Tryd.prog 17 #[.agg #[vp, vc, vs], .int .i64 tick] w fun e w' => e = .returned (.int .i64 p) ∧ Below w.heap.size w w' := by
  obtain ⟨pa, pc, rfl⟩ := hS.p.form
  obtain ⟨ca, cc, rfl⟩ := hS.c.form
  obtain ⟨sa, sc, rfl⟩ := hS.s.form
  obtain ⟨x, hx, hxl, hxv⟩ := whoS_rep hok h1 ht
  have hfp := frame_pos hok h1
  have hlen : (repL S.slots).length ≤ 48 := by have := repL_len S.slots 0 hok.nonneg; omega
  generalize hfr : sumT 0 S.slots = fr at hx hfp
  have HFR := Lib.hid hfr
  have HX := Lib.hid hx
  have HXV : Hid ((repL S.slots)[x] = p) := by show _ = _; rw [hxv, hp]
  have HO := Lib.hid hok
  have HS := Lib.hid hS
  have hf1 : 1 ≤ fr := hfp.1
  have hf2 : fr ≤ 48 := hfp.2
  have hne : (fr == 0) = false := by simp; omega
  have hB := box_new w (.slice pa S.parts.length pc) (.slice ca S.chans.length cc) (.slice sa S.slots.length sc) 26 _ rfl
  have HB := Lib.hid hB
  generalize hRL : repL S.slots = RL at hxl HXV hlen
  have HRL := Lib.hid hRL
  have hxi : (x : Int) < RL.length := by omega
  have hx0 : (0 : Int) ≤ x := by omega
  have hxm : tick % fr = x := hx.symm
  clear hok hS hp hxv hfr hx hfp hB hRL
  have hD0 : Below w.heap.size w (w.alloc (.cells #[.slice pa S.parts.length pc, .slice ca S.chans.length cc, .slice sa S.slots.length sc] 26)) := (Below.refl _ _).alloc (Nat.le_refl _) _
  have hz : (w.alloc (.cells #[.slice pa S.parts.length pc, .slice ca S.chans.length cc, .slice sa S.slots.length sc] 26)).heap.size = w.heap.size + 1 := by simp
  go_enter Tryd.func17, Tryd.ntmps17
  go_wp2
  generalize w.alloc (.cells #[.slice pa S.parts.length pc, .slice ca S.chans.length cc, .slice sa S.slots.length sc] 26) = W0 at *
  have k0 := HB.out.p
  have k1 := HB.out.c
  have k2 := HB.out.s
  have HS0 := Lib.hid (HS.out.up hD0)
  have HD0 := Lib.hid hD0
  clear hD0
  go_region_with (first | (go_at_call 42; refine (turnsRef_any S HO.out h1 _ _ _ _ (HS0.out.up (by repeat (first | exact Below.refl _ _ | assumption | refine Below.drew ?_ | refine Below.alloc ?_ (by first | (simp; done) | (simp; omega)) _ | refine Below.setCell ?_ (by first | (simp; done) | (simp; omega)) _)))).mono ?_; rintro e w1 ⟨v, rfl, s, bb0⟩; rw [HRL.out] at s; obtain ⟨g, go, gc, rfl, hgc, hgl, hgcs⟩ := s.1.open (by omega); have bb : Below W0.heap.size W0 w1 := Below.trans (by repeat (first | exact Below.refl _ _ | assumption | refine Below.drew ?_ | refine Below.alloc ?_ (by first | (simp; done) | (simp; omega)) _ | refine Below.setCell ?_ (by first | (simp; done) | (simp; omega)) _)) (bb0.mono (by simp)); have q1 := Lib.hid (hgcs x _ (ints_at RL x hxl)); clear hgcs s bb0; have k0' := (HB.out.up bb).p; have k1' := (HB.out.up bb).c; have k2' := (HB.out.up bb).s; have D1 := Lib.hid bb; clear bb) | (go_at_call 16; refine (frameOf_any S HO.out h1 _ _ _ _ ((HS0.out.up D1.out).up (by repeat (first | exact Below.refl _ _ | assumption | refine Below.drew ?_ | refine Below.alloc ?_ (by first | (simp; done) | (simp; omega)) _ | refine Below.setCell ?_ (by first | (simp; done) | (simp; omega)) _))) fr HFR.out).mono ?_; rintro e w2 ⟨rfl, bb0⟩; have bb : Below w1.heap.size w1 w2 := Below.trans (by repeat (first | exact Below.refl _ _ | assumption | refine Below.drew ?_ | refine Below.alloc ?_ (by first | (simp; done) | (simp; omega)) _ | refine Below.setCell ?_ (by first | (simp; done) | (simp; omega)) _)) (bb0.mono (by simp)); have xc := bcl bb hgl q1.out; have D2 := Lib.hid (D1.out.trans (bb.mono D1.out.size)); clear bb bb0))
  all_goals go_wp2
  all_goals go_ret
  all_goals exact ⟨ret_int HXV.out, HD0.out.trans (D2.out.mono HD0.out.size)⟩
end Go.Proofs.YtdijpjmbicfcdaaDoor

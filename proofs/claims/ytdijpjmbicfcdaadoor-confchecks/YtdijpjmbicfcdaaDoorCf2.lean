/- conf: counts, places, names. -/
import Derived.Test.YtdijpjmbicfcdaaDoorCf1
import Derived.Deep.QuietTactic
import Derived.BigQuiet
namespace Go.Proofs.YtdijpjmbicfcdaaDoor
set_option linter.unusedSimpArgs false
set_option linter.unusedVariables false
open Go.RowKit Go.Sort

theorem below_drewN {B : Nat} {a w : World} (h : Below B a w) (n : Nat) : Below B a (w.drewN n) := ⟨h.os, h.tape, h.output, h.size, h.block⟩
theorem enCheck1 : Enters 32 := enters Tryd.func32 (by kernel_rfl) (by kernel_rfl)
theorem enCounts1 : Enters 46 := enters Tryd.func46 (by kernel_rfl) (by kernel_rfl)
theorem enPlaces1 : Enters 48 := enters Tryd.func48 (by kernel_rfl) (by kernel_rfl)
theorem enPlaces2 : Enters 50 := enters Tryd.func50 (by kernel_rfl) (by kernel_rfl)
theorem enNames1 : Enters 53 := enters Tryd.func53 (by kernel_rfl) (by kernel_rfl)
theorem enNames2 : Enters 55 := enters Tryd.func55 (by kernel_rfl) (by kernel_rfl)

set_option maxHeartbeats 1000000 in
theorem counts_any (S : SysD) (vp vc vs : Value) (w : World) (hS : Sys w vp vc vs S) : Calls Tryd.prog 29 #[.agg #[vp, vc, vs]] w fun e w' => e = .returned (.bool (countsB S)) ∧ Below w.heap.size w w' := by
  obtain ⟨pa, pc, rfl⟩ := hS.p.form
  obtain ⟨ca, cc, rfl⟩ := hS.c.form
  obtain ⟨sa, sc, rfl⟩ := hS.s.form
  generalize h1 : withinB (S.parts.length : Int) 1 4 = q1
  generalize h3 : withinB (S.slots.length : Int) 1 6 = q3
  generalize h4 : (S.parts.any fun p => decide (12 < p.inn.length)) = q4
  have H1 := Lib.hid h1
  have H3 := Lib.hid h3
  have H4 := Lib.hid h4
  have HS := Lib.hid hS
  by_cases h2 : S.chans.length ≤ 6
  · have h2' : (S.chans.length : Int) ≤ 6 := by omega
    have HE : Hid (countsB S = (q1 && q3 && !q4)) := by
      show countsB S = _
      unfold countsB
      rw [h4, ← h1, ← h3]
      unfold withinB
      congr 1
      rw [Bool.eq_iff_iff]
      simp; omega
    have HP : q1 = true → S.parts.length ≤ 1000 := fun e => by subst e; unfold withinB at h1; simp at h1; omega
    clear h1 h3 h4 hS
    go_enter Tryd.func29, Tryd.ntmps29
    go_wp2_with fail
    refine (cwithin_any _ _ _ _).mono ?_
    rw [H1.out]
    rintro e w1 ⟨rfl, rfl⟩
    cases q1
    · go_wp2
      go_ret
      exact ⟨ret_bool (by rw [HE.out]; rfl), (by repeat (first | exact Below.refl _ _ | assumption | refine Below.drew ?_ | refine Below.alloc ?_ (by first | (simp; done) | (simp; omega)) _ | refine Below.setCell ?_ (by first | (simp; done) | (simp; omega)) _))⟩
    · have hp := HP rfl
      clear HP
      go_wp2_with fail
      refine (cwithin_any _ _ _ _).mono ?_
      rw [H3.out]
      rintro e w1 ⟨rfl, rfl⟩
      cases q3
      · go_wp2
        go_ret
        exact ⟨ret_bool (by rw [HE.out]; rfl), (by repeat (first | exact Below.refl _ _ | assumption | refine Below.drew ?_ | refine Below.alloc ?_ (by first | (simp; done) | (simp; omega)) _ | refine Below.setCell ?_ (by first | (simp; done) | (simp; omega)) _))⟩
      · go_wp2_with fail
        refine (onePart_any S.parts _ _ enCounts1 #[] (fun p => decide (12 < p.inn.length)) _ (HS.out.p.up (by repeat (first | exact Below.refl _ _ | assumption | refine Below.drew ?_ | refine Below.alloc ?_ (by first | (simp; done) | (simp; omega)) _ | refine Below.setCell ?_ (by first | (simp; done) | (simp; omega)) _))) hp (fun k hk c i w1 hpr _ => ?_) q4 H4.out).mono ?_
        · obtain ⟨a1, b1, rfl⟩ := hpr.code.form
          obtain ⟨a2, b2, rfl⟩ := hpr.inn.form
          rw [app0]
          exact countLit_any _ _ _ _ _ _ _
        rintro e w2 ⟨rfl, bb⟩
        have D := Lib.hid (Below.trans (show Below w.heap.size w _ from (by repeat (first | exact Below.refl _ _ | assumption | refine Below.drew ?_ | refine Below.alloc ?_ (by first | (simp; done) | (simp; omega)) _ | refine Below.setCell ?_ (by first | (simp; done) | (simp; omega)) _))) (bb.mono (by simp)))
        clear bb
        cases q4
        all_goals
          go_wp2
          go_ret
          exact ⟨ret_bool (by rw [HE.out]; rfl), D.out⟩
  · have h2' : ¬ (S.chans.length : Int) ≤ 6 := by omega
    have HE : Hid (countsB S = false) := by
      show countsB S = _
      unfold countsB
      simp; omega
    clear h1 h3 h4 hS
    go_enter Tryd.func29, Tryd.ntmps29
    go_wp2_with fail
    refine (cwithin_any _ _ _ _).mono ?_
    rw [H1.out]
    rintro e w1 ⟨rfl, rfl⟩
    cases q1
    all_goals
      go_wp2
      go_ret
      exact ⟨ret_bool (by rw [HE.out]), (by repeat (first | exact Below.refl _ _ | assumption | refine Below.drew ?_ | refine Below.alloc ?_ (by first | (simp; done) | (simp; omega)) _ | refine Below.setCell ?_ (by first | (simp; done) | (simp; omega)) _))⟩

set_option maxHeartbeats 1000000 in
theorem places_any (S : SysD) (vp vc vs : Value) (w : World) (hS : Sys w vp vc vs S) (hc : countsB S = true) : Calls Tryd.prog 33 #[.agg #[vp, vc, vs]] w fun e w' => e = .returned (.bool (placesB S)) ∧ Below w.heap.size w w' := by
  have hn : S.parts.length ≤ 1000 ∧ S.chans.length ≤ 1000 ∧ S.slots.length ≤ 1000 := by unfold countsB at hc; simp at hc; omega
  obtain ⟨hn1, hn2, hn3⟩ := hn
  obtain ⟨pa, pc, rfl⟩ := hS.p.form
  obtain ⟨ca, cc, rfl⟩ := hS.c.form
  obtain ⟨sa, sc, rfl⟩ := hS.s.form
  generalize h1 : S.chans.any (placeBad S.parts.length) = q1
  generalize h2 : S.slots.any (slotBad S.parts.length) = q2
  have HE : Hid (placesB S = (!q1 && !q2)) := by show placesB S = _; unfold placesB; rw [h1, h2]
  have H1 := Lib.hid h1
  have H2 := Lib.hid h2
  have HS := Lib.hid hS
  clear h1 h2 hS hc
  go_enter Tryd.func33, Tryd.ntmps33
  go_wp2_with fail
  refine (oneChan_any S.chans _ _ enPlaces1 _ (placeBad S.parts.length) _ (HS.out.c.up (by repeat (first | exact Below.refl _ _ | assumption | refine Below.drew ?_ | refine Below.alloc ?_ (by first | (simp; done) | (simp; omega)) _ | refine Below.setCell ?_ (by first | (simp; done) | (simp; omega)) _))) hn2 (fun k hk w1 hb => ?_) q1 H1.out).mono ?_
  · rw [app1]
    exact placeLit_any _ _ _ _ _ _ _ _ hn1 ((box_new w _ _ _ _ _ rfl).up hb) ⟨_, _, _, rfl⟩ ⟨_, _, _, rfl⟩
  rintro e w2 ⟨rfl, bb⟩
  have D := Lib.hid (Below.trans (show Below w.heap.size w _ from (by repeat (first | exact Below.refl _ _ | assumption | refine Below.drew ?_ | refine Below.alloc ?_ (by first | (simp; done) | (simp; omega)) _ | refine Below.setCell ?_ (by first | (simp; done) | (simp; omega)) _))) (bb.mono (by simp)))
  have HB := Lib.hid ((box_new w (.slice pa S.parts.length pc) (.slice ca S.chans.length cc) (.slice sa S.slots.length sc) 26 _ rfl).up bb)
  have k2 := HB.out.s
  clear bb
  cases q1
  · go_wp2_with fail
    refine (oneSlot_any S.slots _ _ enPlaces2 _ (slotBad S.parts.length) _ (HS.out.s.up D.out) hn3 (fun k hk w1 hb => ?_) q2 H2.out).mono ?_
    · rw [app1]
      exact slotLit_any _ _ _ _ _ _ _ _ hn1 (HB.out.up hb) ⟨_, _, _, rfl⟩ ⟨_, _, _, rfl⟩
    rintro e w3 ⟨rfl, bb⟩
    have D := Lib.hid (D.out.trans (bb.mono D.out.size))
    clear bb
    cases q2
    all_goals
      go_wp2
      go_ret
      exact ⟨ret_bool (by rw [HE.out]; rfl), D.out⟩
  · go_wp2
    go_ret
    exact ⟨ret_bool (by rw [HE.out]; rfl), D.out⟩

set_option maxHeartbeats 1000000 in
theorem putLit_any (c : Nat) (l : List Chn) (me : Int) (g m : Nat) (vp vc vs : Value) (w : World) (hB : Box w g vp vc vs) (hm : w.cell? ⟨m, 0, none⟩ = some (.int .i64 me)) (hS : Sl w 3 vc l.length (rowC chC l)) (hc : c < 6) :
    Calls Tryd.prog 53 #[.int .i64 c, .pointer (some ⟨g, 0, none⟩), .pointer (some ⟨m, 0, none⟩)] w fun e w' => e = .returned (.bool (putBad l me c)) ∧ Below w.heap.size w w' := by
  obtain ⟨ca, cc, rfl⟩ := hS.form
  have k1 := hB.c
  by_cases h : c < l.length
  · have h' : (c : Int) < l.length := by omega
    have h0 : (0 : Int) ≤ c := by omega
    have hd : decide ((l.length : Int) ≤ c) = false := by simp; omega
    obtain ⟨b, off, cap, e1, hcap, hbw, hcs⟩ := hS.open (by omega)
    cases e1
    obtain ⟨c0, c1, c2⟩ := chan_cells hcs c h
    generalize hq : (l[c].fr != me) = q
    have HE : Hid (putBad l me c = q) := by
      show putBad l me c = q
      unfold putBad
      rw [show ((c : Int)).toNat = c from rfl, List.getElem?_eq_getElem h]
      exact hq
    clear hcs hS hB
    go_enter Tryd.func53, Tryd.ntmps53
    go_wp2
    go_quiet (fail)
    all_goals go_wp2
    all_goals go_ret
    all_goals exact ⟨ret_bool (by rw [HE.out]; try simp [Nat.not_le.2 h]), by first | exact Below.refl _ _ | exact below_drewN (Below.refl _ _) _ | exact (Below.refl _ _).drew⟩
  · have h' : ¬ (c : Int) < l.length := by omega
    have hd : decide ((l.length : Int) ≤ c) = true := by simp; omega
    have HE : Hid (putBad l me c = true) := by
      show putBad l me c = _
      unfold putBad
      rw [show ((c : Int)).toNat = c from rfl, List.getElem?_eq_none (by omega)]
    clear hS hB h
    go_enter Tryd.func53, Tryd.ntmps53
    go_wp2
    go_quiet (fail)
    all_goals go_wp2
    all_goals go_ret
    all_goals exact ⟨ret_bool (by rw [HE.out]; try simp [Nat.not_le.2 h]), by first | exact Below.refl _ _ | exact below_drewN (Below.refl _ _) _ | exact (Below.refl _ _).drew⟩

set_option maxHeartbeats 1000000 in
theorem getLit_any (c : Nat) (l : List Chn) (me : Int) (g m : Nat) (vp vc vs : Value) (w : World) (hB : Box w g vp vc vs) (hm : w.cell? ⟨m, 0, none⟩ = some (.int .i64 me)) (hS : Sl w 3 vc l.length (rowC chC l)) (hc : c < 6) :
    Calls Tryd.prog 55 #[.int .i64 c, .pointer (some ⟨g, 0, none⟩), .pointer (some ⟨m, 0, none⟩)] w fun e w' => e = .returned (.bool (getBad l me c)) ∧ Below w.heap.size w w' := by
  obtain ⟨ca, cc, rfl⟩ := hS.form
  have k1 := hB.c
  by_cases h : c < l.length
  · have h' : (c : Int) < l.length := by omega
    have h0 : (0 : Int) ≤ c := by omega
    have hd : decide ((l.length : Int) ≤ c) = false := by simp; omega
    obtain ⟨b, off, cap, e1, hcap, hbw, hcs⟩ := hS.open (by omega)
    cases e1
    obtain ⟨c0, c1, c2⟩ := chan_cells hcs c h
    generalize hq : (l[c].tt != me) = q
    have HE : Hid (getBad l me c = q) := by
      show getBad l me c = q
      unfold getBad
      rw [show ((c : Int)).toNat = c from rfl, List.getElem?_eq_getElem h]
      exact hq
    clear hcs hS hB
    go_enter Tryd.func55, Tryd.ntmps55
    go_wp2
    go_quiet (fail)
    all_goals go_wp2
    all_goals go_ret
    all_goals exact ⟨ret_bool (by rw [HE.out]; try simp [Nat.not_le.2 h]), by first | exact Below.refl _ _ | exact below_drewN (Below.refl _ _) _ | exact (Below.refl _ _).drew⟩
  · have h' : ¬ (c : Int) < l.length := by omega
    have hd : decide ((l.length : Int) ≤ c) = true := by simp; omega
    have HE : Hid (getBad l me c = true) := by
      show getBad l me c = _
      unfold getBad
      rw [show ((c : Int)).toNat = c from rfl, List.getElem?_eq_none (by omega)]
    clear hS hB h
    go_enter Tryd.func55, Tryd.ntmps55
    go_wp2
    go_quiet (fail)
    all_goals go_wp2
    all_goals go_ret
    all_goals exact ⟨ret_bool (by rw [HE.out]; try simp [Nat.not_le.2 h]), by first | exact Below.refl _ _ | exact below_drewN (Below.refl _ _) _ | exact (Below.refl _ _).drew⟩
end Go.Proofs.YtdijpjmbicfcdaaDoor

/- conf: counts, places, names. -/
import Derived.Test.YtehhhiodfcdnmaaGreatDoorR2
import Derived.Deep.QuietTactic
import Derived.BigQuiet
namespace Go.Proofs.YtehhhiodfcdnmaaGreatDoor
set_option linter.unusedSimpArgs false
set_option linter.unusedVariables false
set_option maxHeartbeats 2000000
open Go.RowKit Go.Sort
theorem below_drewN {B : Nat} {a w : World} (h : Below B a w) (n : Nat) : Below B a (w.drewN n) := ⟨h.os, h.tape, h.output, h.size, h.block⟩
theorem enCheck1 : Enters 91 := enters Tryz.func91 kr kr
theorem enCounts1 : Enters 120 := enters Tryz.func120 kr kr
theorem enPlaces1 : Enters 122 := enters Tryz.func122 kr kr
theorem enPlaces2 : Enters 124 := enters Tryz.func124 kr kr
theorem enNames1 : Enters 127 := enters Tryz.func127 kr kr
theorem enNames2 : Enters 129 := enters Tryz.func129 kr kr
theorem counts_any (S : SysD) (vp vc vs : Value) (w : World) (hS : Sys w vp vc vs S) : Calls Tryz.prog 88 #[.agg #[vp, vc, vs]] w fun e w' => e = .returned (.bool (countsB S)) ∧ Below w.heap.size w w' := by
 obtain ⟨pa, pc, rfl⟩ := hS.p.form
 obtain ⟨ca, cc, rfl⟩ := hS.c.form
 obtain ⟨sa, sc, rfl⟩ := hS.s.form
 generalize h1 : withinB (S.parts.length : Int) 1 4 = q1
 generalize h3 : withinB (S.slots.length : Int) 1 6 = q3
 generalize h4 : (S.parts.any fun p => decide (12 < p.inn.length)) = q4
 have H1 := hd h1
 have H3 := hd h3
 have H4 := hd h4
 have HS := hd hS
 by_cases h2 : S.chans.length ≤ 6
 ·have h2' : (S.chans.length : Int) ≤ 6 := by omega
  have HE : Hid (countsB S = (q1 && q3 && !q4)) := by
   show countsB S = _
   unfold countsB
   rw [h4, ← h1, ← h3]
   unfold withinB
   congr 1
   rw [Bool.eq_iff_iff]
   simp; omega
  have HP : q1 = true → S.parts.length ≤ 1000 := fun e => by subst e; unfold withinB at h1; simp at h1; omega
  clear h1 h3 h4 hS
  go_enter Tryz.func88, Tryz.ntmps88
  go_wp2_with fail
  refine (cwithin_any _ _ _ _).mono ?_
  rw [H1.out]
  rintro e w1 ⟨rfl, rfl⟩
  cases q1
  ·go_wp2
   go_ret
   exact ⟨ret_bool (by rw [HE.out]; rfl), up0⟩
  ·have hp := HP rfl
   clear HP
   go_wp2_with fail
   refine (cwithin_any _ _ _ _).mono ?_
   rw [H3.out]
   rintro e w1 ⟨rfl, rfl⟩
   cases q3
   ·go_wp2
    go_ret
    exact ⟨ret_bool (by rw [HE.out]; rfl), up0⟩
   ·go_wp2_with fail
    refine (onePart_any S.parts _ _ enCounts1 #[] (fun p => decide (12 < p.inn.length)) _ (HS.out.p.up up0) hp (fun k hk c i w1 hpr _ => ?_) q4 H4.out).mono ?_
    ·obtain ⟨a1, b1, rfl⟩ := hpr.code.form
     obtain ⟨a2, b2, rfl⟩ := hpr.inn.form
     rw [app0]
     exact countLit_any _ _ _ _ _ _ _
    rintro e w2 ⟨rfl, bb⟩
    have D := hd (Below.trans (show Below w.heap.size w _ from up0) (bb.mono (by simp)))
    clear bb
    cases q4
    all_goals
     go_wp2
     go_ret
     exact ⟨ret_bool (by rw [HE.out]; rfl), D.out⟩
 ·have h2' : ¬ (S.chans.length : Int) ≤ 6 := by omega
  have HE : Hid (countsB S = false) := by
   show countsB S = _
   unfold countsB
   simp; omega
  clear h1 h3 h4 hS
  go_enter Tryz.func88, Tryz.ntmps88
  go_wp2_with fail
  refine (cwithin_any _ _ _ _).mono ?_
  rw [H1.out]
  rintro e w1 ⟨rfl, rfl⟩
  cases q1
  all_goals
   go_wp2
   go_ret
   exact ⟨ret_bool (by rw [HE.out]), up0⟩
theorem places_any (S : SysD) (vp vc vs : Value) (w : World) (hS : Sys w vp vc vs S) (hc : countsB S = true) : Calls Tryz.prog 92 #[.agg #[vp, vc, vs]] w fun e w' => e = .returned (.bool (placesB S)) ∧ Below w.heap.size w w' := by
 have hn : S.parts.length ≤ 1000 ∧ S.chans.length ≤ 1000 ∧ S.slots.length ≤ 1000 := by unfold countsB at hc; simp at hc; omega
 obtain ⟨hn1, hn2, hn3⟩ := hn
 obtain ⟨pa, pc, rfl⟩ := hS.p.form
 obtain ⟨ca, cc, rfl⟩ := hS.c.form
 obtain ⟨sa, sc, rfl⟩ := hS.s.form
 generalize h1 : S.chans.any (placeBad S.parts.length) = q1
 generalize h2 : S.slots.any (slotBad S.parts.length) = q2
 have HE : Hid (placesB S = (!q1 && !q2)) := by show placesB S = _; unfold placesB; rw [h1, h2]
 have H1 := hd h1
 have H2 := hd h2
 have HS := hd hS
 clear h1 h2 hS hc
 go_enter Tryz.func92, Tryz.ntmps92
 go_wp2_with fail
 refine (oneChan_any S.chans _ _ enPlaces1 _ (placeBad S.parts.length) _ (HS.out.c.up up0) hn2 (fun k hk w1 hb => ?_) q1 H1.out).mono ?_
 ·rw [app1]
  exact placeLit_any _ _ _ _ _ _ _ _ hn1 ((box_new w _ _ _ _ _ rfl).up hb) ⟨_, _, _, rfl⟩ ⟨_, _, _, rfl⟩
 rintro e w2 ⟨rfl, bb⟩
 have D := hd (Below.trans (show Below w.heap.size w _ from up0) (bb.mono (by simp)))
 have HB := hd ((box_new w (.slice pa S.parts.length pc) (.slice ca S.chans.length cc) (.slice sa S.slots.length sc) 26 _ rfl).up bb)
 have k2 := HB.out.s
 clear bb
 cases q1
 ·go_wp2_with fail
  refine (oneSlot_any S.slots _ _ enPlaces2 _ (slotBad S.parts.length) _ (HS.out.s.up D.out) hn3 (fun k hk w1 hb => ?_) q2 H2.out).mono ?_
  ·rw [app1]
   exact slotLit_any _ _ _ _ _ _ _ _ hn1 (HB.out.up hb) ⟨_, _, _, rfl⟩ ⟨_, _, _, rfl⟩
  rintro e w3 ⟨rfl, bb⟩
  have D := hd (D.out.trans (bb.mono D.out.size))
  clear bb
  cases q2
  all_goals
   go_wp2
   go_ret
   exact ⟨ret_bool (by rw [HE.out]; rfl), D.out⟩
 ·go_wp2
  go_ret
  exact ⟨ret_bool (by rw [HE.out]; rfl), D.out⟩
theorem putLit_any (c : Nat) (l : List Chn) (me : Int) (g m : Nat) (vp vc vs : Value) (w : World) (hB : Box w g vp vc vs) (hm : w.cell? ⟨m, 0, none⟩ = some (.int .i64 me)) (hS : Sl w 3 vc l.length (rowC chC l)) (hc : c < 6) :
  Calls Tryz.prog 127 #[.int .i64 c, .pointer (some ⟨g, 0, none⟩), .pointer (some ⟨m, 0, none⟩)] w fun e w' => e = .returned (.bool (putBad l me c)) ∧ Below w.heap.size w w' := by
 obtain ⟨ca, cc, rfl⟩ := hS.form
 have k1 := hB.c
 by_cases h : c < l.length
 ·have h' : (c : Int) < l.length := by omega
  have h0 : (0 : Int) ≤ c := by omega
  have hd : decide ((l.length : Int) ≤ c) = false := by simp; omega
  obtain ⟨b, off, cap, e1, hcap, hbw, hcs⟩ := hS.open om
  cases e1
  obtain ⟨c0, c1, c2⟩ := chan_cells hcs c h
  generalize hq : (l[c].fr != me) = q
  have HE : Hid (putBad l me c = q) := by
   show putBad l me c = q
   unfold putBad
   rw [show ((c : Int)).toNat = c from rfl, List.getElem?_eq_getElem h]
   exact hq
  clear hcs hS hB
  go_enter Tryz.func127, Tryz.ntmps127
  go_wp2
  go_quiet (fail)
  all_goals go_wp2
  all_goals go_ret
  all_goals exact ⟨ret_bool (by rw [HE.out]; try simp [Nat.not_le.2 h]), by first | exact Below.refl _ _ | exact below_drewN (Below.refl _ _) _ | exact (Below.refl _ _).drew⟩
 ·have h' : ¬ (c : Int) < l.length := by omega
  have hd : decide ((l.length : Int) ≤ c) = true := by simp; omega
  have HE : Hid (putBad l me c = true) := by
   show putBad l me c = _
   unfold putBad
   rw [show ((c : Int)).toNat = c from rfl, List.getElem?_eq_none om]
  clear hS hB h
  go_enter Tryz.func127, Tryz.ntmps127
  go_wp2
  go_quiet (fail)
  all_goals go_wp2
  all_goals go_ret
  all_goals exact ⟨ret_bool (by rw [HE.out]; try simp [Nat.not_le.2 h]), by first | exact Below.refl _ _ | exact below_drewN (Below.refl _ _) _ | exact (Below.refl _ _).drew⟩
theorem getLit_any (c : Nat) (l : List Chn) (me : Int) (g m : Nat) (vp vc vs : Value) (w : World) (hB : Box w g vp vc vs) (hm : w.cell? ⟨m, 0, none⟩ = some (.int .i64 me)) (hS : Sl w 3 vc l.length (rowC chC l)) (hc : c < 6) :
  Calls Tryz.prog 129 #[.int .i64 c, .pointer (some ⟨g, 0, none⟩), .pointer (some ⟨m, 0, none⟩)] w fun e w' => e = .returned (.bool (getBad l me c)) ∧ Below w.heap.size w w' := by
 obtain ⟨ca, cc, rfl⟩ := hS.form
 have k1 := hB.c
 by_cases h : c < l.length
 ·have h' : (c : Int) < l.length := by omega
  have h0 : (0 : Int) ≤ c := by omega
  have hd : decide ((l.length : Int) ≤ c) = false := by simp; omega
  obtain ⟨b, off, cap, e1, hcap, hbw, hcs⟩ := hS.open om
  cases e1
  obtain ⟨c0, c1, c2⟩ := chan_cells hcs c h
  generalize hq : (l[c].tt != me) = q
  have HE : Hid (getBad l me c = q) := by
   show getBad l me c = q
   unfold getBad
   rw [show ((c : Int)).toNat = c from rfl, List.getElem?_eq_getElem h]
   exact hq
  clear hcs hS hB
  go_enter Tryz.func129, Tryz.ntmps129
  go_wp2
  go_quiet (fail)
  all_goals go_wp2
  all_goals go_ret
  all_goals exact ⟨ret_bool (by rw [HE.out]; try simp [Nat.not_le.2 h]), by first | exact Below.refl _ _ | exact below_drewN (Below.refl _ _) _ | exact (Below.refl _ _).drew⟩
 ·have h' : ¬ (c : Int) < l.length := by omega
  have hd : decide ((l.length : Int) ≤ c) = true := by simp; omega
  have HE : Hid (getBad l me c = true) := by
   show getBad l me c = _
   unfold getBad
   rw [show ((c : Int)).toNat = c from rfl, List.getElem?_eq_none om]
  clear hS hB h
  go_enter Tryz.func129, Tryz.ntmps129
  go_wp2
  go_quiet (fail)
  all_goals go_wp2
  all_goals go_ret
  all_goals exact ⟨ret_bool (by rw [HE.out]; try simp [Nat.not_le.2 h]), by first | exact Below.refl _ _ | exact below_drewN (Below.refl _ _) _ | exact (Below.refl _ _).drew⟩
theorem chanL_nat {l : List Ins} {op : Int} {m k : Nat} (h : k < (chanL l op m).length) : ∃ c : Nat, (chanL l op m)[k] = (c : Int) ∧ c < m := by
 have hm := List.getElem_mem h
 unfold chanL at hm
 obtain ⟨c, hc, e⟩ := List.mem_map.1 hm
 exact ⟨c, e.symm, by simpa using (List.mem_filter.1 hc).1⟩
theorem namesFrom_at (l : List Chn) : ∀ (ps : List Prt) (k j : Nat) (h : j < ps.length), nameBad l ((k + j : Nat) : Int) ps[j] = true → namesFrom l k ps = false
 | p :: r, k, 0, _, hb => by
  rw [namesFrom, if_pos (by simpa using hb)]
 | p :: r, k, j + 1, h, hb => by
  rw [namesFrom]
  split
  ·rfl
  ·exact namesFrom_at l r (k + 1) j (by simpa using h) (by rw [show k + 1 + j = k + (j + 1) by omega]; simpa using hb)
theorem namesFrom_all (l : List Chn) : ∀ (ps : List Prt) (k : Nat), (∀ j (h : j < ps.length), nameBad l ((k + j : Nat) : Int) ps[j] = false) → namesFrom l k ps = true
 | [], _, _ => rfl
 | p :: r, k, hz => by
  rw [namesFrom, if_neg (by have := hz 0 (by simp); simpa using this)]
  exact namesFrom_all l r (k + 1) (fun j h => by rw [show k + 1 + j = k + (j + 1) by omega]; have := hz (j + 1) (by simpa using h); simpa using this)
theorem names_any (S : SysD) (vp vc vs : Value) (w : World) (he : Env w) (hS : Sys w vp vc vs S) (hc : countsB S = true) (hp : firstP S.parts = 0) : Calls Tryz.prog 93 #[.agg #[vp, vc, vs]] w fun e w' => e = .returned (.bool (namesB S)) ∧ Below w.heap.size w w' := by
 have hn : 1 ≤ S.parts.length ∧ S.parts.length ≤ 4 ∧ S.chans.length ≤ 6 := by unfold countsB at hc; simp at hc; omega
 obtain ⟨hn0, hn1, hn2⟩ := hn
 obtain ⟨pb, po, pc, rfl, hpc, hpb, hpp⟩ := hS.p.open om
 obtain ⟨ca, cc, rfl⟩ := hS.c.form
 obtain ⟨sa, sc, rfl⟩ := hS.s.form
 have HS := hd hS
 have HP := hd hpp
 have HZ := hd (firstP_zero hp)
 generalize hr : namesB S = r
 have HR := hd hr
 clear hS hpp hp hr hc
 go_enter Tryz.func93, Tryz.ntmps93
 go_wp2
 go_loopw [12] (fun i wr => ∃ k : Nat, i = .int .i64 k ∧ k ≤ S.parts.length ∧ Hid (∀ j (h : j < S.parts.length), j < k → nameBad S.chans (j : Int) S.parts[j] = false) ∧ Hid (Box wr w.heap.size (.slice (some ⟨pb, po, none⟩) S.parts.length pc) (.slice ca S.chans.length cc) (.slice sa S.slots.length sc)) ∧ Hid (Below w.heap.size w wr)) (fun i _ => S.parts.length - (intOf i).toNat)
 case atStart => exact ⟨0, rfl, Nat.zero_le _, fun j hj h => by omega, box_new w _ _ _ _ _ rfl, up0⟩
 case round =>
  obtain ⟨k, rfl, hk, HN, HB, hbel⟩ := hrel
  by_cases hlt : k < S.parts.length
  ·have hli : (k : Int) < S.parts.length := by omega
   obtain ⟨c, i, c0, c1, hpr⟩ := HP.out k hlt
   obtain ⟨a1, b1, rfl⟩ := hpr.code.form
   obtain ⟨a2, b2, rfl⟩ := hpr.inn.form
   have c0 := bcl hbel.out hpb c0
   have c1 := bcl hbel.out hpb c1
   have HPR := hd hpr
   have hcz := HZ.out k hlt
   have HCZ := hd hcz
   clear hpr hcz
   have hbs := hbel.out.size
   generalize hq1 : (chanL S.parts[k].code 12 6).any (putBad S.chans (k : Int)) = q1
   generalize hq2 : (chanL S.parts[k].code 13 6).any (getBad S.chans (k : Int)) = q2
   have H1 := hd hq1
   have H2 := hd hq2
   have HNB : Hid (nameBad S.chans (k : Int) S.parts[k] = (q1 || q2)) := by show nameBad _ _ _ = _; unfold nameBad; rw [hq1, hq2]
   clear hq1 hq2
   have e0 := he.up hbel.out
   go_wp2_with fail
   refine (puts_yes S.parts[k].code _ _ (e0.up up0) ((HPR.out.code.up hbel.out).up up0) HCZ.out).mono ?_
   rintro e w1 ⟨v1, rfl, s1, bb⟩
   obtain ⟨v1a, v1c, rfl⟩ := s1.form
   have D : Below wr.heap.size wr w1 := Below.trans up0 (bb.mono so)
   have m0 : w1.cell? ⟨wr.heap.size, 0, none⟩ = some (.int .i64 k) := bcl bb so (cl_alloc _ (by simp) (by simp))
   have p0 : w1.cell? ⟨wr.heap.size + 1, 0, none⟩ = some (.slice a1 S.parts[k].code.length b1) := bcl bb (by simp) (by simp)
   have z1 : wr.heap.size + 1 < w1.heap.size := by have := bb.size; simp at this; omega
   have HD := hd D
   have M0 := hd m0
   have S1 := hd s1
   clear bb D s1 m0 c0 c1
   go_wp2_with fail
   refine (oneInt_any _ _ _ enNames1 _ (putBad S.chans (k : Int)) _ S1.out (Nat.le_trans (chanL_len _ _ _) (by decide)) (fun j hj w2 hb => ?_) q1 H1.out).mono ?_
   ·obtain ⟨c, e, hc6⟩ := chanL_nat hj
    rw [e, app2]
    exact putLit_any c S.chans k _ _ _ _ _ _ ((HB.out.up HD.out).up hb) (bcl hb om M0.out) (((HS.out.c.up hbel.out).up HD.out).up hb) hc6
   rintro e w2 ⟨rfl, bb⟩
   have p0 : w2.cell? ⟨wr.heap.size + 1, 0, none⟩ = some (.slice a1 S.parts[k].code.length b1) := bcl bb z1 p0
   have M0 := hd (bcl bb om M0.out)
   have HD := hd (HD.out.trans (bb.mono HD.out.size))
   have z1 : wr.heap.size + 1 < w2.heap.size := by have := bb.size; omega
   clear bb S1
   cases q1
   ·go_wp2_with fail
    refine (gets_yes S.parts[k].code _ _ (e0.up HD.out) ((HPR.out.code.up hbel.out).up HD.out) HCZ.out).mono ?_
    rintro e w3 ⟨v2, rfl, s2, bb⟩
    obtain ⟨v2a, v2c, rfl⟩ := s2.form
    have M0 := hd (bcl bb om M0.out)
    have HD := hd (HD.out.trans (bb.mono HD.out.size))
    have z1 : wr.heap.size + 1 < w3.heap.size := by have := bb.size; omega
    have S2 := hd s2
    clear bb s2 p0
    go_wp2_with fail
    refine (oneInt_any _ _ _ enNames2 _ (getBad S.chans (k : Int)) _ S2.out (Nat.le_trans (chanL_len _ _ _) (by decide)) (fun j hj w2 hb => ?_) q2 H2.out).mono ?_
    ·obtain ⟨c, e, hc6⟩ := chanL_nat hj
     rw [e, app2]
     exact getLit_any c S.chans k _ _ _ _ _ _ ((HB.out.up HD.out).up hb) (bcl hb om M0.out) (((HS.out.c.up hbel.out).up HD.out).up hb) hc6
    rintro e w4 ⟨rfl, bb⟩
    have HD := hd (HD.out.trans (bb.mono HD.out.size))
    have HW := hd (hbel.out.trans (HD.out.mono hbs))
    clear bb S2
    cases q2
    ·have HBB := hd (HB.out.up HD.out)
     go_wp2
     go_roundw
     case rel => exact ⟨k + 1, by go_num, by omega, (fun j hj hjk => by
      by_cases e : j = k
      ·subst e; exact HNB.out
      ·exact HN.out j hj om), HBB, HW⟩
     case measure => simp [intOf]; omega
    ·have HF := hd (namesFrom_at S.chans S.parts 0 k hlt (by rw [Nat.zero_add]; exact HNB.out))
     go_wp2
     go_ret
     exact ⟨ret_bool (by rw [← HR.out]; exact HF.out.symm), HW.out⟩
   ·have HW := hd (hbel.out.trans (HD.out.mono hbs))
    have HF := hd (namesFrom_at S.chans S.parts 0 k hlt (by rw [Nat.zero_add]; exact HNB.out))
    go_wp2
    go_ret
    exact ⟨ret_bool (by rw [← HR.out]; exact HF.out.symm), HW.out⟩
  ·have hli : ¬ (k : Int) < S.parts.length := by omega
   have HF := hd (namesFrom_all S.chans S.parts 0 (fun j hj => by rw [Nat.zero_add]; exact HN.out j hj om))
   go_wp2
   go_ret
   exact ⟨ret_bool (by rw [← HR.out]; exact HF.out.symm), hbel.out⟩
theorem confCheck_any (S : SysD) (vp vc vs : Value) (w : World) (he : Env w) (hS : Sys w vp vc vs S) : Calls Tryz.prog 50 #[.agg #[vp, vc, vs]] w fun e w' => e = .returned (.int .i64 (chkS S)) ∧ Below w.heap.size w w' := by
 generalize hr : chkS S = r
 unfold chkS at hr
 obtain ⟨pa, pc, rfl⟩ := hS.p.form
 obtain ⟨ca, cc, rfl⟩ := hS.c.form
 obtain ⟨sa, sc, rfl⟩ := hS.s.form
 have HS := hd hS
 generalize hc : countsB S = qc at hr
 have HC := hd hc
 clear hS
 cases qc
 ·obtain rfl : 2 = r := hr
  clear hc
  go_enter Tryz.func50, Tryz.ntmps50
  go_wp2_with fail
  refine (counts_any S _ _ _ _ (HS.out.up up0)).mono ?_
  rw [HC.out]
  rintro e w1 ⟨rfl, bb⟩
  have D := hd (Below.trans (show Below w.heap.size w _ from up0) (bb.mono (by simp)))
  clear bb
  go_wp2
  go_ret
  exact ⟨rfl, D.out⟩
 ·rw [if_neg (by decide)] at hr
  have hn : 1 ≤ S.parts.length ∧ S.parts.length ≤ 4 ∧ S.chans.length ≤ 6 := by unfold countsB at hc; simp at hc; omega
  obtain ⟨hn0, hn1, hn2⟩ := hn
  have HR := hd hr
  obtain ⟨pb, po, pc', e1, hpc, hpb, hpp⟩ := HS.out.p.open om
  cases e1
  have HP := hd hpp
  clear hr hc hpp
  go_enter Tryz.func50, Tryz.ntmps50
  go_wp2_with fail
  refine (counts_any S _ _ _ _ (HS.out.up up0)).mono ?_
  rw [HC.out]
  rintro e w1 ⟨rfl, bb⟩
  have D : Below w.heap.size w w1 := (Below.trans (show Below w.heap.size w _ from up0) (bb.mono (by simp)))
  have hB := (box_new w (.slice (some ⟨pb, po, none⟩) S.parts.length pc) (.slice ca S.chans.length cc) (.slice sa S.slots.length sc) 26 _ rfl).up bb
  have k0 := hB.p
  have HB := hd hB
  have HD := hd D
  clear bb D hB
  go_wp2
  go_loopw [12] (fun i wr => ∃ k : Nat, i = .int .i64 k ∧ k ≤ S.parts.length ∧ Hid (∀ j (h : j < S.parts.length), j < k → chkC S.parts[j].code = 0) ∧ Hid (Below w1.heap.size w1 wr)) (fun i _ => S.parts.length - (intOf i).toNat)
  case atStart => exact ⟨0, rfl, Nat.zero_le _, fun j hj h => by omega, Below.refl _ _⟩
  case round =>
   obtain ⟨k, rfl, hk, HN, hbel⟩ := hrel
   have HT := hd (HD.out.trans (hbel.out.mono HD.out.size))
   have hts := HT.out.size
   by_cases hlt : k < S.parts.length
   ·have hli : (k : Int) < S.parts.length := by omega
    obtain ⟨c, i, c0, c1, hpr⟩ := HP.out k hlt
    obtain ⟨a1, b1, rfl⟩ := hpr.code.form
    obtain ⟨a2, b2, rfl⟩ := hpr.inn.form
    have c0 := bcl HT.out hpb c0
    have c1 := bcl HT.out hpb c1
    have HPR := hd hpr
    clear hpr k0
    generalize hcz : chkC S.parts[k].code = z
    have HCZ := hd hcz
    clear hcz
    have e0 := he.up HT.out
    go_wp2_with fail
    refine (codeCheck_any S.parts[k].code _ _ (e0.up up0) ((HPR.out.code.up HT.out).up up0)).mono ?_
    rw [HCZ.out]
    rintro e w2 ⟨rfl, bb⟩
    have HD2 := hd (show Below wr.heap.size wr w2 from Below.trans up0 (bb.mono (by simp)))
    clear bb c0 c1
    by_cases hz : z = 0
    ·subst hz
     go_wp2
     go_roundw
     case rel => exact ⟨k + 1, by go_num, by omega, (fun j hj hjk => by
      by_cases e : j = k
      ·subst e; exact HCZ.out
      ·exact HN.out j hj om), hbel.out.trans (HD2.out.mono hbel.out.size)⟩
     case measure => simp [intOf]; omega
    ·have hz' : (z != 0) = true := by simpa using hz
     have HF := hd (firstP_at S.parts k hlt HN.out (by rw [HCZ.out]; exact hz))
     have HRR : Hid (r = z) := by
      show r = z
      have := HR.out
      rw [HF.out, HCZ.out, if_pos hz] at this
      exact this.symm
     clear hz
     go_wp2
     go_ret
     exact ⟨ret_int HRR.out.symm, HT.out.trans (HD2.out.mono hts)⟩
   ·have hli : ¬ (k : Int) < S.parts.length := by omega
    have HF := hd (firstP_all S.parts (fun j hj => HN.out j hj om))
    have HR2 := HR
    clear HR
    have HR : Hid ((if S.chans.any kindBad = true then (4 : Int) else if placesB S = false then 3 else if namesB S = false then 1 else 0) = r) := by
     have := HR2.out
     rw [HF.out, if_neg (by simp)] at this
     exact this
    have HBr := hd (HB.out.up hbel.out)
    have k0 := HBr.out.p
    have k1 := HBr.out.c
    have k2 := HBr.out.s
    generalize hq1 : S.chans.any kindBad = q1
    have H1 := hd hq1
    clear hq1 HR2 HN
    go_wp2_with fail
    refine (oneChan_any S.chans _ _ enCheck1 #[] kindBad _ (HS.out.c.up HT.out) om (fun k hk w1 hb => ?_) q1 H1.out).mono ?_
    ·rw [app0]
     exact kindLit_any _ _
    rintro e w2 ⟨rfl, bb⟩
    have HT := hd (HT.out.trans (bb.mono hts))
    have hts := HT.out.size
    have HBr := hd (HBr.out.up bb)
    clear k0 k1 k2 bb
    have k0 := HBr.out.p
    have k1 := HBr.out.c
    have k2 := HBr.out.s
    cases q1
    ·generalize hq2 : placesB S = q2
     have H2 := hd hq2
     clear hq2
     go_wp2_with fail
     refine (places_any S _ _ _ _ (HS.out.up HT.out) HC.out).mono ?_
     rw [H2.out]
     rintro e w3 ⟨rfl, bb⟩
     have HT := hd (HT.out.trans (bb.mono hts))
     have hts := HT.out.size
     have HBr := hd (HBr.out.up bb)
     clear k0 k1 k2 bb
     have k0 := HBr.out.p
     have k1 := HBr.out.c
     have k2 := HBr.out.s
     cases q2
     ·have HRR : Hid (3 = r) := by show 3 = r; have := HR.out; rw [H1.out, H2.out] at this; simpa using this
      go_wp2
      go_ret
      exact ⟨ret_int HRR.out, HT.out⟩
     ·generalize hq3 : namesB S = q3
      have H3 := hd hq3
      clear hq3
      go_wp2_with fail
      refine (names_any S _ _ _ _ (he.up HT.out) (HS.out.up HT.out) HC.out HF.out).mono ?_
      rw [H3.out]
      rintro e w4 ⟨rfl, bb⟩
      have HT := hd (HT.out.trans (bb.mono hts))
      have HRR : Hid ((if q3 = false then (1 : Int) else 0) = r) := by show (if q3 = false then (1 : Int) else 0) = r; have := HR.out; rw [H1.out, H2.out, H3.out] at this; simpa using this
      clear bb k0 k1 k2
      cases q3
      all_goals
       go_wp2
       go_ret
       exact ⟨ret_int HRR.out, HT.out⟩
    ·have HRR : Hid (4 = r) := by show 4 = r; have := HR.out; rw [H1.out] at this; simpa using this
     go_wp2
     go_ret
     exact ⟨ret_int HRR.out, HT.out⟩
def insBad (l : List Chn) (me : Int) (i : Ins) : Bool := (i.op == 12 && putBad l me i.n) || (i.op == 13 && getBad l me i.n)
theorem chanL_mem {l : List Ins} {op : Int} {m : Nat} {c : Int} : c ∈ chanL l op m ↔ ∃ n : Nat, c = n ∧ n < m ∧ ∃ i ∈ l, i.op = op ∧ i.n = c := by
 unfold chanL hasC
 constructor
 ·intro h
  obtain ⟨n, hn, e⟩ := List.mem_map.1 h
  obtain ⟨h1, h2⟩ := List.mem_filter.1 hn
  obtain ⟨i, hi, hq⟩ := List.any_eq_true.1 h2
  simp at hq h1
  exact ⟨n, e.symm, h1, i, hi, hq.1, by rw [hq.2]; exact e⟩
 ·rintro ⟨n, e, hn, i, hi, h1, h2⟩
  refine List.mem_map.2 ⟨n, List.mem_filter.2 ⟨by simpa using hn, List.any_eq_true.2 ⟨i, hi, ?_⟩⟩, e.symm⟩
  simp [h1, h2, e]
theorem nameBad_ins (l : List Chn) (me : Int) (p : Prt) (h : chkC p.code = 0) : nameBad l me p = p.code.any (insBad l me) := by
 have hz : ∀ i ∈ p.code, i.chk = 0 := fun i hi => by
  obtain ⟨j, hj, rfl⟩ := List.getElem_of_mem hi
  exact (chkC_zero h).2.2 j hj
 rw [Bool.eq_iff_iff]
 unfold nameBad
 rw [Bool.or_eq_true, List.any_eq_true, List.any_eq_true, List.any_eq_true]
 constructor
 ·rintro (⟨c, hc, hb⟩ | ⟨c, hc, hb⟩)
  ·obtain ⟨n, rfl, hn, i, hi, h1, h2⟩ := chanL_mem.1 hc
   exact ⟨i, hi, by unfold insBad; rw [h1, h2, hb]; rfl⟩
  ·obtain ⟨n, rfl, hn, i, hi, h1, h2⟩ := chanL_mem.1 hc
   exact ⟨i, hi, by unfold insBad; rw [h1, h2, hb]; rfl⟩
 ·rintro ⟨i, hi, hb⟩
  unfold insBad at hb
  rw [Bool.or_eq_true, Bool.and_eq_true, Bool.and_eq_true] at hb
  rcases hb with ⟨h1, h2⟩ | ⟨h1, h2⟩
  ·have h1 : i.op = 12 := by simpa using h1
   have := chk_chan (hz i hi) (Or.inl h1)
   exact Or.inl ⟨i.n, chanL_mem.2 ⟨i.n.toNat, by omega, by omega, i, hi, h1, rfl⟩, h2⟩
  ·have h1 : i.op = 13 := by simpa using h1
   have := chk_chan (hz i hi) (Or.inr h1)
   exact Or.inr ⟨i.n, chanL_mem.2 ⟨i.n.toNat, by omega, by omega, i, hi, h1, rfl⟩, h2⟩
theorem chkS_counts {S : SysD} (h : countsB S = false) : chkS S = 2 := by unfold chkS; rw [if_pos h]
theorem chkS_code {S : SysD} (h : countsB S = true) {k : Nat} (hk : k < S.parts.length) (hz : ∀ j (hj : j < S.parts.length), j < k → chkC S.parts[j].code = 0) {z : Int} (hc : chkC S.parts[k].code = z) (h0 : z ≠ 0) : chkS S = z := by
 have := firstP_at S.parts k hk hz (by rw [hc]; exact h0)
 unfold chkS
 rw [if_neg (by simp [h]), this, hc, if_pos h0]
theorem chkS_kind {S : SysD} (h : countsB S = true) (hz : ∀ j (hj : j < S.parts.length), chkC S.parts[j].code = 0) (hk : S.chans.any kindBad = true) : chkS S = 4 := by
 unfold chkS
 rw [if_neg (by simp [h]), firstP_all S.parts hz, if_neg (by simp), if_pos hk]
theorem chkS_places {S : SysD} (h : countsB S = true) (hz : ∀ j (hj : j < S.parts.length), chkC S.parts[j].code = 0) (hk : S.chans.any kindBad = false) (hp : placesB S = false) : chkS S = 3 := by
 unfold chkS
 rw [if_neg (by simp [h]), firstP_all S.parts hz, if_neg (by simp), if_neg (by simp [hk]), if_pos hp]
theorem chkS_names {S : SysD} (h : countsB S = true) (hz : ∀ j (hj : j < S.parts.length), chkC S.parts[j].code = 0) (hk : S.chans.any kindBad = false) (hp : placesB S = true) (hn : namesB S = false) : chkS S = 1 := by
 unfold chkS
 rw [if_neg (by simp [h]), firstP_all S.parts hz, if_neg (by simp), if_neg (by simp [hk]), if_neg (by simp [hp]), if_pos hn]
theorem chkS_ok {S : SysD} (h : countsB S = true) (hz : ∀ j (hj : j < S.parts.length), chkC S.parts[j].code = 0) (hk : S.chans.any kindBad = false) (hp : placesB S = true) (hn : namesB S = true) : chkS S = 0 := by
 unfold chkS
 rw [if_neg (by simp [h]), firstP_all S.parts hz, if_neg (by simp), if_neg (by simp [hk]), if_neg (by simp [hp]), if_neg (by simp [hn])]
theorem countsB_mk {S : SysD} (h : 1 ≤ S.parts.length ∧ S.parts.length ≤ 4 ∧ S.chans.length ≤ 6 ∧ 1 ≤ S.slots.length ∧ S.slots.length ≤ 6) (hi : ∀ j (hj : j < S.parts.length), S.parts[j].inn.length ≤ 12) : countsB S = true := by
 unfold countsB
 rw [Bool.and_eq_true]
 refine ⟨by simpa using h, ?_⟩
 rw [Bool.not_eq_true', List.any_eq_false]
 intro p hp
 obtain ⟨j, hj, rfl⟩ := List.getElem_of_mem hp
 have := hi j hj
 simp; omega
theorem countsB_no1 {S : SysD} (h : ¬ (1 ≤ S.parts.length ∧ S.parts.length ≤ 4 ∧ S.chans.length ≤ 6 ∧ 1 ≤ S.slots.length ∧ S.slots.length ≤ 6)) : countsB S = false := by
 unfold countsB
 rw [Bool.and_eq_false_iff]
 exact Or.inl (by simpa using h)
theorem countsB_no2 {S : SysD} {j : Nat} (hj : j < S.parts.length) (h : 12 < S.parts[j].inn.length) : countsB S = false := by
 unfold countsB
 rw [Bool.and_eq_false_iff]
 refine Or.inr ?_
 rw [Bool.not_eq_false']
 exact any_mem hj (by simpa using h)
theorem countsB_is {S : SysD} (h : countsB S = true) : (1 ≤ S.parts.length ∧ S.parts.length ≤ 4 ∧ S.chans.length ≤ 6 ∧ 1 ≤ S.slots.length ∧ S.slots.length ≤ 6) ∧ ∀ j (hj : j < S.parts.length), S.parts[j].inn.length ≤ 12 := by
 unfold countsB at h
 rw [Bool.and_eq_true] at h
 refine ⟨by simpa using h.1, fun j hj => ?_⟩
 have h2 := h.2
 rw [Bool.not_eq_true', List.any_eq_false] at h2
 have := h2 _ (List.getElem_mem hj)
 simp at this; omega
theorem placesB_no1 {S : SysD} (h : S.chans.any (placeBad S.parts.length) = true) : placesB S = false := by unfold placesB; rw [h]; rfl
theorem placesB_no2 {S : SysD} (h : S.slots.any (slotBad S.parts.length) = true) : placesB S = false := by unfold placesB; rw [h]; simp
theorem placesB_yes {S : SysD} (h1 : S.chans.any (placeBad S.parts.length) = false) (h2 : S.slots.any (slotBad S.parts.length) = false) : placesB S = true := by unfold placesB; rw [h1, h2]; rfl
theorem namesB_no {S : SysD} {k : Nat} (hk : k < S.parts.length) (hz : chkC S.parts[k].code = 0) (h : S.parts[k].code.any (insBad S.chans (k : Int)) = true) : namesB S = false :=
 namesFrom_at S.chans S.parts 0 k hk (by rw [Nat.zero_add, nameBad_ins _ _ _ hz]; exact h)
theorem namesB_yes {S : SysD} (hz : ∀ j (hj : j < S.parts.length), chkC S.parts[j].code = 0) (h : ∀ k (hk : k < S.parts.length), S.parts[k].code.any (insBad S.chans (k : Int)) = false) : namesB S = true :=
 namesFrom_all S.chans S.parts 0 (fun j hj => by rw [Nat.zero_add, nameBad_ins _ _ _ (hz j hj)]; exact h j hj)
theorem putBad_lt {l : List Chn} {me : Int} {m : Nat} (h : m < l.length) : putBad l me (m : Int) = (l[m].fr != me) := by
 unfold putBad
 rw [show ((m : Int)).toNat = m from rfl, List.getElem?_eq_getElem h]
theorem putBad_ge {l : List Chn} {me : Int} {m : Nat} (h : ¬ m < l.length) : putBad l me (m : Int) = true := by
 unfold putBad
 rw [show ((m : Int)).toNat = m from rfl, List.getElem?_eq_none om]
theorem getBad_lt {l : List Chn} {me : Int} {m : Nat} (h : m < l.length) : getBad l me (m : Int) = (l[m].tt != me) := by
 unfold getBad
 rw [show ((m : Int)).toNat = m from rfl, List.getElem?_eq_getElem h]
theorem getBad_ge {l : List Chn} {me : Int} {m : Nat} (h : ¬ m < l.length) : getBad l me (m : Int) = true := by
 unfold getBad
 rw [show ((m : Int)).toNat = m from rfl, List.getElem?_eq_none om]
theorem kindRef_any (kd : Int) (w : World) : Calls Tryz.prog 77 #[.int .i64 kd] w fun e w' => e = .returned (.bool (kd == 1 || kd == 2)) ∧ w' = w := by
 generalize h1 : (kd == 1) = q1
 generalize h2 : (kd == 2) = q2
 cases q1 <;> cases q2
 all_goals
  go_enter Tryz.func77, Tryz.ntmps77
  go_wp2
  go_ret
  exact ⟨rfl, rfl⟩
end Go.Proofs.YtehhhiodfcdnmaaGreatDoor

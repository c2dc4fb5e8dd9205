/- conf.Check. -/
import Derived.Test.YtehhhiodfcdnmaaGreatDoorR2
namespace Go.Proofs.YtehhhiodfcdnmaaGreatDoor
set_option linter.unusedSimpArgs false
set_option linter.unusedVariables false
set_option maxRecDepth 100000
set_option maxHeartbeats 8000000
open Go.RowKit Go.Sort
theorem confCheck_any (S : SysD) (vp vc vs : Value) (w : World) (he : Env w) (hS : Sys w vp vc vs S) : Calls Tryz.prog 50 #[.agg #[vp, vc, vs]] w fun e w' => e = .returned (.int .i64 (chkS S)) ∧ Below w.heap.size w w' := by
 generalize hr : chkS S = r
 unfold chkS at hr
 obtain ⟨pa, pc, rfl⟩ := hS.p.form
 obtain ⟨ca, cc, rfl⟩ := hS.c.form
 obtain ⟨sa, sc, rfl⟩ := hS.s.form
 have HS := hd hS
 generalize hc : countsB S = qc at hr
 have HC := hd hc
 clear hS
 cases qc
 ·obtain rfl : 2 = r := hr
  clear hc
  go_enter Tryz.func50, Tryz.ntmps50
  go_wp2_with fail
  refine (counts_any S _ _ _ _ (HS.out.up up0)).mono ?_
  rw [HC.out]
  rintro e w1 ⟨rfl, bb⟩
  have D := hd (Below.trans (show Below w.heap.size w _ from up0) (bb.mono (by simp)))
  clear bb
  go_wp2
  go_ret
  exact ⟨rfl, D.out⟩
 ·rw [if_neg (by decide)] at hr
  have hn : 1 ≤ S.parts.length ∧ S.parts.length ≤ 4 ∧ S.chans.length ≤ 6 := by unfold countsB at hc; simp at hc; omega
  obtain ⟨hn0, hn1, hn2⟩ := hn
  have HR := hd hr
  obtain ⟨pb, po, pc', e1, hpc, hpb, hpp⟩ := HS.out.p.open om
  cases e1
  have HP := hd hpp
  clear hr hc hpp
  go_enter Tryz.func50, Tryz.ntmps50
  go_wp2_with fail
  refine (counts_any S _ _ _ _ (HS.out.up up0)).mono ?_
  rw [HC.out]
  rintro e w1 ⟨rfl, bb⟩
  have D : Below w.heap.size w w1 := (Below.trans (show Below w.heap.size w _ from up0) (bb.mono (by simp)))
  have hB := (box_new w (.slice (some ⟨pb, po, none⟩) S.parts.length pc) (.slice ca S.chans.length cc) (.slice sa S.slots.length sc) 26 _ rfl).up bb
  have k0 := hB.p
  have HB := hd hB
  have HD := hd D
  clear bb D hB
  go_wp2
  go_loopw [12] (fun i wr => ∃ k : Nat, i = .int .i64 k ∧ k ≤ S.parts.length ∧ Hid (∀ j (h : j < S.parts.length), j < k → chkC S.parts[j].code = 0) ∧ Hid (Below w1.heap.size w1 wr)) (fun i _ => S.parts.length - (intOf i).toNat)
  case atStart => exact ⟨0, rfl, Nat.zero_le _, fun j hj h => by omega, Below.refl _ _⟩
  case round =>
   obtain ⟨k, rfl, hk, HN, hbel⟩ := hrel
   have HT := hd (HD.out.trans (hbel.out.mono HD.out.size))
   have hts := HT.out.size
   by_cases hlt : k < S.parts.length
   ·have hli : (k : Int) < S.parts.length := by omega
    obtain ⟨c, i, c0, c1, hpr⟩ := HP.out k hlt
    obtain ⟨a1, b1, rfl⟩ := hpr.code.form
    obtain ⟨a2, b2, rfl⟩ := hpr.inn.form
    have c0 := bcl HT.out hpb c0
    have c1 := bcl HT.out hpb c1
    have HPR := hd hpr
    clear hpr k0
    generalize hcz : chkC S.parts[k].code = z
    have HCZ := hd hcz
    clear hcz
    have e0 := he.up HT.out
    go_wp2_with fail
    refine (codeCheck_any S.parts[k].code _ _ (e0.up up0) ((HPR.out.code.up HT.out).up up0)).mono ?_
    rw [HCZ.out]
    rintro e w2 ⟨rfl, bb⟩
    have HD2 := hd (show Below wr.heap.size wr w2 from Below.trans up0 (bb.mono (by simp)))
    clear bb c0 c1
    by_cases hz : z = 0
    ·subst hz
     go_wp2
     go_roundw
     case rel => exact ⟨k + 1, by go_num, by omega, (fun j hj hjk => by
      by_cases e : j = k
      ·subst e; exact HCZ.out
      ·exact HN.out j hj om), hbel.out.trans (HD2.out.mono hbel.out.size)⟩
     case measure => simp [intOf]; omega
    ·have hz' : (z != 0) = true := by simpa using hz
     have HF := hd (firstP_at S.parts k hlt HN.out (by rw [HCZ.out]; exact hz))
     have HRR : Hid (r = z) := by
      show r = z
      have := HR.out
      rw [HF.out, HCZ.out, if_pos hz] at this
      exact this.symm
     clear hz
     go_wp2
     go_ret
     exact ⟨ret_int HRR.out.symm, HT.out.trans (HD2.out.mono hts)⟩
   ·have hli : ¬ (k : Int) < S.parts.length := by omega
    have HF := hd (firstP_all S.parts (fun j hj => HN.out j hj om))
    have HR2 := HR
    clear HR
    have HR : Hid ((if S.chans.any kindBad = true then (4 : Int) else if placesB S = false then 3 else if namesB S = false then 1 else 0) = r) := by
     have := HR2.out
     rw [HF.out, if_neg (by simp)] at this
     exact this
    have HBr := hd (HB.out.up hbel.out)
    have k0 := HBr.out.p
    have k1 := HBr.out.c
    have k2 := HBr.out.s
    generalize hq1 : S.chans.any kindBad = q1
    have H1 := hd hq1
    clear hq1 HR2 HN
    go_wp2_with fail
    refine (oneChan_any S.chans _ _ enCheck1 #[] kindBad _ (HS.out.c.up HT.out) om (fun k hk w1 hb => ?_) q1 H1.out).mono ?_
    ·rw [app0]
     exact kindLit_any _ _
    rintro e w2 ⟨rfl, bb⟩
    have HT := hd (HT.out.trans (bb.mono hts))
    have hts := HT.out.size
    have HBr := hd (HBr.out.up bb)
    clear k0 k1 k2 bb
    have k0 := HBr.out.p
    have k1 := HBr.out.c
    have k2 := HBr.out.s
    cases q1
    ·generalize hq2 : placesB S = q2
     have H2 := hd hq2
     clear hq2
     go_wp2_with fail
     refine (places_any S _ _ _ _ (HS.out.up HT.out) HC.out).mono ?_
     rw [H2.out]
     rintro e w3 ⟨rfl, bb⟩
     have HT := hd (HT.out.trans (bb.mono hts))
     have hts := HT.out.size
     have HBr := hd (HBr.out.up bb)
     clear k0 k1 k2 bb
     have k0 := HBr.out.p
     have k1 := HBr.out.c
     have k2 := HBr.out.s
     cases q2
     ·have HRR : Hid (3 = r) := by show 3 = r; have := HR.out; rw [H1.out, H2.out] at this; simpa using this
      go_wp2
      go_ret
      exact ⟨ret_int HRR.out, HT.out⟩
     ·generalize hq3 : namesB S = q3
      have H3 := hd hq3
      clear hq3
      go_wp2_with fail
      refine (names_any S _ _ _ _ (he.up HT.out) (HS.out.up HT.out) HC.out HF.out).mono ?_
      rw [H3.out]
      rintro e w4 ⟨rfl, bb⟩
      have HT := hd (HT.out.trans (bb.mono hts))
      have HRR : Hid ((if q3 = false then (1 : Int) else 0) = r) := by show (if q3 = false then (1 : Int) else 0) = r; have := HR.out; rw [H1.out, H2.out, H3.out] at this; simpa using this
      clear bb k0 k1 k2
      cases q3
      all_goals
       go_wp2
       go_ret
       exact ⟨ret_int HRR.out, HT.out⟩
    ·have HRR : Hid (4 = r) := by show 4 = r; have := HR.out; rw [H1.out] at this; simpa using this
     go_wp2
     go_ret
     exact ⟨ret_int HRR.out, HT.out⟩
def insBad (l : List Chn) (me : Int) (i : Ins) : Bool := (i.op == 12 && putBad l me i.n) || (i.op == 13 && getBad l me i.n)
theorem chanL_mem {l : List Ins} {op : Int} {m : Nat} {c : Int} : c ∈ chanL l op m ↔ ∃ n : Nat, c = n ∧ n < m ∧ ∃ i ∈ l, i.op = op ∧ i.n = c := by
 unfold chanL hasC
 constructor
 ·intro h
  obtain ⟨n, hn, e⟩ := List.mem_map.1 h
  obtain ⟨h1, h2⟩ := List.mem_filter.1 hn
  obtain ⟨i, hi, hq⟩ := List.any_eq_true.1 h2
  simp at hq h1
  exact ⟨n, e.symm, h1, i, hi, hq.1, by rw [hq.2]; exact e⟩
 ·rintro ⟨n, e, hn, i, hi, h1, h2⟩
  refine List.mem_map.2 ⟨n, List.mem_filter.2 ⟨by simpa using hn, List.any_eq_true.2 ⟨i, hi, ?_⟩⟩, e.symm⟩
  simp [h1, h2, e]
theorem nameBad_ins (l : List Chn) (me : Int) (p : Prt) (h : chkC p.code = 0) : nameBad l me p = p.code.any (insBad l me) := by
 have hz : ∀ i ∈ p.code, i.chk = 0 := fun i hi => by
  obtain ⟨j, hj, rfl⟩ := List.getElem_of_mem hi
  exact (chkC_zero h).2.2 j hj
 rw [Bool.eq_iff_iff]
 unfold nameBad
 rw [Bool.or_eq_true, List.any_eq_true, List.any_eq_true, List.any_eq_true]
 constructor
 ·rintro (⟨c, hc, hb⟩ | ⟨c, hc, hb⟩)
  ·obtain ⟨n, rfl, hn, i, hi, h1, h2⟩ := chanL_mem.1 hc
   exact ⟨i, hi, by unfold insBad; rw [h1, h2, hb]; rfl⟩
  ·obtain ⟨n, rfl, hn, i, hi, h1, h2⟩ := chanL_mem.1 hc
   exact ⟨i, hi, by unfold insBad; rw [h1, h2, hb]; rfl⟩
 ·rintro ⟨i, hi, hb⟩
  unfold insBad at hb
  rw [Bool.or_eq_true, Bool.and_eq_true, Bool.and_eq_true] at hb
  rcases hb with ⟨h1, h2⟩ | ⟨h1, h2⟩
  ·have h1 : i.op = 12 := by simpa using h1
   have := chk_chan (hz i hi) (Or.inl h1)
   exact Or.inl ⟨i.n, chanL_mem.2 ⟨i.n.toNat, by omega, by omega, i, hi, h1, rfl⟩, h2⟩
  ·have h1 : i.op = 13 := by simpa using h1
   have := chk_chan (hz i hi) (Or.inr h1)
   exact Or.inr ⟨i.n, chanL_mem.2 ⟨i.n.toNat, by omega, by omega, i, hi, h1, rfl⟩, h2⟩
theorem chkS_counts {S : SysD} (h : countsB S = false) : chkS S = 2 := by unfold chkS; rw [if_pos h]
theorem chkS_code {S : SysD} (h : countsB S = true) {k : Nat} (hk : k < S.parts.length) (hz : ∀ j (hj : j < S.parts.length), j < k → chkC S.parts[j].code = 0) {z : Int} (hc : chkC S.parts[k].code = z) (h0 : z ≠ 0) : chkS S = z := by
 have := firstP_at S.parts k hk hz (by rw [hc]; exact h0)
 unfold chkS
 rw [if_neg (by simp [h]), this, hc, if_pos h0]
theorem chkS_kind {S : SysD} (h : countsB S = true) (hz : ∀ j (hj : j < S.parts.length), chkC S.parts[j].code = 0) (hk : S.chans.any kindBad = true) : chkS S = 4 := by
 unfold chkS
 rw [if_neg (by simp [h]), firstP_all S.parts hz, if_neg (by simp), if_pos hk]
theorem chkS_places {S : SysD} (h : countsB S = true) (hz : ∀ j (hj : j < S.parts.length), chkC S.parts[j].code = 0) (hk : S.chans.any kindBad = false) (hp : placesB S = false) : chkS S = 3 := by
 unfold chkS
 rw [if_neg (by simp [h]), firstP_all S.parts hz, if_neg (by simp), if_neg (by simp [hk]), if_pos hp]
theorem chkS_names {S : SysD} (h : countsB S = true) (hz : ∀ j (hj : j < S.parts.length), chkC S.parts[j].code = 0) (hk : S.chans.any kindBad = false) (hp : placesB S = true) (hn : namesB S = false) : chkS S = 1 := by
 unfold chkS
 rw [if_neg (by simp [h]), firstP_all S.parts hz, if_neg (by simp), if_neg (by simp [hk]), if_neg (by simp [hp]), if_pos hn]
theorem chkS_ok {S : SysD} (h : countsB S = true) (hz : ∀ j (hj : j < S.parts.length), chkC S.parts[j].code = 0) (hk : S.chans.any kindBad = false) (hp : placesB S = true) (hn : namesB S = true) : chkS S = 0 := by
 unfold chkS
 rw [if_neg (by simp [h]), firstP_all S.parts hz, if_neg (by simp), if_neg (by simp [hk]), if_neg (by simp [hp]), if_neg (by simp [hn])]
theorem countsB_mk {S : SysD} (h : 1 ≤ S.parts.length ∧ S.parts.length ≤ 4 ∧ S.chans.length ≤ 6 ∧ 1 ≤ S.slots.length ∧ S.slots.length ≤ 6) (hi : ∀ j (hj : j < S.parts.length), S.parts[j].inn.length ≤ 12) : countsB S = true := by
 unfold countsB
 rw [Bool.and_eq_true]
 refine ⟨by simpa using h, ?_⟩
 rw [Bool.not_eq_true', List.any_eq_false]
 intro p hp
 obtain ⟨j, hj, rfl⟩ := List.getElem_of_mem hp
 have := hi j hj
 simp; omega
theorem countsB_no1 {S : SysD} (h : ¬ (1 ≤ S.parts.length ∧ S.parts.length ≤ 4 ∧ S.chans.length ≤ 6 ∧ 1 ≤ S.slots.length ∧ S.slots.length ≤ 6)) : countsB S = false := by
 unfold countsB
 rw [Bool.and_eq_false_iff]
 exact Or.inl (by simpa using h)
theorem countsB_no2 {S : SysD} {j : Nat} (hj : j < S.parts.length) (h : 12 < S.parts[j].inn.length) : countsB S = false := by
 unfold countsB
 rw [Bool.and_eq_false_iff]
 refine Or.inr ?_
 rw [Bool.not_eq_false']
 exact any_mem hj (by simpa using h)
theorem countsB_is {S : SysD} (h : countsB S = true) : (1 ≤ S.parts.length ∧ S.parts.length ≤ 4 ∧ S.chans.length ≤ 6 ∧ 1 ≤ S.slots.length ∧ S.slots.length ≤ 6) ∧ ∀ j (hj : j < S.parts.length), S.parts[j].inn.length ≤ 12 := by
 unfold countsB at h
 rw [Bool.and_eq_true] at h
 refine ⟨by simpa using h.1, fun j hj => ?_⟩
 have h2 := h.2
 rw [Bool.not_eq_true', List.any_eq_false] at h2
 have := h2 _ (List.getElem_mem hj)
 simp at this; omega
theorem placesB_no1 {S : SysD} (h : S.chans.any (placeBad S.parts.length) = true) : placesB S = false := by unfold placesB; rw [h]; rfl
theorem placesB_no2 {S : SysD} (h : S.slots.any (slotBad S.parts.length) = true) : placesB S = false := by unfold placesB; rw [h]; simp
theorem placesB_yes {S : SysD} (h1 : S.chans.any (placeBad S.parts.length) = false) (h2 : S.slots.any (slotBad S.parts.length) = false) : placesB S = true := by unfold placesB; rw [h1, h2]; rfl
theorem namesB_no {S : SysD} {k : Nat} (hk : k < S.parts.length) (hz : chkC S.parts[k].code = 0) (h : S.parts[k].code.any (insBad S.chans (k : Int)) = true) : namesB S = false :=
 namesFrom_at S.chans S.parts 0 k hk (by rw [Nat.zero_add, nameBad_ins _ _ _ hz]; exact h)
theorem namesB_yes {S : SysD} (hz : ∀ j (hj : j < S.parts.length), chkC S.parts[j].code = 0) (h : ∀ k (hk : k < S.parts.length), S.parts[k].code.any (insBad S.chans (k : Int)) = false) : namesB S = true :=
 namesFrom_all S.chans S.parts 0 (fun j hj => by rw [Nat.zero_add, nameBad_ins _ _ _ (hz j hj)]; exact h j hj)
theorem putBad_lt {l : List Chn} {me : Int} {m : Nat} (h : m < l.length) : putBad l me (m : Int) = (l[m].fr != me) := by
 unfold putBad
 rw [show ((m : Int)).toNat = m from rfl, List.getElem?_eq_getElem h]
theorem putBad_ge {l : List Chn} {me : Int} {m : Nat} (h : ¬ m < l.length) : putBad l me (m : Int) = true := by
 unfold putBad
 rw [show ((m : Int)).toNat = m from rfl, List.getElem?_eq_none om]
theorem getBad_lt {l : List Chn} {me : Int} {m : Nat} (h : m < l.length) : getBad l me (m : Int) = (l[m].tt != me) := by
 unfold getBad
 rw [show ((m : Int)).toNat = m from rfl, List.getElem?_eq_getElem h]
theorem getBad_ge {l : List Chn} {me : Int} {m : Nat} (h : ¬ m < l.length) : getBad l me (m : Int) = true := by
 unfold getBad
 rw [show ((m : Int)).toNat = m from rfl, List.getElem?_eq_none om]
theorem kindRef_any (kd : Int) (w : World) : Calls Tryz.prog 77 #[.int .i64 kd] w fun e w' => e = .returned (.bool (kd == 1 || kd == 2)) ∧ w' = w := by
 generalize h1 : (kd == 1) = q1
 generalize h2 : (kd == 2) = q2
 cases q1 <;> cases q2
 all_goals
  go_enter Tryz.func77, Tryz.ntmps77
  go_wp2
  go_ret
  exact ⟨rfl, rfl⟩
theorem sysRef_any (S : SysD) (hok : S.ok) (vp vc vs : Value) (w : World) (hS : Sys w vp vc vs S) : Calls Tryz.prog 33 #[.agg #[vp, vc, vs]] w fun e w' => e = .returned (.int .i64 (chkS S)) ∧ Below w.heap.size w w' := by
 generalize hr : chkS S = r
 have HR := hd hr
 obtain ⟨pa, pc, rfl⟩ := hS.p.form
 obtain ⟨ca, cc, rfl⟩ := hS.c.form
 obtain ⟨sa, sc, rfl⟩ := hS.s.form
 have HS := hd hS
 have HOK : Hid (∀ k (hk : k < S.parts.length) j (hj : j < S.parts[k].code.length), S.parts[k].code[j].ok) := fun k hk => hok _ (List.getElem_mem hk)
 clear hS hr hok
 by_cases hA : 1 ≤ S.parts.length ∧ S.parts.length ≤ 4 ∧ S.chans.length ≤ 6 ∧ 1 ≤ S.slots.length ∧ S.slots.length ≤ 6
 ·have H1 : Hid (withinB (S.parts.length : Int) 1 4 = true) := by show withinB _ _ _ = _; unfold withinB; simp; omega
  have H2 : ¬ (6 : Int) < (S.chans.length : Int) := by omega
  have H3 : Hid (withinB (S.slots.length : Int) 1 6 = true) := by show withinB _ _ _ = _; unfold withinB; simp; omega
  have HA := hd hA
  have hn1 : S.parts.length ≤ 4 := hA.2.1
  have hn2 : S.chans.length ≤ 6 := hA.2.2.1
  have hn3 : S.slots.length ≤ 6 := hA.2.2.2.2
  obtain ⟨pb, po, pc', e1, hpc, hpb, hpp⟩ := HS.out.p.open om
  cases e1
  have HP := hd hpp
  clear hA hpp
  go_enter Tryz.func33, Tryz.ntmps33
  go_wp2_with fail
  refine (within_any _ _ _ _).mono ?_
  rw [H1.out]
  rintro e w1 ⟨rfl, rfl⟩
  go_wp2_with fail
  refine (within_any _ _ _ _).mono ?_
  rw [H3.out]
  rintro e w1 ⟨rfl, rfl⟩
  go_wp2
  go_loopw [4] (fun i wr => ∃ k : Nat, i = .int .i64 k ∧ k ≤ S.parts.length ∧ Hid (∀ j (h : j < S.parts.length), j < k → S.parts[j].inn.length ≤ 12) ∧ Hid (Box wr w.heap.size (.slice (some ⟨pb, po, none⟩) S.parts.length pc) (.slice ca S.chans.length cc) (.slice sa S.slots.length sc)) ∧ Hid (Below w.heap.size w wr)) (fun i _ => S.parts.length - (intOf i).toNat)
  case atStart => exact ⟨0, rfl, Nat.zero_le _, fun j hj h => by omega, box_new w _ _ _ _ _ rfl, up0⟩
  case round =>
   obtain ⟨k, rfl, hk, HN, HB, HT⟩ := hrel
   by_cases hlt : k < S.parts.length
   ·have hli : (k : Int) < S.parts.length := by omega
    obtain ⟨c, i, c0, c1, hpr⟩ := HP.out k hlt
    obtain ⟨a2, b2, rfl⟩ := hpr.inn.form
    have c1 := bcl HT.out hpb c1
    have k0 := HB.out.p
    clear hpr c0
    by_cases h12 : 12 < S.parts[k].inn.length
    ·have h12' : (12 : Int) < S.parts[k].inn.length := by omega
     have HRR := hd (chkS_counts (countsB_no2 hlt h12))
     go_wp2
     go_ret
     exact ⟨ret_int (by rw [← HR.out, HRR.out]), HT.out⟩
    ·have h12' : ¬ (12 : Int) < S.parts[k].inn.length := by omega
     go_wp2
     go_roundw
     case rel => exact ⟨k + 1, by go_num, by omega, (fun j hj hjk => by
      by_cases e : j = k
      ·subst e; omega
      ·exact HN.out j hj om), HB, HT⟩
     case measure => simp [intOf]; omega
   ·have hli : ¬ (k : Int) < S.parts.length := by omega
    have HC := hd (countsB_mk HA.out (fun j hj => HN.out j hj om))
    clear HN hk hlt
    go_wp2
    go_loopw [5] (fun i wr => ∃ k : Nat, i = .int .i64 k ∧ k ≤ S.parts.length ∧ Hid (∀ j (h : j < S.parts.length), j < k → chkC S.parts[j].code = 0) ∧ Hid (Box wr w.heap.size (.slice (some ⟨pb, po, none⟩) S.parts.length pc) (.slice ca S.chans.length cc) (.slice sa S.slots.length sc)) ∧ Hid (Below w.heap.size w wr)) (fun i _ => S.parts.length - (intOf i).toNat)
    case atStart => exact ⟨0, rfl, Nat.zero_le _, fun j hj h => by omega, HB, HT⟩
    case round =>
     clear HB HT hli
     obtain ⟨k, rfl, hk, HN, HB, HT⟩ := hrel
     by_cases hlt : k < S.parts.length
     ·have hli : (k : Int) < S.parts.length := by omega
      obtain ⟨c, i, c0, c1, hpr⟩ := HP.out k hlt
      obtain ⟨a2, b2, rfl⟩ := hpr.code.form
      have c0 := bcl HT.out hpb c0
      have k0 := HB.out.p
      have HPR := hd hpr
      clear hpr c1
      generalize hcz : chkC S.parts[k].code = z
      have HCZ := hd hcz
      clear hcz
      go_wp2_with fail
      refine (codeRef_any S.parts[k].code (HOK.out k hlt) _ _ (HPR.out.code.up HT.out)).mono ?_
      rw [HCZ.out]
      rintro e w2 ⟨rfl, bb⟩
      have HT2 := hd (HT.out.trans (bb.mono HT.out.size))
      have HB2 := hd (HB.out.up bb)
      clear bb c0 k0 HB HT
      by_cases hz : z = 0
      ·subst hz
       go_wp2
       go_roundw
       case rel => exact ⟨k + 1, by go_num, by omega, (fun j hj hjk => by
        by_cases e : j = k
        ·subst e; exact HCZ.out
        ·exact HN.out j hj om), HB2, HT2⟩
       case measure => simp [intOf]; omega
      ·have hz' : (z != 0) = true := by simpa using hz
       have HRR := hd (chkS_code HC.out hlt HN.out HCZ.out hz)
       clear hz
       go_wp2
       go_ret
       exact ⟨ret_int (by rw [← HR.out, HRR.out]), HT2.out⟩
     ·have hli : ¬ (k : Int) < S.parts.length := by omega
      have HZ : Hid (∀ j (hj : j < S.parts.length), chkC S.parts[j].code = 0) := fun j hj => HN.out j hj om
      have k1 := HB.out.c
      clear HN hk hlt
      go_wp2
      go_loopw [7] (fun i wr => ∃ k : Nat, i = .int .i64 k ∧ k ≤ S.chans.length ∧ Hid ((S.chans.take k).any kindBad = false) ∧ Hid (Box wr w.heap.size (.slice (some ⟨pb, po, none⟩) S.parts.length pc) (.slice ca S.chans.length cc) (.slice sa S.slots.length sc)) ∧ Hid (Below w.heap.size w wr)) (fun i _ => S.chans.length - (intOf i).toNat)
      case atStart => exact ⟨0, rfl, Nat.zero_le _, (show (S.chans.take 0).any kindBad = false by simp), HB, HT⟩
      case round =>
       clear HB HT hli k1
       obtain ⟨k, rfl, hk, HN, HB, HT⟩ := hrel
       have k1 := HB.out.c
       by_cases hlt : k < S.chans.length
       ·have hli : (k : Int) < S.chans.length := by omega
        obtain ⟨b, off, cap', e1, hcap, hbw, hc⟩ := HS.out.c.open om
        cases e1
        obtain ⟨c0, c1, c2⟩ := chan_cells hc k hlt
        have c0 := bcl HT.out hbw c0
        clear hc c1 c2
        generalize hq : (S.chans[k].kd == 1 || S.chans[k].kd == 2) = q
        have HK : Hid (kindBad S.chans[k] = !q) := by show kindBad _ = _; unfold kindBad; rw [← hq]; simp [bne]
        have HQ := hd hq
        clear hq
        go_wp2_with fail
        refine (kindRef_any _ _).mono ?_
        rw [HQ.out]
        rintro e w2 ⟨rfl, rfl⟩
        cases q
        ·have HRR := hd (chkS_kind HC.out HZ.out (any_mem hlt HK.out))
         go_wp2
         go_ret
         exact ⟨ret_int (by rw [← HR.out, HRR.out]), HT.out⟩
        ·have HN2 := hd (any_take hlt HN.out HK.out)
         go_wp2
         go_roundw
         case rel => exact ⟨k + 1, by go_num, by omega, HN2, HB, HT⟩
         case measure => simp [intOf]; omega
       ·have hli : ¬ (k : Int) < S.chans.length := by omega
        have HKB := hd (any_all hlt HN.out)
        clear HN hk hlt
        go_wp2
        go_loopw [8] (fun i wr => ∃ k : Nat, i = .int .i64 k ∧ k ≤ S.chans.length ∧ Hid ((S.chans.take k).any (placeBad S.parts.length) = false) ∧ Hid (Box wr w.heap.size (.slice (some ⟨pb, po, none⟩) S.parts.length pc) (.slice ca S.chans.length cc) (.slice sa S.slots.length sc)) ∧ Hid (Below w.heap.size w wr)) (fun i _ => S.chans.length - (intOf i).toNat)
        case atStart => exact ⟨0, rfl, Nat.zero_le _, (show (S.chans.take 0).any (placeBad S.parts.length) = false by simp), HB, HT⟩
        case round =>
         clear HB HT hli k1
         obtain ⟨k, rfl, hk, HN, HB, HT⟩ := hrel
         have k1 := HB.out.c
         by_cases hlt : k < S.chans.length
         ·have hli : (k : Int) < S.chans.length := by omega
          obtain ⟨b, off, cap', e1, hcap, hbw, hc⟩ := HS.out.c.open om
          cases e1
          obtain ⟨c0, c1, c2⟩ := chan_cells hc k hlt
          have c0 := bcl HT.out hbw c0
          have c1 := bcl HT.out hbw c1
          have c2 := bcl HT.out hbw c2
          clear hc
          generalize h1 : withinB S.chans[k].fr 0 ((S.parts.length : Int) - 1) = q1
          generalize h2 : withinB S.chans[k].tt 0 ((S.parts.length : Int) - 1) = q2
          generalize h3 : (S.chans[k].fr == S.chans[k].tt) = q3
          have HK : Hid (placeBad S.parts.length S.chans[k] = (!q1 || !q2 || q3)) := by show placeBad _ _ = _; unfold placeBad; rw [h1, h2, h3]
          have H1 := hd h1
          have H2 := hd h2
          clear h1 h2
          have HT2 : Hid (Below w.heap.size w (wr.alloc (.cells #[.int .i64 S.chans[k].kd, .int .i64 S.chans[k].fr, .int .i64 S.chans[k].tt] 89))) := HT.out.alloc HT.out.size _
          have HB2 := hd (HB.out.up (w' := wr.alloc (.cells #[.int .i64 S.chans[k].kd, .int .i64 S.chans[k].fr, .int .i64 S.chans[k].tt] 89)) ((Below.refl _ _).alloc (Nat.le_refl _) _))
          go_wp2_with fail
          refine (within_any _ _ _ _).mono ?_
          rw [H1.out]
          rintro e w2 ⟨rfl, rfl⟩
          cases q1
          ·have HRR := hd (chkS_places HC.out HZ.out HKB.out (placesB_no1 (any_mem hlt HK.out)))
           go_wp2
           go_ret
           exact ⟨ret_int (by rw [← HR.out, HRR.out]), HT2.out⟩
          ·go_wp2_with fail
           refine (within_any _ _ _ _).mono ?_
           rw [H2.out]
           rintro e w2 ⟨rfl, rfl⟩
           cases q2
           ·have HRR := hd (chkS_places HC.out HZ.out HKB.out (placesB_no1 (any_mem hlt HK.out)))
            go_wp2
            go_ret
            exact ⟨ret_int (by rw [← HR.out, HRR.out]), HT2.out⟩
           ·cases q3
            ·have HN2 := hd (any_take hlt HN.out HK.out)
             go_wp2
             go_roundw
             case rel => exact ⟨k + 1, by go_num, by omega, HN2, HB2, HT2⟩
             case measure => simp [intOf]; omega
            ·have HRR := hd (chkS_places HC.out HZ.out HKB.out (placesB_no1 (any_mem hlt HK.out)))
             go_wp2
             go_ret
             exact ⟨ret_int (by rw [← HR.out, HRR.out]), HT2.out⟩
         ·have hli : ¬ (k : Int) < S.chans.length := by omega
          have HPB := hd (any_all hlt HN.out)
          have k2 := HB.out.s
          clear HN hk hlt
          go_wp2
          go_loopw [10] (fun i wr => ∃ k : Nat, i = .int .i64 k ∧ k ≤ S.slots.length ∧ Hid ((S.slots.take k).any (slotBad S.parts.length) = false) ∧ Hid (Box wr w.heap.size (.slice (some ⟨pb, po, none⟩) S.parts.length pc) (.slice ca S.chans.length cc) (.slice sa S.slots.length sc)) ∧ Hid (Below w.heap.size w wr)) (fun i _ => S.slots.length - (intOf i).toNat)
          case atStart => exact ⟨0, rfl, Nat.zero_le _, (show (S.slots.take 0).any (slotBad S.parts.length) = false by simp), HB, HT⟩
          case round =>
           clear HB HT hli k1 k2
           obtain ⟨k, rfl, hk, HN, HB, HT⟩ := hrel
           have k2 := HB.out.s
           by_cases hlt : k < S.slots.length
           ·have hli : (k : Int) < S.slots.length := by omega
            obtain ⟨b, off, cap', e1, hcap, hbw, hc⟩ := HS.out.s.open om
            cases e1
            obtain ⟨c0, c1⟩ := slot_cells hc k hlt
            have c0 := bcl HT.out hbw c0
            have c1 := bcl HT.out hbw c1
            clear hc
            generalize h1 : withinB S.slots[k].pt 0 ((S.parts.length : Int) - 1) = q1
            generalize h2 : withinB S.slots[k].tk 1 8 = q2
            have HK : Hid (slotBad S.parts.length S.slots[k] = (!q1 || !q2)) := by show slotBad _ _ = _; unfold slotBad; rw [h1, h2]
            have H1 := hd h1
            have H2 := hd h2
            clear h1 h2
            go_wp2_with fail
            refine (within_any _ _ _ _).mono ?_
            rw [H1.out]
            rintro e w2 ⟨rfl, rfl⟩
            cases q1
            ·have HRR := hd (chkS_places HC.out HZ.out HKB.out (placesB_no2 (any_mem hlt HK.out)))
             go_wp2
             go_ret
             exact ⟨ret_int (by rw [← HR.out, HRR.out]), HT.out⟩
            ·go_wp2_with fail
             refine (within_any _ _ _ _).mono ?_
             rw [H2.out]
             rintro e w2 ⟨rfl, rfl⟩
             cases q2
             ·have HRR := hd (chkS_places HC.out HZ.out HKB.out (placesB_no2 (any_mem hlt HK.out)))
              go_wp2
              go_ret
              exact ⟨ret_int (by rw [← HR.out, HRR.out]), HT.out⟩
             ·have HN2 := hd (any_take hlt HN.out HK.out)
              go_wp2
              go_roundw
              case rel => exact ⟨k + 1, by go_num, by omega, HN2, HB, HT⟩
              case measure => simp [intOf]; omega
           ·have hli : ¬ (k : Int) < S.slots.length := by omega
            have HPL := hd (placesB_yes HPB.out (any_all hlt HN.out))
            clear HN hk hlt HPB
            go_wp2
            go_loopw [11] (fun i wr => ∃ k : Nat, i = .int .i64 k ∧ k ≤ S.parts.length ∧ Hid (∀ j (h : j < S.parts.length), j < k → S.parts[j].code.any (insBad S.chans (j : Int)) = false) ∧ Hid (Box wr w.heap.size (.slice (some ⟨pb, po, none⟩) S.parts.length pc) (.slice ca S.chans.length cc) (.slice sa S.slots.length sc)) ∧ Hid (Below w.heap.size w wr)) (fun i _ => S.parts.length - (intOf i).toNat)
            case atStart => exact ⟨0, rfl, Nat.zero_le _, (fun j hj h => by omega), HB, HT⟩
            case round =>
             clear HB HT hli k2
             obtain ⟨k, rfl, hk, HN, HB, HT⟩ := hrel
             by_cases hlt : k < S.parts.length
             ·have hli : (k : Int) < S.parts.length := by omega
              obtain ⟨c, i, c0, c1, hpr⟩ := HP.out k hlt
              obtain ⟨a2, b2, rfl⟩ := hpr.code.form
              have HPR := hd hpr
              have HC0 := hd c0
              have hc20 : S.parts[k].code.length ≤ 20 := (chkC_zero (HZ.out k hlt)).2.1
              clear hpr c1 c0
              go_wp2
              go_loopw [12] (fun i wr => ∃ m : Nat, i = .int .i64 m ∧ m ≤ S.parts[k].code.length ∧ Hid ((S.parts[k].code.take m).any (insBad S.chans (k : Int)) = false) ∧ Hid (Box wr w.heap.size (.slice (some ⟨pb, po, none⟩) S.parts.length pc) (.slice ca S.chans.length cc) (.slice sa S.slots.length sc)) ∧ Hid (Below w.heap.size w wr)) (fun i _ => S.parts[k].code.length - (intOf i).toNat)
              case atStart => exact ⟨0, rfl, Nat.zero_le _, (show (S.parts[k].code.take 0).any (insBad S.chans (k : Int)) = false by simp), HB, HT⟩
              case round =>
               clear HB HT
               obtain ⟨m, rfl, hm, HM, HB, HT⟩ := hrel
               have k0 := HB.out.p
               have k1 := HB.out.c
               have c0 := bcl HT.out hpb HC0.out
               by_cases hmt : m < S.parts[k].code.length
               ·have hmi : (m : Int) < S.parts[k].code.length := by omega
                obtain ⟨cb, co, ccap, e1, hcc, hcb, hcs⟩ := HPR.out.code.open om
                cases e1
                obtain ⟨d0, d1, d2, d3⟩ := code_cells hcs m hmt
                have d0 := bcl HT.out hcb d0
                have d1 := bcl HT.out hcb d1
                have d2 := bcl HT.out hcb d2
                have d3 := bcl HT.out hcb d3
                have k1' := cl_alloc (.cells #[.int .i64 S.parts[k].code[m].op, .int .i64 S.parts[k].code[m].a, .int .i64 S.parts[k].code[m].b, .int .i64 S.parts[k].code[m].n] 83) HB.out.lt k1
                clear hcs
                have hgl := HB.out.lt
                by_cases ho : S.parts[k].code[m].op = 12
                ·have hne : Hid (insBad S.chans (k : Int) S.parts[k].code[m] = putBad S.chans (k : Int) S.parts[k].code[m].n) := by
                  show insBad _ _ _ = _
                  unfold insBad
                  rw [ho]
                  simp
                 obtain ⟨n, hn, hn6⟩ : ∃ n : Nat, S.parts[k].code[m].n = n ∧ n < 6 := by
                  have := chk_chan ((chkC_zero (HZ.out k hlt)).2.2 m hmt) (Or.inl ho)
                  exact ⟨S.parts[k].code[m].n.toNat, by omega, by omega⟩
                 rw [hn] at d3 hne
                 rw [ho] at d0
                 clear hn ho
                 have hn0 : (0 : Int) ≤ n := by omega
                 by_cases hnl : n < S.chans.length
                 ·have hni : (n : Int) < S.chans.length := by omega
                  have hnd : ¬ (S.chans.length : Int) ≤ n := by omega
                  obtain ⟨b, off, cap', e1, hcap, hbw, hc⟩ := HS.out.c.open om
                  cases e1
                  obtain ⟨f0, f1, f2⟩ := chan_cells hc n hnl
                  have f1 := bcl HT.out hbw f1
                  have f1' := cl_alloc (.cells #[.int .i64 12, .int .i64 S.parts[k].code[m].a, .int .i64 S.parts[k].code[m].b, .int .i64 (n : Int)] 83) (Nat.lt_of_lt_of_le hbw HT.out.size) f1
                  generalize hq : (S.chans[n].fr != (k : Int)) = q
                  have HK : Hid (insBad S.chans (k : Int) S.parts[k].code[m] = q) := by show insBad _ _ _ = q; rw [hne.out, putBad_lt hnl, hq]
                  clear hc hne
                  cases q
                  ·have HN2 := hd (any_take hmt HM.out HK.out)
                   go_wp2
                   go_roundw
                   case rel => exact ⟨m + 1, by go_num, by omega, HN2, HB.out.up ((Below.refl _ _).alloc (Nat.le_refl _) _), HT.out.alloc HT.out.size _⟩
                   case measure => simp [intOf]; omega
                  ·have HRR := hd (chkS_names HC.out HZ.out HKB.out HPL.out (namesB_no hlt (HZ.out k hlt) (any_mem hmt HK.out)))
                   go_wp2
                   go_ret
                   exact ⟨ret_int (by rw [← HR.out, HRR.out]), HT.out.alloc HT.out.size _⟩
                 ·have hni : ¬ (n : Int) < S.chans.length := by omega
                  have hnd : (S.chans.length : Int) ≤ n := by omega
                  have HK : Hid (insBad S.chans (k : Int) S.parts[k].code[m] = true) := by show insBad _ _ _ = true; rw [hne.out, putBad_ge hnl]
                  clear hne
                  have HRR := hd (chkS_names HC.out HZ.out HKB.out HPL.out (namesB_no hlt (HZ.out k hlt) (any_mem hmt HK.out)))
                  go_wp2
                  go_ret
                  exact ⟨ret_int (by rw [← HR.out, HRR.out]), HT.out.alloc HT.out.size _⟩
                ·by_cases ho2 : S.parts[k].code[m].op = 13
                 ·have hne : Hid (insBad S.chans (k : Int) S.parts[k].code[m] = getBad S.chans (k : Int) S.parts[k].code[m].n) := by
                   show insBad _ _ _ = _
                   unfold insBad
                   rw [ho2]
                   simp
                  obtain ⟨n, hn, hn6⟩ : ∃ n : Nat, S.parts[k].code[m].n = n ∧ n < 6 := by
                   have := chk_chan ((chkC_zero (HZ.out k hlt)).2.2 m hmt) (Or.inr ho2)
                   exact ⟨S.parts[k].code[m].n.toNat, by omega, by omega⟩
                  rw [hn] at d3 hne
                  rw [ho2] at d0
                  clear hn ho ho2
                  have hn0 : (0 : Int) ≤ n := by omega
                  by_cases hnl : n < S.chans.length
                  ·have hni : (n : Int) < S.chans.length := by omega
                   have hnd : ¬ (S.chans.length : Int) ≤ n := by omega
                   obtain ⟨b, off, cap', e1, hcap, hbw, hc⟩ := HS.out.c.open om
                   cases e1
                   obtain ⟨f0, f1, f2⟩ := chan_cells hc n hnl
                   have f2 := bcl HT.out hbw f2
                   have f2' := cl_alloc (.cells #[.int .i64 13, .int .i64 S.parts[k].code[m].a, .int .i64 S.parts[k].code[m].b, .int .i64 (n : Int)] 83) (Nat.lt_of_lt_of_le hbw HT.out.size) f2
                   generalize hq : (S.chans[n].tt != (k : Int)) = q
                   have HK : Hid (insBad S.chans (k : Int) S.parts[k].code[m] = q) := by show insBad _ _ _ = q; rw [hne.out, getBad_lt hnl, hq]
                   clear hc hne
                   cases q
                   ·have HN2 := hd (any_take hmt HM.out HK.out)
                    go_wp2
                    go_roundw
                    case rel => exact ⟨m + 1, by go_num, by omega, HN2, HB.out.up ((Below.refl _ _).alloc (Nat.le_refl _) _), HT.out.alloc HT.out.size _⟩
                    case measure => simp [intOf]; omega
                   ·have HRR := hd (chkS_names HC.out HZ.out HKB.out HPL.out (namesB_no hlt (HZ.out k hlt) (any_mem hmt HK.out)))
                    go_wp2
                    go_ret
                    exact ⟨ret_int (by rw [← HR.out, HRR.out]), HT.out.alloc HT.out.size _⟩
                  ·have hni : ¬ (n : Int) < S.chans.length := by omega
                   have hnd : (S.chans.length : Int) ≤ n := by omega
                   have HK : Hid (insBad S.chans (k : Int) S.parts[k].code[m] = true) := by show insBad _ _ _ = true; rw [hne.out, getBad_ge hnl]
                   clear hne
                   have HRR := hd (chkS_names HC.out HZ.out HKB.out HPL.out (namesB_no hlt (HZ.out k hlt) (any_mem hmt HK.out)))
                   go_wp2
                   go_ret
                   exact ⟨ret_int (by rw [← HR.out, HRR.out]), HT.out.alloc HT.out.size _⟩
                 ·have o1 : (S.parts[k].code[m].op == 12) = false := by simpa using ho
                  have o2 : (S.parts[k].code[m].op == 13) = false := by simpa using ho2
                  have HK : Hid (insBad S.chans (k : Int) S.parts[k].code[m] = false) := by show insBad _ _ _ = false; unfold insBad; rw [o1, o2]; rfl
                  have HN2 := hd (any_take hmt HM.out HK.out)
                  clear ho ho2
                  go_wp2
                  go_roundw
                  case rel => exact ⟨m + 1, by go_num, by omega, HN2, HB.out.up ((Below.refl _ _).alloc (Nat.le_refl _) _), HT.out.alloc HT.out.size _⟩
                  case measure => simp [intOf]; omega
               ·have hmi : ¬ (m : Int) < S.parts[k].code.length := by omega
                have HM2 := hd (any_all hmt HM.out)
                go_wp2
                go_roundw
                case rel => exact ⟨k + 1, by go_num, by omega, (fun j hj hjk => by
                 by_cases e : j = k
                 ·subst e; exact HM2.out
                 ·exact HN.out j hj om), HB, HT⟩
                case measure => simp [intOf]; omega
             ·have hli : ¬ (k : Int) < S.parts.length := by omega
              have HRR := hd (chkS_ok HC.out HZ.out HKB.out HPL.out (namesB_yes HZ.out (fun j hj => HN.out j hj om)))
              go_wp2
              go_ret
              exact ⟨ret_int (by rw [← HR.out, HRR.out]), HT.out⟩
 ·have HRR := hd (chkS_counts (countsB_no1 hA))
  generalize h1 : withinB (S.parts.length : Int) 1 4 = q1
  generalize h3 : withinB (S.slots.length : Int) 1 6 = q3
  have H1 := hd h1
  have H3 := hd h3
  have HQ : Hid (q1 = true → S.chans.length ≤ 6 → q3 = false) := by
   intro e1 e2
   subst e1
   cases q3
   ·rfl
   ·unfold withinB at h1 h3
    simp at h1 h3
    omega
  clear h1 h3 hA
  go_enter Tryz.func33, Tryz.ntmps33
  go_wp2_with fail
  refine (within_any _ _ _ _).mono ?_
  rw [H1.out]
  rintro e w1 ⟨rfl, rfl⟩
  cases q1
  ·go_wp2
   go_ret
   exact ⟨ret_int (by rw [← HR.out, HRR.out]), up0⟩
  ·by_cases h6 : (6 : Int) < S.chans.length
   ·go_wp2
    go_ret
    exact ⟨ret_int (by rw [← HR.out, HRR.out]), up0⟩
   ·have hq := HQ.out rfl om
    subst hq
    clear HQ
    go_wp2_with fail
    refine (within_any _ _ _ _).mono ?_
    rw [H3.out]
    rintro e w1 ⟨rfl, rfl⟩
    go_wp2
    go_ret
    exact ⟨ret_int (by rw [← HR.out, HRR.out]), up0⟩
end Go.Proofs.YtehhhiodfcdnmaaGreatDoor

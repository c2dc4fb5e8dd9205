/- conf.Check. -/
import Derived.Test.YthpljbbhpbijgaaDoorJh
namespace Go.Proofs.YthpljbbhpbijgaaDoor
set_option linter.unusedSimpArgs false
set_option linter.unusedVariables false
open Go.RowKit Go.Sort

set_option maxHeartbeats 2000000 in
theorem confCheck_any (S : SysD) (vp vc vs : Value) (w : World) (he : Env w) (hS : Sys w vp vc vs S) : Calls Tryd.prog 28 #[.agg #[vp, vc, vs]] w fun e w' => e = .returned (.int .i64 (chkS S)) ∧ Below w.heap.size w w' := by
  generalize hr : chkS S = r
  unfold chkS at hr
  obtain ⟨pa, pc, rfl⟩ := hS.p.form
  obtain ⟨ca, cc, rfl⟩ := hS.c.form
  obtain ⟨sa, sc, rfl⟩ := hS.s.form
  have HS := Lib.hid hS
  generalize hc : countsB S = qc at hr
  have HC := Lib.hid hc
  clear hS
  cases qc
  · obtain rfl : 2 = r := hr
    clear hc
    go_enter Tryd.func28, Tryd.ntmps28
    go_wp2_with fail
    refine (counts_any S _ _ _ _ (HS.out.up (by repeat (first | exact Below.refl _ _ | assumption | refine Below.drew ?_ | refine Below.alloc ?_ (by first | (simp; done) | (simp; omega)) _ | refine Below.setCell ?_ (by first | (simp; done) | (simp; omega)) _)))).mono ?_
    rw [HC.out]
    rintro e w1 ⟨rfl, bb⟩
    have D := Lib.hid (Below.trans (show Below w.heap.size w _ from (by repeat (first | exact Below.refl _ _ | assumption | refine Below.drew ?_ | refine Below.alloc ?_ (by first | (simp; done) | (simp; omega)) _ | refine Below.setCell ?_ (by first | (simp; done) | (simp; omega)) _))) (bb.mono (by simp)))
    clear bb
    go_wp2
    go_ret
    exact ⟨rfl, D.out⟩
  · rw [if_neg (by decide)] at hr
    have hn : 1 ≤ S.parts.length ∧ S.parts.length ≤ 4 ∧ S.chans.length ≤ 6 := by unfold countsB at hc; simp at hc; omega
    obtain ⟨hn0, hn1, hn2⟩ := hn
    have HR := Lib.hid hr
    obtain ⟨pb, po, pc', e1, hpc, hpb, hpp⟩ := HS.out.p.open (by omega)
    cases e1
    have HP := Lib.hid hpp
    clear hr hc hpp
    go_enter Tryd.func28, Tryd.ntmps28
    go_wp2_with fail
    refine (counts_any S _ _ _ _ (HS.out.up (by repeat (first | exact Below.refl _ _ | assumption | refine Below.drew ?_ | refine Below.alloc ?_ (by first | (simp; done) | (simp; omega)) _ | refine Below.setCell ?_ (by first | (simp; done) | (simp; omega)) _)))).mono ?_
    rw [HC.out]
    rintro e w1 ⟨rfl, bb⟩
    have D : Below w.heap.size w w1 := (Below.trans (show Below w.heap.size w _ from (by repeat (first | exact Below.refl _ _ | assumption | refine Below.drew ?_ | refine Below.alloc ?_ (by first | (simp; done) | (simp; omega)) _ | refine Below.setCell ?_ (by first | (simp; done) | (simp; omega)) _))) (bb.mono (by simp)))
    have hB := (box_new w (.slice (some ⟨pb, po, none⟩) S.parts.length pc) (.slice ca S.chans.length cc) (.slice sa S.slots.length sc) 26 _ rfl).up bb
    have k0 := hB.p
    have HB := Lib.hid hB
    have HD := Lib.hid D
    clear bb D hB
    go_wp2
    go_loopw [12] (fun i wr => ∃ k : Nat, i = .int .i64 k ∧ k ≤ S.parts.length ∧ Hid (∀ j (h : j < S.parts.length), j < k → chkC S.parts[j].code = 0) ∧ Hid (Below w1.heap.size w1 wr)) (fun i _ => S.parts.length - (intOf i).toNat)
    case atStart => exact ⟨0, rfl, Nat.zero_le _, fun j hj h => by omega, Below.refl _ _⟩
    case round =>
      obtain ⟨k, rfl, hk, HN, hbel⟩ := hrel
      have HT := Lib.hid (HD.out.trans (hbel.out.mono HD.out.size))
      have hts := HT.out.size
      by_cases hlt : k < S.parts.length
      · have hli : (k : Int) < S.parts.length := by omega
        obtain ⟨c, i, c0, c1, hpr⟩ := HP.out k hlt
        obtain ⟨a1, b1, rfl⟩ := hpr.code.form
        obtain ⟨a2, b2, rfl⟩ := hpr.inn.form
        have c0 := bcl HT.out hpb c0
        have c1 := bcl HT.out hpb c1
        have HPR := Lib.hid hpr
        clear hpr k0
        generalize hcz : chkC S.parts[k].code = z
        have HCZ := Lib.hid hcz
        clear hcz
        have e0 := he.up HT.out
        go_wp2_with fail
        refine (codeCheck_any S.parts[k].code _ _ (e0.up (by repeat (first | exact Below.refl _ _ | assumption | refine Below.drew ?_ | refine Below.alloc ?_ (by first | (simp; done) | (simp; omega)) _ | refine Below.setCell ?_ (by first | (simp; done) | (simp; omega)) _))) ((HPR.out.code.up HT.out).up (by repeat (first | exact Below.refl _ _ | assumption | refine Below.drew ?_ | refine Below.alloc ?_ (by first | (simp; done) | (simp; omega)) _ | refine Below.setCell ?_ (by first | (simp; done) | (simp; omega)) _)))).mono ?_
        rw [HCZ.out]
        rintro e w2 ⟨rfl, bb⟩
        have HD2 := Lib.hid (show Below wr.heap.size wr w2 from Below.trans (by repeat (first | exact Below.refl _ _ | assumption | refine Below.drew ?_ | refine Below.alloc ?_ (by first | (simp; done) | (simp; omega)) _ | refine Below.setCell ?_ (by first | (simp; done) | (simp; omega)) _)) (bb.mono (by simp)))
        clear bb c0 c1
        by_cases hz : z = 0
        · subst hz
          go_wp2
          go_roundw
          case rel => exact ⟨k + 1, by go_num, by omega, (fun j hj hjk => by
            by_cases e : j = k
            · subst e; exact HCZ.out
            · exact HN.out j hj (by omega)), hbel.out.trans (HD2.out.mono hbel.out.size)⟩
          case measure => simp [intOf]; omega
        · have hz' : (z != 0) = true := by simpa using hz
          have HF := Lib.hid (firstP_at S.parts k hlt HN.out (by rw [HCZ.out]; exact hz))
          have HRR : Hid (r = z) := by
            show r = z
            have := HR.out
            rw [HF.out, HCZ.out, if_pos hz] at this
            exact this.symm
          clear hz
          go_wp2
          go_ret
          exact ⟨ret_int HRR.out.symm, HT.out.trans (HD2.out.mono hts)⟩
      · have hli : ¬ (k : Int) < S.parts.length := by omega
        have HF := Lib.hid (firstP_all S.parts (fun j hj => HN.out j hj (by omega)))
        have HR2 := HR
        clear HR
        have HR : Hid ((if S.chans.any kindBad = true then (4 : Int) else if placesB S = false then 3 else if namesB S = false then 1 else 0) = r) := by
          have := HR2.out
          rw [HF.out, if_neg (by simp)] at this
          exact this
        have HBr := Lib.hid (HB.out.up hbel.out)
        have k0 := HBr.out.p
        have k1 := HBr.out.c
        have k2 := HBr.out.s
        generalize hq1 : S.chans.any kindBad = q1
        have H1 := Lib.hid hq1
        clear hq1 HR2 HN
        go_wp2_with fail
        refine (oneChan_any S.chans _ _ enCheck1 #[] kindBad _ (HS.out.c.up HT.out) (by omega) (fun k hk w1 hb => ?_) q1 H1.out).mono ?_
        · rw [app0]
          exact kindLit_any _ _
        rintro e w2 ⟨rfl, bb⟩
        have HT := Lib.hid (HT.out.trans (bb.mono hts))
        have hts := HT.out.size
        have HBr := Lib.hid (HBr.out.up bb)
        clear k0 k1 k2 bb
        have k0 := HBr.out.p
        have k1 := HBr.out.c
        have k2 := HBr.out.s
        cases q1
        · generalize hq2 : placesB S = q2
          have H2 := Lib.hid hq2
          clear hq2
          go_wp2_with fail
          refine (places_any S _ _ _ _ (HS.out.up HT.out) HC.out).mono ?_
          rw [H2.out]
          rintro e w3 ⟨rfl, bb⟩
          have HT := Lib.hid (HT.out.trans (bb.mono hts))
          have hts := HT.out.size
          have HBr := Lib.hid (HBr.out.up bb)
          clear k0 k1 k2 bb
          have k0 := HBr.out.p
          have k1 := HBr.out.c
          have k2 := HBr.out.s
          cases q2
          · have HRR : Hid (3 = r) := by show 3 = r; have := HR.out; rw [H1.out, H2.out] at this; simpa using this
            go_wp2
            go_ret
            exact ⟨ret_int HRR.out, HT.out⟩
          · generalize hq3 : namesB S = q3
            have H3 := Lib.hid hq3
            clear hq3
            go_wp2_with fail
            refine (names_any S _ _ _ _ (he.up HT.out) (HS.out.up HT.out) HC.out HF.out).mono ?_
            rw [H3.out]
            rintro e w4 ⟨rfl, bb⟩
            have HT := Lib.hid (HT.out.trans (bb.mono hts))
            have HRR : Hid ((if q3 = false then (1 : Int) else 0) = r) := by show (if q3 = false then (1 : Int) else 0) = r; have := HR.out; rw [H1.out, H2.out, H3.out] at this; simpa using this
            clear bb k0 k1 k2
            cases q3
            all_goals
              go_wp2
              go_ret
              exact ⟨ret_int HRR.out, HT.out⟩
        · have HRR : Hid (4 = r) := by show 4 = r; have := HR.out; rw [H1.out] at this; simpa using this
          go_wp2
          go_ret
          exact ⟨ret_int HRR.out, HT.out⟩
end Go.Proofs.YthpljbbhpbijgaaDoor

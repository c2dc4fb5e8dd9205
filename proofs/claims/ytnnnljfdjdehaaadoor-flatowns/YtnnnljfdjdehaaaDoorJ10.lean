/- The reference's CheckSystem answers as conf.Check does. -/
import Derived.Test.YtnnnljfdjdehaaaDoorJ9
import Derived.Deep.CutRange
import Derived.Deep.RegionWith
import Derived.Deep.RegionHeld3
import Derived.Test.YtnnnljfdjdehaaaDoorJ6
import Derived.Test.YtnnnljfdjdehaaaDoorJ7
namespace Go.Proofs.YtnnnljfdjdehaaaDoor
set_option linter.unusedSimpArgs false
set_option linter.unusedVariables false
open Go.RowKit Go.Sort

set_option maxRecDepth 100000 in
set_option maxHeartbeats 8000000 in
theorem sysRef_any (S : SysD) (hok : S.ok) (vp vc vs : Value) (w : World) (hS : Sys w vp vc vs S) : Calls Tryd.prog 11 #[.agg #[vp, vc, vs]] w fun e w' => e = .returned (.int .i64 (chkS S)) ∧ Below w.heap.size w w' := by
  generalize hr : chkS S = r
  have HR := Lib.hid hr
  obtain ⟨pa, pc, rfl⟩ := hS.p.form
  obtain ⟨ca, cc, rfl⟩ := hS.c.form
  obtain ⟨sa, sc, rfl⟩ := hS.s.form
  have HS := Lib.hid hS
  have HOK : Hid (∀ k (hk : k < S.parts.length) j (hj : j < S.parts[k].code.length), S.parts[k].code[j].ok) := fun k hk => hok _ (List.getElem_mem hk)
  clear hS hr hok
  by_cases hA : 1 ≤ S.parts.length ∧ S.parts.length ≤ 4 ∧ S.chans.length ≤ 6 ∧ 1 ≤ S.slots.length ∧ S.slots.length ≤ 6
  · have H1 : Hid (withinB (S.parts.length : Int) 1 4 = true) := by show withinB _ _ _ = _; unfold withinB; simp; omega
    have H2 : ¬ (6 : Int) < (S.chans.length : Int) := by omega
    have H3 : Hid (withinB (S.slots.length : Int) 1 6 = true) := by show withinB _ _ _ = _; unfold withinB; simp; omega
    have HA := Lib.hid hA
    have hn1 : S.parts.length ≤ 4 := hA.2.1
    have hn2 : S.chans.length ≤ 6 := hA.2.2.1
    have hn3 : S.slots.length ≤ 6 := hA.2.2.2.2
    obtain ⟨pb, po, pc', e1, hpc, hpb, hpp⟩ := HS.out.p.open (by omega)
    cases e1
    have HP := Lib.hid hpp
    clear hA hpp
    go_enter Tryd.func11, Tryd.ntmps11
    go_wp2_with fail
    refine (within_any _ _ _ _).mono ?_
    rw [H1.out]
    rintro e w1 ⟨rfl, rfl⟩
    go_wp2_with fail
    refine (within_any _ _ _ _).mono ?_
    rw [H3.out]
    rintro e w1 ⟨rfl, rfl⟩
    go_wp2
    go_loopw [4] (fun i wr => ∃ k : Nat, i = .int .i64 k ∧ k ≤ S.parts.length ∧ Hid (∀ j (h : j < S.parts.length), j < k → S.parts[j].inn.length ≤ 12) ∧ Hid (Box wr w.heap.size (.slice (some ⟨pb, po, none⟩) S.parts.length pc) (.slice ca S.chans.length cc) (.slice sa S.slots.length sc)) ∧ Hid (Below w.heap.size w wr)) (fun i _ => S.parts.length - (intOf i).toNat)
    case atStart => exact ⟨0, rfl, Nat.zero_le _, fun j hj h => by omega, box_new w _ _ _ _ _ rfl, (by repeat (first | exact Below.refl _ _ | assumption | refine Below.drew ?_ | refine Below.alloc ?_ (by first | (simp; done) | (simp; omega)) _ | refine Below.setCell ?_ (by first | (simp; done) | (simp; omega)) _))⟩
    case round =>
      obtain ⟨k, rfl, hk, HN, HB, HT⟩ := hrel
      by_cases hlt : k < S.parts.length
      · have hli : (k : Int) < S.parts.length := by omega
        obtain ⟨c, i, c0, c1, hpr⟩ := HP.out k hlt
        obtain ⟨a2, b2, rfl⟩ := hpr.inn.form
        have c1 := bcl HT.out hpb c1
        have k0 := HB.out.p
        clear hpr c0
        by_cases h12 : 12 < S.parts[k].inn.length
        · have h12' : (12 : Int) < S.parts[k].inn.length := by omega
          have HRR := Lib.hid (chkS_counts (countsB_no2 hlt h12))
          go_wp2
          go_ret
          exact ⟨ret_int (by rw [← HR.out, HRR.out]), HT.out⟩
        · have h12' : ¬ (12 : Int) < S.parts[k].inn.length := by omega
          go_wp2
          go_roundw
          case rel => exact ⟨k + 1, by go_num, by omega, (fun j hj hjk => by
            by_cases e : j = k
            · subst e; omega
            · exact HN.out j hj (by omega)), HB, HT⟩
          case measure => simp [intOf]; omega
      · have hli : ¬ (k : Int) < S.parts.length := by omega
        have HC := Lib.hid (countsB_mk HA.out (fun j hj => HN.out j hj (by omega)))
        clear HN hk hlt
        go_wp2
        go_loopw [5] (fun i wr => ∃ k : Nat, i = .int .i64 k ∧ k ≤ S.parts.length ∧ Hid (∀ j (h : j < S.parts.length), j < k → chkC S.parts[j].code = 0) ∧ Hid (Box wr w.heap.size (.slice (some ⟨pb, po, none⟩) S.parts.length pc) (.slice ca S.chans.length cc) (.slice sa S.slots.length sc)) ∧ Hid (Below w.heap.size w wr)) (fun i _ => S.parts.length - (intOf i).toNat)
        case atStart => exact ⟨0, rfl, Nat.zero_le _, fun j hj h => by omega, HB, HT⟩
        case round =>
          clear HB HT hli
          obtain ⟨k, rfl, hk, HN, HB, HT⟩ := hrel
          by_cases hlt : k < S.parts.length
          · have hli : (k : Int) < S.parts.length := by omega
            obtain ⟨c, i, c0, c1, hpr⟩ := HP.out k hlt
            obtain ⟨a2, b2, rfl⟩ := hpr.code.form
            have c0 := bcl HT.out hpb c0
            have k0 := HB.out.p
            have HPR := Lib.hid hpr
            clear hpr c1
            generalize hcz : chkC S.parts[k].code = z
            have HCZ := Lib.hid hcz
            clear hcz
            go_wp2_with fail
            refine (codeRef_any S.parts[k].code (HOK.out k hlt) _ _ (HPR.out.code.up HT.out)).mono ?_
            rw [HCZ.out]
            rintro e w2 ⟨rfl, bb⟩
            have HT2 := Lib.hid (HT.out.trans (bb.mono HT.out.size))
            have HB2 := Lib.hid (HB.out.up bb)
            clear bb c0 k0 HB HT
            by_cases hz : z = 0
            · subst hz
              go_wp2
              go_roundw
              case rel => exact ⟨k + 1, by go_num, by omega, (fun j hj hjk => by
                by_cases e : j = k
                · subst e; exact HCZ.out
                · exact HN.out j hj (by omega)), HB2, HT2⟩
              case measure => simp [intOf]; omega
            · have hz' : (z != 0) = true := by simpa using hz
              have HRR := Lib.hid (chkS_code HC.out hlt HN.out HCZ.out hz)
              clear hz
              go_wp2
              go_ret
              exact ⟨ret_int (by rw [← HR.out, HRR.out]), HT2.out⟩
          · have hli : ¬ (k : Int) < S.parts.length := by omega
            have HZ : Hid (∀ j (hj : j < S.parts.length), chkC S.parts[j].code = 0) := fun j hj => HN.out j hj (by omega)
            have k1 := HB.out.c
            clear HN hk hlt
            go_wp2
            go_loopw [7] (fun i wr => ∃ k : Nat, i = .int .i64 k ∧ k ≤ S.chans.length ∧ Hid ((S.chans.take k).any kindBad = false) ∧ Hid (Box wr w.heap.size (.slice (some ⟨pb, po, none⟩) S.parts.length pc) (.slice ca S.chans.length cc) (.slice sa S.slots.length sc)) ∧ Hid (Below w.heap.size w wr)) (fun i _ => S.chans.length - (intOf i).toNat)
            case atStart => exact ⟨0, rfl, Nat.zero_le _, (show (S.chans.take 0).any kindBad = false by simp), HB, HT⟩
            case round =>
              clear HB HT hli k1
              obtain ⟨k, rfl, hk, HN, HB, HT⟩ := hrel
              have k1 := HB.out.c
              by_cases hlt : k < S.chans.length
              · have hli : (k : Int) < S.chans.length := by omega
                obtain ⟨b, off, cap', e1, hcap, hbw, hc⟩ := HS.out.c.open (by omega)
                cases e1
                obtain ⟨c0, c1, c2⟩ := chan_cells hc k hlt
                have c0 := bcl HT.out hbw c0
                clear hc c1 c2
                generalize hq : (S.chans[k].kd == 1 || S.chans[k].kd == 2) = q
                have HK : Hid (kindBad S.chans[k] = !q) := by show kindBad _ = _; unfold kindBad; rw [← hq]; simp [bne]
                have HQ := Lib.hid hq
                clear hq
                go_wp2_with fail
                refine (kindRef_any _ _).mono ?_
                rw [HQ.out]
                rintro e w2 ⟨rfl, rfl⟩
                cases q
                · have HRR := Lib.hid (chkS_kind HC.out HZ.out (any_mem hlt HK.out))
                  go_wp2
                  go_ret
                  exact ⟨ret_int (by rw [← HR.out, HRR.out]), HT.out⟩
                · have HN2 := Lib.hid (any_take hlt HN.out HK.out)
                  go_wp2
                  go_roundw
                  case rel => exact ⟨k + 1, by go_num, by omega, HN2, HB, HT⟩
                  case measure => simp [intOf]; omega
              · have hli : ¬ (k : Int) < S.chans.length := by omega
                have HKB := Lib.hid (any_all hlt HN.out)
                clear HN hk hlt
                go_wp2
                go_loopw [8] (fun i wr => ∃ k : Nat, i = .int .i64 k ∧ k ≤ S.chans.length ∧ Hid ((S.chans.take k).any (placeBad S.parts.length) = false) ∧ Hid (Box wr w.heap.size (.slice (some ⟨pb, po, none⟩) S.parts.length pc) (.slice ca S.chans.length cc) (.slice sa S.slots.length sc)) ∧ Hid (Below w.heap.size w wr)) (fun i _ => S.chans.length - (intOf i).toNat)
                case atStart => exact ⟨0, rfl, Nat.zero_le _, (show (S.chans.take 0).any (placeBad S.parts.length) = false by simp), HB, HT⟩
                case round =>
                  clear HB HT hli k1
                  obtain ⟨k, rfl, hk, HN, HB, HT⟩ := hrel
                  have k1 := HB.out.c
                  by_cases hlt : k < S.chans.length
                  · have hli : (k : Int) < S.chans.length := by omega
                    obtain ⟨b, off, cap', e1, hcap, hbw, hc⟩ := HS.out.c.open (by omega)
                    cases e1
                    obtain ⟨c0, c1, c2⟩ := chan_cells hc k hlt
                    have c0 := bcl HT.out hbw c0
                    have c1 := bcl HT.out hbw c1
                    have c2 := bcl HT.out hbw c2
                    clear hc
                    generalize h1 : withinB S.chans[k].fr 0 ((S.parts.length : Int) - 1) = q1
                    generalize h2 : withinB S.chans[k].tt 0 ((S.parts.length : Int) - 1) = q2
                    generalize h3 : (S.chans[k].fr == S.chans[k].tt) = q3
                    have HK : Hid (placeBad S.parts.length S.chans[k] = (!q1 || !q2 || q3)) := by show placeBad _ _ = _; unfold placeBad; rw [h1, h2, h3]
                    have H1 := Lib.hid h1
                    have H2 := Lib.hid h2
                    clear h1 h2
                    have HT2 : Hid (Below w.heap.size w (wr.alloc (.cells #[.int .i64 S.chans[k].kd, .int .i64 S.chans[k].fr, .int .i64 S.chans[k].tt] 73))) := HT.out.alloc HT.out.size _
                    have HB2 := Lib.hid (HB.out.up (w' := wr.alloc (.cells #[.int .i64 S.chans[k].kd, .int .i64 S.chans[k].fr, .int .i64 S.chans[k].tt] 73)) ((Below.refl _ _).alloc (Nat.le_refl _) _))
                    go_wp2_with fail
                    refine (within_any _ _ _ _).mono ?_
                    rw [H1.out]
                    rintro e w2 ⟨rfl, rfl⟩
                    cases q1
                    · have HRR := Lib.hid (chkS_places HC.out HZ.out HKB.out (placesB_no1 (any_mem hlt HK.out)))
                      go_wp2
                      go_ret
                      exact ⟨ret_int (by rw [← HR.out, HRR.out]), HT2.out⟩
                    · go_wp2_with fail
                      refine (within_any _ _ _ _).mono ?_
                      rw [H2.out]
                      rintro e w2 ⟨rfl, rfl⟩
                      cases q2
                      · have HRR := Lib.hid (chkS_places HC.out HZ.out HKB.out (placesB_no1 (any_mem hlt HK.out)))
                        go_wp2
                        go_ret
                        exact ⟨ret_int (by rw [← HR.out, HRR.out]), HT2.out⟩
                      · cases q3
                        · have HN2 := Lib.hid (any_take hlt HN.out HK.out)
                          go_wp2
                          go_roundw
                          case rel => exact ⟨k + 1, by go_num, by omega, HN2, HB2, HT2⟩
                          case measure => simp [intOf]; omega
                        · have HRR := Lib.hid (chkS_places HC.out HZ.out HKB.out (placesB_no1 (any_mem hlt HK.out)))
                          go_wp2
                          go_ret
                          exact ⟨ret_int (by rw [← HR.out, HRR.out]), HT2.out⟩
                  · have hli : ¬ (k : Int) < S.chans.length := by omega
                    have HPB := Lib.hid (any_all hlt HN.out)
                    have k2 := HB.out.s
                    clear HN hk hlt
                    go_wp2
                    go_loopw [10] (fun i wr => ∃ k : Nat, i = .int .i64 k ∧ k ≤ S.slots.length ∧ Hid ((S.slots.take k).any (slotBad S.parts.length) = false) ∧ Hid (Box wr w.heap.size (.slice (some ⟨pb, po, none⟩) S.parts.length pc) (.slice ca S.chans.length cc) (.slice sa S.slots.length sc)) ∧ Hid (Below w.heap.size w wr)) (fun i _ => S.slots.length - (intOf i).toNat)
                    case atStart => exact ⟨0, rfl, Nat.zero_le _, (show (S.slots.take 0).any (slotBad S.parts.length) = false by simp), HB, HT⟩
                    case round =>
                      clear HB HT hli k1 k2
                      obtain ⟨k, rfl, hk, HN, HB, HT⟩ := hrel
                      have k2 := HB.out.s
                      by_cases hlt : k < S.slots.length
                      · have hli : (k : Int) < S.slots.length := by omega
                        obtain ⟨b, off, cap', e1, hcap, hbw, hc⟩ := HS.out.s.open (by omega)
                        cases e1
                        obtain ⟨c0, c1⟩ := slot_cells hc k hlt
                        have c0 := bcl HT.out hbw c0
                        have c1 := bcl HT.out hbw c1
                        clear hc
                        generalize h1 : withinB S.slots[k].pt 0 ((S.parts.length : Int) - 1) = q1
                        generalize h2 : withinB S.slots[k].tk 1 8 = q2
                        have HK : Hid (slotBad S.parts.length S.slots[k] = (!q1 || !q2)) := by show slotBad _ _ = _; unfold slotBad; rw [h1, h2]
                        have H1 := Lib.hid h1
                        have H2 := Lib.hid h2
                        clear h1 h2
                        go_wp2_with fail
                        refine (within_any _ _ _ _).mono ?_
                        rw [H1.out]
                        rintro e w2 ⟨rfl, rfl⟩
                        cases q1
                        · have HRR := Lib.hid (chkS_places HC.out HZ.out HKB.out (placesB_no2 (any_mem hlt HK.out)))
                          go_wp2
                          go_ret
                          exact ⟨ret_int (by rw [← HR.out, HRR.out]), HT.out⟩
                        · go_wp2_with fail
                          refine (within_any _ _ _ _).mono ?_
                          rw [H2.out]
                          rintro e w2 ⟨rfl, rfl⟩
                          cases q2
                          · have HRR := Lib.hid (chkS_places HC.out HZ.out HKB.out (placesB_no2 (any_mem hlt HK.out)))
                            go_wp2
                            go_ret
                            exact ⟨ret_int (by rw [← HR.out, HRR.out]), HT.out⟩
                          · have HN2 := Lib.hid (any_take hlt HN.out HK.out)
                            go_wp2
                            go_roundw
                            case rel => exact ⟨k + 1, by go_num, by omega, HN2, HB, HT⟩
                            case measure => simp [intOf]; omega
                      · have hli : ¬ (k : Int) < S.slots.length := by omega
                        have HPL := Lib.hid (placesB_yes HPB.out (any_all hlt HN.out))
                        clear HN hk hlt HPB
                        go_wp2
                        go_loopw [11] (fun i wr => ∃ k : Nat, i = .int .i64 k ∧ k ≤ S.parts.length ∧ Hid (∀ j (h : j < S.parts.length), j < k → S.parts[j].code.any (insBad S.chans (j : Int)) = false) ∧ Hid (Box wr w.heap.size (.slice (some ⟨pb, po, none⟩) S.parts.length pc) (.slice ca S.chans.length cc) (.slice sa S.slots.length sc)) ∧ Hid (Below w.heap.size w wr)) (fun i _ => S.parts.length - (intOf i).toNat)
                        case atStart => exact ⟨0, rfl, Nat.zero_le _, (fun j hj h => by omega), HB, HT⟩
                        case round =>
                          clear HB HT hli k2
                          obtain ⟨k, rfl, hk, HN, HB, HT⟩ := hrel
                          by_cases hlt : k < S.parts.length
                          · have hli : (k : Int) < S.parts.length := by omega
                            obtain ⟨c, i, c0, c1, hpr⟩ := HP.out k hlt
                            obtain ⟨a2, b2, rfl⟩ := hpr.code.form
                            have HPR := Lib.hid hpr
                            have HC0 := Lib.hid c0
                            have hc20 : S.parts[k].code.length ≤ 20 := (chkC_zero (HZ.out k hlt)).2.1
                            clear hpr c1 c0
                            go_wp2
                            go_loopw [12] (fun i wr => ∃ m : Nat, i = .int .i64 m ∧ m ≤ S.parts[k].code.length ∧ Hid ((S.parts[k].code.take m).any (insBad S.chans (k : Int)) = false) ∧ Hid (Box wr w.heap.size (.slice (some ⟨pb, po, none⟩) S.parts.length pc) (.slice ca S.chans.length cc) (.slice sa S.slots.length sc)) ∧ Hid (Below w.heap.size w wr)) (fun i _ => S.parts[k].code.length - (intOf i).toNat)
                            case atStart => exact ⟨0, rfl, Nat.zero_le _, (show (S.parts[k].code.take 0).any (insBad S.chans (k : Int)) = false by simp), HB, HT⟩
                            case round =>
                              clear HB HT
                              obtain ⟨m, rfl, hm, HM, HB, HT⟩ := hrel
                              have k0 := HB.out.p
                              have k1 := HB.out.c
                              have c0 := bcl HT.out hpb HC0.out
                              by_cases hmt : m < S.parts[k].code.length
                              · have hmi : (m : Int) < S.parts[k].code.length := by omega
                                obtain ⟨cb, co, ccap, e1, hcc, hcb, hcs⟩ := HPR.out.code.open (by omega)
                                cases e1
                                obtain ⟨d0, d1, d2, d3⟩ := code_cells hcs m hmt
                                have d0 := bcl HT.out hcb d0
                                have d1 := bcl HT.out hcb d1
                                have d2 := bcl HT.out hcb d2
                                have d3 := bcl HT.out hcb d3
                                have k1' := cl_alloc (.cells #[.int .i64 S.parts[k].code[m].op, .int .i64 S.parts[k].code[m].a, .int .i64 S.parts[k].code[m].b, .int .i64 S.parts[k].code[m].n] 81) HB.out.lt k1
                                clear hcs
                                have hgl := HB.out.lt
                                by_cases ho : S.parts[k].code[m].op = 12
                                · have hne : Hid (insBad S.chans (k : Int) S.parts[k].code[m] = putBad S.chans (k : Int) S.parts[k].code[m].n) := by
                                    show insBad _ _ _ = _
                                    unfold insBad
                                    rw [ho]
                                    simp
                                  obtain ⟨n, hn, hn6⟩ : ∃ n : Nat, S.parts[k].code[m].n = n ∧ n < 6 := by
                                    have := chk_chan ((chkC_zero (HZ.out k hlt)).2.2 m hmt) (Or.inl ho)
                                    exact ⟨S.parts[k].code[m].n.toNat, by omega, by omega⟩
                                  rw [hn] at d3 hne
                                  rw [ho] at d0
                                  clear hn ho
                                  have hn0 : (0 : Int) ≤ n := by omega
                                  by_cases hnl : n < S.chans.length
                                  · have hni : (n : Int) < S.chans.length := by omega
                                    have hnd : ¬ (S.chans.length : Int) ≤ n := by omega
                                    obtain ⟨b, off, cap', e1, hcap, hbw, hc⟩ := HS.out.c.open (by omega)
                                    cases e1
                                    obtain ⟨f0, f1, f2⟩ := chan_cells hc n hnl
                                    have f1 := bcl HT.out hbw f1
                                    have f1' := cl_alloc (.cells #[.int .i64 12, .int .i64 S.parts[k].code[m].a, .int .i64 S.parts[k].code[m].b, .int .i64 (n : Int)] 81) (Nat.lt_of_lt_of_le hbw HT.out.size) f1
                                    generalize hq : (S.chans[n].fr != (k : Int)) = q
                                    have HK : Hid (insBad S.chans (k : Int) S.parts[k].code[m] = q) := by show insBad _ _ _ = q; rw [hne.out, putBad_lt hnl, hq]
                                    clear hc hne
                                    cases q
                                    · have HN2 := Lib.hid (any_take hmt HM.out HK.out)
                                      go_wp2
                                      go_roundw
                                      case rel => exact ⟨m + 1, by go_num, by omega, HN2, HB.out.up ((Below.refl _ _).alloc (Nat.le_refl _) _), HT.out.alloc HT.out.size _⟩
                                      case measure => simp [intOf]; omega
                                    · have HRR := Lib.hid (chkS_names HC.out HZ.out HKB.out HPL.out (namesB_no hlt (HZ.out k hlt) (any_mem hmt HK.out)))
                                      go_wp2
                                      go_ret
                                      exact ⟨ret_int (by rw [← HR.out, HRR.out]), HT.out.alloc HT.out.size _⟩
                                  · have hni : ¬ (n : Int) < S.chans.length := by omega
                                    have hnd : (S.chans.length : Int) ≤ n := by omega
                                    have HK : Hid (insBad S.chans (k : Int) S.parts[k].code[m] = true) := by show insBad _ _ _ = true; rw [hne.out, putBad_ge hnl]
                                    clear hne
                                    have HRR := Lib.hid (chkS_names HC.out HZ.out HKB.out HPL.out (namesB_no hlt (HZ.out k hlt) (any_mem hmt HK.out)))
                                    go_wp2
                                    go_ret
                                    exact ⟨ret_int (by rw [← HR.out, HRR.out]), HT.out.alloc HT.out.size _⟩
                                · by_cases ho2 : S.parts[k].code[m].op = 13
                                  · have hne : Hid (insBad S.chans (k : Int) S.parts[k].code[m] = getBad S.chans (k : Int) S.parts[k].code[m].n) := by
                                      show insBad _ _ _ = _
                                      unfold insBad
                                      rw [ho2]
                                      simp
                                    obtain ⟨n, hn, hn6⟩ : ∃ n : Nat, S.parts[k].code[m].n = n ∧ n < 6 := by
                                      have := chk_chan ((chkC_zero (HZ.out k hlt)).2.2 m hmt) (Or.inr ho2)
                                      exact ⟨S.parts[k].code[m].n.toNat, by omega, by omega⟩
                                    rw [hn] at d3 hne
                                    rw [ho2] at d0
                                    clear hn ho ho2
                                    have hn0 : (0 : Int) ≤ n := by omega
                                    by_cases hnl : n < S.chans.length
                                    · have hni : (n : Int) < S.chans.length := by omega
                                      have hnd : ¬ (S.chans.length : Int) ≤ n := by omega
                                      obtain ⟨b, off, cap', e1, hcap, hbw, hc⟩ := HS.out.c.open (by omega)
                                      cases e1
                                      obtain ⟨f0, f1, f2⟩ := chan_cells hc n hnl
                                      have f2 := bcl HT.out hbw f2
                                      have f2' := cl_alloc (.cells #[.int .i64 13, .int .i64 S.parts[k].code[m].a, .int .i64 S.parts[k].code[m].b, .int .i64 (n : Int)] 81) (Nat.lt_of_lt_of_le hbw HT.out.size) f2
                                      generalize hq : (S.chans[n].tt != (k : Int)) = q
                                      have HK : Hid (insBad S.chans (k : Int) S.parts[k].code[m] = q) := by show insBad _ _ _ = q; rw [hne.out, getBad_lt hnl, hq]
                                      clear hc hne
                                      cases q
                                      · have HN2 := Lib.hid (any_take hmt HM.out HK.out)
                                        go_wp2
                                        go_roundw
                                        case rel => exact ⟨m + 1, by go_num, by omega, HN2, HB.out.up ((Below.refl _ _).alloc (Nat.le_refl _) _), HT.out.alloc HT.out.size _⟩
                                        case measure => simp [intOf]; omega
                                      · have HRR := Lib.hid (chkS_names HC.out HZ.out HKB.out HPL.out (namesB_no hlt (HZ.out k hlt) (any_mem hmt HK.out)))
                                        go_wp2
                                        go_ret
                                        exact ⟨ret_int (by rw [← HR.out, HRR.out]), HT.out.alloc HT.out.size _⟩
                                    · have hni : ¬ (n : Int) < S.chans.length := by omega
                                      have hnd : (S.chans.length : Int) ≤ n := by omega
                                      have HK : Hid (insBad S.chans (k : Int) S.parts[k].code[m] = true) := by show insBad _ _ _ = true; rw [hne.out, getBad_ge hnl]
                                      clear hne
                                      have HRR := Lib.hid (chkS_names HC.out HZ.out HKB.out HPL.out (namesB_no hlt (HZ.out k hlt) (any_mem hmt HK.out)))
                                      go_wp2
                                      go_ret
                                      exact ⟨ret_int (by rw [← HR.out, HRR.out]), HT.out.alloc HT.out.size _⟩
                                  · have o1 : (S.parts[k].code[m].op == 12) = false := by simpa using ho
                                    have o2 : (S.parts[k].code[m].op == 13) = false := by simpa using ho2
                                    have HK : Hid (insBad S.chans (k : Int) S.parts[k].code[m] = false) := by show insBad _ _ _ = false; unfold insBad; rw [o1, o2]; rfl
                                    have HN2 := Lib.hid (any_take hmt HM.out HK.out)
                                    clear ho ho2
                                    go_wp2
                                    go_roundw
                                    case rel => exact ⟨m + 1, by go_num, by omega, HN2, HB.out.up ((Below.refl _ _).alloc (Nat.le_refl _) _), HT.out.alloc HT.out.size _⟩
                                    case measure => simp [intOf]; omega
                              · have hmi : ¬ (m : Int) < S.parts[k].code.length := by omega
                                have HM2 := Lib.hid (any_all hmt HM.out)
                                go_wp2
                                go_roundw
                                case rel => exact ⟨k + 1, by go_num, by omega, (fun j hj hjk => by
                                  by_cases e : j = k
                                  · subst e; exact HM2.out
                                  · exact HN.out j hj (by omega)), HB, HT⟩
                                case measure => simp [intOf]; omega
                          · have hli : ¬ (k : Int) < S.parts.length := by omega
                            have HRR := Lib.hid (chkS_ok HC.out HZ.out HKB.out HPL.out (namesB_yes HZ.out (fun j hj => HN.out j hj (by omega))))
                            go_wp2
                            go_ret
                            exact ⟨ret_int (by rw [← HR.out, HRR.out]), HT.out⟩
  · have HRR := Lib.hid (chkS_counts (countsB_no1 hA))
    generalize h1 : withinB (S.parts.length : Int) 1 4 = q1
    generalize h3 : withinB (S.slots.length : Int) 1 6 = q3
    have H1 := Lib.hid h1
    have H3 := Lib.hid h3
    have HQ : Hid (q1 = true → S.chans.length ≤ 6 → q3 = false) := by
      intro e1 e2
      subst e1
      cases q3
      · rfl
      · unfold withinB at h1 h3
        simp at h1 h3
        omega
    clear h1 h3 hA
    go_enter Tryd.func11, Tryd.ntmps11
    go_wp2_with fail
    refine (within_any _ _ _ _).mono ?_
    rw [H1.out]
    rintro e w1 ⟨rfl, rfl⟩
    cases q1
    · go_wp2
      go_ret
      exact ⟨ret_int (by rw [← HR.out, HRR.out]), (by repeat (first | exact Below.refl _ _ | assumption | refine Below.drew ?_ | refine Below.alloc ?_ (by first | (simp; done) | (simp; omega)) _ | refine Below.setCell ?_ (by first | (simp; done) | (simp; omega)) _))⟩
    · by_cases h6 : (6 : Int) < S.chans.length
      · go_wp2
        go_ret
        exact ⟨ret_int (by rw [← HR.out, HRR.out]), (by repeat (first | exact Below.refl _ _ | assumption | refine Below.drew ?_ | refine Below.alloc ?_ (by first | (simp; done) | (simp; omega)) _ | refine Below.setCell ?_ (by first | (simp; done) | (simp; omega)) _))⟩
      · have hq := HQ.out rfl (by omega)
        subst hq
        clear HQ
        go_wp2_with fail
        refine (within_any _ _ _ _).mono ?_
        rw [H3.out]
        rintro e w1 ⟨rfl, rfl⟩
        go_wp2
        go_ret
        exact ⟨ret_int (by rw [← HR.out, HRR.out]), (by repeat (first | exact Below.refl _ _ | assumption | refine Below.drew ?_ | refine Below.alloc ?_ (by first | (simp; done) | (simp; omega)) _ | refine Below.setCell ?_ (by first | (simp; done) | (simp; omega)) _))⟩
end Go.Proofs.YtnnnljfdjdehaaaDoor

namespace Go.Proofs.YtnnnljfdjdehaaaDoor
set_option linter.unusedSimpArgs false
set_option linter.unusedVariables false
open Go.RowKit Go.Sort

/-- Whose turn each tick of a frame is. -/
def repL : List Slt → List Int
  | [] => []
  | t :: r => List.replicate t.tk.toNat t.pt ++ repL r
theorem repL_snoc : ∀ (l : List Slt) (t : Slt), repL (l ++ [t]) = repL l ++ List.replicate t.tk.toNat t.pt
  | [], t => by simp [repL]
  | x :: r, t => by rw [List.cons_append, repL, repL, repL_snoc r, List.append_assoc]
theorem repL_len : ∀ (l : List Slt) (e : Int), (∀ t ∈ l, 0 ≤ t.tk) → sumT e l = e + (repL l).length
  | [], e, _ => by simp [sumT, repL]
  | x :: r, e, h => by
    rw [sumT, repL_len r _ (fun t ht => h t (by simp [ht])), repL, List.length_append, List.length_replicate]
    have := h x (by simp)
    omega
theorem ownL_rep : ∀ (l : List Slt) (e who : Int) (x : Nat), (∀ t ∈ l, 0 ≤ t.tk) → (hx : x < (repL l).length) → ownL (e + x) who (turnsL e l) = (repL l)[x]
  | t :: r, e, who, x, h, hx => by
    have h0 := h t (by simp)
    simp only [turnsL, ownL, repL]
    by_cases hlt : x < t.tk.toNat
    · rw [if_pos (by omega), List.getElem_append_left (by simpa using hlt)]
      simp
    · rw [if_neg (by omega), List.getElem_append_right (by simpa using hlt)]
      simp only [repL, List.length_append, List.length_replicate] at hx
      have := ownL_rep r (e + t.tk) t.pt (x - t.tk.toNat) (fun t ht => h t (by simp [ht])) (by omega)
      rw [show e + t.tk + ((x - t.tk.toNat : Nat) : Int) = e + x by omega] at this
      rw [this]
      congr 1
      simp

theorem chkS_zero {S : SysD} (h : chkS S = 0) : countsB S = true ∧ (∀ j (hj : j < S.parts.length), chkC S.parts[j].code = 0) ∧ S.chans.any kindBad = false ∧ placesB S = true ∧ namesB S = true := by
  unfold chkS at h
  split at h
  · omega
  · rename_i h1
    split at h
    · rename_i h2; exact absurd h h2
    · rename_i h2
      split at h
      · omega
      · rename_i h3
        split at h
        · omega
        · rename_i h4
          split at h
          · omega
          · rename_i h5
            exact ⟨by simpa using h1, firstP_zero (by simpa using h2), by simpa using h3, by simpa using h4, by simpa using h5⟩
theorem slots_ok {S : SysD} (h : chkS S = 0) : SlotsOk S.slots ∧ 1 ≤ S.slots.length := by
  obtain ⟨h1, -, -, h4, -⟩ := chkS_zero h
  obtain ⟨hc, -⟩ := countsB_is h1
  refine ⟨⟨hc.2.2.2.2, fun j hj => ?_⟩, hc.2.2.2.1⟩
  unfold placesB at h4
  rw [Bool.and_eq_true, Bool.not_eq_true', Bool.not_eq_true', List.any_eq_false, List.any_eq_false] at h4
  have := h4.2 _ (List.getElem_mem hj)
  unfold slotBad withinB at this
  simp at this
  omega
theorem SlotsOk.nonneg {ts : List Slt} (h : SlotsOk ts) : ∀ t ∈ ts, 0 ≤ t.tk := fun t ht => by
  obtain ⟨j, hj, rfl⟩ := List.getElem_of_mem ht
  have := h.2 j hj; omega
theorem frame_pos {ts : List Slt} (h : SlotsOk ts) (h1 : 1 ≤ ts.length) : 1 ≤ sumT 0 ts ∧ sumT 0 ts ≤ 48 := by
  have := sumT_bd h ts.length (Nat.le_refl _)
  rw [List.take_length] at this
  have := h.1
  omega
/-- What Who tells of a right system. -/
def whoS (S : SysD) (tick : Int) : Int := ownL (tick % sumT 0 S.slots) 0 (turnsL 0 S.slots)

end Go.Proofs.YtnnnljfdjdehaaaDoor

namespace Go.Proofs.YtnnnljfdjdehaaaDoor
set_option linter.unusedSimpArgs false
set_option linter.unusedVariables false
open Go.RowKit Go.Sort

theorem ret2i {a b c d : Int} (h1 : a = b) (h2 : c = d) : Ending.returned (.tuple #[.int .i64 a, .int .i64 c]) = .returned (.tuple #[.int .i64 b, .int .i64 d]) := by rw [h1, h2]

set_option maxHeartbeats 2000000 in
theorem who_any (S : SysD) (vp vc vs : Value) (tick : Int) (w : World) (he : Env w) (hS : Sys w vp vc vs S) (c : Int) (hc : (if chkS S = 0 then (if tick < 0 then 3 else 0) else chkS S) = c) (p : Int) (hp : (if c = 0 then whoS S tick else 0) = p) :
    Calls Tryd.prog 20 #[.agg #[vp, vc, vs], .int .i64 tick] w fun e w' => e = .returned (.tuple #[.int .i64 p, .int .i64 c]) ∧ Below w.heap.size w w' := by
  obtain ⟨pa, pc, rfl⟩ := hS.p.form
  obtain ⟨ca, cc, rfl⟩ := hS.c.form
  obtain ⟨sa, sc, rfl⟩ := hS.s.form
  have HS := Lib.hid hS
  have HC := Lib.hid hc
  have HP := Lib.hid hp
  generalize hz : chkS S = z
  have HZ := Lib.hid hz
  clear hS hc hp hz
  go_enter Tryd.func20, Tryd.ntmps20
  go_wp2_with fail
  refine (confCheck_any S _ _ _ _ (he.up (by repeat (first | exact Below.refl _ _ | assumption | refine Below.drew ?_ | refine Below.alloc ?_ (by first | (simp; done) | (simp; omega)) _ | refine Below.setCell ?_ (by first | (simp; done) | (simp; omega)) _))) (HS.out.up (by repeat (first | exact Below.refl _ _ | assumption | refine Below.drew ?_ | refine Below.alloc ?_ (by first | (simp; done) | (simp; omega)) _ | refine Below.setCell ?_ (by first | (simp; done) | (simp; omega)) _)))).mono ?_
  rw [HZ.out]
  rintro e w1 ⟨rfl, bb⟩
  have hB := (box_new w (.slice pa S.parts.length pc) (.slice ca S.chans.length cc) (.slice sa S.slots.length sc) 26 _ rfl).up bb
  have D := Lib.hid (Below.trans (show Below w.heap.size w _ from (by repeat (first | exact Below.refl _ _ | assumption | refine Below.drew ?_ | refine Below.alloc ?_ (by first | (simp; done) | (simp; omega)) _ | refine Below.setCell ?_ (by first | (simp; done) | (simp; omega)) _))) (bb.mono (by simp)))
  have HB := Lib.hid hB
  have k2 := HB.out.s
  clear bb hB
  by_cases h0 : z = 0
  · subst h0
    by_cases ht : tick < 0
    · obtain rfl : 3 = c := by have := HC.out; rw [HZ.out, if_pos rfl, if_pos ht] at this; exact this
      obtain rfl : 0 = p := HP.out
      go_wp2
      go_ret2
      exact ⟨rfl, D.out⟩
    · obtain rfl : 0 = c := by have := HC.out; rw [HZ.out, if_pos rfl, if_neg ht] at this; exact this
      have HPP : Hid (ownL (tick % sumT 0 S.slots) 0 (turnsL 0 S.slots) = p) := HP.out
      have hok := slots_ok HZ.out
      have hfp := frame_pos hok.1 hok.2
      generalize hfr : sumT 0 S.slots = fr
      have HFR := Lib.hid hfr
      rw [hfr] at hfp
      have hf1 : 1 ≤ fr := hfp.1
      have hf2 : fr ≤ 48 := hfp.2
      have ht0 : 0 ≤ tick := by omega
      have hne : (fr == 0) = false := by simp; omega
      have HO := Lib.hid hok
      clear hfr hfp hok HP HC ht
      go_wp2
      go_region_with (first | (go_at_call 44; refine (frame_any S.slots _ _ HO.out.1 HO.out.2 ((HS.out.s.up D.out).up (by repeat (first | exact Below.refl _ _ | assumption | refine Below.drew ?_ | refine Below.alloc ?_ (by first | (simp; done) | (simp; omega)) _ | refine Below.setCell ?_ (by first | (simp; done) | (simp; omega)) _)))).mono ?_; rw [HFR.out]; rintro e w2 ⟨rfl, bb0⟩; have bb : Below w1.heap.size w1 w2 := Below.trans (by repeat (first | exact Below.refl _ _ | assumption | refine Below.drew ?_ | refine Below.alloc ?_ (by first | (simp; done) | (simp; omega)) _ | refine Below.setCell ?_ (by first | (simp; done) | (simp; omega)) _)) (bb0.mono (by simp)); clear bb0; have k2' := (HB.out.up bb).s; have D2 := Lib.hid (D.out.trans (bb.mono D.out.size)); clear bb) | (go_at_call 43; refine (owner_any S.slots _ _ _ HO.out.1 HO.out.2 ((HS.out.s.up D2.out).up (by repeat (first | exact Below.refl _ _ | assumption | refine Below.drew ?_ | refine Below.alloc ?_ (by first | (simp; done) | (simp; omega)) _ | refine Below.setCell ?_ (by first | (simp; done) | (simp; omega)) _)))).mono ?_; rintro e w3 ⟨rfl, bb0⟩; have bb : Below w2.heap.size w2 w3 := Below.trans (by repeat (first | exact Below.refl _ _ | assumption | refine Below.drew ?_ | refine Below.alloc ?_ (by first | (simp; done) | (simp; omega)) _ | refine Below.setCell ?_ (by first | (simp; done) | (simp; omega)) _)) (bb0.mono (by simp)); clear bb0; have D3 := Lib.hid (D2.out.trans (bb.mono D2.out.size)); clear bb))
      all_goals go_wp2
      all_goals go_ret2
      all_goals exact ⟨ret2i (show ownL (tick % fr) 0 (turnsL 0 S.slots) = p by rw [← HPP.out, HFR.out]) rfl, D3.out⟩
  · have hz' : (z != 0) = true := by simpa using h0
    obtain rfl : z = c := by have := HC.out; rw [HZ.out, if_neg h0] at this; exact this
    obtain rfl : 0 = p := by have := HP.out; rw [if_neg h0] at this; exact this
    clear h0
    go_wp2
    go_ret2
    exact ⟨rfl, D.out⟩

theorem whoS_rep {S : SysD} (hok : SlotsOk S.slots) (h1 : 1 ≤ S.slots.length) {tick : Int} (ht : 0 ≤ tick) : ∃ x : Nat, (x : Int) = tick % sumT 0 S.slots ∧ ∃ hx : x < (repL S.slots).length, (repL S.slots)[x] = whoS S tick := by
  have hp := frame_pos hok h1
  have hl := repL_len S.slots 0 hok.nonneg
  have ha := Int.emod_nonneg tick (show sumT 0 S.slots ≠ 0 by omega)
  have hb := Int.emod_lt_of_pos tick (show 0 < sumT 0 S.slots by omega)
  refine ⟨(tick % sumT 0 S.slots).toNat, by omega, by omega, ?_⟩
  have := ownL_rep S.slots 0 0 (tick % sumT 0 S.slots).toNat hok.nonneg (by omega)
  rw [← this]
  unfold whoS
  congr 1
  omega

end Go.Proofs.YtnnnljfdjdehaaaDoor

namespace Go.Proofs.YtnnnljfdjdehaaaDoor
set_option linter.unusedSimpArgs false
set_option linter.unusedVariables false
open Go.RowKit Go.Sort

/-- What is served. -/
def servR (kind : Int) (l : List Int) (x : Wnt) : List Int × Int × Bool := if x.k = 12 then ((putR kind l x.val).1, 0, (putR kind l x.val).2) else getR kind l
set_option maxRecDepth 100000 in
set_option maxHeartbeats 8000000 in
theorem kserve_any (kind : Int) (l : List Int) (v : Value) (x : Wnt) (w : World) (hS : Sl w 1 v l.length (ints l)) (hc : chkL kind l.length = 0) (zs : List Int) (n : Int) (t : Bool) (hz : servR kind l x = (zs, n, t)) :
    Calls Tryd.prog 63 #[.int .i64 kind, .agg #[v], .agg x.cs] w fun e w' => ∃ v', e = .returned (.tuple #[.agg #[v'], .int .i64 n, .bool t]) ∧ SlN w w' v' zs.length (ints zs) ∧ Below w.heap.size w w' := by
  obtain ⟨ao, cap, rfl⟩ := hS.form
  have HS := Lib.hid hS
  by_cases hk : x.k = 12
  · obtain ⟨⟨zs', t'⟩, hp⟩ : ∃ r, putR kind l x.val = r := ⟨_, rfl⟩
    have hz' : zs' = zs ∧ 0 = n ∧ t' = t := by
      unfold servR at hz
      rw [if_pos hk, hp] at hz
      injection hz with h1 h2
      injection h2 with h2 h3
      exact ⟨h1, h2, h3⟩
    obtain ⟨rfl, rfl, rfl⟩ := hz'
    have HP := Lib.hid fun w hS => put_c kind l (.slice ao l.length cap) x.val w hS 0 hc zs' t' hp
    have hk' : (x.k == 12) = true := by simpa using hk
    clear hS hc hz hp hk
    unfold Wnt.cs
    go_enter Tryd.func63, Tryd.ntmps63
    go_wp2_with fail
    refine (HP.out _ (HS.out.up (by repeat (first | exact Below.refl _ _ | assumption | refine Below.drew ?_ | refine Below.alloc ?_ (by first | (simp; done) | (simp; omega)) _ | refine Below.setCell ?_ (by first | (simp; done) | (simp; omega)) _)))).mono ?_
    rintro e w1 ⟨v', rfl, hN, b1⟩
    have z1 := b1.size
    simp at z1
    obtain ⟨a1, c1, rfl⟩ := hN.1.form
    have R2 : Rw w1 (w.heap.size + 1 + 1) 65 #[.slice none 0 0] := Rw.up (by repeat (first | exact Rw.new _ _ _ (by first | rfl | (simp; done) | omega | (simp; omega)) | refine Rw.alloc ?_ _)) b1 (by first | omega | (simp; done) | (simp; omega))
    have q2 := R2.cell (j := 0) (v := .slice none 0 0) rfl
    have f2 := R2.fr 0
    have HD : Hid (Below w.heap.size w w1) := by
      refine Below.trans ?_ (b1.mono (by first | omega | (simp; done) | (simp; omega)))
      exact (by repeat (first | exact Below.refl _ _ | assumption | refine Below.drew ?_ | refine Below.alloc ?_ (by first | (simp; done) | (simp; omega)) _ | refine Below.setCell ?_ (by first | (simp; done) | (simp; omega)) _))
    have HN := Lib.hid hN
    have hlt2 : w.heap.size + 1 + 1 < w1.heap.size := by omega
    have hne2 : w.heap.size + 1 + 1 ≠ w1.heap.size := by omega
    clear b1 hN R2 HP
    go_wp2
    have HS2 : Hid (SlN w ((w1.setCell ⟨w.heap.size + 1 + 1, 0, none⟩ (.slice a1 zs'.length c1)).alloc (.cells #[.slice a1 zs'.length c1] 65)) (.slice a1 zs'.length c1) zs'.length (ints zs')) := by
      refine ⟨Sl.up (HN.out.1.set _ (fun e => by have := HN.out.2 _ e; simp at this; omega)) ((Below.refl _ _).alloc (Nat.le_refl _) _), fun k e => by have := HN.out.2 k e; simp at this; omega⟩
    have HD2 : Hid (Below w.heap.size w ((w1.setCell ⟨w.heap.size + 1 + 1, 0, none⟩ (.slice a1 zs'.length c1)).alloc (.cells #[.slice a1 zs'.length c1] 65))) :=
      Below.alloc (HD.out.setCell (p := ⟨w.heap.size + 1 + 1, 0, none⟩) (by simp; omega) _) (by rw [size_set]; omega) _
    clear HN HD
    have c2 : ((w1.setCell ⟨w.heap.size + 1 + 1, 0, none⟩ (.slice a1 zs'.length c1)).alloc (.cells #[.slice a1 zs'.length c1] 65)).cell? ⟨w.heap.size + 1 + 1, 0, none⟩ = some (.slice a1 zs'.length c1) := by
      rw [World.cell?_alloc_lt _ _ _ (by simp; omega)]
      exact World.cell?_setCell_same _ _ _ q2
    clear q2 f2 hlt2 hne2
    refine bodyPost_ret (v := .tuple #[.agg #[.slice a1 zs'.length c1], .int .i64 0, .bool t']) ?_ rfl ⟨_, rfl, HS2.out, HD2.out⟩
    simp [results, Tryd.results63, go_sem, *]
  · obtain ⟨⟨zs', n', t'⟩, hp⟩ : ∃ r, getR kind l = r := ⟨_, rfl⟩
    have hz' : zs' = zs ∧ n' = n ∧ t' = t := by
      unfold servR at hz
      rw [if_neg hk, hp] at hz
      injection hz with h1 h2
      injection h2 with h2 h3
      exact ⟨h1, h2, h3⟩
    obtain ⟨rfl, rfl, rfl⟩ := hz'
    have HP := Lib.hid fun w hS => get_c kind l (.slice ao l.length cap) w hS 0 hc zs' n' t' hp
    have hk' : (x.k == 12) = false := by simpa using hk
    clear hS hc hz hp hk
    unfold Wnt.cs
    go_enter Tryd.func63, Tryd.ntmps63
    go_wp2_with fail
    refine (HP.out _ (HS.out.up (by repeat (first | exact Below.refl _ _ | assumption | refine Below.drew ?_ | refine Below.alloc ?_ (by first | (simp; done) | (simp; omega)) _ | refine Below.setCell ?_ (by first | (simp; done) | (simp; omega)) _)))).mono ?_
    rintro e w1 ⟨v', rfl, hN, b1⟩
    have z1 := b1.size
    simp at z1
    obtain ⟨a1, c1, rfl⟩ := hN.1.form
    have R2 : Rw w1 (w.heap.size + 1 + 1) 65 #[.slice none 0 0] := Rw.up (by repeat (first | exact Rw.new _ _ _ (by first | rfl | (simp; done) | omega | (simp; omega)) | refine Rw.alloc ?_ _)) b1 (by first | omega | (simp; done) | (simp; omega))
    have q2 := R2.cell (j := 0) (v := .slice none 0 0) rfl
    have f2 := R2.fr 0
    have HD : Hid (Below w.heap.size w w1) := by
      refine Below.trans ?_ (b1.mono (by first | omega | (simp; done) | (simp; omega)))
      exact (by repeat (first | exact Below.refl _ _ | assumption | refine Below.drew ?_ | refine Below.alloc ?_ (by first | (simp; done) | (simp; omega)) _ | refine Below.setCell ?_ (by first | (simp; done) | (simp; omega)) _))
    have HN := Lib.hid hN
    have hlt2 : w.heap.size + 1 + 1 < w1.heap.size := by omega
    have hne2 : w.heap.size + 1 + 1 ≠ w1.heap.size := by omega
    clear b1 hN R2 HP
    go_wp2
    have HS2 : Hid (SlN w ((w1.setCell ⟨w.heap.size + 1 + 1, 0, none⟩ (.slice a1 zs'.length c1)).alloc (.cells #[.slice a1 zs'.length c1] 65)) (.slice a1 zs'.length c1) zs'.length (ints zs')) := by
      refine ⟨Sl.up (HN.out.1.set _ (fun e => by have := HN.out.2 _ e; simp at this; omega)) ((Below.refl _ _).alloc (Nat.le_refl _) _), fun k e => by have := HN.out.2 k e; simp at this; omega⟩
    have HD2 : Hid (Below w.heap.size w ((w1.setCell ⟨w.heap.size + 1 + 1, 0, none⟩ (.slice a1 zs'.length c1)).alloc (.cells #[.slice a1 zs'.length c1] 65))) :=
      Below.alloc (HD.out.setCell (p := ⟨w.heap.size + 1 + 1, 0, none⟩) (by simp; omega) _) (by rw [size_set]; omega) _
    clear HN HD
    have c2 : ((w1.setCell ⟨w.heap.size + 1 + 1, 0, none⟩ (.slice a1 zs'.length c1)).alloc (.cells #[.slice a1 zs'.length c1] 65)).cell? ⟨w.heap.size + 1 + 1, 0, none⟩ = some (.slice a1 zs'.length c1) := by
      rw [World.cell?_alloc_lt _ _ _ (by simp; omega)]
      exact World.cell?_setCell_same _ _ _ q2
    clear q2 f2 hlt2 hne2
    refine bodyPost_ret (v := .tuple #[.agg #[.slice a1 zs'.length c1], .int .i64 n', .bool t']) ?_ rfl ⟨_, rfl, HS2.out, HD2.out⟩
    simp [results, Tryd.results63, go_sem, *]
end Go.Proofs.YtnnnljfdjdehaaaDoor

namespace Go.Proofs.YtnnnljfdjdehaaaDoor
set_option linter.unusedSimpArgs false
set_option linter.unusedVariables false
open Go.RowKit Go.Sort

theorem repL_mem : ∀ {l : List Slt} {p : Int}, p ∈ repL l → ∃ t ∈ l, t.pt = p
  | t :: r, p, h => by
    rw [repL, List.mem_append] at h
    rcases h with h | h
    · exact ⟨t, List.mem_cons_self, (List.eq_of_mem_replicate h).symm⟩
    · obtain ⟨t', h1, h2⟩ := repL_mem h
      exact ⟨t', List.mem_cons_of_mem _ h1, h2⟩
theorem who_range {S : SysD} (h : chkS S = 0) {tick : Int} (ht : 0 ≤ tick) : 0 ≤ whoS S tick ∧ whoS S tick < S.parts.length := by
  obtain ⟨hok, h1⟩ := slots_ok h
  obtain ⟨x, _, hx, e⟩ := whoS_rep hok h1 ht
  obtain ⟨t, hm, e2⟩ := repL_mem (List.getElem_mem hx)
  rw [e] at e2
  obtain ⟨-, -, -, h4, -⟩ := chkS_zero h
  unfold placesB at h4
  rw [Bool.and_eq_true, Bool.not_eq_true', Bool.not_eq_true', List.any_eq_false, List.any_eq_false] at h4
  have := h4.2 _ hm
  unfold slotBad withinB at this
  simp at this
  omega
theorem doC_want {i : Ins} {inn xs ys : List Int} {c c' : Cel} {x' : Wnt} (h : doC i inn xs c wntZ = some (c', ys, x')) : x' = wntZ ∨ (i.op = 12 ∧ x' = ⟨12, i.n, i.a, 0, c.reg i.a⟩) ∨ (i.op = 13 ∧ x' = ⟨13, i.n, i.a, i.b, 0⟩) := by
  unfold doC at h
  by_cases h1 : i.op = 1
  · rw [if_pos h1] at h; injection h with h; injection h with _ h; injection h with _ h; subst h; exact .inl rfl
  rw [if_neg h1] at h
  by_cases h2 : i.op = 2
  · rw [if_pos h2] at h; injection h with h; injection h with _ h; injection h with _ h; subst h; exact .inl rfl
  rw [if_neg h2] at h
  by_cases h3 : i.op = 3
  · rw [if_pos h3] at h; injection h with h; injection h with _ h; injection h with _ h; subst h; exact .inl rfl
  rw [if_neg h3] at h
  by_cases h4 : i.op = 4
  · rw [if_pos h4] at h; injection h with h; injection h with _ h; injection h with _ h; subst h; exact .inl rfl
  rw [if_neg h4] at h
  by_cases h5 : i.op = 5
  · rw [if_pos h5] at h; injection h with h; injection h with _ h; injection h with _ h; subst h; exact .inl rfl
  rw [if_neg h5] at h
  by_cases h6 : i.op = 6
  · rw [if_pos h6] at h
    by_cases hm : c.reg i.b < 0 ∨ 8 ≤ c.reg i.b
    · rw [if_pos hm] at h; cases h
    · rw [if_neg hm] at h; injection h with h; injection h with _ h; injection h with _ h; subst h; exact .inl rfl
  rw [if_neg h6] at h
  by_cases h7 : i.op = 7
  · rw [if_pos h7] at h
    by_cases hm : c.reg i.b < 0 ∨ 8 ≤ c.reg i.b
    · rw [if_pos hm] at h; cases h
    · rw [if_neg hm] at h; injection h with h; injection h with _ h; injection h with _ h; subst h; exact .inl rfl
  rw [if_neg h7] at h
  by_cases h8 : i.op = 8
  · rw [if_pos h8] at h; injection h with h; injection h with _ h; injection h with _ h; subst h; exact .inl rfl
  rw [if_neg h8] at h
  by_cases h9 : i.op = 9
  · rw [if_pos h9] at h; injection h with h; injection h with _ h; injection h with _ h; subst h; exact .inl rfl
  rw [if_neg h9] at h
  by_cases h10 : i.op = 10
  · rw [if_pos h10] at h; injection h with h; injection h with _ h; injection h with _ h; subst h; exact .inl rfl
  rw [if_neg h10] at h
  by_cases h11 : i.op = 11
  · rw [if_pos h11] at h; injection h with h; injection h with _ h; injection h with _ h; subst h; exact .inl rfl
  rw [if_neg h11] at h
  by_cases h12 : i.op = 12
  · rw [if_pos h12] at h; injection h with h; injection h with _ h; injection h with _ h; subst h; exact .inr (.inl ⟨h12, rfl⟩)
  rw [if_neg h12] at h
  by_cases h13 : i.op = 13
  · rw [if_pos h13] at h; injection h with h; injection h with _ h; injection h with _ h; subst h; exact .inr (.inr ⟨h13, rfl⟩)
  rw [if_neg h13] at h
  by_cases h14 : i.op = 14
  · rw [if_pos h14] at h; injection h with h; injection h with _ h; injection h with _ h; subst h; exact .inl rfl
  rw [if_neg h14] at h
  injection h with h; injection h with _ h; injection h with _ h; subst h; exact .inl rfl
theorem names_at : ∀ {l : List Chn} {ps : List Prt} {k : Nat}, namesFrom l k ps = true → ∀ j (hj : j < ps.length), nameBad l ((k + j : Nat) : Int) ps[j] = false
  | l, p :: r, k, h, 0, _ => by
    rw [namesFrom] at h
    cases hb : nameBad l k p with
    | true => rw [hb] at h; simp at h
    | false => exact hb
  | l, p :: r, k, h, j + 1, hj => by
    rw [namesFrom] at h
    cases hb : nameBad l k p with
    | true => rw [hb] at h; simp at h
    | false =>
      rw [hb] at h
      have := names_at (l := l) (ps := r) (k := k + 1) (by simpa using h) j (by simpa using hj)
      rw [show k + (j + 1) = k + 1 + j by omega]
      exact this
/-- A want that kern may serve. -/
structure WantOk (S : SysD) (x : Wnt) : Prop where
  k : x.k = 12 ∨ x.k = 13
  c0 : 0 ≤ x.ch
  c1 : x.ch < S.chans.length
  r0 : 0 ≤ x.reg
  r1 : x.reg < 4
  f0 : 0 ≤ x.flag
  f1 : x.flag < 4
theorem chan_named {l : List Ins} {i : Ins} (hi : i ∈ l) {op : Int} (ho : i.op = op) (h0 : 0 ≤ i.n) (h5 : i.n ≤ 5) : i.n ∈ chanL l op 6 := by
  obtain ⟨m, hm⟩ := Int.eq_ofNat_of_zero_le h0
  unfold chanL
  rw [List.mem_map]
  refine ⟨m, ?_, by rw [hm]⟩
  rw [List.mem_filter, List.mem_range]
  refine ⟨by omega, ?_⟩
  unfold hasC
  rw [List.any_eq_true]
  exact ⟨i, hi, by simp [ho, hm]⟩
theorem step_want {S : SysD} (h : chkS S = 0) {p : Nat} (hp : p < S.parts.length) {inn xs : List Int} {c : Cel} (h0 : 0 ≤ c.at_) : (stepC S.parts[p].code inn xs c).2.2 = wntZ ∨ WantOk S (stepC S.parts[p].code inn xs c).2.2 := by
  obtain ⟨-, hc, -, -, hn⟩ := chkS_zero h
  have hcode := hc p hp
  have hnb := names_at (l := S.chans) (k := 0) hn p hp
  unfold nameBad at hnb
  rw [Bool.or_eq_false_iff, List.any_eq_false, List.any_eq_false] at hnb
  have hfe : firstE S.parts[p].code = 0 := by
    unfold chkC at hcode
    split at hcode
    · omega
    · exact hcode
  unfold stepC
  split
  · unfold runC
    split
    · exact .inl rfl
    · rename_i i hi
      have hlt : c.at_.toNat < S.parts[p].code.length := (List.getElem?_eq_some_iff.1 hi).1
      have hmem : i ∈ S.parts[p].code := List.mem_of_getElem? hi
      have hck : i.chk = 0 := by
        have := firstE_zero hfe _ hlt
        rw [(List.getElem?_eq_some_iff.1 hi).2] at this
        exact this
      obtain ⟨hop, ⟨ha0, ha1⟩, ⟨hb0, hb1⟩, hj, hch⟩ := chk0 (op := i.op) (a := i.a) (b := i.b) (n := i.n) hck
      cases hd : doC i inn xs c wntZ with
      | none => exact .inl rfl
      | some r =>
        obtain ⟨c', ys, x'⟩ := r
        rcases doC_want hd with e | ⟨ho, e⟩ | ⟨ho, e⟩
        · exact .inl e
        · right
          have hn5 := hch (.inl ho)
          have hb := hnb.1 _ (chan_named hmem ho hn5.1 hn5.2)
          have hl : i.n.toNat < S.chans.length := by
            unfold putBad at hb
            split at hb
            · simp at hb
            · rename_i y hy; exact (List.getElem?_eq_some_iff.1 hy).1
          subst e
          exact ⟨.inl rfl, hn5.1, by simp only [Option.getD_some]; omega, ha0, ha1, Int.le_refl _, by simp only [Option.getD_some]; omega⟩
        · right
          have hn5 := hch (.inr ho)
          have hb := hnb.2 _ (chan_named hmem ho hn5.1 hn5.2)
          have hl : i.n.toNat < S.chans.length := by
            unfold getBad at hb
            split at hb
            · simp at hb
            · rename_i y hy; exact (List.getElem?_eq_some_iff.1 hy).1
          subst e
          exact ⟨.inr rfl, hn5.1, by simp only [Option.getD_some]; omega, ha0, ha1, hb0, hb1⟩
  · exact .inl rfl
end Go.Proofs.YtnnnljfdjdehaaaDoor

namespace Go.Proofs.YtnnnljfdjdehaaaDoor
set_option linter.unusedSimpArgs false
set_option linter.unusedVariables false
open Go.RowKit Go.Sort

/-- The world one tick later. -/
def nextC (S : SysD) (D : WldD) : WldD :=
  match S.parts[(whoS S D.tick).toNat]?, D.cells[(whoS S D.tick).toNat]? with
  | some P, some d =>
    if (stepC P.code P.inn d.out d.c).2.2.k = 0 then ⟨D.tick + 1, D.cells.set (whoS S D.tick).toNat ⟨(stepC P.code P.inn d.out d.c).1, (stepC P.code P.inn d.out d.c).2.1⟩, D.lines⟩
    else match S.chans[(stepC P.code P.inn d.out d.c).2.2.ch.toNat]?, D.lines[(stepC P.code P.inn d.out d.c).2.2.ch.toNat]? with
      | some ch, some ln => ⟨D.tick + 1, D.cells.set (whoS S D.tick).toNat ⟨(stepC P.code P.inn d.out d.c).1.replied (stepC P.code P.inn d.out d.c).2.2.k (stepC P.code P.inn d.out d.c).2.2.reg (stepC P.code P.inn d.out d.c).2.2.flag ch.kd (servR ch.kd ln (stepC P.code P.inn d.out d.c).2.2).2.1 (servR ch.kd ln (stepC P.code P.inn d.out d.c).2.2).2.2, (stepC P.code P.inn d.out d.c).2.1⟩, D.lines.set (stepC P.code P.inn d.out d.c).2.2.ch.toNat (servR ch.kd ln (stepC P.code P.inn d.out d.c).2.2).1⟩
      | _, _ => D
  | _, _ => D
/-- On the way: o the new row of what was told, g8 the new cell, g9 the new want. -/
structure Nx (X W : World) (ov : Option Value) (g8 g9 : Option Nat) (out : List Int) : Prop where
  d : Below X.heap.size X W
  o : ∀ v, ov = some v → W.ownsRow X.heap.size 3 1 v out.length (ints out)
  g : ∀ g, g8 = some g → Rw W g 62 (celZ.cs (.slice none 0 0)) ∧ X.heap.size ≤ g ∧ ∀ v, ov = some v → v.ownBlock ≠ some g
  h : ∀ g, g9 = some g → Rw W g 110 wntZ.cs ∧ X.heap.size ≤ g ∧ ∀ v, ov = some v → v.ownBlock ≠ some g
  ne : ∀ g g', g8 = some g → g9 = some g' → g ≠ g'
section
variable {X W W' : World} {o : Option Value} {g8 g9 : Option Nat} {out : List Int}
theorem Nx.begin (X : World) (out : List Int) : Nx X X.drew none none none out := ⟨(Below.refl _ _).drew, by simp, by simp, by simp, by simp⟩
theorem Nx.up (h : Nx X W o g8 g9 out) (hb : Below W.heap.size W W') : Nx X W' o g8 g9 out where
  d := h.d.trans (hb.mono h.d.size)
  o := fun v q => own_up (h.o v q) hb (own_lt (h.o v q))
  g := fun g q => ⟨(h.g g q).1.up hb (h.g g q).1.lt, (h.g g q).2⟩
  h := fun g q => ⟨(h.h g q).1.up hb (h.h g q).1.lt, (h.h g q).2⟩
  ne := h.ne
theorem Nx.eight (h : Nx X W o none g9 out) {g : Nat} (hg : g = W.heap.size) : Nx X (W.alloc (.cells (celZ.cs (.slice none 0 0)) 62)) o (some g) g9 out :=
  have k := h.up ((Below.refl _ _).alloc (Nat.le_refl _) (.cells (celZ.cs (.slice none 0 0)) 62))
  ⟨k.d, k.o, fun g' q => by
    injection q with q
    subst q
    exact ⟨Rw.new _ _ _ hg, by rw [hg]; exact h.d.size, fun v q e => by have := own_lt (h.o v q) _ e; omega⟩, k.h, fun a b q q' => by
    injection q with q
    have := (h.h b q').1.lt
    omega⟩
theorem Nx.nine (h : Nx X W o g8 none out) {g : Nat} (hg : g = W.heap.size) : Nx X (W.alloc (.cells wntZ.cs 110)) o g8 (some g) out :=
  have k := h.up ((Below.refl _ _).alloc (Nat.le_refl _) (.cells wntZ.cs 110))
  ⟨k.d, k.o, k.g, fun g' q => by
    injection q with q
    subst q
    exact ⟨Rw.new _ _ _ hg, by rw [hg]; exact h.d.size, fun v q e => by have := own_lt (h.o v q) _ e; omega⟩, fun a b q q' => by
    injection q' with q'
    have := (h.g a q).1.lt
    omega⟩
theorem Nx.call (h : Nx X W none g8 g9 out) {v : Value} (ho : W'.ownsRow W.heap.size 3 1 v out.length (ints out)) (hb : Below W.heap.size W W') : Nx X W' (some v) g8 g9 out :=
  have k := h.up hb
  have hv : ∀ g, v.ownBlock = some g → W.heap.size ≤ g := own_block ho
  ⟨k.d, fun v' q => by injection q with q; subst q; exact own_low ho h.d.size, fun g q => ⟨(k.g g q).1, (k.g g q).2.1, fun v' q' e => by injection q' with q'; subst q'; have := hv g e; have := (h.g g q).1.lt; omega⟩,
    fun g q => ⟨(k.h g q).1, (k.h g q).2.1, fun v' q' e => by injection q' with q'; subst q'; have := hv g e; have := (h.h g q).1.lt; omega⟩, h.ne⟩
/-- Behind it: both are stored. -/
structure Nd (X W : World) (g8 g9 : Nat) (c : Cel) (v : Value) (x : Wnt) (out : List Int) : Prop where
  d : Below X.heap.size X W
  r8 : Rw W g8 62 (c.cs v)
  r9 : Rw W g9 110 x.cs
  s : Sl W 1 v out.length (ints out)
  n : ∀ b, v.ownBlock = some b → X.heap.size ≤ b ∧ b < W.heap.size ∧ b ≠ g8 ∧ b ≠ g9
  n8 : X.heap.size ≤ g8
  n9 : X.heap.size ≤ g9
  ne : g8 ≠ g9
theorem Nx.done {v : Value} {a b : Nat} (h : Nx X W (some v) (some a) (some b) out) (c : Cel) (x : Wnt) : Nd X ((W.setRow a (c.cs v)).setRow b x.cs) a b c v x out := by
  have hne := h.ne a b rfl rfl
  obtain ⟨ra, na, ea⟩ := h.g a rfl
  obtain ⟨rb, nb, eb⟩ := h.h b rfl
  have ho := h.o v rfl
  refine ⟨below_row (below_row h.d na _) nb _, (ra.row _).row_other _ hne, Rw.row (rb.row_other _ (Ne.symm hne)) _, ((own_sl ho).row _ (ea v rfl)).row _ (eb v rfl), fun k e => ⟨own_block ho k e, by simpa using own_lt ho k e, fun e' => ea v rfl (e' ▸ e), fun e' => eb v rfl (e' ▸ e)⟩, na, nb, hne⟩
end
end Go.Proofs.YtnnnljfdjdehaaaDoor

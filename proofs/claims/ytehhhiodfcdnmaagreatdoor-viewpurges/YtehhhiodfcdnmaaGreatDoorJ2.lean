/- The reference's CheckSystem answers as conf.Check does. -/
import Derived.Test.YtehhhiodfcdnmaaGreatDoorJ1
import Derived.Test.YtehhhiodfcdnmaaGreatDoorJ0
import Derived.Laws.Rows
namespace Go.Proofs.YtehhhiodfcdnmaaGreatDoor
set_option linter.unusedSimpArgs false
set_option linter.unusedVariables false
open Go.RowKit Go.Sort
set_option maxRecDepth 100000 in
set_option maxHeartbeats 8000000 in
theorem sysRef_any (S : SysD) (hok : S.ok) (vp vc vs : Value) (w : World) (hS : Sys w vp vc vs S) : Calls Tryz.prog 33 #[.agg #[vp, vc, vs]] w fun e w' => e = .returned (.int .i64 (chkS S)) ∧ Below w.heap.size w w' := by
  generalize hr : chkS S = r
  have HR := Lib.hid hr
  obtain ⟨pa, pc, rfl⟩ := hS.p.form
  obtain ⟨ca, cc, rfl⟩ := hS.c.form
  obtain ⟨sa, sc, rfl⟩ := hS.s.form
  have HS := Lib.hid hS
  have HOK : Hid (∀ k (hk : k < S.parts.length) j (hj : j < S.parts[k].code.length), S.parts[k].code[j].ok) := fun k hk => hok _ (List.getElem_mem hk)
  clear hS hr hok
  by_cases hA : 1 ≤ S.parts.length ∧ S.parts.length ≤ 4 ∧ S.chans.length ≤ 6 ∧ 1 ≤ S.slots.length ∧ S.slots.length ≤ 6
  · have H1 : Hid (withinB (S.parts.length : Int) 1 4 = true) := by show withinB _ _ _ = _; unfold withinB; simp; omega
    have H2 : ¬ (6 : Int) < (S.chans.length : Int) := by omega
    have H3 : Hid (withinB (S.slots.length : Int) 1 6 = true) := by show withinB _ _ _ = _; unfold withinB; simp; omega
    have HA := Lib.hid hA
    have hn1 : S.parts.length ≤ 4 := hA.2.1
    have hn2 : S.chans.length ≤ 6 := hA.2.2.1
    have hn3 : S.slots.length ≤ 6 := hA.2.2.2.2
    obtain ⟨pb, po, pc', e1, hpc, hpb, hpp⟩ := HS.out.p.open (by omega)
    cases e1
    have HP := Lib.hid hpp
    clear hA hpp
    go_enter Tryz.func33, Tryz.ntmps33
    go_wp2_with fail
    refine (within_any _ _ _ _).mono ?_
    rw [H1.out]
    rintro e w1 ⟨rfl, rfl⟩
    go_wp2_with fail
    refine (within_any _ _ _ _).mono ?_
    rw [H3.out]
    rintro e w1 ⟨rfl, rfl⟩
    go_wp2
    go_loopw [4] (fun i wr => ∃ k : Nat, i = .int .i64 k ∧ k ≤ S.parts.length ∧ Hid (∀ j (h : j < S.parts.length), j < k → S.parts[j].inn.length ≤ 12) ∧ Hid (Box wr w.heap.size (.slice (some ⟨pb, po, none⟩) S.parts.length pc) (.slice ca S.chans.length cc) (.slice sa S.slots.length sc)) ∧ Hid (Below w.heap.size w wr)) (fun i _ => S.parts.length - (intOf i).toNat)
    case atStart => exact ⟨0, rfl, Nat.zero_le _, fun j hj h => by omega, box_new w _ _ _ _ _ rfl, (by repeat (first | exact Below.refl _ _ | assumption | refine Below.drew ?_ | refine Below.alloc ?_ (by first | (simp; done) | (simp; omega)) _ | refine Below.setCell ?_ (by first | (simp; done) | (simp; omega)) _))⟩
    case round =>
      obtain ⟨k, rfl, hk, HN, HB, HT⟩ := hrel
      by_cases hlt : k < S.parts.length
      · have hli : (k : Int) < S.parts.length := by omega
        obtain ⟨c, i, c0, c1, hpr⟩ := HP.out k hlt
        obtain ⟨a2, b2, rfl⟩ := hpr.inn.form
        have c1 := bcl HT.out hpb c1
        have k0 := HB.out.p
        clear hpr c0
        by_cases h12 : 12 < S.parts[k].inn.length
        · have h12' : (12 : Int) < S.parts[k].inn.length := by omega
          have HRR := Lib.hid (chkS_counts (countsB_no2 hlt h12))
          go_wp2
          go_ret
          exact ⟨ret_int (by rw [← HR.out, HRR.out]), HT.out⟩
        · have h12' : ¬ (12 : Int) < S.parts[k].inn.length := by omega
          go_wp2
          go_roundw
          case rel => exact ⟨k + 1, by go_num, by omega, (fun j hj hjk => by
            by_cases e : j = k
            · subst e; omega
            · exact HN.out j hj (by omega)), HB, HT⟩
          case measure => simp [intOf]; omega
      · have hli : ¬ (k : Int) < S.parts.length := by omega
        have HC := Lib.hid (countsB_mk HA.out (fun j hj => HN.out j hj (by omega)))
        clear HN hk hlt
        go_wp2
        go_loopw [5] (fun i wr => ∃ k : Nat, i = .int .i64 k ∧ k ≤ S.parts.length ∧ Hid (∀ j (h : j < S.parts.length), j < k → chkC S.parts[j].code = 0) ∧ Hid (Box wr w.heap.size (.slice (some ⟨pb, po, none⟩) S.parts.length pc) (.slice ca S.chans.length cc) (.slice sa S.slots.length sc)) ∧ Hid (Below w.heap.size w wr)) (fun i _ => S.parts.length - (intOf i).toNat)
        case atStart => exact ⟨0, rfl, Nat.zero_le _, fun j hj h => by omega, HB, HT⟩
        case round =>
          clear HB HT hli
          obtain ⟨k, rfl, hk, HN, HB, HT⟩ := hrel
          by_cases hlt : k < S.parts.length
          · have hli : (k : Int) < S.parts.length := by omega
            obtain ⟨c, i, c0, c1, hpr⟩ := HP.out k hlt
            obtain ⟨a2, b2, rfl⟩ := hpr.code.form
            have c0 := bcl HT.out hpb c0
            have k0 := HB.out.p
            have HPR := Lib.hid hpr
            clear hpr c1
            generalize hcz : chkC S.parts[k].code = z
            have HCZ := Lib.hid hcz
            clear hcz
            go_wp2_with fail
            refine (codeRef_any S.parts[k].code (HOK.out k hlt) _ _ (HPR.out.code.up HT.out)).mono ?_
            rw [HCZ.out]
            rintro e w2 ⟨rfl, bb⟩
            have HT2 := Lib.hid (HT.out.trans (bb.mono HT.out.size))
            have HB2 := Lib.hid (HB.out.up bb)
            clear bb c0 k0 HB HT
            by_cases hz : z = 0
            · subst hz
              go_wp2
              go_roundw
              case rel => exact ⟨k + 1, by go_num, by omega, (fun j hj hjk => by
                by_cases e : j = k
                · subst e; exact HCZ.out
                · exact HN.out j hj (by omega)), HB2, HT2⟩
              case measure => simp [intOf]; omega
            · have hz' : (z != 0) = true := by simpa using hz
              have HRR := Lib.hid (chkS_code HC.out hlt HN.out HCZ.out hz)
              clear hz
              go_wp2
              go_ret
              exact ⟨ret_int (by rw [← HR.out, HRR.out]), HT2.out⟩
          · have hli : ¬ (k : Int) < S.parts.length := by omega
            have HZ : Hid (∀ j (hj : j < S.parts.length), chkC S.parts[j].code = 0) := fun j hj => HN.out j hj (by omega)
            have k1 := HB.out.c
            clear HN hk hlt
            go_wp2
            go_loopw [7] (fun i wr => ∃ k : Nat, i = .int .i64 k ∧ k ≤ S.chans.length ∧ Hid ((S.chans.take k).any kindBad = false) ∧ Hid (Box wr w.heap.size (.slice (some ⟨pb, po, none⟩) S.parts.length pc) (.slice ca S.chans.length cc) (.slice sa S.slots.length sc)) ∧ Hid (Below w.heap.size w wr)) (fun i _ => S.chans.length - (intOf i).toNat)
            case atStart => exact ⟨0, rfl, Nat.zero_le _, (show (S.chans.take 0).any kindBad = false by simp), HB, HT⟩
            case round =>
              clear HB HT hli k1
              obtain ⟨k, rfl, hk, HN, HB, HT⟩ := hrel
              have k1 := HB.out.c
              by_cases hlt : k < S.chans.length
              · have hli : (k : Int) < S.chans.length := by omega
                obtain ⟨b, off, cap', e1, hcap, hbw, hc⟩ := HS.out.c.open (by omega)
                cases e1
                obtain ⟨c0, c1, c2⟩ := chan_cells hc k hlt
                have c0 := bcl HT.out hbw c0
                clear hc c1 c2
                generalize hq : (S.chans[k].kd == 1 || S.chans[k].kd == 2) = q
                have HK : Hid (kindBad S.chans[k] = !q) := by show kindBad _ = _; unfold kindBad; rw [← hq]; simp [bne]
                have HQ := Lib.hid hq
                clear hq
                go_wp2_with fail
                refine (kindRef_any _ _).mono ?_
                rw [HQ.out]
                rintro e w2 ⟨rfl, rfl⟩
                cases q
                · have HRR := Lib.hid (chkS_kind HC.out HZ.out (any_mem hlt HK.out))
                  go_wp2
                  go_ret
                  exact ⟨ret_int (by rw [← HR.out, HRR.out]), HT.out⟩
                · have HN2 := Lib.hid (any_take hlt HN.out HK.out)
                  go_wp2
                  go_roundw
                  case rel => exact ⟨k + 1, by go_num, by omega, HN2, HB, HT⟩
                  case measure => simp [intOf]; omega
              · have hli : ¬ (k : Int) < S.chans.length := by omega
                have HKB := Lib.hid (any_all hlt HN.out)
                clear HN hk hlt
                go_wp2
                go_loopw [8] (fun i wr => ∃ k : Nat, i = .int .i64 k ∧ k ≤ S.chans.length ∧ Hid ((S.chans.take k).any (placeBad S.parts.length) = false) ∧ Hid (Box wr w.heap.size (.slice (some ⟨pb, po, none⟩) S.parts.length pc) (.slice ca S.chans.length cc) (.slice sa S.slots.length sc)) ∧ Hid (Below w.heap.size w wr)) (fun i _ => S.chans.length - (intOf i).toNat)
                case atStart => exact ⟨0, rfl, Nat.zero_le _, (show (S.chans.take 0).any (placeBad S.parts.length) = false by simp), HB, HT⟩
                case round =>
                  clear HB HT hli k1
                  obtain ⟨k, rfl, hk, HN, HB, HT⟩ := hrel
                  have k1 := HB.out.c
                  by_cases hlt : k < S.chans.length
                  · have hli : (k : Int) < S.chans.length := by omega
                    obtain ⟨b, off, cap', e1, hcap, hbw, hc⟩ := HS.out.c.open (by omega)
                    cases e1
                    obtain ⟨c0, c1, c2⟩ := chan_cells hc k hlt
                    have c0 := bcl HT.out hbw c0
                    have c1 := bcl HT.out hbw c1
                    have c2 := bcl HT.out hbw c2
                    clear hc
                    generalize h1 : withinB S.chans[k].fr 0 ((S.parts.length : Int) - 1) = q1
                    generalize h2 : withinB S.chans[k].tt 0 ((S.parts.length : Int) - 1) = q2
                    generalize h3 : (S.chans[k].fr == S.chans[k].tt) = q3
                    have HK : Hid (placeBad S.parts.length S.chans[k] = (!q1 || !q2 || q3)) := by show placeBad _ _ = _; unfold placeBad; rw [h1, h2, h3]
                    have H1 := Lib.hid h1
                    have H2 := Lib.hid h2
                    clear h1 h2
                    have HT2 : Hid (Below w.heap.size w (wr.alloc (.cells #[.int .i64 S.chans[k].kd, .int .i64 S.chans[k].fr, .int .i64 S.chans[k].tt] 89))) := HT.out.alloc HT.out.size _
                    have HB2 := Lib.hid (HB.out.up (w' := wr.alloc (.cells #[.int .i64 S.chans[k].kd, .int .i64 S.chans[k].fr, .int .i64 S.chans[k].tt] 89)) ((Below.refl _ _).alloc (Nat.le_refl _) _))
                    go_wp2_with fail
                    refine (within_any _ _ _ _).mono ?_
                    rw [H1.out]
                    rintro e w2 ⟨rfl, rfl⟩
                    cases q1
                    · have HRR := Lib.hid (chkS_places HC.out HZ.out HKB.out (placesB_no1 (any_mem hlt HK.out)))
                      go_wp2
                      go_ret
                      exact ⟨ret_int (by rw [← HR.out, HRR.out]), HT2.out⟩
                    · go_wp2_with fail
                      refine (within_any _ _ _ _).mono ?_
                      rw [H2.out]
                      rintro e w2 ⟨rfl, rfl⟩
                      cases q2
                      · have HRR := Lib.hid (chkS_places HC.out HZ.out HKB.out (placesB_no1 (any_mem hlt HK.out)))
                        go_wp2
                        go_ret
                        exact ⟨ret_int (by rw [← HR.out, HRR.out]), HT2.out⟩
                      · cases q3
                        · have HN2 := Lib.hid (any_take hlt HN.out HK.out)
                          go_wp2
                          go_roundw
                          case rel => exact ⟨k + 1, by go_num, by omega, HN2, HB2, HT2⟩
                          case measure => simp [intOf]; omega
                        · have HRR := Lib.hid (chkS_places HC.out HZ.out HKB.out (placesB_no1 (any_mem hlt HK.out)))
                          go_wp2
                          go_ret
                          exact ⟨ret_int (by rw [← HR.out, HRR.out]), HT2.out⟩
                  · have hli : ¬ (k : Int) < S.chans.length := by omega
                    have HPB := Lib.hid (any_all hlt HN.out)
                    have k2 := HB.out.s
                    clear HN hk hlt
                    go_wp2
                    go_loopw [10] (fun i wr => ∃ k : Nat, i = .int .i64 k ∧ k ≤ S.slots.length ∧ Hid ((S.slots.take k).any (slotBad S.parts.length) = false) ∧ Hid (Box wr w.heap.size (.slice (some ⟨pb, po, none⟩) S.parts.length pc) (.slice ca S.chans.length cc) (.slice sa S.slots.length sc)) ∧ Hid (Below w.heap.size w wr)) (fun i _ => S.slots.length - (intOf i).toNat)
                    case atStart => exact ⟨0, rfl, Nat.zero_le _, (show (S.slots.take 0).any (slotBad S.parts.length) = false by simp), HB, HT⟩
                    case round =>
                      clear HB HT hli k1 k2
                      obtain ⟨k, rfl, hk, HN, HB, HT⟩ := hrel
                      have k2 := HB.out.s
                      by_cases hlt : k < S.slots.length
                      · have hli : (k : Int) < S.slots.length := by omega
                        obtain ⟨b, off, cap', e1, hcap, hbw, hc⟩ := HS.out.s.open (by omega)
                        cases e1
                        obtain ⟨c0, c1⟩ := slot_cells hc k hlt
                        have c0 := bcl HT.out hbw c0
                        have c1 := bcl HT.out hbw c1
                        clear hc
                        generalize h1 : withinB S.slots[k].pt 0 ((S.parts.length : Int) - 1) = q1
                        generalize h2 : withinB S.slots[k].tk 1 8 = q2
                        have HK : Hid (slotBad S.parts.length S.slots[k] = (!q1 || !q2)) := by show slotBad _ _ = _; unfold slotBad; rw [h1, h2]
                        have H1 := Lib.hid h1
                        have H2 := Lib.hid h2
                        clear h1 h2
                        go_wp2_with fail
                        refine (within_any _ _ _ _).mono ?_
                        rw [H1.out]
                        rintro e w2 ⟨rfl, rfl⟩
                        cases q1
                        · have HRR := Lib.hid (chkS_places HC.out HZ.out HKB.out (placesB_no2 (any_mem hlt HK.out)))
                          go_wp2
                          go_ret
                          exact ⟨ret_int (by rw [← HR.out, HRR.out]), HT.out⟩
                        · go_wp2_with fail
                          refine (within_any _ _ _ _).mono ?_
                          rw [H2.out]
                          rintro e w2 ⟨rfl, rfl⟩
                          cases q2
                          · have HRR := Lib.hid (chkS_places HC.out HZ.out HKB.out (placesB_no2 (any_mem hlt HK.out)))
                            go_wp2
                            go_ret
                            exact ⟨ret_int (by rw [← HR.out, HRR.out]), HT.out⟩
                          · have HN2 := Lib.hid (any_take hlt HN.out HK.out)
                            go_wp2
                            go_roundw
                            case rel => exact ⟨k + 1, by go_num, by omega, HN2, HB, HT⟩
                            case measure => simp [intOf]; omega
                      · have hli : ¬ (k : Int) < S.slots.length := by omega
                        have HPL := Lib.hid (placesB_yes HPB.out (any_all hlt HN.out))
                        clear HN hk hlt HPB
                        go_wp2
                        go_loopw [11] (fun i wr => ∃ k : Nat, i = .int .i64 k ∧ k ≤ S.parts.length ∧ Hid (∀ j (h : j < S.parts.length), j < k → S.parts[j].code.any (insBad S.chans (j : Int)) = false) ∧ Hid (Box wr w.heap.size (.slice (some ⟨pb, po, none⟩) S.parts.length pc) (.slice ca S.chans.length cc) (.slice sa S.slots.length sc)) ∧ Hid (Below w.heap.size w wr)) (fun i _ => S.parts.length - (intOf i).toNat)
                        case atStart => exact ⟨0, rfl, Nat.zero_le _, (fun j hj h => by omega), HB, HT⟩
                        case round =>
                          clear HB HT hli k2
                          obtain ⟨k, rfl, hk, HN, HB, HT⟩ := hrel
                          by_cases hlt : k < S.parts.length
                          · have hli : (k : Int) < S.parts.length := by omega
                            obtain ⟨c, i, c0, c1, hpr⟩ := HP.out k hlt
                            obtain ⟨a2, b2, rfl⟩ := hpr.code.form
                            have HPR := Lib.hid hpr
                            have HC0 := Lib.hid c0
                            have hc20 : S.parts[k].code.length ≤ 20 := (chkC_zero (HZ.out k hlt)).2.1
                            clear hpr c1 c0
                            go_wp2
                            go_loopw [12] (fun i wr => ∃ m : Nat, i = .int .i64 m ∧ m ≤ S.parts[k].code.length ∧ Hid ((S.parts[k].code.take m).any (insBad S.chans (k : Int)) = false) ∧ Hid (Box wr w.heap.size (.slice (some ⟨pb, po, none⟩) S.parts.length pc) (.slice ca S.chans.length cc) (.slice sa S.slots.length sc)) ∧ Hid (Below w.heap.size w wr)) (fun i _ => S.parts[k].code.length - (intOf i).toNat)
                            case atStart => exact ⟨0, rfl, Nat.zero_le _, (show (S.parts[k].code.take 0).any (insBad S.chans (k : Int)) = false by simp), HB, HT⟩
                            case round =>
                              clear HB HT
                              obtain ⟨m, rfl, hm, HM, HB, HT⟩ := hrel
                              have k0 := HB.out.p
                              have k1 := HB.out.c
                              have c0 := bcl HT.out hpb HC0.out
                              by_cases hmt : m < S.parts[k].code.length
                              · have hmi : (m : Int) < S.parts[k].code.length := by omega
                                obtain ⟨cb, co, ccap, e1, hcc, hcb, hcs⟩ := HPR.out.code.open (by omega)
                                cases e1
                                obtain ⟨d0, d1, d2, d3⟩ := code_cells hcs m hmt
                                have d0 := bcl HT.out hcb d0
                                have d1 := bcl HT.out hcb d1
                                have d2 := bcl HT.out hcb d2
                                have d3 := bcl HT.out hcb d3
                                have k1' := cl_alloc (.cells #[.int .i64 S.parts[k].code[m].op, .int .i64 S.parts[k].code[m].a, .int .i64 S.parts[k].code[m].b, .int .i64 S.parts[k].code[m].n] 83) HB.out.lt k1
                                clear hcs
                                have hgl := HB.out.lt
                                by_cases ho : S.parts[k].code[m].op = 12
                                · have hne : Hid (insBad S.chans (k : Int) S.parts[k].code[m] = putBad S.chans (k : Int) S.parts[k].code[m].n) := by
                                    show insBad _ _ _ = _
                                    unfold insBad
                                    rw [ho]
                                    simp
                                  obtain ⟨n, hn, hn6⟩ : ∃ n : Nat, S.parts[k].code[m].n = n ∧ n < 6 := by
                                    have := chk_chan ((chkC_zero (HZ.out k hlt)).2.2 m hmt) (Or.inl ho)
                                    exact ⟨S.parts[k].code[m].n.toNat, by omega, by omega⟩
                                  rw [hn] at d3 hne
                                  rw [ho] at d0
                                  clear hn ho
                                  have hn0 : (0 : Int) ≤ n := by omega
                                  by_cases hnl : n < S.chans.length
                                  · have hni : (n : Int) < S.chans.length := by omega
                                    have hnd : ¬ (S.chans.length : Int) ≤ n := by omega
                                    obtain ⟨b, off, cap', e1, hcap, hbw, hc⟩ := HS.out.c.open (by omega)
                                    cases e1
                                    obtain ⟨f0, f1, f2⟩ := chan_cells hc n hnl
                                    have f1 := bcl HT.out hbw f1
                                    have f1' := cl_alloc (.cells #[.int .i64 12, .int .i64 S.parts[k].code[m].a, .int .i64 S.parts[k].code[m].b, .int .i64 (n : Int)] 83) (Nat.lt_of_lt_of_le hbw HT.out.size) f1
                                    generalize hq : (S.chans[n].fr != (k : Int)) = q
                                    have HK : Hid (insBad S.chans (k : Int) S.parts[k].code[m] = q) := by show insBad _ _ _ = q; rw [hne.out, putBad_lt hnl, hq]
                                    clear hc hne
                                    cases q
                                    · have HN2 := Lib.hid (any_take hmt HM.out HK.out)
                                      go_wp2
                                      go_roundw
                                      case rel => exact ⟨m + 1, by go_num, by omega, HN2, HB.out.up ((Below.refl _ _).alloc (Nat.le_refl _) _), HT.out.alloc HT.out.size _⟩
                                      case measure => simp [intOf]; omega
                                    · have HRR := Lib.hid (chkS_names HC.out HZ.out HKB.out HPL.out (namesB_no hlt (HZ.out k hlt) (any_mem hmt HK.out)))
                                      go_wp2
                                      go_ret
                                      exact ⟨ret_int (by rw [← HR.out, HRR.out]), HT.out.alloc HT.out.size _⟩
                                  · have hni : ¬ (n : Int) < S.chans.length := by omega
                                    have hnd : (S.chans.length : Int) ≤ n := by omega
                                    have HK : Hid (insBad S.chans (k : Int) S.parts[k].code[m] = true) := by show insBad _ _ _ = true; rw [hne.out, putBad_ge hnl]
                                    clear hne
                                    have HRR := Lib.hid (chkS_names HC.out HZ.out HKB.out HPL.out (namesB_no hlt (HZ.out k hlt) (any_mem hmt HK.out)))
                                    go_wp2
                                    go_ret
                                    exact ⟨ret_int (by rw [← HR.out, HRR.out]), HT.out.alloc HT.out.size _⟩
                                · by_cases ho2 : S.parts[k].code[m].op = 13
                                  · have hne : Hid (insBad S.chans (k : Int) S.parts[k].code[m] = getBad S.chans (k : Int) S.parts[k].code[m].n) := by
                                      show insBad _ _ _ = _
                                      unfold insBad
                                      rw [ho2]
                                      simp
                                    obtain ⟨n, hn, hn6⟩ : ∃ n : Nat, S.parts[k].code[m].n = n ∧ n < 6 := by
                                      have := chk_chan ((chkC_zero (HZ.out k hlt)).2.2 m hmt) (Or.inr ho2)
                                      exact ⟨S.parts[k].code[m].n.toNat, by omega, by omega⟩
                                    rw [hn] at d3 hne
                                    rw [ho2] at d0
                                    clear hn ho ho2
                                    have hn0 : (0 : Int) ≤ n := by omega
                                    by_cases hnl : n < S.chans.length
                                    · have hni : (n : Int) < S.chans.length := by omega
                                      have hnd : ¬ (S.chans.length : Int) ≤ n := by omega
                                      obtain ⟨b, off, cap', e1, hcap, hbw, hc⟩ := HS.out.c.open (by omega)
                                      cases e1
                                      obtain ⟨f0, f1, f2⟩ := chan_cells hc n hnl
                                      have f2 := bcl HT.out hbw f2
                                      have f2' := cl_alloc (.cells #[.int .i64 13, .int .i64 S.parts[k].code[m].a, .int .i64 S.parts[k].code[m].b, .int .i64 (n : Int)] 83) (Nat.lt_of_lt_of_le hbw HT.out.size) f2
                                      generalize hq : (S.chans[n].tt != (k : Int)) = q
                                      have HK : Hid (insBad S.chans (k : Int) S.parts[k].code[m] = q) := by show insBad _ _ _ = q; rw [hne.out, getBad_lt hnl, hq]
                                      clear hc hne
                                      cases q
                                      · have HN2 := Lib.hid (any_take hmt HM.out HK.out)
                                        go_wp2
                                        go_roundw
                                        case rel => exact ⟨m + 1, by go_num, by omega, HN2, HB.out.up ((Below.refl _ _).alloc (Nat.le_refl _) _), HT.out.alloc HT.out.size _⟩
                                        case measure => simp [intOf]; omega
                                      · have HRR := Lib.hid (chkS_names HC.out HZ.out HKB.out HPL.out (namesB_no hlt (HZ.out k hlt) (any_mem hmt HK.out)))
                                        go_wp2
                                        go_ret
                                        exact ⟨ret_int (by rw [← HR.out, HRR.out]), HT.out.alloc HT.out.size _⟩
                                    · have hni : ¬ (n : Int) < S.chans.length := by omega
                                      have hnd : (S.chans.length : Int) ≤ n := by omega
                                      have HK : Hid (insBad S.chans (k : Int) S.parts[k].code[m] = true) := by show insBad _ _ _ = true; rw [hne.out, getBad_ge hnl]
                                      clear hne
                                      have HRR := Lib.hid (chkS_names HC.out HZ.out HKB.out HPL.out (namesB_no hlt (HZ.out k hlt) (any_mem hmt HK.out)))
                                      go_wp2
                                      go_ret
                                      exact ⟨ret_int (by rw [← HR.out, HRR.out]), HT.out.alloc HT.out.size _⟩
                                  · have o1 : (S.parts[k].code[m].op == 12) = false := by simpa using ho
                                    have o2 : (S.parts[k].code[m].op == 13) = false := by simpa using ho2
                                    have HK : Hid (insBad S.chans (k : Int) S.parts[k].code[m] = false) := by show insBad _ _ _ = false; unfold insBad; rw [o1, o2]; rfl
                                    have HN2 := Lib.hid (any_take hmt HM.out HK.out)
                                    clear ho ho2
                                    go_wp2
                                    go_roundw
                                    case rel => exact ⟨m + 1, by go_num, by omega, HN2, HB.out.up ((Below.refl _ _).alloc (Nat.le_refl _) _), HT.out.alloc HT.out.size _⟩
                                    case measure => simp [intOf]; omega
                              · have hmi : ¬ (m : Int) < S.parts[k].code.length := by omega
                                have HM2 := Lib.hid (any_all hmt HM.out)
                                go_wp2
                                go_roundw
                                case rel => exact ⟨k + 1, by go_num, by omega, (fun j hj hjk => by
                                  by_cases e : j = k
                                  · subst e; exact HM2.out
                                  · exact HN.out j hj (by omega)), HB, HT⟩
                                case measure => simp [intOf]; omega
                          · have hli : ¬ (k : Int) < S.parts.length := by omega
                            have HRR := Lib.hid (chkS_ok HC.out HZ.out HKB.out HPL.out (namesB_yes HZ.out (fun j hj => HN.out j hj (by omega))))
                            go_wp2
                            go_ret
                            exact ⟨ret_int (by rw [← HR.out, HRR.out]), HT.out⟩
  · have HRR := Lib.hid (chkS_counts (countsB_no1 hA))
    generalize h1 : withinB (S.parts.length : Int) 1 4 = q1
    generalize h3 : withinB (S.slots.length : Int) 1 6 = q3
    have H1 := Lib.hid h1
    have H3 := Lib.hid h3
    have HQ : Hid (q1 = true → S.chans.length ≤ 6 → q3 = false) := by
      intro e1 e2
      subst e1
      cases q3
      · rfl
      · unfold withinB at h1 h3
        simp at h1 h3
        omega
    clear h1 h3 hA
    go_enter Tryz.func33, Tryz.ntmps33
    go_wp2_with fail
    refine (within_any _ _ _ _).mono ?_
    rw [H1.out]
    rintro e w1 ⟨rfl, rfl⟩
    cases q1
    · go_wp2
      go_ret
      exact ⟨ret_int (by rw [← HR.out, HRR.out]), (by repeat (first | exact Below.refl _ _ | assumption | refine Below.drew ?_ | refine Below.alloc ?_ (by first | (simp; done) | (simp; omega)) _ | refine Below.setCell ?_ (by first | (simp; done) | (simp; omega)) _))⟩
    · by_cases h6 : (6 : Int) < S.chans.length
      · go_wp2
        go_ret
        exact ⟨ret_int (by rw [← HR.out, HRR.out]), (by repeat (first | exact Below.refl _ _ | assumption | refine Below.drew ?_ | refine Below.alloc ?_ (by first | (simp; done) | (simp; omega)) _ | refine Below.setCell ?_ (by first | (simp; done) | (simp; omega)) _))⟩
      · have hq := HQ.out rfl (by omega)
        subst hq
        clear HQ
        go_wp2_with fail
        refine (within_any _ _ _ _).mono ?_
        rw [H3.out]
        rintro e w1 ⟨rfl, rfl⟩
        go_wp2
        go_ret
        exact ⟨ret_int (by rw [← HR.out, HRR.out]), (by repeat (first | exact Below.refl _ _ | assumption | refine Below.drew ?_ | refine Below.alloc ?_ (by first | (simp; done) | (simp; omega)) _ | refine Below.setCell ?_ (by first | (simp; done) | (simp; omega)) _))⟩
end Go.Proofs.YtehhhiodfcdnmaaGreatDoor

namespace Go.Proofs.YtehhhiodfcdnmaaGreatDoor
set_option linter.unusedSimpArgs false
set_option linter.unusedVariables false
open Go.RowKit Go.Sort
def NewB (n : Nat) (v : Value) : Prop := ∀ k, v.ownBlock = some k → n ≤ k
theorem NewB.mono {n m : Nat} {v : Value} (h : NewB n v) (hm : m ≤ n) : NewB m v := fun k e => Nat.le_trans hm (h k e)
theorem newB_nil (n : Nat) (c : Nat) : NewB n (.slice none 0 c) := fun k e => by cases e
theorem newB_at {n g o l c : Nat} (h : n ≤ g) : NewB n (.slice (some ⟨g, o, none⟩) l c) := fun k e => by simp [Value.ownBlock] at e; omega
def PartsN (n : Nat) (w : World) (v : Value) (ps : List Prt) : Prop :=
  ∃ vs : List (Value × Value), vs.length = ps.length ∧ Sl w 2 v ps.length (rowC prC vs) ∧ NewB n v ∧ ∀ k (hk : k < ps.length) (hk' : k < vs.length), PrtR w vs[k].1 vs[k].2 ps[k] ∧ NewB n vs[k].1 ∧ NewB n vs[k].2
structure SysN (n : Nat) (w : World) (vp vc vs : Value) (S : SysD) : Prop where
  p : PartsN n w vp S.parts
  c : Sl w 3 vc S.chans.length (rowC chC S.chans)
  s : Sl w 2 vs S.slots.length (rowC slC S.slots)
  nc : NewB n vc
  ns : NewB n vs
theorem PartsN.r {n : Nat} {w : World} {v : Value} {ps : List Prt} (h : PartsN n w v ps) : PartsR w v ps := by
  obtain ⟨vs, h1, h2, _, h4⟩ := h
  exact ⟨vs, h1, h2, fun k hk hk' => (h4 k hk hk').1⟩
theorem SysN.sys {n : Nat} {w : World} {vp vc vs : Value} {S : SysD} (h : SysN n w vp vc vs S) : Sys w vp vc vs S := ⟨h.p.r, h.c, h.s⟩
theorem Sl.far {w : World} {size n m c j : Nat} {v : Value} {xs : List Value} (h : Sl w size v m xs) (hn : NewB n v) (hc : c < n) (u : Value) : Sl (w.setCell ⟨c, j, none⟩ u) size v m xs := h.set u (fun e => by have := hn c e; omega)
theorem SysN.set {n : Nat} {w : World} {vp vc vs : Value} {S : SysD} (h : SysN n w vp vc vs S) {c j : Nat} (hc : c < n) (u : Value) : SysN n (w.setCell ⟨c, j, none⟩ u) vp vc vs S := by
  obtain ⟨ps, h1, h2, h3, h4⟩ := h.p
  exact ⟨⟨ps, h1, h2.far h3 hc u, h3, fun k hk hk' => ⟨⟨(h4 k hk hk').1.code.far (h4 k hk hk').2.1 hc u, (h4 k hk hk').1.inn.far (h4 k hk hk').2.2 hc u⟩, (h4 k hk hk').2⟩⟩, h.c.far h.nc hc u, h.s.far h.ns hc u, h.nc, h.ns⟩
theorem SysN.up {n : Nat} {w w' : World} {vp vc vs : Value} {S : SysD} (h : SysN n w vp vc vs S) (hb : Below w.heap.size w w') : SysN n w' vp vc vs S := by
  obtain ⟨ps, h1, h2, h3, h4⟩ := h.p
  exact ⟨⟨ps, h1, h2.up hb, h3, fun k hk hk' => ⟨(h4 k hk hk').1.up hb, (h4 k hk hk').2⟩⟩, h.c.up hb, h.s.up hb, h.nc, h.ns⟩
theorem lit_sl (w : World) (xs : List Value) (t : TypeId) (g n size : Nat) (hg : g = w.heap.size) (hl : xs.length = n * size) : Sl (w.alloc (.cells xs.toArray t)) size (.slice (some ⟨g, 0, none⟩) n n) n xs := by
  subst hg
  refine ⟨hl, _, _, rfl, Nat.le_refl _, fun _ => ⟨_, 0, rfl, by simp, fun j u hj => ?_⟩⟩
  rw [Nat.zero_add, World.cell?_alloc_new, ← Array.getElem?_toList]
  exact hj
theorem Sl.up1 {w : World} {size n : Nat} {v : Value} {xs : List Value} (h : Sl w size v n xs) (o : Obj) : Sl (w.alloc o) size v n xs := h.up ((Below.refl _ _).alloc (Nat.le_refl _) _)
def relayS : SysD := ⟨[⟨[⟨10, 0, 0, 0⟩, ⟨12, 0, 0, 0⟩, ⟨15, 0, 0, 0⟩], [6]⟩, ⟨tellerL, []⟩, ⟨[⟨13, 0, 1, 1⟩, ⟨9, 1, 0, 0⟩, ⟨11, 0, 0, 0⟩, ⟨15, 0, 0, 0⟩], []⟩, ⟨[⟨11, 0, 0, 0⟩, ⟨8, 0, 0, 0⟩], []⟩], [⟨2, 0, 1⟩, ⟨1, 1, 2⟩], [⟨0, 3⟩, ⟨1, 4⟩, ⟨3, 1⟩, ⟨2, 4⟩]⟩
set_option maxRecDepth 100000 in
theorem tellerN_any (w : World) : Calls Tryz.prog 78 #[] w fun e w' => e = .returned (.slice (some ⟨w.heap.size, 0, none⟩) 5 5) ∧ w' = w.alloc (.cells (codeC tellerL).toArray 83) := by
  go_enter Tryz.func78, Tryz.ntmps78
  go_wp2
  go_ret
  exact ⟨rfl, rfl⟩
set_option maxRecDepth 100000 in
set_option maxHeartbeats 2000000 in
theorem relay_any (w : World) : Calls Tryz.prog 40 #[] w fun e w' => ∃ vp vc vs, e = .returned (.agg #[vp, vc, vs]) ∧ SysN (w.heap.size + 1) w' vp vc vs relayS ∧ Below w.heap.size w w' := by
  go_enter Tryz.func40, Tryz.ntmps40
  go_wp2_with (go_at_call 78; refine (tellerN_any _).mono ?_; rintro e w1 ⟨rfl, rfl⟩)
  refine bodyPost_ret (v := .agg #[.slice (some ⟨w.heap.size + 1 + 1 + 1 + 1 + 1 + 1, 0, none⟩) 4 4, .slice (some ⟨w.heap.size + 1 + 1 + 1 + 1 + 1 + 1 + 1, 0, none⟩) 2 2, .slice (some ⟨w.heap.size + 1 + 1 + 1 + 1 + 1 + 1 + 1 + 1, 0, none⟩) 4 4]) (by simp [results, Tryz.f40, go_sem]) rfl ⟨_, _, _, rfl, ?_, (by repeat (first | exact Below.refl _ _ | assumption | refine Below.drew ?_ | refine Below.alloc ?_ (by first | (simp; done) | (simp; omega)) _ | refine Below.setCell ?_ (by first | (simp; done) | (simp; omega)) _))⟩
  refine ⟨⟨[(.slice (some ⟨w.heap.size + 1, 0, none⟩) 3 3, .slice (some ⟨w.heap.size + 1 + 1, 0, none⟩) 1 1), (.slice (some ⟨w.heap.size + 1 + 1 + 1, 0, none⟩) 5 5, .slice none 0 0), (.slice (some ⟨w.heap.size + 1 + 1 + 1 + 1, 0, none⟩) 4 4, .slice none 0 0), (.slice (some ⟨w.heap.size + 1 + 1 + 1 + 1 + 1, 0, none⟩) 2 2, .slice none 0 0)], rfl, ?_, newB_at (by omega), ?_⟩, ?_, ?_, newB_at (by omega), newB_at (by omega)⟩
  · exact (by repeat (first | exact lit_sl _ _ _ _ _ _ (by simp) rfl | refine Sl.up1 ?_ _))
  · intro k hk hk'
    have hk4 : k = 0 ∨ k = 1 ∨ k = 2 ∨ k = 3 := by have : k < 4 := hk; omega
    rcases hk4 with rfl | rfl | rfl | rfl
    · exact ⟨⟨(by repeat (first | exact lit_sl _ _ _ _ _ _ (by simp) rfl | refine Sl.up1 ?_ _)), (by repeat (first | exact lit_sl _ _ _ _ _ _ (by simp) rfl | refine Sl.up1 ?_ _))⟩, newB_at (by omega), newB_at (by omega)⟩
    · exact ⟨⟨(by repeat (first | exact lit_sl _ _ _ _ _ _ (by simp) rfl | refine Sl.up1 ?_ _)), Sl.nil _ _⟩, newB_at (by omega), newB_nil _ _⟩
    · exact ⟨⟨(by repeat (first | exact lit_sl _ _ _ _ _ _ (by simp) rfl | refine Sl.up1 ?_ _)), Sl.nil _ _⟩, newB_at (by omega), newB_nil _ _⟩
    · exact ⟨⟨(by repeat (first | exact lit_sl _ _ _ _ _ _ (by simp) rfl | refine Sl.up1 ?_ _)), Sl.nil _ _⟩, newB_at (by omega), newB_nil _ _⟩
  · exact (by repeat (first | exact lit_sl _ _ _ _ _ _ (by simp) rfl | refine Sl.up1 ?_ _))
  · exact (by repeat (first | exact lit_sl _ _ _ _ _ _ (by simp) rfl | refine Sl.up1 ?_ _))
end Go.Proofs.YtehhhiodfcdnmaaGreatDoor

namespace Go.Proofs.YtehhhiodfcdnmaaGreatDoor
set_option linter.unusedSimpArgs false
set_option linter.unusedVariables false
open Go.RowKit Go.Sort
theorem sl_src {w : World} {b off : Nat} {xs : List Value} (h : ∀ j u, xs[j]? = some u → w.cell? ⟨b, off + j, none⟩ = some u) : ∀ j u, xs[j]? = some u → w.cell? ((⟨b, off, none⟩ : Addr).add j) = some u := by
  intro j u hj
  have hadd : (⟨b, off, none⟩ : Addr).add j = ⟨b, off + j, none⟩ := by
    unfold Addr.add
    by_cases h0 : j = 0 <;> simp [h0]
  rw [hadd]
  exact h j u hj
def Rw (w : World) (g : Nat) (t : TypeId) (cs : Array Value) : Prop := w.heap[g]? = some (.cells cs t (0, 0))
theorem Rw.lt {w : World} {g : Nat} {t : TypeId} {cs : Array Value} (h : Rw w g t cs) : g < w.heap.size := (Array.getElem?_eq_some_iff.1 h).1
theorem Rw.up {B : Nat} {w w' : World} {g : Nat} {t : TypeId} {cs : Array Value} (h : Rw w g t cs) (hb : Below B w w') (hg : g < B) : Rw w' g t cs := (hb.block g hg).trans h
theorem Rw.cell {w : World} {g : Nat} {t : TypeId} {cs : Array Value} (h : Rw w g t cs) {j : Nat} {v : Value} (hj : cs[j]? = some v) : w.cell? ⟨g, j, none⟩ = some v := (cell_of_row w g j cs t _ h).trans hj
theorem Rw.fr {w : World} {g : Nat} {t : TypeId} {cs : Array Value} (h : Rw w g t cs) (j : Nat) : w.frozen? ⟨g, j, none⟩ = false := frozen_of_row w g j cs t h
theorem Rw.set {w : World} {g : Nat} {t : TypeId} {cs : Array Value} (h : Rw w g t cs) (j : Nat) (v : Value) : Rw (w.setCell ⟨g, j, none⟩ v) g t (cs.setIfInBounds j v) := heap_setCell_same w g j cs t v h
theorem Rw.set_other {w : World} {g : Nat} {t : TypeId} {cs : Array Value} (h : Rw w g t cs) {a : Addr} (v : Value) (hg : g ≠ a.block) : Rw (w.setCell a v) g t cs := (heap_setCell_other w a g v hg).trans h
theorem Rw.row {w : World} {g : Nat} {t : TypeId} {cs : Array Value} (h : Rw w g t cs) (cs' : Array Value) : Rw (w.setRow g cs') g t cs' := setRow_heap w g cs cs' t _ h
theorem Rw.row_other {w : World} {g : Nat} {t : TypeId} {cs : Array Value} (h : Rw w g t cs) {g' : Nat} (cs' : Array Value) (hg : g ≠ g') : Rw (w.setRow g' cs') g t cs := (setRow_other w g' g cs' hg).trans h
theorem Rw.new (w : World) (t : TypeId) (cs : Array Value) {g : Nat} (hg : g = w.heap.size) : Rw (w.alloc (.cells cs t)) g t cs := hg ▸ _root_.Go.heap_alloc_new w _
theorem Rw.alloc {w : World} {g : Nat} {t : TypeId} {cs : Array Value} (h : Rw w g t cs) (o : Obj) : Rw (w.alloc o) g t cs := (Below.heap_alloc w o g h.lt).trans h
theorem Rw.drew {w : World} {g : Nat} {t : TypeId} {cs : Array Value} (h : Rw w g t cs) : Rw w.drew g t cs := h
theorem below_row {B : Nat} {a w : World} (h : Below B a w) {g : Nat} (hp : B ≤ g) (cs : Array Value) : Below B a (w.setRow g cs) :=
  ⟨h.os, h.tape, h.output, by rw [setRow_size]; exact h.size, fun k hk => (setRow_other w g k cs (by omega)).trans (h.block k hk)⟩
theorem Sl.row {w : World} {size : Nat} {v : Value} {n : Nat} {xs : List Value} (h : Sl w size v n xs) {g : Nat} (cs : Array Value) (hne : v.ownBlock ≠ some g) : Sl (w.setRow g cs) size v n xs := by
  obtain ⟨h1, ao, cap, rfl, h3, h4⟩ := h
  refine ⟨h1, ao, cap, rfl, h3, fun hn => ?_⟩
  obtain ⟨b, off, rfl, hlt, hc⟩ := h4 hn
  exact ⟨b, off, rfl, by rw [setRow_size]; exact hlt, fun k u' hk => (cell_setRow_other w g cs _ (by simpa [Value.ownBlock] using hne)).trans (hc k u' hk)⟩
theorem own_set {w : World} {base : Nat} {e : TypeId} {size : Nat} {v : Value} {n : Nat} {xs : List Value} (h : w.ownsRow base e size v n xs) {a : Addr} (u : Value) (hne : v.ownBlock ≠ some a.block) : (w.setCell a u).ownsRow base e size v n xs := by
  refine ⟨h.1, h.2.imp id ?_⟩
  rintro ⟨g, cap, cur, rfl, h2, h3, h4⟩
  exact ⟨g, cap, cur, rfl, h2, (heap_setCell_other w a g u (by simpa [Value.ownBlock] using hne)).trans h3, h4⟩
theorem own_row {w : World} {base : Nat} {e : TypeId} {size : Nat} {v : Value} {n : Nat} {xs : List Value} (h : w.ownsRow base e size v n xs) {g : Nat} (cs : Array Value) (hne : v.ownBlock ≠ some g) : (w.setRow g cs).ownsRow base e size v n xs := by
  refine ⟨h.1, h.2.imp id ?_⟩
  rintro ⟨g', cap, cur, rfl, h2, h3, h4⟩
  exact ⟨g', cap, cur, rfl, h2, (setRow_other w g g' cs (by simpa [Value.ownBlock] using hne)).trans h3, h4⟩
theorem own_up {w w' : World} {B base : Nat} {e : TypeId} {size : Nat} {v : Value} {n : Nat} {xs : List Value} (h : w.ownsRow base e size v n xs) (hb : Below B w w') (hB : ∀ k, v.ownBlock = some k → k < B) : w'.ownsRow base e size v n xs := by
  refine ⟨h.1, h.2.imp id ?_⟩
  rintro ⟨g', cap, cur, rfl, h2, h3, h4⟩
  exact ⟨g', cap, cur, rfl, h2, (hb.block g' (hB g' rfl)).trans h3, h4⟩
theorem own_lt {w : World} {base : Nat} {e : TypeId} {size : Nat} {v : Value} {n : Nat} {xs : List Value} (h : w.ownsRow base e size v n xs) : ∀ k, v.ownBlock = some k → k < w.heap.size := by
  intro k hk
  rcases h.2 with ⟨rfl, _⟩ | ⟨g, cap, cur, rfl, _, h3, _⟩
  · cases hk
  · simp [Value.ownBlock] at hk
    subst hk
    exact (Array.getElem?_eq_some_iff.1 h3).1
section
variable {P : Program}
theorem wpList_store_rowW {ops : Array Oper} {rest : List Oper} {o : Oper} {a : Act} {w : World} {Q : Exit → Act → World → Prop} (hgd : o.guard = none) (ty : TypeId) (x y : Operand) (ho : o.op = .store ty x y)
    (g : Nat) (cells : Array Value) (hx : a.eval x = .pointer (some ⟨g, 0, none⟩)) (hy : a.eval y = .agg cells)
    (t : TypeId) (old : Array Value) (hg : Rw w g t old) (hi : (P.info? ty).map (·.size) = some cells.size)
    (hold : old.size = cells.size) (h1 : cells.all (·.oneCell') = true)
    (h : ∀ W, Hid (W = w.setRow g cells) → wpList P ops Q rest (a.put o.dst undef) W) : wpList P ops Q (o :: rest) a w :=
  wpList_store_row hgd ty x y ho g cells hx hy t old hg hi hold h1 (h _ (Lib.hid rfl))
theorem run_storeVar_cell (w : World) (g i : Nat) (t ty : TypeId) (cs : Array Value) (v : Value) (hg : Rw w g t cs) (hlt : i < cs.size) (hi : (P.info? ty).map (·.size) = some 1) (h1 : v.oneCell' = true) :
    (storeVar ty ⟨g, i, none⟩ v).run P w = .ok () (w.setCell ⟨g, i, none⟩ v) := by
  have hc : v.cells = #[v] := by cases v <;> first | rfl | cases h1
  have hk := hg.cell (j := i) (v := cs[i]) (by simp [hlt])
  have hf := hg.fr i
  cases hq : P.info? ty with
  | none => simp [hq] at hi
  | some j =>
    have hs : j.size = 1 := by simpa [hq] using hi
    simp [storeVar, sizeOf, typeInfo, hq, hc, hs, storeCells, Addr.add, run_store P w _ v _ h1, hk, hf]
theorem wpList_store_cellW {ops : Array Oper} {rest : List Oper} {o : Oper} {a : Act} {w : World} {Q : Exit → Act → World → Prop} (hgd : o.guard = none) (ty : TypeId) (x y : Operand) (ho : o.op = .store ty x y)
    (g i : Nat) (v : Value) (hx : a.eval x = .pointer (some ⟨g, i, none⟩)) (hy : a.eval y = v) (h1 : v.oneCell' = true)
    (t : TypeId) (cs : Array Value) (hg : Rw w g t cs) (hlt : i < cs.size) (hi : (P.info? ty).map (·.size) = some 1)
    (h : ∀ W, Hid (W = w.setCell ⟨g, i, none⟩ v) → wpList P ops Q rest (a.put o.dst undef) W) : wpList P ops Q (o :: rest) a w :=
  wpList_plain hgd fun _ hK => by
    unfold Oper.wp execOp
    simp only [ho, hx, hy, Instr.storeAt, Instr.sureAddr, Sem.run_bind, Sem.run_pure, Result.andThen_ok, run_storeVar_cell w g i t ty cs v hg hlt hi h1]
    exact hK _ _ (h _ (Lib.hid rfl))
theorem Rw.loadAt {w : World} {g : Nat} {t : TypeId} {cs : Array Value} (h : Rw w g t cs) {ty : TypeId} {d : TypeDesc} (hu : P.underlying ty = some d) (hd : (match d with | .struct _ | .array _ _ => true | _ => false) = true) (hi : (P.info? ty).map (·.size) = some cs.size) :
    (Instr.loadAt ty (.pointer (some ⟨g, 0, none⟩))).run P w = .ok (.agg cs) w := by
  simp only [Instr.loadAt, Instr.sureAddr, Sem.run_bind, Sem.run_pure, Result.andThen_ok, run_loadVar_row w g t ty cs (0, 0) d h hu hd hi]
theorem Rw.storeAt {w : World} {g : Nat} {t : TypeId} {old : Array Value} (h : Rw w g t old) {ty : TypeId} (cs : Array Value) (hi : (P.info? ty).map (·.size) = some cs.size) (ho : old.size = cs.size) (h1 : cs.all (·.oneCell') = true) :
    (Instr.storeAt ty (.pointer (some ⟨g, 0, none⟩)) (.agg cs)).run P w = .ok () (w.setRow g cs) := by
  simp only [Instr.storeAt, Instr.sureAddr, Sem.run_bind, Sem.run_pure, Result.andThen_ok, run_storeVar_row w g t ty old cs h hi ho h1]
end
theorem results_row_tmp {P : Program} {fn : Func} {p q : Tmp} {ty : TypeId} (h : fn.results = #[.cell p ty, .tmp q]) (tmps : Array Value) (w : World) (g : Nat) (v u : Value)
    (hp : tmps.getD p undef = .pointer (some ⟨g, 0, none⟩)) (hq : tmps.getD q undef = u) (hl : (loadVar ty ⟨g, 0, none⟩).run P w = .ok v w) : (results fn tmps).run P w = .ok (.tuple #[v, u]) w := by
  have hp' : tmps[p]?.getD undef = .pointer (some ⟨g, 0, none⟩) := by simpa using hp
  have hq' : tmps[q]?.getD undef = u := by simpa using hq
  simp [results, h, hp', hq', asAddr, hl]
theorem results_row2_tmp {P : Program} {fn : Func} {p q r : Tmp} {ty tz : TypeId} (h : fn.results = #[.cell p ty, .cell q tz, .tmp r]) (tmps : Array Value) (w : World) (g g' : Nat) (v u x : Value)
    (hp : tmps.getD p undef = .pointer (some ⟨g, 0, none⟩)) (hq : tmps.getD q undef = .pointer (some ⟨g', 0, none⟩)) (hr : tmps.getD r undef = x) (hl : (loadVar ty ⟨g, 0, none⟩).run P w = .ok v w) (hk : (loadVar tz ⟨g', 0, none⟩).run P w = .ok u w) : (results fn tmps).run P w = .ok (.tuple #[v, u, x]) w := by
  have hp' : tmps[p]?.getD undef = .pointer (some ⟨g, 0, none⟩) := by simpa using hp
  have hq' : tmps[q]?.getD undef = .pointer (some ⟨g', 0, none⟩) := by simpa using hq
  have hr' : tmps[r]?.getD undef = x := by simpa using hr
  simp [results, h, hp', hq', hr', asAddr, hl, hk]
end Go.Proofs.YtehhhiodfcdnmaaGreatDoor

namespace Go.Proofs.YtehhhiodfcdnmaaGreatDoor
set_option linter.unusedSimpArgs false
set_option linter.unusedVariables false
open Go.RowKit Go.Sort
theorem rowC_one {α : Type} {f : α → List Value} (h : ∀ x, ∀ u ∈ f x, u.oneCell' = true) (l : List α) : ∀ u ∈ rowC f l, u.oneCell' = true := by
  intro u hu
  unfold rowC at hu
  obtain ⟨x, _, hx⟩ := List.mem_flatMap.1 hu
  exact h x u hx
theorem chC_one (x : Chn) : ∀ u ∈ chC x, u.oneCell' = true := by
  intro u hu
  simp [chC] at hu
  rcases hu with rfl | rfl | rfl <;> rfl
theorem slC_one (x : Slt) : ∀ u ∈ slC x, u.oneCell' = true := by
  intro u hu
  simp [slC] at hu
  rcases hu with rfl | rfl <;> rfl
theorem ins_one (x : Ins) : ∀ u ∈ x.cells, u.oneCell' = true := by
  intro u hu
  simp [Ins.cells] at hu
  rcases hu with rfl | rfl | rfl | rfl <;> rfl
theorem codeC_one : ∀ l : List Ins, ∀ u ∈ codeC l, u.oneCell' = true
  | [], u, h => by cases h
  | i :: r, u, h => by
    rcases List.mem_append.1 h with h | h
    · exact ins_one i u h
    · exact codeC_one r u h
theorem infoChan : (Tryz.prog.info? 89).map (fun i => (i.zero, i.size, i.bytes)) = some (some (.agg #[.int .i64 0, .int .i64 0, .int .i64 0]), 3, 24) := by kernel_rfl
set_option maxHeartbeats 1000000 in
theorem copChan_any (l : List Chn) (hl : l.length ≤ 1000) (v : Value) (w : World) (hS : Sl w 3 v l.length (rowC chC l)) :
    Calls Tryz.prog 80 #[v] w fun e w' => ∃ v', e = .returned v' ∧ w'.ownsRow w.heap.size 89 3 v' l.length (rowC chC l) ∧ Below w.heap.size w w' := by
  obtain ⟨i0, hi, hz0, hz1, hz2⟩ := info_parts infoChan
  by_cases h0 : l.length = 0
  · obtain ⟨ao, cap, rfl⟩ := hS.form
    have hxs : l = [] := List.length_eq_zero_iff.1 h0
    subst hxs
    clear hS h0 hl
    go_enter Tryz.func80, Tryz.ntmps80
    cases ao
    all_goals
      go_wp2
      go_ret
      exact ⟨_, rfl, World.ownsRow_nil _ _ _ _, Below.refl _ _⟩
  · obtain ⟨b, off, cap, rfl, hcap, hbw, hc⟩ := hS.open (by omega)
    have HCC := Lib.hid hc
    clear hS hc
    go_enter Tryz.func80, Tryz.ntmps80
    go_wp2_with (at_builtin; refine wpList_append_lies _ rfl (.const (.slice none 0 0)) (.tmp 3) 23 rfl w.heap.size 89 i0 (.agg #[.int .i64 0, .int .i64 0, .int .i64 0]) 3 24 Tryz.underlying23 hi hz0 hz1 hz2 rfl (by decide) (.slice none 0 0) 0 [] rfl (World.ownsRow_nil _ _ _ _) ⟨b, off, none⟩ l.length cap (rowC chC l) rfl (rowC_len (f := chC) (s := 3) (fun _ => rfl) l) (sl_src HCC.out) (rowC_one chC_one l) (by omega) (by unfold maxLen; omega) (by omega) (Nat.le_refl _) _ rfl ?_)
    intro g cap1 w3 hown hgrow hat hglt
    have hu := Lib.hid ((Below.refl w.heap.size w).grown hgrow (Nat.le_refl _) (fun k hk => by cases hk))
    have hown2 : w3.ownsRow w.heap.size 89 3 (.slice (some ⟨g, 0, none⟩) l.length cap1) l.length (rowC chC l) := by simpa using hown
    have HO := Lib.hid hown2
    clear hown hown2 hgrow hat HCC
    try simp only [Nat.zero_add]
    go_wp2
    go_ret
    exact ⟨_, rfl, HO.out, hu.out⟩
theorem infoSlot : (Tryz.prog.info? 105).map (fun i => (i.zero, i.size, i.bytes)) = some (some (.agg #[.int .i64 0, .int .i64 0]), 2, 16) := by kernel_rfl
set_option maxHeartbeats 1000000 in
theorem copSlot_any (l : List Slt) (hl : l.length ≤ 1000) (v : Value) (w : World) (hS : Sl w 2 v l.length (rowC slC l)) :
    Calls Tryz.prog 81 #[v] w fun e w' => ∃ v', e = .returned v' ∧ w'.ownsRow w.heap.size 105 2 v' l.length (rowC slC l) ∧ Below w.heap.size w w' := by
  obtain ⟨i0, hi, hz0, hz1, hz2⟩ := info_parts infoSlot
  by_cases h0 : l.length = 0
  · obtain ⟨ao, cap, rfl⟩ := hS.form
    have hxs : l = [] := List.length_eq_zero_iff.1 h0
    subst hxs
    clear hS h0 hl
    go_enter Tryz.func81, Tryz.ntmps81
    cases ao
    all_goals
      go_wp2
      go_ret
      exact ⟨_, rfl, World.ownsRow_nil _ _ _ _, Below.refl _ _⟩
  · obtain ⟨b, off, cap, rfl, hcap, hbw, hc⟩ := hS.open (by omega)
    have HCC := Lib.hid hc
    clear hS hc
    go_enter Tryz.func81, Tryz.ntmps81
    go_wp2_with (at_builtin; refine wpList_append_lies _ rfl (.const (.slice none 0 0)) (.tmp 3) 24 rfl w.heap.size 105 i0 (.agg #[.int .i64 0, .int .i64 0]) 2 16 Tryz.underlying24 hi hz0 hz1 hz2 rfl (by decide) (.slice none 0 0) 0 [] rfl (World.ownsRow_nil _ _ _ _) ⟨b, off, none⟩ l.length cap (rowC slC l) rfl (rowC_len (f := slC) (s := 2) (fun _ => rfl) l) (sl_src HCC.out) (rowC_one slC_one l) (by omega) (by unfold maxLen; omega) (by omega) (Nat.le_refl _) _ rfl ?_)
    intro g cap1 w3 hown hgrow hat hglt
    have hu := Lib.hid ((Below.refl w.heap.size w).grown hgrow (Nat.le_refl _) (fun k hk => by cases hk))
    have hown2 : w3.ownsRow w.heap.size 105 2 (.slice (some ⟨g, 0, none⟩) l.length cap1) l.length (rowC slC l) := by simpa using hown
    have HO := Lib.hid hown2
    clear hown hown2 hgrow hat HCC
    try simp only [Nat.zero_add]
    go_wp2
    go_ret
    exact ⟨_, rfl, HO.out, hu.out⟩
theorem infoIns : (Tryz.prog.info? 83).map (fun i => (i.zero, i.size, i.bytes)) = some (some (.agg #[.int .i64 0, .int .i64 0, .int .i64 0, .int .i64 0]), 4, 32) := by kernel_rfl
set_option maxHeartbeats 1000000 in
theorem copIns_any (l : List Ins) (hl : l.length ≤ 1000) (v : Value) (w : World) (hS : Sl w 4 v l.length (codeC l)) :
    Calls Tryz.prog 82 #[v] w fun e w' => ∃ v', e = .returned v' ∧ w'.ownsRow w.heap.size 83 4 v' l.length (codeC l) ∧ Below w.heap.size w w' := by
  obtain ⟨i0, hi, hz0, hz1, hz2⟩ := info_parts infoIns
  by_cases h0 : l.length = 0
  · obtain ⟨ao, cap, rfl⟩ := hS.form
    have hxs : l = [] := List.length_eq_zero_iff.1 h0
    subst hxs
    clear hS h0 hl
    go_enter Tryz.func82, Tryz.ntmps82
    cases ao
    all_goals
      go_wp2
      go_ret
      exact ⟨_, rfl, World.ownsRow_nil _ _ _ _, Below.refl _ _⟩
  · obtain ⟨b, off, cap, rfl, hcap, hbw, hc⟩ := hS.open (by omega)
    have HCC := Lib.hid hc
    clear hS hc
    go_enter Tryz.func82, Tryz.ntmps82
    go_wp2_with (at_builtin; refine wpList_append_lies _ rfl (.const (.slice none 0 0)) (.tmp 3) 47 rfl w.heap.size 83 i0 (.agg #[.int .i64 0, .int .i64 0, .int .i64 0, .int .i64 0]) 4 32 Tryz.underlying47 hi hz0 hz1 hz2 rfl (by decide) (.slice none 0 0) 0 [] rfl (World.ownsRow_nil _ _ _ _) ⟨b, off, none⟩ l.length cap (codeC l) rfl (codeC_len l) (sl_src HCC.out) (codeC_one l) (by omega) (by unfold maxLen; omega) (by omega) (Nat.le_refl _) _ rfl ?_)
    intro g cap1 w3 hown hgrow hat hglt
    have hu := Lib.hid ((Below.refl w.heap.size w).grown hgrow (Nat.le_refl _) (fun k hk => by cases hk))
    have hown2 : w3.ownsRow w.heap.size 83 4 (.slice (some ⟨g, 0, none⟩) l.length cap1) l.length (codeC l) := by simpa using hown
    have HO := Lib.hid hown2
    clear hown hown2 hgrow hat HCC
    try simp only [Nat.zero_add]
    go_wp2
    go_ret
    exact ⟨_, rfl, HO.out, hu.out⟩
theorem infoIntC : (Tryz.prog.info? 3).map (fun i => (i.zero, i.size, i.bytes)) = some (some (.int .i64 0), 1, 8) := by kernel_rfl
set_option maxHeartbeats 1000000 in
theorem copInt_any (l : List Int) (hl : l.length ≤ 1000) (v : Value) (w : World) (hS : Sl w 1 v l.length (ints l)) :
    Calls Tryz.prog 83 #[v] w fun e w' => ∃ v', e = .returned v' ∧ w'.ownsRow w.heap.size 3 1 v' l.length (ints l) ∧ Below w.heap.size w w' := by
  obtain ⟨i0, hi, hz0, hz1, hz2⟩ := info_parts infoIntC
  by_cases h0 : l.length = 0
  · obtain ⟨ao, cap, rfl⟩ := hS.form
    have hxs : l = [] := List.length_eq_zero_iff.1 h0
    subst hxs
    clear hS h0 hl
    go_enter Tryz.func83, Tryz.ntmps83
    cases ao
    all_goals
      go_wp2
      go_ret
      exact ⟨_, rfl, World.ownsRow_nil _ _ _ _, Below.refl _ _⟩
  · obtain ⟨b, off, cap, rfl, hcap, hbw, hc⟩ := hS.open (by omega)
    have HCC := Lib.hid hc
    clear hS hc
    go_enter Tryz.func83, Tryz.ntmps83
    go_wp2_with (at_builtin; refine wpList_append_lies _ rfl (.const (.slice none 0 0)) (.tmp 3) 33 rfl w.heap.size 3 i0 (.int .i64 0) 1 8 Tryz.underlying33 hi hz0 hz1 hz2 rfl (by decide) (.slice none 0 0) 0 [] rfl (World.ownsRow_nil _ _ _ _) ⟨b, off, none⟩ l.length cap (ints l) rfl (by simp [ints]) (sl_src HCC.out) (ints_cell l) (by omega) (by unfold maxLen; omega) (by omega) (Nat.le_refl _) _ rfl ?_)
    intro g cap1 w3 hown hgrow hat hglt
    have hu := Lib.hid ((Below.refl w.heap.size w).grown hgrow (Nat.le_refl _) (fun k hk => by cases hk))
    have hown2 : w3.ownsRow w.heap.size 3 1 (.slice (some ⟨g, 0, none⟩) l.length cap1) l.length (ints l) := by simpa using hown
    have HO := Lib.hid hown2
    clear hown hown2 hgrow hat HCC
    try simp only [Nat.zero_add]
    go_wp2
    go_ret
    exact ⟨_, rfl, HO.out, hu.out⟩
end Go.Proofs.YtehhhiodfcdnmaaGreatDoor

namespace Go.Proofs.YtehhhiodfcdnmaaGreatDoor
set_option linter.unusedSimpArgs false
set_option linter.unusedVariables false
open Go.RowKit Go.Sort
def thE (S : SysD) (part : Int) : Int := if chkS S = 0 then (if withinB part 0 ((S.parts.length : Int) - 1) then 0 else 5) else chkS S
theorem smallT {S : SysD} (h : chkS S = 0) : S.parts.length ≤ 4 ∧ S.chans.length ≤ 6 := by
  unfold chkS at h
  cases hb : countsB S with
  | false => rw [if_pos hb] at h; omega
  | true => simp [countsB] at hb; omega
set_option maxHeartbeats 2000000 in
theorem thereT_any (S : SysD) (hok : S.ok) (vp vc vs : Value) (part : Int) (w : World) (hS : Sys w vp vc vs S) (c : Int) (hc : thE S part = c) :
    Calls Tryz.prog 37 #[.agg #[vp, vc, vs], .int .i64 part] w fun e w' => e = .returned (.int .i64 c) ∧ Below w.heap.size w w' := by
  obtain ⟨pa, pc, rfl⟩ := hS.p.form
  obtain ⟨ca, cc, rfl⟩ := hS.c.form
  obtain ⟨sa, sc, rfl⟩ := hS.s.form
  unfold thE at hc
  generalize hr : chkS S = r at hc
  have HS := Lib.hid hS
  have HR := Lib.hid hr
  clear hS hr
  go_enter Tryz.func37, Tryz.ntmps37
  go_wp2_with fail
  refine (sysRef_any S hok _ _ _ _ (HS.out.up (by repeat (first | exact Below.refl _ _ | assumption | refine Below.drew ?_ | refine Below.alloc ?_ (by first | (simp; done) | (simp; omega)) _ | refine Below.setCell ?_ (by first | (simp; done) | (simp; omega)) _)))).mono ?_
  rw [HR.out]
  rintro e w1 ⟨rfl, bb⟩
  have k0 := ((box_new w (.slice pa S.parts.length pc) (.slice ca S.chans.length cc) (.slice sa S.slots.length sc) 26 _ rfl).up bb).p
  have D := Lib.hid (Below.trans (show Below w.heap.size w _ from (by repeat (first | exact Below.refl _ _ | assumption | refine Below.drew ?_ | refine Below.alloc ?_ (by first | (simp; done) | (simp; omega)) _ | refine Below.setCell ?_ (by first | (simp; done) | (simp; omega)) _))) (bb.mono (by simp)))
  clear bb
  by_cases h0 : r = 0
  · subst h0
    rw [if_pos rfl] at hc
    have sm := (smallT HR.out).1
    go_wp2_with fail
    refine (within_any part 0 ((S.parts.length : Int) - 1) _).mono ?_
    rintro e w2 ⟨rfl, rfl⟩
    cases hw : withinB part 0 ((S.parts.length : Int) - 1)
    all_goals
      rw [hw] at hc
      simp at hc
      subst hc
      go_wp2
      go_ret
      exact ⟨rfl, D.out⟩
  · have h0' : (r != 0) = true := by simpa using h0
    rw [if_neg h0] at hc
    subst hc
    clear h0
    go_wp2
    go_ret
    exact ⟨rfl, D.out⟩
set_option maxHeartbeats 1000000 in
theorem ThereT_any (S : SysD) (hok : S.ok) (vp vc vs : Value) (part : Int) (w : World) (hS : Sys w vp vc vs S) (c : Int) (hc : thE S part = c) :
    Calls Tryz.prog 11 #[.agg #[vp, vc, vs], .int .i64 part] w fun e w' => e = .returned (.int .i64 c) ∧ Below w.heap.size w w' := by
  obtain ⟨pa, pc, rfl⟩ := hS.p.form
  obtain ⟨ca, cc, rfl⟩ := hS.c.form
  obtain ⟨sa, sc, rfl⟩ := hS.s.form
  have HS := Lib.hid hS
  have HC := Lib.hid hc
  clear hS hc
  go_enter Tryz.func11, Tryz.ntmps11
  go_wp2_with fail
  refine (thereT_any S hok _ _ _ part _ (HS.out.up (by repeat (first | exact Below.refl _ _ | assumption | refine Below.drew ?_ | refine Below.alloc ?_ (by first | (simp; done) | (simp; omega)) _ | refine Below.setCell ?_ (by first | (simp; done) | (simp; omega)) _))) c HC.out).mono ?_
  rintro e w1 ⟨rfl, bb⟩
  have D := Lib.hid (Below.trans (show Below w.heap.size w _ from (by repeat (first | exact Below.refl _ _ | assumption | refine Below.drew ?_ | refine Below.alloc ?_ (by first | (simp; done) | (simp; omega)) _ | refine Below.setCell ?_ (by first | (simp; done) | (simp; omega)) _))) (bb.mono (by simp)))
  clear bb
  go_wp2
  go_ret
  exact ⟨rfl, D.out⟩
end Go.Proofs.YtehhhiodfcdnmaaGreatDoor

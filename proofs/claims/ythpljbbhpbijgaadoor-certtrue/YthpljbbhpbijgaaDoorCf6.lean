/- The reference's CheckSystem answers as conf.Check does. -/
import Derived.Test.YthpljbbhpbijgaaDoorCf5
namespace Go.Proofs.YthpljbbhpbijgaaDoor
set_option linter.unusedSimpArgs false
set_option linter.unusedVariables false
open Go.RowKit Go.Sort

set_option maxRecDepth 100000 in
set_option maxHeartbeats 8000000 in
theorem sysRef_any (S : SysD) (hok : S.ok) (vp vc vs : Value) (w : World) (hS : Sys w vp vc vs S) : Calls Tryd.prog 11 #[.agg #[vp, vc, vs]] w fun e w' => e = .returned (.int .i64 (chkS S)) ∧ Below w.heap.size w w' := by
  generalize hr : chkS S = r
  have HR := Lib.hid hr
  obtain ⟨pa, pc, rfl⟩ := hS.p.form
  obtain ⟨ca, cc, rfl⟩ := hS.c.form
  obtain ⟨sa, sc, rfl⟩ := hS.s.form
  have HS := Lib.hid hS
  have HOK : Hid (∀ k (hk : k < S.parts.length) j (hj : j < S.parts[k].code.length), S.parts[k].code[j].ok) := fun k hk => hok _ (List.getElem_mem hk)
  clear hS hr hok
  by_cases hA : 1 ≤ S.parts.length ∧ S.parts.length ≤ 4 ∧ S.chans.length ≤ 6 ∧ 1 ≤ S.slots.length ∧ S.slots.length ≤ 6
  · have H1 : Hid (withinB (S.parts.length : Int) 1 4 = true) := by show withinB _ _ _ = _; unfold withinB; simp; omega
    have H2 : ¬ (6 : Int) < (S.chans.length : Int) := by omega
    have H3 : Hid (withinB (S.slots.length : Int) 1 6 = true) := by show withinB _ _ _ = _; unfold withinB; simp; omega
    have HA := Lib.hid hA
    have hn1 : S.parts.length ≤ 4 := hA.2.1
    have hn2 : S.chans.length ≤ 6 := hA.2.2.1
    have hn3 : S.slots.length ≤ 6 := hA.2.2.2.2
    obtain ⟨pb, po, pc', e1, hpc, hpb, hpp⟩ := HS.out.p.open (by omega)
    cases e1
    have HP := Lib.hid hpp
    clear hA hpp
    go_enter Tryd.func11, Tryd.ntmps11
    go_wp2_with fail
    refine (within_any _ _ _ _).mono ?_
    rw [H1.out]
    rintro e w1 ⟨rfl, rfl⟩
    go_wp2_with fail
    refine (within_any _ _ _ _).mono ?_
    rw [H3.out]
    rintro e w1 ⟨rfl, rfl⟩
    go_wp2
    go_loopw [4] (fun i wr => ∃ k : Nat, i = .int .i64 k ∧ k ≤ S.parts.length ∧ Hid (∀ j (h : j < S.parts.length), j < k → S.parts[j].inn.length ≤ 12) ∧ Hid (Box wr w.heap.size (.slice (some ⟨pb, po, none⟩) S.parts.length pc) (.slice ca S.chans.length cc) (.slice sa S.slots.length sc)) ∧ Hid (Below w.heap.size w wr)) (fun i _ => S.parts.length - (intOf i).toNat)
    case atStart => exact ⟨0, rfl, Nat.zero_le _, fun j hj h => by omega, box_new w _ _ _ _ _ rfl, (by repeat (first | exact Below.refl _ _ | assumption | refine Below.drew ?_ | refine Below.alloc ?_ (by first | (simp; done) | (simp; omega)) _ | refine Below.setCell ?_ (by first | (simp; done) | (simp; omega)) _))⟩
    case round =>
      obtain ⟨k, rfl, hk, HN, HB, HT⟩ := hrel
      by_cases hlt : k < S.parts.length
      · have hli : (k : Int) < S.parts.length := by omega
        obtain ⟨c, i, c0, c1, hpr⟩ := HP.out k hlt
        obtain ⟨a2, b2, rfl⟩ := hpr.inn.form
        have c1 := bcl HT.out hpb c1
        have k0 := HB.out.p
        clear hpr c0
        by_cases h12 : 12 < S.parts[k].inn.length
        · have h12' : (12 : Int) < S.parts[k].inn.length := by omega
          have HRR := Lib.hid (chkS_counts (countsB_no2 hlt h12))
          go_wp2
          go_ret
          exact ⟨ret_int (by rw [← HR.out, HRR.out]), HT.out⟩
        · have h12' : ¬ (12 : Int) < S.parts[k].inn.length := by omega
          go_wp2
          go_roundw
          case rel => exact ⟨k + 1, by go_num, by omega, (fun j hj hjk => by
            by_cases e : j = k
            · subst e; omega
            · exact HN.out j hj (by omega)), HB, HT⟩
          case measure => simp [intOf]; omega
      · have hli : ¬ (k : Int) < S.parts.length := by omega
        have HC := Lib.hid (countsB_mk HA.out (fun j hj => HN.out j hj (by omega)))
        clear HN hk hlt
        go_wp2
        go_loopw [5] (fun i wr => ∃ k : Nat, i = .int .i64 k ∧ k ≤ S.parts.length ∧ Hid (∀ j (h : j < S.parts.length), j < k → chkC S.parts[j].code = 0) ∧ Hid (Box wr w.heap.size (.slice (some ⟨pb, po, none⟩) S.parts.length pc) (.slice ca S.chans.length cc) (.slice sa S.slots.length sc)) ∧ Hid (Below w.heap.size w wr)) (fun i _ => S.parts.length - (intOf i).toNat)
        case atStart => exact ⟨0, rfl, Nat.zero_le _, fun j hj h => by omega, HB, HT⟩
        case round =>
          clear HB HT hli
          obtain ⟨k, rfl, hk, HN, HB, HT⟩ := hrel
          by_cases hlt : k < S.parts.length
          · have hli : (k : Int) < S.parts.length := by omega
            obtain ⟨c, i, c0, c1, hpr⟩ := HP.out k hlt
            obtain ⟨a2, b2, rfl⟩ := hpr.code.form
            have c0 := bcl HT.out hpb c0
            have k0 := HB.out.p
            have HPR := Lib.hid hpr
            clear hpr c1
            generalize hcz : chkC S.parts[k].code = z
            have HCZ := Lib.hid hcz
            clear hcz
            go_wp2_with fail
            refine (codeRef_any S.parts[k].code (HOK.out k hlt) _ _ (HPR.out.code.up HT.out)).mono ?_
            rw [HCZ.out]
            rintro e w2 ⟨rfl, bb⟩
            have HT2 := Lib.hid (HT.out.trans (bb.mono HT.out.size))
            have HB2 := Lib.hid (HB.out.up bb)
            clear bb c0 k0 HB HT
            by_cases hz : z = 0
            · subst hz
              go_wp2
              go_roundw
              case rel => exact ⟨k + 1, by go_num, by omega, (fun j hj hjk => by
                by_cases e : j = k
                · subst e; exact HCZ.out
                · exact HN.out j hj (by omega)), HB2, HT2⟩
              case measure => simp [intOf]; omega
            · have hz' : (z != 0) = true := by simpa using hz
              have HRR := Lib.hid (chkS_code HC.out hlt HN.out HCZ.out hz)
              clear hz
              go_wp2
              go_ret
              exact ⟨ret_int (by rw [← HR.out, HRR.out]), HT2.out⟩
          · have hli : ¬ (k : Int) < S.parts.length := by omega
            have HZ : Hid (∀ j (hj : j < S.parts.length), chkC S.parts[j].code = 0) := fun j hj => HN.out j hj (by omega)
            have k1 := HB.out.c
            clear HN hk hlt
            go_wp2
            go_loopw [7] (fun i wr => ∃ k : Nat, i = .int .i64 k ∧ k ≤ S.chans.length ∧ Hid ((S.chans.take k).any kindBad = false) ∧ Hid (Box wr w.heap.size (.slice (some ⟨pb, po, none⟩) S.parts.length pc) (.slice ca S.chans.length cc) (.slice sa S.slots.length sc)) ∧ Hid (Below w.heap.size w wr)) (fun i _ => S.chans.length - (intOf i).toNat)
            case atStart => exact ⟨0, rfl, Nat.zero_le _, (show (S.chans.take 0).any kindBad = false by simp), HB, HT⟩
            case round =>
              clear HB HT hli k1
              obtain ⟨k, rfl, hk, HN, HB, HT⟩ := hrel
              have k1 := HB.out.c
              by_cases hlt : k < S.chans.length
              · have hli : (k : Int) < S.chans.length := by omega
                obtain ⟨b, off, cap', e1, hcap, hbw, hc⟩ := HS.out.c.open (by omega)
                cases e1
                obtain ⟨c0, c1, c2⟩ := chan_cells hc k hlt
                have c0 := bcl HT.out hbw c0
                clear hc c1 c2
                generalize hq : (S.chans[k].kd == 1 || S.chans[k].kd == 2) = q
                have HK : Hid (kindBad S.chans[k] = !q) := by show kindBad _ = _; unfold kindBad; rw [← hq]; simp [bne]
                have HQ := Lib.hid hq
                clear hq
                go_wp2_with fail
                refine (kindRef_any _ _).mono ?_
                rw [HQ.out]
                rintro e w2 ⟨rfl, rfl⟩
                cases q
                · have HRR := Lib.hid (chkS_kind HC.out HZ.out (any_mem hlt HK.out))
                  go_wp2
                  go_ret
                  exact ⟨ret_int (by rw [← HR.out, HRR.out]), HT.out⟩
                · have HN2 := Lib.hid (any_take hlt HN.out HK.out)
                  go_wp2
                  go_roundw
                  case rel => exact ⟨k + 1, by go_num, by omega, HN2, HB, HT⟩
                  case measure => simp [intOf]; omega
              · have hli : ¬ (k : Int) < S.chans.length := by omega
                have HKB := Lib.hid (any_all hlt HN.out)
                clear HN hk hlt
                go_wp2
                go_loopw [8] (fun i wr => ∃ k : Nat, i = .int .i64 k ∧ k ≤ S.chans.length ∧ Hid ((S.chans.take k).any (placeBad S.parts.length) = false) ∧ Hid (Box wr w.heap.size (.slice (some ⟨pb, po, none⟩) S.parts.length pc) (.slice ca S.chans.length cc) (.slice sa S.slots.length sc)) ∧ Hid (Below w.heap.size w wr)) (fun i _ => S.chans.length - (intOf i).toNat)
                case atStart => exact ⟨0, rfl, Nat.zero_le _, (show (S.chans.take 0).any (placeBad S.parts.length) = false by simp), HB, HT⟩
                case round =>
                  clear HB HT hli k1
                  obtain ⟨k, rfl, hk, HN, HB, HT⟩ := hrel
                  have k1 := HB.out.c
                  by_cases hlt : k < S.chans.length
                  · have hli : (k : Int) < S.chans.length := by omega
                    obtain ⟨b, off, cap', e1, hcap, hbw, hc⟩ := HS.out.c.open (by omega)
                    cases e1
                    obtain ⟨c0, c1, c2⟩ := chan_cells hc k hlt
                    have c0 := bcl HT.out hbw c0
                    have c1 := bcl HT.out hbw c1
                    have c2 := bcl HT.out hbw c2
                    clear hc
                    generalize h1 : withinB S.chans[k].fr 0 ((S.parts.length : Int) - 1) = q1
                    generalize h2 : withinB S.chans[k].tt 0 ((S.parts.length : Int) - 1) = q2
                    generalize h3 : (S.chans[k].fr == S.chans[k].tt) = q3
                    have HK : Hid (placeBad S.parts.length S.chans[k] = (!q1 || !q2 || q3)) := by show placeBad _ _ = _; unfold placeBad; rw [h1, h2, h3]
                    have H1 := Lib.hid h1
                    have H2 := Lib.hid h2
                    clear h1 h2
                    have HT2 : Hid (Below w.heap.size w (wr.alloc (.cells #[.int .i64 S.chans[k].kd, .int .i64 S.chans[k].fr, .int .i64 S.chans[k].tt] 75))) := HT.out.alloc HT.out.size _
                    have HB2 := Lib.hid (HB.out.up (w' := wr.alloc (.cells #[.int .i64 S.chans[k].kd, .int .i64 S.chans[k].fr, .int .i64 S.chans[k].tt] 75)) ((Below.refl _ _).alloc (Nat.le_refl _) _))
                    go_wp2_with fail
                    refine (within_any _ _ _ _).mono ?_
                    rw [H1.out]
                    rintro e w2 ⟨rfl, rfl⟩
                    cases q1
                    · have HRR := Lib.hid (chkS_places HC.out HZ.out HKB.out (placesB_no1 (any_mem hlt HK.out)))
                      go_wp2
                      go_ret
                      exact ⟨ret_int (by rw [← HR.out, HRR.out]), HT2.out⟩
                    · go_wp2_with fail
                      refine (within_any _ _ _ _).mono ?_
                      rw [H2.out]
                      rintro e w2 ⟨rfl, rfl⟩
                      cases q2
                      · have HRR := Lib.hid (chkS_places HC.out HZ.out HKB.out (placesB_no1 (any_mem hlt HK.out)))
                        go_wp2
                        go_ret
                        exact ⟨ret_int (by rw [← HR.out, HRR.out]), HT2.out⟩
                      · cases q3
                        · have HN2 := Lib.hid (any_take hlt HN.out HK.out)
                          go_wp2
                          go_roundw
                          case rel => exact ⟨k + 1, by go_num, by omega, HN2, HB2, HT2⟩
                          case measure => simp [intOf]; omega
                        · have HRR := Lib.hid (chkS_places HC.out HZ.out HKB.out (placesB_no1 (any_mem hlt HK.out)))
                          go_wp2
                          go_ret
                          exact ⟨ret_int (by rw [← HR.out, HRR.out]), HT2.out⟩
                  · have hli : ¬ (k : Int) < S.chans.length := by omega
                    have HPB := Lib.hid (any_all hlt HN.out)
                    have k2 := HB.out.s
                    clear HN hk hlt
                    go_wp2
                    go_loopw [10] (fun i wr => ∃ k : Nat, i = .int .i64 k ∧ k ≤ S.slots.length ∧ Hid ((S.slots.take k).any (slotBad S.parts.length) = false) ∧ Hid (Box wr w.heap.size (.slice (some ⟨pb, po, none⟩) S.parts.length pc) (.slice ca S.chans.length cc) (.slice sa S.slots.length sc)) ∧ Hid (Below w.heap.size w wr)) (fun i _ => S.slots.length - (intOf i).toNat)
                    case atStart => exact ⟨0, rfl, Nat.zero_le _, (show (S.slots.take 0).any (slotBad S.parts.length) = false by simp), HB, HT⟩
                    case round =>
                      clear HB HT hli k1 k2
                      obtain ⟨k, rfl, hk, HN, HB, HT⟩ := hrel
                      have k2 := HB.out.s
                      by_cases hlt : k < S.slots.length
                      · have hli : (k : Int) < S.slots.length := by omega
                        obtain ⟨b, off, cap', e1, hcap, hbw, hc⟩ := HS.out.s.open (by omega)
                        cases e1
                        obtain ⟨c0, c1⟩ := slot_cells hc k hlt
                        have c0 := bcl HT.out hbw c0
                        have c1 := bcl HT.out hbw c1
                        clear hc
                        generalize h1 : withinB S.slots[k].pt 0 ((S.parts.length : Int) - 1) = q1
                        generalize h2 : withinB S.slots[k].tk 1 8 = q2
                        have HK : Hid (slotBad S.parts.length S.slots[k] = (!q1 || !q2)) := by show slotBad _ _ = _; unfold slotBad; rw [h1, h2]
                        have H1 := Lib.hid h1
                        have H2 := Lib.hid h2
                        clear h1 h2
                        go_wp2_with fail
                        refine (within_any _ _ _ _).mono ?_
                        rw [H1.out]
                        rintro e w2 ⟨rfl, rfl⟩
                        cases q1
                        · have HRR := Lib.hid (chkS_places HC.out HZ.out HKB.out (placesB_no2 (any_mem hlt HK.out)))
                          go_wp2
                          go_ret
                          exact ⟨ret_int (by rw [← HR.out, HRR.out]), HT.out⟩
                        · go_wp2_with fail
                          refine (within_any _ _ _ _).mono ?_
                          rw [H2.out]
                          rintro e w2 ⟨rfl, rfl⟩
                          cases q2
                          · have HRR := Lib.hid (chkS_places HC.out HZ.out HKB.out (placesB_no2 (any_mem hlt HK.out)))
                            go_wp2
                            go_ret
                            exact ⟨ret_int (by rw [← HR.out, HRR.out]), HT.out⟩
                          · have HN2 := Lib.hid (any_take hlt HN.out HK.out)
                            go_wp2
                            go_roundw
                            case rel => exact ⟨k + 1, by go_num, by omega, HN2, HB, HT⟩
                            case measure => simp [intOf]; omega
                      · have hli : ¬ (k : Int) < S.slots.length := by omega
                        have HPL := Lib.hid (placesB_yes HPB.out (any_all hlt HN.out))
                        clear HN hk hlt HPB
                        go_wp2
                        go_loopw [11] (fun i wr => ∃ k : Nat, i = .int .i64 k ∧ k ≤ S.parts.length ∧ Hid (∀ j (h : j < S.parts.length), j < k → S.parts[j].code.any (insBad S.chans (j : Int)) = false) ∧ Hid (Box wr w.heap.size (.slice (some ⟨pb, po, none⟩) S.parts.length pc) (.slice ca S.chans.length cc) (.slice sa S.slots.length sc)) ∧ Hid (Below w.heap.size w wr)) (fun i _ => S.parts.length - (intOf i).toNat)
                        case atStart => exact ⟨0, rfl, Nat.zero_le _, (fun j hj h => by omega), HB, HT⟩
                        case round =>
                          clear HB HT hli k2
                          obtain ⟨k, rfl, hk, HN, HB, HT⟩ := hrel
                          by_cases hlt : k < S.parts.length
                          · have hli : (k : Int) < S.parts.length := by omega
                            obtain ⟨c, i, c0, c1, hpr⟩ := HP.out k hlt
                            obtain ⟨a2, b2, rfl⟩ := hpr.code.form
                            have HPR := Lib.hid hpr
                            have HC0 := Lib.hid c0
                            have hc20 : S.parts[k].code.length ≤ 20 := (chkC_zero (HZ.out k hlt)).2.1
                            clear hpr c1 c0
                            go_wp2
                            go_loopw [12] (fun i wr => ∃ m : Nat, i = .int .i64 m ∧ m ≤ S.parts[k].code.length ∧ Hid ((S.parts[k].code.take m).any (insBad S.chans (k : Int)) = false) ∧ Hid (Box wr w.heap.size (.slice (some ⟨pb, po, none⟩) S.parts.length pc) (.slice ca S.chans.length cc) (.slice sa S.slots.length sc)) ∧ Hid (Below w.heap.size w wr)) (fun i _ => S.parts[k].code.length - (intOf i).toNat)
                            case atStart => exact ⟨0, rfl, Nat.zero_le _, (show (S.parts[k].code.take 0).any (insBad S.chans (k : Int)) = false by simp), HB, HT⟩
                            case round =>
                              clear HB HT
                              obtain ⟨m, rfl, hm, HM, HB, HT⟩ := hrel
                              have k0 := HB.out.p
                              have k1 := HB.out.c
                              have c0 := bcl HT.out hpb HC0.out
                              by_cases hmt : m < S.parts[k].code.length
                              · have hmi : (m : Int) < S.parts[k].code.length := by omega
                                obtain ⟨cb, co, ccap, e1, hcc, hcb, hcs⟩ := HPR.out.code.open (by omega)
                                cases e1
                                obtain ⟨d0, d1, d2, d3⟩ := code_cells hcs m hmt
                                have d0 := bcl HT.out hcb d0
                                have d1 := bcl HT.out hcb d1
                                have d2 := bcl HT.out hcb d2
                                have d3 := bcl HT.out hcb d3
                                have k1' := cl_alloc (.cells #[.int .i64 S.parts[k].code[m].op, .int .i64 S.parts[k].code[m].a, .int .i64 S.parts[k].code[m].b, .int .i64 S.parts[k].code[m].n] 79) HB.out.lt k1
                                clear hcs
                                have hgl := HB.out.lt
                                by_cases ho : S.parts[k].code[m].op = 12
                                · have hne : Hid (insBad S.chans (k : Int) S.parts[k].code[m] = putBad S.chans (k : Int) S.parts[k].code[m].n) := by
                                    show insBad _ _ _ = _
                                    unfold insBad
                                    rw [ho]
                                    simp
                                  obtain ⟨n, hn, hn6⟩ : ∃ n : Nat, S.parts[k].code[m].n = n ∧ n < 6 := by
                                    have := chk_chan ((chkC_zero (HZ.out k hlt)).2.2 m hmt) (Or.inl ho)
                                    exact ⟨S.parts[k].code[m].n.toNat, by omega, by omega⟩
                                  rw [hn] at d3 hne
                                  rw [ho] at d0
                                  clear hn ho
                                  have hn0 : (0 : Int) ≤ n := by omega
                                  by_cases hnl : n < S.chans.length
                                  · have hni : (n : Int) < S.chans.length := by omega
                                    have hnd : ¬ (S.chans.length : Int) ≤ n := by omega
                                    obtain ⟨b, off, cap', e1, hcap, hbw, hc⟩ := HS.out.c.open (by omega)
                                    cases e1
                                    obtain ⟨f0, f1, f2⟩ := chan_cells hc n hnl
                                    have f1 := bcl HT.out hbw f1
                                    have f1' := cl_alloc (.cells #[.int .i64 12, .int .i64 S.parts[k].code[m].a, .int .i64 S.parts[k].code[m].b, .int .i64 (n : Int)] 79) (Nat.lt_of_lt_of_le hbw HT.out.size) f1
                                    generalize hq : (S.chans[n].fr != (k : Int)) = q
                                    have HK : Hid (insBad S.chans (k : Int) S.parts[k].code[m] = q) := by show insBad _ _ _ = q; rw [hne.out, putBad_lt hnl, hq]
                                    clear hc hne
                                    cases q
                                    · have HN2 := Lib.hid (any_take hmt HM.out HK.out)
                                      go_wp2
                                      go_roundw
                                      case rel => exact ⟨m + 1, by go_num, by omega, HN2, HB.out.up ((Below.refl _ _).alloc (Nat.le_refl _) _), HT.out.alloc HT.out.size _⟩
                                      case measure => simp [intOf]; omega
                                    · have HRR := Lib.hid (chkS_names HC.out HZ.out HKB.out HPL.out (namesB_no hlt (HZ.out k hlt) (any_mem hmt HK.out)))
                                      go_wp2
                                      go_ret
                                      exact ⟨ret_int (by rw [← HR.out, HRR.out]), HT.out.alloc HT.out.size _⟩
                                  · have hni : ¬ (n : Int) < S.chans.length := by omega
                                    have hnd : (S.chans.length : Int) ≤ n := by omega
                                    have HK : Hid (insBad S.chans (k : Int) S.parts[k].code[m] = true) := by show insBad _ _ _ = true; rw [hne.out, putBad_ge hnl]
                                    clear hne
                                    have HRR := Lib.hid (chkS_names HC.out HZ.out HKB.out HPL.out (namesB_no hlt (HZ.out k hlt) (any_mem hmt HK.out)))
                                    go_wp2
                                    go_ret
                                    exact ⟨ret_int (by rw [← HR.out, HRR.out]), HT.out.alloc HT.out.size _⟩
                                · by_cases ho2 : S.parts[k].code[m].op = 13
                                  · have hne : Hid (insBad S.chans (k : Int) S.parts[k].code[m] = getBad S.chans (k : Int) S.parts[k].code[m].n) := by
                                      show insBad _ _ _ = _
                                      unfold insBad
                                      rw [ho2]
                                      simp
                                    obtain ⟨n, hn, hn6⟩ : ∃ n : Nat, S.parts[k].code[m].n = n ∧ n < 6 := by
                                      have := chk_chan ((chkC_zero (HZ.out k hlt)).2.2 m hmt) (Or.inr ho2)
                                      exact ⟨S.parts[k].code[m].n.toNat, by omega, by omega⟩
                                    rw [hn] at d3 hne
                                    rw [ho2] at d0
                                    clear hn ho ho2
                                    have hn0 : (0 : Int) ≤ n := by omega
                                    by_cases hnl : n < S.chans.length
                                    · have hni : (n : Int) < S.chans.length := by omega
                                      have hnd : ¬ (S.chans.length : Int) ≤ n := by omega
                                      obtain ⟨b, off, cap', e1, hcap, hbw, hc⟩ := HS.out.c.open (by omega)
                                      cases e1
                                      obtain ⟨f0, f1, f2⟩ := chan_cells hc n hnl
                                      have f2 := bcl HT.out hbw f2
                                      have f2' := cl_alloc (.cells #[.int .i64 13, .int .i64 S.parts[k].code[m].a, .int .i64 S.parts[k].code[m].b, .int .i64 (n : Int)] 79) (Nat.lt_of_lt_of_le hbw HT.out.size) f2
                                      generalize hq : (S.chans[n].tt != (k : Int)) = q
                                      have HK : Hid (insBad S.chans (k : Int) S.parts[k].code[m] = q) := by show insBad _ _ _ = q; rw [hne.out, getBad_lt hnl, hq]
                                      clear hc hne
                                      cases q
                                      · have HN2 := Lib.hid (any_take hmt HM.out HK.out)
                                        go_wp2
                                        go_roundw
                                        case rel => exact ⟨m + 1, by go_num, by omega, HN2, HB.out.up ((Below.refl _ _).alloc (Nat.le_refl _) _), HT.out.alloc HT.out.size _⟩
                                        case measure => simp [intOf]; omega
                                      · have HRR := Lib.hid (chkS_names HC.out HZ.out HKB.out HPL.out (namesB_no hlt (HZ.out k hlt) (any_mem hmt HK.out)))
                                        go_wp2
                                        go_ret
                                        exact ⟨ret_int (by rw [← HR.out, HRR.out]), HT.out.alloc HT.out.size _⟩
                                    · have hni : ¬ (n : Int) < S.chans.length := by omega
                                      have hnd : (S.chans.length : Int) ≤ n := by omega
                                      have HK : Hid (insBad S.chans (k : Int) S.parts[k].code[m] = true) := by show insBad _ _ _ = true; rw [hne.out, getBad_ge hnl]
                                      clear hne
                                      have HRR := Lib.hid (chkS_names HC.out HZ.out HKB.out HPL.out (namesB_no hlt (HZ.out k hlt) (any_mem hmt HK.out)))
                                      go_wp2
                                      go_ret
                                      exact ⟨ret_int (by rw [← HR.out, HRR.out]), HT.out.alloc HT.out.size _⟩
                                  · have o1 : (S.parts[k].code[m].op == 12) = false := by simpa using ho
                                    have o2 : (S.parts[k].code[m].op == 13) = false := by simpa using ho2
                                    have HK : Hid (insBad S.chans (k : Int) S.parts[k].code[m] = false) := by show insBad _ _ _ = false; unfold insBad; rw [o1, o2]; rfl
                                    have HN2 := Lib.hid (any_take hmt HM.out HK.out)
                                    clear ho ho2
                                    go_wp2
                                    go_roundw
                                    case rel => exact ⟨m + 1, by go_num, by omega, HN2, HB.out.up ((Below.refl _ _).alloc (Nat.le_refl _) _), HT.out.alloc HT.out.size _⟩
                                    case measure => simp [intOf]; omega
                              · have hmi : ¬ (m : Int) < S.parts[k].code.length := by omega
                                have HM2 := Lib.hid (any_all hmt HM.out)
                                go_wp2
                                go_roundw
                                case rel => exact ⟨k + 1, by go_num, by omega, (fun j hj hjk => by
                                  by_cases e : j = k
                                  · subst e; exact HM2.out
                                  · exact HN.out j hj (by omega)), HB, HT⟩
                                case measure => simp [intOf]; omega
                          · have hli : ¬ (k : Int) < S.parts.length := by omega
                            have HRR := Lib.hid (chkS_ok HC.out HZ.out HKB.out HPL.out (namesB_yes HZ.out (fun j hj => HN.out j hj (by omega))))
                            go_wp2
                            go_ret
                            exact ⟨ret_int (by rw [← HR.out, HRR.out]), HT.out⟩
  · have HRR := Lib.hid (chkS_counts (countsB_no1 hA))
    generalize h1 : withinB (S.parts.length : Int) 1 4 = q1
    generalize h3 : withinB (S.slots.length : Int) 1 6 = q3
    have H1 := Lib.hid h1
    have H3 := Lib.hid h3
    have HQ : Hid (q1 = true → S.chans.length ≤ 6 → q3 = false) := by
      intro e1 e2
      subst e1
      cases q3
      · rfl
      · unfold withinB at h1 h3
        simp at h1 h3
        omega
    clear h1 h3 hA
    go_enter Tryd.func11, Tryd.ntmps11
    go_wp2_with fail
    refine (within_any _ _ _ _).mono ?_
    rw [H1.out]
    rintro e w1 ⟨rfl, rfl⟩
    cases q1
    · go_wp2
      go_ret
      exact ⟨ret_int (by rw [← HR.out, HRR.out]), (by repeat (first | exact Below.refl _ _ | assumption | refine Below.drew ?_ | refine Below.alloc ?_ (by first | (simp; done) | (simp; omega)) _ | refine Below.setCell ?_ (by first | (simp; done) | (simp; omega)) _))⟩
    · by_cases h6 : (6 : Int) < S.chans.length
      · go_wp2
        go_ret
        exact ⟨ret_int (by rw [← HR.out, HRR.out]), (by repeat (first | exact Below.refl _ _ | assumption | refine Below.drew ?_ | refine Below.alloc ?_ (by first | (simp; done) | (simp; omega)) _ | refine Below.setCell ?_ (by first | (simp; done) | (simp; omega)) _))⟩
      · have hq := HQ.out rfl (by omega)
        subst hq
        clear HQ
        go_wp2_with fail
        refine (within_any _ _ _ _).mono ?_
        rw [H3.out]
        rintro e w1 ⟨rfl, rfl⟩
        go_wp2
        go_ret
        exact ⟨ret_int (by rw [← HR.out, HRR.out]), (by repeat (first | exact Below.refl _ _ | assumption | refine Below.drew ?_ | refine Below.alloc ?_ (by first | (simp; done) | (simp; omega)) _ | refine Below.setCell ?_ (by first | (simp; done) | (simp; omega)) _))⟩
end Go.Proofs.YthpljbbhpbijgaaDoor

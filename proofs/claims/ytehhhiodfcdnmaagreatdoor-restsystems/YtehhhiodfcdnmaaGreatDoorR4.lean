/- The reference's CheckSystem answers as conf.Check does. -/
import Derived.Test.YtehhhiodfcdnmaaGreatDoorR3
import Derived.Test.YtehhhiodfcdnmaaGreatDoorR2
namespace Go.Proofs.YtehhhiodfcdnmaaGreatDoor
set_option linter.unusedSimpArgs false
set_option linter.unusedVariables false
set_option maxRecDepth 100000
set_option maxHeartbeats 8000000
open Go.RowKit Go.Sort
theorem sysRef_any (S : SysD) (hok : S.ok) (vp vc vs : Value) (w : World) (hS : Sys w vp vc vs S) : Calls Tryz.prog 33 #[.agg #[vp, vc, vs]] w fun e w' => e = .returned (.int .i64 (chkS S)) ∧ Below w.heap.size w w' := by
 generalize hr : chkS S = r
 have HR := hd hr
 obtain ⟨pa, pc, rfl⟩ := hS.p.form
 obtain ⟨ca, cc, rfl⟩ := hS.c.form
 obtain ⟨sa, sc, rfl⟩ := hS.s.form
 have HS := hd hS
 have HOK : Hid (∀ k (hk : k < S.parts.length) j (hj : j < S.parts[k].code.length), S.parts[k].code[j].ok) := fun k hk => hok _ (List.getElem_mem hk)
 clear hS hr hok
 by_cases hA : 1 ≤ S.parts.length ∧ S.parts.length ≤ 4 ∧ S.chans.length ≤ 6 ∧ 1 ≤ S.slots.length ∧ S.slots.length ≤ 6
 ·have H1 : Hid (withinB (S.parts.length : Int) 1 4 = true) := by show withinB _ _ _ = _; unfold withinB; simp; omega
  have H2 : ¬ (6 : Int) < (S.chans.length : Int) := by omega
  have H3 : Hid (withinB (S.slots.length : Int) 1 6 = true) := by show withinB _ _ _ = _; unfold withinB; simp; omega
  have HA := hd hA
  have hn1 : S.parts.length ≤ 4 := hA.2.1
  have hn2 : S.chans.length ≤ 6 := hA.2.2.1
  have hn3 : S.slots.length ≤ 6 := hA.2.2.2.2
  obtain ⟨pb, po, pc', e1, hpc, hpb, hpp⟩ := HS.out.p.open om
  cases e1
  have HP := hd hpp
  clear hA hpp
  go_enter Tryz.func33, Tryz.ntmps33
  go_wp2_with fail
  refine (within_any _ _ _ _).mono ?_
  rw [H1.out]
  rintro e w1 ⟨rfl, rfl⟩
  go_wp2_with fail
  refine (within_any _ _ _ _).mono ?_
  rw [H3.out]
  rintro e w1 ⟨rfl, rfl⟩
  go_wp2
  go_loopw [4] (fun i wr => ∃ k : Nat, i = .int .i64 k ∧ k ≤ S.parts.length ∧ Hid (∀ j (h : j < S.parts.length), j < k → S.parts[j].inn.length ≤ 12) ∧ Hid (Box wr w.heap.size (.slice (some ⟨pb, po, none⟩) S.parts.length pc) (.slice ca S.chans.length cc) (.slice sa S.slots.length sc)) ∧ Hid (Below w.heap.size w wr)) (fun i _ => S.parts.length - (intOf i).toNat)
  case atStart => exact ⟨0, rfl, Nat.zero_le _, fun j hj h => by omega, box_new w _ _ _ _ _ rfl, up0⟩
  case round =>
   obtain ⟨k, rfl, hk, HN, HB, HT⟩ := hrel
   by_cases hlt : k < S.parts.length
   ·have hli : (k : Int) < S.parts.length := by omega
    obtain ⟨c, i, c0, c1, hpr⟩ := HP.out k hlt
    obtain ⟨a2, b2, rfl⟩ := hpr.inn.form
    have c1 := bcl HT.out hpb c1
    have k0 := HB.out.p
    clear hpr c0
    by_cases h12 : 12 < S.parts[k].inn.length
    ·have h12' : (12 : Int) < S.parts[k].inn.length := by omega
     have HRR := hd (chkS_counts (countsB_no2 hlt h12))
     go_wp2
     go_ret
     exact ⟨ret_int (by rw [← HR.out, HRR.out]), HT.out⟩
    ·have h12' : ¬ (12 : Int) < S.parts[k].inn.length := by omega
     go_wp2
     go_roundw
     case rel => exact ⟨k + 1, by go_num, by omega, (fun j hj hjk => by
      by_cases e : j = k
      ·subst e; omega
      ·exact HN.out j hj om), HB, HT⟩
     case measure => simp [intOf]; omega
   ·have hli : ¬ (k : Int) < S.parts.length := by omega
    have HC := hd (countsB_mk HA.out (fun j hj => HN.out j hj om))
    clear HN hk hlt
    go_wp2
    go_loopw [5] (fun i wr => ∃ k : Nat, i = .int .i64 k ∧ k ≤ S.parts.length ∧ Hid (∀ j (h : j < S.parts.length), j < k → chkC S.parts[j].code = 0) ∧ Hid (Box wr w.heap.size (.slice (some ⟨pb, po, none⟩) S.parts.length pc) (.slice ca S.chans.length cc) (.slice sa S.slots.length sc)) ∧ Hid (Below w.heap.size w wr)) (fun i _ => S.parts.length - (intOf i).toNat)
    case atStart => exact ⟨0, rfl, Nat.zero_le _, fun j hj h => by omega, HB, HT⟩
    case round =>
     clear HB HT hli
     obtain ⟨k, rfl, hk, HN, HB, HT⟩ := hrel
     by_cases hlt : k < S.parts.length
     ·have hli : (k : Int) < S.parts.length := by omega
      obtain ⟨c, i, c0, c1, hpr⟩ := HP.out k hlt
      obtain ⟨a2, b2, rfl⟩ := hpr.code.form
      have c0 := bcl HT.out hpb c0
      have k0 := HB.out.p
      have HPR := hd hpr
      clear hpr c1
      generalize hcz : chkC S.parts[k].code = z
      have HCZ := hd hcz
      clear hcz
      go_wp2_with fail
      refine (codeRef_any S.parts[k].code (HOK.out k hlt) _ _ (HPR.out.code.up HT.out)).mono ?_
      rw [HCZ.out]
      rintro e w2 ⟨rfl, bb⟩
      have HT2 := hd (HT.out.trans (bb.mono HT.out.size))
      have HB2 := hd (HB.out.up bb)
      clear bb c0 k0 HB HT
      by_cases hz : z = 0
      ·subst hz
       go_wp2
       go_roundw
       case rel => exact ⟨k + 1, by go_num, by omega, (fun j hj hjk => by
        by_cases e : j = k
        ·subst e; exact HCZ.out
        ·exact HN.out j hj om), HB2, HT2⟩
       case measure => simp [intOf]; omega
      ·have hz' : (z != 0) = true := by simpa using hz
       have HRR := hd (chkS_code HC.out hlt HN.out HCZ.out hz)
       clear hz
       go_wp2
       go_ret
       exact ⟨ret_int (by rw [← HR.out, HRR.out]), HT2.out⟩
     ·have hli : ¬ (k : Int) < S.parts.length := by omega
      have HZ : Hid (∀ j (hj : j < S.parts.length), chkC S.parts[j].code = 0) := fun j hj => HN.out j hj om
      have k1 := HB.out.c
      clear HN hk hlt
      go_wp2
      go_loopw [7] (fun i wr => ∃ k : Nat, i = .int .i64 k ∧ k ≤ S.chans.length ∧ Hid ((S.chans.take k).any kindBad = false) ∧ Hid (Box wr w.heap.size (.slice (some ⟨pb, po, none⟩) S.parts.length pc) (.slice ca S.chans.length cc) (.slice sa S.slots.length sc)) ∧ Hid (Below w.heap.size w wr)) (fun i _ => S.chans.length - (intOf i).toNat)
      case atStart => exact ⟨0, rfl, Nat.zero_le _, (show (S.chans.take 0).any kindBad = false by simp), HB, HT⟩
      case round =>
       clear HB HT hli k1
       obtain ⟨k, rfl, hk, HN, HB, HT⟩ := hrel
       have k1 := HB.out.c
       by_cases hlt : k < S.chans.length
       ·have hli : (k : Int) < S.chans.length := by omega
        obtain ⟨b, off, cap', e1, hcap, hbw, hc⟩ := HS.out.c.open om
        cases e1
        obtain ⟨c0, c1, c2⟩ := chan_cells hc k hlt
        have c0 := bcl HT.out hbw c0
        clear hc c1 c2
        generalize hq : (S.chans[k].kd == 1 || S.chans[k].kd == 2) = q
        have HK : Hid (kindBad S.chans[k] = !q) := by show kindBad _ = _; unfold kindBad; rw [← hq]; simp [bne]
        have HQ := hd hq
        clear hq
        go_wp2_with fail
        refine (kindRef_any _ _).mono ?_
        rw [HQ.out]
        rintro e w2 ⟨rfl, rfl⟩
        cases q
        ·have HRR := hd (chkS_kind HC.out HZ.out (any_mem hlt HK.out))
         go_wp2
         go_ret
         exact ⟨ret_int (by rw [← HR.out, HRR.out]), HT.out⟩
        ·have HN2 := hd (any_take hlt HN.out HK.out)
         go_wp2
         go_roundw
         case rel => exact ⟨k + 1, by go_num, by omega, HN2, HB, HT⟩
         case measure => simp [intOf]; omega
       ·have hli : ¬ (k : Int) < S.chans.length := by omega
        have HKB := hd (any_all hlt HN.out)
        clear HN hk hlt
        go_wp2
        go_loopw [8] (fun i wr => ∃ k : Nat, i = .int .i64 k ∧ k ≤ S.chans.length ∧ Hid ((S.chans.take k).any (placeBad S.parts.length) = false) ∧ Hid (Box wr w.heap.size (.slice (some ⟨pb, po, none⟩) S.parts.length pc) (.slice ca S.chans.length cc) (.slice sa S.slots.length sc)) ∧ Hid (Below w.heap.size w wr)) (fun i _ => S.chans.length - (intOf i).toNat)
        case atStart => exact ⟨0, rfl, Nat.zero_le _, (show (S.chans.take 0).any (placeBad S.parts.length) = false by simp), HB, HT⟩
        case round =>
         clear HB HT hli k1
         obtain ⟨k, rfl, hk, HN, HB, HT⟩ := hrel
         have k1 := HB.out.c
         by_cases hlt : k < S.chans.length
         ·have hli : (k : Int) < S.chans.length := by omega
          obtain ⟨b, off, cap', e1, hcap, hbw, hc⟩ := HS.out.c.open om
          cases e1
          obtain ⟨c0, c1, c2⟩ := chan_cells hc k hlt
          have c0 := bcl HT.out hbw c0
          have c1 := bcl HT.out hbw c1
          have c2 := bcl HT.out hbw c2
          clear hc
          generalize h1 : withinB S.chans[k].fr 0 ((S.parts.length : Int) - 1) = q1
          generalize h2 : withinB S.chans[k].tt 0 ((S.parts.length : Int) - 1) = q2
          generalize h3 : (S.chans[k].fr == S.chans[k].tt) = q3
          have HK : Hid (placeBad S.parts.length S.chans[k] = (!q1 || !q2 || q3)) := by show placeBad _ _ = _; unfold placeBad; rw [h1, h2, h3]
          have H1 := hd h1
          have H2 := hd h2
          clear h1 h2
          have HT2 : Hid (Below w.heap.size w (wr.alloc (.cells #[.int .i64 S.chans[k].kd, .int .i64 S.chans[k].fr, .int .i64 S.chans[k].tt] 89))) := HT.out.alloc HT.out.size _
          have HB2 := hd (HB.out.up (w' := wr.alloc (.cells #[.int .i64 S.chans[k].kd, .int .i64 S.chans[k].fr, .int .i64 S.chans[k].tt] 89)) ((Below.refl _ _).alloc (Nat.le_refl _) _))
          go_wp2_with fail
          refine (within_any _ _ _ _).mono ?_
          rw [H1.out]
          rintro e w2 ⟨rfl, rfl⟩
          cases q1
          ·have HRR := hd (chkS_places HC.out HZ.out HKB.out (placesB_no1 (any_mem hlt HK.out)))
           go_wp2
           go_ret
           exact ⟨ret_int (by rw [← HR.out, HRR.out]), HT2.out⟩
          ·go_wp2_with fail
           refine (within_any _ _ _ _).mono ?_
           rw [H2.out]
           rintro e w2 ⟨rfl, rfl⟩
           cases q2
           ·have HRR := hd (chkS_places HC.out HZ.out HKB.out (placesB_no1 (any_mem hlt HK.out)))
            go_wp2
            go_ret
            exact ⟨ret_int (by rw [← HR.out, HRR.out]), HT2.out⟩
           ·cases q3
            ·have HN2 := hd (any_take hlt HN.out HK.out)
             go_wp2
             go_roundw
             case rel => exact ⟨k + 1, by go_num, by omega, HN2, HB2, HT2⟩
             case measure => simp [intOf]; omega
            ·have HRR := hd (chkS_places HC.out HZ.out HKB.out (placesB_no1 (any_mem hlt HK.out)))
             go_wp2
             go_ret
             exact ⟨ret_int (by rw [← HR.out, HRR.out]), HT2.out⟩
         ·have hli : ¬ (k : Int) < S.chans.length := by omega
          have HPB := hd (any_all hlt HN.out)
          have k2 := HB.out.s
          clear HN hk hlt
          go_wp2
          go_loopw [10] (fun i wr => ∃ k : Nat, i = .int .i64 k ∧ k ≤ S.slots.length ∧ Hid ((S.slots.take k).any (slotBad S.parts.length) = false) ∧ Hid (Box wr w.heap.size (.slice (some ⟨pb, po, none⟩) S.parts.length pc) (.slice ca S.chans.length cc) (.slice sa S.slots.length sc)) ∧ Hid (Below w.heap.size w wr)) (fun i _ => S.slots.length - (intOf i).toNat)
          case atStart => exact ⟨0, rfl, Nat.zero_le _, (show (S.slots.take 0).any (slotBad S.parts.length) = false by simp), HB, HT⟩
          case round =>
           clear HB HT hli k1 k2
           obtain ⟨k, rfl, hk, HN, HB, HT⟩ := hrel
           have k2 := HB.out.s
           by_cases hlt : k < S.slots.length
           ·have hli : (k : Int) < S.slots.length := by omega
            obtain ⟨b, off, cap', e1, hcap, hbw, hc⟩ := HS.out.s.open om
            cases e1
            obtain ⟨c0, c1⟩ := slot_cells hc k hlt
            have c0 := bcl HT.out hbw c0
            have c1 := bcl HT.out hbw c1
            clear hc
            generalize h1 : withinB S.slots[k].pt 0 ((S.parts.length : Int) - 1) = q1
            generalize h2 : withinB S.slots[k].tk 1 8 = q2
            have HK : Hid (slotBad S.parts.length S.slots[k] = (!q1 || !q2)) := by show slotBad _ _ = _; unfold slotBad; rw [h1, h2]
            have H1 := hd h1
            have H2 := hd h2
            clear h1 h2
            go_wp2_with fail
            refine (within_any _ _ _ _).mono ?_
            rw [H1.out]
            rintro e w2 ⟨rfl, rfl⟩
            cases q1
            ·have HRR := hd (chkS_places HC.out HZ.out HKB.out (placesB_no2 (any_mem hlt HK.out)))
             go_wp2
             go_ret
             exact ⟨ret_int (by rw [← HR.out, HRR.out]), HT.out⟩
            ·go_wp2_with fail
             refine (within_any _ _ _ _).mono ?_
             rw [H2.out]
             rintro e w2 ⟨rfl, rfl⟩
             cases q2
             ·have HRR := hd (chkS_places HC.out HZ.out HKB.out (placesB_no2 (any_mem hlt HK.out)))
              go_wp2
              go_ret
              exact ⟨ret_int (by rw [← HR.out, HRR.out]), HT.out⟩
             ·have HN2 := hd (any_take hlt HN.out HK.out)
              go_wp2
              go_roundw
              case rel => exact ⟨k + 1, by go_num, by omega, HN2, HB, HT⟩
              case measure => simp [intOf]; omega
           ·have hli : ¬ (k : Int) < S.slots.length := by omega
            have HPL := hd (placesB_yes HPB.out (any_all hlt HN.out))
            clear HN hk hlt HPB
            go_wp2
            go_loopw [11] (fun i wr => ∃ k : Nat, i = .int .i64 k ∧ k ≤ S.parts.length ∧ Hid (∀ j (h : j < S.parts.length), j < k → S.parts[j].code.any (insBad S.chans (j : Int)) = false) ∧ Hid (Box wr w.heap.size (.slice (some ⟨pb, po, none⟩) S.parts.length pc) (.slice ca S.chans.length cc) (.slice sa S.slots.length sc)) ∧ Hid (Below w.heap.size w wr)) (fun i _ => S.parts.length - (intOf i).toNat)
            case atStart => exact ⟨0, rfl, Nat.zero_le _, (fun j hj h => by omega), HB, HT⟩
            case round =>
             clear HB HT hli k2
             obtain ⟨k, rfl, hk, HN, HB, HT⟩ := hrel
             by_cases hlt : k < S.parts.length
             ·have hli : (k : Int) < S.parts.length := by omega
              obtain ⟨c, i, c0, c1, hpr⟩ := HP.out k hlt
              obtain ⟨a2, b2, rfl⟩ := hpr.code.form
              have HPR := hd hpr
              have HC0 := hd c0
              have hc20 : S.parts[k].code.length ≤ 20 := (chkC_zero (HZ.out k hlt)).2.1
              clear hpr c1 c0
              go_wp2
              go_loopw [12] (fun i wr => ∃ m : Nat, i = .int .i64 m ∧ m ≤ S.parts[k].code.length ∧ Hid ((S.parts[k].code.take m).any (insBad S.chans (k : Int)) = false) ∧ Hid (Box wr w.heap.size (.slice (some ⟨pb, po, none⟩) S.parts.length pc) (.slice ca S.chans.length cc) (.slice sa S.slots.length sc)) ∧ Hid (Below w.heap.size w wr)) (fun i _ => S.parts[k].code.length - (intOf i).toNat)
              case atStart => exact ⟨0, rfl, Nat.zero_le _, (show (S.parts[k].code.take 0).any (insBad S.chans (k : Int)) = false by simp), HB, HT⟩
              case round =>
               clear HB HT
               obtain ⟨m, rfl, hm, HM, HB, HT⟩ := hrel
               have k0 := HB.out.p
               have k1 := HB.out.c
               have c0 := bcl HT.out hpb HC0.out
               by_cases hmt : m < S.parts[k].code.length
               ·have hmi : (m : Int) < S.parts[k].code.length := by omega
                obtain ⟨cb, co, ccap, e1, hcc, hcb, hcs⟩ := HPR.out.code.open om
                cases e1
                obtain ⟨d0, d1, d2, d3⟩ := code_cells hcs m hmt
                have d0 := bcl HT.out hcb d0
                have d1 := bcl HT.out hcb d1
                have d2 := bcl HT.out hcb d2
                have d3 := bcl HT.out hcb d3
                have k1' := cl_alloc (.cells #[.int .i64 S.parts[k].code[m].op, .int .i64 S.parts[k].code[m].a, .int .i64 S.parts[k].code[m].b, .int .i64 S.parts[k].code[m].n] 83) HB.out.lt k1
                clear hcs
                have hgl := HB.out.lt
                by_cases ho : S.parts[k].code[m].op = 12
                ·have hne : Hid (insBad S.chans (k : Int) S.parts[k].code[m] = putBad S.chans (k : Int) S.parts[k].code[m].n) := by
                  show insBad _ _ _ = _
                  unfold insBad
                  rw [ho]
                  simp
                 obtain ⟨n, hn, hn6⟩ : ∃ n : Nat, S.parts[k].code[m].n = n ∧ n < 6 := by
                  have := chk_chan ((chkC_zero (HZ.out k hlt)).2.2 m hmt) (Or.inl ho)
                  exact ⟨S.parts[k].code[m].n.toNat, by omega, by omega⟩
                 rw [hn] at d3 hne
                 rw [ho] at d0
                 clear hn ho
                 have hn0 : (0 : Int) ≤ n := by omega
                 by_cases hnl : n < S.chans.length
                 ·have hni : (n : Int) < S.chans.length := by omega
                  have hnd : ¬ (S.chans.length : Int) ≤ n := by omega
                  obtain ⟨b, off, cap', e1, hcap, hbw, hc⟩ := HS.out.c.open om
                  cases e1
                  obtain ⟨f0, f1, f2⟩ := chan_cells hc n hnl
                  have f1 := bcl HT.out hbw f1
                  have f1' := cl_alloc (.cells #[.int .i64 12, .int .i64 S.parts[k].code[m].a, .int .i64 S.parts[k].code[m].b, .int .i64 (n : Int)] 83) (Nat.lt_of_lt_of_le hbw HT.out.size) f1
                  generalize hq : (S.chans[n].fr != (k : Int)) = q
                  have HK : Hid (insBad S.chans (k : Int) S.parts[k].code[m] = q) := by show insBad _ _ _ = q; rw [hne.out, putBad_lt hnl, hq]
                  clear hc hne
                  cases q
                  ·have HN2 := hd (any_take hmt HM.out HK.out)
                   go_wp2
                   go_roundw
                   case rel => exact ⟨m + 1, by go_num, by omega, HN2, HB.out.up ((Below.refl _ _).alloc (Nat.le_refl _) _), HT.out.alloc HT.out.size _⟩
                   case measure => simp [intOf]; omega
                  ·have HRR := hd (chkS_names HC.out HZ.out HKB.out HPL.out (namesB_no hlt (HZ.out k hlt) (any_mem hmt HK.out)))
                   go_wp2
                   go_ret
                   exact ⟨ret_int (by rw [← HR.out, HRR.out]), HT.out.alloc HT.out.size _⟩
                 ·have hni : ¬ (n : Int) < S.chans.length := by omega
                  have hnd : (S.chans.length : Int) ≤ n := by omega
                  have HK : Hid (insBad S.chans (k : Int) S.parts[k].code[m] = true) := by show insBad _ _ _ = true; rw [hne.out, putBad_ge hnl]
                  clear hne
                  have HRR := hd (chkS_names HC.out HZ.out HKB.out HPL.out (namesB_no hlt (HZ.out k hlt) (any_mem hmt HK.out)))
                  go_wp2
                  go_ret
                  exact ⟨ret_int (by rw [← HR.out, HRR.out]), HT.out.alloc HT.out.size _⟩
                ·by_cases ho2 : S.parts[k].code[m].op = 13
                 ·have hne : Hid (insBad S.chans (k : Int) S.parts[k].code[m] = getBad S.chans (k : Int) S.parts[k].code[m].n) := by
                   show insBad _ _ _ = _
                   unfold insBad
                   rw [ho2]
                   simp
                  obtain ⟨n, hn, hn6⟩ : ∃ n : Nat, S.parts[k].code[m].n = n ∧ n < 6 := by
                   have := chk_chan ((chkC_zero (HZ.out k hlt)).2.2 m hmt) (Or.inr ho2)
                   exact ⟨S.parts[k].code[m].n.toNat, by omega, by omega⟩
                  rw [hn] at d3 hne
                  rw [ho2] at d0
                  clear hn ho ho2
                  have hn0 : (0 : Int) ≤ n := by omega
                  by_cases hnl : n < S.chans.length
                  ·have hni : (n : Int) < S.chans.length := by omega
                   have hnd : ¬ (S.chans.length : Int) ≤ n := by omega
                   obtain ⟨b, off, cap', e1, hcap, hbw, hc⟩ := HS.out.c.open om
                   cases e1
                   obtain ⟨f0, f1, f2⟩ := chan_cells hc n hnl
                   have f2 := bcl HT.out hbw f2
                   have f2' := cl_alloc (.cells #[.int .i64 13, .int .i64 S.parts[k].code[m].a, .int .i64 S.parts[k].code[m].b, .int .i64 (n : Int)] 83) (Nat.lt_of_lt_of_le hbw HT.out.size) f2
                   generalize hq : (S.chans[n].tt != (k : Int)) = q
                   have HK : Hid (insBad S.chans (k : Int) S.parts[k].code[m] = q) := by show insBad _ _ _ = q; rw [hne.out, getBad_lt hnl, hq]
                   clear hc hne
                   cases q
                   ·have HN2 := hd (any_take hmt HM.out HK.out)
                    go_wp2
                    go_roundw
                    case rel => exact ⟨m + 1, by go_num, by omega, HN2, HB.out.up ((Below.refl _ _).alloc (Nat.le_refl _) _), HT.out.alloc HT.out.size _⟩
                    case measure => simp [intOf]; omega
                   ·have HRR := hd (chkS_names HC.out HZ.out HKB.out HPL.out (namesB_no hlt (HZ.out k hlt) (any_mem hmt HK.out)))
                    go_wp2
                    go_ret
                    exact ⟨ret_int (by rw [← HR.out, HRR.out]), HT.out.alloc HT.out.size _⟩
                  ·have hni : ¬ (n : Int) < S.chans.length := by omega
                   have hnd : (S.chans.length : Int) ≤ n := by omega
                   have HK : Hid (insBad S.chans (k : Int) S.parts[k].code[m] = true) := by show insBad _ _ _ = true; rw [hne.out, getBad_ge hnl]
                   clear hne
                   have HRR := hd (chkS_names HC.out HZ.out HKB.out HPL.out (namesB_no hlt (HZ.out k hlt) (any_mem hmt HK.out)))
                   go_wp2
                   go_ret
                   exact ⟨ret_int (by rw [← HR.out, HRR.out]), HT.out.alloc HT.out.size _⟩
                 ·have o1 : (S.parts[k].code[m].op == 12) = false := by simpa using ho
                  have o2 : (S.parts[k].code[m].op == 13) = false := by simpa using ho2
                  have HK : Hid (insBad S.chans (k : Int) S.parts[k].code[m] = false) := by show insBad _ _ _ = false; unfold insBad; rw [o1, o2]; rfl
                  have HN2 := hd (any_take hmt HM.out HK.out)
                  clear ho ho2
                  go_wp2
                  go_roundw
                  case rel => exact ⟨m + 1, by go_num, by omega, HN2, HB.out.up ((Below.refl _ _).alloc (Nat.le_refl _) _), HT.out.alloc HT.out.size _⟩
                  case measure => simp [intOf]; omega
               ·have hmi : ¬ (m : Int) < S.parts[k].code.length := by omega
                have HM2 := hd (any_all hmt HM.out)
                go_wp2
                go_roundw
                case rel => exact ⟨k + 1, by go_num, by omega, (fun j hj hjk => by
                 by_cases e : j = k
                 ·subst e; exact HM2.out
                 ·exact HN.out j hj om), HB, HT⟩
                case measure => simp [intOf]; omega
             ·have hli : ¬ (k : Int) < S.parts.length := by omega
              have HRR := hd (chkS_ok HC.out HZ.out HKB.out HPL.out (namesB_yes HZ.out (fun j hj => HN.out j hj om)))
              go_wp2
              go_ret
              exact ⟨ret_int (by rw [← HR.out, HRR.out]), HT.out⟩
 ·have HRR := hd (chkS_counts (countsB_no1 hA))
  generalize h1 : withinB (S.parts.length : Int) 1 4 = q1
  generalize h3 : withinB (S.slots.length : Int) 1 6 = q3
  have H1 := hd h1
  have H3 := hd h3
  have HQ : Hid (q1 = true → S.chans.length ≤ 6 → q3 = false) := by
   intro e1 e2
   subst e1
   cases q3
   ·rfl
   ·unfold withinB at h1 h3
    simp at h1 h3
    omega
  clear h1 h3 hA
  go_enter Tryz.func33, Tryz.ntmps33
  go_wp2_with fail
  refine (within_any _ _ _ _).mono ?_
  rw [H1.out]
  rintro e w1 ⟨rfl, rfl⟩
  cases q1
  ·go_wp2
   go_ret
   exact ⟨ret_int (by rw [← HR.out, HRR.out]), up0⟩
  ·by_cases h6 : (6 : Int) < S.chans.length
   ·go_wp2
    go_ret
    exact ⟨ret_int (by rw [← HR.out, HRR.out]), up0⟩
   ·have hq := HQ.out rfl om
    subst hq
    clear HQ
    go_wp2_with fail
    refine (within_any _ _ _ _).mono ?_
    rw [H3.out]
    rintro e w1 ⟨rfl, rfl⟩
    go_wp2
    go_ret
    exact ⟨ret_int (by rw [← HR.out, HRR.out]), up0⟩
def NewB (n : Nat) (v : Value) : Prop := ∀ k, v.ownBlock = some k → n ≤ k
theorem NewB.mono {n m : Nat} {v : Value} (h : NewB n v) (hm : m ≤ n) : NewB m v := fun k e => Nat.le_trans hm (h k e)
theorem newB_nil (n : Nat) (c : Nat) : NewB n (.slice none 0 c) := fun k e => by cases e
theorem newB_at {n g o l c : Nat} (h : n ≤ g) : NewB n (.slice (some ⟨g, o, none⟩) l c) := fun k e => by simp [Value.ownBlock] at e; omega
def PartsN (n : Nat) (w : World) (v : Value) (ps : List Prt) : Prop :=
 ∃ vs : List (Value × Value), vs.length = ps.length ∧ Sl w 2 v ps.length (rowC prC vs) ∧ NewB n v ∧ ∀ k (hk : k < ps.length) (hk' : k < vs.length), PrtR w vs[k].1 vs[k].2 ps[k] ∧ NewB n vs[k].1 ∧ NewB n vs[k].2
structure SysN (n : Nat) (w : World) (vp vc vs : Value) (S : SysD) : Prop where
 p : PartsN n w vp S.parts
 c : Sl w 3 vc S.chans.length (rowC chC S.chans)
 s : Sl w 2 vs S.slots.length (rowC slC S.slots)
 nc : NewB n vc
 ns : NewB n vs
theorem PartsN.r {n : Nat} {w : World} {v : Value} {ps : List Prt} (h : PartsN n w v ps) : PartsR w v ps := by
 obtain ⟨vs, h1, h2, _, h4⟩ := h
 exact ⟨vs, h1, h2, fun k hk hk' => (h4 k hk hk').1⟩
theorem SysN.sys {n : Nat} {w : World} {vp vc vs : Value} {S : SysD} (h : SysN n w vp vc vs S) : Sys w vp vc vs S := ⟨h.p.r, h.c, h.s⟩
theorem Sl.far {w : World} {size n m c j : Nat} {v : Value} {xs : List Value} (h : Sl w size v m xs) (hn : NewB n v) (hc : c < n) (u : Value) : Sl (w.setCell ⟨c, j, none⟩ u) size v m xs := h.set u (fun e => by have := hn c e; omega)
theorem SysN.set {n : Nat} {w : World} {vp vc vs : Value} {S : SysD} (h : SysN n w vp vc vs S) {c j : Nat} (hc : c < n) (u : Value) : SysN n (w.setCell ⟨c, j, none⟩ u) vp vc vs S := by
 obtain ⟨ps, h1, h2, h3, h4⟩ := h.p
 exact ⟨⟨ps, h1, h2.far h3 hc u, h3, fun k hk hk' => ⟨⟨(h4 k hk hk').1.code.far (h4 k hk hk').2.1 hc u, (h4 k hk hk').1.inn.far (h4 k hk hk').2.2 hc u⟩, (h4 k hk hk').2⟩⟩, h.c.far h.nc hc u, h.s.far h.ns hc u, h.nc, h.ns⟩
theorem SysN.up {n : Nat} {w w' : World} {vp vc vs : Value} {S : SysD} (h : SysN n w vp vc vs S) (hb : Below w.heap.size w w') : SysN n w' vp vc vs S := by
 obtain ⟨ps, h1, h2, h3, h4⟩ := h.p
 exact ⟨⟨ps, h1, h2.up hb, h3, fun k hk hk' => ⟨(h4 k hk hk').1.up hb, (h4 k hk hk').2⟩⟩, h.c.up hb, h.s.up hb, h.nc, h.ns⟩
theorem lit_sl (w : World) (xs : List Value) (t : TypeId) (g n size : Nat) (hg : g = w.heap.size) (hl : xs.length = n * size) : Sl (w.alloc (.cells xs.toArray t)) size (.slice (some ⟨g, 0, none⟩) n n) n xs := by
 subst hg
 refine ⟨hl, _, _, rfl, Nat.le_refl _, fun _ => ⟨_, 0, rfl, by simp, fun j u hj => ?_, fun j _ => World.frozen?_alloc_new ..⟩⟩
 rw [Nat.zero_add, World.cell?_alloc_new, ← Array.getElem?_toList]
 exact hj
theorem Sl.up1 {w : World} {size n : Nat} {v : Value} {xs : List Value} (h : Sl w size v n xs) (o : Obj) : Sl (w.alloc o) size v n xs := h.up ((Below.refl _ _).alloc (Nat.le_refl _) _)
def relayS : SysD := ⟨[⟨[⟨10, 0, 0, 0⟩, ⟨12, 0, 0, 0⟩, ⟨15, 0, 0, 0⟩], [6]⟩, ⟨tellerL, []⟩, ⟨[⟨13, 0, 1, 1⟩, ⟨9, 1, 0, 0⟩, ⟨11, 0, 0, 0⟩, ⟨15, 0, 0, 0⟩], []⟩, ⟨[⟨11, 0, 0, 0⟩, ⟨8, 0, 0, 0⟩], []⟩], [⟨2, 0, 1⟩, ⟨1, 1, 2⟩], [⟨0, 3⟩, ⟨1, 4⟩, ⟨3, 1⟩, ⟨2, 4⟩]⟩
theorem relay_chk : chkS relayS = 0 := by decide +kernel
theorem tellerN_any (w : World) : Calls Tryz.prog 78 #[] w fun e w' => e = .returned (.slice (some ⟨w.heap.size, 0, none⟩) 5 5) ∧ w' = w.alloc (.cells (codeC tellerL).toArray 83) := by
 go_enter Tryz.func78, Tryz.ntmps78
 go_wp2
 go_ret
 exact ⟨rfl, rfl⟩
theorem relay_any (w : World) : Calls Tryz.prog 40 #[] w fun e w' => ∃ vp vc vs, e = .returned (.agg #[vp, vc, vs]) ∧ SysN (w.heap.size + 1) w' vp vc vs relayS ∧ Below w.heap.size w w' := by
 go_enter Tryz.func40, Tryz.ntmps40
 go_wp2_with (go_at_call 78; refine (tellerN_any _).mono ?_; rintro e w1 ⟨rfl, rfl⟩)
 refine bodyPost_ret (v := .agg #[.slice (some ⟨w.heap.size + 1 + 1 + 1 + 1 + 1 + 1, 0, none⟩) 4 4, .slice (some ⟨w.heap.size + 1 + 1 + 1 + 1 + 1 + 1 + 1, 0, none⟩) 2 2, .slice (some ⟨w.heap.size + 1 + 1 + 1 + 1 + 1 + 1 + 1 + 1, 0, none⟩) 4 4]) (by simp [results, Tryz.f40, go_sem]) rfl ⟨_, _, _, rfl, ?_, up0⟩
 refine ⟨⟨[(.slice (some ⟨w.heap.size + 1, 0, none⟩) 3 3, .slice (some ⟨w.heap.size + 1 + 1, 0, none⟩) 1 1), (.slice (some ⟨w.heap.size + 1 + 1 + 1, 0, none⟩) 5 5, .slice none 0 0), (.slice (some ⟨w.heap.size + 1 + 1 + 1 + 1, 0, none⟩) 4 4, .slice none 0 0), (.slice (some ⟨w.heap.size + 1 + 1 + 1 + 1 + 1, 0, none⟩) 2 2, .slice none 0 0)], rfl, ?_, newB_at om, ?_⟩, ?_, ?_, newB_at om, newB_at om⟩
 ·exact (by repeat (first | exact lit_sl _ _ _ _ _ _ (by simp) rfl | refine Sl.up1 ?_ _))
 ·intro k hk hk'
  have hk4 : k = 0 ∨ k = 1 ∨ k = 2 ∨ k = 3 := by have : k < 4 := hk; omega
  rcases hk4 with rfl | rfl | rfl | rfl
  ·exact ⟨⟨(by repeat (first | exact lit_sl _ _ _ _ _ _ (by simp) rfl | refine Sl.up1 ?_ _)), (by repeat (first | exact lit_sl _ _ _ _ _ _ (by simp) rfl | refine Sl.up1 ?_ _))⟩, newB_at om, newB_at om⟩
  ·exact ⟨⟨(by repeat (first | exact lit_sl _ _ _ _ _ _ (by simp) rfl | refine Sl.up1 ?_ _)), Sl.nil _ _⟩, newB_at om, newB_nil _ _⟩
  ·exact ⟨⟨(by repeat (first | exact lit_sl _ _ _ _ _ _ (by simp) rfl | refine Sl.up1 ?_ _)), Sl.nil _ _⟩, newB_at om, newB_nil _ _⟩
  ·exact ⟨⟨(by repeat (first | exact lit_sl _ _ _ _ _ _ (by simp) rfl | refine Sl.up1 ?_ _)), Sl.nil _ _⟩, newB_at om, newB_nil _ _⟩
 ·exact (by repeat (first | exact lit_sl _ _ _ _ _ _ (by simp) rfl | refine Sl.up1 ?_ _))
 ·exact (by repeat (first | exact lit_sl _ _ _ _ _ _ (by simp) rfl | refine Sl.up1 ?_ _))
end Go.Proofs.YtehhhiodfcdnmaaGreatDoor

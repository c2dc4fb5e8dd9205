/- The reference's CheckSystem answers as conf.Check does. -/
import Derived.Test.YtbkdoohhdkahiaaGreatDoorJ6
import Derived.Test.YtbkdoohhdkahiaaGreatDoorJ3
import Derived.Maps.OwnOps
import Derived.Maps.OwnSet
import Derived.Test.YtbkdoohhdkahiaaGreatDoorFlShelf
namespace Go.Proofs.YtbkdoohhdkahiaaGreatDoor
set_option linter.unusedSimpArgs false
set_option linter.unusedVariables false
set_option maxRecDepth 100000
set_option maxHeartbeats 8000000
open Go.RowKit Go.Sort
variable {S : SysD} {a : Int} {b base cap g k n : Nat} {w w' : World} {row : Option Nat} {x : Edg} {zs : List Int}
theorem xm3 (S : SysD) (hok : S.ok) (vp vc vs : Value) (w : World) (hS : Sys w vp vc vs S) : Calls Tryz.prog 57 #[.agg #[vp, vc, vs]] w fun e w' => e = .returned (.int .i64 (xb3 S)) /\ Below w.heap.size w w' := by
 generalize hr : xb3 S = r
 have HR := hd hr
 obtain ⟨pa, pc, rfl⟩ := hS.p.form
 obtain ⟨ca, cc, rfl⟩ := hS.c.form
 obtain ⟨sa, sc, rfl⟩ := hS.s.form
 have HS := hd hS
 have HOK : Hid (∀ k (hk : k < S.parts.length) j (hj : j < S.parts[k].code.length), S.parts[k].code[j].ok) := fun k hk => hok _ (List.getElem_mem hk)
 clear hS hr hok
 by_cases hA : 1 <= S.parts.length /\ S.parts.length <= 4 /\ S.chans.length <= 6 /\ 1 <= S.slots.length /\ S.slots.length <= 6
 .have H1 : Hid (xaf (S.parts.length : Int) 1 4 = true) := by show xaf _ _ _ = _; unfold xaf; simp; omega
  have H2 : ¬ (6 : Int) < (S.chans.length : Int) := by omega
  have H3 : Hid (xaf (S.slots.length : Int) 1 6 = true) := by show xaf _ _ _ = _; unfold xaf; simp; omega
  have HA := hd hA
  have hn1 : S.parts.length <= 4 := hA.2.1
  have hn2 : S.chans.length <= 6 := hA.2.2.1
  have hn3 : S.slots.length <= 6 := hA.2.2.2.2
  obtain ⟨pb, po, pc', e1, hpc, hpb, hpp⟩ := HS.out.p.open om
  cases e1
  have HP := hd hpp
  clear hA hpp
  go_enter Tryz.func57, Tryz.ntmps57
  go_wp2_with fail
  refine (xao _ _ _ _).mono ?_
  rw [H1.out]
  rintro e w1 ⟨rfl, rfl⟩
  go_wp2_with fail
  refine (xao _ _ _ _).mono ?_
  rw [H3.out]
  rintro e w1 ⟨rfl, rfl⟩
  go_wp2
  go_loopw [4] (fun i wr => ∃ k : Nat, i = .int .i64 k /\ k <= S.parts.length /\ Hid (∀ j (h : j < S.parts.length), j < k -> S.parts[j].inn.length <= 12) /\ Hid (Box wr w.heap.size (.slice (some ⟨pb, po, none⟩) S.parts.length pc) (.slice ca S.chans.length cc) (.slice sa S.slots.length sc)) /\ Hid (Below w.heap.size w wr)) (fun i _ => S.parts.length - (intOf i).toNat)
  case atStart => exact ⟨0, rfl, Nat.zero_le _, fun j hj h => by omega, xci w _ _ _ _ _ rfl, up0⟩
  case round =>
   obtain ⟨k, rfl, hk, HN, HB, HT⟩ := hrel
   by_cases hlt : k < S.parts.length
   .have hli : (k : Int) < S.parts.length := by omega
    obtain ⟨c, i, c0, c1, hpr⟩ := HP.out k hlt
    obtain ⟨a2, b2, rfl⟩ := hpr.inn.form
    have c1 := bcl HT.out hpb c1
    have k0 := HB.out.p
    clear hpr c0
    by_cases h12 : 12 < S.parts[k].inn.length
    .have h12' : (12 : Int) < S.parts[k].inn.length := by omega
     have HRR := hd (xlk (xrc hlt h12))
     go_wp2
     go_ret
     exact ⟨xax (by rw [<- HR.out, HRR.out]), HT.out⟩
    .have h12' : ¬ (12 : Int) < S.parts[k].inn.length := by omega
     go_wp2
     go_roundw
     case rel => exact ⟨k + 1, by go_num, by omega, (fun j hj hjk => by
      by_cases e : j = k
      .subst e; omega
      .exact HN.out j hj om), HB, HT⟩
     case measure => simp [intOf]; omega
   .have hli : ¬ (k : Int) < S.parts.length := by omega
    have HC := hd (xuz HA.out (fun j hj => HN.out j hj om))
    clear HN hk hlt
    go_wp2
    go_loopw [5] (fun i wr => ∃ k : Nat, i = .int .i64 k /\ k <= S.parts.length /\ Hid (∀ j (h : j < S.parts.length), j < k -> xd3 S.parts[j].code = 0) /\ Hid (Box wr w.heap.size (.slice (some ⟨pb, po, none⟩) S.parts.length pc) (.slice ca S.chans.length cc) (.slice sa S.slots.length sc)) /\ Hid (Below w.heap.size w wr)) (fun i _ => S.parts.length - (intOf i).toNat)
    case atStart => exact ⟨0, rfl, Nat.zero_le _, fun j hj h => by omega, HB, HT⟩
    case round =>
     clear HB HT hli
     obtain ⟨k, rfl, hk, HN, HB, HT⟩ := hrel
     by_cases hlt : k < S.parts.length
     .have hli : (k : Int) < S.parts.length := by omega
      obtain ⟨c, i, c0, c1, hpr⟩ := HP.out k hlt
      obtain ⟨a2, b2, rfl⟩ := hpr.code.form
      have c0 := bcl HT.out hpb c0
      have k0 := HB.out.p
      have HPR := hd hpr
      clear hpr c1
      generalize hcz : xd3 S.parts[k].code = z
      have HCZ := hd hcz
      clear hcz
      go_wp2_with fail
      refine (xr6 S.parts[k].code (HOK.out k hlt) _ _ (HPR.out.code.up HT.out)).mono ?_
      rw [HCZ.out]
      rintro e w2 ⟨rfl, bb⟩
      have HT2 := hd (HT.out.trans (bb.mono HT.out.size))
      have HB2 := hd (HB.out.up bb)
      clear bb c0 k0 HB HT
      by_cases hz : z = 0
      .subst hz
       go_wp2
       go_roundw
       case rel => exact ⟨k + 1, by go_num, by omega, (fun j hj hjk => by
        by_cases e : j = k
        .subst e; exact HCZ.out
        .exact HN.out j hj om), HB2, HT2⟩
       case measure => simp [intOf]; omega
      .have hz' : (z != 0) = true := by simpa using hz
       have HRR := hd (xxx HC.out hlt HN.out HCZ.out hz)
       clear hz
       go_wp2
       go_ret
       exact ⟨xax (by rw [<- HR.out, HRR.out]), HT2.out⟩
     .have hli : ¬ (k : Int) < S.parts.length := by omega
      have HZ : Hid (∀ j (hj : j < S.parts.length), xd3 S.parts[j].code = 0) := fun j hj => HN.out j hj om
      have k1 := HB.out.c
      clear HN hk hlt
      go_wp2
      go_loopw [7] (fun i wr => ∃ k : Nat, i = .int .i64 k /\ k <= S.chans.length /\ Hid ((S.chans.take k).any xb4 = false) /\ Hid (Box wr w.heap.size (.slice (some ⟨pb, po, none⟩) S.parts.length pc) (.slice ca S.chans.length cc) (.slice sa S.slots.length sc)) /\ Hid (Below w.heap.size w wr)) (fun i _ => S.chans.length - (intOf i).toNat)
      case atStart => exact ⟨0, rfl, Nat.zero_le _, (show (S.chans.take 0).any xb4 = false by simp), HB, HT⟩
      case round =>
       clear HB HT hli k1
       obtain ⟨k, rfl, hk, HN, HB, HT⟩ := hrel
       have k1 := HB.out.c
       by_cases hlt : k < S.chans.length
       .have hli : (k : Int) < S.chans.length := by omega
        obtain ⟨b, off, cap', e1, hcap, hbw, hc⟩ := HS.out.c.open om
        cases e1
        obtain ⟨c0, c1, c2⟩ := xbt hc k hlt
        have c0 := bcl HT.out hbw c0
        clear hc c1 c2
        generalize hq : (S.chans[k].kd == 1 || S.chans[k].kd == 2) = q
        have HK : Hid (xb4 S.chans[k] = !q) := by show xb4 _ = _; unfold xb4; rw [<- hq]; simp [bne]
        have HQ := hd hq
        clear hq
        go_wp2_with fail
        refine (xq5 _ _).mono ?_
        rw [HQ.out]
        rintro e w2 ⟨rfl, rfl⟩
        cases q
        .have HRR := hd (xzj HC.out HZ.out (xc4 hlt HK.out))
         go_wp2
         go_ret
         exact ⟨xax (by rw [<- HR.out, HRR.out]), HT.out⟩
        .have HN2 := hd (xdp hlt HN.out HK.out)
         go_wp2
         go_roundw
         case rel => exact ⟨k + 1, by go_num, by omega, HN2, HB, HT⟩
         case measure => simp [intOf]; omega
       .have hli : ¬ (k : Int) < S.chans.length := by omega
        have HKB := hd (xf8 hlt HN.out)
        clear HN hk hlt
        go_wp2
        go_loopw [8] (fun i wr => ∃ k : Nat, i = .int .i64 k /\ k <= S.chans.length /\ Hid ((S.chans.take k).any (xb5 S.parts.length) = false) /\ Hid (Box wr w.heap.size (.slice (some ⟨pb, po, none⟩) S.parts.length pc) (.slice ca S.chans.length cc) (.slice sa S.slots.length sc)) /\ Hid (Below w.heap.size w wr)) (fun i _ => S.chans.length - (intOf i).toNat)
        case atStart => exact ⟨0, rfl, Nat.zero_le _, (show (S.chans.take 0).any (xb5 S.parts.length) = false by simp), HB, HT⟩
        case round =>
         clear HB HT hli k1
         obtain ⟨k, rfl, hk, HN, HB, HT⟩ := hrel
         have k1 := HB.out.c
         by_cases hlt : k < S.chans.length
         .have hli : (k : Int) < S.chans.length := by omega
          obtain ⟨b, off, cap', e1, hcap, hbw, hc⟩ := HS.out.c.open om
          cases e1
          obtain ⟨c0, c1, c2⟩ := xbt hc k hlt
          have c0 := bcl HT.out hbw c0
          have c1 := bcl HT.out hbw c1
          have c2 := bcl HT.out hbw c2
          clear hc
          generalize h1 : xaf S.chans[k].fr 0 ((S.parts.length : Int) - 1) = q1
          generalize h2 : xaf S.chans[k].tt 0 ((S.parts.length : Int) - 1) = q2
          generalize h3 : (S.chans[k].fr == S.chans[k].tt) = q3
          have HK : Hid (xb5 S.parts.length S.chans[k] = (!q1 || !q2 || q3)) := by show xb5 _ _ = _; unfold xb5; rw [h1, h2, h3]
          have H1 := hd h1
          have H2 := hd h2
          clear h1 h2
          have HT2 : Hid (Below w.heap.size w (wr.alloc (.cells #[.int .i64 S.chans[k].kd, .int .i64 S.chans[k].fr, .int .i64 S.chans[k].tt] 126))) := HT.out.alloc HT.out.size _
          have HB2 := hd (HB.out.up (w' := wr.alloc (.cells #[.int .i64 S.chans[k].kd, .int .i64 S.chans[k].fr, .int .i64 S.chans[k].tt] 126)) ((Below.refl _ _).alloc (Nat.le_refl _) _))
          go_wp2_with fail
          refine (xao _ _ _ _).mono ?_
          rw [H1.out]
          rintro e w2 ⟨rfl, rfl⟩
          cases q1
          .have HRR := hd (xen HC.out HZ.out HKB.out (xhl (xc4 hlt HK.out)))
           go_wp2
           go_ret
           exact ⟨xax (by rw [<- HR.out, HRR.out]), HT2.out⟩
          .go_wp2_with fail
           refine (xao _ _ _ _).mono ?_
           rw [H2.out]
           rintro e w2 ⟨rfl, rfl⟩
           cases q2
           .have HRR := hd (xen HC.out HZ.out HKB.out (xhl (xc4 hlt HK.out)))
            go_wp2
            go_ret
            exact ⟨xax (by rw [<- HR.out, HRR.out]), HT2.out⟩
           .cases q3
            .have HN2 := hd (xdp hlt HN.out HK.out)
             go_wp2
             go_roundw
             case rel => exact ⟨k + 1, by go_num, by omega, HN2, HB2, HT2⟩
             case measure => simp [intOf]; omega
            .have HRR := hd (xen HC.out HZ.out HKB.out (xhl (xc4 hlt HK.out)))
             go_wp2
             go_ret
             exact ⟨xax (by rw [<- HR.out, HRR.out]), HT2.out⟩
         .have hli : ¬ (k : Int) < S.chans.length := by omega
          have HPB := hd (xf8 hlt HN.out)
          have k2 := HB.out.s
          clear HN hk hlt
          go_wp2
          go_loopw [10] (fun i wr => ∃ k : Nat, i = .int .i64 k /\ k <= S.slots.length /\ Hid ((S.slots.take k).any (xcm S.parts.length) = false) /\ Hid (Box wr w.heap.size (.slice (some ⟨pb, po, none⟩) S.parts.length pc) (.slice ca S.chans.length cc) (.slice sa S.slots.length sc)) /\ Hid (Below w.heap.size w wr)) (fun i _ => S.slots.length - (intOf i).toNat)
          case atStart => exact ⟨0, rfl, Nat.zero_le _, (show (S.slots.take 0).any (xcm S.parts.length) = false by simp), HB, HT⟩
          case round =>
           clear HB HT hli k1 k2
           obtain ⟨k, rfl, hk, HN, HB, HT⟩ := hrel
           have k2 := HB.out.s
           by_cases hlt : k < S.slots.length
           .have hli : (k : Int) < S.slots.length := by omega
            obtain ⟨b, off, cap', e1, hcap, hbw, hc⟩ := HS.out.s.open om
            cases e1
            obtain ⟨c0, c1⟩ := xd9 hc k hlt
            have c0 := bcl HT.out hbw c0
            have c1 := bcl HT.out hbw c1
            clear hc
            generalize h1 : xaf S.slots[k].pt 0 ((S.parts.length : Int) - 1) = q1
            generalize h2 : xaf S.slots[k].tk 1 8 = q2
            have HK : Hid (xcm S.parts.length S.slots[k] = (!q1 || !q2)) := by show xcm _ _ = _; unfold xcm; rw [h1, h2]
            have H1 := hd h1
            have H2 := hd h2
            clear h1 h2
            go_wp2_with fail
            refine (xao _ _ _ _).mono ?_
            rw [H1.out]
            rintro e w2 ⟨rfl, rfl⟩
            cases q1
            .have HRR := hd (xen HC.out HZ.out HKB.out (xlq (xc4 hlt HK.out)))
             go_wp2
             go_ret
             exact ⟨xax (by rw [<- HR.out, HRR.out]), HT.out⟩
            .go_wp2_with fail
             refine (xao _ _ _ _).mono ?_
             rw [H2.out]
             rintro e w2 ⟨rfl, rfl⟩
             cases q2
             .have HRR := hd (xen HC.out HZ.out HKB.out (xlq (xc4 hlt HK.out)))
              go_wp2
              go_ret
              exact ⟨xax (by rw [<- HR.out, HRR.out]), HT.out⟩
             .have HN2 := hd (xdp hlt HN.out HK.out)
              go_wp2
              go_roundw
              case rel => exact ⟨k + 1, by go_num, by omega, HN2, HB, HT⟩
              case measure => simp [intOf]; omega
           .have hli : ¬ (k : Int) < S.slots.length := by omega
            have HPL := hd (xqo HPB.out (xf8 hlt HN.out))
            clear HN hk hlt HPB
            go_wp2
            go_loopw [11] (fun i wr => ∃ k : Nat, i = .int .i64 k /\ k <= S.parts.length /\ Hid (∀ j (h : j < S.parts.length), j < k -> S.parts[j].code.any (xb9 S.chans (j : Int)) = false) /\ Hid (Box wr w.heap.size (.slice (some ⟨pb, po, none⟩) S.parts.length pc) (.slice ca S.chans.length cc) (.slice sa S.slots.length sc)) /\ Hid (Below w.heap.size w wr)) (fun i _ => S.parts.length - (intOf i).toNat)
            case atStart => exact ⟨0, rfl, Nat.zero_le _, (fun j hj h => by omega), HB, HT⟩
            case round =>
             clear HB HT hli k2
             obtain ⟨k, rfl, hk, HN, HB, HT⟩ := hrel
             by_cases hlt : k < S.parts.length
             .have hli : (k : Int) < S.parts.length := by omega
              obtain ⟨c, i, c0, c1, hpr⟩ := HP.out k hlt
              obtain ⟨a2, b2, rfl⟩ := hpr.code.form
              have HPR := hd hpr
              have HC0 := hd c0
              have hc20 : S.parts[k].code.length <= 20 := (xem (HZ.out k hlt)).2.1
              clear hpr c1 c0
              go_wp2
              go_loopw [12] (fun i wr => ∃ m : Nat, i = .int .i64 m /\ m <= S.parts[k].code.length /\ Hid ((S.parts[k].code.take m).any (xb9 S.chans (k : Int)) = false) /\ Hid (Box wr w.heap.size (.slice (some ⟨pb, po, none⟩) S.parts.length pc) (.slice ca S.chans.length cc) (.slice sa S.slots.length sc)) /\ Hid (Below w.heap.size w wr)) (fun i _ => S.parts[k].code.length - (intOf i).toNat)
              case atStart => exact ⟨0, rfl, Nat.zero_le _, (show (S.parts[k].code.take 0).any (xb9 S.chans (k : Int)) = false by simp), HB, HT⟩
              case round =>
               clear HB HT
               obtain ⟨m, rfl, hm, HM, HB, HT⟩ := hrel
               have k0 := HB.out.p
               have k1 := HB.out.c
               have c0 := bcl HT.out hpb HC0.out
               by_cases hmt : m < S.parts[k].code.length
               .have hmi : (m : Int) < S.parts[k].code.length := by omega
                obtain ⟨cb, co, ccap, e1, hcc, hcb, hcs⟩ := HPR.out.code.open om
                cases e1
                obtain ⟨d0, d1, d2, d3⟩ := xdm hcs m hmt
                have d0 := bcl HT.out hcb d0
                have d1 := bcl HT.out hcb d1
                have d2 := bcl HT.out hcb d2
                have d3 := bcl HT.out hcb d3
                have k1' := xai (.cells #[.int .i64 S.parts[k].code[m].op, .int .i64 S.parts[k].code[m].a, .int .i64 S.parts[k].code[m].b, .int .i64 S.parts[k].code[m].n] 124) HB.out.lt k1
                clear hcs
                have hgl := HB.out.lt
                by_cases ho : S.parts[k].code[m].op = 12
                .have hne : Hid (xb9 S.chans (k : Int) S.parts[k].code[m] = xdf S.chans (k : Int) S.parts[k].code[m].n) := by
                  show xb9 _ _ _ = _
                  unfold xb9
                  rw [ho]
                  simp
                 obtain ⟨n, hn, hn6⟩ : ∃ n : Nat, S.parts[k].code[m].n = n /\ n < 6 := by
                  have := xh8 ((xem (HZ.out k hlt)).2.2 m hmt) (Or.inl ho)
                  exact ⟨S.parts[k].code[m].n.toNat, by omega, by omega⟩
                 rw [hn] at d3 hne
                 rw [ho] at d0
                 clear hn ho
                 have hn0 : (0 : Int) <= n := by omega
                 by_cases hnl : n < S.chans.length
                 .have hni : (n : Int) < S.chans.length := by omega
                  have hnd : ¬ (S.chans.length : Int) <= n := by omega
                  obtain ⟨b, off, cap', e1, hcap, hbw, hc⟩ := HS.out.c.open om
                  cases e1
                  obtain ⟨f0, f1, f2⟩ := xbt hc n hnl
                  have f1 := bcl HT.out hbw f1
                  have f1' := xai (.cells #[.int .i64 12, .int .i64 S.parts[k].code[m].a, .int .i64 S.parts[k].code[m].b, .int .i64 (n : Int)] 124) (Nat.lt_of_lt_of_le hbw HT.out.size) f1
                  generalize hq : (S.chans[n].fr != (k : Int)) = q
                  have HK : Hid (xb9 S.chans (k : Int) S.parts[k].code[m] = q) := by show xb9 _ _ _ = q; rw [hne.out, xyu hnl, hq]
                  clear hc hne
                  cases q
                  .have HN2 := hd (xdp hmt HM.out HK.out)
                   go_wp2
                   go_roundw
                   case rel => exact ⟨m + 1, by go_num, by omega, HN2, HB.out.up ((Below.refl _ _).alloc (Nat.le_refl _) _), HT.out.alloc HT.out.size _⟩
                   case measure => simp [intOf]; omega
                  .have HRR := hd (xgs HC.out HZ.out HKB.out HPL.out (xh7 hlt (HZ.out k hlt) (xc4 hmt HK.out)))
                   go_wp2
                   go_ret
                   exact ⟨xax (by rw [<- HR.out, HRR.out]), HT.out.alloc HT.out.size _⟩
                 .have hni : ¬ (n : Int) < S.chans.length := by omega
                  have hnd : (S.chans.length : Int) <= n := by omega
                  have HK : Hid (xb9 S.chans (k : Int) S.parts[k].code[m] = true) := by show xb9 _ _ _ = true; rw [hne.out, xyy hnl]
                  clear hne
                  have HRR := hd (xgs HC.out HZ.out HKB.out HPL.out (xh7 hlt (HZ.out k hlt) (xc4 hmt HK.out)))
                  go_wp2
                  go_ret
                  exact ⟨xax (by rw [<- HR.out, HRR.out]), HT.out.alloc HT.out.size _⟩
                .by_cases ho2 : S.parts[k].code[m].op = 13
                 .have hne : Hid (xb9 S.chans (k : Int) S.parts[k].code[m] = xdg S.chans (k : Int) S.parts[k].code[m].n) := by
                   show xb9 _ _ _ = _
                   unfold xb9
                   rw [ho2]
                   simp
                  obtain ⟨n, hn, hn6⟩ : ∃ n : Nat, S.parts[k].code[m].n = n /\ n < 6 := by
                   have := xh8 ((xem (HZ.out k hlt)).2.2 m hmt) (Or.inr ho2)
                   exact ⟨S.parts[k].code[m].n.toNat, by omega, by omega⟩
                  rw [hn] at d3 hne
                  rw [ho2] at d0
                  clear hn ho ho2
                  have hn0 : (0 : Int) <= n := by omega
                  by_cases hnl : n < S.chans.length
                  .have hni : (n : Int) < S.chans.length := by omega
                   have hnd : ¬ (S.chans.length : Int) <= n := by omega
                   obtain ⟨b, off, cap', e1, hcap, hbw, hc⟩ := HS.out.c.open om
                   cases e1
                   obtain ⟨f0, f1, f2⟩ := xbt hc n hnl
                   have f2 := bcl HT.out hbw f2
                   have f2' := xai (.cells #[.int .i64 13, .int .i64 S.parts[k].code[m].a, .int .i64 S.parts[k].code[m].b, .int .i64 (n : Int)] 124) (Nat.lt_of_lt_of_le hbw HT.out.size) f2
                   generalize hq : (S.chans[n].tt != (k : Int)) = q
                   have HK : Hid (xb9 S.chans (k : Int) S.parts[k].code[m] = q) := by show xb9 _ _ _ = q; rw [hne.out, xzb hnl, hq]
                   clear hc hne
                   cases q
                   .have HN2 := hd (xdp hmt HM.out HK.out)
                    go_wp2
                    go_roundw
                    case rel => exact ⟨m + 1, by go_num, by omega, HN2, HB.out.up ((Below.refl _ _).alloc (Nat.le_refl _) _), HT.out.alloc HT.out.size _⟩
                    case measure => simp [intOf]; omega
                   .have HRR := hd (xgs HC.out HZ.out HKB.out HPL.out (xh7 hlt (HZ.out k hlt) (xc4 hmt HK.out)))
                    go_wp2
                    go_ret
                    exact ⟨xax (by rw [<- HR.out, HRR.out]), HT.out.alloc HT.out.size _⟩
                  .have hni : ¬ (n : Int) < S.chans.length := by omega
                   have hnd : (S.chans.length : Int) <= n := by omega
                   have HK : Hid (xb9 S.chans (k : Int) S.parts[k].code[m] = true) := by show xb9 _ _ _ = true; rw [hne.out, xwu hnl]
                   clear hne
                   have HRR := hd (xgs HC.out HZ.out HKB.out HPL.out (xh7 hlt (HZ.out k hlt) (xc4 hmt HK.out)))
                   go_wp2
                   go_ret
                   exact ⟨xax (by rw [<- HR.out, HRR.out]), HT.out.alloc HT.out.size _⟩
                 .have o1 : (S.parts[k].code[m].op == 12) = false := by simpa using ho
                  have o2 : (S.parts[k].code[m].op == 13) = false := by simpa using ho2
                  have HK : Hid (xb9 S.chans (k : Int) S.parts[k].code[m] = false) := by show xb9 _ _ _ = false; unfold xb9; rw [o1, o2]; rfl
                  have HN2 := hd (xdp hmt HM.out HK.out)
                  clear ho ho2
                  go_wp2
                  go_roundw
                  case rel => exact ⟨m + 1, by go_num, by omega, HN2, HB.out.up ((Below.refl _ _).alloc (Nat.le_refl _) _), HT.out.alloc HT.out.size _⟩
                  case measure => simp [intOf]; omega
               .have hmi : ¬ (m : Int) < S.parts[k].code.length := by omega
                have HM2 := hd (xf8 hmt HM.out)
                go_wp2
                go_roundw
                case rel => exact ⟨k + 1, by go_num, by omega, (fun j hj hjk => by
                 by_cases e : j = k
                 .subst e; exact HM2.out
                 .exact HN.out j hj om), HB, HT⟩
                case measure => simp [intOf]; omega
             .have hli : ¬ (k : Int) < S.parts.length := by omega
              have HRR := hd (x25 HC.out HZ.out HKB.out HPL.out (xuw HZ.out (fun j hj => HN.out j hj om)))
              go_wp2
              go_ret
              exact ⟨xax (by rw [<- HR.out, HRR.out]), HT.out⟩
 .have HRR := hd (xlk (xq4 hA))
  generalize h1 : xaf (S.parts.length : Int) 1 4 = q1
  generalize h3 : xaf (S.slots.length : Int) 1 6 = q3
  have H1 := hd h1
  have H3 := hd h3
  have HQ : Hid (q1 = true -> S.chans.length <= 6 -> q3 = false) := by
   intro e1 e2
   subst e1
   cases q3
   .rfl
   .unfold xaf at h1 h3
    simp at h1 h3
    omega
  clear h1 h3 hA
  go_enter Tryz.func57, Tryz.ntmps57
  go_wp2_with fail
  refine (xao _ _ _ _).mono ?_
  rw [H1.out]
  rintro e w1 ⟨rfl, rfl⟩
  cases q1
  .go_wp2
   go_ret
   exact ⟨xax (by rw [<- HR.out, HRR.out]), up0⟩
  .by_cases h6 : (6 : Int) < S.chans.length
   .go_wp2
    go_ret
    exact ⟨xax (by rw [<- HR.out, HRR.out]), up0⟩
   .have hq := HQ.out rfl om
    subst hq
    clear HQ
    go_wp2_with fail
    refine (xao _ _ _ _).mono ?_
    rw [H3.out]
    rintro e w1 ⟨rfl, rfl⟩
    go_wp2
    go_ret
    exact ⟨xax (by rw [<- HR.out, HRR.out]), up0⟩
open Go.RowKit Go.Sort Go.Shelf Go.Lib
def xfd (a b : Int) (c : Chn) : Bool := (c.fr == a && c.tt == b) || (c.kd == 2 && c.fr == b && c.tt == a)
def xbx (S : SysD) (a b : Int) : Bool := S.chans.any (xfd a b)
theorem xyg {b : Int} (hk : k < S.chans.length) (h : xfd a b S.chans[k] = true) : xbx S a b = true := List.any_eq_true.2 ⟨_, List.getElem_mem hk, h⟩
theorem x1v {b : Int} (h : ∀ j (hj : j < S.chans.length), xfd a b S.chans[j] = false) : xbx S a b = false := by
 unfold xbx
 rw [List.any_eq_false]
 intro c hc
 obtain ⟨j, hj, rfl⟩ := List.getElem_of_mem hc
 rw [h j hj]
 decide
theorem xot (S : SysD) (hl : S.chans.length <= 6) (a b : Int) (vp vc vs : Value) (w : World) (hS : Sys w vp vc vs S) : Calls Tryz.prog 108 #[.agg #[vp, vc, vs], .int .i64 a, .int .i64 b] w fun e w' => e = .returned (.bool (xbx S a b)) /\ Below w.heap.size w w' := by
 generalize hr : xbx S a b = r
 have HR := hd hr
 obtain ⟨pa, pc, rfl⟩ := hS.p.form
 obtain ⟨ca, cc, rfl⟩ := hS.c.form
 obtain ⟨sa, sc, rfl⟩ := hS.s.form
 have HS := hd hS
 clear hS hr
 go_enter Tryz.func108, Tryz.ntmps108
 go_wp2
 go_loopw [7] (fun i wr => ∃ k : Nat, i = .int .i64 k /\ k <= S.chans.length /\ Hid (∀ j (h : j < S.chans.length), j < k -> xfd a b S.chans[j] = false) /\ Hid (Box wr w.heap.size (.slice pa S.parts.length pc) (.slice ca S.chans.length cc) (.slice sa S.slots.length sc)) /\ Hid (Below w.heap.size w wr)) (fun i _ => S.chans.length - (intOf i).toNat)
 case atStart => exact ⟨0, rfl, Nat.zero_le _, fun j hj h => by omega, xci w _ _ _ _ _ rfl, up0⟩
 case round =>
  obtain ⟨k, rfl, hk, HN, HB, HT⟩ := hrel
  have k0 := HB.out.c
  by_cases hlt : k < S.chans.length
  .have hli : (k : Int) < S.chans.length := by omega
   have h0i : (0 : Int) <= k := by omega
   obtain ⟨b', off, cap, e1, hcap, hbw, hc⟩ := HS.out.c.open om
   cases e1
   obtain ⟨hkd, hfr, htt⟩ := xbt hc k hlt
   have hws := HT.out.size
   have c0 := bcl HT.out hbw hkd
   have c1 := bcl HT.out hbw hfr
   have c2 := bcl HT.out hbw htt
   have hbr : b' < wr.heap.size := by omega
   have hbr' : b' ≠ wr.heap.size := by omega
   have hyes := hd (fun (h : xfd a b S.chans[k] = true) => (HR.out.symm.trans (xyg hlt h)))
   have hno : Hid (xfd a b S.chans[k] = false -> ∀ j (h : j < S.chans.length), j < k + 1 -> xfd a b S.chans[j] = false) := hd (fun h j hj hjk => by
    by_cases e : j = k
    .subst e; exact h
    .exact HN.out j hj om)
   generalize S.chans[k] = ch at c0 c1 c2 hyes hno
   obtain ⟨kd, fr, tt⟩ := ch
   simp only at c0 c1 c2
   clear hkd hfr htt hc HN
   by_cases h1 : fr = a
   .subst h1
    by_cases h2 : tt = b
    .subst h2
     go_wp2
     go_ret
     exact ⟨by rw [hyes.out (by simp [xfd])]; rfl, HT.out.alloc hws _⟩
    .by_cases h3 : kd = 2
     .subst h3
      by_cases h4 : fr = b
      .subst h4
       go_wp2
       go_roundw
       case rel => exact ⟨k + 1, by go_num, by omega, hd (hno.out (by simp [xfd, h2])), hd (HB.out.up ((Below.refl _ _).alloc (Nat.le_refl _) _)), hd (HT.out.alloc hws _)⟩
       case measure => simp [intOf]; omega
      .go_wp2
       go_roundw
       case rel => exact ⟨k + 1, by go_num, by omega, hd (hno.out (by simp [xfd, h2, h4])), hd (HB.out.up ((Below.refl _ _).alloc (Nat.le_refl _) _)), hd (HT.out.alloc hws _)⟩
       case measure => simp [intOf]; omega
     .go_wp2
      go_roundw
      case rel => exact ⟨k + 1, by go_num, by omega, hd (hno.out (by simp [xfd, h2, h3])), hd (HB.out.up ((Below.refl _ _).alloc (Nat.le_refl _) _)), hd (HT.out.alloc hws _)⟩
      case measure => simp [intOf]; omega
   .by_cases h3 : kd = 2
    .subst h3
     by_cases h4 : fr = b
     .subst h4
      by_cases h5 : tt = a
      .subst h5
       go_wp2
       go_ret
       exact ⟨by rw [hyes.out (by simp [xfd])]; rfl, HT.out.alloc hws _⟩
      .go_wp2
       go_roundw
       case rel => exact ⟨k + 1, by go_num, by omega, hd (hno.out (by simp [xfd, h1, h5])), hd (HB.out.up ((Below.refl _ _).alloc (Nat.le_refl _) _)), hd (HT.out.alloc hws _)⟩
       case measure => simp [intOf]; omega
     .go_wp2
      go_roundw
      case rel => exact ⟨k + 1, by go_num, by omega, hd (hno.out (by simp [xfd, h1, h4])), hd (HB.out.up ((Below.refl _ _).alloc (Nat.le_refl _) _)), hd (HT.out.alloc hws _)⟩
      case measure => simp [intOf]; omega
    .go_wp2
     go_roundw
     case rel => exact ⟨k + 1, by go_num, by omega, hd (hno.out (by simp [xfd, h1, h3])), hd (HB.out.up ((Below.refl _ _).alloc (Nat.le_refl _) _)), hd (HT.out.alloc hws _)⟩
     case measure => simp [intOf]; omega
  .have hli : ¬ (k : Int) < S.chans.length := by omega
   have hno := x1v (fun j hj => HN.out j hj om)
   go_wp2
   go_ret
   exact ⟨by rw [<- HR.out, hno]; rfl, HT.out⟩
def x0p (S : SysD) (a : Nat) (m : Nat) : List Edg := ((List.range m).filter fun (b : Nat) => xbx S a b).map fun (b : Nat) => ⟨a, b⟩
def x1k (S : SysD) (n : Nat) (k : Nat) : List Edg := (List.range k).flatMap fun a => x0p S a n
def xcq (S : SysD) : List Edg := x1k S S.parts.length S.parts.length
theorem xzr (S : SysD) (a m : Nat) : x0p S a (m + 1) = x0p S a m ++ if xbx S a m then [⟨a, m⟩] else [] := by
 unfold x0p
 rw [List.range_succ, List.filter_append, List.map_append]
 congr 1
 by_cases h : xbx S a m = true
 .simp [h]
 .simp [h]
theorem xxi (S : SysD) (n k : Nat) : x1k S n (k + 1) = x1k S n k ++ x0p S k n := by
 unfold x1k
 rw [List.range_succ, List.flatMap_append]
 simp
theorem xf3 {e : TypeId} {size : Nat} {v : Value} {xs : List Value} (h : w.ownsRow base e size v n xs) (hb : Below w.heap.size w w') : w'.ownsRow base e size v n xs := by
 have hlt := h.lt
 refine ⟨h.1, ?_⟩
 rcases h.2 with hn | ⟨g, cap, cur, rfl, hg, hh, r⟩
 .exact .inl hn
 .exact .inr ⟨g, cap, cur, rfl, hg, by rw [hb.block g (hlt g rfl).2]; exact hh, r⟩
theorem Box.grownF {vp vc vs : Value} (h : Box w g vp vc vs) (hg : w.grownBy w' row) (hne : some g ≠ row) : Box w' g vp vc vs :=
 ⟨(hg.cell_far ⟨g, 0, none⟩ h.lt hne).trans h.p, (hg.cell_far ⟨g, 1, none⟩ h.lt hne).trans h.c, (hg.cell_far ⟨g, 2, none⟩ h.lt hne).trans h.s, Nat.lt_of_lt_of_le h.lt hg.size⟩
def ltE (x y : Edg) : Prop := x.fr < y.fr \/ (x.fr = y.fr /\ x.tt < y.tt)
theorem xrs (h : ltE x x) : False := by unfold ltE at h; omega
theorem xy9 {y z : Edg} (h : ltE x y) (h2 : ltE y z) : ltE x z := by unfold ltE at *; omega
theorem x4t (x y : Edg) : ltOf xrx x y = true ↔ ltE x y := by
 unfold ltOf xrx orI x2j ltE
 rw [decide_eq_true_iff]
 repeat' split
 all_goals omega
theorem xm7 : ∀ (l1 l2 : List Edg), l1.Pairwise ltE -> l2.Pairwise ltE -> (∀ x, x ∈ l1 ↔ x ∈ l2) -> l1 = l2
 | [], [], _, _, _ => rfl
 | [], b :: r, _, _, h => absurd ((h b).2 (by simp)) (by simp)
 | a :: r, [], _, _, h => absurd ((h a).1 (by simp)) (by simp)
 | a :: r1, b :: r2, h1, h2, h => by
  rw [List.pairwise_cons] at h1 h2
  have ha : a ∈ b :: r2 := (h a).1 (by simp)
  have hb : b ∈ a :: r1 := (h b).2 (by simp)
  have hab : a = b := by
   rcases List.mem_cons.1 ha with e | ha
   .exact e
   .rcases List.mem_cons.1 hb with e | hb
    .exact e.symm
    .exact absurd (xy9 (h2.1 a ha) (h1.1 b hb)) (fun h => xrs h)
  subst hab
  congr 1
  refine xm7 r1 r2 h1.2 h2.2 fun x => ⟨fun hx => ?_, fun hx => ?_⟩
  .rcases List.mem_cons.1 ((h x).1 (List.mem_cons_of_mem _ hx)) with e | hx2
   .subst e
    exact absurd (h1.1 x hx) (fun h => xrs h)
   .exact hx2
  .rcases List.mem_cons.1 ((h x).2 (List.mem_cons_of_mem _ hx)) with e | hx2
   .subst e
    exact absurd (h2.1 x hx) (fun h => xrs h)
   .exact hx2
theorem xnw : ∀ (l : List Edg) (x : Edg), x ∈ xce l ↔ x ∈ l
 | [], x => by simp [xce]
 | [a], x => by simp [xce]
 | a :: b :: r, x => by
  have ih := xnw (b :: r) x
  rw [xce]
  split
  .rename_i e
   subst e
   rw [ih]
   simp
  .rw [List.mem_cons, ih, List.mem_cons (a := x) (b := a)]
def leE (x y : Edg) : Prop := ¬ ltE y x
theorem xp8 : ∀ (l : List Edg), l.Pairwise leE -> (xce l).Pairwise ltE
 | [], _ => by simp [xce]
 | [a], _ => by simp [xce]
 | a :: b :: r, h => by
  have h' := List.pairwise_cons.1 h
  have ih := xp8 (b :: r) h'.2
  rw [xce]
  split
  .exact ih
  .rename_i hne
   rw [List.pairwise_cons]
   refine ⟨fun x hx => ?_, ih⟩
   have hx := (xnw _ _).1 hx
   have hab : ltE a b := by
    have := h'.1 b (by simp)
    unfold leE ltE at this
    unfold ltE
    have hn : ¬ (a.fr = b.fr /\ a.tt = b.tt) := fun e => hne (by cases a; cases b; simp at e; simp [e])
    omega
   rcases List.mem_cons.1 hx with e | hx2
   .exact e ▸ hab
   .have h3 := (List.pairwise_cons.1 h'.2).1 x hx2
    unfold leE at h3
    unfold ltE at *
    omega
theorem xxc {l : List Edg} (h : xz6 l) : l.Pairwise leE := by
 rw [List.pairwise_iff_getElem]
 intro i j hi hj hij
 have := h i j hij hj
 unfold leE
 intro h2
 have := (x4t _ _).2 h2
 simp_all
theorem xju {a m : Nat} : x ∈ x0p S a m ↔ x.fr = a /\ ∃ b : Nat, b < m /\ x.tt = b /\ xbx S a b = true := by
 unfold x0p
 rw [List.mem_map]
 constructor
 .rintro ⟨b, hb, rfl⟩
  rw [List.mem_filter, List.mem_range] at hb
  exact ⟨rfl, b, hb.1, rfl, hb.2⟩
 .rintro ⟨h1, b, hb, h2, h3⟩
  exact ⟨b, by rw [List.mem_filter, List.mem_range]; exact ⟨hb, h3⟩, by cases x; simp at h1 h2; simp [h1, h2]⟩
theorem xor (S : SysD) (a : Nat) : ∀ m, (x0p S a m).Pairwise ltE
 | 0 => by simp [x0p]
 | m + 1 => by
  rw [xzr, List.pairwise_append]
  refine ⟨xor S a m, by split <;> simp, fun x hx y hy => ?_⟩
  obtain ⟨h1, b, hb, h2, _⟩ := xju.1 hx
  split at hy
  .simp at hy
   subst hy
   unfold ltE
   simp only
   omega
  .simp at hy
theorem xjq : x ∈ x1k S n k ↔ ∃ a b : Nat, a < k /\ b < n /\ x = ⟨a, b⟩ /\ xbx S a b = true := by
 unfold x1k
 rw [List.mem_flatMap]
 constructor
 .rintro ⟨a, ha, hx⟩
  obtain ⟨h1, b, hb, h2, h3⟩ := xju.1 hx
  exact ⟨a, b, List.mem_range.1 ha, hb, by cases x; simp at h1 h2; simp [h1, h2], h3⟩
 .rintro ⟨a, b, ha, hb, rfl, h3⟩
  exact ⟨a, List.mem_range.2 ha, xju.2 ⟨rfl, b, hb, rfl, h3⟩⟩
theorem xk3 (S : SysD) (n : Nat) : ∀ k, (x1k S n k).Pairwise ltE
 | 0 => by simp [x1k]
 | k + 1 => by
  rw [xxi, List.pairwise_append]
  refine ⟨xk3 S n k, xor S k n, fun x hx y hy => ?_⟩
  obtain ⟨a, b, ha, hb, rfl, _⟩ := xjq.1 hx
  obtain ⟨h1, _⟩ := xju.1 hy
  unfold ltE
  simp only
  omega
theorem xtl : ∀ {cs : List Chn} {x : Edg}, x ∈ xk5 cs ↔ ∃ c ∈ cs, xfd x.fr x.tt c = true
 | [], x => by simp [xk5]
 | c :: r, x => by
  have ih := xtl (cs := r) (x := x)
  rw [xk5, List.mem_append, ih]
  have hc : x ∈ chE c ↔ xfd x.fr x.tt c = true := by
   obtain ⟨kd, fr, tt⟩ := c
   obtain ⟨xf, xt⟩ := x
   unfold chE xfd
   by_cases h : kd = 2
   .simp [h]
    omega
   .simp [h]
    omega
  simp [hc]
def x2e (S : SysD) : Prop := ∀ c ∈ S.chans, 0 <= c.fr /\ c.fr < S.parts.length /\ 0 <= c.tt /\ c.tt < S.parts.length
theorem xs7 (hE : x2e S) {l : List Edg} (h : xzd S.chans l) : l = xcq S := by
 obtain ⟨r, hperm, hrise, rfl⟩ := h
 refine xm7 _ _ (xp8 _ (xxc hrise)) (xk3 S _ _) fun x => ?_
 rw [xnw, hperm.mem_iff, xtl, xcq, xjq]
 constructor
 .rintro ⟨c, hc, hl⟩
  obtain ⟨e1, e2, e3, e4⟩ := hE c hc
  have hx : 0 <= x.fr /\ x.fr < S.parts.length /\ 0 <= x.tt /\ x.tt < S.parts.length := by
   unfold xfd at hl
   simp at hl
   omega
  refine ⟨x.fr.toNat, x.tt.toNat, by omega, by omega, by cases x; simp at hx; simp; omega, ?_⟩
  rw [Int.toNat_of_nonneg hx.1, Int.toNat_of_nonneg hx.2.2.1]
  exact List.any_eq_true.2 ⟨c, hc, hl⟩
 .rintro ⟨a, b, ha, hb, rfl, hl⟩
  obtain ⟨c, hc, h2⟩ := List.any_eq_true.1 hl
  exact ⟨c, hc, h2⟩
open Go.RowKit Go.Sort Go.Shelf Go.Lib Go.Maps
theorem x51 : Keyed Tryz.prog 3 := int_keyed Tryz.underlying3
theorem x4w (w : World) : (zeroValue 3).run Tryz.prog w = .ok (.int .i64 0) w := by kernel_rfl
abbrev wfI (x : Int) : Prop := (Lit.int .i64 x).wf = true
def SeenM (w : World) (b n : Nat) (V : List (Int × Int)) : Prop :=
 ∃ D : DataW Unit, w.ownsMap Tryz.prog 3 (plainElem Tryz.prog 3) b n D /\ ∀ x, Maps.has D (.int .i64 x) = (V.lookup x).isSome /\ D.atKey (.int .i64 x) (.lit (.int .i64 0)) = .lit (.int .i64 ((V.lookup x).getD 0))
theorem xyv (w : World) : SeenM (w.alloc (.map #[] 0)) w.heap.size 0 [] := ⟨.map [], World.ownsMap_made _ _ _ _, fun x => ⟨rfl, rfl⟩⟩
theorem SeenM.lt {V : List (Int × Int)} (h : SeenM w b n V) : b < w.heap.size := let ⟨_, h, _⟩ := h; h.lt
theorem SeenM.kept {V : List (Int × Int)} (h : SeenM w b n V) (hg : w.grownBy w' row) (hne : some b ≠ row) : SeenM w' b n V := let ⟨D, h, r⟩ := h; ⟨D, h.kept hg hne, r⟩
theorem SeenM.alloc {V : List (Int × Int)} (h : SeenM w b n V) (o : Obj) : SeenM (w.alloc o) b n V := let ⟨D, h, r⟩ := h; ⟨D, h.alloc o, r⟩
theorem SeenM.up {V : List (Int × Int)} (h : SeenM w b n V) (hb : Below w.heap.size w w') : SeenM w' b n V := by
 have hl := h.lt
 obtain ⟨D, ⟨es, clock, h1, h2⟩, r⟩ := h
 exact ⟨D, ⟨es, clock, by rw [hb.block _ hl]; exact h1, h2⟩, r⟩
theorem x0w {D : DataW Unit} {V : List (Int × Int)} {x y : Int} (hm : IsMap D) (hn : V.lookup x = none)
  (h : ∀ x, Maps.has D (.int .i64 x) = (V.lookup x).isSome /\ D.atKey (.int .i64 x) (.lit (.int .i64 0)) = .lit (.int .i64 ((V.lookup x).getD 0))) :
  ∀ z, Maps.has (D.put (.int .i64 x) (.lit (.int .i64 y))) (.int .i64 z) = ((V ++ [(x, y)]).lookup z).isSome /\ (D.put (.int .i64 x) (.lit (.int .i64 y))).atKey (.int .i64 z) (.lit (.int .i64 0)) = .lit (.int .i64 (((V ++ [(x, y)]).lookup z).getD 0)) := by
 intro z
 rw [List.lookup_append]
 by_cases e : z = x
 .subst e
  rw [hn, Maps.has_put_same hm (by trivial), Maps.atKey_put_same hm (by trivial)]
  simp
 .have hne : (Lit.int .i64 z) ≠ .int .i64 x := fun h => e (by injection h)
  rw [Maps.has_put_other hne, Maps.atKey_put_other hne, (h z).1, (h z).2]
  have : (List.lookup z [(x, y)]) = none := by simp [e]
  rw [this, Option.or_none]
  exact ⟨rfl, rfl⟩
section
variable {w : World} {ops : Array Oper} {rest : List Oper} {o : Oper} {a : Act} {Q : Exit -> Act -> World -> Prop}
theorem xgn (hg : o.guard = none) (m x v : Operand) (hop : o.op = Op.mapUpdate 197 m x v \/ o.op = Op.insert 197 m x v) (b n : Nat) (V : List (Int × Int)) (hm : a.eval m = .map (some b)) (hown : SeenM w b n V) (hn : n < 1000)
  (kx ky : Int) (hx : a.eval x = .int .i64 kx) (hv : a.eval v = .int .i64 ky) (wx : wfI kx) (wy : wfI ky) (hnew : V.lookup kx = none)
  (hK : ∀ w', SeenM w' b (n + 1) (V ++ [(kx, ky)]) -> w.grownBy w' (some b) -> wpList Tryz.prog ops Q rest (a.put o.dst undef) w') : wpList Tryz.prog ops Q (o :: rest) a w := by
 obtain ⟨D, h1, h2⟩ := hown
 refine wpList_plain hg fun K' hK' => ?_
 obtain ⟨w', hrun, r1, r2⟩ := h1.update x51 Tryz.underlying197 (by unfold maxLen; omega) (keyOf_int_mk Tryz.underlying3 wx) (plainElem_int Tryz.underlying3 wy)
 have hfin := hK w' ⟨_, r1, x0w h1.isMap hnew h2⟩ r2
 unfold Oper.wp
 rcases hop with hop | hop
 .simp [execOp, hop, hm, hx, hv, hrun, Result.andThen]
  exact hK' _ _ hfin
 .simp [execOp, hop, hm, hx, hv, hrun, Result.andThen]
  exact hK' _ _ hfin
theorem xg8 (hg : o.guard = none) (m x : Operand) (hop : o.op = Op.lookup 197 m x true) (b n : Nat) (V : List (Int × Int)) (hm : a.eval m = .map (some b)) (hown : SeenM w b n V)
  (kx : Int) (hx : a.eval x = .int .i64 kx) (wx : wfI kx)
  (hK : wpList Tryz.prog ops Q rest (a.put o.dst (.tuple #[.int .i64 ((V.lookup kx).getD 0), .bool (V.lookup kx).isSome])) w) : wpList Tryz.prog ops Q (o :: rest) a w := by
 obtain ⟨D, h1, h2⟩ := hown
 refine wpList_lookup_own_ok_int _ hg m x _ hop 3 3 .i64 x51 Tryz.underlying197 Tryz.underlying3 (x4w _) b n D hm h1 _ _ hx (keyOf_int_mk Tryz.underlying3 wx) ?_
 intro c hat _
 rw [(h2 kx).2] at hat
 have : (V.lookup kx).getD 0 = c := by injection hat with hat; injection hat
 rw [(h2 kx).1, <- this]
 exact hK
theorem xl5 (hg : o.guard = none) (m x : Operand) (hop : o.op = Op.lookup 197 m x false) (b n : Nat) (V : List (Int × Int)) (hm : a.eval m = .map (some b)) (hown : SeenM w b n V)
  (kx : Int) (hx : a.eval x = .int .i64 kx) (wx : wfI kx)
  (hK : wpList Tryz.prog ops Q rest (a.put o.dst (.int .i64 ((V.lookup kx).getD 0))) w) : wpList Tryz.prog ops Q (o :: rest) a w := by
 obtain ⟨D, h1, h2⟩ := hown
 refine wpList_lookup_own_int _ hg m x _ hop 3 3 .i64 x51 Tryz.underlying197 Tryz.underlying3 (x4w _) b n D hm h1 _ _ hx (keyOf_int_mk Tryz.underlying3 wx) ?_
 intro c hat _
 rw [(h2 kx).2] at hat
 have : (V.lookup kx).getD 0 = c := by injection hat with hat; injection hat
 rw [<- this]
 exact hK
end
def x42 : Value -> Nat
 | .slice _ n _ => n
 | _ => 0
inductive Back (V : List (Int × Int)) : Int -> List Int -> Prop
 | root {x : Int} (h : V.lookup x = some x) : Back V x [x]
 | step {x y : Int} {p : List Int} (h : V.lookup x = some y) (hne : y ≠ x) (hp : Back V y p) : Back V x (x :: p)
theorem Back.head {V : List (Int × Int)} {x : Int} {p : List Int} (h : Back V x p) : ∃ r, p = x :: r := by cases h <;> exact ⟨_, rfl⟩
theorem Back.cases {V : List (Int × Int)} {x : Int} {r : List Int} (h : Back V x (x :: r)) : (r = [] /\ V.lookup x = some x) \/ ∃ y r', r = y :: r' /\ V.lookup x = some y /\ y ≠ x /\ Back V y (y :: r') := by
 cases h with
 | root h => exact .inl ⟨rfl, h⟩
 | step h hne hp =>
  obtain ⟨r', rfl⟩ := hp.head
  exact .inr ⟨_, r', rfl, h, hne, hp⟩
theorem xex {ops : Array Oper} {rest : List Oper} {o : Oper} {a : Act} {Q : Exit -> Act -> World -> Prop} (hg : o.guard = none) (m x : Operand) (hop : o.op = Op.lookup 197 m x false) (b n : Nat) (V : List (Int × Int)) (hm : a.eval m = .map (some b)) (hown : SeenM w b n V)
  (kx ky : Int) (hx : a.eval x = .int .i64 kx) (wx : wfI kx) (hk : V.lookup kx = some ky)
  (hK : wpList Tryz.prog ops Q rest (a.put o.dst (.int .i64 ky)) w) : wpList Tryz.prog ops Q (o :: rest) a w :=
 xl5 hg m x hop b n V hm hown kx hx wx (by rw [hk]; exact hK)
theorem xzq (h : w.ownsRow base 3 1 (.slice (some ⟨g, 0, none⟩) zs.length cap) zs.length (xar zs)) : Holds (Value.int .i64) w g 0 zs.toArray := by
 rcases h.2 with ⟨e0, _⟩ | ⟨g', cap', cur, e0, hg, hh, r⟩
 .cases e0
 .cases e0
  intro j hj
  have hj' : j < zs.length := by simpa using hj
  obtain ⟨r1, r2, r3, r4⟩ := r
  have hs := xa7 h
  obtain ⟨b, off, cap'', e, hcap, hb, hc⟩ := hs.open om
  cases e
  refine ⟨?_, ?_⟩
  .rw [hc j (.int .i64 zs[j]) (by simp [xar, hj'])]
   simp [hj']
  .have hf := (show Rw w g 3 cur from hh).fr (0 + j)
   exact hf
theorem x3h (h : w.ownsRow base 3 1 (.slice (some ⟨g, 0, none⟩) zs.length cap) zs.length (xar zs)) (h0 : zs.length <= 1000) :
  Calls Tryz.prog 174 #[.slice (some ⟨g, 0, none⟩) zs.length cap] w fun e w' => e = .returned (.tuple #[]) /\ Sl w' 1 (.slice (some ⟨g, 0, none⟩) zs.length cap) zs.reverse.length (xar zs.reverse) /\ ∀ B, B <= g -> Below B w w' := by
 have hH := xzq h
 have hlt := (h.lt g rfl).2
 refine (Tryz.slices_Reverse_int g 0 cap zs w hH om).mono ?_
 rintro e w' ⟨rfl, n, rfl⟩
 have hH2 : Holds (Value.int .i64) (putRow (Value.int .i64) (Sort.ahead w n) g 0 zs.reverse.toArray) g 0 zs.reverse.toArray := holds_putRow _ _ _ _ zs.toArray _ (holds_ahead _ w n g 0 _ hH) (by simp)
 obtain ⟨_, ao, cap', e, hcap, _⟩ := xa7 h
 cases e
 refine ⟨rfl, ⟨by simp [xar], some ⟨g, 0, none⟩, cap, by simp, by simpa using hcap, fun _ => ⟨g, 0, rfl, by simp; exact hlt, fun j u hj => ?_⟩⟩, fun B hB => ⟨rfl, rfl, rfl, by simp [Sort.ahead], fun k hk => ?_⟩⟩
 .have hjl : j < zs.reverse.length := by
   have := (List.getElem?_eq_some_iff.1 hj).1
   simpa [xar] using this
  rw [(hH2 j (by simpa using hjl)).1]
  rw [<- hj]
  simp at hjl
  simp [xar, hjl]
 .show (w.heap.modify g _)[k]? = _
  rw [Array.getElem?_modify, if_neg om]
theorem xwi (w : World) (x : Int) : (w.alloc (.cells #[.int .i64 x] 3)).ownsRow w.heap.size 3 1 (.slice (some ⟨w.heap.size, 0, none⟩) 1 1) 1 (xar [x]) :=
 ⟨rfl, .inr ⟨w.heap.size, 1, #[.int .i64 x], rfl, Nat.le_refl _, (Rw.new w _ _ rfl : Rw _ _ _ _), Nat.le_refl _, by unfold maxLen; omega, rfl, rfl⟩⟩
theorem xx4 (V : List (Int × Int)) (b n : Nat) (x0 : Int) (p : List Int) (hp : Back V x0 p) (hwf : ∀ y ∈ p, wfI y) (hl : p.length <= 1000) (w : World) (hM : SeenM w b n V) :
  Calls Tryz.prog 124 #[.map (some b), .int .i64 x0] w fun e w' => ∃ v, e = .returned v /\ Sl w' 1 v p.reverse.length (xar p.reverse) /\ Below w.heap.size w w' := by
 obtain ⟨i1, hi1, hy0, hy1, hy2⟩ := xaj xrd
 have hbl := hM.lt
 have HM := hd hM
 have HWF := hd hwf
 obtain ⟨r0, hr0⟩ := hp.head
 subst hr0
 have HP := hd hp
 clear hM hwf hp
 go_enter Tryz.func124, Tryz.ntmps124
 go_wp2
 go_loopw [6, 5] (fun at_ l wr => ∃ (x : Int) (done rest : List Int), at_ = .int .i64 x /\ Hid (Back V x (x :: rest)) /\ Hid (done ++ x :: rest = x0 :: r0) /\ Hid (wr.ownsRow w.heap.size 3 1 l (done ++ [x]).length (xar (done ++ [x]))) /\ Hid (SeenM wr b n V) /\ Hid (Below w.heap.size w wr)) (fun _ l _ => (x0 :: r0).length - x42 l)
 case atStart => exact ⟨x0, [], r0, rfl, HP, hd rfl, hd (xwi w x0), hd (HM.out.alloc _), up0⟩
 case round =>
  obtain ⟨x, done, rest, rfl, HP2, HE, HO, HM2, HB⟩ := hrel
  have hwx : wfI x := HWF.out x (by rw [<- HE.out]; simp)
  obtain ⟨a3, c3, hform⟩ := xaq HO.out
  subst hform
  have hws := HB.out.size
  rcases HP2.out.cases with ⟨hr, hlk⟩ | ⟨y, r', hr, hlk, hne, hb2⟩
  .subst hr
   clear HP2
   have hO := HO.out
   rw [HE.out] at hO
   have hln : (done ++ [x]).length = (x0 :: r0).length := by rw [HE.out]
   rw [hln]
   obtain ⟨g, cap, hv, hgw⟩ : ∃ g cap, Value.slice a3 (x0 :: r0).length c3 = .slice (some ⟨g, 0, none⟩) (x0 :: r0).length cap /\ w.heap.size <= g := by
    rcases hO.2 with ⟨_, e0⟩ | ⟨g, cap, cur, e0, hg, _⟩
    .simp at e0
    .exact ⟨g, cap, e0, hg⟩
   cases hv
   have HO2 := hd hO
   clear hO HO
   go_wp2_with (first | (at_lookup; refine xex rfl _ _ rfl b n V rfl HM2.out x x rfl hwx hlk ?_) | (go_at_call 174; refine (x3h HO2.out hl).mono ?_; rintro e w2 ⟨rfl, hsl, hbel⟩))
   go_ret
   exact ⟨_, rfl, hsl, HB.out.trans (hbel _ hgw)⟩
  .subst hr
   have hwy : wfI y := HWF.out y (by rw [<- HE.out]; simp)
   have HN := hd hb2
   have HLL : Hid ((done ++ [x]).length <= 1000) := hd (by have h := congrArg List.length HE.out; simp at h hl ⊢; omega)
   have HLT : Hid ((done ++ [x]).length < (x0 :: r0).length) := hd (by have h := congrArg List.length HE.out; simp at h ⊢; omega)
   have HO3 := hd (HO.out.alloc (.cells #[.int .i64 y] 3))
   have HE2 : Hid ((done ++ [x]) ++ y :: r' = x0 :: r0) := hd (by rw [<- HE.out]; simp)
   clear HP2 hb2 HE
   generalize done ++ [x] = zs at HO HO3 HE2 HLL HLT
   go_wp2_with (first | (at_lookup; refine xex rfl _ _ rfl b n V rfl HM2.out x y rfl hwx hlk ?_) | (at_builtin; refine wpList_append_lies _ rfl (.tmp 18) (.tmp 22) 41 rfl w.heap.size 3 i1 (.int .i64 0) 1 8 Tryz.underlying41 hi1 hy0 hy1 hy2 rfl (by decide) _ zs.length (xar zs) rfl HO3.out ⟨wr.heap.size, 0, none⟩ 1 1 [.int .i64 y] rfl rfl (xbs _ _ _ _ rfl) (xfe _) (by decide) (by have := HLL.out; unfold maxLen; omega) (by have := HLL.out; omega) so _ rfl ?_; intro g4 cap4 W4 hown hgrow hat hg4; have R := xlm HB.out HO.out hown hgrow; have HM4 := hd ((HM2.out.alloc _).kept hgrow (fun e => by have := xab HO3.out _ e.symm; omega)); have HO4 := hd R.1; have HB4 := hd R.2; clear R hown hgrow hat) | (at_lookup; refine xex rfl _ _ rfl b n V rfl HM4.out x y rfl hwx hlk ?_))
   go_roundw
   case rel => exact ⟨y, zs, r', rfl, HN, HE2, HO4, HM4, HB4⟩
   case measure => simp only [x42]; have := HLT.out; simp at this ⊢; omega
end Go.Proofs.YtbkdoohhdkahiaaGreatDoor
